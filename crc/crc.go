// Package crc is layer 1: a sum of bytes. See shared/doc/01-crc.md.
package crc

// shifted[i] is what four of the document's single-bit steps make of the
// number i: with it a half of a byte is taken at once.
var shifted = [16]uint32{
	0x00000000, 0x1DB71064, 0x3B6E20C8, 0x26D930AC,
	0x76DC4190, 0x6B6B51F4, 0x4DB26158, 0x5005713C,
	0xEDB88320, 0xF00F9344, 0xD6D6A3E8, 0xCB61B38C,
	0x9B64C2B0, 0x86D3D2D4, 0xA00AE278, 0xBDBDF21C,
}

// More: the sum of bytes whose sum is known, and of others behind them.
func More(sum uint32, b []byte) uint32 {
	// The bits are turned at the end of a sum: turned back, it goes on where it stopped.
	word := ^sum
	for _, c := range b {
		word ^= uint32(c)
		for range 2 {
			word = word>>4 ^ shifted[word&15]
		}
	}
	return ^word
}

// Sum: the sum of bytes.
func Sum(b []byte) uint32 {
	// Nothing has the sum 0, so every text is what stands behind nothing.
	return More(0, b)
}
