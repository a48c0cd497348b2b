/- What lies there while a message is read. No law is proved here. -/
import Derived.Test.YtfpadcfahfanoaaMailLook
import Derived.Test.YtfpadcfahfanoaaMg28
namespace Go.Proofs.Ytfpadcfahfanoaa
open Go.RowKit

/-- books behind B stay -/
theorem BooksFar.stay {B : Nat} {w w' : World} {v : Value} {l : List Rw} (h : BooksFar B w v l) (hs : w.heap.size ≤ w'.heap.size) (hg : ∀ g, B ≤ g → g < w.heap.size → w'.heap[g]? = w.heap[g]?) : BooksFar B w' v l :=
  ⟨h.2 _ hs hg, fun W h1 h2 => h.2 W (Nat.le_trans hs h1) fun g h3 h4 => (h2 g h3 (Nat.lt_of_lt_of_le h4 hs)).trans (hg g h3 h4)⟩
theorem BooksFar.rdW {B gr : Nat} {w : World} {v u : Value} {l : List Rw} {p : Addr} {x : Int} {b : Bool} (h : BooksFar B w v l) (hp : p.block < B) (hg : gr < B) : BooksFar B (rdW gr p x u b w) v l :=
  ((h.other hp _).other (p := ⟨gr, 0, none⟩) hg _).other (p := ⟨gr, 1, none⟩) hg _
theorem BooksFar.butR {B gr : Nat} {w w' : World} {v : Value} {l : List Rw} (h : BooksFar B w v l) (k : ButR gr w w') (hg : gr < B) : BooksFar B w' v l := h.stay k.1 fun g h1 h2 => k.2 g h2 (by omega)
/-- what lies there: z is where the lists of looks lies -/
structure TkSt (w : World) (z : Nat) (c : Cf) (M : Nat) (s : List Int × Bool) (x : Ml) (rv : Value) (u8 u9 u10 u11 : Int) (ec : Array Value) (W : World) : Prop where
  rd : RdSt w (z + 1 + 1) s W
  cf : Whole W w.heap.size 23 (cfCells c)
  res : Whole W (w.heap.size + 1) 35 (mlCells ml0 (.slice none 0 0) (.slice none 0 0))
  ml : Whole W (z + 1) 35 (mlCells x rv (.slice (some ⟨z, 0, none⟩) M M))
  b8 : Whole W (z + 1 + 1 + 1) 2 #[.int .i64 u8]
  b9 : Whole W (z + 1 + 1 + 1 + 1) 2 #[.int .i64 u9]
  b10 : Whole W (z + 1 + 1 + 1 + 1 + 1) 2 #[.int .i64 u10]
  b11 : Whole W (z + 1 + 1 + 1 + 1 + 1 + 1) 2 #[.int .i64 u11]
  ec : Whole W z 32 ec
  low : w.heap.size + 1 < z
section
variable {w W W' : World} {z M : Nat} {c : Cf} {s s' : List Int × Bool} {x : Ml} {rv : Value} {u8 u9 u10 u11 : Int} {ec : Array Value}
theorem TkSt.later (h : TkSt w z c M s x rv u8 u9 u10 u11 ec W) (hb : Below W.heap.size W W') : TkSt w z c M s x rv u8 u9 u10 u11 ec W' :=
  ⟨h.rd.later hb, h.cf.later hb h.cf.lt, h.res.later hb h.res.lt, h.ml.later hb h.ml.lt, h.b8.later hb h.b8.lt, h.b9.later hb h.b9.lt, h.b10.later hb h.b10.lt, h.b11.later hb h.b11.lt, h.ec.later hb h.ec.lt, h.low⟩
theorem TkSt.butR (h : TkSt w z c M s x rv u8 u9 u10 u11 ec W) (k : ButR (z + 1 + 1) W W') (hr : RdSt w (z + 1 + 1) s' W') : TkSt w z c M s' x rv u8 u9 u10 u11 ec W' := by
  have hl := h.low
  exact ⟨hr, k.whole h.cf (by omega), k.whole h.res (by omega), k.whole h.ml (by omega), k.whole h.b8 (by omega), k.whole h.b9 (by omega), k.whole h.b10 (by omega), k.whole h.b11 (by omega), k.whole h.ec (by omega), hl⟩
theorem RdSt.rdW {w0 W : World} {gr : Nat} {p : Addr} {y : Int} {v : Value} (h : RdSt w0 gr s W) (hg : GoodB w0 v s'.1) (hp : p.block ≠ gr) (hw : w0.heap.size ≤ gr) (hw2 : w0.heap.size ≤ p.block) : RdSt w0 gr s' (rdW gr p y v s'.2 W) := by
  obtain ⟨h0, u, h1, h2⟩ := h
  exact ⟨rdW_below h0 hw hw2, v, rdW_reader h1 hp, hg⟩
theorem TkSt.r8 {y : Int} {v : Value} (h : TkSt w z c M s x rv u8 u9 u10 u11 ec W) (hg : GoodB w v s'.1) : TkSt w z c M s' x rv y u9 u10 u11 ec (rdW (z + 1 + 1) ⟨z + 1 + 1 + 1, 0, none⟩ y v s'.2 W) := by
  have hl := h.low
  exact ⟨h.rd.rdW hg (by show z + 1 + 1 + 1 ≠ _; omega) (by omega) (by show _ ≤ z + 1 + 1 + 1; omega), rdW_other h.cf (by omega) (by show _ ≠ z + 1 + 1 + 1; omega), rdW_other h.res (by omega) (by show _ ≠ z + 1 + 1 + 1; omega), rdW_other h.ml (by omega) (by show _ ≠ z + 1 + 1 + 1; omega),
    rdW_at h.b8 (by omega), rdW_other h.b9 (by omega) (by show _ ≠ z + 1 + 1 + 1; omega), rdW_other h.b10 (by omega) (by show _ ≠ z + 1 + 1 + 1; omega), rdW_other h.b11 (by omega) (by show _ ≠ z + 1 + 1 + 1; omega), rdW_other h.ec (by omega) (by show _ ≠ z + 1 + 1 + 1; omega), hl⟩
theorem TkSt.r9 {y : Int} {v : Value} (h : TkSt w z c M s x rv u8 u9 u10 u11 ec W) (hg : GoodB w v s'.1) : TkSt w z c M s' x rv u8 y u10 u11 ec (rdW (z + 1 + 1) ⟨z + 1 + 1 + 1 + 1, 0, none⟩ y v s'.2 W) := by
  have hl := h.low
  exact ⟨h.rd.rdW hg (by show z + 1 + 1 + 1 + 1 ≠ _; omega) (by omega) (by show _ ≤ z + 1 + 1 + 1 + 1; omega), rdW_other h.cf (by omega) (by show _ ≠ z + 1 + 1 + 1 + 1; omega), rdW_other h.res (by omega) (by show _ ≠ z + 1 + 1 + 1 + 1; omega), rdW_other h.ml (by omega) (by show _ ≠ z + 1 + 1 + 1 + 1; omega),
    rdW_other h.b8 (by omega) (by show _ ≠ z + 1 + 1 + 1 + 1; omega), rdW_at h.b9 (by omega), rdW_other h.b10 (by omega) (by show _ ≠ z + 1 + 1 + 1 + 1; omega), rdW_other h.b11 (by omega) (by show _ ≠ z + 1 + 1 + 1 + 1; omega), rdW_other h.ec (by omega) (by show _ ≠ z + 1 + 1 + 1 + 1; omega), hl⟩
theorem TkSt.r10 {y : Int} {v : Value} (h : TkSt w z c M s x rv u8 u9 u10 u11 ec W) (hg : GoodB w v s'.1) : TkSt w z c M s' x rv u8 u9 y u11 ec (rdW (z + 1 + 1) ⟨z + 1 + 1 + 1 + 1 + 1, 0, none⟩ y v s'.2 W) := by
  have hl := h.low
  exact ⟨h.rd.rdW hg (by show z + 1 + 1 + 1 + 1 + 1 ≠ _; omega) (by omega) (by show _ ≤ z + 1 + 1 + 1 + 1 + 1; omega), rdW_other h.cf (by omega) (by show _ ≠ z + 1 + 1 + 1 + 1 + 1; omega), rdW_other h.res (by omega) (by show _ ≠ z + 1 + 1 + 1 + 1 + 1; omega), rdW_other h.ml (by omega) (by show _ ≠ z + 1 + 1 + 1 + 1 + 1; omega),
    rdW_other h.b8 (by omega) (by show _ ≠ z + 1 + 1 + 1 + 1 + 1; omega), rdW_other h.b9 (by omega) (by show _ ≠ z + 1 + 1 + 1 + 1 + 1; omega), rdW_at h.b10 (by omega), rdW_other h.b11 (by omega) (by show _ ≠ z + 1 + 1 + 1 + 1 + 1; omega), rdW_other h.ec (by omega) (by show _ ≠ z + 1 + 1 + 1 + 1 + 1; omega), hl⟩
theorem TkSt.r11 {y : Int} {v : Value} (h : TkSt w z c M s x rv u8 u9 u10 u11 ec W) (hg : GoodB w v s'.1) : TkSt w z c M s' x rv u8 u9 u10 y ec (rdW (z + 1 + 1) ⟨z + 1 + 1 + 1 + 1 + 1 + 1, 0, none⟩ y v s'.2 W) := by
  have hl := h.low
  exact ⟨h.rd.rdW hg (by show z + 1 + 1 + 1 + 1 + 1 + 1 ≠ _; omega) (by omega) (by show _ ≤ z + 1 + 1 + 1 + 1 + 1 + 1; omega), rdW_other h.cf (by omega) (by show _ ≠ z + 1 + 1 + 1 + 1 + 1 + 1; omega), rdW_other h.res (by omega) (by show _ ≠ z + 1 + 1 + 1 + 1 + 1 + 1; omega), rdW_other h.ml (by omega) (by show _ ≠ z + 1 + 1 + 1 + 1 + 1 + 1; omega),
    rdW_other h.b8 (by omega) (by show _ ≠ z + 1 + 1 + 1 + 1 + 1 + 1; omega), rdW_other h.b9 (by omega) (by show _ ≠ z + 1 + 1 + 1 + 1 + 1 + 1; omega), rdW_other h.b10 (by omega) (by show _ ≠ z + 1 + 1 + 1 + 1 + 1 + 1; omega), rdW_at h.b11 (by omega), rdW_other h.ec (by omega) (by show _ ≠ z + 1 + 1 + 1 + 1 + 1 + 1; omega), hl⟩
/-- a part of the message itself -/
theorem TkSt.rm {y : Ml} {i : Nat} {k : Int} {v : Value} (h : TkSt w z c M s x rv u8 u9 u10 u11 ec W) (hg : GoodB w v s'.1) (e : (mlCells x rv (.slice (some ⟨z, 0, none⟩) M M)).setIfInBounds i (.int .i64 k) = mlCells y rv (.slice (some ⟨z, 0, none⟩) M M)) : TkSt w z c M s' y rv u8 u9 u10 u11 ec (rdW (z + 1 + 1) ⟨z + 1, i, none⟩ k v s'.2 W) := by
  have hl := h.low
  exact ⟨h.rd.rdW hg (by show z + 1 ≠ _; omega) (by omega) (by show _ ≤ z + 1; omega), rdW_other h.cf (by omega) (by show _ ≠ z + 1; omega), rdW_other h.res (by omega) (by show _ ≠ z + 1; omega), e ▸ rdW_at h.ml (by omega),
    rdW_other h.b8 (by omega) (by show _ ≠ z + 1; omega), rdW_other h.b9 (by omega) (by show _ ≠ z + 1; omega), rdW_other h.b10 (by omega) (by show _ ≠ z + 1; omega), rdW_other h.b11 (by omega) (by show _ ≠ z + 1; omega), rdW_other h.ec (by omega) (by show _ ≠ z + 1; omega), hl⟩
/-- a cell of the message written -/
theorem TkSt.set {y : Ml} {rv' : Value} {i : Nat} {k : Value} (h : TkSt w z c M s x rv u8 u9 u10 u11 ec W) (e : (mlCells x rv (.slice (some ⟨z, 0, none⟩) M M)).setIfInBounds i k = mlCells y rv' (.slice (some ⟨z, 0, none⟩) M M)) : TkSt w z c M s y rv' u8 u9 u10 u11 ec (W.setCell ⟨z + 1, i, none⟩ k) := by
  have hl := h.low
  exact ⟨h.rd.set (by show _ ≤ z + 1; omega) (by show _ ≠ z + 1; omega) _, h.cf.other (by show _ ≠ z + 1; omega) _, h.res.other (by show _ ≠ z + 1; omega) _, e ▸ h.ml.set i k, h.b8.other (by show _ ≠ z + 1; omega) _, h.b9.other (by show _ ≠ z + 1; omega) _, h.b10.other (by show _ ≠ z + 1; omega) _, h.b11.other (by show _ ≠ z + 1; omega) _, h.ec.other (by show _ ≠ z + 1; omega) _, hl⟩
/-- a cell of the looks written -/
theorem TkSt.sete {i : Nat} {k : Value} (h : TkSt w z c M s x rv u8 u9 u10 u11 ec W) : TkSt w z c M s x rv u8 u9 u10 u11 (ec.setIfInBounds i k) (W.setCell ⟨z, i, none⟩ k) := by
  have hl := h.low
  exact ⟨h.rd.set (by show _ ≤ z; omega) (by show _ ≠ z; omega) _, h.cf.other (by show _ ≠ z; omega) _, h.res.other (by show _ ≠ z; omega) _, h.ml.other (by show _ ≠ z; omega) _, h.b8.other (by show _ ≠ z; omega) _, h.b9.other (by show _ ≠ z; omega) _, h.b10.other (by show _ ≠ z; omega) _, h.b11.other (by show _ ≠ z; omega) _, h.ec.set i k, hl⟩
end
/-- where the parts lie -/
def ps3 (z : Nat) : Nat → Addr
  | 0 => ⟨z + 1 + 1 + 1, 0, none⟩
  | 1 => ⟨z + 1 + 1 + 1 + 1, 0, none⟩
  | _ => ⟨z + 1, 2, none⟩
def ps4 (z : Nat) : Nat → Addr
  | 0 => ⟨z + 1, 4, none⟩
  | 1 => ⟨z + 1 + 1 + 1 + 1 + 1, 0, none⟩
  | 2 => ⟨z + 1, 6, none⟩
  | _ => ⟨z + 1 + 1 + 1 + 1 + 1 + 1, 0, none⟩
/-- all that lies behind the parts stays -/
def FarR (z : Nat) (w w' : World) : Prop := w.heap.size ≤ w'.heap.size ∧ ∀ g, z + 1 + 1 + 1 + 1 + 1 + 1 + 1 ≤ g → g < w.heap.size → w'.heap[g]? = w.heap[g]?
theorem FarR.refl (z : Nat) (w : World) : FarR z w w := ⟨Nat.le_refl _, fun _ _ _ => rfl⟩
theorem FarR.set {z : Nat} {w w' : World} (h : FarR z w w') {p : Addr} (hp : p.block < z + 1 + 1 + 1 + 1 + 1 + 1 + 1) (u : Value) : FarR z w (w'.setCell p u) :=
  ⟨by simp; exact h.1, fun g h1 h2 => (Below.heap_setCell w' p u g (by omega)).trans (h.2 g h1 h2)⟩
theorem FarR.rdW {z : Nat} {w w' : World} (h : FarR z w w') {p : Addr} {y : Int} {v : Value} {b : Bool} (hp : p.block < z + 1 + 1 + 1 + 1 + 1 + 1 + 1) : FarR z w (rdW (z + 1 + 1) p y v b w') :=
  ((h.set hp _).set (p := ⟨z + 1 + 1, 0, none⟩) (by show z + 1 + 1 < _; omega) _).set (p := ⟨z + 1 + 1, 1, none⟩) (by show z + 1 + 1 < _; omega) _
theorem FarR.butR {z : Nat} {w w' : World} (h : ButR (z + 1 + 1) w w') : FarR z w w' := ⟨h.1, fun g h1 h2 => h.2 g h2 (by omega)⟩
theorem BooksFar.farR {z B : Nat} {w w' : World} {v : Value} {l : List Rw} (h : BooksFar B w v l) (k : FarR z w w') (hB : z + 1 + 1 + 1 + 1 + 1 + 1 + 1 ≤ B) : BooksFar B w' v l := h.stay k.1 fun g h1 h2 => k.2 g (by omega) h2
section
variable {w W W' : World} {z M : Nat} {c : Cf} {s s' : List Int × Bool} {x : Ml} {rv : Value} {u8 u9 u10 u11 : Int} {ec : Array Value}
theorem TkSt.nums3 (h : TkSt w z c M s x rv u8 u9 u10 u11 ec W) (hK : RdK w (z + 1 + 1) (ps3 z) s W 3 W') :
    TkSt w z c M (rdS s 3) ⟨x.fr, x.to, rdX s 2, x.rows, x.t, x.a, x.m, x.asks, x.try_, x.ph, x.echo⟩ rv (rdX s 0) (rdX s 1) u10 u11 ec W' ∧ FarR z W W' := by
  obtain ⟨W3, v3, ⟨W2, v2, ⟨W1, v1, e0, g1, e1⟩, g2, e2⟩, g3, e3⟩ := hK
  have e0' : W1 = W := e0
  subst e0'
  have h1 : TkSt w z c M (rdS s 1) x rv (rdX s 0) u9 u10 u11 ec W2 := by rw [e1]; exact h.r8 g1
  have h2 : TkSt w z c M (rdS s 2) x rv (rdX s 0) (rdX s 1) u10 u11 ec W3 := by rw [e2]; exact h1.r9 g2
  have f1 : FarR z W1 W2 := by rw [e1]; exact (FarR.refl z W1).rdW (by show z + 1 + 1 + 1 < _; omega)
  have f2 : FarR z W1 W3 := by rw [e2]; exact f1.rdW (by show z + 1 + 1 + 1 + 1 < _; omega)
  exact ⟨by rw [e3]; exact h2.rm g3 rfl, by rw [e3]; exact f2.rdW (by show z + 1 < _; omega)⟩
theorem TkSt.nums4 (h : TkSt w z c M s x rv u8 u9 u10 u11 ec W) (hK : RdK w (z + 1 + 1) (ps4 z) s W 4 W') :
    TkSt w z c M (rdS s 4) ⟨x.fr, x.to, x.clk, x.rows, rdX s 0, x.a, rdX s 2, x.asks, x.try_, x.ph, x.echo⟩ rv u8 u9 (rdX s 1) (rdX s 3) ec W' ∧ FarR z W W' := by
  obtain ⟨W4, v4, ⟨W3, v3, ⟨W2, v2, ⟨W1, v1, e0, g1, e1⟩, g2, e2⟩, g3, e3⟩, g4, e4⟩ := hK
  have e0' : W1 = W := e0
  subst e0'
  have h1 : TkSt w z c M (rdS s 1) ⟨x.fr, x.to, x.clk, x.rows, rdX s 0, x.a, x.m, x.asks, x.try_, x.ph, x.echo⟩ rv u8 u9 u10 u11 ec W2 := by rw [e1]; exact h.rm g1 rfl
  have h2 : TkSt w z c M (rdS s 2) ⟨x.fr, x.to, x.clk, x.rows, rdX s 0, x.a, x.m, x.asks, x.try_, x.ph, x.echo⟩ rv u8 u9 (rdX s 1) u11 ec W3 := by rw [e2]; exact h1.r10 g2
  have h3 : TkSt w z c M (rdS s 3) ⟨x.fr, x.to, x.clk, x.rows, rdX s 0, x.a, rdX s 2, x.asks, x.try_, x.ph, x.echo⟩ rv u8 u9 (rdX s 1) u11 ec W4 := by rw [e3]; exact h2.rm g3 rfl
  have f1 : FarR z W1 W2 := by rw [e1]; exact (FarR.refl z W1).rdW (by show z + 1 < _; omega)
  have f2 : FarR z W1 W3 := by rw [e2]; exact f1.rdW (by show z + 1 + 1 + 1 + 1 + 1 < _; omega)
  have f3 : FarR z W1 W4 := by rw [e3]; exact f2.rdW (by show z + 1 < _; omega)
  exact ⟨by rw [e4]; exact h3.r11 g4, by rw [e4]; exact f3.rdW (by show z + 1 + 1 + 1 + 1 + 1 + 1 < _; omega)⟩
theorem TkSt.call3 (h : TkSt w z c M s x rv u8 u9 u10 u11 ec W) (hb : Nat) (hz : z + 1 + 1 + 1 + 1 + 1 + 1 < hb) (hH : Whole W hb 50 #[.pointer (some ⟨z + 1 + 1 + 1, 0, none⟩), .pointer (some ⟨z + 1 + 1 + 1 + 1, 0, none⟩), .pointer (some ⟨z + 1, 2, none⟩)]) :
    Calls Try.prog 16 #[.pointer (some ⟨z + 1 + 1, 0, none⟩), .slice (some ⟨hb, 0, none⟩) 3 3] W (fun e w' => e = .returned (.tuple #[]) ∧ TkSt w z c M (rdS s 3) ⟨x.fr, x.to, rdX s 2, x.rows, x.t, x.a, x.m, x.asks, x.try_, x.ph, x.echo⟩ rv (rdX s 0) (rdX s 1) u10 u11 ec w' ∧ FarR z W w') := by
  have hl := h.low
  obtain ⟨h0, v, hv1, hv2⟩ := h.rd
  refine (rdnums_calls w (z + 1 + 1) hb 0 3 (ps3 z) s v _ rfl (by decide) W h0 hv1 hv2 (by omega) ?_ hH ?_ (by omega)).mono ?_
  · intro j hj
    match j, hj with
    | 0, _ => exact ⟨⟨_, 0, _, _, rfl, h.b8, (show 0 < 1 by decide)⟩, by show z + 1 + 1 + 1 ≠ _; omega, by show _ ≤ z + 1 + 1 + 1; omega, by show _ ≠ z + 1 + 1 + 1; omega⟩
    | 1, _ => exact ⟨⟨_, 0, _, _, rfl, h.b9, (show 0 < 1 by decide)⟩, by show z + 1 + 1 + 1 + 1 ≠ _; omega, by show _ ≤ z + 1 + 1 + 1 + 1; omega, by show _ ≠ z + 1 + 1 + 1 + 1; omega⟩
    | 2, _ => exact ⟨⟨_, 2, _, _, rfl, h.ml, (show 2 < 11 by decide)⟩, by show z + 1 ≠ _; omega, by show _ ≤ z + 1; omega, by show _ ≠ z + 1; omega⟩
  · intro j hj
    match j, hj with
    | 0, _ => rfl
    | 1, _ => rfl
    | 2, _ => rfl
  · rintro e w' ⟨rfl, hK⟩
    exact ⟨rfl, h.nums3 hK⟩
theorem TkSt.call4 (h : TkSt w z c M s x rv u8 u9 u10 u11 ec W) (hb : Nat) (hz : z + 1 + 1 + 1 + 1 + 1 + 1 < hb) (hH : Whole W hb 50 #[.pointer (some ⟨z + 1, 4, none⟩), .pointer (some ⟨z + 1 + 1 + 1 + 1 + 1, 0, none⟩), .pointer (some ⟨z + 1, 6, none⟩), .pointer (some ⟨z + 1 + 1 + 1 + 1 + 1 + 1, 0, none⟩)]) :
    Calls Try.prog 16 #[.pointer (some ⟨z + 1 + 1, 0, none⟩), .slice (some ⟨hb, 0, none⟩) 4 4] W (fun e w' => e = .returned (.tuple #[]) ∧ TkSt w z c M (rdS s 4) ⟨x.fr, x.to, x.clk, x.rows, rdX s 0, x.a, rdX s 2, x.asks, x.try_, x.ph, x.echo⟩ rv u8 u9 (rdX s 1) (rdX s 3) ec w' ∧ FarR z W w') := by
  have hl := h.low
  obtain ⟨h0, v, hv1, hv2⟩ := h.rd
  refine (rdnums_calls w (z + 1 + 1) hb 0 4 (ps4 z) s v _ rfl (by decide) W h0 hv1 hv2 (by omega) ?_ hH ?_ (by omega)).mono ?_
  · intro j hj
    match j, hj with
    | 0, _ => exact ⟨⟨_, 4, _, _, rfl, h.ml, (show 4 < 11 by decide)⟩, by show z + 1 ≠ _; omega, by show _ ≤ z + 1; omega, by show _ ≠ z + 1; omega⟩
    | 1, _ => exact ⟨⟨_, 0, _, _, rfl, h.b10, (show 0 < 1 by decide)⟩, by show z + 1 + 1 + 1 + 1 + 1 ≠ _; omega, by show _ ≤ z + 1 + 1 + 1 + 1 + 1; omega, by show _ ≠ z + 1 + 1 + 1 + 1 + 1; omega⟩
    | 2, _ => exact ⟨⟨_, 6, _, _, rfl, h.ml, (show 6 < 11 by decide)⟩, by show z + 1 ≠ _; omega, by show _ ≤ z + 1; omega, by show _ ≠ z + 1; omega⟩
    | 3, _ => exact ⟨⟨_, 0, _, _, rfl, h.b11, (show 0 < 1 by decide)⟩, by show z + 1 + 1 + 1 + 1 + 1 + 1 ≠ _; omega, by show _ ≤ z + 1 + 1 + 1 + 1 + 1 + 1; omega, by show _ ≠ z + 1 + 1 + 1 + 1 + 1 + 1; omega⟩
  · intro j hj
    match j, hj with
    | 0, _ => rfl
    | 1, _ => rfl
    | 2, _ => rfl
    | 3, _ => rfl
  · rintro e w' ⟨rfl, hK⟩
    exact ⟨rfl, h.nums4 hK⟩
theorem TkSt.look (h : TkSt w z c M s x rv u8 u9 u10 u11 ec W) :
    Calls Try.prog 18 #[.pointer (some ⟨z + 1 + 1, 0, none⟩)] W (fun e w' => e = .returned (.agg #[.int .i64 (rdX s 0), .int .i64 (rdX s 1)]) ∧ TkSt w z c M (rdS s 2) x rv u8 u9 u10 u11 ec w' ∧ FarR z W w') :=
  (rdlook_calls w (z + 1 + 1) s W (by have := h.low; omega) h.rd).mono fun _ _ ⟨h1, h2, h3⟩ => ⟨h1, h.butR h3 h2, FarR.butR h3⟩
theorem TkSt.books (h : TkSt w z c M s x rv u8 u9 u10 u11 ec W) :
    Calls Try.prog 17 #[.pointer (some ⟨z + 1 + 1, 0, none⟩), cfV c] W (fun e w' => ∃ A C, e = .returned (.slice A (rdB c s).1.length C) ∧ TkSt w z c M (rdB c s).2 x rv u8 u9 u10 u11 ec w' ∧ BooksFar (z + 1 + 1 + 1 + 1 + 1 + 1 + 1) w' (.slice A (rdB c s).1.length C) (rdB c s).1) :=
  (rdbooks_calls w (z + 1 + 1) c s W (by have := h.low; omega) h.rd).mono fun _ _ ⟨A, C, h1, h2, h3, h4⟩ => ⟨A, C, h1, h.butR h4 h3, h2.mono (by have := h.b11.lt; omega)⟩
end
/-- the first k looks are written -/
def EcOk (s : List Int × Bool) (M k : Nat) (ec : Array Value) : Prop := ec.size = 2 * M ∧ ∀ i, i < k → ec[2 * i]? = some (.int .i64 (rdX s (2 * i))) ∧ ec[2 * i + 1]? = some (.int .i64 (rdX s (2 * i + 1)))
theorem ecOk_zero (s : List Int × Bool) (M : Nat) : EcOk s M 0 (madeCells #[.int .i64 0, .int .i64 0] (M * 2)) := ⟨by rw [size_madeCells]; omega, fun i h => absurd h (by omega)⟩
theorem EcOk.more {s : List Int × Bool} {M k : Nat} {ec : Array Value} (h : EcOk s M k ec) (hk : k < M) : EcOk s M (k + 1) ((ec.setIfInBounds (k * 2) (.int .i64 (rdX (rdS s (2 * k)) 0))).setIfInBounds (k * 2 + 1) (.int .i64 (rdX (rdS s (2 * k)) 1))) := by
  refine ⟨by rw [Array.size_setIfInBounds, Array.size_setIfInBounds]; exact h.1, fun i hi => ?_⟩
  have hs := h.1
  rw [rdX_add, rdX_add]
  by_cases e : i = k
  · subst e
    constructor
    · rw [Array.getElem?_setIfInBounds_ne (by omega), show i * 2 = 2 * i by omega, Array.getElem?_setIfInBounds_self_of_lt (by omega)]; rfl
    · rw [show i * 2 + 1 = 2 * i + 1 by omega, Array.getElem?_setIfInBounds_self_of_lt (by rw [Array.size_setIfInBounds]; omega)]
  · obtain ⟨h1, h2⟩ := h.2 i (by omega)
    rw [Array.getElem?_setIfInBounds_ne (by omega), Array.getElem?_setIfInBounds_ne (by omega), Array.getElem?_setIfInBounds_ne (by omega), Array.getElem?_setIfInBounds_ne (by omega)]
    exact ⟨h1, h2⟩
theorem EcOk.looks {w : World} {z M : Nat} {s : List Int × Bool} {ec : Array Value} (hM : M ≤ 1000) (h : EcOk s M M ec) (hw : Whole w z 32 ec) : Looks w (.slice (some ⟨z, 0, none⟩) M M) ((List.range M).map fun i => (rdX s (2 * i), rdX s (2 * i + 1))) := by
  refine ⟨by rw [List.length_map, List.length_range]; omega, Or.inr ⟨z, 0, M, by rw [List.length_map, List.length_range], by rw [List.length_map, List.length_range]; exact Nat.le_refl _, fun i j hi hj => ?_⟩⟩
  rw [List.length_map, List.length_range] at hi
  have e : lkAt ((List.range M).map fun i => (rdX s (2 * i), rdX s (2 * i + 1))) i = (rdX s (2 * i), rdX s (2 * i + 1)) := by unfold lkAt; rw [List.getElem?_map, List.getElem?_range hi]; rfl
  rw [hw.cell]
  show _ = some (lkc (lkAt ((List.range M).map fun i => (rdX s (2 * i), rdX s (2 * i + 1))) i) j)
  rw [e]
  obtain ⟨h1, h2⟩ := h.2 i hi
  match j, hj with
  | 0, _ => rw [show 0 + (i * 2 + 0) = 2 * i by omega]; exact h1
  | 1, _ => rw [show 0 + (i * 2 + 1) = 2 * i + 1 by omega]; exact h2
theorem take_world (w1 : World) (A B C D E F G H : Array Value) : ∃ W4, (((((((w1.alloc (.cells A 32)).alloc (.cells B 35)).alloc (.cells C 48)).alloc (.cells D 2)).alloc (.cells E 2)).alloc (.cells F 2)).alloc (.cells G 2)).alloc (.cells H 50) = W4 ∧
    Whole W4 w1.heap.size 32 A ∧ Whole W4 (w1.heap.size + 1) 35 B ∧ Whole W4 (w1.heap.size + 1 + 1) 48 C ∧ Whole W4 (w1.heap.size + 1 + 1 + 1) 2 D ∧ Whole W4 (w1.heap.size + 1 + 1 + 1 + 1) 2 E ∧ Whole W4 (w1.heap.size + 1 + 1 + 1 + 1 + 1) 2 F ∧ Whole W4 (w1.heap.size + 1 + 1 + 1 + 1 + 1 + 1) 2 G ∧ Whole W4 (w1.heap.size + 1 + 1 + 1 + 1 + 1 + 1 + 1) 50 H ∧ Below w1.heap.size w1 W4 :=
  ⟨_, rfl, (((((((Whole.made w1 _ _).alloc _).alloc _).alloc _).alloc _).alloc _).alloc _).alloc _, ((((((Whole.made2 w1 _ _ _).alloc _).alloc _).alloc _).alloc _).alloc _).alloc _, (((((Whole.madeAt _ _ _ _ (by simp)).alloc _).alloc _).alloc _).alloc _).alloc _, ((((Whole.madeAt _ _ _ _ (by simp)).alloc _).alloc _).alloc _).alloc _, (((Whole.madeAt _ _ _ _ (by simp)).alloc _).alloc _).alloc _, ((Whole.madeAt _ _ _ _ (by simp)).alloc _).alloc _, (Whole.madeAt _ _ _ _ (by simp)).alloc _, Whole.madeAt _ _ _ _ (by simp),
    ((((((below_two w1 _ _).alloc (by simp; omega) _).alloc (by simp; omega) _).alloc (by simp; omega) _).alloc (by simp; omega) _).alloc (by simp; omega) _).alloc (by simp; omega) _⟩
end Go.Proofs.Ytfpadcfahfanoaa
