/- Merged texts: MailGo, Bytes. No law is proved here. -/
import Derived.Test.YtfpadcfahfanoaaMg9
import Derived.IntWalk
import Derived.Test.YtfpadcfahfanoaaMg0
import Derived.ArgAppend
import Derived.Laws.BytesArg
import Derived.Lib.AppendStr
import Derived.Lib.ConvBytes
import Derived.Deep.Draws
/- A message read number by number, whatever goes wrong: mathematics. No program in it. No law is proved here. -/
namespace Go.Proofs.Ytfpadcfahfanoaa
open Go.RowKit

open Classical in
/-- the number with which bytes begin, as it is taken, and what is left: the bytes behind it, and whether something was wrong -/
noncomputable def rd1 (s : List Int × Bool) : Int × (List Int × Bool) := if h : ∃ x : Nat × List Int, PackMath.Begins s.1 x.1 x.2 then (IntKind.i64.wrap (h.choose.1 : Int), (h.choose.2, s.2)) else (0, ([], true))
theorem rd1_yes {zs rest : List Int} {v : Nat} {b : Bool} (h : PackMath.Begins zs v rest) : rd1 (zs, b) = (IntKind.i64.wrap (v : Int), (rest, b)) := by
  have hex : ∃ x : Nat × List Int, PackMath.Begins (zs, b).1 x.1 x.2 := ⟨(v, rest), h⟩
  unfold rd1
  rw [dif_pos hex]
  obtain ⟨e1, e2⟩ := hex.choose_spec.unique h
  rw [e1, e2]
theorem rd1_no {zs : List Int} {b : Bool} (h : PackMath.Bare zs) : rd1 (zs, b) = (0, ([], true)) := by
  unfold rd1
  exact dif_neg fun ⟨x, hx⟩ => h x.1 x.2 hx.1 hx.2
/-- what is left behind k numbers, and the k-th of them -/
noncomputable def rdS (s : List Int × Bool) : Nat → List Int × Bool
  | 0 => s
  | k + 1 => (rd1 (rdS s k)).2
noncomputable def rdX (s : List Int × Bool) (k : Nat) : Int := (rd1 (rdS s k)).1
theorem rdS_add (s : List Int × Bool) (a b : Nat) : rdS (rdS s a) b = rdS s (a + b) := by
  induction b with
  | zero => rfl
  | succ b ih => show (rd1 (rdS (rdS s a) b)).2 = (rd1 (rdS s (a + b))).2; rw [ih]
theorem rdX_add (s : List Int × Bool) (a b : Nat) : rdX (rdS s a) b = rdX s (a + b) := by unfold rdX; rw [rdS_add]
theorem rdS_len (s : List Int × Bool) (k : Nat) : (rdS s k).1.length ≤ s.1.length := by
  induction k with
  | zero => exact Nat.le_refl _
  | succ k ih =>
    show (rd1 (rdS s k)).2.1.length ≤ _
    obtain ⟨z, b, e⟩ : ∃ z b, rdS s k = (z, b) := ⟨_, _, rfl⟩
    rw [e] at ih ⊢
    rcases PackMath.begins_or z with ⟨v, rest, hb⟩ | hb
    · rw [rd1_yes hb]
      have h := congrArg List.length hb.2
      rw [List.length_append] at h
      have ih' : z.length ≤ s.1.length := ih
      show rest.length ≤ _
      omega
    · rw [rd1_no hb]; exact Nat.zero_le _
theorem u64n_wrap {v : Nat} (h : v < 18446744073709551616) : u64n (IntKind.i64.wrap (v : Int)) = v := by rw [IntKind.wrap_i64]; unfold u64n; omega
theorem wrap_of_u64n {v : Int} (h0 : 0 ≤ v) (h1 : v ≤ 1125899906842624) : IntKind.i64.wrap ((u64n v : Nat) : Int) = v := by rw [u64n_of h0 (by omega)]; exact IntWalk.i64_in _ (by omega)
/-- all was well: so many numbers lay there -/
theorem rd_back {zs : List Int} {b : Bool} (k : Nat) : (rdS (zs, b) k).2 = false → b = false ∧ zs = bytesN ((List.range k).map fun j => u64n (rdX (zs, b) j)) ++ (rdS (zs, b) k).1 := by
  induction k with
  | zero => intro h; exact ⟨h, rfl⟩
  | succ k ih =>
    intro h
    have e1 : rdS (zs, b) (k + 1) = (rd1 (rdS (zs, b) k)).2 := rfl
    rw [e1] at h ⊢
    obtain ⟨z, d, e⟩ : ∃ z d, rdS (zs, b) k = (z, d) := ⟨_, _, rfl⟩
    have e2 : rdX (zs, b) k = (rd1 (z, d)).1 := by unfold rdX; rw [e]
    rw [e] at h ⊢ ih
    rcases PackMath.begins_or z with ⟨v, rest, hb⟩ | hb
    · rw [rd1_yes hb] at h e2 ⊢
      obtain ⟨i1, i2⟩ := ih h
      refine ⟨i1, ?_⟩
      rw [List.range_succ, List.map_append, bytesN_append, List.map_cons, List.map_nil, bytesN_one, e2, u64n_wrap hb.1, List.append_assoc, ← hb.2]
      exact i2
    · rw [rd1_no hb] at h; cases h
/-- so many numbers lie there: they are taken -/
theorem rd_forth (ns : List Nat) (hs : ∀ v ∈ ns, v < 18446744073709551616) (r : List Int) : rdS (bytesN ns ++ r, false) ns.length = (r, false) ∧ ∀ j, j < ns.length → rdX (bytesN ns ++ r, false) j = IntKind.i64.wrap ((ns[j]?.getD 0 : Nat) : Int) := by
  induction ns with
  | nil => exact ⟨by show (([] : List Int) ++ r, false) = _; rw [List.nil_append], fun j hj => absurd hj (by simp)⟩
  | cons v ns ih =>
    have hb : PackMath.Begins (bytesN (v :: ns) ++ r) v (bytesN ns ++ r) := ⟨hs v (by simp), by rw [bytesN_cons, List.append_assoc]⟩
    have e1 : rdS (bytesN (v :: ns) ++ r, false) 1 = (bytesN ns ++ r, false) := by show (rd1 _).2 = _; rw [show rdS (bytesN (v :: ns) ++ r, false) 0 = (bytesN (v :: ns) ++ r, false) from rfl, rd1_yes hb]
    obtain ⟨i1, i2⟩ := ih fun u hu => hs u (by simp [hu])
    refine ⟨?_, fun j hj => ?_⟩
    · rw [List.length_cons, Nat.add_comm, ← rdS_add, e1]; exact i1
    · match j, hj with
      | 0, _ =>
        show (rd1 (bytesN (v :: ns) ++ r, false)).1 = _
        rw [rd1_yes hb]; rfl
      | j + 1, hj =>
        rw [Nat.add_comm j 1, ← rdX_add, e1, i2 j (by simp at hj; omega), Nat.add_comm 1 j, List.getElem?_cons_succ]
/-- right books with which bytes begin, and what is left -/
noncomputable def rdB (c : Cf) (s : List Int × Bool) : List Rw × (List Int × Bool) := match takeB c s.1 with
  | some (l, rest) => (l, (rest, s.2))
  | none => ([], ([], true))
theorem rdB_yes {c : Cf} {zs rest : List Int} {b : Bool} {l : List Rw} (h : takeB c zs = some (l, rest)) : rdB c (zs, b) = (l, (rest, b)) := by unfold rdB; rw [show (zs, b).1 = zs from rfl, h]
theorem rdB_no {c : Cf} {zs : List Int} {b : Bool} (h : takeB c zs = none) : rdB c (zs, b) = ([], ([], true)) := by unfold rdB; rw [show (zs, b).1 = zs from rfl, h]
/-- a message as it is read: its head, its books, its tail -/
noncomputable def goS1 (zs : List Int) : List Int × Bool := rdS (zs, false) 3
noncomputable def goS2 (c : Cf) (zs : List Int) : List Int × Bool := (rdB c (goS1 zs)).2
noncomputable def goM (c : Cf) (n : Nat) (zs : List Int) : Ml :=
  ⟨rdX (zs, false) 0, rdX (zs, false) 1, rdX (zs, false) 2, (rdB c (goS1 zs)).1, rdX (goS2 c zs) 0, rdX (goS2 c zs) 1, rdX (goS2 c zs) 2, rdX (goS2 c zs) 3, rdX (goS2 c zs) 4, rdX (goS2 c zs) 5, (List.range n).map fun i => (rdX (goS2 c zs) (6 + 2 * i), rdX (goS2 c zs) (6 + 2 * i + 1))⟩
noncomputable def goE (c : Cf) (n : Nat) (zs : List Int) : List Int × Bool := rdS (goS2 c zs) (6 + 2 * n)
theorem tail_go (s : List Int × Bool) (n : Nat) : [rdX s 0, rdX s 1, rdX s 2, rdX s 3, rdX s 4, rdX s 5] ++ echoN ((List.range n).map fun i => (rdX s (6 + 2 * i), rdX s (6 + 2 * i + 1))) = (List.range (6 + 2 * n)).map (rdX s) := by
  induction n with
  | zero => rfl
  | succ n ih =>
    rw [show 6 + 2 * (n + 1) = 6 + 2 * n + 1 + 1 by omega, List.range_succ, List.range_succ, List.range_succ, List.map_append, List.map_append, List.map_append, ← ih]
    unfold echoN
    rw [List.flatMap_append]
    simp
open Classical in
theorem takeM_go {c : Cf} {n : Nat} (hn : c.n = (n : Int)) (zs : List Int) : takeM c zs = if (goE c n zs).2 = false ∧ (goE c n zs).1 = [] ∧ mailOk c (goM c n zs) then some (goM c n zs) else none := by
  split
  · rename_i h
    obtain ⟨h1, h2, h3⟩ := h
    refine takeM_yes ⟨h3, ?_⟩
    have hp2 : goS2 c zs = ((goS2 c zs).1, (goS2 c zs).2) := rfl
    have hE : (rdS ((goS2 c zs).1, (goS2 c zs).2) (6 + 2 * n)).2 = false := h1
    obtain ⟨k1, k2⟩ := rd_back _ hE
    have hE2 : (rdS ((goS2 c zs).1, (goS2 c zs).2) (6 + 2 * n)).1 = [] := h2
    rw [hE2, List.append_nil] at k2
    have k3 : (goS1 zs) = ((goS1 zs).1, (goS1 zs).2) := rfl
    have k4 : zs = bytesN ((List.range 3).map fun j => u64n (rdX (zs, false) j)) ++ (booksB (rdB c (goS1 zs)).1 ++ (goS2 c zs).1) := by
      cases hb : takeB c (goS1 zs).1 with
      | none =>
        have e : rdB c (goS1 zs) = ([], ([], true)) := rdB_no hb
        unfold goS2 at k1
        rw [e] at k1; cases k1
      | some p =>
        obtain ⟨l, rest⟩ := p
        have e : rdB c (goS1 zs) = (l, (rest, (goS1 zs).2)) := rdB_yes hb
        have k1' : (goS1 zs).2 = false := by unfold goS2 at k1; rw [e] at k1; exact k1
        have e2 : (goS2 c zs).1 = rest := by unfold goS2; rw [e]
        rw [e2, e]
        have hst := takeB_some hb
        show _ = _ ++ (booksB l ++ rest)
        rw [← hst.2]
        exact (rd_back 3 k1').2
    conv => lhs; rw [k4]
    rw [mailBytes_parts]
    have e1 : (headN (goM c n zs)).map u64n = (List.range 3).map fun j => u64n (rdX (zs, false) j) := rfl
    have e2 : (tailN (goM c n zs)).map u64n = (List.range (6 + 2 * n)).map fun j => u64n (rdX (goS2 c zs) j) := by
      show ([rdX (goS2 c zs) 0, rdX (goS2 c zs) 1, rdX (goS2 c zs) 2, rdX (goS2 c zs) 3, rdX (goS2 c zs) 4, rdX (goS2 c zs) 5] ++ echoN ((List.range n).map fun i => (rdX (goS2 c zs) (6 + 2 * i), rdX (goS2 c zs) (6 + 2 * i + 1)))).map u64n = _
      rw [tail_go, List.map_map]; rfl
    rw [e1, e2]
    congr 2
  · rename_i h
    refine takeM_no fun x hx => h ?_
    have hz := hx.2
    rw [mailBytes_parts] at hz
    have hsm := mail_small hx.1
    have hlt : ∀ (P : List Int), (∀ v ∈ P, v ∈ allN x) → ∀ v ∈ P.map u64n, v < 18446744073709551616 := fun P _ v hv => by
      obtain ⟨y, _, rfl⟩ := List.mem_map.1 hv
      exact u64n_lt y
    obtain ⟨a1, a2⟩ := rd_forth ((headN x).map u64n) (hlt _ fun v hv => List.mem_append_left _ hv) (booksB x.rows ++ bytesN ((tailN x).map u64n))
    rw [← hz] at a1 a2
    have a1' : goS1 zs = (booksB x.rows ++ bytesN ((tailN x).map u64n), false) := a1
    have hst : takeB c (booksB x.rows ++ bytesN ((tailN x).map u64n)) = some (x.rows, bytesN ((tailN x).map u64n)) := takeB_yes ⟨hx.1.1, rfl⟩
    have a3 : rdB c (goS1 zs) = (x.rows, (bytesN ((tailN x).map u64n), false)) := by rw [a1']; exact rdB_yes hst
    have a4 : goS2 c zs = (bytesN ((tailN x).map u64n), false) := by unfold goS2; rw [a3]
    obtain ⟨b1, b2⟩ := rd_forth ((tailN x).map u64n) (hlt _ fun v hv => List.mem_append_right _ (List.mem_append_right _ hv)) []
    rw [List.append_nil, ← a4] at b1 b2
    have hlen : x.echo.length = n := by have := hx.1.2.2.2.2.2.1; omega
    have htl : ((tailN x).map u64n).length = 6 + 2 * n := by rw [List.length_map, tailN_len, hlen]
    rw [htl] at b1 b2
    have val : ∀ (P : List Int) (j : Nat), (∀ v ∈ P, v ∈ allN x) → j < P.length → IntKind.i64.wrap (((P.map u64n)[j]?.getD 0 : Nat) : Int) = P[j]?.getD 0 := fun P j hP hj => by
      have hm := hsm _ (hP _ (List.getElem_mem hj))
      rw [List.getElem?_map, List.getElem?_eq_getElem hj]
      exact wrap_of_u64n hm.1 hm.2
    have hh : ∀ j, j < 3 → rdX (zs, false) j = (headN x)[j]?.getD 0 := fun j hj => by rw [a2 j hj]; exact val _ j (fun v hv => List.mem_append_left _ hv) hj
    have ht : ∀ j, j < 6 + 2 * n → rdX (goS2 c zs) j = (tailN x)[j]?.getD 0 := fun j hj => by rw [b2 j hj]; exact val _ j (fun v hv => List.mem_append_right _ (List.mem_append_right _ hv)) (by rw [tailN_len, hlen]; exact hj)
    have htail : tailN (goM c n zs) = tailN x := by
      show [rdX (goS2 c zs) 0, rdX (goS2 c zs) 1, rdX (goS2 c zs) 2, rdX (goS2 c zs) 3, rdX (goS2 c zs) 4, rdX (goS2 c zs) 5] ++ echoN ((List.range n).map fun i => (rdX (goS2 c zs) (6 + 2 * i), rdX (goS2 c zs) (6 + 2 * i + 1))) = _
      rw [tail_go]
      refine List.ext_getElem (by rw [List.length_map, List.length_range, tailN_len, hlen]) fun j h1 h2 => ?_
      rw [List.getElem_map, List.getElem_range, ht j (by rw [List.length_map, List.length_range] at h1; exact h1), List.getElem?_eq_getElem h2]
      rfl
    have hm : goM c n zs = x := ml_ext (by
      show [rdX (zs, false) 0, rdX (zs, false) 1, rdX (zs, false) 2] = [x.fr, x.to, x.clk]
      rw [hh 0 (by decide), hh 1 (by decide), hh 2 (by decide)]; rfl) (by show (rdB c (goS1 zs)).1 = _; rw [a3]) htail
    rw [hm]
    unfold goE
    rw [b1]
    exact ⟨rfl, rfl, hx.1⟩
end Go.Proofs.Ytfpadcfahfanoaa

/- Slices of bytes that a call makes and lengthens; bytes as a string and a string as bytes. No law is proved here. -/
namespace Go.Proofs.Ytfpadcfahfanoaa
open Go.ChangeShapes Go.WideShapes Go.ChangeAt Go.RowKit

/-- A row of the call's own, from block B on, that holds these bytes. -/
def Fresh (B : Nat) (e : TypeId) (w : World) (v : Value) (zs : List Int) : Prop :=
  w.ownsRow B e 1 v zs.length (zs.map (Value.int .u8)) ∧ v ≠ .slice none 0 0 ∧ ∀ c ∈ zs, 0 ≤ c ∧ c < 256

theorem Fresh.form {B : Nat} {e : TypeId} {w : World} {v : Value} {zs : List Int} (h : Fresh B e w v zs) :
    ∃ g cap, v = .slice (some ⟨g, 0, none⟩) zs.length cap ∧ B ≤ g ∧ g < w.heap.size ∧ zs.length ≤ cap ∧ zs.length ≤ 9223372036854775807 := by
  rcases h.1.2 with ⟨h1, _⟩ | ⟨g, cap, cur, rfl, hg, hh, hn, hm, _⟩
  · exact absurd h1 h.2.1
  · exact ⟨g, cap, rfl, hg, (Array.getElem?_eq_some_iff.1 hh).1, hn, by unfold maxLen at hm; omega⟩
theorem Fresh.bytes {B : Nat} {e : TypeId} {w : World} {v : Value} {zs : List Int} (h : Fresh B e w v zs) : Bytes w v zs := by
  obtain ⟨g, cap, _, _, _, _, hm⟩ := h.form
  obtain ⟨_, _, _, _, _, _, hb⟩ := bytes_of_own h.1 h.2.1 hm h.2.2
  exact hb
theorem Fresh.mono {B B' : Nat} {e : TypeId} {w : World} {v : Value} {zs : List Int} (h : Fresh B e w v zs) (hB : B' ≤ B) : Fresh B' e w v zs :=
  ⟨⟨h.1.1, h.1.2.imp id fun ⟨g, cap, cur, h1, h2, h3⟩ => ⟨g, cap, cur, h1, Nat.le_trans hB h2, h3⟩⟩, h.2⟩
theorem Fresh.later {B : Nat} {e : TypeId} {w w' : World} {v : Value} {zs : List Int} (h : Fresh B e w v zs) (hb : Below w.heap.size w w') : Fresh B e w' v zs :=
  ⟨h.1.kept (row := none) ⟨hb.os, hb.tape, hb.output, hb.size, fun k hk _ => hb.block k hk⟩ (by cases v.ownBlock <;> simp), h.2⟩
theorem Fresh.drewN {B : Nat} {e : TypeId} {w : World} {v : Value} {zs : List Int} (h : Fresh B e w v zs) (n : Nat) : Fresh B e (w.drewN n) v zs := h

/-- What may be appended to without writing over what came in: a slice without room, or a row of the call's own. -/
def Tail (B : Nat) (e : TypeId) (w : World) (v : Value) (zs : List Int) : Prop :=
  (∃ a, v = .slice a zs.length zs.length ∧ Bytes w v zs) ∨ Fresh B e w v zs

theorem Tail.later {B : Nat} {e : TypeId} {w w' : World} {v : Value} {zs : List Int} (h : Tail B e w v zs) (hb : Below w.heap.size w w') : Tail B e w' v zs :=
  h.imp (fun ⟨a, h1, h2⟩ => ⟨a, h1, h2.later hb⟩) (fun h => h.later hb)
theorem Tail.alloc {B : Nat} {e : TypeId} {w : World} {v : Value} {zs : List Int} (h : Tail B e w v zs) (o : Obj) : Tail B e (w.alloc o) v zs := h.later ((Below.refl _ _).alloc (Nat.le_refl _) _)
theorem Tail.small {B : Nat} {e : TypeId} {w : World} {v : Value} {zs : List Int} (h : Tail B e w v zs) : ∀ c ∈ zs, 0 ≤ c ∧ c < 256 := by
  rcases h with ⟨_, _, h⟩ | h
  · exact h.2.1
  · exact h.2.2

/-- A cell of a new block. -/
theorem cell_new (w : World) (C : Array Value) (T : TypeId) (m : Nat × Nat) (j : Nat) (v : Value) (h : C[j]? = some v) : (w.alloc (.cells C T m)).cell? ⟨w.heap.size, j, none⟩ = some v := by
  have e : (w.alloc (.cells C T m)).heap[w.heap.size]? = some (.cells C T m) := by
    show (w.heap.push _)[w.heap.size]? = _
    simp
  unfold World.cell?
  rw [e]
  exact h

/-- ONE BYTE MORE. -/
theorem wpList_append_byte {P : Program} {w : World} {ops : Array Oper} {rest : List Oper} {o : Oper} {a : Act} {Q : Exit → Act → World → Prop} (hgd : o.guard = none) (s x : Operand) (t : TypeId)
    (ho : o.op = .call { callee := .builtin .append, args := #[s, x], argTypes := #[t, t] })
    (B : Nat) (e : TypeId) (i : TypeInfo) (ht : P.underlying t = some (.slice e)) (hi : P.info? e = some i) (hz : i.zero = some (.int .u8 0)) (hsize : i.size = 1) (hby : i.bytes = 1)
    (v : Value) (zs : List Int) (hs : a.eval s = v) (hT : Tail B e w v zs) (c : Int) (hc : 0 ≤ c ∧ c < 256)
    (ad : Addr) (cp : Nat) (hx : a.eval x = .slice (some ad) 1 cp) (hnew : w.cell? ad = some (.int .u8 c)) (h63 : zs.length + 1 ≤ 140737488355328) (hB : B ≤ w.heap.size)
    (h : ∀ v' w', Fresh B e w' v' (zs ++ [c]) → Below B w w' → wpList P ops Q rest (a.put o.dst v') w') : wpList P ops Q (o :: rest) a w := by
  have hmax : zs.length + 1 ≤ maxLen := by unfold maxLen; omega
  have hsm := hT.small
  have hnews : ∀ j u, [Value.int IntKind.u8 c][j]? = some u → w.cell? (ad.add j) = some u := by
    intro j u hu
    have hj : j = 0 := by
      rcases Nat.eq_zero_or_pos j with h0 | h0
      · exact h0
      · rw [List.getElem?_eq_none (by simp; omega)] at hu; cases hu
    subst hj
    rw [show ad.add 0 = ad by cases ad; simp [Addr.add], hnew]
    simpa using hu
  have h1 : ∀ u ∈ [Value.int IntKind.u8 c], u.oneCell' = true := fun u hu => by rw [List.mem_singleton.1 hu]; rfl
  have hsm2 : ∀ d ∈ zs ++ [c], 0 ≤ d ∧ d < 256 := fun d hd => by
    rcases List.mem_append.1 hd with hd | hd
    · exact hsm d hd
    · rw [List.mem_singleton.1 hd]; exact hc
  rcases hT with ⟨ao, hv, hb⟩ | hF
  · refine wpList_append_grows w hgd s x t ho e i (.int .u8 0) 1 1 ht hi hz hsize hby rfl (by decide) ao zs.length zs.length (zs.map (Value.int .u8)) (hs.trans hv) ?_ (by simp) ?_ ad 1 cp [.int .u8 c] hx rfl hnews h1 (by omega) hmax (by omega) ?_
    · intro hn
      obtain ⟨_, _, hb | ⟨b, off, cap, hv', _⟩⟩ := hb
      · obtain ⟨_, _, _, _, rfl⟩ := hb; exact ⟨rfl, rfl⟩
      · rw [hv] at hv'; simp only [Value.slice.injEq] at hv'; rw [hn] at hv'; cases hv'.1
    · intro b hbo j u hu
      have hj : j < zs.length := by
        have := (List.getElem?_eq_some_iff.1 hu).1
        simpa using this
      obtain ⟨_, _, hb | ⟨b', off, cap, hv', hcell⟩⟩ := hb
      · obtain ⟨_, _, _, _, rfl⟩ := hb; simp at hj
      · rw [hv] at hv'
        simp only [Value.slice.injEq] at hv'
        rw [hbo] at hv'
        obtain ⟨e1, _⟩ := hv'
        injection e1 with e1
        subst e1
        rw [add_plain, hcell j hj]
        simp [List.getElem?_map, List.getElem?_eq_getElem hj] at hu
        simp [List.getD_eq_getElem?_getD, List.getElem?_eq_getElem hj, hu]
    · intro v' w' g1 g2
      refine h v' w' ⟨?_, ?_, hsm2⟩ ((Below.refl _ _).grown g2 hB (fun k hk => by cases hk))
      · have e1 : (zs ++ [c]).length = zs.length + 1 := by simp
        rw [e1, List.map_append]
        exact ⟨g1.1, g1.2.imp id fun ⟨g, cap, cur, k1, k2, k3⟩ => ⟨g, cap, cur, k1, Nat.le_trans hB k2, k3⟩⟩
      · rintro rfl
        rcases g1.2 with ⟨_, hn⟩ | ⟨g, cap, cur, k1, _⟩
        · omega
        · cases k1
  · refine wpList_append_own w hgd s x t ho B e i (.int .u8 0) 1 1 ht hi hz hsize hby rfl (by decide) v zs.length (zs.map (Value.int .u8)) hs hF.1 ad 1 cp [.int .u8 c] hx rfl hnews h1 hmax (by omega) hB ?_
    intro v' w' g1 g2 g3
    refine h v' w' ⟨?_, ?_, hsm2⟩ ((Below.refl _ _).grown g2 hB (fun k hk => (hF.1.lt k hk).1))
    · have e1 : (zs ++ [c]).length = zs.length + 1 := by simp
      rw [e1, List.map_append]
      exact g1
    · intro e0
      have := (g3.1 e0).2
      omega

/-- MANY BYTES MORE, to a row of the call's own. -/
theorem wpList_append_more {P : Program} {w : World} {ops : Array Oper} {rest : List Oper} {o : Oper} {a : Act} {Q : Exit → Act → World → Prop} (hgd : o.guard = none) (s x : Operand) (t : TypeId)
    (ho : o.op = .call { callee := .builtin .append, args := #[s, x], argTypes := #[t, t] })
    (B : Nat) (e : TypeId) (i : TypeInfo) (ht : P.underlying t = some (.slice e)) (hi : P.info? e = some i) (hz : i.zero = some (.int .u8 0)) (hsize : i.size = 1) (hby : i.bytes = 1)
    (v : Value) (zs : List Int) (hs : a.eval s = v) (hF : Fresh B e w v zs) (xv : Value) (xs : List Int) (hx : a.eval x = xv) (hX : Bytes w xv xs) (h63 : zs.length + xs.length ≤ 140737488355328) (hB : B ≤ w.heap.size)
    (h : ∀ v' w', Fresh B e w' v' (zs ++ xs) → Below B w w' → wpList P ops Q rest (a.put o.dst v') w') : wpList P ops Q (o :: rest) a w := by
  refine wpList_append_bytes hgd s x t ho B e i ht hi hz hsize hby v zs.length (zs.map (Value.int .u8)) hs hF.1 xv xs hx hX h63 hB ?_
  intro v' w' g1 g2 g3
  refine h v' w' ⟨?_, fun e0 => hF.2.1 (g3 e0), fun d hd => ?_⟩ ((Below.refl _ _).grown g2 hB (fun k hk => (hF.1.lt k hk).1))
  · rw [List.length_append, List.map_append]; exact g1
  · rcases List.mem_append.1 hd with hd | hd
    · exact hF.2.2 d hd
    · exact hX.2.1 d hd

/-- A string's bytes. -/
def nums (s : ByteArray) : List Int := s.data.toList.map fun b => (b.toNat : Int)
theorem nums_length (s : ByteArray) : (nums s).length = s.size := by
  rw [nums, List.length_map, Array.length_toList]; rfl
theorem nums_small (s : ByteArray) : ∀ c ∈ nums s, 0 ≤ c ∧ c < 256 := by
  intro c hc
  simp only [nums, List.mem_map] at hc
  obtain ⟨b, _, rfl⟩ := hc
  have := b.toNat_lt
  omega
theorem nums_cells (s : ByteArray) : Lib.strCells s = (nums s).map (Value.int .u8) := by
  simp [Lib.strCells, nums, Function.comp_def]
theorem strOf_nums (s : ByteArray) : strOfNums (nums s) = s := by
  have : (strOfNums (nums s)).data = s.data := by
    apply Array.ext'
    simp only [strOfNums, nums, List.map_map]
    conv => rhs; rw [← List.map_id s.data.toList]
    exact List.map_congr_left fun c _ => by simp
  cases s; exact congrArg ByteArray.mk this
theorem nums_strOf {zs : List Int} (h : ∀ c ∈ zs, 0 ≤ c ∧ c < 256) : nums (strOfNums zs) = zs := by
  simp only [nums, strOfNums_data, List.map_map]
  conv => rhs; rw [← List.map_id zs]
  refine List.map_congr_left fun c hc => ?_
  have := h c hc
  simp [UInt8.toNat_ofNat']
  omega
theorem strOf_inj {x y : List Int} (hx : ∀ c ∈ x, 0 ≤ c ∧ c < 256) (hy : ∀ c ∈ y, 0 ≤ c ∧ c < 256) (h : strOfNums x = strOfNums y) : x = y := by
  rw [← nums_strOf hx, ← nums_strOf hy, h]
theorem strOf_append (x y : List Int) : strOfNums (x ++ y) = strOfNums x ++ strOfNums y := by
  have : (strOfNums (x ++ y)).data = (strOfNums x ++ strOfNums y).data := by
    apply Array.ext'
    simp [strOfNums]
  exact congrArg ByteArray.mk this

/-- 'string(b)'. -/
theorem run_string {P : Program} {w : World} {v : Value} {zs : List Int} (hB : Bytes w v zs) {src e dst : TypeId} (hs : P.underlying src = some (.slice e)) (he : P.underlying e = some (.int .u8)) (hd : P.underlying dst = some .string) :
    (convert src dst v).run P w = .ok (.string (strOfNums zs)) w := by
  obtain ⟨_, _, ⟨a, cap, rfl, _, rfl⟩ | ⟨b, off, cap, rfl, hc⟩⟩ := hB
  · rw [run_convert_bytes_string w src dst e a 0 cap hs he hd]
    cases a <;> simp [Conv.bytesToString, loadCells]
    all_goals rfl
  · exact run_convert_bytes_arg w src e hs he b off zs.length cap zs rfl hc dst hd

/-- A STRING'S BYTES MORE, to a row of the call's own. -/
theorem wpList_append_text {P : Program} {w : World} {ops : Array Oper} {rest : List Oper} {o : Oper} {a : Act} {Q : Exit → Act → World → Prop} (hgd : o.guard = none) (s x : Operand) (t u : TypeId)
    (ho : o.op = .call { callee := .builtin .append, args := #[s, x], argTypes := #[t, u] })
    (B : Nat) (e : TypeId) (i : TypeInfo) (ht : P.underlying t = some (.slice e)) (hu : P.underlying u = some .string) (hi : P.info? e = some i) (hz : i.zero = some (.int .u8 0)) (hsize : i.size = 1) (hby : i.bytes = 1)
    (v : Value) (zs : List Int) (hs : a.eval s = v) (hF : Fresh B e w v zs) (xs : ByteArray) (hx : a.eval x = .string xs) (h63 : zs.length + xs.size ≤ 140737488355328) (hB : B ≤ w.heap.size)
    (h : ∀ v' w', Fresh B e w' v' (zs ++ nums xs) → Below B w w' → wpList P ops Q rest (a.put o.dst v') w') : wpList P ops Q (o :: rest) a w := by
  refine Lib.wpList_append_own_string w hgd s x t u ho B e i ht hu hi hz hsize hby v zs.length (zs.map (Value.int .u8)) hs hF.1 xs hx (by unfold maxLen; omega) h63 hB ?_
  intro v' w' g1 g2 g3
  refine h v' w' ⟨?_, fun e0 => hF.2.1 (g3.1 e0).1, fun d hd => ?_⟩ ((Below.refl _ _).grown g2 hB (fun k hk => (hF.1.lt k hk).1))
  · rw [List.length_append, nums_length, List.map_append, ← nums_cells]; exact g1
  · rcases List.mem_append.1 hd with hd | hd
    · exact hF.2.2 d hd
    · exact nums_small xs d hd

/-- '[]byte(s)': the new slice reads as the string's bytes. -/
theorem bytes_of_text (w : World) (e : TypeId) (s : ByteArray) (hm : s.size ≤ 9223372036854775807) : Bytes (Lib.bytesWorld w e s) (.slice (some ⟨w.heap.size, 0, none⟩) s.size (grownCap w s.size 0 e)) (nums s) := by
  refine ⟨by rw [nums_length]; exact hm, nums_small s, Or.inr ⟨w.heap.size, 0, grownCap w s.size 0 e, by rw [nums_length], fun j hj => ?_⟩⟩
  rw [nums_length] at hj
  rw [Nat.zero_add, Lib.bytesWorld_cell w e s j hj]
  have hj' : j < s.data.toList.length := by simpa using hj
  simp [nums, List.getD_eq_getElem?_getD, List.getElem?_map, List.getElem?_eq_getElem hj']
theorem below_text (w : World) (e : TypeId) (s : ByteArray) : Below w.heap.size w (Lib.bytesWorld w e s) :=
  ⟨rfl, rfl, rfl, by rw [Lib.bytesWorld_size]; omega, fun k hk => Lib.bytesWorld_at_old w e s k hk⟩

theorem str_ne {s t : ByteArray} (h : s ≠ t) : (s.toList == t.toList) = false := by
  rw [ByteArray.toList_eq, ByteArray.toList_eq]
  refine beq_eq_false_iff_ne.2 fun e => h ?_
  have : s.data = t.data := Array.toList_inj.1 e
  cases s; cases t; exact congrArg ByteArray.mk this
theorem str_same {s t : ByteArray} (h : s = t) : (s.toList == t.toList) = true := by rw [h]; exact beq_self_eq_true _
end Go.Proofs.Ytfpadcfahfanoaa
