/- Frames: what the document says of them. No program in it. No law is proved here. -/
import Derived.Test.YtfooplicnjjipaaDoorPackMath
import Derived.Test.YtfooplicnjjipaaDoorCrcMath
namespace Go.Proofs.YtfooplicnjjipaaDoor.FrameMath

/-- a text's bytes -/
def txt (p : List Int) : List Int := PackMath.num p.length ++ p
/-- a sum as four bytes -/
def four (s : Nat) : List Int := [((s % 256 : Nat) : Int), ((s / 256 % 256 : Nat) : Int), ((s / 256 / 256 % 256 : Nat) : Int), ((s / 256 / 256 / 256 % 256 : Nat) : Int)]
/-- a frame -/
def frm (p : List Int) : List Int := txt p ++ four (CrcMath.sum (txt p))
def sizeN (n : Nat) : Nat := (PackMath.num n).length + n + 4
def frames (l : List (List Int)) : List Int := l.flatMap frm
theorem frm_length (p : List Int) : (frm p).length = sizeN p.length := by
  unfold frm txt sizeN four
  rw [List.length_append, List.length_append]
  rfl
theorem sizeN_pos (n : Nat) : 4 < sizeN n := by
  have := PackMath.num_pos n
  unfold sizeN; omega
theorem sizeN_ge (n : Nat) : n + 5 ≤ sizeN n := by
  have := PackMath.num_pos n
  unfold sizeN; omega
theorem frm_prefix {p q x y : List Int} (h : frm p ++ x = frm q ++ y) : p = q ∧ x = y := by
  unfold frm txt at h
  simp only [List.append_assoc] at h
  obtain ⟨h1, h2⟩ := PackMath.num_prefix _ _ _ _ h
  have h3 := (List.append_inj h2 h1)
  refine ⟨h3.1, ?_⟩
  rw [h3.1] at h3
  exact (List.append_cancel_left h3.2)
theorem frames_nil : frames [] = [] := rfl
theorem frames_cons (p : List Int) (l : List (List Int)) : frames (p :: l) = frm p ++ frames l := by simp [frames]
theorem frames_append (l m : List (List Int)) : frames (l ++ m) = frames l ++ frames m := by simp [frames]
/-- what is scanned: frames, and then none -/
def Scans (zs : List Int) (l : List (List Int)) (r : List Int) : Prop := zs = frames l ++ r ∧ ∀ p x, r ≠ frm p ++ x
theorem scans_ex : ∀ (n : Nat) (zs : List Int), zs.length ≤ n → ∃ l r, Scans zs l r := by
  intro n
  induction n with
  | zero =>
    intro zs hz
    obtain rfl : zs = [] := List.eq_nil_of_length_eq_zero (by omega)
    refine ⟨[], [], rfl, fun p x h => ?_⟩
    have h1 := congrArg List.length h
    rw [List.length_append, frm_length] at h1
    have := sizeN_pos p.length
    simp at h1
    omega
  | succ n ih =>
    intro zs hz
    by_cases h : ∃ p x, zs = frm p ++ x
    · obtain ⟨p, x, rfl⟩ := h
      obtain ⟨l, r, h1, h2⟩ := ih x (by rw [List.length_append, frm_length] at hz; have := sizeN_pos p.length; omega)
      exact ⟨p :: l, r, by rw [frames_cons, List.append_assoc, ← h1], h2⟩
    · exact ⟨[], zs, rfl, fun p x he => h ⟨p, x, he⟩⟩
theorem scans_unique : ∀ {l m : List (List Int)} {zs r s : List Int}, Scans zs l r → Scans zs m s → l = m ∧ r = s
  | [], [], zs, r, s, h, k => ⟨rfl, (show zs = r from h.1).symm.trans (show zs = s from k.1)⟩
  | [], q :: m, zs, r, s, h, k => absurd ((show zs = r from h.1).symm.trans (k.1.trans (by rw [frames_cons, List.append_assoc]))) (h.2 q (frames m ++ s))
  | p :: l, [], zs, r, s, h, k => absurd ((show zs = s from k.1).symm.trans (h.1.trans (by rw [frames_cons, List.append_assoc]))) (k.2 p (frames l ++ r))
  | p :: l, q :: m, zs, r, s, h, k => by
    have h1 := h.1
    have k1 := k.1
    rw [frames_cons, List.append_assoc] at h1 k1
    obtain ⟨rfl, e⟩ := frm_prefix (h1.symm.trans k1)
    obtain ⟨rfl, rfl⟩ := scans_unique (l := l) (m := m) (zs := frames l ++ r) ⟨rfl, h.2⟩ ⟨e, k.2⟩
    exact ⟨rfl, rfl⟩
theorem scans_frames (l : List (List Int)) : Scans (frames l) l [] := by
  refine ⟨by simp, fun p x h => ?_⟩
  have h1 := congrArg List.length h
  rw [List.length_append, frm_length] at h1
  have := sizeN_pos p.length
  simp at h1
  omega
/-- a beginning of a frame that isn't all of it begins with none -/
theorem cut_none {q p x : List Int} {j : Nat} (hj : j < (frm q).length) : (frm q).take j ≠ frm p ++ x := by
  intro h
  have e : frm q ++ [] = frm p ++ (x ++ (frm q).drop j) := by rw [List.append_nil, ← List.append_assoc, ← h, List.take_append_drop]
  obtain ⟨rfl, e2⟩ := frm_prefix e
  have h1 := congrArg List.length h
  rw [List.length_take, List.length_append] at h1
  omega
theorem frames_take_le (l : List (List Int)) {i j : Nat} (h : i ≤ j) : (frames (l.take i)).length ≤ (frames (l.take j)).length := by
  have e : l.take j = l.take i ++ (l.take j).drop i := by
    conv => lhs; rw [← List.take_append_drop i (l.take j)]
    rw [List.take_take, Nat.min_eq_left h]
  rw [e, frames_append, List.length_append]
  omega
theorem frames_take_succ (l : List (List Int)) {i : Nat} (h : i < l.length) : frames (l.take (i + 1)) = frames (l.take i) ++ frm l[i] := by
  rw [List.take_succ_eq_append_getElem h, frames_append, frames_cons, frames_nil, List.append_nil]
/-- cut anywhere -/
theorem scans_cut (l : List (List Int)) {k m : Nat} (hm : m ≤ l.length) (h1 : (frames (l.take m)).length ≤ k) (h2 : m < l.length → k < (frames (l.take (m + 1))).length) :
    ∃ r, Scans ((frames l).take k) (l.take m) r := by
  have e : frames l = frames (l.take m) ++ frames (l.drop m) := by rw [← frames_append, List.take_append_drop]
  by_cases hml : m < l.length
  · have hlt := h2 hml
    rw [frames_take_succ l hml, List.length_append] at hlt
    have e2 : frames (l.drop m) = frm l[m] ++ frames (l.drop (m + 1)) := by rw [← frames_cons, List.drop_eq_getElem_cons hml]
    refine ⟨(frm l[m]).take (k - (frames (l.take m)).length), ?_, fun p x => cut_none (by omega)⟩
    rw [e, List.take_append, List.take_of_length_le h1, e2, List.take_append_of_le_length (by omega)]
  · have hme : m = l.length := by omega
    subst hme
    refine ⟨[], ?_, (scans_frames l).2⟩
    rw [List.take_length] at h1 ⊢
    rw [List.take_of_length_le (by omega), List.append_nil]
theorem txt_bytes {p : List Int} (h : ∀ c ∈ p, 0 ≤ c ∧ c < 256) : ∀ c ∈ txt p, 0 ≤ c ∧ c < 256 := by
  intro c hc
  rcases List.mem_append.1 hc with hc | hc
  · exact PackMath.num_bytes _ c hc
  · exact h c hc
theorem four_bytes (s : Nat) : ∀ c ∈ four s, 0 ≤ c ∧ c < 256 := by
  intro c hc
  simp only [four, List.mem_cons, List.not_mem_nil, or_false] at hc
  rcases hc with rfl | rfl | rfl | rfl <;> omega
theorem frm_bytes {p : List Int} (h : ∀ c ∈ p, 0 ≤ c ∧ c < 256) : ∀ c ∈ frm p, 0 ≤ c ∧ c < 256 := by
  intro c hc
  rcases List.mem_append.1 hc with hc | hc
  · exact txt_bytes h c hc
  · exact four_bytes _ c hc
theorem frm_mem {p : List Int} {c : Int} (h : c ∈ p) : c ∈ frm p := List.mem_append.2 (.inl (List.mem_append.2 (.inr h)))
/-- a frame with a byte that isn't as it was -/
theorem scans_flip {a b z : List Int} {l : List (List Int)} {r : List Int} (hz : z.length = (frm b).length) (hne : z ≠ frm b) (h : Scans (frm a ++ z) l r) :
    ∃ m, l = a :: m ∧ (∀ q n, m = q :: n → q ≠ b) := by
  obtain ⟨m, s, h1, h2⟩ := scans_ex _ z (Nat.le_refl _)
  have hs : Scans (frm a ++ z) (a :: m) s := ⟨by rw [frames_cons, List.append_assoc, ← h1], h2⟩
  refine ⟨m, (scans_unique h hs).1, fun q n hm hq => hne ?_⟩
  subst hm
  subst hq
  rw [frames_cons, List.append_assoc] at h1
  have h3 := congrArg List.length h1
  rw [List.length_append] at h3
  have h4 : frames n ++ s = [] := List.eq_nil_of_length_eq_zero (by omega)
  rw [h4, List.append_nil] at h1
  exact h1
end Go.Proofs.YtfooplicnjjipaaDoor.FrameMath
