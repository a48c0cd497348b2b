/- Layer 15's mathematics: an audit that runs is told, goes on, ends. No program in it; no law is proved here. -/
import Derived.Test.YtgonboccklpoaaaAuditMostMath
namespace Go.Proofs.Ytgonboccklpoaaa

/-- how many of the first k told -/
def cntB (l : List Bool) : Nat → Nat
  | 0 => 0
  | k + 1 => cntB l k + if l[k]?.getD false = true then 1 else 0
theorem cntB_le (l : List Bool) : ∀ k, cntB l k ≤ k
  | 0 => Nat.le_refl _
  | k + 1 => by have := cntB_le l k; simp only [cntB]; split <;> omega
theorem cntB_set {l : List Bool} {k : Nat} (hk : k < l.length) (h : l[k]?.getD false = false) : ∀ n, cntB (l.set k true) n = cntB l n + if k < n then 1 else 0
  | 0 => by simp [cntB]
  | n + 1 => by
    have ih := cntB_set hk h n
    simp only [cntB]
    rw [ih]
    by_cases e : k = n
    · subst e
      rw [List.getElem?_set_self hk, h]
      simp
    · rw [List.getElem?_set_ne e]
      by_cases e2 : k < n
      · rw [if_pos e2, if_pos (show k < n + 1 by omega)]; omega
      · rw [if_neg e2, if_neg (show ¬ k < n + 1 by omega)]; omega
theorem cntB_all {l : List Bool} {u : Nat} (h : l[u]?.getD false = false) : ∀ n, cntB l n ≤ (if u < n then n - 1 else n) ∧ (cntB l n = (if u < n then n - 1 else n) ↔ ∀ i, i < n → l[i]?.getD false = true ∨ i = u)
  | 0 => by simp [cntB]
  | n + 1 => by
    obtain ⟨h1, h2⟩ := cntB_all h n
    simp only [cntB]
    by_cases e : u = n
    · subst e
      rw [h, if_neg (by decide)]
      rw [if_neg (Nat.lt_irrefl _)] at h1 h2
      rw [if_pos (by omega)]
      refine ⟨by omega, ?_⟩
      rw [show u + 1 - 1 = u by omega, Nat.add_zero, h2]
      constructor
      · intro h3 i hi
        by_cases hu : i = u
        · exact Or.inr hu
        · exact h3 i (by omega)
      · intro h3 i hi
        exact h3 i (by omega)
    · have key : (if u < n + 1 then n + 1 - 1 else n + 1) = (if u < n then n - 1 else n) + 1 := by
        by_cases e2 : u < n
        · rw [if_pos e2, if_pos (by omega)]; omega
        · rw [if_neg e2, if_neg (by omega)]
      rw [key]
      cases hb : l[n]?.getD false with
      | true =>
        rw [if_pos rfl]
        refine ⟨by omega, ?_⟩
        constructor
        · intro h3 i hi
          by_cases hn : i = n
          · subst hn; exact Or.inl hb
          · exact h2.1 (by omega) i (by omega)
        · intro h3
          have := h2.2 fun i hi => h3 i (by omega)
          omega
      | false =>
        rw [if_neg (by decide)]
        refine ⟨by omega, ?_⟩
        constructor
        · intro h3; omega
        · intro h3
          rcases h3 n (by omega) with h4 | h4
          · rw [hb] at h4; cases h4
          · exact absurd h4.symm e
/-- an audit of who that runs, of that try, in that phase -/
def RunA (c : Cf) (who : Int) (x : Au) (tr ph : Int) : Prop := runsOk c who x ∧ x.try_ = tr ∧ x.ph = ph
theorem RunA.ok {c : Cf} {who tr ph : Int} {x : Au} (h : RunA c who x tr ph) (hc : cfOk c) (hw : 0 ≤ who ∧ who < c.n) : auOk c who x := ⟨hc, hw, Or.inr h.1⟩
theorem RunA.none {c : Cf} {who tr ph : Int} {x : Au} (h : RunA c who x tr ph) : noneA x = false := decide_eq_false fun e => by
  have h1 := h.1.1.1
  rw [e] at h1
  have h2 : (0 : Int) < 0 := h1
  omega
theorem RunA.phase {c : Cf} {who tr ph : Int} {x : Au} (h : RunA c who x tr ph) : ph = 1 ∨ ph = 2 := by rw [← h.2.2]; exact h.1.2.1
theorem set_at {α : Type} {l : List α} {k : Nat} {x d : α} (hk : k < l.length) (i : Nat) : (l.set k x)[i]?.getD d = if i = k then x else l[i]?.getD d := by
  by_cases e : i = k
  · rw [if_pos e, e, List.getElem?_set_self hk]; rfl
  · rw [if_neg e, List.getElem?_set_ne (fun h => e h.symm)]
/-- told by any message that may be, it runs, and one more told, or none -/
theorem run_told {c : Cf} {who tr ph : Int} {x : Au} {m : Ml} (h : RunA c who x tr ph) (hw : 0 ≤ who ∧ who < c.n) (hm : mailOk c m) (hto : m.to = who) :
    ∃ y, (if hearsA who x m then toldA x m else x) = y ∧ RunA c who y tr ph ∧ (cntB y.told c.n.toNat = cntB x.told c.n.toNat ∨ cntB y.told c.n.toNat = cntB x.told c.n.toNat + 1) := by
  refine ⟨_, rfl, ?_⟩
  cases hh : hearsA who x m with
  | false => exact ⟨h, Or.inl rfl⟩
  | true =>
    show RunA c who (toldA x m) tr ph ∧ _
    obtain ⟨⟨h1, h2, h3, h4, h5, h6, h7⟩, ht, hp⟩ := h
    obtain ⟨hr, hf, htt, hne, _⟩ := hm
    unfold hearsA at hh
    rw [Bool.and_eq_true, Bool.and_eq_true, Bool.not_eq_true', Bool.not_eq_true'] at hh
    have hk0 := hh.2.2
    have hk : m.fr.toNat < x.told.length := by omega
    have hku : m.fr.toNat ≠ who.toNat := by omega
    have hrow := hr.fits m.fr.toNat (by have := hr.2.1; omega)
    have hcnt : cntB (x.told.set m.fr.toNat true) c.n.toNat = cntB x.told c.n.toNat + 1 := by
      rw [cntB_set hk hk0, if_pos (by omega)]
    have htold : (x.told.set m.fr.toNat true)[who.toNat]?.getD false = false := by rw [set_at hk, if_neg (fun e => hku e.symm)]; exact h6
    have hlen : ((x.told.set m.fr.toNat true).length : Int) = c.n := by rw [List.length_set]; exact h3
    have hu : m.fr.toNat < x.use.length := by omega
    have hi : m.fr.toNat < x.inc.length := by omega
    unfold toldA
    by_cases hp1 : x.ph = 1
    · rw [if_pos hp1]
      refine ⟨⟨⟨h1, h2, hlen, by show ((x.use.set _ _).length : Int) = c.n; rw [List.length_set]; exact h4, h5, htold, fun i hi2 => ?_⟩, ht, hp⟩, Or.inr hcnt⟩
      have hi3 : i < x.told.length := by have : i < (x.told.set m.fr.toNat true).length := hi2; rwa [List.length_set] at this
      refine ⟨?_, (h7 i hi3).2⟩
      show 0 ≤ (x.use.set m.fr.toNat (rowOf m).use)[i]?.getD 0 ∧ (x.use.set m.fr.toNat (rowOf m).use)[i]?.getD 0 ≤ 1099511627776
      rw [set_at hu]
      split
      · exact ⟨hrow.2.2.2.1, hrow.2.2.2.2.1⟩
      · exact (h7 i hi3).1
    · rw [if_neg hp1]
      refine ⟨⟨⟨h1, h2, hlen, h4, by show ((x.inc.set _ _).length : Int) = c.n; rw [List.length_set]; exact h5, htold, fun i hi2 => ?_⟩, ht, hp⟩, Or.inr hcnt⟩
      have hi3 : i < x.told.length := by have : i < (x.told.set m.fr.toNat true).length := hi2; rwa [List.length_set] at this
      refine ⟨(h7 i hi3).1, ?_⟩
      show 0 ≤ (x.inc.set m.fr.toNat (rowOf m).inc)[i]?.getD 0 ∧ (x.inc.set m.fr.toNat (rowOf m).inc)[i]?.getD 0 ≤ 1099511627776
      rw [set_at hi]
      split
      · exact ⟨hrow.2.1, hrow.2.2.1⟩
      · exact (h7 i hi3).2
theorem run_tell {c : Cf} {who tr ph : Int} {x : Au} {m : Ml} (h : RunA c who x tr ph) (hw : 0 ≤ who ∧ who < c.n) :
    (tellA c who x m = (au0, 1)) ∨ ∃ y, tellA c who x m = (y, 0) ∧ RunA c who y tr ph ∧ (cntB y.told c.n.toNat = cntB x.told c.n.toNat ∨ cntB y.told c.n.toNat = cntB x.told c.n.toNat + 1) := by
  unfold tellA
  by_cases hm : auOk c who x ∧ mailOk c m ∧ m.to = who
  · right
    rw [if_pos hm]
    obtain ⟨y, e, h1, h2⟩ := run_told h hw hm.2.1 hm.2.2
    exact ⟨y, by rw [e], h1, h2⟩
  · left; rw [if_neg hm]
theorem run_all {c : Cf} {who tr ph : Int} {x : Au} (h : RunA c who x tr ph) (hc : cfOk c) (hw : 0 ≤ who ∧ who < c.n) : allA who x ↔ (cntB x.told c.n.toNat : Int) = c.n - 1 := by
  obtain ⟨⟨_, _, h3, _, _, h6, _⟩, _⟩ := h
  have hn := hc.1
  obtain ⟨_, h7⟩ := cntB_all h6 c.n.toNat
  rw [if_pos (by omega)] at h7
  unfold allA
  constructor
  · rintro ⟨_, h8⟩
    have := h7.2 fun i hi => (h8 i (by omega)).imp id (fun e => by omega)
    omega
  · intro h8
    refine ⟨by omega, fun i hi => ?_⟩
    exact (h7.1 (by omega) i (by omega)).imp id (fun e => by omega)
theorem run_ends {c : Cf} {who tr ph : Int} {x : Au} {l : List Rw} (h : RunA c who x tr ph) (hc : cfOk c) (hw : 0 ≤ who ∧ who < c.n) (hr : rightOk c l) :
    ∃ v s, endsA c who x l = (v, s, decide (ph = 2 ∧ (cntB x.told c.n.toNat : Int) = c.n - 1)) := by
  unfold endsA
  by_cases hp : ph = 2 ∧ (cntB x.told c.n.toNat : Int) = c.n - 1
  · rw [if_pos ⟨h.ok hc hw, hr, by rw [h.2.2]; exact hp.1, (run_all h hc hw).2 hp.2⟩, decide_eq_true hp]
    split
    · exact ⟨_, _, rfl⟩
    · exact ⟨_, _, rfl⟩
  · rw [if_neg (fun e => hp ⟨by rw [← h.2.2]; exact e.2.2.1, (run_all h hc hw).1 e.2.2.2⟩), decide_eq_false hp]
    exact ⟨_, _, rfl⟩
theorem cntB_rep (n : Nat) : ∀ k, cntB (List.replicate n false) k = 0
  | 0 => rfl
  | k + 1 => by simp only [cntB]; rw [cntB_rep n k, rep_at, if_neg (by decide)]
theorem run_next {c : Cf} {who tr ph : Int} {x : Au} {l : List Rw} (h : RunA c who x tr ph) (hc : cfOk c) (hw : 0 ≤ who ∧ who < c.n) (hr : rightOk c l) :
    (¬ (ph = 1 ∧ (cntB x.told c.n.toNat : Int) = c.n - 1) ∧ nextA c who x l = (x, false)) ∨ ((ph = 1 ∧ (cntB x.told c.n.toNat : Int) = c.n - 1) ∧ ∃ z, nextA c who x l = (z, true) ∧ RunA c who z tr 2 ∧ cntB z.told c.n.toNat = 0) := by
  unfold nextA
  rw [if_pos ⟨h.ok hc hw, hr⟩]
  by_cases hp : ph = 1 ∧ (cntB x.told c.n.toNat : Int) = c.n - 1
  · right
    refine ⟨hp, _, by rw [if_pos ⟨by rw [h.2.2]; exact hp.1, (run_all h hc hw).2 hp.2⟩], ?_, cntB_rep _ _⟩
    obtain ⟨⟨h1, h2, h3, h4, h5, h6, h7⟩, ht, _⟩ := h
    have hu : who.toNat < x.use.length := by omega
    have hrow := hr.fits who.toNat (by have := hr.2.1; omega)
    refine ⟨⟨h1, Or.inr rfl, by show ((List.replicate x.told.length false).length : Int) = c.n; rw [List.length_replicate]; exact h3, by show ((x.use.set _ _).length : Int) = c.n; rw [List.length_set]; exact h4, h5, rep_at _ _ _, fun i hi2 => ?_⟩, ht, rfl⟩
    have hi3 : i < x.told.length := by have : i < (List.replicate x.told.length false).length := hi2; rwa [List.length_replicate] at this
    refine ⟨?_, (h7 i hi3).2⟩
    show 0 ≤ (x.use.set who.toNat (at_ l who.toNat).use)[i]?.getD 0 ∧ (x.use.set who.toNat (at_ l who.toNat).use)[i]?.getD 0 ≤ 1099511627776
    rw [set_at hu]
    split
    · exact ⟨hrow.2.2.2.1, hrow.2.2.2.2.1⟩
    · exact (h7 i hi3).1
  · left
    refine ⟨hp, ?_⟩
    rw [if_neg (fun e => hp ⟨by rw [← h.2.2]; exact e.1, (run_all h hc hw).1 e.2⟩)]
theorem run_begin {c : Cf} {who tr : Int} : (beginA c who tr = (au0, 1)) ∨ ((cfOk c ∧ (0 ≤ who ∧ who < c.n)) ∧ ∃ x, beginA c who tr = (x, 0) ∧ RunA c who x tr 1 ∧ cntB x.told c.n.toNat = 0) := by
  by_cases h : cfOk c ∧ (0 ≤ who ∧ who < c.n) ∧ (1 ≤ tr ∧ tr ≤ 1125899906842624)
  · right
    refine ⟨⟨h.1, h.2.1⟩, _, begin_yes h, ⟨?_, rfl, rfl⟩, cntB_rep _ _⟩
    rcases (begin_ok h).2.2 with e | e
    · have : tr = 0 := congrArg Au.try_ e
      omega
    · exact e
  · left; exact begin_no h
end Go.Proofs.Ytgonboccklpoaaa
