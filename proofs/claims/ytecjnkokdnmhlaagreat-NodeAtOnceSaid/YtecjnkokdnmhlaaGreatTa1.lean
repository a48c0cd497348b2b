/- Parts, as far as NodeAtOnceCards reaches them, of: OwnBooks, OwnSet, RightsWords. No law is proved here. -/
import Derived.Test.YtecjnkokdnmhlaaGreatTa0
namespace Go.Proofs.YtecjnkokdnmhlaaGreat
open Go.RowKit
theorem info_row:(Tryz.prog.info? 77).map (fun i=>(i.zero,i.size,i.bytes))=some (some (.agg #[.int .i64 0,.int .i64 0,.slice none 0 0]),3,40):=by kernel_rfl
def OwnG (w:World) (base:Nat) (v:Value) (l:List Rw) (g:Nat→Value):Prop :=
 w.ownsRow base 77 3 v l.length (flatCells 3 l.length (rowCell l g)) ∧
  (∀ k,k < l.length→(∃ A C,g k=.slice A (at_ l k).out.length C)∧w.ownsRow base 2 1 (g k) (at_ l k).out.length ((at_ l k).out.map (Value.int .i64))) ∧
  ∀ i j b,i < l.length→j < l.length→(g i).ownBlock=some b→(g j).ownBlock=some b→i=j
def OwnBooks (w:World) (base:Nat) (v:Value) (l:List Rw):Prop:=∃ g:Nat→Value,OwnG w base v l g
theorem OwnBooks.books {w:World} {base:Nat} {v:Value} {l:List Rw} (h:OwnBooks w base v l) (hb:l.length≤9223372036854775807) (hl:∀ k,k < l.length→(at_ l k).out.length≤9223372036854775807) :
 ∃ A C,v=.slice A l.length C∧Books w (.slice A l.length C) l:=by
 obtain ⟨g,h1,h2,_⟩:=h;obtain ⟨A,C,rfl,_,hE⟩:=elems_of_own h1 hb;refine ⟨A,C,rfl,g,hE,fun k hk=>?_⟩
 obtain ⟨⟨A',C',e⟩,h4⟩:=h2 k hk;obtain ⟨A2,C2,e2,hN⟩:=nums_of_own h4 rfl (hl k hk)
 exact ⟨A',C',e,by rw [e2]; exact hN⟩
theorem OwnG.later {w w':World} {base:Nat} {v:Value} {l:List Rw} {g:Nat→Value} (h:OwnG w base v l g) (hb:Below w.heap.size w w'):OwnG w' base v l g:=by
 obtain ⟨h1,h2,h3⟩:=h
 exact ⟨own_later h1 hb,fun k hk=>⟨(h2 k hk).1,own_later (h2 k hk).2 hb⟩,h3⟩
theorem OwnBooks.later {w w':World} {base:Nat} {v:Value} {l:List Rw} (h:OwnBooks w base v l) (hb:Below w.heap.size w w'):OwnBooks w' base v l:=⟨h.choose,h.choose_spec.later hb⟩
theorem ownG_nil (w:World) (base:Nat) (g:Nat→Value):OwnG w base (.slice none 0 0) [] g :=
 ⟨World.ownsRow_nil _ _ _ _,fun k hk=>absurd hk (by simp),fun i j b hi=>absurd hi (by simp)⟩
theorem ownBooks_nil (w:World) (base:Nat):OwnBooks w base (.slice none 0 0) []:=⟨fun _=>.bool false,ownG_nil _ _ _⟩
theorem at_append_lt {l:List Rw} {r:Rw} {k:Nat} (h:k < l.length):at_ (l ++ [r]) k=at_ l k:=by simp [at_,List.getElem?_append_left h]
theorem at_append_eq (l:List Rw) (r:Rw):at_ (l ++ [r]) l.length=r:=by simp [at_]
theorem ownG_push {w0 w1 w2:World} {base:Nat} {v v' u:Value} {l:List Rw} {r:Rw} {g:Nat→Value} (h:OwnG w0 base v l g) (hb:Below w0.heap.size w0 w1) (hw:base≤w0.heap.size)
 (hu:w1.ownsRow w0.heap.size 2 1 u r.out.length (r.out.map (Value.int .i64))) (hus:∃ A C,u=.slice A r.out.length C)
 (hv:w2.ownsRow base 77 3 v' (l.length + 1) (flatCells 3 (l.length + 1) (fun i j=>if i < l.length then rowCell l g i j else if j=0 then .int .i64 r.inc else if j=1 then .int .i64 r.use else u)))
 (hG:w1.grownBy w2 v.ownBlock):OwnG w2 base v' (l ++ [r]) (fun i=>if i < l.length then g i else u):=by
 obtain ⟨h1,h2,h3⟩:=h;have h1':=own_later h1 hb;refine ⟨?_,fun k hk=>?_,fun i j b hi hj hbi hbj=>?_⟩
 · rw [List.length_append,List.length_singleton]
   have e:flatCells 3 (l.length + 1) (rowCell (l ++ [r]) (fun i=>if i < l.length then g i else u))=flatCells 3 (l.length + 1) (fun i j=>if i < l.length then rowCell l g i j else if j=0 then .int .i64 r.inc else if j=1 then .int .i64 r.use else u):=by
    unfold flatCells
    rw [List.flatMap_def,List.flatMap_def]
    congr 1
    apply List.map_congr_left;intro i hi;apply List.map_congr_left;intro j _
    by_cases hil:i < l.length
    · unfold rowCell
      rw [at_append_lt hil];simp only [if_pos hil]
    · have:i=l.length:=by have:=List.mem_range.1 hi; omega
      subst this
      unfold rowCell
      rw [at_append_eq];simp only [Nat.lt_irrefl,if_false]
   rw [e]; exact hv
 · rw [List.length_append,List.length_singleton] at hk
   by_cases hkl:k < l.length
   · rw [at_append_lt hkl]
     simp only [if_pos hkl];obtain ⟨e,h4⟩:=h2 k hkl
     exact ⟨e,own_kept_apart (own_later h4 hb) h1' (by decide) hG⟩
   · have:k=l.length:=by omega
     subst this;rw [at_append_eq];simp only [Nat.lt_irrefl,if_false];refine ⟨hus,?_⟩;have h5:=own_kept_apart hu h1' (by decide) hG
     exact ⟨h5.1,h5.2.imp id fun ⟨g',cap,cur,e,hb',hh⟩=>⟨g',cap,cur,e,Nat.le_trans hw hb',hh⟩⟩
 · rw [List.length_append,List.length_singleton] at hi hj
   have hlt:∀ k,k < l.length→(g k).ownBlock=some b→b < w0.heap.size:=fun k hk e=>((h2 k hk).2.lt b e).2
   have hge:u.ownBlock=some b→w0.heap.size≤b:=fun e=>(hu.lt b e).1
   by_cases hil:i < l.length
   · simp only [if_pos hil] at hbi
     by_cases hjl:j < l.length
     · simp only [if_pos hjl] at hbj
       exact h3 i j b hil hjl hbi hbj
     · simp only [if_neg hjl] at hbj
       have:=hlt i hil hbi;have:=hge hbj
       omega
   · simp only [if_neg hil] at hbi
     by_cases hjl:j < l.length
     · simp only [if_pos hjl] at hbj
       have:=hlt j hjl hbj;have:=hge hbi
       omega
     · omega
end Go.Proofs.YtecjnkokdnmhlaaGreat
namespace Go.Proofs.YtecjnkokdnmhlaaGreat
open Go.RowKit
theorem flat_set {sz n i j:Nat} {f f':Nat→Nat→Value} {x:Value} (hi:i < n) (hj:j < sz) (hf:∀ p q,p < n→q < sz→f' p q=if p=i∧q=j then x else f p q) :
 (flatCells sz n f).set (i * sz + j) x=flatCells sz n f':=by
 have hlt:i * sz + j < n * sz:=by
  have:(i + 1) * sz≤n * sz:=Nat.mul_le_mul_right sz hi;rw [Nat.succ_mul] at this
  omega
 apply List.ext_getElem?;intro m
 by_cases hm:m < n * sz
 · have hs:0 < sz:=by omega
   have e:=Nat.div_add_mod m sz;rw [Nat.mul_comm] at e;have hq:=Nat.mod_lt m hs;have hp:m / sz < n:=Nat.div_lt_of_lt_mul (by rw [Nat.mul_comm]; exact hm)
   have h2:=flat_at sz n f' (m / sz) (m % sz) hp hq;have h1:=flat_at sz n f (m / sz) (m % sz) hp hq;rw [e] at h1 h2;rw [h2,hf _ _ hp hq,List.getElem?_set]
   by_cases hmi:i * sz + j=m
   · have h3:m / sz=i:=by
      rw [← hmi,Nat.mul_comm,Nat.mul_add_div hs,Nat.div_eq_of_lt hj]; rfl
     have h4:m % sz=j:=by
      rw [← hmi,Nat.mul_comm,Nat.mul_add_mod,Nat.mod_eq_of_lt hj]
     rw [if_pos hmi,if_pos (by rw [flat_length]; exact hlt),if_pos ⟨h3,h4⟩]
   · rw [if_neg hmi,if_neg (fun h=>hmi (by rw [← h.1,← h.2,e])),h1]
 · rw [List.getElem?_eq_none (by rw [List.length_set,flat_length]; omega),List.getElem?_eq_none (by rw [flat_length]; omega)]
theorem own_set {w:World} {base:Nat} {e:TypeId} {sz n:Nat} {v:Value} {f f':Nat→Nat→Value} {x:Value} (h:w.ownsRow base e sz v n (flatCells sz n f)) {i j:Nat} (hi:i < n) (hj:j < sz)
 (hf:∀ p q,p < n→q < sz→f' p q=if p=i∧q=j then x else f p q) :
 ∃ b cap, v = .slice (some ⟨b, 0, none⟩) n cap ∧ base ≤ b ∧ b < w.heap.size ∧ (∀ o, w.frozen? ⟨b, o, none⟩ = false) ∧ (∀ p q, p < n → q < sz → w.cell? ⟨b, p * sz + q, none⟩ = some (f p q)) ∧
   (w.setCell ⟨b,i * sz + j,none⟩ x).ownsRow base e sz v n (flatCells sz n f'):=by
 obtain ⟨hl,⟨_,h0⟩ | ⟨g,cap,cur,rfl,hb,hh,h1,h2,h3,h4⟩⟩:=h
 · omega
 · refine ⟨g,cap,rfl,hb,(Array.getElem?_eq_some_iff.1 hh).1,fun o=>Whole.free (w:=w) (g:=g) (t:=e) (cs:=cur) hh o,fun p q hp hq=>?_,flat_length _ _ _,Or.inr ⟨g,cap,cur.setIfInBounds (i * sz + j) x,rfl,hb,?_,h1,h2,?_,?_⟩⟩
   · have hlt:p * sz + q < n * sz:=by
      have:(p + 1) * sz≤n * sz:=Nat.mul_le_mul_right sz hp;rw [Nat.succ_mul] at this
      omega
     rw [Whole.cell (w:=w) (g:=g) (t:=e) (cs:=cur) hh,← flat_at sz n f p q hp hq,← h4,List.getElem?_take_of_lt hlt,Array.getElem?_toList]
   · exact Whole.set (w:=w) (g:=g) (t:=e) (cs:=cur) hh _ _
   · rw [Array.size_setIfInBounds]; exact h3
   · rw [Array.toList_setIfInBounds,List.take_set,h4]
     exact flat_set hi hj hf
theorem at_set {l:List Rw} {k:Nat} {r:Rw} (hk:k < l.length) (p:Nat):at_ (l.set k r) p=if p=k then r else at_ l p:=by
 unfold at_
 rw [List.getElem?_set]
 by_cases h:k=p
 · subst h; simp [hk]
 · rw [if_neg h,if_neg (fun e=>h e.symm)]
theorem ownG_set {w:World} {base:Nat} {v:Value} {l:List Rw} {g:Nat→Value} (h:OwnG w base v l g) {k j:Nat} (hk:k < l.length) (hj:j < 2) (r:Rw) (x:Int) (hout:r.out=(at_ l k).out)
 (h0:r.inc=if j=0 then x else (at_ l k).inc) (h1:r.use=if j=1 then x else (at_ l k).use) :
 ∃ b cap, v = .slice (some ⟨b, 0, none⟩) l.length cap ∧ base ≤ b ∧ b < w.heap.size ∧ (∀ o, w.frozen? ⟨b, o, none⟩ = false) ∧ (∀ p q, p < l.length → q < 3 → w.cell? ⟨b, p * 3 + q, none⟩ = some (rowCell l g p q)) ∧
   OwnG (w.setCell ⟨b,k * 3 + j,none⟩ (.int .i64 x)) base v (l.set k r) g:=by
 obtain ⟨hr,hg,hd⟩:=h
 obtain ⟨b,cap,hv,hb,hlt,hfz,hc,hs⟩:=own_set (f':=rowCell (l.set k r) g) (x:=.int .i64 x) hr hk (Nat.lt_trans hj (by decide)) (fun p q hp hq=>by
  unfold rowCell
  rw [at_set hk]
  by_cases hpk:p=k
  · subst hpk
    rw [if_pos rfl,h0,h1]
    by_cases hq0:q=0
    · subst hq0
      by_cases hj0:j=0
      · subst hj0; simp
      · simp [hj0,Ne.symm hj0]
    · by_cases hq1:q=1
      · subst hq1
        by_cases hj1:j=1
        · subst hj1; simp
        · simp [hj1,Ne.symm hj1]
      · have:¬ (q=j):=by omega
        simp [hq0,hq1,this]
  · simp [hpk])
 refine ⟨b,cap,hv,hb,hlt,hfz,hc,by rw [List.length_set]; exact hs,fun p hp=>?_,fun p q b' hp hq=>hd p q b' (by rw [List.length_set] at hp; exact hp) (by rw [List.length_set] at hq; exact hq)⟩
 rw [List.length_set] at hp;obtain ⟨e,h4⟩:=hg p hp
 have hat:(at_ (l.set k r) p).out=(at_ l p).out:=by
  rw [at_set hk]
  by_cases hpk:p=k
  · rw [if_pos hpk,hout,hpk]
  · rw [if_neg hpk]
 rw [hat];refine ⟨e,h4.kept (grownBy_set w ⟨b,k * 3 + j,none⟩ _) (.inr ?_)⟩
 exact own_apart hr h4 (by decide) (by rw [hv]; rfl)
theorem ownG_out {w:World} {base:Nat} {v:Value} {l:List Rw} {g:Nat→Value} (h:OwnG w base v l g) {k j:Nat} (hk:k < l.length) (hj:j < (at_ l k).out.length) (x:Int) :
 ∃ b c b2 c2, v = .slice (some ⟨b, 0, none⟩) l.length c ∧ g k = .slice (some ⟨b2, 0, none⟩) (at_ l k).out.length c2 ∧ base ≤ b2 ∧ b2 < w.heap.size ∧ b < w.heap.size ∧ (∀ o, w.frozen? ⟨b2, o, none⟩ = false) ∧
   (∀ p q,p < l.length→q < 3→w.cell? ⟨b,p * 3 + q,none⟩=some (rowCell l g p q))∧w.cell? ⟨b2,j,none⟩=some (.int .i64 ((at_ l k).out[j]?.getD 0)) ∧
   OwnG (w.setCell ⟨b2,j,none⟩ (.int .i64 x)) base v (l.set k ⟨(at_ l k).inc,(at_ l k).use,(at_ l k).out.set j x⟩) g:=by
 obtain ⟨hr,hg,hd⟩:=h
 obtain ⟨b,c,hv,hb,hlt,_,hc,_⟩:=own_set (f':=rowCell l g) (x:=rowCell l g k 0) hr hk (j:=0) (by decide) (fun p q hp hq=>by
  by_cases e:p=k∧q=0
  · rw [if_pos e,e.1,e.2]
  · rw [if_neg e])
 obtain ⟨_,hk4⟩:=hg k hk;have hk5:=hk4;rw [flat_one] at hk5
 obtain ⟨b2,c2,hv2,hb2,hlt2,hfz,hc2,hs⟩:=own_set (f':=fun q _=>.int .i64 (((at_ l k).out.set j x)[q]?.getD 0)) (x:=.int .i64 x) hk5 hj (j:=0) (by decide) (fun p q hp hq=>by
  obtain rfl:q=0:=by omega
  by_cases e:p=j
  · subst e; simp [hp]
  · simp [e,Ne.symm e])
 have hcell:=hc2 j 0 hj (by decide)
 rw [Nat.mul_one,Nat.add_zero] at hcell hs;refine ⟨b,c,b2,c2,hv,hv2,hb2,hlt2,hlt,hfz,hc,hcell,?_,fun p hp=>?_,fun p q b' hp hq=>hd p q b' (by rw [List.length_set] at hp; exact hp) (by rw [List.length_set] at hq; exact hq)⟩
 · have h6:=hr.kept (grownBy_set w ⟨b2,j,none⟩ (.int .i64 x)) (.inr (own_apart hk4 hr (by decide) (by rw [hv2]; rfl)))
   have e:flatCells 3 l.length (rowCell (l.set k ⟨(at_ l k).inc,(at_ l k).use,(at_ l k).out.set j x⟩) g)=flatCells 3 l.length (rowCell l g):=by
    congr 1
    funext p q
    unfold rowCell
    rw [at_set hk]
    by_cases hpk:p=k
    · subst hpk; simp
    · simp [hpk]
   rw [List.length_set,e]; exact h6
 · rw [List.length_set] at hp
   rw [at_set hk]
   by_cases hpk:p=k
   · subst hpk
     rw [if_pos rfl];have hl2:((at_ l p).out.set j x).length=(at_ l p).out.length:=List.length_set;refine ⟨⟨_,c2,by show g p=.slice _ ((at_ l p).out.set j x).length _; rw [hl2]; exact hv2⟩,?_⟩
     show World.ownsRow _ _ _ _ _ ((at_ l p).out.set j x).length _
     have e:=flat_one ((at_ l p).out.set j x);rw [hl2] at e;rw [hl2]
     show World.ownsRow _ _ _ _ _ _ (List.map _ ((at_ l p).out.set j x))
     rw [e]; exact hs
   · rw [if_neg hpk]
     obtain ⟨e,h4⟩:=hg p hp;refine ⟨e,h4.kept (grownBy_set w ⟨b2,j,none⟩ _) (.inr fun e2=>?_)⟩
     exact hpk (hd p k b2 hp hk e2 (by rw [hv2]; rfl))
end Go.Proofs.YtecjnkokdnmhlaaGreat
namespace Go.Proofs.YtecjnkokdnmhlaaGreat
open Go.RowKit
def shareV (c:Cf) (who:Int):Int:=if cfOk c∧0≤who∧who < c.n then c.k / c.n + (if who < c.k - c.k / c.n * c.n then 1 else 0) else 0
theorem shareV_no {c:Cf} {who:Int} (h:¬ (cfOk c∧0≤who∧who < c.n)):shareV c who=0:=if_neg h
def flow (l:List Rw) (who:Nat):Nat→Int
 | 0=>0
 | k + 1=>flow l who k + ((at_ l k).out[who]?.getD 0 - (at_ l who).out[k]?.getD 0)
def rightsV (c:Cf) (l:List Rw) (who:Nat):Int:=shareV c who + (at_ l who).inc - (at_ l who).use + flow l who l.length
def Fits (l:List Rw):Prop:=∀ k,k < l.length→(at_ l k).out.length=l.length∧0≤(at_ l k).inc∧(at_ l k).inc≤1099511627776∧0≤(at_ l k).use∧(at_ l k).use≤1099511627776 ∧
 ∀ j,j < l.length→0≤(at_ l k).out[j]?.getD 0∧(at_ l k).out[j]?.getD 0≤1125899906842624
theorem flow_bound {l:List Rw} (hF:Fits l) {who:Nat} (hw:who < l.length):∀ k,k≤l.length→-(1125899906842624 * (k:Int))≤flow l who k∧flow l who k≤1125899906842624 * (k:Int)
 | 0,_=>by simp [flow]
 | k + 1, hk => by
   have ih:=flow_bound hF hw k (by omega)
   obtain ⟨_,_,_,_,_,h1⟩:=hF k (by omega)
   obtain ⟨_,_,_,_,_,h2⟩:=hF who hw;have h3:=h1 who hw;have h4:=h2 k (by omega)
   simp only [flow]
   omega
theorem shareV_bound (c:Cf) (who:Int):0≤shareV c who∧shareV c who≤1099511627777:=by
 unfold shareV
 split
 · rename_i h
   obtain ⟨⟨g1,_,_,_,_,_,_,_,g9,g10,g11⟩,_,_⟩:=h;have:=Int.mul_nonneg (show 0≤c.n by omega) g10
   have:=Int.ediv_nonneg g9 (show 0≤c.n by omega)
   have:=Int.ediv_le_self c.n g9
   split <;> omega
 · omega
theorem fits_iff (la:List Int) (who:Int):fits (la.zip (mosts who la.length))=true ↔ ∀ k,k < la.length→0≤la[k]?.getD 0∧la[k]?.getD 0≤mostOf who k:=by
 unfold fits
 rw [List.all_eq_true]
 constructor
 · intro h k hk
   have:=h ((la.zip (mosts who la.length))[k]'(by rw [List.length_zip,mosts_length]; omega)) (List.getElem_mem _)
   have:=of_decide_eq_true this;rw [List.getElem_zip] at this;have e:=mosts_at who la.length k hk;rw [List.getElem?_eq_getElem (by rw [mosts_length]; exact hk)] at e
   rw [List.getElem?_eq_getElem hk];simp only [Option.getD_some] at e ⊢;rw [e] at this
   exact this
 · intro h x hx
   obtain ⟨k,hk,rfl⟩:=List.getElem_of_mem hx;rw [List.length_zip,mosts_length] at hk;have:=h k (by omega)
   apply decide_eq_true;rw [List.getElem_zip];have e:=mosts_at who la.length k (by omega)
   rw [List.getElem?_eq_getElem (by rw [mosts_length]; omega)] at e
   rw [List.getElem?_eq_getElem (show k < la.length by omega)] at this
   simp only [Option.getD_some] at e this;rw [e]
   exact this
theorem mayR_iff (i u:Int) (la:List Int) (n who:Int):mayR i u la n who=true ↔ (la.length:Int)=n∧0≤who∧who < n∧(0≤i∧i≤1099511627776)∧(0≤u∧u≤1099511627776)∧∀ k,k < la.length→0≤la[k]?.getD 0∧la[k]?.getD 0≤mostOf who k:=by
 unfold mayR countB
 rw [Bool.and_eq_true,Bool.and_eq_true,Bool.and_eq_true,decide_eq_true_eq,decide_eq_true_eq,decide_eq_true_eq,fits_iff]
 constructor
 · rintro ⟨⟨⟨h1,h2,h3⟩,h4,h5⟩,h6⟩
   exact ⟨h1,h2,h3,h4,h5,h6⟩
 · rintro ⟨h1,h2,h3,h4,h5,h6⟩
   exact ⟨⟨⟨h1,h2,h3⟩,h4,h5⟩,h6⟩
theorem mayR_no {i u:Int} {la:List Int} {n who:Int} (h:¬ ((la.length:Int)=n∧0≤who∧who < n∧(0≤i∧i≤1099511627776)∧(0≤u∧u≤1099511627776)∧∀ k,k < la.length→0≤la[k]?.getD 0∧la[k]?.getD 0≤mostOf who k)):mayR i u la n who=false:=by
 cases e:mayR i u la n who with
 | false=>rfl
 | true=>exact absurd ((mayR_iff _ _ _ _ _).1 e) h
def rightOk (c:Cf) (l:List Rw):Prop:=cfOk c∧(l.length:Int)=c.n∧(∀ i,i < l.length→mayR (at_ l i).inc (at_ l i).use (at_ l i).out c.n i=true∧(at_ l i).inc≤c.c)∧∀ i,i < l.length→0≤rightsV c l i
instance (c:Cf) (l:List Rw):Decidable (rightOk c l):=by unfold rightOk; exact inferInstance
def rightB (c:Cf) (l:List Rw):Bool:=decide (rightOk c l)
theorem rightB_no {c:Cf} {l:List Rw} (h:¬ rightOk c l):rightB c l=false:=decide_eq_false h
theorem rightB_ok {c:Cf} {l:List Rw} (h:rightB c l=true):rightOk c l:=of_decide_eq_true h
theorem fits_of_may {l:List Rw} (h:∀ i,i < l.length→mayR (at_ l i).inc (at_ l i).use (at_ l i).out (l.length:Int) i=true):Fits l:=by
 intro k hk;obtain ⟨h1,h2,h3,⟨h4,h5⟩,⟨h6,h7⟩,h8⟩:=(mayR_iff _ _ _ _ _).1 (h k hk);refine ⟨by omega,h4,h5,h6,h7,fun j hj=>?_⟩
 have h9:=h8 j (by omega)
 unfold mostOf at h9
 split at h9 <;> omega
theorem rightOk.fits {c:Cf} {l:List Rw} (h:rightOk c l):Fits l:=fits_of_may fun i hi=>by rw [h.2.1]; exact (h.2.2.1 i hi).1
theorem rightOk.len {c:Cf} {l:List Rw} (h:rightOk c l):l.length≤16:=by have:=h.1.2.1; have:=h.2.1; omega
def ofV (c:Cf) (l:List Rw) (who:Int):Int:=if rightOk c l∧0≤who∧who < c.n then rightsV c l who.toNat else 0
def sumRights (c:Cf) (l:List Rw):Nat→Int
 | 0=>0
 | k + 1=>sumRights c l k + rightsV c l k
def valueV (c:Cf) (l:List Rw):Int:=if rightOk c l then sumRights c l l.length else 0
theorem rightsV_bound {c:Cf} {l:List Rw} (hF:Fits l) (h16:l.length≤16) {who:Nat} (hw:who < l.length):-(1125899906842624 * 17)≤rightsV c l who∧rightsV c l who≤1125899906842624 * 17:=by
 have h1:=flow_bound hF hw l.length (Nat.le_refl _);have h2:=shareV_bound c who;obtain ⟨_,h3,h4,h5,h6,_⟩:=hF who hw
 unfold rightsV
 omega
def sameL (la lb:List Rw):Bool:=decide (la.length=lb.length∧∀ k,k < la.length→sameB (at_ la k).inc (at_ la k).use (at_ la k).out (at_ lb k).inc (at_ lb k).use (at_ lb k).out=true)
theorem sameL_no {la lb:List Rw} (h:¬ (la.length=lb.length∧∀ k,k < la.length→sameB (at_ la k).inc (at_ la k).use (at_ la k).out (at_ lb k).inc (at_ lb k).use (at_ lb k).out=true)):sameL la lb=false:=decide_eq_false h
theorem sameL_self (l:List Rw):sameL l l=true:=decide_eq_true ⟨rfl,fun _ _=>decide_eq_true ⟨rfl,rfl,rfl⟩⟩
def Reach (l:List Rw):Prop:=l.length≤17592186044416∧∀ k,k < l.length→(at_ l k).out.length≤17592186044416
def bulk (l:List Rw):Nat→Nat
 | 0=>l.length
 | k + 1=>bulk l k + (at_ l k).out.length
theorem bulk_mono (l:List Rw):∀ j k,j≤k→bulk l j≤bulk l k
 | j, 0, h => by obtain rfl : j = 0 := by omega
                 exact Nat.le_refl _
 | j, k + 1, h => by
   by_cases e:j=k + 1
   · rw [e]; exact Nat.le_refl _
   · exact Nat.le_trans (bulk_mono l j k (by omega)) (by simp only [bulk]; omega)
def shortB (l:List Rw):Bool:=decide (bulk l l.length≤400)
theorem take_at {l:List Rw} {k:Nat} (h:k < l.length):l.take (k + 1)=l.take k ++ [at_ l k]:=by
 rw [List.take_succ_eq_append_getElem h,at_lt h]
theorem one_row {w:World} {g:Nat} {i u:Int} {v:Value} (h:Whole w g 77 #[.int .i64 i,.int .i64 u,v]):Elems w (.slice (some ⟨g,0,none⟩) 1 1) 3 1 (fun _ j=>if j=0 then .int .i64 i else if j=1 then .int .i64 u else v):=by
 refine ⟨by decide,Or.inr ⟨g,0,1,rfl,Nat.le_refl _,fun i' j hi hj=>?_⟩⟩
 obtain rfl:i'=0:=by omega
 rw [h.cell]
 match j,hj with
 | 0,_=>rfl
 | 1,_=>rfl
 | 2,_=>rfl
def Copied (w:World) (l:List Rw) (e:Ending) (w':World):Prop:=∃ A C,e=.returned (.slice A l.length C)∧OwnBooks w' w.heap.size (.slice A l.length C) l∧Below w.heap.size w w'
def zeroRow (n:Nat):Rw:=⟨0,0,List.replicate n 0⟩
def newL (c:Cf):List Rw:=if cfOk c then List.replicate c.n.toNat (zeroRow c.n.toNat) else []
theorem made_flat (n:Nat):(madeCells #[.int .i64 0] n).toList=(List.replicate n (0:Int)).map (Value.int .i64):=by
 unfold madeCells
 apply List.ext_getElem
 · simp
 · intro i h1 h2
   simp [Nat.mod_one]
def askedV (c:Cf) (l:List Rw) (who amount:Int):Int:=if rightOk c l∧0≤who∧who < c.n then (if 1≤amount∧amount≤1099511627776 then 0 else 2) else 1
theorem askedV_no {c:Cf} {l:List Rw} {who amount:Int} (h:¬ (rightOk c l∧0≤who∧who < c.n)):askedV c l who amount=1:=if_neg h
theorem askedV_zero {c:Cf} {l:List Rw} {who amount:Int} (h:askedV c l who amount=0):rightOk c l∧0≤who∧who < c.n∧1≤amount∧amount≤1099511627776:=by
 unfold askedV at h
 split at h
 · rename_i h1
   split at h
   · rename_i h2; exact ⟨h1.1,h1.2.1,h1.2.2,h2⟩
   · cases h
 · cases h
theorem askedV_cases (c:Cf) (l:List Rw) (who amount:Int):askedV c l who amount=0∨askedV c l who amount=1∨askedV c l who amount=2:=by
 unfold askedV
 split
 · split
   · exact Or.inl rfl
   · exact Or.inr (Or.inr rfl)
 · exact Or.inr (Or.inl rfl)
theorem cf_most {c:Cf} (h:cfOk c):0≤c.c∧c.c≤1099511627776:=by
 obtain ⟨h1,_,_,_,_,_,_,_,h9,h10,h11⟩:=h;refine ⟨h10,?_⟩;have:=Int.mul_le_mul_of_nonneg_right h1 h10
 omega
def takeR (c:Cf) (l:List Rw) (who amount:Int):List Rw × Int :=
 if askedV c l who amount=0 then
  (if amount≤rightsV c l who.toNat then (if (at_ l who.toNat).use + amount≤1099511627776 then (l.set who.toNat ⟨(at_ l who.toNat).inc,(at_ l who.toNat).use + amount,(at_ l who.toNat).out⟩,0) else ([],6)) else ([],7))
 else ([],askedV c l who amount)
def moveR (c:Cf) (l:List Rw) (who tg amount:Int):List Rw × Int :=
 if askedV c l who amount ≠ 1∧0≤tg∧tg < c.n∧tg ≠ who then
  (if askedV c l who amount=0 then
   (if amount≤rightsV c l who.toNat then
    (if (at_ l who.toNat).out[tg.toNat]?.getD 0 + amount≤1125899906842624 then (l.set who.toNat ⟨(at_ l who.toNat).inc,(at_ l who.toNat).use,(at_ l who.toNat).out.set tg.toNat ((at_ l who.toNat).out[tg.toNat]?.getD 0 + amount)⟩,0) else ([],6))
    else ([],7))
   else ([],2))
 else ([],1)
def Num (w:World) (x:Int) (e:Ending) (w':World):Prop:=e=.returned (.int .i64 x)∧Below w.heap.size w w'
def amongB (c:Cf) (who:Int):Bool:=decide (0≤who∧who < c.n)
theorem amongB_yes {c:Cf} {who:Int} (h:0≤who∧who < c.n):amongB c who=true:=decide_eq_true h
theorem amongB_no {c:Cf} {who:Int} (h:¬ (0≤who∧who < c.n)):amongB c who=false:=decide_eq_false h
theorem rem_eq {k n:Int}:k % n=k - k / n * n:=by
 have:=Int.mul_ediv_add_emod k n;rw [Int.mul_comm] at this
 omega
def sumN (g:Nat→Int):Nat→Int
 | 0=>0
 | k + 1=>sumN g k + g k
theorem sumN_bound {g:Nat→Int} {b:Int} {n:Nat} (h:∀ k,k < n→-b≤g k∧g k≤b):∀ k,k≤n→-(b * (k:Int))≤sumN g k∧sumN g k≤b * (k:Int)
 | 0,_=>by simp [sumN]
 | k + 1, hk => by
   have ih:=sumN_bound h k (by omega)
   have h1:=h k (by omega)
   simp only [sumN];rw [show ((k + 1:Nat):Int)=(k:Int) + 1 by omega,Int.mul_add,Int.mul_one]
   omega
theorem askedV_two {c:Cf} {l:List Rw} {who amount:Int} (h:rightOk c l∧0≤who∧who < c.n) (hw:¬ (1≤amount∧amount≤1099511627776)):askedV c l who amount=2:=by
 unfold askedV; rw [if_pos h,if_neg hw]
theorem askedV_none {c:Cf} {l:List Rw} {who amount:Int} (h:rightOk c l∧0≤who∧who < c.n) (hw:1≤amount∧amount≤1099511627776):askedV c l who amount=0:=by
 unfold askedV; rw [if_pos h,if_pos hw]
theorem rTake_one {c:Cf} {l:List Rw} {who amount:Int} (h:¬ (rightOk c l∧0≤who∧who < c.n)):takeR c l who amount=([],1):=by
 unfold takeR; rw [askedV_no h]; exact if_neg (by decide)
theorem rTake_two {c:Cf} {l:List Rw} {who amount:Int} (h:rightOk c l∧0≤who∧who < c.n) (hw:¬ (1≤amount∧amount≤1099511627776)):takeR c l who amount=([],2):=by
 unfold takeR; rw [askedV_two h hw]; exact if_neg (by decide)
theorem rTake_three {c:Cf} {l:List Rw} {who amount:Int} (h:rightOk c l∧0≤who∧who < c.n) (hw:1≤amount∧amount≤1099511627776) :
 takeR c l who amount=if amount≤rightsV c l who.toNat then (if (at_ l who.toNat).use + amount≤1099511627776 then (l.set who.toNat ⟨(at_ l who.toNat).inc,(at_ l who.toNat).use + amount,(at_ l who.toNat).out⟩,0) else ([],6)) else ([],7):=by
 unfold takeR; rw [if_pos (askedV_none h hw)]
theorem rMove_one {c:Cf} {l:List Rw} {who tg amount:Int} (h:¬ (rightOk c l∧(0≤who∧who < c.n)∧(0≤tg∧tg < c.n)∧tg ≠ who)):moveR c l who tg amount=([],1):=by
 unfold moveR
 refine if_neg fun h'=>?_
 by_cases h2:rightOk c l∧0≤who∧who < c.n
 · exact h ⟨h2.1,h2.2,⟨h'.2.1,h'.2.2.1⟩,h'.2.2.2⟩
 · exact h'.1 (askedV_no h2)
theorem rMove_two {c:Cf} {l:List Rw} {who tg amount:Int} (h:rightOk c l∧(0≤who∧who < c.n)∧(0≤tg∧tg < c.n)∧tg ≠ who) (hw:¬ (1≤amount∧amount≤1099511627776)):moveR c l who tg amount=([],2):=by
 have e:=askedV_two ⟨h.1,h.2.1⟩ hw
 unfold moveR; rw [e,if_pos ⟨by decide,h.2.2.1.1,h.2.2.1.2,h.2.2.2⟩]; exact if_neg (by decide)
theorem rMove_three {c:Cf} {l:List Rw} {who tg amount:Int} (h:rightOk c l∧(0≤who∧who < c.n)∧(0≤tg∧tg < c.n)∧tg ≠ who) (hw:1≤amount∧amount≤1099511627776) :
 moveR c l who tg amount=if amount≤rightsV c l who.toNat then
  (if (at_ l who.toNat).out[tg.toNat]?.getD 0 + amount≤1125899906842624 then (l.set who.toNat ⟨(at_ l who.toNat).inc,(at_ l who.toNat).use,(at_ l who.toNat).out.set tg.toNat ((at_ l who.toNat).out[tg.toNat]?.getD 0 + amount)⟩,0) else ([],6))
  else ([],7):=by
 have e:=askedV_none ⟨h.1,h.2.1⟩ hw
 unfold moveR; rw [e,if_pos ⟨by decide,h.2.2.1.1,h.2.2.1.2,h.2.2.2⟩]; exact if_pos rfl
end Go.Proofs.YtecjnkokdnmhlaaGreat
