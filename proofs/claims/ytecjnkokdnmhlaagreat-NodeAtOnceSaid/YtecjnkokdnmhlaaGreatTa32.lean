/- Parts, as far as NodeAtOnceCards reaches them, of: NodeAsk. No law is proved here. -/
import Derived.Test.YtecjnkokdnmhlaaGreatTa30
import Derived.Test.YtecjnkokdnmhlaaGreatTa31
namespace Go.Proofs.YtecjnkokdnmhlaaGreat
open Go.RowKit
set_option maxRecDepth 100000 in
set_option maxHeartbeats 8000000 in
theorem ask18_calls {n0 g:Nat} {E:Nat→Prop} {c:Cf} {who:Int} {x:Nd} {p:Nl} {code:Int} {W:World} (h:St n0 E W g c who x p code) (hc:code=0) (hI:IK c who (clearK x.bk)) :
 Calls Tryz.prog 123 #[.pointer (some ⟨g,0,none⟩)] W (fun e w'=>e=.returned (.tuple #[])∧StepTo n0 E g c who p W (bkN x (askK c who x.bk).1) (askK c who x.bk).2 w'):=by
 subst hc;have hlt:=h.lt;have HS:=qH h;have HI:=qH hI;clear h hI;obtain ⟨⟨kr,cd⟩,Hr⟩:∃ z,Hid (askK c who x.bk=z):=⟨_,rfl⟩;rw [Hr.out];simp only;obtain ⟨bw,Hbw⟩:∃ z,Hid (decide (0 < x.bk.line.length)=z):=⟨_,rfl⟩
 go_enter Tryz.func123,Tryz.ntmps123
 go_wp2_with fail
 refine (waits_calls HS.out).mono ?_;rw [Hbw.out];rintro e w1 ⟨rfl,rfl⟩
 cases bw with
 | false =>
   have h0:x.bk.line=[]:=List.eq_nil_of_length_eq_zero (by have:=of_decide_eq_false Hbw.out; omega)
   have hR:=Hr.out.symm.trans (ask_nil h0)
   go_wp2_with fail
   exact bodyPost_ret (v:=.tuple #[]) (by simp [results,Tryz.results123,go_sem]) rfl ⟨rfl,by rw [show kr=_ from congrArg Prod.fst hR,show cd=_ from congrArg Prod.snd hR]; exact ⟨_,HS.out,Kept.refl _ _ _⟩⟩
 | true =>
 have h0:x.bk.line ≠ []:=fun h=>by have:=of_decide_eq_true Hbw.out; rw [h] at this; simp at this
 have hIa:=HI.out.asks;rw [clear_asks] at hIa;have hI5:=HI.out.2.2.2.2.1;have ha0:0≤x.bk.asks:=hI5.2.1;have har:x.bk.asks≤c.r:=hI5.2.2;have hcf:=HI.out.1.1
 unfold cfOk at hcf
 have hr8:c.r≤8:=by omega
 obtain ⟨k1,Hk1⟩:∃ z,Hid (asksK c x.bk=z):=⟨_,rfl⟩;obtain ⟨x1,Hx1⟩:∃ z,Hid (bkN x k1=z):=⟨_,rfl⟩;have hx1:asksK c x.bk=x1.bk:=by rw [← Hx1.out]; exact Hk1.out
 rw [hx1] at hIa;have Few:Hid (x1.bk.notes.length≤1000):=hIa.few.2.2;have Hal:Hid (0≤x1.bk.asks∧x1.bk.asks≤8):=by have h1:=hIa.2.2.2.2.1.2; have h2:0≤x1.bk.asks∧x1.bk.asks≤c.r:=h1; exact ⟨h2.1,by omega⟩
 obtain ⟨T,HT⟩:∃ z,Hid (tickT x1.bk.clk 0=z):=⟨_,rfl⟩;obtain ⟨C,HC⟩:∃ z,Hid (tickC x1.bk.clk 0=z):=⟨_,rfl⟩;obtain ⟨hz,Hhz⟩:∃ z,Hid (heldB c who x1.bk.notes (headQ x1.bk).t (headQ x1.bk).a=z):=⟨_,rfl⟩;obtain ⟨nz,Hnz⟩:∃ z,Hid ((!decide (x1.bk.au.try_=0∧x1.bk.au.ph=0))=z):=⟨_,rfl⟩;have hask:=Hr.out
 unfold askK at hask
 rw [if_neg h0,hx1,HT.out,HC.out] at hask
 have Hyes:Hid ((x1.bk.asks < c.r∨¬ (x1.bk.au.try_=0∧x1.bk.au.ph=0)∨heldB c who x1.bk.notes (headQ x1.bk).t (headQ x1.bk).a=true)→bkN x kr=x1∧cd=0):=qH fun h=>by
  rw [if_pos h] at hask;have e1:x1.bk=kr:=congrArg Prod.fst hask;have e2:(0:Int)=cd:=congrArg Prod.snd hask
  exact ⟨by rw [← e1,← Hx1.out],e2.symm⟩
 have Hno:Hid ((¬ x1.bk.asks < c.r∧¬ ¬ (x1.bk.au.try_=0∧x1.bk.au.ph=0)∧¬ heldB c who x1.bk.notes (headQ x1.bk).t (headQ x1.bk).a=true)→(bkN x kr,cd)=(if C=0 then (bkN x (auK (clksK x1.bk T) (beginA c who T).1),(beginA c who T).2) else (bkN x1 (clksK x1.bk T),C))):=qH fun h=>by
  rw [if_neg (fun k=>k.elim h.1 fun k=>k.elim h.2.1 h.2.2)] at hask
  by_cases hC:C=0
  · rw [if_pos hC] at hask ⊢
    rw [show kr=_ from (congrArg Prod.fst hask).symm,show cd=_ from (congrArg Prod.snd hask).symm]
  · rw [if_neg hC] at hask ⊢
    rw [show kr=_ from (congrArg Prod.fst hask).symm,show cd=_ from (congrArg Prod.snd hask).symm,← Hx1.out]
 clear hask hIa hI5 hcf;have z4:W.cell? ⟨g,4,none⟩=some (.int .i64 x.bk.asks):=HS.out.ob.cell 4;have z17:W.cell? ⟨g,17,none⟩=some (.int .i64 c.r):=HS.out.ob.cell 17
 go_wp2_with fail
 go_quiet (fail)
 have hqd:Below W.heap.size W (W.drewN nq):=below_drewN (Below.refl _ _) nq;have HS0:=qH (HS.out.later hqd);have HK0:Hid (Kept g p p W (W.drewN nq)):=qH (Kept.of hqd);clear z4 z17 hqd;obtain ⟨W0,HW0⟩:∃ z,Hid (W.drewN nq=z):=⟨_,rfl⟩;rw [HW0.out] at HS0 HK0
 try rw [HW0.out]
 by_cases hlt1:x.bk.asks < c.r
 · have hx:x1=bkN x (asksN x.bk (x.bk.asks + 1)):=by rw [← Hx1.out,← Hk1.out]; unfold asksK; rw [if_pos ⟨h0,hlt1⟩]
   have z4:W0.cell? ⟨g,4,none⟩=some (.int .i64 x.bk.asks):=HS0.out.ob.cell 4;have y4:=HS0.out.ob.free 4;have hlt0:=HS0.out.lt;have hM:=HS0.out.asks (x.bk.asks + 1);rw [← hx] at hM;have HS1:=qH hM.1;have HK1:=qH (HK0.out.trans hM.2);clear hM hx h0
   go_wp2_with fail
   clear z4 y4 hlt0 hlt;obtain ⟨W1,HW1⟩:∃ z,Hid (W0.setCell ⟨g,4,none⟩ (.int .i64 (x.bk.asks + 1))=z):=⟨_,rfl⟩;rw [HW1.out] at HS1 HK1 ⊢;have hlt1':=HS1.out.lt;have HS1':=qH HS1.out;have few1:x1.bk.notes.length≤1000:=Few.out;have hal:0≤x1.bk.asks∧x1.bk.asks≤8:=Hal.out
   have O3:Hid (∀ w',Below W1.heap.size W1 w'→Calls Tryz.prog 138 #[.pointer (some ⟨g,0,none⟩)] w' (Says w' hz)):=fun w' hb=>by
    have h1:=stepheld_calls (HS1.out.later hb) Few.out;rw [Hhz.out] at h1
    exact h1
   have heq:∀ w:World,(binOp .neq 29 (.agg #[.int .i64 x1.bk.au.try_,.int .i64 x1.bk.au.ph]) (.agg #[.int .i64 0,.int .i64 0])).run Tryz.prog w=.ok (.bool nz) w:=fun w=>(run_neq_lk w _ _ 0 0).trans (by rw [← Hnz.out])
   have KP3:Hid (∀ w',Below W1.heap.size W1 w'→(Below W1.heap.size W1 w'∧w'.cell? ⟨g,4,none⟩=some (.int .i64 x1.bk.asks)∧w'.cell? ⟨g,15,none⟩=some (.int .i64 c.n)∧w'.cell? ⟨g,16,none⟩=some (.int .i64 c.q)∧w'.cell? ⟨g,17,none⟩=some (.int .i64 c.r)∧w'.cell? ⟨g,18,none⟩=some (.int .i64 c.p)∧w'.cell? ⟨g,19,none⟩=some (.int .i64 c.k)∧w'.cell? ⟨g,20,none⟩=some (.int .i64 c.c)∧w'.cell? ⟨g,6,none⟩=some (.int .i64 x1.bk.au.try_)∧w'.cell? ⟨g,7,none⟩=some (.int .i64 x1.bk.au.ph))):=fun w' hb=>⟨hb,(HS1.out.later hb).ob.cell 4,(HS1.out.later hb).ob.cell 15,(HS1.out.later hb).ob.cell 16,(HS1.out.later hb).ob.cell 17,(HS1.out.later hb).ob.cell 18,(HS1.out.later hb).ob.cell 19,(HS1.out.later hb).ob.cell 20,(HS1.out.later hb).ob.cell 6,(HS1.out.later hb).ob.cell 7⟩
   have z4:W1.cell? ⟨g,4,none⟩=some (.int .i64 x1.bk.asks):=HS1.out.ob.cell 4;have z15:W1.cell? ⟨g,15,none⟩=some (.int .i64 c.n):=HS1.out.ob.cell 15;have z16:W1.cell? ⟨g,16,none⟩=some (.int .i64 c.q):=HS1.out.ob.cell 16;have z17:W1.cell? ⟨g,17,none⟩=some (.int .i64 c.r):=HS1.out.ob.cell 17;have z18:W1.cell? ⟨g,18,none⟩=some (.int .i64 c.p):=HS1.out.ob.cell 18;have z19:W1.cell? ⟨g,19,none⟩=some (.int .i64 c.k):=HS1.out.ob.cell 19
   have z20:W1.cell? ⟨g,20,none⟩=some (.int .i64 c.c):=HS1.out.ob.cell 20;have z6:W1.cell? ⟨g,6,none⟩=some (.int .i64 x1.bk.au.try_):=HS1.out.ob.cell 6;have z7:W1.cell? ⟨g,7,none⟩=some (.int .i64 x1.bk.au.ph):=HS1.out.ob.cell 7
   by_cases hA:x1.bk.asks < c.r
   · have hR:=Hyes.out (Or.inl hA)
     have s1:decide (x1.bk.asks < c.r)=true:=decide_eq_true hA
     go_wp2_with fail
     refine wp_region_held_drew (S:=(fun w'=>Below W1.heap.size W1 w'∧w'.cell? ⟨g,4,none⟩=some (.int .i64 x1.bk.asks)∧w'.cell? ⟨g,15,none⟩=some (.int .i64 c.n)∧w'.cell? ⟨g,16,none⟩=some (.int .i64 c.q)∧w'.cell? ⟨g,17,none⟩=some (.int .i64 c.r)∧w'.cell? ⟨g,18,none⟩=some (.int .i64 c.p)∧w'.cell? ⟨g,19,none⟩=some (.int .i64 c.k)∧w'.cell? ⟨g,20,none⟩=some (.int .i64 c.c)∧w'.cell? ⟨g,6,none⟩=some (.int .i64 x1.bk.au.try_)∧w'.cell? ⟨g,7,none⟩=some (.int .i64 x1.bk.au.ph))) (by kernel_rfl) (KP3.out _ (Below.refl _ _).drew) (fun hHeld=>?_)
     refine qT 0 25 ?_ rfl ?_ ?_
     rotate_left 1
     · intro w hSw
       try dsimp only at hSw
       go_simp
       try with_reducible rfl
     simp only [Act.put,qA,qB,qC];refine qT 1 26 ?_ rfl ?_ ?_
     rotate_left 1
     · intro w hSw
       try dsimp only at hSw
       go_simp
       try with_reducible rfl
     simp only [Act.put,qA,qB,qC];refine qT 2 27 ?_ rfl ?_ ?_
     rotate_left 1
     · intro w hSw
       try dsimp only at hSw
       go_simp
       try with_reducible rfl
     simp only [Act.put,qA,qB,qC];refine qT 3 28 ?_ rfl ?_ ?_
     rotate_left 1
     · intro w hSw
       try dsimp only at hSw
       go_simp
       try with_reducible rfl
     simp only [Act.put,qA,qB,qC];refine qT 4 29 ?_ rfl ?_ ?_
     rotate_left 1
     · intro w hSw
       try dsimp only at hSw
       go_simp
       try with_reducible rfl
     simp only [Act.put,qA,qB,qC];refine qT 5 30 ?_ rfl ?_ ?_
     rotate_left 1
     · intro w hSw
       try dsimp only at hSw
       go_simp
       try with_reducible rfl
     simp only [Act.put,qA,qB,qC];refine qT 6 31 ?_ rfl ?_ ?_
     rotate_left 1
     · intro w hSw
       try dsimp only at hSw
       go_simp
       try with_reducible rfl
     simp only [Act.put,qA,qB,qC];refine qT 7 32 ?_ rfl ?_ ?_
     rotate_left 1
     · intro w hSw
       try dsimp only at hSw
       go_simp
       try with_reducible rfl
     simp only [Act.put,qA,qB,qC];refine qT 8 33 ?_ rfl ?_ ?_
     rotate_left 1
     · intro w hSw
       try dsimp only at hSw
       go_simp
       try with_reducible rfl
     simp only [Act.put,qA,qB,qC];refine qT 9 34 ?_ rfl ?_ ?_
     rotate_left 1
     · intro w hSw
       try dsimp only at hSw
       go_simp
       try with_reducible rfl
     simp only [Act.put,qA,qB,qC];refine qT 10 35 ?_ rfl ?_ ?_
     rotate_left 1
     · intro w hSw
       try dsimp only at hSw
       go_simp
       try simp only [s1]
       try with_reducible rfl
     simp only [Act.put,qA,qB,qC];refine qT 11 36 ?_ rfl ?_ ?_
     rotate_left 1
     · intro w hSw
       try dsimp only at hSw
       go_simp
       try with_reducible rfl
     simp only [Act.put,qA,qB,qC];refine qS 12 37 rfl ?_;simp only [Act.put,qA,qB,qC];refine qS 13 38 rfl ?_;simp only [Act.put,qA,qB,qC];refine qS 14 39 rfl ?_;simp only [Act.put,qA,qB,qC];refine qS 15 40 rfl ?_;simp only [Act.put,qA,qB,qC];refine qS 16 41 rfl ?_;simp only [Act.put,qA,qB,qC];refine qS 17 42 rfl ?_;simp only [Act.put,qA,qB,qC];refine qS 18 43 rfl ?_;simp only [Act.put,qA,qB,qC];refine qS 19 44 rfl ?_
     simp only [Act.put,qA,qB,qC];refine qT 20 45 ?_ rfl ?_ ?_
     rotate_left 1
     · intro w hSw
       try dsimp only at hSw
       go_simp
       try with_reducible rfl
     simp only [Act.put,qA,qB,qC];refine qT 21 46 ?_ rfl ?_ ?_
     rotate_left 1
     · intro w hSw
       try dsimp only at hSw
       go_simp
       try with_reducible rfl
     simp only [Act.put,qA,qB,qC];refine qS 22 47 rfl ?_;simp only [Act.put,qA,qB,qC];refine qS 23 48 rfl ?_;simp only [Act.put,qA,qB,qC];refine qT 24 49 ?_ rfl ?_ ?_
     rotate_left 1
     · intro w hSw
       try dsimp only at hSw
       go_simp
       try with_reducible rfl
     simp only [Act.put,qA,qB,qC];refine wpAnyH_done (by kernel_rfl) ?_ _
     have HS3:=qH (HS1.out.later hHeld.1);have HK3:=qH (HK1.out.next hHeld.1);clear hHeld
     go_wp2_with fail
     exact bodyPost_ret (v:=.tuple #[]) (by simp [results,Tryz.results123,go_sem]) rfl ⟨rfl,by rw [hR.1,hR.2]; exact ⟨_,HS3.out,HK3.out⟩⟩
   have s1:decide (x1.bk.asks < c.r)=false:=decide_eq_false hA
   cases nz with
   | true =>
     have hR:=Hyes.out (Or.inr (Or.inl (of_decide_eq_false (by have h:=Hnz.out; revert h; cases decide (x1.bk.au.try_=0∧x1.bk.au.ph=0) <;> simp))))
     go_wp2_with fail
     refine wp_region_held_drew (S:=(fun w'=>Below W1.heap.size W1 w'∧w'.cell? ⟨g,4,none⟩=some (.int .i64 x1.bk.asks)∧w'.cell? ⟨g,15,none⟩=some (.int .i64 c.n)∧w'.cell? ⟨g,16,none⟩=some (.int .i64 c.q)∧w'.cell? ⟨g,17,none⟩=some (.int .i64 c.r)∧w'.cell? ⟨g,18,none⟩=some (.int .i64 c.p)∧w'.cell? ⟨g,19,none⟩=some (.int .i64 c.k)∧w'.cell? ⟨g,20,none⟩=some (.int .i64 c.c)∧w'.cell? ⟨g,6,none⟩=some (.int .i64 x1.bk.au.try_)∧w'.cell? ⟨g,7,none⟩=some (.int .i64 x1.bk.au.ph))) (by kernel_rfl) (KP3.out _ (Below.refl _ _).drew) (fun hHeld=>?_)
     refine qT 0 25 ?_ rfl ?_ ?_
     rotate_left 1
     · intro w hSw
       try dsimp only at hSw
       go_simp
       try with_reducible rfl
     simp only [Act.put,qA,qB,qC];refine qT 1 26 ?_ rfl ?_ ?_
     rotate_left 1
     · intro w hSw
       try dsimp only at hSw
       go_simp
       try with_reducible rfl
     simp only [Act.put,qA,qB,qC];refine qT 2 27 ?_ rfl ?_ ?_
     rotate_left 1
     · intro w hSw
       try dsimp only at hSw
       go_simp
       try with_reducible rfl
     simp only [Act.put,qA,qB,qC];refine qT 3 28 ?_ rfl ?_ ?_
     rotate_left 1
     · intro w hSw
       try dsimp only at hSw
       go_simp
       try with_reducible rfl
     simp only [Act.put,qA,qB,qC];refine qT 4 29 ?_ rfl ?_ ?_
     rotate_left 1
     · intro w hSw
       try dsimp only at hSw
       go_simp
       try with_reducible rfl
     simp only [Act.put,qA,qB,qC];refine qT 5 30 ?_ rfl ?_ ?_
     rotate_left 1
     · intro w hSw
       try dsimp only at hSw
       go_simp
       try with_reducible rfl
     simp only [Act.put,qA,qB,qC];refine qT 6 31 ?_ rfl ?_ ?_
     rotate_left 1
     · intro w hSw
       try dsimp only at hSw
       go_simp
       try with_reducible rfl
     simp only [Act.put,qA,qB,qC];refine qT 7 32 ?_ rfl ?_ ?_
     rotate_left 1
     · intro w hSw
       try dsimp only at hSw
       go_simp
       try with_reducible rfl
     simp only [Act.put,qA,qB,qC];refine qT 8 33 ?_ rfl ?_ ?_
     rotate_left 1
     · intro w hSw
       try dsimp only at hSw
       go_simp
       try with_reducible rfl
     simp only [Act.put,qA,qB,qC];refine qT 9 34 ?_ rfl ?_ ?_
     rotate_left 1
     · intro w hSw
       try dsimp only at hSw
       go_simp
       try with_reducible rfl
     simp only [Act.put,qA,qB,qC];refine qT 10 35 ?_ rfl ?_ ?_
     rotate_left 1
     · intro w hSw
       try dsimp only at hSw
       go_simp
       try simp only [s1]
       try with_reducible rfl
     simp only [Act.put,qA,qB,qC];refine qT 11 36 ?_ rfl ?_ ?_
     rotate_left 1
     · intro w hSw
       try dsimp only at hSw
       go_simp
       try with_reducible rfl
     simp only [Act.put,qA,qB,qC];refine qT 12 37 ?_ rfl ?_ ?_
     rotate_left 1
     · intro w hSw
       try dsimp only at hSw
       go_simp
       try with_reducible rfl
     simp only [Act.put,qA,qB,qC];refine qT 13 38 ?_ rfl ?_ ?_
     rotate_left 1
     · intro w hSw
       try dsimp only at hSw
       go_simp
       try with_reducible rfl
     simp only [Act.put,qA,qB,qC];refine qT 14 39 ?_ rfl ?_ ?_
     rotate_left 1
     · intro w hSw
       try dsimp only at hSw
       go_simp
       try with_reducible rfl
     simp only [Act.put,qA,qB,qC];refine qT 15 40 ?_ rfl ?_ ?_
     rotate_left 1
     · intro w hSw
       try dsimp only at hSw
       go_simp
       try with_reducible rfl
     simp only [Act.put,qA,qB,qC];refine qT 16 41 ?_ rfl ?_ ?_
     rotate_left 1
     · intro w hSw
       try dsimp only at hSw
       go_simp
       try with_reducible rfl
     simp only [Act.put,qA,qB,qC];refine qT 17 42 ?_ rfl ?_ ?_
     rotate_left 1
     · intro w hSw
       try dsimp only at hSw
       go_simp
       try with_reducible rfl
     simp only [Act.put,qA,qB,qC];refine qT 18 43 ?_ rfl ?_ ?_
     rotate_left 1
     · intro w hSw
       try dsimp only at hSw
       go_simp
       try with_reducible rfl
     simp only [Act.put,qA,qB,qC];refine qT 19 44 ?_ rfl ?_ ?_
     rotate_left 1
     · intro w hSw
       try dsimp only at hSw
       go_simp
       try simp only [heq]
       try with_reducible rfl
     simp only [Act.put,qA,qB,qC];refine qT 20 45 ?_ rfl ?_ ?_
     rotate_left 1
     · intro w hSw
       try dsimp only at hSw
       go_simp
       try with_reducible rfl
     simp only [Act.put,qA,qB,qC];refine qT 21 46 ?_ rfl ?_ ?_
     rotate_left 1
     · intro w hSw
       try dsimp only at hSw
       go_simp
       try with_reducible rfl
     simp only [Act.put,qA,qB,qC];refine qS 22 47 rfl ?_;simp only [Act.put,qA,qB,qC];refine qS 23 48 rfl ?_;simp only [Act.put,qA,qB,qC];refine qT 24 49 ?_ rfl ?_ ?_
     rotate_left 1
     · intro w hSw
       try dsimp only at hSw
       go_simp
       try with_reducible rfl
     simp only [Act.put,qA,qB,qC];refine wpAnyH_done (by kernel_rfl) ?_ _
     have HS3:=qH (HS1.out.later hHeld.1);have HK3:=qH (HK1.out.next hHeld.1);clear hHeld
     go_wp2_with fail
     exact bodyPost_ret (v:=.tuple #[]) (by simp [results,Tryz.results123,go_sem]) rfl ⟨rfl,by rw [hR.1,hR.2]; exact ⟨_,HS3.out,HK3.out⟩⟩
   | false =>
   cases hz with
   | true =>
     have hR:=Hyes.out (Or.inr (Or.inr Hhz.out))
     go_wp2_with fail
     refine wp_region_held_drew (S:=(fun w'=>Below W1.heap.size W1 w'∧w'.cell? ⟨g,4,none⟩=some (.int .i64 x1.bk.asks)∧w'.cell? ⟨g,15,none⟩=some (.int .i64 c.n)∧w'.cell? ⟨g,16,none⟩=some (.int .i64 c.q)∧w'.cell? ⟨g,17,none⟩=some (.int .i64 c.r)∧w'.cell? ⟨g,18,none⟩=some (.int .i64 c.p)∧w'.cell? ⟨g,19,none⟩=some (.int .i64 c.k)∧w'.cell? ⟨g,20,none⟩=some (.int .i64 c.c)∧w'.cell? ⟨g,6,none⟩=some (.int .i64 x1.bk.au.try_)∧w'.cell? ⟨g,7,none⟩=some (.int .i64 x1.bk.au.ph))) (by kernel_rfl) (KP3.out _ (Below.refl _ _).drew) (fun hHeld=>?_)
     refine qT 0 25 ?_ rfl ?_ ?_
     rotate_left 1
     · intro w hSw
       try dsimp only at hSw
       go_simp
       try with_reducible rfl
     simp only [Act.put,qA,qB,qC];refine qT 1 26 ?_ rfl ?_ ?_
     rotate_left 1
     · intro w hSw
       try dsimp only at hSw
       go_simp
       try with_reducible rfl
     simp only [Act.put,qA,qB,qC];refine qT 2 27 ?_ rfl ?_ ?_
     rotate_left 1
     · intro w hSw
       try dsimp only at hSw
       go_simp
       try with_reducible rfl
     simp only [Act.put,qA,qB,qC];refine qT 3 28 ?_ rfl ?_ ?_
     rotate_left 1
     · intro w hSw
       try dsimp only at hSw
       go_simp
       try with_reducible rfl
     simp only [Act.put,qA,qB,qC];refine qT 4 29 ?_ rfl ?_ ?_
     rotate_left 1
     · intro w hSw
       try dsimp only at hSw
       go_simp
       try with_reducible rfl
     simp only [Act.put,qA,qB,qC];refine qT 5 30 ?_ rfl ?_ ?_
     rotate_left 1
     · intro w hSw
       try dsimp only at hSw
       go_simp
       try with_reducible rfl
     simp only [Act.put,qA,qB,qC];refine qT 6 31 ?_ rfl ?_ ?_
     rotate_left 1
     · intro w hSw
       try dsimp only at hSw
       go_simp
       try with_reducible rfl
     simp only [Act.put,qA,qB,qC];refine qT 7 32 ?_ rfl ?_ ?_
     rotate_left 1
     · intro w hSw
       try dsimp only at hSw
       go_simp
       try with_reducible rfl
     simp only [Act.put,qA,qB,qC];refine qT 8 33 ?_ rfl ?_ ?_
     rotate_left 1
     · intro w hSw
       try dsimp only at hSw
       go_simp
       try with_reducible rfl
     simp only [Act.put,qA,qB,qC];refine qT 9 34 ?_ rfl ?_ ?_
     rotate_left 1
     · intro w hSw
       try dsimp only at hSw
       go_simp
       try with_reducible rfl
     simp only [Act.put,qA,qB,qC];refine qT 10 35 ?_ rfl ?_ ?_
     rotate_left 1
     · intro w hSw
       try dsimp only at hSw
       go_simp
       try simp only [s1]
       try with_reducible rfl
     simp only [Act.put,qA,qB,qC];refine qT 11 36 ?_ rfl ?_ ?_
     rotate_left 1
     · intro w hSw
       try dsimp only at hSw
       go_simp
       try with_reducible rfl
     simp only [Act.put,qA,qB,qC];refine qT 12 37 ?_ rfl ?_ ?_
     rotate_left 1
     · intro w hSw
       try dsimp only at hSw
       go_simp
       try with_reducible rfl
     simp only [Act.put,qA,qB,qC];refine qT 13 38 ?_ rfl ?_ ?_
     rotate_left 1
     · intro w hSw
       try dsimp only at hSw
       go_simp
       try with_reducible rfl
     simp only [Act.put,qA,qB,qC];refine qT 14 39 ?_ rfl ?_ ?_
     rotate_left 1
     · intro w hSw
       try dsimp only at hSw
       go_simp
       try with_reducible rfl
     simp only [Act.put,qA,qB,qC];refine qT 15 40 ?_ rfl ?_ ?_
     rotate_left 1
     · intro w hSw
       try dsimp only at hSw
       go_simp
       try with_reducible rfl
     simp only [Act.put,qA,qB,qC];refine qT 16 41 ?_ rfl ?_ ?_
     rotate_left 1
     · intro w hSw
       try dsimp only at hSw
       go_simp
       try with_reducible rfl
     simp only [Act.put,qA,qB,qC];refine qT 17 42 ?_ rfl ?_ ?_
     rotate_left 1
     · intro w hSw
       try dsimp only at hSw
       go_simp
       try with_reducible rfl
     simp only [Act.put,qA,qB,qC];refine qT 18 43 ?_ rfl ?_ ?_
     rotate_left 1
     · intro w hSw
       try dsimp only at hSw
       go_simp
       try with_reducible rfl
     simp only [Act.put,qA,qB,qC];refine qT 19 44 ?_ rfl ?_ ?_
     rotate_left 1
     · intro w hSw
       try dsimp only at hSw
       go_simp
       try simp only [heq]
       try with_reducible rfl
     simp only [Act.put,qA,qB,qC];refine qT 20 45 ?_ rfl ?_ ?_
     rotate_left 1
     · intro w hSw
       try dsimp only at hSw
       go_simp
       try with_reducible rfl
     simp only [Act.put,qA,qB,qC];refine qT 21 46 ?_ rfl ?_ ?_
     rotate_left 1
     · intro w hSw
       try dsimp only at hSw
       go_simp
       try with_reducible rfl
     simp only [Act.put,qA,qB,qC];refine qT 22 47 ?_ rfl ?_ ?_
     rotate_left 1
     · intro w hSw
       try dsimp only at hSw
       go_simp
       try with_reducible rfl
     simp only [Act.put,qA,qB,qC];refine wpAnyH_ready (rs:=[23]) (by kernel_rfl) (by simp) ?_
     refine AllReadyH.cons rfl (fun K hK=>?_) AllReadyH.nil
     go_simp
     go_wp2_with (go_at_call 138; refine (O3.out _ hHeld.1).mono ?_; rintro ee wn ⟨rfl,hb⟩; have hS1:=held_next hHeld.1 hb)
     refine hK.out _ _ (KP3.out _ hS1) (fun hHeld2=>?_)
     clear hHeld hK K;have hHeld:=hHeld2;clear hHeld2;refine qT 24 49 ?_ rfl ?_ ?_
     rotate_left 1
     · intro w hSw
       try dsimp only at hSw
       go_simp
       try with_reducible rfl
     simp only [Act.put,qA,qB,qC];refine wpAnyH_done (by kernel_rfl) ?_ _
     have HS3:=qH (HS1.out.later hHeld.1);have HK3:=qH (HK1.out.next hHeld.1);clear hHeld
     go_wp2_with fail
     exact bodyPost_ret (v:=.tuple #[]) (by simp [results,Tryz.results123,go_sem]) rfl ⟨rfl,by rw [hR.1,hR.2]; exact ⟨_,HS3.out,HK3.out⟩⟩
   | false =>
   go_wp2_with fail
   refine wp_region_held_drew (S:=(fun w'=>Below W1.heap.size W1 w'∧w'.cell? ⟨g,4,none⟩=some (.int .i64 x1.bk.asks)∧w'.cell? ⟨g,15,none⟩=some (.int .i64 c.n)∧w'.cell? ⟨g,16,none⟩=some (.int .i64 c.q)∧w'.cell? ⟨g,17,none⟩=some (.int .i64 c.r)∧w'.cell? ⟨g,18,none⟩=some (.int .i64 c.p)∧w'.cell? ⟨g,19,none⟩=some (.int .i64 c.k)∧w'.cell? ⟨g,20,none⟩=some (.int .i64 c.c)∧w'.cell? ⟨g,6,none⟩=some (.int .i64 x1.bk.au.try_)∧w'.cell? ⟨g,7,none⟩=some (.int .i64 x1.bk.au.ph))) (by kernel_rfl) (KP3.out _ (Below.refl _ _).drew) (fun hHeld=>?_)
   refine qT 0 25 ?_ rfl ?_ ?_
   rotate_left 1
   · intro w hSw
     try dsimp only at hSw
     go_simp
     try with_reducible rfl
   simp only [Act.put,qA,qB,qC];refine qT 1 26 ?_ rfl ?_ ?_
   rotate_left 1
   · intro w hSw
     try dsimp only at hSw
     go_simp
     try with_reducible rfl
   simp only [Act.put,qA,qB,qC];refine qT 2 27 ?_ rfl ?_ ?_
   rotate_left 1
   · intro w hSw
     try dsimp only at hSw
     go_simp
     try with_reducible rfl
   simp only [Act.put,qA,qB,qC];refine qT 3 28 ?_ rfl ?_ ?_
   rotate_left 1
   · intro w hSw
     try dsimp only at hSw
     go_simp
     try with_reducible rfl
   simp only [Act.put,qA,qB,qC];refine qT 4 29 ?_ rfl ?_ ?_
   rotate_left 1
   · intro w hSw
     try dsimp only at hSw
     go_simp
     try with_reducible rfl
   simp only [Act.put,qA,qB,qC];refine qT 5 30 ?_ rfl ?_ ?_
   rotate_left 1
   · intro w hSw
     try dsimp only at hSw
     go_simp
     try with_reducible rfl
   simp only [Act.put,qA,qB,qC];refine qT 6 31 ?_ rfl ?_ ?_
   rotate_left 1
   · intro w hSw
     try dsimp only at hSw
     go_simp
     try with_reducible rfl
   simp only [Act.put,qA,qB,qC];refine qT 7 32 ?_ rfl ?_ ?_
   rotate_left 1
   · intro w hSw
     try dsimp only at hSw
     go_simp
     try with_reducible rfl
   simp only [Act.put,qA,qB,qC];refine qT 8 33 ?_ rfl ?_ ?_
   rotate_left 1
   · intro w hSw
     try dsimp only at hSw
     go_simp
     try with_reducible rfl
   simp only [Act.put,qA,qB,qC];refine qT 9 34 ?_ rfl ?_ ?_
   rotate_left 1
   · intro w hSw
     try dsimp only at hSw
     go_simp
     try with_reducible rfl
   simp only [Act.put,qA,qB,qC];refine qT 10 35 ?_ rfl ?_ ?_
   rotate_left 1
   · intro w hSw
     try dsimp only at hSw
     go_simp
     try simp only [s1]
     try with_reducible rfl
   simp only [Act.put,qA,qB,qC];refine qT 11 36 ?_ rfl ?_ ?_
   rotate_left 1
   · intro w hSw
     try dsimp only at hSw
     go_simp
     try with_reducible rfl
   simp only [Act.put,qA,qB,qC];refine qT 12 37 ?_ rfl ?_ ?_
   rotate_left 1
   · intro w hSw
     try dsimp only at hSw
     go_simp
     try with_reducible rfl
   simp only [Act.put,qA,qB,qC];refine qT 13 38 ?_ rfl ?_ ?_
   rotate_left 1
   · intro w hSw
     try dsimp only at hSw
     go_simp
     try with_reducible rfl
   simp only [Act.put,qA,qB,qC];refine qT 14 39 ?_ rfl ?_ ?_
   rotate_left 1
   · intro w hSw
     try dsimp only at hSw
     go_simp
     try with_reducible rfl
   simp only [Act.put,qA,qB,qC];refine qT 15 40 ?_ rfl ?_ ?_
   rotate_left 1
   · intro w hSw
     try dsimp only at hSw
     go_simp
     try with_reducible rfl
   simp only [Act.put,qA,qB,qC];refine qT 16 41 ?_ rfl ?_ ?_
   rotate_left 1
   · intro w hSw
     try dsimp only at hSw
     go_simp
     try with_reducible rfl
   simp only [Act.put,qA,qB,qC];refine qT 17 42 ?_ rfl ?_ ?_
   rotate_left 1
   · intro w hSw
     try dsimp only at hSw
     go_simp
     try with_reducible rfl
   simp only [Act.put,qA,qB,qC];refine qT 18 43 ?_ rfl ?_ ?_
   rotate_left 1
   · intro w hSw
     try dsimp only at hSw
     go_simp
     try with_reducible rfl
   simp only [Act.put,qA,qB,qC];refine qT 19 44 ?_ rfl ?_ ?_
   rotate_left 1
   · intro w hSw
     try dsimp only at hSw
     go_simp
     try simp only [heq]
     try with_reducible rfl
   simp only [Act.put,qA,qB,qC];refine qT 20 45 ?_ rfl ?_ ?_
   rotate_left 1
   · intro w hSw
     try dsimp only at hSw
     go_simp
     try with_reducible rfl
   simp only [Act.put,qA,qB,qC];refine qT 21 46 ?_ rfl ?_ ?_
   rotate_left 1
   · intro w hSw
     try dsimp only at hSw
     go_simp
     try with_reducible rfl
   simp only [Act.put,qA,qB,qC];refine qT 22 47 ?_ rfl ?_ ?_
   rotate_left 1
   · intro w hSw
     try dsimp only at hSw
     go_simp
     try with_reducible rfl
   simp only [Act.put,qA,qB,qC];refine wpAnyH_ready (rs:=[23]) (by kernel_rfl) (by simp) ?_
   refine AllReadyH.cons rfl (fun K hK=>?_) AllReadyH.nil
   go_simp
   go_wp2_with (go_at_call 138; refine (O3.out _ hHeld.1).mono ?_; rintro ee wn ⟨rfl,hb⟩; have hS1:=held_next hHeld.1 hb)
   refine hK.out _ _ (KP3.out _ hS1) (fun hHeld2=>?_)
   clear hHeld hK K;have hHeld:=hHeld2;clear hHeld2;refine qT 24 49 ?_ rfl ?_ ?_
   rotate_left 1
   · intro w hSw
     try dsimp only at hSw
     go_simp
     try with_reducible rfl
   simp only [Act.put,qA,qB,qC];refine wpAnyH_done (by kernel_rfl) ?_ _
   have hb3:=hHeld.1;have HS3:=qH (HS1.out.later hb3);have HK3:=qH (HK1.out.next hb3);have hN9:=Hno.out ⟨hA,fun h=>h (of_decide_eq_true (by simpa using Hnz.out)),fun h=>by rw [Hhz.out] at h; cases h⟩
   have HN9:=qH hN9;clear hN9 hb3 hHeld s1 z4 z15 z16 z17 z18 z19 z20 z6 z7 heq O3 KP3 hal few1
   go_wp2_with fail
   have OT:=qH (steptick_calls HS3.out 0);rw [if_pos rfl,if_pos rfl] at OT;rw [HT.out,HC.out] at OT;refine OT.out.mono ?_;rintro e W4 ⟨rfl,hS4,hK4⟩;have HS4:=qH hS4;have HK4:=qH (HK3.out.trans hK4);clear hS4 hK4 OT
   go_wp2_with fail
   refine (stopped_calls HS4.out).mono ?_
   by_cases hC:C=0
   rotate_left 1
   · rw [show decide (C ≠ 0)=true from decide_eq_true hC]
     rintro e w5 ⟨rfl,rfl⟩;have hR:=HN9.out;rw [if_neg hC] at hR
     go_wp2_with fail
     exact bodyPost_end (v:=.tuple #[]) (by simp [results,Tryz.results123,go_sem]) rfl ⟨rfl,by rw [show bkN x kr=_ from congrArg Prod.fst hR,show cd=_ from congrArg Prod.snd hR]; exact ⟨_,HS4.out,HK4.out⟩⟩
   rw [show decide (C ≠ 0)=false from decide_eq_false fun h=>h hC]
   rintro e w5 ⟨rfl,rfl⟩;have hR:=HN9.out;rw [if_pos hC] at hR;subst hC;obtain ⟨x2,Hx2⟩:∃ z,bkN x1 (clksK x1.bk T)=z:=⟨_,rfl⟩;rw [Hx2] at HS4;obtain ⟨⟨y,gz⟩,Hb⟩:∃ z,Hid (beginA c who T=z):=⟨_,rfl⟩;have Hkr:Hid (bkN x2 (auK x2.bk y)=bkN x kr):=qH (by have h9:bkN x kr=bkN x (auK (clksK x1.bk T) (beginA c who T).1):=congrArg Prod.fst hR; rw [h9,← Hx2,Hb.out,← Hx1.out])
   have Hcd:Hid (gz=cd):=qH (by have h9:cd=(beginA c who T).2:=congrArg Prod.snd hR; rw [h9,Hb.out])
   have hx2c:x2.bk.clk=T:=by rw [← Hx2]
   clear hR HN9;obtain ⟨W2,HW2⟩:∃ z,z=W4:=⟨_,rfl⟩;subst HW2;have HS2:=HS4;have HK2:=HK4;clear HS4 HK4
   have HN:Hid (∀ w',Below W2.heap.size W2 w'→Calls Tryz.prog 172 #[cfV c,.int .i64 who,.int .i64 T] w' (fun e w2=>∃ pa,e=.returned (.tuple #[auAt y pa,.int .i64 gz])∧Below w'.heap.size w' w2∧Stay (fun b=>b < w'.heap.size) w2 (fun V=>AuIn V pa y))):=fun w' hb=>by
    have h1:=aBeginO_calls c who T w';rw [Hb.out] at h1
    exact h1.mono fun e w2 ⟨q,h1,h2,h3,h4⟩=>⟨q,h1,h3,fun V hV=>h2.butS hV fun g hg=>h4 g trivial (Or.inl hg)⟩
   have hlt2:=HS2.out.lt;have hn0:n0≤W2.heap.size:=by have:=HS2.out.le; omega
   go_wp2_with fail
   refine wp_region_each_at ?hm ?hb (fun a0 d a' w'=>∃ (e0 e1 e2 e3 e4 e5 e6 e7 e8 e9 e10 e11 e12 e13 e14 e15 e16 e17 e18 e19 e20 e21 e23 e24:Value) (pa:Al),a'=putAll a0 [(56,e0),(57,e1),(58,e2),(59,e3),(60,e4),(61,e5),(62,e6),(63,e7),(64,e8),(65,e9),(66,e10),(67,e11),(68,e12),(69,e13),(70,e14),(71,e15),(55,e16),(72,e17),(73,e18),(74,e19),(75,e20),(76,e21),(77,e23),(78,e24)]∧Below n0 W2 w'∧(d 0=true→e0=(.pointer (some ⟨g,0,none⟩)))∧(d 1=true→e1=(.pointer (some ⟨g,0,none⟩)))∧(d 2=true→e2=(.pointer (some ⟨g,0,none⟩)))∧(d 3=true→e3=(.pointer (some ⟨g,0,none⟩)))∧(d 4=true→e4=(.pointer (some ⟨g,15,none⟩)))∧(d 5=true→e5=(cfV c))∧(d 6=true→e6=(.pointer (some ⟨g,0,none⟩)))∧(d 7=true→e7=(.pointer (some ⟨g,0,none⟩)))∧(d 8=true→e8=(.pointer (some ⟨g,21,none⟩)))∧(d 9=true→e9=(.int .i64 who))∧(d 10=true→e10=(.pointer (some ⟨g,0,none⟩)))∧(d 11=true→e11=(.pointer (some ⟨g,0,none⟩)))∧(d 12=true→e12=(.pointer (some ⟨g,0,none⟩)))∧(d 13=true→e13=(.pointer (some ⟨g,0,none⟩)))∧(d 14=true→e14=(.int .i64 T))∧(d 15=true→(d 5=true∧d 9=true∧d 14=true∧e15=(.tuple #[auAt y pa,.int .i64 gz])∧(d 22=false→Stay (fun b=>b < W2.heap.size) w' (fun V=>AuIn V pa y))))∧(d 16=true→(d 15=true∧e16=(.tuple #[auAt y pa,.int .i64 gz])))∧(d 17=true→(d 15=true∧e17=(auAt y pa)))∧(d 18=true→e18=(.int .i64 gz))∧(d 19=true→e19=(.pointer (some ⟨g,0,none⟩)))∧(d 20=true→e20=(.pointer (some ⟨g,0,none⟩)))∧(d 21=true→e21=(.pointer (some ⟨g,6,none⟩)))∧(d 22=true→(d 15=true∧(d 25=false→StepTo n0 E g c who p W2 (bkN x2 (auK x2.bk y)) 0 w')))∧(d 23=true→e23=(.pointer (some ⟨g,0,none⟩)))∧(d 24=true→e24=(.pointer (some ⟨g,22,none⟩)))∧(d 25=true→(d 22=true∧StepTo n0 E g c who p W2 (bkN x2 (auK x2.bk y)) gz w'))∧(d 22=false→Below W2.heap.size W2 w')) ?h0 ?step ?ends
   case hm=>kernel_rfl
   case hb=>kernel_rfl
   case h0 =>
    refine ⟨undef,undef,undef,undef,undef,undef,undef,undef,undef,undef,undef,undef,undef,undef,undef,undef,undef,undef,undef,undef,undef,undef,undef,undef,al0,?_,(Below.refl _ _).drew,fun h=>absurd h (by decide),fun h=>absurd h (by decide),fun h=>absurd h (by decide),fun h=>absurd h (by decide),fun h=>absurd h (by decide),fun h=>absurd h (by decide),fun h=>absurd h (by decide),fun h=>absurd h (by decide),fun h=>absurd h (by decide),fun h=>absurd h (by decide),fun h=>absurd h (by decide),fun h=>absurd h (by decide),fun h=>absurd h (by decide),fun h=>absurd h (by decide),fun h=>absurd h (by decide),fun h=>absurd h (by decide),fun h=>absurd h (by decide),fun h=>absurd h (by decide),fun h=>absurd h (by decide),fun h=>absurd h (by decide),fun h=>absurd h (by decide),fun h=>absurd h (by decide),fun h=>absurd h (by decide),fun h=>absurd h (by decide),fun h=>absurd h (by decide),fun h=>absurd h (by decide),fun _=>(Below.refl _ _).drew⟩
    simp only [putAll,Act.put,qA,qB,qC]
   case step =>
    intro i d a' w' hi hJ hd hk;obtain ⟨e0,e1,e2,e3,e4,e5,e6,e7,e8,e9,e10,e11,e12,e13,e14,e15,e16,e17,e18,e19,e20,e21,e23,e24,pa,rfl,hC⟩:=hJ;obtain ⟨hB,hC⟩:=hC;obtain ⟨c0,hC⟩:=hC;obtain ⟨c1,hC⟩:=hC;obtain ⟨c2,hC⟩:=hC;obtain ⟨c3,hC⟩:=hC;obtain ⟨c4,hC⟩:=hC;obtain ⟨c5,hC⟩:=hC;obtain ⟨c6,hC⟩:=hC;obtain ⟨c7,hC⟩:=hC;obtain ⟨c8,hC⟩:=hC;obtain ⟨c9,hC⟩:=hC;obtain ⟨c10,hC⟩:=hC;obtain ⟨c11,hC⟩:=hC;obtain ⟨c12,hC⟩:=hC
    obtain ⟨c13,hC⟩:=hC;obtain ⟨c14,hC⟩:=hC;obtain ⟨c15,hC⟩:=hC;obtain ⟨c16,hC⟩:=hC;obtain ⟨c17,hC⟩:=hC;obtain ⟨c18,hC⟩:=hC;obtain ⟨c19,hC⟩:=hC;obtain ⟨c20,hC⟩:=hC;obtain ⟨c21,hC⟩:=hC;obtain ⟨c22,hC⟩:=hC;obtain ⟨c23,hC⟩:=hC;obtain ⟨c24,hC⟩:=hC;obtain ⟨c25,hC⟩:=hC;have cb:=hC;clear hC;have Xc0:=qH c0; clear c0;have Xc1:=qH c1; clear c1;have Xc2:=qH c2; clear c2;have Xc3:=qH c3; clear c3;have Xc4:=qH c4; clear c4
    have Xc5:=qH c5; clear c5;have Xc6:=qH c6; clear c6;have Xc7:=qH c7; clear c7;have Xc8:=qH c8; clear c8;have Xc9:=qH c9; clear c9;have Xc10:=qH c10; clear c10;have Xc11:=qH c11; clear c11;have Xc12:=qH c12; clear c12;have Xc13:=qH c13; clear c13;have Xc14:=qH c14; clear c14;have Xc15:=qH c15; clear c15;have Xc16:=qH c16; clear c16;have Xc17:=qH c17; clear c17;have Xc18:=qH c18; clear c18;have Xc19:=qH c19; clear c19
    have Xc20:=qH c20; clear c20;have Xc21:=qH c21; clear c21;have Xc22:=qH c22; clear c22;have Xc23:=qH c23; clear c23;have Xc24:=qH c24; clear c24;have Xc25:=qH c25; clear c25;have Xcb:=qH cb; clear cb
    match i,hi,hd,hk with
    | 0, _, hd, hk =>
      apply wpOp_at
      case ho=>rfl
      intro K hK;simp only [putAll,Act.put,qA,qB,qC];go_simp;refine hK _ _ ⟨(.pointer (some ⟨g,0,none⟩)),_,_,_,_,_,_,_,_,_,_,_,_,_,_,_,_,_,_,_,_,_,_,_,pa,?_,hB,fun _=>rfl,Xc1,Xc2,Xc3,Xc4,Xc5,Xc6,Xc7,Xc8,Xc9,Xc10,Xc11,Xc12,Xc13,Xc14,Xc15,Xc16,Xc17,Xc18,Xc19,Xc20,Xc21,Xc22,Xc23,Xc24,Xc25,Xcb⟩
      simp only [putAll,Act.put,qA,qB,qC]
    | 1, _, hd, hk =>
      apply wpOp_at
      case ho=>rfl
      intro K hK;simp only [putAll,Act.put,qA,qB,qC];go_simp;refine hK _ _ ⟨_,(.pointer (some ⟨g,0,none⟩)),_,_,_,_,_,_,_,_,_,_,_,_,_,_,_,_,_,_,_,_,_,_,pa,?_,hB,Xc0,fun _=>rfl,Xc2,Xc3,Xc4,Xc5,Xc6,Xc7,Xc8,Xc9,Xc10,Xc11,Xc12,Xc13,Xc14,Xc15,Xc16,Xc17,Xc18,Xc19,Xc20,Xc21,Xc22,Xc23,Xc24,Xc25,Xcb⟩
      simp only [putAll,Act.put,qA,qB,qC]
    | 2, _, hd, hk =>
      apply wpOp_at
      case ho=>rfl
      intro K hK;simp only [putAll,Act.put,qA,qB,qC];go_simp;refine hK _ _ ⟨_,_,(.pointer (some ⟨g,0,none⟩)),_,_,_,_,_,_,_,_,_,_,_,_,_,_,_,_,_,_,_,_,_,pa,?_,hB,Xc0,Xc1,fun _=>rfl,Xc3,Xc4,Xc5,Xc6,Xc7,Xc8,Xc9,Xc10,Xc11,Xc12,Xc13,Xc14,Xc15,Xc16,Xc17,Xc18,Xc19,Xc20,Xc21,Xc22,Xc23,Xc24,Xc25,Xcb⟩
      simp only [putAll,Act.put,qA,qB,qC]
    | 3, _, hd, hk =>
      have h2:=hk 2 (by decide +kernel)
      have c2:=Xc2.out;obtain rfl:=c2 h2;clear c2;apply wpOp_at
      case ho=>rfl
      intro K hK;simp only [putAll,Act.put,qA,qB,qC];go_simp;refine hK _ _ ⟨_,_,(.pointer (some ⟨g,0,none⟩)),(.pointer (some ⟨g,0,none⟩)),_,_,_,_,_,_,_,_,_,_,_,_,_,_,_,_,_,_,_,_,pa,?_,hB,Xc0,Xc1,Xc2,fun _=>rfl,Xc4,Xc5,Xc6,Xc7,Xc8,Xc9,Xc10,Xc11,Xc12,Xc13,Xc14,Xc15,Xc16,Xc17,Xc18,Xc19,Xc20,Xc21,Xc22,Xc23,Xc24,Xc25,Xcb⟩
      simp only [putAll,Act.put,qA,qB,qC]
    | 4, _, hd, hk =>
      have h3:=hk 3 (by decide +kernel)
      have c3:=Xc3.out;obtain rfl:=c3 h3;clear c3;apply wpOp_at
      case ho=>rfl
      intro K hK;simp only [putAll,Act.put,qA,qB,qC];go_simp;refine hK _ _ ⟨_,_,_,(.pointer (some ⟨g,0,none⟩)),(.pointer (some ⟨g,15,none⟩)),_,_,_,_,_,_,_,_,_,_,_,_,_,_,_,_,_,_,_,pa,?_,hB,Xc0,Xc1,Xc2,Xc3,fun _=>rfl,Xc5,Xc6,Xc7,Xc8,Xc9,Xc10,Xc11,Xc12,Xc13,Xc14,Xc15,Xc16,Xc17,Xc18,Xc19,Xc20,Xc21,Xc22,Xc23,Xc24,Xc25,Xcb⟩
      simp only [putAll,Act.put,qA,qB,qC]
    | 5, _, hd, hk =>
      have h4:=hk 4 (by decide +kernel)
      have c4:=Xc4.out;have c15:=Xc15.out;have c22:=Xc22.out;have cb:=Xcb.out;obtain rfl:=c4 h4;have hd25:d 22=false:=by cases h:d 22 with | false=>rfl | true=>exact Bool.noConfusion (hd.symm.trans (c15 (c22 h).1).1)
      have hb9:=cb hd25;have q15:=(HS2.out.later hb9).ob.cell 15;have q16:=(HS2.out.later hb9).ob.cell 16;have q17:=(HS2.out.later hb9).ob.cell 17;have q18:=(HS2.out.later hb9).ob.cell 18;have q19:=(HS2.out.later hb9).ob.cell 19;have q20:=(HS2.out.later hb9).ob.cell 20;clear c4 c15 c22 cb;apply wpOp_at
      case ho=>rfl
      intro K hK;simp only [putAll,Act.put,qA,qB,qC];go_simp;have c15:=Xc15.out;refine hK _ _ ⟨_,_,_,_,(.pointer (some ⟨g,15,none⟩)),(cfV c),_,_,_,_,_,_,_,_,_,e15,_,_,_,_,_,_,_,_,pa,?_,hB,Xc0,Xc1,Xc2,Xc3,Xc4,fun _=>rfl,Xc6,Xc7,Xc8,Xc9,Xc10,Xc11,Xc12,Xc13,Xc14,fun h=>Bool.noConfusion (hd.symm.trans (c15 h).1),Xc16,Xc17,Xc18,Xc19,Xc20,Xc21,Xc22,Xc23,Xc24,Xc25,Xcb⟩
      simp only [putAll,Act.put,qA,qB,qC]
    | 6, _, hd, hk =>
      apply wpOp_at
      case ho=>rfl
      intro K hK;simp only [putAll,Act.put,qA,qB,qC];go_simp;refine hK _ _ ⟨_,_,_,_,_,_,(.pointer (some ⟨g,0,none⟩)),_,_,_,_,_,_,_,_,_,_,_,_,_,_,_,_,_,pa,?_,hB,Xc0,Xc1,Xc2,Xc3,Xc4,Xc5,fun _=>rfl,Xc7,Xc8,Xc9,Xc10,Xc11,Xc12,Xc13,Xc14,Xc15,Xc16,Xc17,Xc18,Xc19,Xc20,Xc21,Xc22,Xc23,Xc24,Xc25,Xcb⟩
      simp only [putAll,Act.put,qA,qB,qC]
    | 7, _, hd, hk =>
      have h6:=hk 6 (by decide +kernel)
      have c6:=Xc6.out;obtain rfl:=c6 h6;clear c6;apply wpOp_at
      case ho=>rfl
      intro K hK;simp only [putAll,Act.put,qA,qB,qC];go_simp;refine hK _ _ ⟨_,_,_,_,_,_,(.pointer (some ⟨g,0,none⟩)),(.pointer (some ⟨g,0,none⟩)),_,_,_,_,_,_,_,_,_,_,_,_,_,_,_,_,pa,?_,hB,Xc0,Xc1,Xc2,Xc3,Xc4,Xc5,Xc6,fun _=>rfl,Xc8,Xc9,Xc10,Xc11,Xc12,Xc13,Xc14,Xc15,Xc16,Xc17,Xc18,Xc19,Xc20,Xc21,Xc22,Xc23,Xc24,Xc25,Xcb⟩
      simp only [putAll,Act.put,qA,qB,qC]
    | 8, _, hd, hk =>
      have h7:=hk 7 (by decide +kernel)
      have c7:=Xc7.out;obtain rfl:=c7 h7;clear c7;apply wpOp_at
      case ho=>rfl
      intro K hK;simp only [putAll,Act.put,qA,qB,qC];go_simp;refine hK _ _ ⟨_,_,_,_,_,_,_,(.pointer (some ⟨g,0,none⟩)),(.pointer (some ⟨g,21,none⟩)),_,_,_,_,_,_,_,_,_,_,_,_,_,_,_,pa,?_,hB,Xc0,Xc1,Xc2,Xc3,Xc4,Xc5,Xc6,Xc7,fun _=>rfl,Xc9,Xc10,Xc11,Xc12,Xc13,Xc14,Xc15,Xc16,Xc17,Xc18,Xc19,Xc20,Xc21,Xc22,Xc23,Xc24,Xc25,Xcb⟩
      simp only [putAll,Act.put,qA,qB,qC]
    | 9, _, hd, hk =>
      have h8:=hk 8 (by decide +kernel)
      have c8:=Xc8.out;have c15:=Xc15.out;have c22:=Xc22.out;have cb:=Xcb.out;obtain rfl:=c8 h8;have hd25:d 22=false:=by cases h:d 22 with | false=>rfl | true=>exact Bool.noConfusion (hd.symm.trans (c15 (c22 h).1).2.1)
      have hb9:=cb hd25;have q21:=(HS2.out.later hb9).ob.cell 21;clear c8 c15 c22 cb;apply wpOp_at
      case ho=>rfl
      intro K hK;simp only [putAll,Act.put,qA,qB,qC];go_simp;have c15:=Xc15.out;refine hK _ _ ⟨_,_,_,_,_,_,_,_,(.pointer (some ⟨g,21,none⟩)),(.int .i64 who),_,_,_,_,_,e15,_,_,_,_,_,_,_,_,pa,?_,hB,Xc0,Xc1,Xc2,Xc3,Xc4,Xc5,Xc6,Xc7,Xc8,fun _=>rfl,Xc10,Xc11,Xc12,Xc13,Xc14,fun h=>Bool.noConfusion (hd.symm.trans (c15 h).2.1),Xc16,Xc17,Xc18,Xc19,Xc20,Xc21,Xc22,Xc23,Xc24,Xc25,Xcb⟩
      simp only [putAll,Act.put,qA,qB,qC]
    | 10, _, hd, hk =>
      apply wpOp_at
      case ho=>rfl
      intro K hK;simp only [putAll,Act.put,qA,qB,qC];go_simp;refine hK _ _ ⟨_,_,_,_,_,_,_,_,_,_,(.pointer (some ⟨g,0,none⟩)),_,_,_,_,_,_,_,_,_,_,_,_,_,pa,?_,hB,Xc0,Xc1,Xc2,Xc3,Xc4,Xc5,Xc6,Xc7,Xc8,Xc9,fun _=>rfl,Xc11,Xc12,Xc13,Xc14,Xc15,Xc16,Xc17,Xc18,Xc19,Xc20,Xc21,Xc22,Xc23,Xc24,Xc25,Xcb⟩
      simp only [putAll,Act.put,qA,qB,qC]
    | 11, _, hd, hk =>
      have h10:=hk 10 (by decide +kernel)
      have c10:=Xc10.out;obtain rfl:=c10 h10;clear c10;apply wpOp_at
      case ho=>rfl
      intro K hK;simp only [putAll,Act.put,qA,qB,qC];go_simp;refine hK _ _ ⟨_,_,_,_,_,_,_,_,_,_,(.pointer (some ⟨g,0,none⟩)),(.pointer (some ⟨g,0,none⟩)),_,_,_,_,_,_,_,_,_,_,_,_,pa,?_,hB,Xc0,Xc1,Xc2,Xc3,Xc4,Xc5,Xc6,Xc7,Xc8,Xc9,Xc10,fun _=>rfl,Xc12,Xc13,Xc14,Xc15,Xc16,Xc17,Xc18,Xc19,Xc20,Xc21,Xc22,Xc23,Xc24,Xc25,Xcb⟩
      simp only [putAll,Act.put,qA,qB,qC]
    | 12, _, hd, hk =>
      have h11:=hk 11 (by decide +kernel)
      have c11:=Xc11.out;obtain rfl:=c11 h11;clear c11;apply wpOp_at
      case ho=>rfl
      intro K hK;simp only [putAll,Act.put,qA,qB,qC];go_simp;refine hK _ _ ⟨_,_,_,_,_,_,_,_,_,_,_,(.pointer (some ⟨g,0,none⟩)),(.pointer (some ⟨g,0,none⟩)),_,_,_,_,_,_,_,_,_,_,_,pa,?_,hB,Xc0,Xc1,Xc2,Xc3,Xc4,Xc5,Xc6,Xc7,Xc8,Xc9,Xc10,Xc11,fun _=>rfl,Xc13,Xc14,Xc15,Xc16,Xc17,Xc18,Xc19,Xc20,Xc21,Xc22,Xc23,Xc24,Xc25,Xcb⟩
      simp only [putAll,Act.put,qA,qB,qC]
    | 13, _, hd, hk =>
      have h12:=hk 12 (by decide +kernel)
      have c12:=Xc12.out;obtain rfl:=c12 h12;clear c12;apply wpOp_at
      case ho=>rfl
      intro K hK;simp only [putAll,Act.put,qA,qB,qC];go_simp;refine hK _ _ ⟨_,_,_,_,_,_,_,_,_,_,_,_,(.pointer (some ⟨g,0,none⟩)),(.pointer (some ⟨g,0,none⟩)),_,_,_,_,_,_,_,_,_,_,pa,?_,hB,Xc0,Xc1,Xc2,Xc3,Xc4,Xc5,Xc6,Xc7,Xc8,Xc9,Xc10,Xc11,Xc12,fun _=>rfl,Xc14,Xc15,Xc16,Xc17,Xc18,Xc19,Xc20,Xc21,Xc22,Xc23,Xc24,Xc25,Xcb⟩
      simp only [putAll,Act.put,qA,qB,qC]
    | 14, _, hd, hk =>
      have h13:=hk 13 (by decide +kernel)
      have c13:=Xc13.out;have c15:=Xc15.out;have c22:=Xc22.out;have cb:=Xcb.out;obtain rfl:=c13 h13;have hd25:d 22=false:=by cases h:d 22 with | false=>rfl | true=>exact Bool.noConfusion (hd.symm.trans (c15 (c22 h).1).2.2.1)
      have hb9:=cb hd25;have q0:w'.cell? ⟨g,0,none⟩=some (.int .i64 T):=by have h9:=(HS2.out.later hb9).ob.cell 0; rw [← hx2c]; exact h9
      clear c13 c15 c22 cb;apply wpOp_at
      case ho=>rfl
      intro K hK;simp only [putAll,Act.put,qA,qB,qC];go_simp;have c15:=Xc15.out;refine hK _ _ ⟨_,_,_,_,_,_,_,_,_,_,_,_,_,(.pointer (some ⟨g,0,none⟩)),(.int .i64 T),e15,_,_,_,_,_,_,_,_,pa,?_,hB,Xc0,Xc1,Xc2,Xc3,Xc4,Xc5,Xc6,Xc7,Xc8,Xc9,Xc10,Xc11,Xc12,Xc13,fun _=>rfl,fun h=>Bool.noConfusion (hd.symm.trans (c15 h).2.2.1),Xc16,Xc17,Xc18,Xc19,Xc20,Xc21,Xc22,Xc23,Xc24,Xc25,Xcb⟩
      simp only [putAll,Act.put,qA,qB,qC]
    | 15, _, hd, hk =>
      have h5:=hk 5 (by decide +kernel)
      have h9:=hk 9 (by decide +kernel)
      have h14:=hk 14 (by decide +kernel)
      have c5:=Xc5.out;have c9:=Xc9.out;have c14:=Xc14.out;have c22:=Xc22.out;have cb:=Xcb.out;obtain rfl:=c5 h5;obtain rfl:=c9 h9;obtain rfl:=c14 h14;have hd25:d 22=false:=by cases h:d 22 with | false=>rfl | true=>exact Bool.noConfusion (hd.symm.trans (c22 h).1)
      have hb9:=cb hd25;clear c5 c9 c14 c22 cb;apply wpOp_at
      case ho=>rfl
      intro K hK;simp only [putAll,Act.put,qA,qB,qC];go_simp;have c16:=Xc16.out;have c17:=Xc17.out;have c22:=Xc22.out;have c25:=Xc25.out;have cb:=Xcb.out;refine (HN.out _ hb9).mono ?_;rintro e w'' ⟨q,rfl,hb,hs⟩;refine hK _ _ ⟨_,_,_,_,_,(cfV c),_,_,_,(.int .i64 who),_,_,_,_,(.int .i64 T),.tuple #[auAt y q,.int .i64 gz],e16,e17,_,_,_,_,_,_,q,?_,hB.trans (hb.mono (Nat.le_trans hn0 hb9.size)),Xc0,Xc1,Xc2,Xc3,Xc4,Xc5,Xc6,Xc7,Xc8,Xc9,Xc10,Xc11,Xc12,Xc13,Xc14,fun _=>⟨h5,h9,h14,rfl,fun _ V hV=>hs V (hV.wide fun b (hb2:b < W2.heap.size)=>Nat.lt_of_lt_of_le hb2 hb9.size)⟩,fun h=>Bool.noConfusion (hd.symm.trans (c16 h).1),fun h=>Bool.noConfusion (hd.symm.trans (c17 h).1),Xc18,Xc19,Xc20,Xc21,fun h=>Bool.noConfusion (hd.symm.trans (c22 h).1),Xc23,Xc24,fun h=>Bool.noConfusion (hd.symm.trans (c22 (c25 h).1).1),fun h=>held_next (cb h) hb⟩
      simp only [putAll,Act.put,qA,qB,qC]
    | 16, _, hd, hk =>
      have h15:=hk 15 (by decide +kernel)
      have c15:=Xc15.out;obtain ⟨-,-,-,rfl,-⟩:=c15 h15;clear c15;apply wpOp_at
      case ho=>rfl
      intro K hK;simp only [putAll,Act.put,qA,qB,qC];go_simp;refine hK _ _ ⟨_,_,_,_,_,_,_,_,_,_,_,_,_,_,_,(.tuple #[auAt y pa,.int .i64 gz]),(.tuple #[auAt y pa,.int .i64 gz]),_,_,_,_,_,_,_,pa,?_,hB,Xc0,Xc1,Xc2,Xc3,Xc4,Xc5,Xc6,Xc7,Xc8,Xc9,Xc10,Xc11,Xc12,Xc13,Xc14,Xc15,fun _=>⟨h15,rfl⟩,Xc17,Xc18,Xc19,Xc20,Xc21,Xc22,Xc23,Xc24,Xc25,Xcb⟩
      simp only [putAll,Act.put,qA,qB,qC]
    | 17, _, hd, hk =>
      have h16:=hk 16 (by decide +kernel)
      have c16:=Xc16.out;obtain ⟨k15,rfl⟩:=c16 h16;clear c16;apply wpOp_at
      case ho=>rfl
      intro K hK;simp only [putAll,Act.put,qA,qB,qC];go_simp;refine hK _ _ ⟨_,_,_,_,_,_,_,_,_,_,_,_,_,_,_,_,(.tuple #[auAt y pa,.int .i64 gz]),(auAt y pa),_,_,_,_,_,_,pa,?_,hB,Xc0,Xc1,Xc2,Xc3,Xc4,Xc5,Xc6,Xc7,Xc8,Xc9,Xc10,Xc11,Xc12,Xc13,Xc14,Xc15,Xc16,fun _=>⟨k15,rfl⟩,Xc18,Xc19,Xc20,Xc21,Xc22,Xc23,Xc24,Xc25,Xcb⟩
      simp only [putAll,Act.put,qA,qB,qC]
    | 18, _, hd, hk =>
      have h16:=hk 16 (by decide +kernel)
      have c16:=Xc16.out;obtain ⟨k15,rfl⟩:=c16 h16;clear c16;apply wpOp_at
      case ho=>rfl
      intro K hK;simp only [putAll,Act.put,qA,qB,qC];go_simp;refine hK _ _ ⟨_,_,_,_,_,_,_,_,_,_,_,_,_,_,_,_,(.tuple #[auAt y pa,.int .i64 gz]),_,(.int .i64 gz),_,_,_,_,_,pa,?_,hB,Xc0,Xc1,Xc2,Xc3,Xc4,Xc5,Xc6,Xc7,Xc8,Xc9,Xc10,Xc11,Xc12,Xc13,Xc14,Xc15,Xc16,Xc17,fun _=>rfl,Xc19,Xc20,Xc21,Xc22,Xc23,Xc24,Xc25,Xcb⟩
      simp only [putAll,Act.put,qA,qB,qC]
    | 19, _, hd, hk =>
      have h0:=hk 0 (by decide +kernel)
      have c0:=Xc0.out;obtain rfl:=c0 h0;clear c0;apply wpOp_at
      case ho=>rfl
      intro K hK;simp only [putAll,Act.put,qA,qB,qC];go_simp;refine hK _ _ ⟨(.pointer (some ⟨g,0,none⟩)),_,_,_,_,_,_,_,_,_,_,_,_,_,_,_,_,_,_,(.pointer (some ⟨g,0,none⟩)),_,_,_,_,pa,?_,hB,Xc0,Xc1,Xc2,Xc3,Xc4,Xc5,Xc6,Xc7,Xc8,Xc9,Xc10,Xc11,Xc12,Xc13,Xc14,Xc15,Xc16,Xc17,Xc18,fun _=>rfl,Xc20,Xc21,Xc22,Xc23,Xc24,Xc25,Xcb⟩
      simp only [putAll,Act.put,qA,qB,qC]
    | 20, _, hd, hk =>
      have h19:=hk 19 (by decide +kernel)
      have c19:=Xc19.out;obtain rfl:=c19 h19;clear c19;apply wpOp_at
      case ho=>rfl
      intro K hK;simp only [putAll,Act.put,qA,qB,qC];go_simp;refine hK _ _ ⟨_,_,_,_,_,_,_,_,_,_,_,_,_,_,_,_,_,_,_,(.pointer (some ⟨g,0,none⟩)),(.pointer (some ⟨g,0,none⟩)),_,_,_,pa,?_,hB,Xc0,Xc1,Xc2,Xc3,Xc4,Xc5,Xc6,Xc7,Xc8,Xc9,Xc10,Xc11,Xc12,Xc13,Xc14,Xc15,Xc16,Xc17,Xc18,Xc19,fun _=>rfl,Xc21,Xc22,Xc23,Xc24,Xc25,Xcb⟩
      simp only [putAll,Act.put,qA,qB,qC]
    | 21, _, hd, hk =>
      have h20:=hk 20 (by decide +kernel)
      have c20:=Xc20.out;obtain rfl:=c20 h20;clear c20;apply wpOp_at
      case ho=>rfl
      intro K hK;simp only [putAll,Act.put,qA,qB,qC];go_simp;refine hK _ _ ⟨_,_,_,_,_,_,_,_,_,_,_,_,_,_,_,_,_,_,_,_,(.pointer (some ⟨g,0,none⟩)),(.pointer (some ⟨g,6,none⟩)),_,_,pa,?_,hB,Xc0,Xc1,Xc2,Xc3,Xc4,Xc5,Xc6,Xc7,Xc8,Xc9,Xc10,Xc11,Xc12,Xc13,Xc14,Xc15,Xc16,Xc17,Xc18,Xc19,Xc20,fun _=>rfl,Xc22,Xc23,Xc24,Xc25,Xcb⟩
      simp only [putAll,Act.put,qA,qB,qC]
    | 22, _, hd, hk =>
      have h15:=hk 15 (by decide +kernel)
      have h17:=hk 17 (by decide +kernel)
      have h21:=hk 21 (by decide +kernel)
      have c15:=Xc15.out;have c17:=Xc17.out;have c21:=Xc21.out;have cb:=Xcb.out;obtain rfl:=c21 h21;obtain ⟨k15,rfl⟩:=c17 h17;obtain ⟨-,-,-,-,hs⟩:=c15 h15;have hb9:=cb hd;have hS9:=HS2.out.later hb9;have hl9:=HS2.out.stay (hs hd);have q6:=hS9.ob.cell 6;have q7:=hS9.ob.cell 7;have q8:=hS9.ob.cell 8;have q9:=hS9.ob.cell 9;have q10:=hS9.ob.cell 10;have q11:=hS9.ob.cell 11;have y6:=hS9.ob.free 6;have y7:=hS9.ob.free 7
      have y8:=hS9.ob.free 8;have y9:=hS9.ob.free 9;have y10:=hS9.ob.free 10;have y11:=hS9.ob.free 11;have hM:=hS9.au hl9;clear c15 c17 c21 cb;apply wpOp_at
      case ho=>rfl
      intro K hK;simp only [putAll,Act.put,qA,qB,qC];go_simp;have c15:=Xc15.out;have c25:=Xc25.out;refine hK _ _ ⟨_,_,_,_,_,_,_,_,_,_,_,_,_,_,_,e15,_,(auAt y pa),_,_,_,(.pointer (some ⟨g,6,none⟩)),_,_,pa,?_,st6_below hB HS2.out.le,Xc0,Xc1,Xc2,Xc3,Xc4,Xc5,Xc6,Xc7,Xc8,Xc9,Xc10,Xc11,Xc12,Xc13,Xc14,fun h=>⟨(c15 h).1,(c15 h).2.1,(c15 h).2.2.1,(c15 h).2.2.2.1,fun h=>Bool.noConfusion (show true=false from h)⟩,Xc16,Xc17,Xc18,Xc19,Xc20,Xc21,fun _=>⟨h15,fun _=>⟨_,hM.1,(Kept.of hb9).trans hM.2⟩⟩,Xc23,Xc24,fun h=>Bool.noConfusion (hd.symm.trans (c25 h).1),fun h=>Bool.noConfusion (show true=false from h)⟩
      simp only [putAll,Act.put,qA,qB,qC]
    | 23, _, hd, hk =>
      have h1:=hk 1 (by decide +kernel)
      have c1:=Xc1.out;obtain rfl:=c1 h1;clear c1;apply wpOp_at
      case ho=>rfl
      intro K hK;simp only [putAll,Act.put,qA,qB,qC];go_simp;refine hK _ _ ⟨_,(.pointer (some ⟨g,0,none⟩)),_,_,_,_,_,_,_,_,_,_,_,_,_,_,_,_,_,_,_,_,(.pointer (some ⟨g,0,none⟩)),_,pa,?_,hB,Xc0,Xc1,Xc2,Xc3,Xc4,Xc5,Xc6,Xc7,Xc8,Xc9,Xc10,Xc11,Xc12,Xc13,Xc14,Xc15,Xc16,Xc17,Xc18,Xc19,Xc20,Xc21,Xc22,fun _=>rfl,Xc24,Xc25,Xcb⟩
      simp only [putAll,Act.put,qA,qB,qC]
    | 24, _, hd, hk =>
      have h23:=hk 23 (by decide +kernel)
      have c23:=Xc23.out;obtain rfl:=c23 h23;clear c23;apply wpOp_at
      case ho=>rfl
      intro K hK;simp only [putAll,Act.put,qA,qB,qC];go_simp;refine hK _ _ ⟨_,_,_,_,_,_,_,_,_,_,_,_,_,_,_,_,_,_,_,_,_,_,(.pointer (some ⟨g,0,none⟩)),(.pointer (some ⟨g,22,none⟩)),pa,?_,hB,Xc0,Xc1,Xc2,Xc3,Xc4,Xc5,Xc6,Xc7,Xc8,Xc9,Xc10,Xc11,Xc12,Xc13,Xc14,Xc15,Xc16,Xc17,Xc18,Xc19,Xc20,Xc21,Xc22,Xc23,fun _=>rfl,Xc25,Xcb⟩
      simp only [putAll,Act.put,qA,qB,qC]
    | 25, _, hd, hk =>
      have h18:=hk 18 (by decide +kernel)
      have h22:=hk 22 (by decide +kernel)
      have h24:=hk 24 (by decide +kernel)
      have c18:=Xc18.out;have c22:=Xc22.out;have c24:=Xc24.out;obtain rfl:=c18 h18;obtain rfl:=c24 h24;obtain ⟨p9,hS9,hK9⟩:=(c22 h22).2 hd;have q22:w'.cell? ⟨g,22,none⟩=some (.int .i64 0):=hS9.ob.cell 22;have y22:=hS9.ob.free 22;have hM:=hS9.cod gz;clear c18 c22 c24;apply wpOp_at
      case ho=>rfl
      intro K hK;simp only [putAll,Act.put,qA,qB,qC];go_simp;have c15:=Xc15.out;have c22:=Xc22.out;refine hK _ _ ⟨_,_,_,_,_,_,_,_,_,_,_,_,_,_,_,e15,_,_,(.int .i64 gz),_,_,_,_,(.pointer (some ⟨g,22,none⟩)),pa,?_,hB.setCell (p:=⟨g,22,none⟩) HS2.out.le _,Xc0,Xc1,Xc2,Xc3,Xc4,Xc5,Xc6,Xc7,Xc8,Xc9,Xc10,Xc11,Xc12,Xc13,Xc14,fun h=>⟨(c15 h).1,(c15 h).2.1,(c15 h).2.2.1,(c15 h).2.2.2.1,fun k=>absurd (h22.symm.trans k) (by decide)⟩,Xc16,Xc17,Xc18,Xc19,Xc20,Xc21,fun h=>⟨(c22 h).1,fun k=>Bool.noConfusion (show true=false from k)⟩,Xc23,Xc24,fun _=>⟨h22,_,hM.1,hK9.trans hM.2⟩,fun h=>absurd (h22.symm.trans h) (by decide)⟩
      simp only [putAll,Act.put,qA,qB,qC]
    | k + 26,hi,_,_=>exact absurd hi (by simp)
   case ends =>
    intro d a' w' hJ hall;obtain ⟨e0,e1,e2,e3,e4,e5,e6,e7,e8,e9,e10,e11,e12,e13,e14,e15,e16,e17,e18,e19,e20,e21,e23,e24,pa,rfl,hC⟩:=hJ;obtain ⟨hB,hC⟩:=hC;obtain ⟨c0,hC⟩:=hC;obtain ⟨c1,hC⟩:=hC;obtain ⟨c2,hC⟩:=hC;obtain ⟨c3,hC⟩:=hC;obtain ⟨c4,hC⟩:=hC;obtain ⟨c5,hC⟩:=hC;obtain ⟨c6,hC⟩:=hC;obtain ⟨c7,hC⟩:=hC;obtain ⟨c8,hC⟩:=hC;obtain ⟨c9,hC⟩:=hC;obtain ⟨c10,hC⟩:=hC;obtain ⟨c11,hC⟩:=hC;obtain ⟨c12,hC⟩:=hC
    obtain ⟨c13,hC⟩:=hC;obtain ⟨c14,hC⟩:=hC;obtain ⟨c15,hC⟩:=hC;obtain ⟨c16,hC⟩:=hC;obtain ⟨c17,hC⟩:=hC;obtain ⟨c18,hC⟩:=hC;obtain ⟨c19,hC⟩:=hC;obtain ⟨c20,hC⟩:=hC;obtain ⟨c21,hC⟩:=hC;obtain ⟨c22,hC⟩:=hC;obtain ⟨c23,hC⟩:=hC;obtain ⟨c24,hC⟩:=hC;obtain ⟨c25,hC⟩:=hC;have cb:=hC;clear hC;have HT:=qH (c25 (hall 25 (by decide +kernel))).2
    obtain rfl:=c0 (hall 0 (by decide +kernel))
    obtain rfl:=c1 (hall 1 (by decide +kernel))
    obtain rfl:=c2 (hall 2 (by decide +kernel))
    obtain rfl:=c3 (hall 3 (by decide +kernel))
    obtain rfl:=c4 (hall 4 (by decide +kernel))
    obtain rfl:=c5 (hall 5 (by decide +kernel))
    obtain rfl:=c6 (hall 6 (by decide +kernel))
    obtain rfl:=c7 (hall 7 (by decide +kernel))
    obtain rfl:=c8 (hall 8 (by decide +kernel))
    obtain rfl:=c9 (hall 9 (by decide +kernel))
    obtain rfl:=c10 (hall 10 (by decide +kernel))
    obtain rfl:=c11 (hall 11 (by decide +kernel))
    obtain rfl:=c12 (hall 12 (by decide +kernel))
    obtain rfl:=c13 (hall 13 (by decide +kernel))
    obtain rfl:=c14 (hall 14 (by decide +kernel))
    obtain rfl:=c18 (hall 18 (by decide +kernel))
    obtain rfl:=c19 (hall 19 (by decide +kernel))
    obtain rfl:=c20 (hall 20 (by decide +kernel))
    obtain rfl:=c21 (hall 21 (by decide +kernel))
    obtain rfl:=c23 (hall 23 (by decide +kernel))
    obtain rfl:=c24 (hall 24 (by decide +kernel))
    obtain ⟨_,rfl⟩:=c16 (hall 16 (by decide +kernel))
    obtain ⟨_,rfl⟩:=c17 (hall 17 (by decide +kernel))
    obtain ⟨_,_,_,rfl,_⟩:=c15 (hall 15 (by decide +kernel))
    clear c15 c22 c25 cb hall hB;simp only [putAll,Act.put,qA,qB,qC];obtain ⟨p7,hS7,hK7⟩:=HT.out;clear HT;have HS7:=qH hS7;have HK7:=qH (HK2.out.trans hK7);clear hS7 hK7
    go_wp2_with fail
    exact bodyPost_end (v:=.tuple #[]) (by simp [results,Tryz.results123,go_sem]) rfl ⟨rfl,by rw [← Hkr.out,← Hcd.out]; exact ⟨_,HS7.out,HK7.out⟩⟩
 · have hx:x1=x:=by rw [← Hx1.out,← Hk1.out]; unfold asksK; rw [if_neg fun h=>hlt1 h.2]
   have HS1:Hid (St n0 E W0 g c who x1 p 0):=by rw [hx]; exact HS0
   have HK1:=HK0;clear hx h0 hlt;have hlt1':=HS1.out.lt;obtain ⟨W1,HW1⟩:∃ z,z=W0:=⟨_,rfl⟩;subst HW1;have HS1':=qH HS1.out;have few1:x1.bk.notes.length≤1000:=Few.out;have hal:0≤x1.bk.asks∧x1.bk.asks≤8:=Hal.out
   have O3:Hid (∀ w',Below W1.heap.size W1 w'→Calls Tryz.prog 138 #[.pointer (some ⟨g,0,none⟩)] w' (Says w' hz)):=fun w' hb=>by
    have h1:=stepheld_calls (HS1.out.later hb) Few.out;rw [Hhz.out] at h1
    exact h1
   have heq:∀ w:World,(binOp .neq 29 (.agg #[.int .i64 x1.bk.au.try_,.int .i64 x1.bk.au.ph]) (.agg #[.int .i64 0,.int .i64 0])).run Tryz.prog w=.ok (.bool nz) w:=fun w=>(run_neq_lk w _ _ 0 0).trans (by rw [← Hnz.out])
   have KP3:Hid (∀ w',Below W1.heap.size W1 w'→(Below W1.heap.size W1 w'∧w'.cell? ⟨g,4,none⟩=some (.int .i64 x1.bk.asks)∧w'.cell? ⟨g,15,none⟩=some (.int .i64 c.n)∧w'.cell? ⟨g,16,none⟩=some (.int .i64 c.q)∧w'.cell? ⟨g,17,none⟩=some (.int .i64 c.r)∧w'.cell? ⟨g,18,none⟩=some (.int .i64 c.p)∧w'.cell? ⟨g,19,none⟩=some (.int .i64 c.k)∧w'.cell? ⟨g,20,none⟩=some (.int .i64 c.c)∧w'.cell? ⟨g,6,none⟩=some (.int .i64 x1.bk.au.try_)∧w'.cell? ⟨g,7,none⟩=some (.int .i64 x1.bk.au.ph))):=fun w' hb=>⟨hb,(HS1.out.later hb).ob.cell 4,(HS1.out.later hb).ob.cell 15,(HS1.out.later hb).ob.cell 16,(HS1.out.later hb).ob.cell 17,(HS1.out.later hb).ob.cell 18,(HS1.out.later hb).ob.cell 19,(HS1.out.later hb).ob.cell 20,(HS1.out.later hb).ob.cell 6,(HS1.out.later hb).ob.cell 7⟩
   have z4:W1.cell? ⟨g,4,none⟩=some (.int .i64 x1.bk.asks):=HS1.out.ob.cell 4;have z15:W1.cell? ⟨g,15,none⟩=some (.int .i64 c.n):=HS1.out.ob.cell 15;have z16:W1.cell? ⟨g,16,none⟩=some (.int .i64 c.q):=HS1.out.ob.cell 16;have z17:W1.cell? ⟨g,17,none⟩=some (.int .i64 c.r):=HS1.out.ob.cell 17;have z18:W1.cell? ⟨g,18,none⟩=some (.int .i64 c.p):=HS1.out.ob.cell 18;have z19:W1.cell? ⟨g,19,none⟩=some (.int .i64 c.k):=HS1.out.ob.cell 19
   have z20:W1.cell? ⟨g,20,none⟩=some (.int .i64 c.c):=HS1.out.ob.cell 20;have z6:W1.cell? ⟨g,6,none⟩=some (.int .i64 x1.bk.au.try_):=HS1.out.ob.cell 6;have z7:W1.cell? ⟨g,7,none⟩=some (.int .i64 x1.bk.au.ph):=HS1.out.ob.cell 7
   by_cases hA:x1.bk.asks < c.r
   · have hR:=Hyes.out (Or.inl hA)
     have s1:decide (x1.bk.asks < c.r)=true:=decide_eq_true hA
     go_wp2_with fail
     refine wp_region_held_drew (S:=(fun w'=>Below W1.heap.size W1 w'∧w'.cell? ⟨g,4,none⟩=some (.int .i64 x1.bk.asks)∧w'.cell? ⟨g,15,none⟩=some (.int .i64 c.n)∧w'.cell? ⟨g,16,none⟩=some (.int .i64 c.q)∧w'.cell? ⟨g,17,none⟩=some (.int .i64 c.r)∧w'.cell? ⟨g,18,none⟩=some (.int .i64 c.p)∧w'.cell? ⟨g,19,none⟩=some (.int .i64 c.k)∧w'.cell? ⟨g,20,none⟩=some (.int .i64 c.c)∧w'.cell? ⟨g,6,none⟩=some (.int .i64 x1.bk.au.try_)∧w'.cell? ⟨g,7,none⟩=some (.int .i64 x1.bk.au.ph))) (by kernel_rfl) (KP3.out _ (Below.refl _ _).drew) (fun hHeld=>?_)
     refine qT 0 25 ?_ rfl ?_ ?_
     rotate_left 1
     · intro w hSw
       try dsimp only at hSw
       go_simp
       try with_reducible rfl
     simp only [Act.put,qA,qB,qC];refine qT 1 26 ?_ rfl ?_ ?_
     rotate_left 1
     · intro w hSw
       try dsimp only at hSw
       go_simp
       try with_reducible rfl
     simp only [Act.put,qA,qB,qC];refine qT 2 27 ?_ rfl ?_ ?_
     rotate_left 1
     · intro w hSw
       try dsimp only at hSw
       go_simp
       try with_reducible rfl
     simp only [Act.put,qA,qB,qC];refine qT 3 28 ?_ rfl ?_ ?_
     rotate_left 1
     · intro w hSw
       try dsimp only at hSw
       go_simp
       try with_reducible rfl
     simp only [Act.put,qA,qB,qC];refine qT 4 29 ?_ rfl ?_ ?_
     rotate_left 1
     · intro w hSw
       try dsimp only at hSw
       go_simp
       try with_reducible rfl
     simp only [Act.put,qA,qB,qC];refine qT 5 30 ?_ rfl ?_ ?_
     rotate_left 1
     · intro w hSw
       try dsimp only at hSw
       go_simp
       try with_reducible rfl
     simp only [Act.put,qA,qB,qC];refine qT 6 31 ?_ rfl ?_ ?_
     rotate_left 1
     · intro w hSw
       try dsimp only at hSw
       go_simp
       try with_reducible rfl
     simp only [Act.put,qA,qB,qC];refine qT 7 32 ?_ rfl ?_ ?_
     rotate_left 1
     · intro w hSw
       try dsimp only at hSw
       go_simp
       try with_reducible rfl
     simp only [Act.put,qA,qB,qC];refine qT 8 33 ?_ rfl ?_ ?_
     rotate_left 1
     · intro w hSw
       try dsimp only at hSw
       go_simp
       try with_reducible rfl
     simp only [Act.put,qA,qB,qC];refine qT 9 34 ?_ rfl ?_ ?_
     rotate_left 1
     · intro w hSw
       try dsimp only at hSw
       go_simp
       try with_reducible rfl
     simp only [Act.put,qA,qB,qC];refine qT 10 35 ?_ rfl ?_ ?_
     rotate_left 1
     · intro w hSw
       try dsimp only at hSw
       go_simp
       try simp only [s1]
       try with_reducible rfl
     simp only [Act.put,qA,qB,qC];refine qT 11 36 ?_ rfl ?_ ?_
     rotate_left 1
     · intro w hSw
       try dsimp only at hSw
       go_simp
       try with_reducible rfl
     simp only [Act.put,qA,qB,qC];refine qS 12 37 rfl ?_;simp only [Act.put,qA,qB,qC];refine qS 13 38 rfl ?_;simp only [Act.put,qA,qB,qC];refine qS 14 39 rfl ?_;simp only [Act.put,qA,qB,qC];refine qS 15 40 rfl ?_;simp only [Act.put,qA,qB,qC];refine qS 16 41 rfl ?_;simp only [Act.put,qA,qB,qC];refine qS 17 42 rfl ?_;simp only [Act.put,qA,qB,qC];refine qS 18 43 rfl ?_;simp only [Act.put,qA,qB,qC];refine qS 19 44 rfl ?_
     simp only [Act.put,qA,qB,qC];refine qT 20 45 ?_ rfl ?_ ?_
     rotate_left 1
     · intro w hSw
       try dsimp only at hSw
       go_simp
       try with_reducible rfl
     simp only [Act.put,qA,qB,qC];refine qT 21 46 ?_ rfl ?_ ?_
     rotate_left 1
     · intro w hSw
       try dsimp only at hSw
       go_simp
       try with_reducible rfl
     simp only [Act.put,qA,qB,qC];refine qS 22 47 rfl ?_;simp only [Act.put,qA,qB,qC];refine qS 23 48 rfl ?_;simp only [Act.put,qA,qB,qC];refine qT 24 49 ?_ rfl ?_ ?_
     rotate_left 1
     · intro w hSw
       try dsimp only at hSw
       go_simp
       try with_reducible rfl
     simp only [Act.put,qA,qB,qC];refine wpAnyH_done (by kernel_rfl) ?_ _
     have HS3:=qH (HS1.out.later hHeld.1);have HK3:=qH (HK1.out.next hHeld.1);clear hHeld
     go_wp2_with fail
     exact bodyPost_ret (v:=.tuple #[]) (by simp [results,Tryz.results123,go_sem]) rfl ⟨rfl,by rw [hR.1,hR.2]; exact ⟨_,HS3.out,HK3.out⟩⟩
   have s1:decide (x1.bk.asks < c.r)=false:=decide_eq_false hA
   cases nz with
   | true =>
     have hR:=Hyes.out (Or.inr (Or.inl (of_decide_eq_false (by have h:=Hnz.out; revert h; cases decide (x1.bk.au.try_=0∧x1.bk.au.ph=0) <;> simp))))
     go_wp2_with fail
     refine wp_region_held_drew (S:=(fun w'=>Below W1.heap.size W1 w'∧w'.cell? ⟨g,4,none⟩=some (.int .i64 x1.bk.asks)∧w'.cell? ⟨g,15,none⟩=some (.int .i64 c.n)∧w'.cell? ⟨g,16,none⟩=some (.int .i64 c.q)∧w'.cell? ⟨g,17,none⟩=some (.int .i64 c.r)∧w'.cell? ⟨g,18,none⟩=some (.int .i64 c.p)∧w'.cell? ⟨g,19,none⟩=some (.int .i64 c.k)∧w'.cell? ⟨g,20,none⟩=some (.int .i64 c.c)∧w'.cell? ⟨g,6,none⟩=some (.int .i64 x1.bk.au.try_)∧w'.cell? ⟨g,7,none⟩=some (.int .i64 x1.bk.au.ph))) (by kernel_rfl) (KP3.out _ (Below.refl _ _).drew) (fun hHeld=>?_)
     refine qT 0 25 ?_ rfl ?_ ?_
     rotate_left 1
     · intro w hSw
       try dsimp only at hSw
       go_simp
       try with_reducible rfl
     simp only [Act.put,qA,qB,qC];refine qT 1 26 ?_ rfl ?_ ?_
     rotate_left 1
     · intro w hSw
       try dsimp only at hSw
       go_simp
       try with_reducible rfl
     simp only [Act.put,qA,qB,qC];refine qT 2 27 ?_ rfl ?_ ?_
     rotate_left 1
     · intro w hSw
       try dsimp only at hSw
       go_simp
       try with_reducible rfl
     simp only [Act.put,qA,qB,qC];refine qT 3 28 ?_ rfl ?_ ?_
     rotate_left 1
     · intro w hSw
       try dsimp only at hSw
       go_simp
       try with_reducible rfl
     simp only [Act.put,qA,qB,qC];refine qT 4 29 ?_ rfl ?_ ?_
     rotate_left 1
     · intro w hSw
       try dsimp only at hSw
       go_simp
       try with_reducible rfl
     simp only [Act.put,qA,qB,qC];refine qT 5 30 ?_ rfl ?_ ?_
     rotate_left 1
     · intro w hSw
       try dsimp only at hSw
       go_simp
       try with_reducible rfl
     simp only [Act.put,qA,qB,qC];refine qT 6 31 ?_ rfl ?_ ?_
     rotate_left 1
     · intro w hSw
       try dsimp only at hSw
       go_simp
       try with_reducible rfl
     simp only [Act.put,qA,qB,qC];refine qT 7 32 ?_ rfl ?_ ?_
     rotate_left 1
     · intro w hSw
       try dsimp only at hSw
       go_simp
       try with_reducible rfl
     simp only [Act.put,qA,qB,qC];refine qT 8 33 ?_ rfl ?_ ?_
     rotate_left 1
     · intro w hSw
       try dsimp only at hSw
       go_simp
       try with_reducible rfl
     simp only [Act.put,qA,qB,qC];refine qT 9 34 ?_ rfl ?_ ?_
     rotate_left 1
     · intro w hSw
       try dsimp only at hSw
       go_simp
       try with_reducible rfl
     simp only [Act.put,qA,qB,qC];refine qT 10 35 ?_ rfl ?_ ?_
     rotate_left 1
     · intro w hSw
       try dsimp only at hSw
       go_simp
       try simp only [s1]
       try with_reducible rfl
     simp only [Act.put,qA,qB,qC];refine qT 11 36 ?_ rfl ?_ ?_
     rotate_left 1
     · intro w hSw
       try dsimp only at hSw
       go_simp
       try with_reducible rfl
     simp only [Act.put,qA,qB,qC];refine qT 12 37 ?_ rfl ?_ ?_
     rotate_left 1
     · intro w hSw
       try dsimp only at hSw
       go_simp
       try with_reducible rfl
     simp only [Act.put,qA,qB,qC];refine qT 13 38 ?_ rfl ?_ ?_
     rotate_left 1
     · intro w hSw
       try dsimp only at hSw
       go_simp
       try with_reducible rfl
     simp only [Act.put,qA,qB,qC];refine qT 14 39 ?_ rfl ?_ ?_
     rotate_left 1
     · intro w hSw
       try dsimp only at hSw
       go_simp
       try with_reducible rfl
     simp only [Act.put,qA,qB,qC];refine qT 15 40 ?_ rfl ?_ ?_
     rotate_left 1
     · intro w hSw
       try dsimp only at hSw
       go_simp
       try with_reducible rfl
     simp only [Act.put,qA,qB,qC];refine qT 16 41 ?_ rfl ?_ ?_
     rotate_left 1
     · intro w hSw
       try dsimp only at hSw
       go_simp
       try with_reducible rfl
     simp only [Act.put,qA,qB,qC];refine qT 17 42 ?_ rfl ?_ ?_
     rotate_left 1
     · intro w hSw
       try dsimp only at hSw
       go_simp
       try with_reducible rfl
     simp only [Act.put,qA,qB,qC];refine qT 18 43 ?_ rfl ?_ ?_
     rotate_left 1
     · intro w hSw
       try dsimp only at hSw
       go_simp
       try with_reducible rfl
     simp only [Act.put,qA,qB,qC];refine qT 19 44 ?_ rfl ?_ ?_
     rotate_left 1
     · intro w hSw
       try dsimp only at hSw
       go_simp
       try simp only [heq]
       try with_reducible rfl
     simp only [Act.put,qA,qB,qC];refine qT 20 45 ?_ rfl ?_ ?_
     rotate_left 1
     · intro w hSw
       try dsimp only at hSw
       go_simp
       try with_reducible rfl
     simp only [Act.put,qA,qB,qC];refine qT 21 46 ?_ rfl ?_ ?_
     rotate_left 1
     · intro w hSw
       try dsimp only at hSw
       go_simp
       try with_reducible rfl
     simp only [Act.put,qA,qB,qC];refine qS 22 47 rfl ?_;simp only [Act.put,qA,qB,qC];refine qS 23 48 rfl ?_;simp only [Act.put,qA,qB,qC];refine qT 24 49 ?_ rfl ?_ ?_
     rotate_left 1
     · intro w hSw
       try dsimp only at hSw
       go_simp
       try with_reducible rfl
     simp only [Act.put,qA,qB,qC];refine wpAnyH_done (by kernel_rfl) ?_ _
     have HS3:=qH (HS1.out.later hHeld.1);have HK3:=qH (HK1.out.next hHeld.1);clear hHeld
     go_wp2_with fail
     exact bodyPost_ret (v:=.tuple #[]) (by simp [results,Tryz.results123,go_sem]) rfl ⟨rfl,by rw [hR.1,hR.2]; exact ⟨_,HS3.out,HK3.out⟩⟩
   | false =>
   cases hz with
   | true =>
     have hR:=Hyes.out (Or.inr (Or.inr Hhz.out))
     go_wp2_with fail
     refine wp_region_held_drew (S:=(fun w'=>Below W1.heap.size W1 w'∧w'.cell? ⟨g,4,none⟩=some (.int .i64 x1.bk.asks)∧w'.cell? ⟨g,15,none⟩=some (.int .i64 c.n)∧w'.cell? ⟨g,16,none⟩=some (.int .i64 c.q)∧w'.cell? ⟨g,17,none⟩=some (.int .i64 c.r)∧w'.cell? ⟨g,18,none⟩=some (.int .i64 c.p)∧w'.cell? ⟨g,19,none⟩=some (.int .i64 c.k)∧w'.cell? ⟨g,20,none⟩=some (.int .i64 c.c)∧w'.cell? ⟨g,6,none⟩=some (.int .i64 x1.bk.au.try_)∧w'.cell? ⟨g,7,none⟩=some (.int .i64 x1.bk.au.ph))) (by kernel_rfl) (KP3.out _ (Below.refl _ _).drew) (fun hHeld=>?_)
     refine qT 0 25 ?_ rfl ?_ ?_
     rotate_left 1
     · intro w hSw
       try dsimp only at hSw
       go_simp
       try with_reducible rfl
     simp only [Act.put,qA,qB,qC];refine qT 1 26 ?_ rfl ?_ ?_
     rotate_left 1
     · intro w hSw
       try dsimp only at hSw
       go_simp
       try with_reducible rfl
     simp only [Act.put,qA,qB,qC];refine qT 2 27 ?_ rfl ?_ ?_
     rotate_left 1
     · intro w hSw
       try dsimp only at hSw
       go_simp
       try with_reducible rfl
     simp only [Act.put,qA,qB,qC];refine qT 3 28 ?_ rfl ?_ ?_
     rotate_left 1
     · intro w hSw
       try dsimp only at hSw
       go_simp
       try with_reducible rfl
     simp only [Act.put,qA,qB,qC];refine qT 4 29 ?_ rfl ?_ ?_
     rotate_left 1
     · intro w hSw
       try dsimp only at hSw
       go_simp
       try with_reducible rfl
     simp only [Act.put,qA,qB,qC];refine qT 5 30 ?_ rfl ?_ ?_
     rotate_left 1
     · intro w hSw
       try dsimp only at hSw
       go_simp
       try with_reducible rfl
     simp only [Act.put,qA,qB,qC];refine qT 6 31 ?_ rfl ?_ ?_
     rotate_left 1
     · intro w hSw
       try dsimp only at hSw
       go_simp
       try with_reducible rfl
     simp only [Act.put,qA,qB,qC];refine qT 7 32 ?_ rfl ?_ ?_
     rotate_left 1
     · intro w hSw
       try dsimp only at hSw
       go_simp
       try with_reducible rfl
     simp only [Act.put,qA,qB,qC];refine qT 8 33 ?_ rfl ?_ ?_
     rotate_left 1
     · intro w hSw
       try dsimp only at hSw
       go_simp
       try with_reducible rfl
     simp only [Act.put,qA,qB,qC];refine qT 9 34 ?_ rfl ?_ ?_
     rotate_left 1
     · intro w hSw
       try dsimp only at hSw
       go_simp
       try with_reducible rfl
     simp only [Act.put,qA,qB,qC];refine qT 10 35 ?_ rfl ?_ ?_
     rotate_left 1
     · intro w hSw
       try dsimp only at hSw
       go_simp
       try simp only [s1]
       try with_reducible rfl
     simp only [Act.put,qA,qB,qC];refine qT 11 36 ?_ rfl ?_ ?_
     rotate_left 1
     · intro w hSw
       try dsimp only at hSw
       go_simp
       try with_reducible rfl
     simp only [Act.put,qA,qB,qC];refine qT 12 37 ?_ rfl ?_ ?_
     rotate_left 1
     · intro w hSw
       try dsimp only at hSw
       go_simp
       try with_reducible rfl
     simp only [Act.put,qA,qB,qC];refine qT 13 38 ?_ rfl ?_ ?_
     rotate_left 1
     · intro w hSw
       try dsimp only at hSw
       go_simp
       try with_reducible rfl
     simp only [Act.put,qA,qB,qC];refine qT 14 39 ?_ rfl ?_ ?_
     rotate_left 1
     · intro w hSw
       try dsimp only at hSw
       go_simp
       try with_reducible rfl
     simp only [Act.put,qA,qB,qC];refine qT 15 40 ?_ rfl ?_ ?_
     rotate_left 1
     · intro w hSw
       try dsimp only at hSw
       go_simp
       try with_reducible rfl
     simp only [Act.put,qA,qB,qC];refine qT 16 41 ?_ rfl ?_ ?_
     rotate_left 1
     · intro w hSw
       try dsimp only at hSw
       go_simp
       try with_reducible rfl
     simp only [Act.put,qA,qB,qC];refine qT 17 42 ?_ rfl ?_ ?_
     rotate_left 1
     · intro w hSw
       try dsimp only at hSw
       go_simp
       try with_reducible rfl
     simp only [Act.put,qA,qB,qC];refine qT 18 43 ?_ rfl ?_ ?_
     rotate_left 1
     · intro w hSw
       try dsimp only at hSw
       go_simp
       try with_reducible rfl
     simp only [Act.put,qA,qB,qC];refine qT 19 44 ?_ rfl ?_ ?_
     rotate_left 1
     · intro w hSw
       try dsimp only at hSw
       go_simp
       try simp only [heq]
       try with_reducible rfl
     simp only [Act.put,qA,qB,qC];refine qT 20 45 ?_ rfl ?_ ?_
     rotate_left 1
     · intro w hSw
       try dsimp only at hSw
       go_simp
       try with_reducible rfl
     simp only [Act.put,qA,qB,qC];refine qT 21 46 ?_ rfl ?_ ?_
     rotate_left 1
     · intro w hSw
       try dsimp only at hSw
       go_simp
       try with_reducible rfl
     simp only [Act.put,qA,qB,qC];refine qT 22 47 ?_ rfl ?_ ?_
     rotate_left 1
     · intro w hSw
       try dsimp only at hSw
       go_simp
       try with_reducible rfl
     simp only [Act.put,qA,qB,qC];refine wpAnyH_ready (rs:=[23]) (by kernel_rfl) (by simp) ?_
     refine AllReadyH.cons rfl (fun K hK=>?_) AllReadyH.nil
     go_simp
     go_wp2_with (go_at_call 138; refine (O3.out _ hHeld.1).mono ?_; rintro ee wn ⟨rfl,hb⟩; have hS1:=held_next hHeld.1 hb)
     refine hK.out _ _ (KP3.out _ hS1) (fun hHeld2=>?_)
     clear hHeld hK K;have hHeld:=hHeld2;clear hHeld2;refine qT 24 49 ?_ rfl ?_ ?_
     rotate_left 1
     · intro w hSw
       try dsimp only at hSw
       go_simp
       try with_reducible rfl
     simp only [Act.put,qA,qB,qC];refine wpAnyH_done (by kernel_rfl) ?_ _
     have HS3:=qH (HS1.out.later hHeld.1);have HK3:=qH (HK1.out.next hHeld.1);clear hHeld
     go_wp2_with fail
     exact bodyPost_ret (v:=.tuple #[]) (by simp [results,Tryz.results123,go_sem]) rfl ⟨rfl,by rw [hR.1,hR.2]; exact ⟨_,HS3.out,HK3.out⟩⟩
   | false =>
   go_wp2_with fail
   refine wp_region_held_drew (S:=(fun w'=>Below W1.heap.size W1 w'∧w'.cell? ⟨g,4,none⟩=some (.int .i64 x1.bk.asks)∧w'.cell? ⟨g,15,none⟩=some (.int .i64 c.n)∧w'.cell? ⟨g,16,none⟩=some (.int .i64 c.q)∧w'.cell? ⟨g,17,none⟩=some (.int .i64 c.r)∧w'.cell? ⟨g,18,none⟩=some (.int .i64 c.p)∧w'.cell? ⟨g,19,none⟩=some (.int .i64 c.k)∧w'.cell? ⟨g,20,none⟩=some (.int .i64 c.c)∧w'.cell? ⟨g,6,none⟩=some (.int .i64 x1.bk.au.try_)∧w'.cell? ⟨g,7,none⟩=some (.int .i64 x1.bk.au.ph))) (by kernel_rfl) (KP3.out _ (Below.refl _ _).drew) (fun hHeld=>?_)
   refine qT 0 25 ?_ rfl ?_ ?_
   rotate_left 1
   · intro w hSw
     try dsimp only at hSw
     go_simp
     try with_reducible rfl
   simp only [Act.put,qA,qB,qC];refine qT 1 26 ?_ rfl ?_ ?_
   rotate_left 1
   · intro w hSw
     try dsimp only at hSw
     go_simp
     try with_reducible rfl
   simp only [Act.put,qA,qB,qC];refine qT 2 27 ?_ rfl ?_ ?_
   rotate_left 1
   · intro w hSw
     try dsimp only at hSw
     go_simp
     try with_reducible rfl
   simp only [Act.put,qA,qB,qC];refine qT 3 28 ?_ rfl ?_ ?_
   rotate_left 1
   · intro w hSw
     try dsimp only at hSw
     go_simp
     try with_reducible rfl
   simp only [Act.put,qA,qB,qC];refine qT 4 29 ?_ rfl ?_ ?_
   rotate_left 1
   · intro w hSw
     try dsimp only at hSw
     go_simp
     try with_reducible rfl
   simp only [Act.put,qA,qB,qC];refine qT 5 30 ?_ rfl ?_ ?_
   rotate_left 1
   · intro w hSw
     try dsimp only at hSw
     go_simp
     try with_reducible rfl
   simp only [Act.put,qA,qB,qC];refine qT 6 31 ?_ rfl ?_ ?_
   rotate_left 1
   · intro w hSw
     try dsimp only at hSw
     go_simp
     try with_reducible rfl
   simp only [Act.put,qA,qB,qC];refine qT 7 32 ?_ rfl ?_ ?_
   rotate_left 1
   · intro w hSw
     try dsimp only at hSw
     go_simp
     try with_reducible rfl
   simp only [Act.put,qA,qB,qC];refine qT 8 33 ?_ rfl ?_ ?_
   rotate_left 1
   · intro w hSw
     try dsimp only at hSw
     go_simp
     try with_reducible rfl
   simp only [Act.put,qA,qB,qC];refine qT 9 34 ?_ rfl ?_ ?_
   rotate_left 1
   · intro w hSw
     try dsimp only at hSw
     go_simp
     try with_reducible rfl
   simp only [Act.put,qA,qB,qC];refine qT 10 35 ?_ rfl ?_ ?_
   rotate_left 1
   · intro w hSw
     try dsimp only at hSw
     go_simp
     try simp only [s1]
     try with_reducible rfl
   simp only [Act.put,qA,qB,qC];refine qT 11 36 ?_ rfl ?_ ?_
   rotate_left 1
   · intro w hSw
     try dsimp only at hSw
     go_simp
     try with_reducible rfl
   simp only [Act.put,qA,qB,qC];refine qT 12 37 ?_ rfl ?_ ?_
   rotate_left 1
   · intro w hSw
     try dsimp only at hSw
     go_simp
     try with_reducible rfl
   simp only [Act.put,qA,qB,qC];refine qT 13 38 ?_ rfl ?_ ?_
   rotate_left 1
   · intro w hSw
     try dsimp only at hSw
     go_simp
     try with_reducible rfl
   simp only [Act.put,qA,qB,qC];refine qT 14 39 ?_ rfl ?_ ?_
   rotate_left 1
   · intro w hSw
     try dsimp only at hSw
     go_simp
     try with_reducible rfl
   simp only [Act.put,qA,qB,qC];refine qT 15 40 ?_ rfl ?_ ?_
   rotate_left 1
   · intro w hSw
     try dsimp only at hSw
     go_simp
     try with_reducible rfl
   simp only [Act.put,qA,qB,qC];refine qT 16 41 ?_ rfl ?_ ?_
   rotate_left 1
   · intro w hSw
     try dsimp only at hSw
     go_simp
     try with_reducible rfl
   simp only [Act.put,qA,qB,qC];refine qT 17 42 ?_ rfl ?_ ?_
   rotate_left 1
   · intro w hSw
     try dsimp only at hSw
     go_simp
     try with_reducible rfl
   simp only [Act.put,qA,qB,qC];refine qT 18 43 ?_ rfl ?_ ?_
   rotate_left 1
   · intro w hSw
     try dsimp only at hSw
     go_simp
     try with_reducible rfl
   simp only [Act.put,qA,qB,qC];refine qT 19 44 ?_ rfl ?_ ?_
   rotate_left 1
   · intro w hSw
     try dsimp only at hSw
     go_simp
     try simp only [heq]
     try with_reducible rfl
   simp only [Act.put,qA,qB,qC];refine qT 20 45 ?_ rfl ?_ ?_
   rotate_left 1
   · intro w hSw
     try dsimp only at hSw
     go_simp
     try with_reducible rfl
   simp only [Act.put,qA,qB,qC];refine qT 21 46 ?_ rfl ?_ ?_
   rotate_left 1
   · intro w hSw
     try dsimp only at hSw
     go_simp
     try with_reducible rfl
   simp only [Act.put,qA,qB,qC];refine qT 22 47 ?_ rfl ?_ ?_
   rotate_left 1
   · intro w hSw
     try dsimp only at hSw
     go_simp
     try with_reducible rfl
   simp only [Act.put,qA,qB,qC];refine wpAnyH_ready (rs:=[23]) (by kernel_rfl) (by simp) ?_
   refine AllReadyH.cons rfl (fun K hK=>?_) AllReadyH.nil
   go_simp
   go_wp2_with (go_at_call 138; refine (O3.out _ hHeld.1).mono ?_; rintro ee wn ⟨rfl,hb⟩; have hS1:=held_next hHeld.1 hb)
   refine hK.out _ _ (KP3.out _ hS1) (fun hHeld2=>?_)
   clear hHeld hK K;have hHeld:=hHeld2;clear hHeld2;refine qT 24 49 ?_ rfl ?_ ?_
   rotate_left 1
   · intro w hSw
     try dsimp only at hSw
     go_simp
     try with_reducible rfl
   simp only [Act.put,qA,qB,qC];refine wpAnyH_done (by kernel_rfl) ?_ _
   have hb3:=hHeld.1;have HS3:=qH (HS1.out.later hb3);have HK3:=qH (HK1.out.next hb3);have hN9:=Hno.out ⟨hA,fun h=>h (of_decide_eq_true (by simpa using Hnz.out)),fun h=>by rw [Hhz.out] at h; cases h⟩
   have HN9:=qH hN9;clear hN9 hb3 hHeld s1 z4 z15 z16 z17 z18 z19 z20 z6 z7 heq O3 KP3 hal few1
   go_wp2_with fail
   have OT:=qH (steptick_calls HS3.out 0);rw [if_pos rfl,if_pos rfl] at OT;rw [HT.out,HC.out] at OT;refine OT.out.mono ?_;rintro e W4 ⟨rfl,hS4,hK4⟩;have HS4:=qH hS4;have HK4:=qH (HK3.out.trans hK4);clear hS4 hK4 OT
   go_wp2_with fail
   refine (stopped_calls HS4.out).mono ?_
   by_cases hC:C=0
   rotate_left 1
   · rw [show decide (C ≠ 0)=true from decide_eq_true hC]
     rintro e w5 ⟨rfl,rfl⟩;have hR:=HN9.out;rw [if_neg hC] at hR
     go_wp2_with fail
     exact bodyPost_end (v:=.tuple #[]) (by simp [results,Tryz.results123,go_sem]) rfl ⟨rfl,by rw [show bkN x kr=_ from congrArg Prod.fst hR,show cd=_ from congrArg Prod.snd hR]; exact ⟨_,HS4.out,HK4.out⟩⟩
   rw [show decide (C ≠ 0)=false from decide_eq_false fun h=>h hC]
   rintro e w5 ⟨rfl,rfl⟩;have hR:=HN9.out;rw [if_pos hC] at hR;subst hC;obtain ⟨x2,Hx2⟩:∃ z,bkN x1 (clksK x1.bk T)=z:=⟨_,rfl⟩;rw [Hx2] at HS4;obtain ⟨⟨y,gz⟩,Hb⟩:∃ z,Hid (beginA c who T=z):=⟨_,rfl⟩;have Hkr:Hid (bkN x2 (auK x2.bk y)=bkN x kr):=qH (by have h9:bkN x kr=bkN x (auK (clksK x1.bk T) (beginA c who T).1):=congrArg Prod.fst hR; rw [h9,← Hx2,Hb.out,← Hx1.out])
   have Hcd:Hid (gz=cd):=qH (by have h9:cd=(beginA c who T).2:=congrArg Prod.snd hR; rw [h9,Hb.out])
   have hx2c:x2.bk.clk=T:=by rw [← Hx2]
   clear hR HN9;obtain ⟨W2,HW2⟩:∃ z,z=W4:=⟨_,rfl⟩;subst HW2;have HS2:=HS4;have HK2:=HK4;clear HS4 HK4
   have HN:Hid (∀ w',Below W2.heap.size W2 w'→Calls Tryz.prog 172 #[cfV c,.int .i64 who,.int .i64 T] w' (fun e w2=>∃ pa,e=.returned (.tuple #[auAt y pa,.int .i64 gz])∧Below w'.heap.size w' w2∧Stay (fun b=>b < w'.heap.size) w2 (fun V=>AuIn V pa y))):=fun w' hb=>by
    have h1:=aBeginO_calls c who T w';rw [Hb.out] at h1
    exact h1.mono fun e w2 ⟨q,h1,h2,h3,h4⟩=>⟨q,h1,h3,fun V hV=>h2.butS hV fun g hg=>h4 g trivial (Or.inl hg)⟩
   have hlt2:=HS2.out.lt;have hn0:n0≤W2.heap.size:=by have:=HS2.out.le; omega
   go_wp2_with fail
   refine wp_region_each_at ?hm ?hb (fun a0 d a' w'=>∃ (e0 e1 e2 e3 e4 e5 e6 e7 e8 e9 e10 e11 e12 e13 e14 e15 e16 e17 e18 e19 e20 e21 e23 e24:Value) (pa:Al),a'=putAll a0 [(56,e0),(57,e1),(58,e2),(59,e3),(60,e4),(61,e5),(62,e6),(63,e7),(64,e8),(65,e9),(66,e10),(67,e11),(68,e12),(69,e13),(70,e14),(71,e15),(55,e16),(72,e17),(73,e18),(74,e19),(75,e20),(76,e21),(77,e23),(78,e24)]∧Below n0 W2 w'∧(d 0=true→e0=(.pointer (some ⟨g,0,none⟩)))∧(d 1=true→e1=(.pointer (some ⟨g,0,none⟩)))∧(d 2=true→e2=(.pointer (some ⟨g,0,none⟩)))∧(d 3=true→e3=(.pointer (some ⟨g,0,none⟩)))∧(d 4=true→e4=(.pointer (some ⟨g,15,none⟩)))∧(d 5=true→e5=(cfV c))∧(d 6=true→e6=(.pointer (some ⟨g,0,none⟩)))∧(d 7=true→e7=(.pointer (some ⟨g,0,none⟩)))∧(d 8=true→e8=(.pointer (some ⟨g,21,none⟩)))∧(d 9=true→e9=(.int .i64 who))∧(d 10=true→e10=(.pointer (some ⟨g,0,none⟩)))∧(d 11=true→e11=(.pointer (some ⟨g,0,none⟩)))∧(d 12=true→e12=(.pointer (some ⟨g,0,none⟩)))∧(d 13=true→e13=(.pointer (some ⟨g,0,none⟩)))∧(d 14=true→e14=(.int .i64 T))∧(d 15=true→(d 5=true∧d 9=true∧d 14=true∧e15=(.tuple #[auAt y pa,.int .i64 gz])∧(d 22=false→Stay (fun b=>b < W2.heap.size) w' (fun V=>AuIn V pa y))))∧(d 16=true→(d 15=true∧e16=(.tuple #[auAt y pa,.int .i64 gz])))∧(d 17=true→(d 15=true∧e17=(auAt y pa)))∧(d 18=true→e18=(.int .i64 gz))∧(d 19=true→e19=(.pointer (some ⟨g,0,none⟩)))∧(d 20=true→e20=(.pointer (some ⟨g,0,none⟩)))∧(d 21=true→e21=(.pointer (some ⟨g,6,none⟩)))∧(d 22=true→(d 15=true∧(d 25=false→StepTo n0 E g c who p W2 (bkN x2 (auK x2.bk y)) 0 w')))∧(d 23=true→e23=(.pointer (some ⟨g,0,none⟩)))∧(d 24=true→e24=(.pointer (some ⟨g,22,none⟩)))∧(d 25=true→(d 22=true∧StepTo n0 E g c who p W2 (bkN x2 (auK x2.bk y)) gz w'))∧(d 22=false→Below W2.heap.size W2 w')) ?h0 ?step ?ends
   case hm=>kernel_rfl
   case hb=>kernel_rfl
   case h0 =>
    refine ⟨undef,undef,undef,undef,undef,undef,undef,undef,undef,undef,undef,undef,undef,undef,undef,undef,undef,undef,undef,undef,undef,undef,undef,undef,al0,?_,(Below.refl _ _).drew,fun h=>absurd h (by decide),fun h=>absurd h (by decide),fun h=>absurd h (by decide),fun h=>absurd h (by decide),fun h=>absurd h (by decide),fun h=>absurd h (by decide),fun h=>absurd h (by decide),fun h=>absurd h (by decide),fun h=>absurd h (by decide),fun h=>absurd h (by decide),fun h=>absurd h (by decide),fun h=>absurd h (by decide),fun h=>absurd h (by decide),fun h=>absurd h (by decide),fun h=>absurd h (by decide),fun h=>absurd h (by decide),fun h=>absurd h (by decide),fun h=>absurd h (by decide),fun h=>absurd h (by decide),fun h=>absurd h (by decide),fun h=>absurd h (by decide),fun h=>absurd h (by decide),fun h=>absurd h (by decide),fun h=>absurd h (by decide),fun h=>absurd h (by decide),fun h=>absurd h (by decide),fun _=>(Below.refl _ _).drew⟩
    simp only [putAll,Act.put,qA,qB,qC]
   case step =>
    intro i d a' w' hi hJ hd hk;obtain ⟨e0,e1,e2,e3,e4,e5,e6,e7,e8,e9,e10,e11,e12,e13,e14,e15,e16,e17,e18,e19,e20,e21,e23,e24,pa,rfl,hC⟩:=hJ;obtain ⟨hB,hC⟩:=hC;obtain ⟨c0,hC⟩:=hC;obtain ⟨c1,hC⟩:=hC;obtain ⟨c2,hC⟩:=hC;obtain ⟨c3,hC⟩:=hC;obtain ⟨c4,hC⟩:=hC;obtain ⟨c5,hC⟩:=hC;obtain ⟨c6,hC⟩:=hC;obtain ⟨c7,hC⟩:=hC;obtain ⟨c8,hC⟩:=hC;obtain ⟨c9,hC⟩:=hC;obtain ⟨c10,hC⟩:=hC;obtain ⟨c11,hC⟩:=hC;obtain ⟨c12,hC⟩:=hC
    obtain ⟨c13,hC⟩:=hC;obtain ⟨c14,hC⟩:=hC;obtain ⟨c15,hC⟩:=hC;obtain ⟨c16,hC⟩:=hC;obtain ⟨c17,hC⟩:=hC;obtain ⟨c18,hC⟩:=hC;obtain ⟨c19,hC⟩:=hC;obtain ⟨c20,hC⟩:=hC;obtain ⟨c21,hC⟩:=hC;obtain ⟨c22,hC⟩:=hC;obtain ⟨c23,hC⟩:=hC;obtain ⟨c24,hC⟩:=hC;obtain ⟨c25,hC⟩:=hC;have cb:=hC;clear hC;have Xc0:=qH c0; clear c0;have Xc1:=qH c1; clear c1;have Xc2:=qH c2; clear c2;have Xc3:=qH c3; clear c3;have Xc4:=qH c4; clear c4
    have Xc5:=qH c5; clear c5;have Xc6:=qH c6; clear c6;have Xc7:=qH c7; clear c7;have Xc8:=qH c8; clear c8;have Xc9:=qH c9; clear c9;have Xc10:=qH c10; clear c10;have Xc11:=qH c11; clear c11;have Xc12:=qH c12; clear c12;have Xc13:=qH c13; clear c13;have Xc14:=qH c14; clear c14;have Xc15:=qH c15; clear c15;have Xc16:=qH c16; clear c16;have Xc17:=qH c17; clear c17;have Xc18:=qH c18; clear c18;have Xc19:=qH c19; clear c19
    have Xc20:=qH c20; clear c20;have Xc21:=qH c21; clear c21;have Xc22:=qH c22; clear c22;have Xc23:=qH c23; clear c23;have Xc24:=qH c24; clear c24;have Xc25:=qH c25; clear c25;have Xcb:=qH cb; clear cb
    match i,hi,hd,hk with
    | 0, _, hd, hk =>
      apply wpOp_at
      case ho=>rfl
      intro K hK;simp only [putAll,Act.put,qA,qB,qC];go_simp;refine hK _ _ ⟨(.pointer (some ⟨g,0,none⟩)),_,_,_,_,_,_,_,_,_,_,_,_,_,_,_,_,_,_,_,_,_,_,_,pa,?_,hB,fun _=>rfl,Xc1,Xc2,Xc3,Xc4,Xc5,Xc6,Xc7,Xc8,Xc9,Xc10,Xc11,Xc12,Xc13,Xc14,Xc15,Xc16,Xc17,Xc18,Xc19,Xc20,Xc21,Xc22,Xc23,Xc24,Xc25,Xcb⟩
      simp only [putAll,Act.put,qA,qB,qC]
    | 1, _, hd, hk =>
      apply wpOp_at
      case ho=>rfl
      intro K hK;simp only [putAll,Act.put,qA,qB,qC];go_simp;refine hK _ _ ⟨_,(.pointer (some ⟨g,0,none⟩)),_,_,_,_,_,_,_,_,_,_,_,_,_,_,_,_,_,_,_,_,_,_,pa,?_,hB,Xc0,fun _=>rfl,Xc2,Xc3,Xc4,Xc5,Xc6,Xc7,Xc8,Xc9,Xc10,Xc11,Xc12,Xc13,Xc14,Xc15,Xc16,Xc17,Xc18,Xc19,Xc20,Xc21,Xc22,Xc23,Xc24,Xc25,Xcb⟩
      simp only [putAll,Act.put,qA,qB,qC]
    | 2, _, hd, hk =>
      apply wpOp_at
      case ho=>rfl
      intro K hK;simp only [putAll,Act.put,qA,qB,qC];go_simp;refine hK _ _ ⟨_,_,(.pointer (some ⟨g,0,none⟩)),_,_,_,_,_,_,_,_,_,_,_,_,_,_,_,_,_,_,_,_,_,pa,?_,hB,Xc0,Xc1,fun _=>rfl,Xc3,Xc4,Xc5,Xc6,Xc7,Xc8,Xc9,Xc10,Xc11,Xc12,Xc13,Xc14,Xc15,Xc16,Xc17,Xc18,Xc19,Xc20,Xc21,Xc22,Xc23,Xc24,Xc25,Xcb⟩
      simp only [putAll,Act.put,qA,qB,qC]
    | 3, _, hd, hk =>
      have h2:=hk 2 (by decide +kernel)
      have c2:=Xc2.out;obtain rfl:=c2 h2;clear c2;apply wpOp_at
      case ho=>rfl
      intro K hK;simp only [putAll,Act.put,qA,qB,qC];go_simp;refine hK _ _ ⟨_,_,(.pointer (some ⟨g,0,none⟩)),(.pointer (some ⟨g,0,none⟩)),_,_,_,_,_,_,_,_,_,_,_,_,_,_,_,_,_,_,_,_,pa,?_,hB,Xc0,Xc1,Xc2,fun _=>rfl,Xc4,Xc5,Xc6,Xc7,Xc8,Xc9,Xc10,Xc11,Xc12,Xc13,Xc14,Xc15,Xc16,Xc17,Xc18,Xc19,Xc20,Xc21,Xc22,Xc23,Xc24,Xc25,Xcb⟩
      simp only [putAll,Act.put,qA,qB,qC]
    | 4, _, hd, hk =>
      have h3:=hk 3 (by decide +kernel)
      have c3:=Xc3.out;obtain rfl:=c3 h3;clear c3;apply wpOp_at
      case ho=>rfl
      intro K hK;simp only [putAll,Act.put,qA,qB,qC];go_simp;refine hK _ _ ⟨_,_,_,(.pointer (some ⟨g,0,none⟩)),(.pointer (some ⟨g,15,none⟩)),_,_,_,_,_,_,_,_,_,_,_,_,_,_,_,_,_,_,_,pa,?_,hB,Xc0,Xc1,Xc2,Xc3,fun _=>rfl,Xc5,Xc6,Xc7,Xc8,Xc9,Xc10,Xc11,Xc12,Xc13,Xc14,Xc15,Xc16,Xc17,Xc18,Xc19,Xc20,Xc21,Xc22,Xc23,Xc24,Xc25,Xcb⟩
      simp only [putAll,Act.put,qA,qB,qC]
    | 5, _, hd, hk =>
      have h4:=hk 4 (by decide +kernel)
      have c4:=Xc4.out;have c15:=Xc15.out;have c22:=Xc22.out;have cb:=Xcb.out;obtain rfl:=c4 h4;have hd25:d 22=false:=by cases h:d 22 with | false=>rfl | true=>exact Bool.noConfusion (hd.symm.trans (c15 (c22 h).1).1)
      have hb9:=cb hd25;have q15:=(HS2.out.later hb9).ob.cell 15;have q16:=(HS2.out.later hb9).ob.cell 16;have q17:=(HS2.out.later hb9).ob.cell 17;have q18:=(HS2.out.later hb9).ob.cell 18;have q19:=(HS2.out.later hb9).ob.cell 19;have q20:=(HS2.out.later hb9).ob.cell 20;clear c4 c15 c22 cb;apply wpOp_at
      case ho=>rfl
      intro K hK;simp only [putAll,Act.put,qA,qB,qC];go_simp;have c15:=Xc15.out;refine hK _ _ ⟨_,_,_,_,(.pointer (some ⟨g,15,none⟩)),(cfV c),_,_,_,_,_,_,_,_,_,e15,_,_,_,_,_,_,_,_,pa,?_,hB,Xc0,Xc1,Xc2,Xc3,Xc4,fun _=>rfl,Xc6,Xc7,Xc8,Xc9,Xc10,Xc11,Xc12,Xc13,Xc14,fun h=>Bool.noConfusion (hd.symm.trans (c15 h).1),Xc16,Xc17,Xc18,Xc19,Xc20,Xc21,Xc22,Xc23,Xc24,Xc25,Xcb⟩
      simp only [putAll,Act.put,qA,qB,qC]
    | 6, _, hd, hk =>
      apply wpOp_at
      case ho=>rfl
      intro K hK;simp only [putAll,Act.put,qA,qB,qC];go_simp;refine hK _ _ ⟨_,_,_,_,_,_,(.pointer (some ⟨g,0,none⟩)),_,_,_,_,_,_,_,_,_,_,_,_,_,_,_,_,_,pa,?_,hB,Xc0,Xc1,Xc2,Xc3,Xc4,Xc5,fun _=>rfl,Xc7,Xc8,Xc9,Xc10,Xc11,Xc12,Xc13,Xc14,Xc15,Xc16,Xc17,Xc18,Xc19,Xc20,Xc21,Xc22,Xc23,Xc24,Xc25,Xcb⟩
      simp only [putAll,Act.put,qA,qB,qC]
    | 7, _, hd, hk =>
      have h6:=hk 6 (by decide +kernel)
      have c6:=Xc6.out;obtain rfl:=c6 h6;clear c6;apply wpOp_at
      case ho=>rfl
      intro K hK;simp only [putAll,Act.put,qA,qB,qC];go_simp;refine hK _ _ ⟨_,_,_,_,_,_,(.pointer (some ⟨g,0,none⟩)),(.pointer (some ⟨g,0,none⟩)),_,_,_,_,_,_,_,_,_,_,_,_,_,_,_,_,pa,?_,hB,Xc0,Xc1,Xc2,Xc3,Xc4,Xc5,Xc6,fun _=>rfl,Xc8,Xc9,Xc10,Xc11,Xc12,Xc13,Xc14,Xc15,Xc16,Xc17,Xc18,Xc19,Xc20,Xc21,Xc22,Xc23,Xc24,Xc25,Xcb⟩
      simp only [putAll,Act.put,qA,qB,qC]
    | 8, _, hd, hk =>
      have h7:=hk 7 (by decide +kernel)
      have c7:=Xc7.out;obtain rfl:=c7 h7;clear c7;apply wpOp_at
      case ho=>rfl
      intro K hK;simp only [putAll,Act.put,qA,qB,qC];go_simp;refine hK _ _ ⟨_,_,_,_,_,_,_,(.pointer (some ⟨g,0,none⟩)),(.pointer (some ⟨g,21,none⟩)),_,_,_,_,_,_,_,_,_,_,_,_,_,_,_,pa,?_,hB,Xc0,Xc1,Xc2,Xc3,Xc4,Xc5,Xc6,Xc7,fun _=>rfl,Xc9,Xc10,Xc11,Xc12,Xc13,Xc14,Xc15,Xc16,Xc17,Xc18,Xc19,Xc20,Xc21,Xc22,Xc23,Xc24,Xc25,Xcb⟩
      simp only [putAll,Act.put,qA,qB,qC]
    | 9, _, hd, hk =>
      have h8:=hk 8 (by decide +kernel)
      have c8:=Xc8.out;have c15:=Xc15.out;have c22:=Xc22.out;have cb:=Xcb.out;obtain rfl:=c8 h8;have hd25:d 22=false:=by cases h:d 22 with | false=>rfl | true=>exact Bool.noConfusion (hd.symm.trans (c15 (c22 h).1).2.1)
      have hb9:=cb hd25;have q21:=(HS2.out.later hb9).ob.cell 21;clear c8 c15 c22 cb;apply wpOp_at
      case ho=>rfl
      intro K hK;simp only [putAll,Act.put,qA,qB,qC];go_simp;have c15:=Xc15.out;refine hK _ _ ⟨_,_,_,_,_,_,_,_,(.pointer (some ⟨g,21,none⟩)),(.int .i64 who),_,_,_,_,_,e15,_,_,_,_,_,_,_,_,pa,?_,hB,Xc0,Xc1,Xc2,Xc3,Xc4,Xc5,Xc6,Xc7,Xc8,fun _=>rfl,Xc10,Xc11,Xc12,Xc13,Xc14,fun h=>Bool.noConfusion (hd.symm.trans (c15 h).2.1),Xc16,Xc17,Xc18,Xc19,Xc20,Xc21,Xc22,Xc23,Xc24,Xc25,Xcb⟩
      simp only [putAll,Act.put,qA,qB,qC]
    | 10, _, hd, hk =>
      apply wpOp_at
      case ho=>rfl
      intro K hK;simp only [putAll,Act.put,qA,qB,qC];go_simp;refine hK _ _ ⟨_,_,_,_,_,_,_,_,_,_,(.pointer (some ⟨g,0,none⟩)),_,_,_,_,_,_,_,_,_,_,_,_,_,pa,?_,hB,Xc0,Xc1,Xc2,Xc3,Xc4,Xc5,Xc6,Xc7,Xc8,Xc9,fun _=>rfl,Xc11,Xc12,Xc13,Xc14,Xc15,Xc16,Xc17,Xc18,Xc19,Xc20,Xc21,Xc22,Xc23,Xc24,Xc25,Xcb⟩
      simp only [putAll,Act.put,qA,qB,qC]
    | 11, _, hd, hk =>
      have h10:=hk 10 (by decide +kernel)
      have c10:=Xc10.out;obtain rfl:=c10 h10;clear c10;apply wpOp_at
      case ho=>rfl
      intro K hK;simp only [putAll,Act.put,qA,qB,qC];go_simp;refine hK _ _ ⟨_,_,_,_,_,_,_,_,_,_,(.pointer (some ⟨g,0,none⟩)),(.pointer (some ⟨g,0,none⟩)),_,_,_,_,_,_,_,_,_,_,_,_,pa,?_,hB,Xc0,Xc1,Xc2,Xc3,Xc4,Xc5,Xc6,Xc7,Xc8,Xc9,Xc10,fun _=>rfl,Xc12,Xc13,Xc14,Xc15,Xc16,Xc17,Xc18,Xc19,Xc20,Xc21,Xc22,Xc23,Xc24,Xc25,Xcb⟩
      simp only [putAll,Act.put,qA,qB,qC]
    | 12, _, hd, hk =>
      have h11:=hk 11 (by decide +kernel)
      have c11:=Xc11.out;obtain rfl:=c11 h11;clear c11;apply wpOp_at
      case ho=>rfl
      intro K hK;simp only [putAll,Act.put,qA,qB,qC];go_simp;refine hK _ _ ⟨_,_,_,_,_,_,_,_,_,_,_,(.pointer (some ⟨g,0,none⟩)),(.pointer (some ⟨g,0,none⟩)),_,_,_,_,_,_,_,_,_,_,_,pa,?_,hB,Xc0,Xc1,Xc2,Xc3,Xc4,Xc5,Xc6,Xc7,Xc8,Xc9,Xc10,Xc11,fun _=>rfl,Xc13,Xc14,Xc15,Xc16,Xc17,Xc18,Xc19,Xc20,Xc21,Xc22,Xc23,Xc24,Xc25,Xcb⟩
      simp only [putAll,Act.put,qA,qB,qC]
    | 13, _, hd, hk =>
      have h12:=hk 12 (by decide +kernel)
      have c12:=Xc12.out;obtain rfl:=c12 h12;clear c12;apply wpOp_at
      case ho=>rfl
      intro K hK;simp only [putAll,Act.put,qA,qB,qC];go_simp;refine hK _ _ ⟨_,_,_,_,_,_,_,_,_,_,_,_,(.pointer (some ⟨g,0,none⟩)),(.pointer (some ⟨g,0,none⟩)),_,_,_,_,_,_,_,_,_,_,pa,?_,hB,Xc0,Xc1,Xc2,Xc3,Xc4,Xc5,Xc6,Xc7,Xc8,Xc9,Xc10,Xc11,Xc12,fun _=>rfl,Xc14,Xc15,Xc16,Xc17,Xc18,Xc19,Xc20,Xc21,Xc22,Xc23,Xc24,Xc25,Xcb⟩
      simp only [putAll,Act.put,qA,qB,qC]
    | 14, _, hd, hk =>
      have h13:=hk 13 (by decide +kernel)
      have c13:=Xc13.out;have c15:=Xc15.out;have c22:=Xc22.out;have cb:=Xcb.out;obtain rfl:=c13 h13;have hd25:d 22=false:=by cases h:d 22 with | false=>rfl | true=>exact Bool.noConfusion (hd.symm.trans (c15 (c22 h).1).2.2.1)
      have hb9:=cb hd25;have q0:w'.cell? ⟨g,0,none⟩=some (.int .i64 T):=by have h9:=(HS2.out.later hb9).ob.cell 0; rw [← hx2c]; exact h9
      clear c13 c15 c22 cb;apply wpOp_at
      case ho=>rfl
      intro K hK;simp only [putAll,Act.put,qA,qB,qC];go_simp;have c15:=Xc15.out;refine hK _ _ ⟨_,_,_,_,_,_,_,_,_,_,_,_,_,(.pointer (some ⟨g,0,none⟩)),(.int .i64 T),e15,_,_,_,_,_,_,_,_,pa,?_,hB,Xc0,Xc1,Xc2,Xc3,Xc4,Xc5,Xc6,Xc7,Xc8,Xc9,Xc10,Xc11,Xc12,Xc13,fun _=>rfl,fun h=>Bool.noConfusion (hd.symm.trans (c15 h).2.2.1),Xc16,Xc17,Xc18,Xc19,Xc20,Xc21,Xc22,Xc23,Xc24,Xc25,Xcb⟩
      simp only [putAll,Act.put,qA,qB,qC]
    | 15, _, hd, hk =>
      have h5:=hk 5 (by decide +kernel)
      have h9:=hk 9 (by decide +kernel)
      have h14:=hk 14 (by decide +kernel)
      have c5:=Xc5.out;have c9:=Xc9.out;have c14:=Xc14.out;have c22:=Xc22.out;have cb:=Xcb.out;obtain rfl:=c5 h5;obtain rfl:=c9 h9;obtain rfl:=c14 h14;have hd25:d 22=false:=by cases h:d 22 with | false=>rfl | true=>exact Bool.noConfusion (hd.symm.trans (c22 h).1)
      have hb9:=cb hd25;clear c5 c9 c14 c22 cb;apply wpOp_at
      case ho=>rfl
      intro K hK;simp only [putAll,Act.put,qA,qB,qC];go_simp;have c16:=Xc16.out;have c17:=Xc17.out;have c22:=Xc22.out;have c25:=Xc25.out;have cb:=Xcb.out;refine (HN.out _ hb9).mono ?_;rintro e w'' ⟨q,rfl,hb,hs⟩;refine hK _ _ ⟨_,_,_,_,_,(cfV c),_,_,_,(.int .i64 who),_,_,_,_,(.int .i64 T),.tuple #[auAt y q,.int .i64 gz],e16,e17,_,_,_,_,_,_,q,?_,hB.trans (hb.mono (Nat.le_trans hn0 hb9.size)),Xc0,Xc1,Xc2,Xc3,Xc4,Xc5,Xc6,Xc7,Xc8,Xc9,Xc10,Xc11,Xc12,Xc13,Xc14,fun _=>⟨h5,h9,h14,rfl,fun _ V hV=>hs V (hV.wide fun b (hb2:b < W2.heap.size)=>Nat.lt_of_lt_of_le hb2 hb9.size)⟩,fun h=>Bool.noConfusion (hd.symm.trans (c16 h).1),fun h=>Bool.noConfusion (hd.symm.trans (c17 h).1),Xc18,Xc19,Xc20,Xc21,fun h=>Bool.noConfusion (hd.symm.trans (c22 h).1),Xc23,Xc24,fun h=>Bool.noConfusion (hd.symm.trans (c22 (c25 h).1).1),fun h=>held_next (cb h) hb⟩
      simp only [putAll,Act.put,qA,qB,qC]
    | 16, _, hd, hk =>
      have h15:=hk 15 (by decide +kernel)
      have c15:=Xc15.out;obtain ⟨-,-,-,rfl,-⟩:=c15 h15;clear c15;apply wpOp_at
      case ho=>rfl
      intro K hK;simp only [putAll,Act.put,qA,qB,qC];go_simp;refine hK _ _ ⟨_,_,_,_,_,_,_,_,_,_,_,_,_,_,_,(.tuple #[auAt y pa,.int .i64 gz]),(.tuple #[auAt y pa,.int .i64 gz]),_,_,_,_,_,_,_,pa,?_,hB,Xc0,Xc1,Xc2,Xc3,Xc4,Xc5,Xc6,Xc7,Xc8,Xc9,Xc10,Xc11,Xc12,Xc13,Xc14,Xc15,fun _=>⟨h15,rfl⟩,Xc17,Xc18,Xc19,Xc20,Xc21,Xc22,Xc23,Xc24,Xc25,Xcb⟩
      simp only [putAll,Act.put,qA,qB,qC]
    | 17, _, hd, hk =>
      have h16:=hk 16 (by decide +kernel)
      have c16:=Xc16.out;obtain ⟨k15,rfl⟩:=c16 h16;clear c16;apply wpOp_at
      case ho=>rfl
      intro K hK;simp only [putAll,Act.put,qA,qB,qC];go_simp;refine hK _ _ ⟨_,_,_,_,_,_,_,_,_,_,_,_,_,_,_,_,(.tuple #[auAt y pa,.int .i64 gz]),(auAt y pa),_,_,_,_,_,_,pa,?_,hB,Xc0,Xc1,Xc2,Xc3,Xc4,Xc5,Xc6,Xc7,Xc8,Xc9,Xc10,Xc11,Xc12,Xc13,Xc14,Xc15,Xc16,fun _=>⟨k15,rfl⟩,Xc18,Xc19,Xc20,Xc21,Xc22,Xc23,Xc24,Xc25,Xcb⟩
      simp only [putAll,Act.put,qA,qB,qC]
    | 18, _, hd, hk =>
      have h16:=hk 16 (by decide +kernel)
      have c16:=Xc16.out;obtain ⟨k15,rfl⟩:=c16 h16;clear c16;apply wpOp_at
      case ho=>rfl
      intro K hK;simp only [putAll,Act.put,qA,qB,qC];go_simp;refine hK _ _ ⟨_,_,_,_,_,_,_,_,_,_,_,_,_,_,_,_,(.tuple #[auAt y pa,.int .i64 gz]),_,(.int .i64 gz),_,_,_,_,_,pa,?_,hB,Xc0,Xc1,Xc2,Xc3,Xc4,Xc5,Xc6,Xc7,Xc8,Xc9,Xc10,Xc11,Xc12,Xc13,Xc14,Xc15,Xc16,Xc17,fun _=>rfl,Xc19,Xc20,Xc21,Xc22,Xc23,Xc24,Xc25,Xcb⟩
      simp only [putAll,Act.put,qA,qB,qC]
    | 19, _, hd, hk =>
      have h0:=hk 0 (by decide +kernel)
      have c0:=Xc0.out;obtain rfl:=c0 h0;clear c0;apply wpOp_at
      case ho=>rfl
      intro K hK;simp only [putAll,Act.put,qA,qB,qC];go_simp;refine hK _ _ ⟨(.pointer (some ⟨g,0,none⟩)),_,_,_,_,_,_,_,_,_,_,_,_,_,_,_,_,_,_,(.pointer (some ⟨g,0,none⟩)),_,_,_,_,pa,?_,hB,Xc0,Xc1,Xc2,Xc3,Xc4,Xc5,Xc6,Xc7,Xc8,Xc9,Xc10,Xc11,Xc12,Xc13,Xc14,Xc15,Xc16,Xc17,Xc18,fun _=>rfl,Xc20,Xc21,Xc22,Xc23,Xc24,Xc25,Xcb⟩
      simp only [putAll,Act.put,qA,qB,qC]
    | 20, _, hd, hk =>
      have h19:=hk 19 (by decide +kernel)
      have c19:=Xc19.out;obtain rfl:=c19 h19;clear c19;apply wpOp_at
      case ho=>rfl
      intro K hK;simp only [putAll,Act.put,qA,qB,qC];go_simp;refine hK _ _ ⟨_,_,_,_,_,_,_,_,_,_,_,_,_,_,_,_,_,_,_,(.pointer (some ⟨g,0,none⟩)),(.pointer (some ⟨g,0,none⟩)),_,_,_,pa,?_,hB,Xc0,Xc1,Xc2,Xc3,Xc4,Xc5,Xc6,Xc7,Xc8,Xc9,Xc10,Xc11,Xc12,Xc13,Xc14,Xc15,Xc16,Xc17,Xc18,Xc19,fun _=>rfl,Xc21,Xc22,Xc23,Xc24,Xc25,Xcb⟩
      simp only [putAll,Act.put,qA,qB,qC]
    | 21, _, hd, hk =>
      have h20:=hk 20 (by decide +kernel)
      have c20:=Xc20.out;obtain rfl:=c20 h20;clear c20;apply wpOp_at
      case ho=>rfl
      intro K hK;simp only [putAll,Act.put,qA,qB,qC];go_simp;refine hK _ _ ⟨_,_,_,_,_,_,_,_,_,_,_,_,_,_,_,_,_,_,_,_,(.pointer (some ⟨g,0,none⟩)),(.pointer (some ⟨g,6,none⟩)),_,_,pa,?_,hB,Xc0,Xc1,Xc2,Xc3,Xc4,Xc5,Xc6,Xc7,Xc8,Xc9,Xc10,Xc11,Xc12,Xc13,Xc14,Xc15,Xc16,Xc17,Xc18,Xc19,Xc20,fun _=>rfl,Xc22,Xc23,Xc24,Xc25,Xcb⟩
      simp only [putAll,Act.put,qA,qB,qC]
    | 22, _, hd, hk =>
      have h15:=hk 15 (by decide +kernel)
      have h17:=hk 17 (by decide +kernel)
      have h21:=hk 21 (by decide +kernel)
      have c15:=Xc15.out;have c17:=Xc17.out;have c21:=Xc21.out;have cb:=Xcb.out;obtain rfl:=c21 h21;obtain ⟨k15,rfl⟩:=c17 h17;obtain ⟨-,-,-,-,hs⟩:=c15 h15;have hb9:=cb hd;have hS9:=HS2.out.later hb9;have hl9:=HS2.out.stay (hs hd);have q6:=hS9.ob.cell 6;have q7:=hS9.ob.cell 7;have q8:=hS9.ob.cell 8;have q9:=hS9.ob.cell 9;have q10:=hS9.ob.cell 10;have q11:=hS9.ob.cell 11;have y6:=hS9.ob.free 6;have y7:=hS9.ob.free 7
      have y8:=hS9.ob.free 8;have y9:=hS9.ob.free 9;have y10:=hS9.ob.free 10;have y11:=hS9.ob.free 11;have hM:=hS9.au hl9;clear c15 c17 c21 cb;apply wpOp_at
      case ho=>rfl
      intro K hK;simp only [putAll,Act.put,qA,qB,qC];go_simp;have c15:=Xc15.out;have c25:=Xc25.out;refine hK _ _ ⟨_,_,_,_,_,_,_,_,_,_,_,_,_,_,_,e15,_,(auAt y pa),_,_,_,(.pointer (some ⟨g,6,none⟩)),_,_,pa,?_,st6_below hB HS2.out.le,Xc0,Xc1,Xc2,Xc3,Xc4,Xc5,Xc6,Xc7,Xc8,Xc9,Xc10,Xc11,Xc12,Xc13,Xc14,fun h=>⟨(c15 h).1,(c15 h).2.1,(c15 h).2.2.1,(c15 h).2.2.2.1,fun h=>Bool.noConfusion (show true=false from h)⟩,Xc16,Xc17,Xc18,Xc19,Xc20,Xc21,fun _=>⟨h15,fun _=>⟨_,hM.1,(Kept.of hb9).trans hM.2⟩⟩,Xc23,Xc24,fun h=>Bool.noConfusion (hd.symm.trans (c25 h).1),fun h=>Bool.noConfusion (show true=false from h)⟩
      simp only [putAll,Act.put,qA,qB,qC]
    | 23, _, hd, hk =>
      have h1:=hk 1 (by decide +kernel)
      have c1:=Xc1.out;obtain rfl:=c1 h1;clear c1;apply wpOp_at
      case ho=>rfl
      intro K hK;simp only [putAll,Act.put,qA,qB,qC];go_simp;refine hK _ _ ⟨_,(.pointer (some ⟨g,0,none⟩)),_,_,_,_,_,_,_,_,_,_,_,_,_,_,_,_,_,_,_,_,(.pointer (some ⟨g,0,none⟩)),_,pa,?_,hB,Xc0,Xc1,Xc2,Xc3,Xc4,Xc5,Xc6,Xc7,Xc8,Xc9,Xc10,Xc11,Xc12,Xc13,Xc14,Xc15,Xc16,Xc17,Xc18,Xc19,Xc20,Xc21,Xc22,fun _=>rfl,Xc24,Xc25,Xcb⟩
      simp only [putAll,Act.put,qA,qB,qC]
    | 24, _, hd, hk =>
      have h23:=hk 23 (by decide +kernel)
      have c23:=Xc23.out;obtain rfl:=c23 h23;clear c23;apply wpOp_at
      case ho=>rfl
      intro K hK;simp only [putAll,Act.put,qA,qB,qC];go_simp;refine hK _ _ ⟨_,_,_,_,_,_,_,_,_,_,_,_,_,_,_,_,_,_,_,_,_,_,(.pointer (some ⟨g,0,none⟩)),(.pointer (some ⟨g,22,none⟩)),pa,?_,hB,Xc0,Xc1,Xc2,Xc3,Xc4,Xc5,Xc6,Xc7,Xc8,Xc9,Xc10,Xc11,Xc12,Xc13,Xc14,Xc15,Xc16,Xc17,Xc18,Xc19,Xc20,Xc21,Xc22,Xc23,fun _=>rfl,Xc25,Xcb⟩
      simp only [putAll,Act.put,qA,qB,qC]
    | 25, _, hd, hk =>
      have h18:=hk 18 (by decide +kernel)
      have h22:=hk 22 (by decide +kernel)
      have h24:=hk 24 (by decide +kernel)
      have c18:=Xc18.out;have c22:=Xc22.out;have c24:=Xc24.out;obtain rfl:=c18 h18;obtain rfl:=c24 h24;obtain ⟨p9,hS9,hK9⟩:=(c22 h22).2 hd;have q22:w'.cell? ⟨g,22,none⟩=some (.int .i64 0):=hS9.ob.cell 22;have y22:=hS9.ob.free 22;have hM:=hS9.cod gz;clear c18 c22 c24;apply wpOp_at
      case ho=>rfl
      intro K hK;simp only [putAll,Act.put,qA,qB,qC];go_simp;have c15:=Xc15.out;have c22:=Xc22.out;refine hK _ _ ⟨_,_,_,_,_,_,_,_,_,_,_,_,_,_,_,e15,_,_,(.int .i64 gz),_,_,_,_,(.pointer (some ⟨g,22,none⟩)),pa,?_,hB.setCell (p:=⟨g,22,none⟩) HS2.out.le _,Xc0,Xc1,Xc2,Xc3,Xc4,Xc5,Xc6,Xc7,Xc8,Xc9,Xc10,Xc11,Xc12,Xc13,Xc14,fun h=>⟨(c15 h).1,(c15 h).2.1,(c15 h).2.2.1,(c15 h).2.2.2.1,fun k=>absurd (h22.symm.trans k) (by decide)⟩,Xc16,Xc17,Xc18,Xc19,Xc20,Xc21,fun h=>⟨(c22 h).1,fun k=>Bool.noConfusion (show true=false from k)⟩,Xc23,Xc24,fun _=>⟨h22,_,hM.1,hK9.trans hM.2⟩,fun h=>absurd (h22.symm.trans h) (by decide)⟩
      simp only [putAll,Act.put,qA,qB,qC]
    | k + 26,hi,_,_=>exact absurd hi (by simp)
   case ends =>
    intro d a' w' hJ hall;obtain ⟨e0,e1,e2,e3,e4,e5,e6,e7,e8,e9,e10,e11,e12,e13,e14,e15,e16,e17,e18,e19,e20,e21,e23,e24,pa,rfl,hC⟩:=hJ;obtain ⟨hB,hC⟩:=hC;obtain ⟨c0,hC⟩:=hC;obtain ⟨c1,hC⟩:=hC;obtain ⟨c2,hC⟩:=hC;obtain ⟨c3,hC⟩:=hC;obtain ⟨c4,hC⟩:=hC;obtain ⟨c5,hC⟩:=hC;obtain ⟨c6,hC⟩:=hC;obtain ⟨c7,hC⟩:=hC;obtain ⟨c8,hC⟩:=hC;obtain ⟨c9,hC⟩:=hC;obtain ⟨c10,hC⟩:=hC;obtain ⟨c11,hC⟩:=hC;obtain ⟨c12,hC⟩:=hC
    obtain ⟨c13,hC⟩:=hC;obtain ⟨c14,hC⟩:=hC;obtain ⟨c15,hC⟩:=hC;obtain ⟨c16,hC⟩:=hC;obtain ⟨c17,hC⟩:=hC;obtain ⟨c18,hC⟩:=hC;obtain ⟨c19,hC⟩:=hC;obtain ⟨c20,hC⟩:=hC;obtain ⟨c21,hC⟩:=hC;obtain ⟨c22,hC⟩:=hC;obtain ⟨c23,hC⟩:=hC;obtain ⟨c24,hC⟩:=hC;obtain ⟨c25,hC⟩:=hC;have cb:=hC;clear hC;have HT:=qH (c25 (hall 25 (by decide +kernel))).2
    obtain rfl:=c0 (hall 0 (by decide +kernel))
    obtain rfl:=c1 (hall 1 (by decide +kernel))
    obtain rfl:=c2 (hall 2 (by decide +kernel))
    obtain rfl:=c3 (hall 3 (by decide +kernel))
    obtain rfl:=c4 (hall 4 (by decide +kernel))
    obtain rfl:=c5 (hall 5 (by decide +kernel))
    obtain rfl:=c6 (hall 6 (by decide +kernel))
    obtain rfl:=c7 (hall 7 (by decide +kernel))
    obtain rfl:=c8 (hall 8 (by decide +kernel))
    obtain rfl:=c9 (hall 9 (by decide +kernel))
    obtain rfl:=c10 (hall 10 (by decide +kernel))
    obtain rfl:=c11 (hall 11 (by decide +kernel))
    obtain rfl:=c12 (hall 12 (by decide +kernel))
    obtain rfl:=c13 (hall 13 (by decide +kernel))
    obtain rfl:=c14 (hall 14 (by decide +kernel))
    obtain rfl:=c18 (hall 18 (by decide +kernel))
    obtain rfl:=c19 (hall 19 (by decide +kernel))
    obtain rfl:=c20 (hall 20 (by decide +kernel))
    obtain rfl:=c21 (hall 21 (by decide +kernel))
    obtain rfl:=c23 (hall 23 (by decide +kernel))
    obtain rfl:=c24 (hall 24 (by decide +kernel))
    obtain ⟨_,rfl⟩:=c16 (hall 16 (by decide +kernel))
    obtain ⟨_,rfl⟩:=c17 (hall 17 (by decide +kernel))
    obtain ⟨_,_,_,rfl,_⟩:=c15 (hall 15 (by decide +kernel))
    clear c15 c22 c25 cb hall hB;simp only [putAll,Act.put,qA,qB,qC];obtain ⟨p7,hS7,hK7⟩:=HT.out;clear HT;have HS7:=qH hS7;have HK7:=qH (HK2.out.trans hK7);clear hS7 hK7
    go_wp2_with fail
    exact bodyPost_end (v:=.tuple #[]) (by simp [results,Tryz.results123,go_sem]) rfl ⟨rfl,by rw [← Hkr.out,← Hcd.out]; exact ⟨_,HS7.out,HK7.out⟩⟩
end Go.Proofs.YtecjnkokdnmhlaaGreat
