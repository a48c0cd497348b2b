/- Parts, as far as NodeAtOnceCards reaches them, of: ClaimSmall, ClaimFits. No law is proved here. -/
import Derived.Test.YtecjnkokdnmhlaaGreatTa5
namespace Go.Proofs.YtecjnkokdnmhlaaGreat
open Go.RowKit
abbrev tdV (c:Cf) (who:Int) (x:Nt):Value:=.agg #[.int .i64 c.n,.int .i64 c.q,.int .i64 c.r,.int .i64 c.p,.int .i64 c.k,.int .i64 c.c,.int .i64 who,.int .i64 x.clk,.int .i64 x.t,.int .i64 x.a,.int .i64 x.m,.int .i64 x.asks,.int .i64 x.try_,.int .i64 x.ph]
abbrev tdCells (c:Cf) (who:Int) (x:Nt):Array Value:=#[.int .i64 c.n,.int .i64 c.q,.int .i64 c.r,.int .i64 c.p,.int .i64 c.k,.int .i64 c.c,.int .i64 who,.int .i64 x.clk,.int .i64 x.t,.int .i64 x.a,.int .i64 x.m,.int .i64 x.asks,.int .i64 x.try_,.int .i64 x.ph]
theorem run_eql_lk (w:World) (t p u q:Int):(binOp .eql 29 (.agg #[.int .i64 t,.int .i64 p]) (.agg #[.int .i64 u,.int .i64 q])).run Tryz.prog w=.ok (.bool (decide (t=u∧p=q))) w:=by
 by_cases h1:t=u
 · subst h1
   by_cases h2:p=q
   · subst h2; simp [go_sem,Tryz.underlying29]
   · simp [go_sem,Tryz.underlying29,h2]
 · simp [go_sem,Tryz.underlying29,h1]
theorem run_neq_lk (w:World) (t p u q:Int):(binOp .neq 29 (.agg #[.int .i64 t,.int .i64 p]) (.agg #[.int .i64 u,.int .i64 q])).run Tryz.prog w=.ok (.bool (!decide (t=u∧p=q))) w:=by
 by_cases h1:t=u
 · subst h1
   by_cases h2:p=q
   · subst h2; simp [go_sem,Tryz.underlying29]
   · simp [go_sem,Tryz.underlying29,h2]
 · simp [go_sem,Tryz.underlying29,h1]
set_option maxHeartbeats 4000000 in
theorem none_calls (t a m:Int) (w:World):Calls Tryz.prog 200 #[rqV ⟨t,a,m⟩] w (Says w (decide (t=0∧a=0∧m=0))):=by
 obtain ⟨z,Hz⟩:∃ z,Hid (decide (t=0∧a=0∧m=0)=z):=⟨_,rfl⟩;have heq:∀ w:World,(binOp .eql 59 (.agg #[.int .i64 t,.int .i64 a,.int .i64 m]) (.agg #[.int .i64 0,.int .i64 0,.int .i64 0])).run Tryz.prog w=.ok (.bool z) w:=fun w=>(run_eql_rqs w ⟨t,a,m⟩ ⟨0,0,0⟩).trans (by rw [← Hz.out]; simp)
 rw [Hz.out];have Hb0:=qH (below_box w (.cells (rqCells ⟨t,a,m⟩) 59))
 go_enter Tryz.func200,Tryz.ntmps200
 go_wp2_with fail
 go_ret
 exact ⟨by rfl,Hb0.out⟩
set_option maxHeartbeats 4000000 in
theorem amongc_calls (c:Cf) (who:Int) (w:World):Calls Tryz.prog 152 #[cfV c,.int .i64 who] w (Says w (decide (0≤who∧who < c.n))):=by
 have Hb0:=qH (below_box w (.cells (cfCells c) 23));obtain ⟨n,q,r,p,kk,cc⟩:=c;simp only
 by_cases h1:0≤who
 · by_cases h2:who < n
   · rw [decide_eq_true ⟨h1,h2⟩]
     go_enter Tryz.func152,Tryz.ntmps152
     go_wp2_with fail
     go_ret
     exact ⟨by simp,Hb0.out⟩
   · rw [decide_eq_false (fun h=>h2 h.2)]
     go_enter Tryz.func152,Tryz.ntmps152
     go_wp2_with fail
     go_ret
     exact ⟨by first | (simp; done) | (simp; omega),Hb0.out⟩
 · rw [decide_eq_false (fun h=>h1 h.1)]
   go_enter Tryz.func152,Tryz.ntmps152
   go_wp2_with fail
   go_ret
   exact ⟨by simp,Hb0.out⟩
set_option maxRecDepth 100000 in
set_option maxHeartbeats 4000000 in
theorem looks_calls (t p:Int) (w:World):Calls Tryz.prog 197 #[.agg #[.int .i64 t,.int .i64 p]] w (Says w (lookB t p)):=by
 obtain ⟨res,Hres⟩:∃ z,Hid (lookB t p=z):=⟨_,rfl⟩;rw [Hres.out];have yes:lookOk t p→res=true:=fun h=>Hres.out.symm.trans (decide_eq_true h)
 have no:¬ lookOk t p→res=false:=fun h=>Hres.out.symm.trans (decide_eq_false h)
 have Yes:=qH yes; have No:=qH no; clear yes no;have Hb0:=qH (below_box w (.cells #[.int .i64 t,.int .i64 p] 29));obtain ⟨z,Hz⟩:∃ z,Hid (decide (t=0∧p=0)=z):=⟨_,rfl⟩;have heq:∀ w:World,(binOp .eql 29 (.agg #[.int .i64 t,.int .i64 p]) (.agg #[.int .i64 0,.int .i64 0])).run Tryz.prog w=.ok (.bool z) w:=fun w=>(run_eql_lk w t p 0 0).trans (by rw [← Hz.out])
 cases z with
 | true =>
   obtain rfl:=Yes.out (Or.inl (of_decide_eq_true Hz.out))
   go_enter Tryz.func197,Tryz.ntmps197
   go_wp2_with fail
   go_ret
   exact ⟨by rfl,Hb0.out⟩
 | false =>
   have Hz2:=qH (of_decide_eq_false Hz.out)
   by_cases h1:1≤t
   · by_cases h2:t≤1125899906842624
     · by_cases h3:p=1
       · subst h3
         obtain rfl:=Yes.out (Or.inr ⟨by omega,h2,by decide,by decide⟩)
         go_enter Tryz.func197,Tryz.ntmps197
         go_wp2_with fail
         go_ret
         exact ⟨by first | rfl | (simp; done) | (simp; omega),Hb0.out⟩
       · have s3:(p == 1)=false:=beq_eq_false_iff_ne.2 h3
         by_cases h4:p=2
         · subst h4
           obtain rfl:=Yes.out (Or.inr ⟨by omega,h2,by decide,by decide⟩)
           go_enter Tryz.func197,Tryz.ntmps197
           go_wp2_with fail
           go_ret
           exact ⟨by first | rfl | (simp; done) | (simp; omega),Hb0.out⟩
         · have s4:(p == 2)=false:=beq_eq_false_iff_ne.2 h4
           have n3:=qH h3; have n4:=qH h4; clear h3 h4;obtain rfl:=No.out (fun h=>by have h9:=Hz2.out; have:=n3.out; have:=n4.out; rcases h with h | h; exact h9 h; omega)
           go_enter Tryz.func197,Tryz.ntmps197
           go_wp2_with fail
           go_ret
           exact ⟨by first | rfl | (simp; done) | (simp; omega),Hb0.out⟩
     ·
      obtain rfl:=No.out (fun h=>by have h9:=Hz2.out; rcases h with h | h; exact h9 h; omega)
      go_enter Tryz.func197,Tryz.ntmps197
      go_wp2_with fail
      go_ret
      exact ⟨by first | rfl | (simp; done) | (simp; omega),Hb0.out⟩
   ·
    obtain rfl:=No.out (fun h=>by have h9:=Hz2.out; rcases h with h | h; exact h9 h; omega)
    go_enter Tryz.func197,Tryz.ntmps197
    go_wp2_with fail
    go_ret
    exact ⟨by first | rfl | (simp; done) | (simp; omega),Hb0.out⟩
theorem td_cells {w:World} {g:Nat} {c:Cf} {who:Int} {x:Nt} (h:Whole w g 201 (tdCells c who x)) :
 w.cell? ⟨g,0,none⟩=some (.int .i64 c.n)∧w.cell? ⟨g,1,none⟩=some (.int .i64 c.q)∧w.cell? ⟨g,2,none⟩=some (.int .i64 c.r)∧w.cell? ⟨g,3,none⟩=some (.int .i64 c.p)∧w.cell? ⟨g,4,none⟩=some (.int .i64 c.k)∧w.cell? ⟨g,5,none⟩=some (.int .i64 c.c)∧w.cell? ⟨g,6,none⟩=some (.int .i64 who) ∧
 w.cell? ⟨g,7,none⟩=some (.int .i64 x.clk)∧w.cell? ⟨g,8,none⟩=some (.int .i64 x.t)∧w.cell? ⟨g,9,none⟩=some (.int .i64 x.a)∧w.cell? ⟨g,10,none⟩=some (.int .i64 x.m)∧w.cell? ⟨g,11,none⟩=some (.int .i64 x.asks)∧w.cell? ⟨g,12,none⟩=some (.int .i64 x.try_)∧w.cell? ⟨g,13,none⟩=some (.int .i64 x.ph) :=
 ⟨h.cell 0,h.cell 1,h.cell 2,h.cell 3,h.cell 4,h.cell 5,h.cell 6,h.cell 7,h.cell 8,h.cell 9,h.cell 10,h.cell 11,h.cell 12,h.cell 13⟩
def clockB (x:Nt):Bool:=decide (0≤x.clk∧x.clk≤1125899906842624)
def headB (c:Cf) (who:Int) (x:Nt):Bool:=noHead x || hasHead c who x
def asksB (c:Cf) (x:Nt):Bool:=decide (0≤x.asks∧x.asks≤c.r)
theorem noteB_parts (c:Cf) (who:Int) (x:Nt):noteB c who x=(clockB x && (headB c who x && (asksB c x && lookB x.try_ x.ph))):=rfl
set_option maxRecDepth 100000 in
set_option maxHeartbeats 4000000 in
theorem clock_calls (c:Cf) (who:Int) (x:Nt) (w:World):Calls Tryz.prog 191 #[tdV c who x] w (Says w (clockB x)):=by
 have Hb0:=qH (below_box w (.cells (tdCells c who x) 201));obtain ⟨n,q,r,p,kk,cc⟩:=c;obtain ⟨clk,t,a,m,asks,try_,ph⟩:=x;obtain ⟨res,Hres⟩:∃ z,Hid (decide (0≤clk∧clk≤1125899906842624)=z):=⟨_,rfl⟩
 show Calls _ _ _ _ (Says w (decide (0≤clk∧clk≤1125899906842624)))
 rw [Hres.out]
 by_cases h1:0≤clk
 · by_cases h2:clk≤1125899906842624
   · obtain rfl:res=true:=Hres.out.symm.trans (decide_eq_true ⟨h1,h2⟩)
     go_enter Tryz.func191,Tryz.ntmps191
     go_wp2_with fail
     go_ret
     exact ⟨by first | rfl | (simp; done) | (simp; omega),Hb0.out⟩
   · obtain rfl:res=false:=Hres.out.symm.trans (decide_eq_false (fun h=>h2 h.2))
     go_enter Tryz.func191,Tryz.ntmps191
     go_wp2_with fail
     go_ret
     exact ⟨by first | rfl | (simp; done) | (simp; omega),Hb0.out⟩
 · obtain rfl:res=false:=Hres.out.symm.trans (decide_eq_false (fun h=>h1 h.1))
   go_enter Tryz.func191,Tryz.ntmps191
   go_wp2_with fail
   go_ret
   exact ⟨by first | rfl | (simp; done) | (simp; omega),Hb0.out⟩
set_option maxRecDepth 100000 in
set_option maxHeartbeats 4000000 in
theorem asks_calls (c:Cf) (who:Int) (x:Nt) (w:World):Calls Tryz.prog 193 #[tdV c who x] w (Says w (asksB c x)):=by
 have Hb0:=qH (below_box w (.cells (tdCells c who x) 201));obtain ⟨n,q,r,p,kk,cc⟩:=c;obtain ⟨clk,t,a,m,asks,try_,ph⟩:=x;obtain ⟨res,Hres⟩:∃ z,Hid (decide (0≤asks∧asks≤r)=z):=⟨_,rfl⟩
 show Calls _ _ _ _ (Says w (decide (0≤asks∧asks≤r)))
 rw [Hres.out]
 by_cases h1:0≤asks
 · by_cases h2:asks≤r
   · obtain rfl:res=true:=Hres.out.symm.trans (decide_eq_true ⟨h1,h2⟩)
     go_enter Tryz.func193,Tryz.ntmps193
     go_wp2_with fail
     go_ret
     exact ⟨by first | rfl | (simp; done) | (simp; omega),Hb0.out⟩
   · obtain rfl:res=false:=Hres.out.symm.trans (decide_eq_false (fun h=>h2 h.2))
     go_enter Tryz.func193,Tryz.ntmps193
     go_wp2_with fail
     go_ret
     exact ⟨by first | rfl | (simp; done) | (simp; omega),Hb0.out⟩
 · obtain rfl:res=false:=Hres.out.symm.trans (decide_eq_false (fun h=>h1 h.1))
   go_enter Tryz.func193,Tryz.ntmps193
   go_wp2_with fail
   go_ret
   exact ⟨by first | rfl | (simp; done) | (simp; omega),Hb0.out⟩
set_option maxRecDepth 100000 in
set_option maxHeartbeats 4000000 in
theorem look_calls (c:Cf) (who:Int) (x:Nt) (w:World):Calls Tryz.prog 194 #[tdV c who x] w (Says w (lookB x.try_ x.ph)):=by
 have Hb0:=qH (below_box w (.cells (tdCells c who x) 201));obtain ⟨n,q,r,p,kk,cc⟩:=c;obtain ⟨clk,t,a,m,asks,try_,ph⟩:=x;simp only;obtain ⟨res,Hres⟩:∃ z,Hid (lookB try_ ph=z):=⟨_,rfl⟩;rw [Hres.out]
 go_enter Tryz.func194,Tryz.ntmps194
 go_wp2_with fail
 refine (looks_calls try_ ph _).mono ?_;rw [Hres.out];rintro e w1 ⟨rfl,hb⟩;have Hb1:=qH (held_next Hb0.out hb);clear hb
 go_wp2_with fail
 go_ret
 exact ⟨by rfl,Hb1.out⟩
end Go.Proofs.YtecjnkokdnmhlaaGreat
namespace Go.Proofs.YtecjnkokdnmhlaaGreat
open Go.RowKit
set_option maxRecDepth 100000 in
set_option maxHeartbeats 8000000 in
theorem head_calls (c:Cf) (who:Int) (x:Nt) (w:World):Calls Tryz.prog 192 #[tdV c who x] w (Says w (headB c who x)):=by
 have HX:=qH ((Whole.made w 201 (tdCells c who x)).alloc (.cells (rqCells ⟨x.t,x.a,x.m⟩) 59));have HQ:=qH (Whole.made2 w (.cells (tdCells c who x) 201) 59 (rqCells ⟨x.t,x.a,x.m⟩));have Hb0:=qH (below_two w (.cells (tdCells c who x) 201) (.cells (rqCells ⟨x.t,x.a,x.m⟩) 59));obtain ⟨n,q,r,p,kk,cc⟩:=c;obtain ⟨clk,t,a,m,asks,try_,ph⟩:=x;obtain ⟨z0,Hz0⟩:∃ z,Hid (decide (t=0∧a=0∧m=0)=z):=⟨_,rfl⟩;obtain ⟨mv,Hmv⟩:∃ z,Hid (mayB t a n=z):=⟨_,rfl⟩
 obtain ⟨res,Hres⟩:∃ z,Hid (headB ⟨n,q,r,p,kk,cc⟩ who ⟨clk,t,a,m,asks,try_,ph⟩=z):=⟨_,rfl⟩
 have hres:res=(z0 || (mv && decide (a=who∧0 < m∧m≤1099511627776))):=by
  rw [← Hres.out,← Hz0.out,← Hmv.out]; rfl
 rw [Hres.out]
 try simp only at HX HQ Hb0
 go_enter Tryz.func192,Tryz.ntmps192
 go_wp2_with fail
 refine (none_calls t a m _).mono ?_;rw [Hz0.out];rintro e w1 ⟨rfl,hb⟩;have HX1:=qH (HX.out.later hb HX.out.lt);have HQ1:=qH (HQ.out.later hb HQ.out.lt);have Hb1:=qH (held_next Hb0.out hb);clear hb HX HQ Hb0
 cases z0 with
 | true =>
   obtain rfl:res=true:=hres
   go_wp2_with fail
   go_ret
   exact ⟨by rfl,Hb1.out⟩
 | false =>
 rw [Bool.false_or] at hres;have Hr:=qH hres; clear hres;obtain ⟨e0,e1,e2,e3,e4,e5,e6,e7,e8,e9,e10,e11,e12,e13⟩:=td_cells HX1.out;obtain ⟨f0,f1,f2⟩:=rq_cells HQ1.out;simp only at e0 e1 e2 e3 e4 e5 e6 e7 e8 e9 e10 e11 e12 e13 f0 f1 f2
 go_wp2_with fail
 refine (stampmay_calls t a n _).mono ?_;rw [Hmv.out];rintro e w2 ⟨rfl,hb⟩;have HX2:=qH (HX1.out.later hb HX1.out.lt);have HQ2:=qH (HQ1.out.later hb HQ1.out.lt);have Hb2:=qH (held_next Hb1.out hb);clear hb HX1 HQ1 Hb1 e0 e1 e2 e3 e4 e5 e6 e7 e8 e9 e10 e11 e12 e13 f0 f1 f2;obtain ⟨e0,e1,e2,e3,e4,e5,e6,e7,e8,e9,e10,e11,e12,e13⟩:=td_cells HX2.out;obtain ⟨f0,f1,f2⟩:=rq_cells HQ2.out;simp only at e0 e1 e2 e3 e4 e5 e6 e7 e8 e9 e10 e11 e12 e13 f0 f1 f2
 have hr:=Hr.out
 cases mv with
 | false =>
   obtain rfl:res=false:=hr
   go_wp2_with fail
   go_ret
   exact ⟨by rfl,Hb2.out⟩
 | true =>
 rw [Bool.true_and] at hr
 by_cases h1:a=who
 · by_cases h2:1≤m
   · by_cases h3:m≤1099511627776
     · rw [decide_eq_true ⟨h1,by omega,h3⟩] at hr
       subst hr h1
       go_wp2_with fail
       go_ret
       exact ⟨by first | rfl | (simp; done) | (simp; omega),Hb2.out⟩
     · rw [decide_eq_false (fun h=>h3 h.2.2)] at hr
       subst hr h1
       go_wp2_with fail
       go_ret
       exact ⟨by first | rfl | (simp; done) | (simp; omega),Hb2.out⟩
   · rw [decide_eq_false (fun h=>h2 (by omega))] at hr
     subst hr h1
     go_wp2_with fail
     go_ret
     exact ⟨by first | rfl | (simp; done) | (simp; omega),Hb2.out⟩
 · rw [decide_eq_false (fun h=>h1 h.1)] at hr
   subst hr;have h1':(a == who)=false:=beq_eq_false_iff_ne.2 h1;clear h1
   go_wp2_with fail
   go_ret
   exact ⟨by rfl,Hb2.out⟩
set_option maxRecDepth 100000 in
set_option maxHeartbeats 8000000 in
theorem fits_calls (c:Cf) (who:Int) (x:Nt) (w:World):Calls Tryz.prog 153 #[tdV c who x] w (Says w (noteB c who x)):=by
 have HX:=qH (Whole.made w 201 (tdCells c who x));have Hb0:=qH (below_box w (.cells (tdCells c who x) 201));have hC1:=fun w=>clock_calls c who x w
 have hC2:=fun w=>head_calls c who x w
 have hC3:=fun w=>asks_calls c who x w
 have hC4:=fun w=>look_calls c who x w
 obtain ⟨z1,Hz1⟩:∃ z,Hid (clockB x=z):=⟨_,rfl⟩;obtain ⟨z2,Hz2⟩:∃ z,Hid (headB c who x=z):=⟨_,rfl⟩;obtain ⟨z3,Hz3⟩:∃ z,Hid (asksB c x=z):=⟨_,rfl⟩;obtain ⟨z4,Hz4⟩:∃ z,Hid (lookB x.try_ x.ph=z):=⟨_,rfl⟩;obtain ⟨res,Hres⟩:∃ z,Hid (noteB c who x=z):=⟨_,rfl⟩
 have hres:res=(z1 && (z2 && (z3 && z4))):=by
  rw [← Hres.out,← Hz1.out,← Hz2.out,← Hz3.out,← Hz4.out]; exact noteB_parts c who x
 rw [Hz1.out] at hC1;rw [Hz2.out] at hC2;rw [Hz3.out] at hC3;rw [Hz4.out] at hC4;rw [Hres.out];have HC1:=qH hC1; have HC2:=qH hC2; have HC3:=qH hC3; have HC4:=qH hC4;have Hr:=qH hres;clear hC1 hC2 hC3 hC4 hres Hz1 Hz2 Hz3 Hz4 Hres;obtain ⟨n,q,r,p,kk,cc⟩:=c;obtain ⟨clk,t,a,m,asks,try_,ph⟩:=x
 try simp only at HX Hb0
 have HX0:=qH (HX.out.alloc (.cells #[.func (.func 191) #[] #[],.func (.func 192) #[] #[],.func (.func 193) #[] #[],.func (.func 194) #[] #[]] 199));have HS0:=qH (Whole.made2 w (.cells (tdCells ⟨n,q,r,p,kk,cc⟩ who ⟨clk,t,a,m,asks,try_,ph⟩) 201) 199 #[.func (.func 191) #[] #[],.func (.func 192) #[] #[],.func (.func 193) #[] #[],.func (.func 194) #[] #[]]);have Hb9:=qH (below_two w (.cells (tdCells ⟨n,q,r,p,kk,cc⟩ who ⟨clk,t,a,m,asks,try_,ph⟩) 201) (.cells #[.func (.func 191) #[] #[],.func (.func 192) #[] #[],.func (.func 193) #[] #[],.func (.func 194) #[] #[]] 199))
 clear HX Hb0;obtain ⟨e0,e1,e2,e3,e4,e5,e6,e7,e8,e9,e10,e11,e12,e13⟩:=td_cells HX0.out;simp only at e0 e1 e2 e3 e4 e5 e6 e7 e8 e9 e10 e11 e12 e13;have g0:=HS0.out.cell 0; have g1:=HS0.out.cell 1; have g2:=HS0.out.cell 2; have g3:=HS0.out.cell 3
 simp at g0 g1 g2 g3
 go_enter Tryz.func153,Tryz.ntmps153
 go_wp2_with fail
 refine wp_loop_rounds 5 ?_;rw [rounds_succ]
 go_wp2_with fail
 refine (HC1.out _).mono ?_;rintro e w1 ⟨rfl,hb⟩;have HX1:=qH (HX0.out.later hb HX0.out.lt);have HS1:=qH (HS0.out.later hb HS0.out.lt);have Hb1:=qH (held_next Hb9.out hb);clear hb e0 e1 e2 e3 e4 e5 e6 e7 e8 e9 e10 e11 e12 e13 g0 g1 g2 g3;obtain ⟨e0,e1,e2,e3,e4,e5,e6,e7,e8,e9,e10,e11,e12,e13⟩:=td_cells HX1.out;simp only at e0 e1 e2 e3 e4 e5 e6 e7 e8 e9 e10 e11 e12 e13;have g0:=HS1.out.cell 0; have g1:=HS1.out.cell 1; have g2:=HS1.out.cell 2; have g3:=HS1.out.cell 3
 simp at g0 g1 g2 g3
 have hr:=Hr.out;clear Hr
 cases z1 with
 | false =>
   obtain rfl:res=false:=hr
   go_wp2_with fail
   go_ret
   exact ⟨by rfl,Hb1.out⟩
 | true =>
 rw [Bool.true_and] at hr;have Hr:=qH hr; clear hr
 go_wp2_with fail
 rw [rounds_succ]
 go_wp2_with fail
 refine (HC2.out _).mono ?_;rintro e w2 ⟨rfl,hb⟩;have HX2:=qH (HX1.out.later hb HX1.out.lt);have HS2:=qH (HS1.out.later hb HS1.out.lt);have Hb2:=qH (held_next Hb1.out hb);clear hb e0 e1 e2 e3 e4 e5 e6 e7 e8 e9 e10 e11 e12 e13 g0 g1 g2 g3;obtain ⟨e0,e1,e2,e3,e4,e5,e6,e7,e8,e9,e10,e11,e12,e13⟩:=td_cells HX2.out;simp only at e0 e1 e2 e3 e4 e5 e6 e7 e8 e9 e10 e11 e12 e13;have g0:=HS2.out.cell 0; have g1:=HS2.out.cell 1; have g2:=HS2.out.cell 2; have g3:=HS2.out.cell 3
 simp at g0 g1 g2 g3
 have hr:=Hr.out;clear Hr
 cases z2 with
 | false =>
   obtain rfl:res=false:=hr
   go_wp2_with fail
   go_ret
   exact ⟨by rfl,Hb2.out⟩
 | true =>
 rw [Bool.true_and] at hr;have Hr:=qH hr; clear hr
 go_wp2_with fail
 rw [rounds_succ]
 go_wp2_with fail
 refine (HC3.out _).mono ?_;rintro e w3 ⟨rfl,hb⟩;have HX3:=qH (HX2.out.later hb HX2.out.lt);have HS3:=qH (HS2.out.later hb HS2.out.lt);have Hb3:=qH (held_next Hb2.out hb);clear hb e0 e1 e2 e3 e4 e5 e6 e7 e8 e9 e10 e11 e12 e13 g0 g1 g2 g3;obtain ⟨e0,e1,e2,e3,e4,e5,e6,e7,e8,e9,e10,e11,e12,e13⟩:=td_cells HX3.out;simp only at e0 e1 e2 e3 e4 e5 e6 e7 e8 e9 e10 e11 e12 e13;have g0:=HS3.out.cell 0; have g1:=HS3.out.cell 1; have g2:=HS3.out.cell 2; have g3:=HS3.out.cell 3
 simp at g0 g1 g2 g3
 have hr:=Hr.out;clear Hr
 cases z3 with
 | false =>
   obtain rfl:res=false:=hr
   go_wp2_with fail
   go_ret
   exact ⟨by rfl,Hb3.out⟩
 | true =>
 rw [Bool.true_and] at hr;have Hr:=qH hr; clear hr
 go_wp2_with fail
 rw [rounds_succ]
 go_wp2_with fail
 refine (HC4.out _).mono ?_;rintro e w4 ⟨rfl,hb⟩;have HX4:=qH (HX3.out.later hb HX3.out.lt);have HS4:=qH (HS3.out.later hb HS3.out.lt);have Hb4:=qH (held_next Hb3.out hb);clear hb e0 e1 e2 e3 e4 e5 e6 e7 e8 e9 e10 e11 e12 e13 g0 g1 g2 g3;obtain ⟨e0,e1,e2,e3,e4,e5,e6,e7,e8,e9,e10,e11,e12,e13⟩:=td_cells HX4.out;simp only at e0 e1 e2 e3 e4 e5 e6 e7 e8 e9 e10 e11 e12 e13;have g0:=HS4.out.cell 0; have g1:=HS4.out.cell 1; have g2:=HS4.out.cell 2; have g3:=HS4.out.cell 3
 simp at g0 g1 g2 g3
 have hr:=Hr.out;clear Hr
 cases z4 with
 | false =>
   obtain rfl:res=false:=hr
   go_wp2_with fail
   go_ret
   exact ⟨by rfl,Hb4.out⟩
 | true =>
 obtain rfl:res=true:=hr
 go_wp2_with fail
 rw [rounds_succ]
 go_wp2_with fail
 go_ret
 exact ⟨by rfl,Hb4.out⟩
end Go.Proofs.YtecjnkokdnmhlaaGreat
