/- Parts, as far as NodeAtOnceCards reaches them, of: AuditBox, AuditBoxR, AuditSmall, AuditMay, AuditAll, AuditClone. No law is proved here. -/
import Derived.Test.YtecjnkokdnmhlaaGreatTa7
namespace Go.Proofs.YtecjnkokdnmhlaaGreat
open Go.RowKit
def KeptA (w:World) (g:Nat) (c:Cf) (x:Au) (p:Al) (wx:World):Prop :=
 Below w.heap.size w wx∧Whole wx g 23 (cfCells c)∧Whole wx (g + 1) 33 (auCells x (.slice p.a1 p.m1 p.c1) (.slice p.a2 p.m2 p.c2) (.slice p.a3 p.m3 p.c3))
theorem KeptA.later {w:World} {g:Nat} {c:Cf} {x:Au} {p:Al} {wx wy:World} (h:KeptA w g c x p wx) (hb:Below wx.heap.size wx wy):KeptA w g c x p wy:=⟨held_next h.1 hb,h.2.1.later hb h.2.1.lt,h.2.2.later hb h.2.2.lt⟩
theorem au_cells {w:World} {g:Nat} {x:Au} {tv uv iv:Value} (h:Whole w g 33 (auCells x tv uv iv)) :
 w.cell? ⟨g,0,none⟩=some (.int .i64 x.try_)∧w.cell? ⟨g,1,none⟩=some (.int .i64 x.ph)∧w.cell? ⟨g,2,none⟩=some tv∧w.cell? ⟨g,3,none⟩=some uv∧w.cell? ⟨g,4,none⟩=some iv∧w.cell? ⟨g,5,none⟩=some (.bool x.moved) :=
 ⟨h.cell 0,h.cell 1,h.cell 2,h.cell 3,h.cell 4,h.cell 5⟩
end Go.Proofs.YtecjnkokdnmhlaaGreat
namespace Go.Proofs.YtecjnkokdnmhlaaGreat
open Go.RowKit
theorem au_small {c:Cf} {who:Int} {x:Au} (h:auOk c who x):x.told.length≤16∧x.use.length≤16∧x.inc.length≤16:=by
 rcases h.2.2 with h2 | h2
 · rw [h2]; exact ⟨by decide,by decide,by decide⟩
 · have h3:=h.1.2.1
   have h4:=h2.2.2.1;have h5:=h2.2.2.2.1;have h6:=h2.2.2.2.2.1
   omega
def KeptAR (w:World) (c:Cf) (x:Au) (p:Al) (wx:World):Prop:=KeptA w w.heap.size c x p wx∧Whole wx (w.heap.size + 1 + 1) 33 (auCells au0 (.slice none 0 0) (.slice none 0 0) (.slice none 0 0))
theorem KeptAR.later {w:World} {c:Cf} {x:Au} {p:Al} {wx wy:World} (h:KeptAR w c x p wx) (hb:Below wx.heap.size wx wy):KeptAR w c x p wy:=⟨h.1.later hb,h.2.later hb h.2.lt⟩
theorem whole3 (w:World) (a b:Obj) (t:TypeId) (cs:Array Value):Whole (((w.alloc a).alloc b).alloc (.cells cs t)) (w.heap.size + 1 + 1) t cs:=Whole.madeAt _ _ _ _ (by simp)
theorem below_three (w:World) (a b c:Obj):Below w.heap.size w (((w.alloc a).alloc b).alloc c):=(below_two w a b).alloc (by simp; omega) c
end Go.Proofs.YtecjnkokdnmhlaaGreat
namespace Go.Proofs.YtecjnkokdnmhlaaGreat
open Go.RowKit
theorem auwithin_calls (v lo hi:Int) (w:World):Calls Tryz.prog 195 #[.int .i64 v,.int .i64 lo,.int .i64 hi] w (fun e w'=>e=.returned (.bool (withinB v lo hi))∧w=w'):=by
 by_cases h1:lo≤v
 · by_cases h2:v≤hi
   · rw [withinB_yes ⟨h1,h2⟩]
     go_enter Tryz.func195,Tryz.ntmps195
     go_wp2
     go_ret
     exact ⟨by simp,rfl⟩
   · rw [withinB_no (fun h=>h2 h.2)]
     go_enter Tryz.func195,Tryz.ntmps195
     go_wp2
     go_ret
     exact ⟨by simp,rfl⟩
 · rw [withinB_no (fun h=>h1 h.1)]
   go_enter Tryz.func195,Tryz.ntmps195
   go_wp2
   go_ret
   exact ⟨by simp,rfl⟩
def amB (c:Cf) (who:Int):Bool:=decide (cfOk c∧(0≤who∧who < c.n))
set_option maxRecDepth 100000 in
set_option maxHeartbeats 4000000 in
theorem auamong_calls (c:Cf) (who:Int) (w:World):Calls Tryz.prog 154 #[cfV c,.int .i64 who] w (Says w (amB c who)):=by
 have HW:=qH (Whole.made w 23 (cfCells c));have Hb0:=qH (below_box w (.cells (cfCells c) 23));obtain ⟨n,q,r,p,kk,cc⟩:=c;obtain ⟨ok,Hok⟩:∃ z,Hid (cfB ⟨n,q,r,p,kk,cc⟩=z):=⟨_,rfl⟩;obtain ⟨res,Hres⟩:∃ z,Hid (amB ⟨n,q,r,p,kk,cc⟩ who=z):=⟨_,rfl⟩;have no:¬ (cfOk ⟨n,q,r,p,kk,cc⟩∧(0≤who∧who < n))→res=false:=fun h=>Hres.out.symm.trans (decide_eq_false h)
 have yes:(cfOk ⟨n,q,r,p,kk,cc⟩∧(0≤who∧who < n))→res=true:=fun h=>Hres.out.symm.trans (decide_eq_true h)
 have No:=qH no; have Yes:=qH yes; clear no yes;rw [Hres.out]
 go_enter Tryz.func154,Tryz.ntmps154
 go_wp2_with fail
 refine (rMay_calls ⟨n,q,r,p,kk,cc⟩ _).mono ?_;rintro e w1 ⟨rfl,hb⟩;rw [Hok.out];have Hb1:=qH (held_next Hb0.out hb);have HW1:=qH (HW.out.later hb HW.out.lt);clear hb HW Hb0;obtain ⟨d0,d1,d2,d3,d4,d5⟩:=config_cells HW1.out;simp only at d0 d1 d2 d3 d4 d5
 cases ok with
 | false =>
   obtain rfl:res=false:=No.out fun h=>by
    have:=cfB_yes h.1;rw [Hok.out] at this
    cases this
   go_wp2_with fail
   go_ret
   exact ⟨by rfl,Hb1.out⟩
 | true =>
   by_cases h1:0≤who
   · by_cases h2:who < n
     · obtain rfl:res=true:=Yes.out ⟨cfB_ok Hok.out,h1,h2⟩
       go_wp2_with fail
       go_ret
       exact ⟨by first | rfl | (simp; done) | (simp; omega),Hb1.out⟩
     · obtain rfl:res=false:=No.out fun h=>h2 h.2.2
       go_wp2_with fail
       go_ret
       exact ⟨by first | rfl | (simp; done) | (simp; omega),Hb1.out⟩
   · obtain rfl:res=false:=No.out fun h=>h1 h.2.1
     go_wp2_with fail
     go_ret
     exact ⟨by first | rfl | (simp; done) | (simp; omega),Hb1.out⟩
set_option maxRecDepth 100000 in
set_option maxHeartbeats 4000000 in
theorem aunone_calls (x:Au) (p:Al) (w:World) (h1:p.m1=x.told.length) (h2:p.m2=x.use.length) (h3:p.m3=x.inc.length) (hb:p.m1≤9223372036854775807∧p.m2≤9223372036854775807∧p.m3≤9223372036854775807) :
 Calls Tryz.prog 155 #[auAt x p] w (Says w (noneA x)):=by
 have Hb0:=qH (below_box w (.cells (auCells x (.slice p.a1 p.m1 p.c1) (.slice p.a2 p.m2 p.c2) (.slice p.a3 p.m3 p.c3)) 33));obtain ⟨tr,ph,told,use,inc,moved⟩:=x;obtain ⟨a1,m1,c1,a2,m2,c2,a3,m3,c3⟩:=p;obtain ⟨hb1,hb2,hb3⟩:=hb;simp only at h1 h2 h3 hb1 hb2 hb3;obtain ⟨res,Hres⟩:∃ z,Hid (noneA ⟨tr,ph,told,use,inc,moved⟩=z):=⟨_,rfl⟩;rw [Hres.out];obtain ⟨z,Hz⟩:∃ z,Hid (decide (tr=0∧ph=0)=z):=⟨_,rfl⟩
 have hr:res=(z && decide (m1=0∧m2=0∧m3=0∧moved=false)):=by
  rw [← Hres.out,← Hz.out,h1,h2,h3]
  unfold noneA
  simp only [Au.mk.injEq,List.length_eq_zero_iff,← Bool.decide_and,and_assoc]
 have HR:=qH hr;clear hr h1 h2 h3;have heq:∀ w:World,(binOp .eql 29 (.agg #[.int .i64 tr,.int .i64 ph]) (.agg #[.int .i64 0,.int .i64 0])).run Tryz.prog w=.ok (.bool z) w:=fun w=>(run_eql_lk w tr ph 0 0).trans (by rw [← Hz.out])
 go_enter Tryz.func155,Tryz.ntmps155
 cases z with
 | false =>
   obtain rfl:res=false:=by rw [HR.out]; rfl
   go_wp2_with fail
   go_ret
   exact ⟨by rfl,Hb0.out⟩
 | true =>
  by_cases k3:m1=0
  · subst k3
    by_cases k4:m2=0
    · subst k4
      by_cases k5:m3=0
      · subst k5
        cases moved with
        | false =>
          obtain rfl:res=true:=by rw [HR.out]; simp
          go_wp2_with fail
          go_ret
          exact ⟨by rfl,Hb0.out⟩
        | true =>
          obtain rfl:res=false:=by rw [HR.out]; simp
          go_wp2_with fail
          go_ret
          exact ⟨by rfl,Hb0.out⟩
      · obtain rfl:res=false:=by rw [HR.out]; simp [k5]
        have k5':((m3:Int) == 0)=false:=beq_eq_false_iff_ne.2 (by omega)
        clear k5
        go_wp2_with fail
        go_ret
        exact ⟨by rfl,Hb0.out⟩
    · obtain rfl:res=false:=by rw [HR.out]; simp [k4]
      have k4':((m2:Int) == 0)=false:=beq_eq_false_iff_ne.2 (by omega)
      clear k4
      go_wp2_with fail
      go_ret
      exact ⟨by rfl,Hb0.out⟩
  · obtain rfl:res=false:=by rw [HR.out]; simp [k3]
    have k3':((m1:Int) == 0)=false:=beq_eq_false_iff_ne.2 (by omega)
    clear k3
    go_wp2_with fail
    go_ret
    exact ⟨by rfl,Hb0.out⟩
def amountsOk (c:Cf) (l:List Int):Prop:=(l.length:Int)=c.n∧∀ i,i < l.length→0≤l[i]?.getD 0∧l[i]?.getD 0≤1099511627776
instance (c:Cf) (l:List Int):Decidable (amountsOk c l):=by unfold amountsOk; exact inferInstance
def amountsB (c:Cf) (l:List Int):Bool:=decide (amountsOk c l)
set_option maxRecDepth 100000 in
set_option maxHeartbeats 4000000 in
theorem auamounts_calls (c:Cf) (a:Option Addr) (m d:Nat) (l:List Int) (hm:m=l.length) (w:World) (hN:Nums w (.slice a m d) l):Calls Tryz.prog 196 #[cfV c,.slice a m d] w (Says w (amountsB c l)):=by
 have HW:=qH (Whole.made w 23 (cfCells c));have Hb0:=qH (below_box w (.cells (cfCells c) 23));have hbig:m≤9223372036854775807:=by rw [hm]; exact hN.1
 have HN:=qH hN; clear hN;have Hm:=qH hm; clear hm;obtain ⟨n,q,r,p,kk,cc⟩:=c;obtain ⟨res,Hres⟩:∃ z,Hid (amountsB ⟨n,q,r,p,kk,cc⟩ l=z):=⟨_,rfl⟩;have no:¬ amountsOk ⟨n,q,r,p,kk,cc⟩ l→res=false:=fun h=>Hres.out.symm.trans (decide_eq_false h)
 have No:=qH no; clear no;rw [Hres.out];obtain ⟨d0,d1,d2,d3,d4,d5⟩:=config_cells HW.out;simp only at d0 d1 d2 d3 d4 d5
 go_enter Tryz.func196,Tryz.ntmps196
 by_cases h1:(m:Int)=n
 rotate_left 1
 · have h1':((m:Int) != n)=true:=bne_iff_ne.2 h1
   obtain rfl:res=false:=No.out fun h=>h1 (by have h9:=h.1; rw [Hm.out]; exact h9)
   clear h1
   go_wp2_with fail
   go_ret
   exact ⟨by rfl,Hb0.out⟩
 subst h1
 go_wp2_with fail
 clear d0 d1 d2 d3 d4 d5 HW
 go_loopw [14] (fun s wr=>∃ k:Nat,k≤m∧s=.int .i64 k∧Hid (∀ i,i < k→0≤l[i]?.getD 0∧l[i]?.getD 0≤1099511627776)∧Hid (Below w.heap.size w wr)) (fun s _=>m - (intOf s).toNat)
 case atStart=>exact ⟨0,Nat.zero_le _,rfl,fun z hz=>absurd hz (Nat.not_lt_zero _),Hb0.out⟩
 case round =>
  obtain ⟨k,hk,rfl,Hl,Hb⟩:=hrel
  by_cases hlt:k < m
  · obtain ⟨b,off,rfl,_,u0⟩:=(HN.out.later Hb.out).at (i:=k) (by have:=Hm.out; omega)
    obtain ⟨y,Hy⟩:∃ z,Hid (l[k]?.getD 0=z):=⟨_,rfl⟩;rw [Hy.out] at u0;have k0:(0:Int)≤(k:Int):=by omega
    have k1:(k:Int) < (m:Int):=by omega
    obtain ⟨v,Hv⟩:∃ z,Hid (withinB y 0 1099511627776=z):=⟨_,rfl⟩
    go_wp2_with fail
    refine (auwithin_calls y 0 1099511627776 _).mono ?_;rw [Hv.out];rintro e w3 ⟨rfl,rfl⟩
    cases v with
    | false =>
      obtain rfl:res=false:=No.out fun h=>by
       have h9:=h.2 k (by have:=Hm.out; omega)
       rw [Hy.out] at h9
       exact (of_decide_eq_false Hv.out) h9
      go_wp2_with fail
      go_ret
      exact ⟨by rfl,Hb.out⟩
    | true =>
      go_wp2_with fail
      go_roundw
      case rel=>exact ⟨k + 1,by omega,by go_num,(fun z hz=>by
       by_cases e:z=k
       · subst e; rw [Hy.out]; exact of_decide_eq_true Hv.out
       · exact Hl.out z (by omega)),Hb.out⟩
      case measure=>simp [intOf]; omega
  · obtain rfl:res=true:=Hres.out.symm.trans (decide_eq_true ⟨by show (l.length:Int)=m; rw [← Hm.out],fun i hi=>Hl.out i (by have:=Hm.out; omega)⟩)
    go_wp2_with fail
    go_ret
    exact ⟨by rfl,Hb.out⟩
end Go.Proofs.YtecjnkokdnmhlaaGreat
namespace Go.Proofs.YtecjnkokdnmhlaaGreat
open Go.RowKit
def runsB (c:Cf) (who:Int) (x:Au):Bool:=decide (runsOk c who x)
theorem runs_amounts {c:Cf} {who:Int} {x:Au} (h1:0 < x.try_∧x.try_≤1125899906842624) (h2:x.ph=1∨x.ph=2) (h3:(x.told.length:Int)=c.n) (h6:x.told[who.toNat]?.getD false=false) :
 runsB c who x=(amountsB c x.use && amountsB c x.inc):=by
 unfold runsB amountsB
 rw [← Bool.decide_and,decide_eq_decide]
 constructor
 · rintro ⟨_,_,g3,g4,g5,_,g7⟩
   exact ⟨⟨g4,fun i hi=>(g7 i (by omega)).1⟩,g5,fun i hi=>(g7 i (by omega)).2⟩
 · rintro ⟨⟨g1,g2⟩,g3,g4⟩
   exact ⟨h1,h2,h3,g1,g3,h6,fun i hi=>⟨g2 i (by omega),g4 i (by omega)⟩⟩
set_option maxRecDepth 100000 in
set_option maxHeartbeats 8000000 in
theorem auruns_calls (c:Cf) (who:Int) (x:Au) (p:Al) (w:World) (hw0:0≤who) (hw1:who < c.n) (hA:AuIn w p x) :
 Calls Tryz.prog 156 #[cfV c,.int .i64 who,auAt x p] w (Says w (runsB c who x)):=by
 have HK:Hid (KeptA w w.heap.size c x p ((w.alloc (.cells (cfCells c) 23)).alloc (.cells (auCells x (.slice p.a1 p.m1 p.c1) (.slice p.a2 p.m2 p.c2) (.slice p.a3 p.m3 p.c3)) 33))) :=
  ⟨below_two w _ _,(Whole.made w _ _).alloc _,Whole.made2 w _ _ _⟩
 have hbig:p.m1≤9223372036854775807:=by rw [hA.1.1]; exact hA.1.2.1
 have HA:=qH hA; clear hA;obtain ⟨a1,m1,c1,a2,m2,c2,a3,m3,c3⟩:=p;obtain ⟨n,q,r,p,kk,cc⟩:=c;obtain ⟨tr,ph,told,use,inc,moved⟩:=x;simp only at hbig hw0 hw1;obtain ⟨res,Hres⟩:∃ z,Hid (runsB ⟨n,q,r,p,kk,cc⟩ who ⟨tr,ph,told,use,inc,moved⟩=z):=⟨_,rfl⟩;have no:¬ runsOk ⟨n,q,r,p,kk,cc⟩ who ⟨tr,ph,told,use,inc,moved⟩→res=false:=fun h=>Hres.out.symm.trans (decide_eq_false h)
 have No:=qH no; clear no;rw [Hres.out];obtain ⟨v,Hv⟩:∃ z,Hid (withinB tr 1 1125899906842624=z):=⟨_,rfl⟩;obtain ⟨d0,d1,d2,d3,d4,d5⟩:=config_cells HK.out.2.1;obtain ⟨e0,e1,e2,e3,e4,e5⟩:=au_cells HK.out.2.2;simp only at d0 d1 d2 d3 d4 d5 e0 e1 e2 e3 e4 e5;obtain ⟨⟨hl1,hB1⟩,⟨hl2,hB2⟩,hl3,hB3⟩:=HA.out;simp only at hl1 hB1 hl2 hB2 hl3 hB3;have H1:=qH hl1; have H2:=qH hl2; have H3:=qH hl3;have HB1:=qH hB1; have HB2:=qH hB2; have HB3:=qH hB3
 clear hl1 hl2 hl3 hB1 hB2 hB3 HA
 go_enter Tryz.func156,Tryz.ntmps156
 go_upto_region 1 with fail
 obtain ⟨y,Hy⟩:∃ y:Bool,Hid (y=!(v && decide (ph=1∨ph=2))):=⟨_,rfl⟩
 go_cut [23] from 7 to 23 (fun s23 wx=>s23=.bool y∧Hid (KeptA w w.heap.size ⟨n,q,r,p,kk,cc⟩ ⟨tr,ph,told,use,inc,moved⟩ ⟨a1,m1,c1,a2,m2,c2,a3,m3,c3⟩ wx))
 case first =>
  go_wp2_with fail
  refine (auwithin_calls tr 1 1125899906842624 _).mono ?_;rw [Hv.out];rintro e w1 ⟨rfl,rfl⟩
  cases v with
  | false =>
    obtain rfl:y=true:=by rw [Hy.out]; rfl
    go_wp2_with fail
    go_meet
    exact ⟨by rfl,HK.out⟩
  | true =>
    by_cases g1:ph=1
    · subst g1
      obtain rfl:y=false:=by rw [Hy.out]; rfl
      go_wp2_with fail
      go_meet
      exact ⟨by rfl,HK.out⟩
    · have g4:(ph != 1)=true:=bne_iff_ne.2 g1
      by_cases g2:ph=2
      · subst g2
        obtain rfl:y=false:=by rw [Hy.out]; rfl
        clear g4 g1
        go_wp2_with fail
        go_meet
        exact ⟨by rfl,HK.out⟩
      · have g5:(ph != 2)=true:=bne_iff_ne.2 g2
        obtain rfl:y=true:=by rw [Hy.out]; simp [g1,g2]
        clear g1 g2
        go_wp2_with fail
        go_meet
        exact ⟨by rfl,HK.out⟩
 case rest =>
 clear HK d0 d1 d2 d3 d4 d5 e0 e1 e2 e3 e4 e5;obtain ⟨rfl,HK⟩:=hcut
 cases y with
 | true =>
   obtain rfl:res=false:=No.out fun h=>by
    have h9:=Hy.out;have h8:withinB tr 1 1125899906842624=true:=decide_eq_true ⟨by have h7:0 < tr:=h.1.1; omega,h.1.2⟩
    have h6:decide (ph=1∨ph=2)=true:=decide_eq_true h.2.1;rw [← Hv.out,h8,h6] at h9
    cases h9
   go_wp2_with fail
   go_ret
   exact ⟨by rfl,HK.out.1⟩
 | false =>
 have Hvp:Hid (v=true∧(ph=1∨ph=2)):=by
  have h9:=Hy.out
  cases v with
  | false=>cases h9
  | true =>
    by_cases e1:ph=1
    · exact ⟨rfl,Or.inl e1⟩
    · by_cases e2:ph=2
      · exact ⟨rfl,Or.inr e2⟩
      · simp [e1,e2] at h9
 have Htr:Hid (0 < tr∧tr≤1125899906842624):=by
  have h9:=Hv.out;rw [Hvp.out.1] at h9;have h8:=of_decide_eq_true h9
  exact ⟨by omega,h8.2⟩
 obtain ⟨d0,d1,d2,d3,d4,d5⟩:=config_cells HK.out.2.1;obtain ⟨e0,e1,e2,e3,e4,e5⟩:=au_cells HK.out.2.2;simp only at d0 d1 d2 d3 d4 d5 e0 e1 e2 e3 e4 e5
 by_cases h1:(m1:Int)=n
 rotate_left 1
 · obtain rfl:res=false:=No.out fun h=>h1 (by have h9:(told.length:Int)=n:=h.2.2.1; rw [H1.out]; exact h9)
   have h1':((m1:Int) != n)=true:=bne_iff_ne.2 h1;clear h1
   go_wp2_with fail
   go_ret
   exact ⟨by rfl,HK.out.1⟩
 subst h1;obtain ⟨b,off,hbe,t0⟩:=(HB1.out.later HK.out.1).at (i:=who.toNat) (by have:=H1.out; omega)
 subst hbe;obtain ⟨tv,Htv⟩:∃ z,Hid (told[who.toNat]?.getD false=z):=⟨_,rfl⟩;rw [Htv.out] at t0
 cases tv with
 | true =>
   obtain rfl:res=false:=No.out fun h=>by
    have h9:told[who.toNat]?.getD false=false:=h.2.2.2.2.2.1;rw [Htv.out] at h9
    cases h9
   go_wp2_with fail
   go_ret
   exact ⟨by rfl,HK.out.1⟩
 | false =>
 have hres:res=(amountsB ⟨m1,q,r,p,kk,cc⟩ use && amountsB ⟨m1,q,r,p,kk,cc⟩ inc):=Hres.out.symm.trans (runs_amounts Htr.out Hvp.out.2 (by show (told.length:Int)=m1; rw [← H1.out]) Htv.out)
 have Hr:=qH hres;clear hres;obtain ⟨u,Hu⟩:∃ z,Hid (amountsB ⟨m1,q,r,p,kk,cc⟩ use=z):=⟨_,rfl⟩;obtain ⟨i,Hi⟩:∃ z,Hid (amountsB ⟨m1,q,r,p,kk,cc⟩ inc=z):=⟨_,rfl⟩
 go_wp2_with fail
 refine (auamounts_calls ⟨m1,q,r,p,kk,cc⟩ a2 m2 c2 use H2.out _ (HB2.out.later HK.out.1)).mono ?_;rw [Hu.out];rintro e w2 ⟨rfl,hb⟩;have HK2:=qH (HK.out.later hb);clear hb d0 d1 d2 d3 d4 d5 e0 e1 e2 e3 e4 e5 t0
 cases u with
 | false =>
   obtain rfl:res=false:=by rw [Hr.out,Hu.out]; rfl
   go_wp2_with fail
   go_ret
   exact ⟨by rfl,HK2.out.1⟩
 | true =>
 obtain rfl:res=i:=by rw [Hr.out,Hu.out,Hi.out]; rfl
 obtain ⟨d0,d1,d2,d3,d4,d5⟩:=config_cells HK2.out.2.1;obtain ⟨e0,e1,e2,e3,e4,e5⟩:=au_cells HK2.out.2.2;simp only at d0 d1 d2 d3 d4 d5 e0 e1 e2 e3 e4 e5
 go_wp2_with fail
 refine (auamounts_calls ⟨m1,q,r,p,kk,cc⟩ a3 m3 c3 inc H3.out _ (HB3.out.later HK2.out.1)).mono ?_;rw [Hi.out];rintro e w3 ⟨rfl,hb⟩;have HK3:=qH (HK2.out.later hb);clear hb
 go_wp2_with fail
 go_ret
 exact ⟨by rfl,HK3.out.1⟩
set_option maxRecDepth 100000 in
set_option maxHeartbeats 8000000 in
theorem aMay_calls (c:Cf) (who:Int) (x:Au) (p:Al) (w:World) (hA:AuIn w p x) :
 Calls Tryz.prog 96 #[cfV c,.int .i64 who,auAt x p] w (Says w (auB c who x)):=by
 have HK:Hid (KeptA w w.heap.size c x p ((w.alloc (.cells (cfCells c) 23)).alloc (.cells (auCells x (.slice p.a1 p.m1 p.c1) (.slice p.a2 p.m2 p.c2) (.slice p.a3 p.m3 p.c3)) 33))) :=
  ⟨below_two w _ _,(Whole.made w _ _).alloc _,Whole.made2 w _ _ _⟩
 have hbig:p.m1≤9223372036854775807∧p.m2≤9223372036854775807∧p.m3≤9223372036854775807:=⟨by rw [hA.1.1]; exact hA.1.2.1,by rw [hA.2.1.1]; exact hA.2.1.2.1,by rw [hA.2.2.1]; exact hA.2.2.2.1⟩
 have hnone:=fun w=>aunone_calls x p w hA.1.1 hA.2.1.1 hA.2.2.1 hbig
 have hruns:=fun h0 h1 w h2=>auruns_calls c who x p w h0 h1 h2
 have HA:=qH hA; clear hA;have Hnone:=qH hnone; clear hnone;have Hruns:=qH hruns; clear hruns;obtain ⟨a1,m1,c1,a2,m2,c2,a3,m3,c3⟩:=p;obtain ⟨n,q,r,p,kk,cc⟩:=c;obtain ⟨tr,ph,told,use,inc,moved⟩:=x;clear hbig;obtain ⟨res,Hres⟩:∃ z,Hid (auB ⟨n,q,r,p,kk,cc⟩ who ⟨tr,ph,told,use,inc,moved⟩=z):=⟨_,rfl⟩;have no:¬ auOk ⟨n,q,r,p,kk,cc⟩ who ⟨tr,ph,told,use,inc,moved⟩→res=false:=fun h=>Hres.out.symm.trans (auB_no h)
 have yes:auOk ⟨n,q,r,p,kk,cc⟩ who ⟨tr,ph,told,use,inc,moved⟩→res=true:=fun h=>Hres.out.symm.trans (decide_eq_true h)
 have No:=qH no; have Yes:=qH yes; clear no yes;rw [Hres.out];obtain ⟨am,Ham⟩:∃ z,Hid (amB ⟨n,q,r,p,kk,cc⟩ who=z):=⟨_,rfl⟩;obtain ⟨nn,Hnn⟩:∃ z,Hid (noneA ⟨tr,ph,told,use,inc,moved⟩=z):=⟨_,rfl⟩;obtain ⟨ru,Hru⟩:∃ z,Hid (runsB ⟨n,q,r,p,kk,cc⟩ who ⟨tr,ph,told,use,inc,moved⟩=z):=⟨_,rfl⟩;obtain ⟨d0,d1,d2,d3,d4,d5⟩:=config_cells HK.out.2.1;simp only at d0 d1 d2 d3 d4 d5
 go_enter Tryz.func96,Tryz.ntmps96
 go_wp2_with fail
 refine (auamong_calls ⟨n,q,r,p,kk,cc⟩ who _).mono ?_;rw [Ham.out];rintro e w1 ⟨rfl,hb⟩;have HK1:=qH (HK.out.later hb);clear hb d0 d1 d2 d3 d4 d5 HK;obtain ⟨d0,d1,d2,d3,d4,d5⟩:=config_cells HK1.out.2.1;obtain ⟨e0,e1,e2,e3,e4,e5⟩:=au_cells HK1.out.2.2;simp only at d0 d1 d2 d3 d4 d5 e0 e1 e2 e3 e4 e5
 cases am with
 | false =>
   obtain rfl:res=false:=No.out fun h=>(of_decide_eq_false Ham.out) ⟨h.1,h.2.1⟩
   go_wp2_with fail
   go_ret
   exact ⟨by rfl,HK1.out.1⟩
 | true =>
 have Hcw:=qH (of_decide_eq_true Ham.out)
 go_wp2_with fail
 refine (Hnone.out _).mono ?_;rw [Hnn.out];rintro e w2 ⟨rfl,hb⟩;have HK2:=qH (HK1.out.later hb);clear hb HK1 d0 d1 d2 d3 d4 d5 e0 e1 e2 e3 e4 e5
 cases nn with
 | true =>
   obtain rfl:res=true:=Yes.out ⟨Hcw.out.1,Hcw.out.2,Or.inl (of_decide_eq_true Hnn.out)⟩
   go_wp2_with fail
   go_ret
   exact ⟨by rfl,HK2.out.1⟩
 | false =>
 obtain rfl:res=ru:=by
  have hne:¬ (⟨tr,ph,told,use,inc,moved⟩:Au)=au0:=of_decide_eq_false Hnn.out;rw [← Hru.out,← Hres.out]
  unfold auB runsB
  rw [decide_eq_decide]
  exact ⟨fun h=>h.2.2.elim (fun h=>absurd h hne) id,fun h=>⟨Hcw.out.1,Hcw.out.2,Or.inr h⟩⟩
 obtain ⟨d0,d1,d2,d3,d4,d5⟩:=config_cells HK2.out.2.1;obtain ⟨e0,e1,e2,e3,e4,e5⟩:=au_cells HK2.out.2.2;simp only at d0 d1 d2 d3 d4 d5 e0 e1 e2 e3 e4 e5
 go_wp2_with fail
 refine (Hruns.out Hcw.out.2.1 Hcw.out.2.2 _ (HA.out.later HK2.out.1)).mono ?_;rw [Hru.out];rintro e w3 ⟨rfl,hb⟩;have HK3:=qH (HK2.out.later hb);clear hb
 go_wp2_with fail
 go_ret
 exact ⟨by rfl,HK3.out.1⟩
end Go.Proofs.YtecjnkokdnmhlaaGreat
namespace Go.Proofs.YtecjnkokdnmhlaaGreat
open Go.RowKit
def alB (who:Int) (x:Au) (ph:Int):Bool:=decide (x.ph=ph∧∀ i,i < x.told.length→x.told[i]?.getD false=true∨(i:Int)=who)
theorem alB_all {c:Cf} {who:Int} {x:Au} {ph:Int} (h:auOk c who x) (hp:ph ≠ 0):alB who x ph=decide (x.ph=ph∧allA who x):=by
 unfold alB allA
 rw [decide_eq_decide];refine ⟨fun h2=>⟨h2.1,?_,h2.2⟩,fun h2=>⟨h2.1,h2.2.2⟩⟩
 rcases h.2.2 with h3 | h3
 · exact absurd h2.1 (by rw [h3]; exact fun e=>hp e.symm)
 · have h4:=h3.2.2.1
   have h5:=h.1.1
   omega
set_option maxRecDepth 100000 in
set_option maxHeartbeats 4000000 in
theorem auall_calls (who:Int) (x:Au) (p:Al) (ph:Int) (w:World) (hA:AuIn w p x):Calls Tryz.prog 187 #[.int .i64 who,auAt x p,.int .i64 ph] w (Says w (alB who x ph)):=by
 have HW:=qH (Whole.made w 33 (auCells x (.slice p.a1 p.m1 p.c1) (.slice p.a2 p.m2 p.c2) (.slice p.a3 p.m3 p.c3)));have Hb0:=qH (below_box w (.cells (auCells x (.slice p.a1 p.m1 p.c1) (.slice p.a2 p.m2 p.c2) (.slice p.a3 p.m3 p.c3)) 33));have hbig:p.m1≤9223372036854775807:=by rw [hA.1.1]; exact hA.1.2.1
 have HB:=qH hA.1.2;have Hm:=qH hA.1.1;clear hA;obtain ⟨a1,m1,c1,a2,m2,c2,a3,m3,c3⟩:=p;obtain ⟨tr,ph0,told,use,inc,moved⟩:=x;simp only at hbig;obtain ⟨res,Hres⟩:∃ z,Hid (alB who ⟨tr,ph0,told,use,inc,moved⟩ ph=z):=⟨_,rfl⟩;have no:¬ (ph0=ph∧∀ i,i < told.length→told[i]?.getD false=true∨(i:Int)=who)→res=false:=fun h=>Hres.out.symm.trans (decide_eq_false h)
 have No:=qH no; clear no;rw [Hres.out];obtain ⟨e0,e1,e2,e3,e4,e5⟩:=au_cells HW.out;simp only at e0 e1 e2 e3 e4 e5
 go_enter Tryz.func187,Tryz.ntmps187
 by_cases h1:ph0=ph
 rotate_left 1
 · have h1':(ph0 != ph)=true:=bne_iff_ne.2 h1
   obtain rfl:res=false:=No.out fun h=>h1 h.1
   clear h1
   go_wp2_with fail
   go_ret
   exact ⟨by rfl,Hb0.out⟩
 subst h1;have h1':(ph0 != ph0)=false:=by simp
 go_wp2_with fail
 clear e0 e1 e2 e3 e4 e5 HW h1'
 go_loopw [17] (fun s wr=>∃ k:Nat,k≤m1∧s=.int .i64 k∧Hid (∀ i:Nat,i < k→told[i]?.getD false=true∨(i:Int)=who)∧Hid (Below w.heap.size w wr)) (fun s _=>m1 - (intOf s).toNat)
 case atStart=>exact ⟨0,Nat.zero_le _,rfl,fun z hz=>absurd hz (Nat.not_lt_zero _),Hb0.out⟩
 case round =>
  obtain ⟨k,hk,rfl,Hl,Hb⟩:=hrel
  by_cases hlt:k < m1
  · obtain ⟨b,off,rfl,u0⟩:=(HB.out.later Hb.out).at (i:=k) (by have:=Hm.out; omega)
    obtain ⟨y,Hy⟩:∃ z,Hid (told[k]?.getD false=z):=⟨_,rfl⟩;rw [Hy.out] at u0;have k0:(0:Int)≤(k:Int):=by omega
    have k1:(k:Int) < (m1:Int):=by omega
    by_cases hkw:(k:Int)=who
    · have hkw':((k:Int) != who)=false:=by simp [hkw]
      have Hkw:=qH hkw;clear hkw
      go_wp2_with fail
      go_roundw
      case rel=>exact ⟨k + 1,by omega,by go_num,(fun z hz=>by
       by_cases e:z=k
       · subst e; exact Or.inr Hkw.out
       · exact Hl.out z (by omega)),Hb.out⟩
      case measure=>simp [intOf]; omega
    · have hkw':((k:Int) != who)=true:=bne_iff_ne.2 hkw
      have Hkw:=qH hkw;clear hkw
      cases y with
      | false =>
        obtain rfl:res=false:=No.out fun h=>by
         rcases h.2 k (by have:=Hm.out; omega) with h9 | h9
         · rw [Hy.out] at h9; cases h9
         · exact Hkw.out h9
        go_wp2_with fail
        go_ret
        exact ⟨by rfl,Hb.out⟩
      | true =>
        go_wp2_with fail
        go_roundw
        case rel=>exact ⟨k + 1,by omega,by go_num,(fun z hz=>by
         by_cases e:z=k
         · subst e; exact Or.inl Hy.out
         · exact Hl.out z (by omega)),Hb.out⟩
        case measure=>simp [intOf]; omega
  · obtain rfl:res=true:=Hres.out.symm.trans (decide_eq_true ⟨rfl,fun i hi=>Hl.out i (by have:=Hm.out; have hi2:i < told.length:=hi; omega)⟩)
    go_wp2_with fail
    go_ret
    exact ⟨by rfl,Hb.out⟩
end Go.Proofs.YtecjnkokdnmhlaaGreat
namespace Go.Proofs.YtecjnkokdnmhlaaGreat
open Go.RowKit
attribute [local go_sem ↓] run_fine
def ClonedN (w:World) (l:List Int) (e:Ending) (w':World):Prop:=∃ A C,e=.returned (.slice A l.length C)∧OwnN w' w.heap.size (.slice A l.length C) l∧Below w.heap.size w w'
def ClonedT (w:World) (l:List Bool) (e:Ending) (w':World):Prop:=∃ A C,e=.returned (.slice A l.length C)∧OwnT w' w.heap.size (.slice A l.length C) l∧Below w.heap.size w w'
theorem elems_none {w:World} {n C sz m:Nat} {f:Nat→Nat→Value} (h:Elems w (.slice none n C) sz m f):n=0∧C=0∧m=0:=by
 obtain ⟨_,⟨a,cap,hv,ha,h0⟩ | ⟨b,off,cap,hv,_⟩⟩:=h
 · simp only [Value.slice.injEq] at hv
   obtain ⟨rfl,rfl,rfl⟩:=hv
   exact ⟨rfl,ha rfl,h0⟩
 · simp at hv
set_option maxRecDepth 100000 in
set_option maxHeartbeats 4000000 in
theorem cloneN_calls (A:Option Addr) (n C:Nat) (la:List Int) (hn:n=la.length) (hle:n≤100000) (w:World) (hN:Nums w (.slice A n C) la):Calls Tryz.prog 109 #[.slice A n C] w (ClonedN w la):=by
 cases A with
 | none =>
   obtain ⟨rfl,rfl,h0⟩:=elems_none hN;obtain rfl:la=[]:=List.length_eq_zero_iff.1 h0;clear hN hn hle h0
   go_enter Tryz.func109,Tryz.ntmps109
   have heq:∀ w:World,(binOp .eql 31 (.slice none 0 0) (.slice none 0 0)).run Tryz.prog w=.ok (.bool true) w:=by
    intro w;simp only [binOp]
    simp [run_equal_slice_nil w 31 2 none 0 0 Tryz.underlying31]
   go_wp2
   go_ret
   exact ⟨none,0,by rfl,⟨rfl,Or.inl ⟨rfl,rfl⟩⟩,Below.refl _ _⟩
 | some ad =>
   have hb1:Below w.heap.size w (w.alloc (.cells #[] 2)):=below_box w _;obtain ⟨v1,w1,hrun1,q1,q2,_⟩:=run_append_nums (ownN_nil w) (hN.later hb1) hn (by simp; omega) hb1.size
   rw [List.nil_append] at q1;obtain ⟨A1,C1,rfl,_⟩:=OwnN.nums q1 (by omega)
   obtain ⟨hf1,hv1,hw1⟩:=fine_of hrun1;have Q1:=qH q1;have Hb:=qH (hb1.trans q2);clear hrun1 q1 q2 hb1 hN hn
   go_enter Tryz.func109,Tryz.ntmps109
   have heq:∀ w:World,(binOp .eql 31 (.slice (some ad) n C) (.slice none 0 0)).run Tryz.prog w=.ok (.bool false) w:=by
    intro w;simp only [binOp]
    simp [run_equal_slice_nil w 31 2 (some ad) n C Tryz.underlying31]
   go_wp2
   go_ret
   exact ⟨A1,C1,by rfl,Q1.out,Hb.out⟩
set_option maxRecDepth 100000 in
set_option maxHeartbeats 4000000 in
theorem cloneT_calls (A:Option Addr) (n C:Nat) (la:List Bool) (hn:n=la.length) (hle:n≤100000) (w:World) (hN:Bools w (.slice A n C) la):Calls Tryz.prog 108 #[.slice A n C] w (ClonedT w la):=by
 cases A with
 | none =>
   obtain ⟨rfl,rfl,h0⟩:=elems_none hN;obtain rfl:la=[]:=List.length_eq_zero_iff.1 h0;clear hN hn hle h0
   go_enter Tryz.func108,Tryz.ntmps108
   have heq:∀ w:World,(binOp .eql 30 (.slice none 0 0) (.slice none 0 0)).run Tryz.prog w=.ok (.bool true) w:=by
    intro w;simp only [binOp]
    simp [run_equal_slice_nil w 30 4 none 0 0 Tryz.underlying30]
   go_wp2
   go_ret
   exact ⟨none,0,by rfl,⟨rfl,Or.inl ⟨rfl,rfl⟩⟩,Below.refl _ _⟩
 | some ad =>
   have hb1:Below w.heap.size w (w.alloc (.cells #[] 4)):=below_box w _;obtain ⟨v1,w1,hrun1,q1,q2,_⟩:=run_append_bools (ownT_nil w) (hN.later hb1) hn (by omega) hb1.size
   obtain ⟨A1,C1,rfl,_⟩:=OwnT.bools q1 (by omega)
   obtain ⟨hf1,hv1,hw1⟩:=fine_of hrun1;have Q1:=qH q1;have Hb:=qH (hb1.trans q2);clear hrun1 q1 q2 hb1 hN hn
   go_enter Tryz.func108,Tryz.ntmps108
   have heq:∀ w:World,(binOp .eql 30 (.slice (some ad) n C) (.slice none 0 0)).run Tryz.prog w=.ok (.bool false) w:=by
    intro w;simp only [binOp]
    simp [run_equal_slice_nil w 30 4 (some ad) n C Tryz.underlying30]
   go_wp2
   go_ret
   exact ⟨A1,C1,by rfl,Q1.out,Hb.out⟩
end Go.Proofs.YtecjnkokdnmhlaaGreat
