/- Parts, as far as NodeAtOnceCards reaches them, of: BookMay. No law is proved here. -/
import Derived.Test.YtecjnkokdnmhlaaGreatTa16
import Derived.Test.YtecjnkokdnmhlaaGreatTa13
namespace Go.Proofs.YtecjnkokdnmhlaaGreat
open Go.RowKit
def KeptBk (w:World) (g:Nat) (c:Cf) (x:Bk) (p:Bl) (wx:World):Prop:=Below w.heap.size w wx∧Whole wx g 23 (cfCells c)∧Whole wx (g + 1) 35 (bkAtC x p)
theorem KeptBk.later {w:World} {g:Nat} {c:Cf} {x:Bk} {p:Bl} {wx wy:World} (h:KeptBk w g c x p wx) (hb:Below wx.heap.size wx wy):KeptBk w g c x p wy:=⟨held_next h.1 hb,h.2.1.later hb h.2.1.lt,h.2.2.later hb h.2.2.lt⟩
def waitOk (c:Cf) (who:Int) (x:Bk):Prop:=lineOk c who x.line∧(0≤x.asks∧x.asks≤c.r)∧(∀ i,i < x.line.length→(rqAt x.line i).t≤x.clk)∧(x.line=[]→x.asks=0∧x.au=au0)
instance (c:Cf) (who:Int) (x:Bk):Decidable (waitOk c who x):=by unfold waitOk; exact inferInstance
def tellOk (c:Cf) (who:Int) (x:Bk):Prop:=(x.outs.length:Int)≤c.q + 1∧∀ i,i < x.outs.length→outB c who x.clk (rqAt x.outs i)=true
instance (c:Cf) (who:Int) (x:Bk):Decidable (tellOk c who x):=by unfold tellOk; exact inferInstance
set_option maxRecDepth 100000 in
set_option maxHeartbeats 4000000 in
theorem knone_calls (x:Au) (p:Al) (w:World) (h1:p.m1=x.told.length) (h2:p.m2=x.use.length) (h3:p.m3=x.inc.length) (hb:p.m1≤9223372036854775807∧p.m2≤9223372036854775807∧p.m3≤9223372036854775807) :
 Calls Tryz.prog 157 #[auAt x p] w (Says w (noneA x)):=by
 have Hb0:=qH (below_box w (.cells (auCells x (.slice p.a1 p.m1 p.c1) (.slice p.a2 p.m2 p.c2) (.slice p.a3 p.m3 p.c3)) 33));obtain ⟨tr,ph,told,use,inc,moved⟩:=x;obtain ⟨a1,m1,c1,a2,m2,c2,a3,m3,c3⟩:=p;obtain ⟨hb1,hb2,hb3⟩:=hb;simp only at h1 h2 h3 hb1 hb2 hb3;obtain ⟨res,Hres⟩:∃ z,Hid (noneA ⟨tr,ph,told,use,inc,moved⟩=z):=⟨_,rfl⟩;rw [Hres.out];obtain ⟨z,Hz⟩:∃ z,Hid (decide (tr=0∧ph=0)=z):=⟨_,rfl⟩
 have hr:res=(z && decide (m1=0∧m2=0∧m3=0∧moved=false)):=by
  rw [← Hres.out,← Hz.out,h1,h2,h3]
  unfold noneA
  simp only [Au.mk.injEq,List.length_eq_zero_iff,← Bool.decide_and,and_assoc]
 have HR:=qH hr;clear hr h1 h2 h3;have heq:∀ w:World,(binOp .eql 29 (.agg #[.int .i64 tr,.int .i64 ph]) (.agg #[.int .i64 0,.int .i64 0])).run Tryz.prog w=.ok (.bool z) w:=fun w=>(run_eql_lk w tr ph 0 0).trans (by rw [← Hz.out])
 go_enter Tryz.func157,Tryz.ntmps157
 cases z with
 | false =>
   obtain rfl:res=false:=by rw [HR.out]; rfl
   go_wp2_with fail
   go_ret
   exact ⟨by rfl,Hb0.out⟩
 | true =>
  by_cases k3:m1=0
  · subst k3
    by_cases k4:m2=0
    · subst k4
      by_cases k5:m3=0
      · subst k5
        cases moved with
        | false =>
          obtain rfl:res=true:=by rw [HR.out]; simp
          go_wp2_with fail
          go_ret
          exact ⟨by rfl,Hb0.out⟩
        | true =>
          obtain rfl:res=false:=by rw [HR.out]; simp
          go_wp2_with fail
          go_ret
          exact ⟨by rfl,Hb0.out⟩
      · obtain rfl:res=false:=by rw [HR.out]; simp [k5]
        have k5':((m3:Int) == 0)=false:=beq_eq_false_iff_ne.2 (by omega)
        clear k5
        go_wp2_with fail
        go_ret
        exact ⟨by rfl,Hb0.out⟩
    · obtain rfl:res=false:=by rw [HR.out]; simp [k4]
      have k4':((m2:Int) == 0)=false:=beq_eq_false_iff_ne.2 (by omega)
      clear k4
      go_wp2_with fail
      go_ret
      exact ⟨by rfl,Hb0.out⟩
  · obtain rfl:res=false:=by rw [HR.out]; simp [k3]
    have k3':((m1:Int) == 0)=false:=beq_eq_false_iff_ne.2 (by omega)
    clear k3
    go_wp2_with fail
    go_ret
    exact ⟨by rfl,Hb0.out⟩
set_option maxRecDepth 100000 in
set_option maxHeartbeats 4000000 in
theorem kamong_calls (c:Cf) (who:Int) (w:World):Calls Tryz.prog 132 #[cfV c,.int .i64 who] w (Says w (amB c who)):=by
 have HW:=qH (Whole.made w 23 (cfCells c));have Hb0:=qH (below_box w (.cells (cfCells c) 23));obtain ⟨n,q,r,p,kk,cc⟩:=c;obtain ⟨ok,Hok⟩:∃ z,Hid (cfB ⟨n,q,r,p,kk,cc⟩=z):=⟨_,rfl⟩;obtain ⟨res,Hres⟩:∃ z,Hid (amB ⟨n,q,r,p,kk,cc⟩ who=z):=⟨_,rfl⟩;have no:¬ (cfOk ⟨n,q,r,p,kk,cc⟩∧(0≤who∧who < n))→res=false:=fun h=>Hres.out.symm.trans (decide_eq_false h)
 have yes:(cfOk ⟨n,q,r,p,kk,cc⟩∧(0≤who∧who < n))→res=true:=fun h=>Hres.out.symm.trans (decide_eq_true h)
 have No:=qH no; have Yes:=qH yes; clear no yes;rw [Hres.out]
 go_enter Tryz.func132,Tryz.ntmps132
 go_wp2_with fail
 refine (rMay_calls ⟨n,q,r,p,kk,cc⟩ _).mono ?_;rintro e w1 ⟨rfl,hb⟩;rw [Hok.out];have Hb1:=qH (held_next Hb0.out hb);have HW1:=qH (HW.out.later hb HW.out.lt);clear hb HW Hb0;obtain ⟨d0,d1,d2,d3,d4,d5⟩:=config_cells HW1.out;simp only at d0 d1 d2 d3 d4 d5
 cases ok with
 | false =>
   obtain rfl:res=false:=No.out fun h=>by
    have:=cfB_yes h.1;rw [Hok.out] at this
    cases this
   go_wp2_with fail
   go_ret
   exact ⟨by rfl,Hb1.out⟩
 | true =>
   by_cases h1:0≤who
   · by_cases h2:who < n
     · obtain rfl:res=true:=Yes.out ⟨cfB_ok Hok.out,h1,h2⟩
       go_wp2_with fail
       go_ret
       exact ⟨by first | rfl | (simp; done) | (simp; omega),Hb1.out⟩
     · obtain rfl:res=false:=No.out fun h=>h2 h.2.2
       go_wp2_with fail
       go_ret
       exact ⟨by first | rfl | (simp; done) | (simp; omega),Hb1.out⟩
   · obtain rfl:res=false:=No.out fun h=>h1 h.2.1
     go_wp2_with fail
     go_ret
     exact ⟨by first | rfl | (simp; done) | (simp; omega),Hb1.out⟩
set_option maxRecDepth 100000 in
set_option maxHeartbeats 16000000 in
theorem kmayWait_calls (c:Cf) (who:Int) (x:Bk) (p:Bl) (w:World) (hK:BkIn w p x) :
 Calls Tryz.prog 97 #[cfV c,.int .i64 who,bkAt x p] w (Says w (decide (waitOk c who x))):=by
 have HK:Hid (KeptBk w w.heap.size c x p ((w.alloc (.cells (cfCells c) 23)).alloc (.cells (bkAtC x p) 35))) :=
  ⟨below_two w _ _,(Whole.made w _ _).alloc _,Whole.made2 w _ _ _⟩
 obtain ⟨⟨hm1,hB1⟩,⟨hm2,hB2⟩,⟨hm3,hB3⟩,⟨hm4,hB4⟩,hA⟩:=hK;have b2:p.m2≤9223372036854775807:=by rw [hm2]; exact hB2.1
 have b3:p.m3≤9223372036854775807:=by rw [hm3]; exact hB3.1
 have b4:p.m4≤9223372036854775807:=by rw [hm4]; exact hB4.1
 have ba:p.al.m1≤9223372036854775807∧p.al.m2≤9223372036854775807∧p.al.m3≤9223372036854775807:=⟨by rw [hA.1.1]; exact hA.1.2.1,by rw [hA.2.1.1]; exact hA.2.1.2.1,by rw [hA.2.2.1]; exact hA.2.2.2.1⟩
 obtain ⟨n,q,r,pp,kk,cc⟩:=c;obtain ⟨clk,rows,line,outs,asks,notes,⟨tr,ph,told,use,inc,moved⟩⟩:=x;obtain ⟨a1,m1,c1,a2,m2,c2,a3,m3,c3,a4,m4,c4,⟨a5,m5,c5,a6,m6,c6,a7,m7,c7⟩⟩:=p;simp only at hm1 hB1 hm2 hB2 hm3 hB3 hm4 hB4 b2 b3 b4 ba;have HB1:=qH hB1; clear hB1;have HB2:=qH hB2; clear hB2;have HB3:=qH hB3; clear hB3;have HB4:=qH hB4; clear hB4;have HA:=qH hA; clear hA;have HBa:=qH ba; clear ba;have Hm1:=qH hm1; clear hm1
 have Hm2:=qH hm2; clear hm2;have Hm3:=qH hm3; clear hm3;have Hm4:=qH hm4; clear hm4;obtain ⟨res,Hres⟩:∃ z,Hid (decide (waitOk ⟨n,q,r,pp,kk,cc⟩ who ⟨clk,rows,line,outs,asks,notes,⟨tr,ph,told,use,inc,moved⟩⟩)=z):=⟨_,rfl⟩;have no:¬ waitOk ⟨n,q,r,pp,kk,cc⟩ who ⟨clk,rows,line,outs,asks,notes,⟨tr,ph,told,use,inc,moved⟩⟩→res=false:=fun h=>Hres.out.symm.trans (decide_eq_false h)
 have No:=qH no; clear no;rw [Hres.out];obtain ⟨lv,Hlv⟩:∃ z,Hid (lineB ⟨n,q,r,pp,kk,cc⟩ who line=z):=⟨_,rfl⟩
 go_enter Tryz.func97,Tryz.ntmps97
 obtain ⟨d0,d1,d2,d3,d4,d5⟩:=config_cells HK.out.2.1;obtain ⟨⟨e0,e1,e2,e3⟩,⟨e4,e5,e6,e7⟩,e8,e9,e10,e11⟩:=bk_cells HK.out.2.2;simp only at d0 d1 d2 d3 d4 d5 e0 e1 e2 e3 e4 e5 e6 e7 e8 e9 e10 e11
 go_wp2_with fail
 refine (lMay_wide ⟨n,q,r,pp,kk,cc⟩ who a2 m2 c2 line Hm2.out b2 _ (HB2.out.later HK.out.1)).mono ?_;rintro e w1 ⟨rfl,hb⟩;rw [Hlv.out];have HK1:=qH (HK.out.later hb);clear hb HK d0 d1 d2 d3 d4 d5 e0 e1 e2 e3 e4 e5 e6 e7 e8 e9 e10 e11;obtain ⟨d0,d1,d2,d3,d4,d5⟩:=config_cells HK1.out.2.1;obtain ⟨⟨e0,e1,e2,e3⟩,⟨e4,e5,e6,e7⟩,e8,e9,e10,e11⟩:=bk_cells HK1.out.2.2;simp only at d0 d1 d2 d3 d4 d5 e0 e1 e2 e3 e4 e5 e6 e7 e8 e9 e10 e11
 cases lv with
 | false =>
   obtain rfl:res=false:=No.out fun h=>by
    have:lineB ⟨n,q,r,pp,kk,cc⟩ who line=true:=decide_eq_true h.1;rw [Hlv.out] at this
    cases this
   go_wp2_with fail
   go_ret
   exact ⟨by rfl,HK1.out.1⟩
 | true =>
 have hlo:lineOk ⟨n,q,r,pp,kk,cc⟩ who line:=of_decide_eq_true Hlv.out;have Hlo:=qH hlo; clear hlo
 by_cases h6:asks < 0
 · obtain rfl:res=false:=No.out fun h=>by have h3:0≤asks:=h.2.1.1; omega
   go_wp2_with fail
   go_ret
   exact ⟨by rfl,HK1.out.1⟩
 by_cases h7:r < asks
 · obtain rfl:res=false:=No.out fun h=>by have h3:asks≤r:=h.2.1.2; omega
   go_wp2_with fail
   go_ret
   exact ⟨by rfl,HK1.out.1⟩
 have Hsm:Hid (0≤asks∧asks≤r):=⟨by omega,by omega⟩
 go_wp2_with fail
 clear d0 d1 d2 d3 d4 d5 e0 e1 e2 e3 e4 e5 e6 e7 e8 e9 e10 e11;clear h6 h7
 go_loopw [30] (fun s30 wr=>∃ k:Nat,k≤m2∧s30=.int .i64 k∧Hid (∀ i,i < k→(rqAt line i).t≤clk)∧Hid (KeptBk w w.heap.size ⟨n,q,r,pp,kk,cc⟩ ⟨clk,rows,line,outs,asks,notes,⟨tr,ph,told,use,inc,moved⟩⟩ ⟨a1,m1,c1,a2,m2,c2,a3,m3,c3,a4,m4,c4,⟨a5,m5,c5,a6,m6,c6,a7,m7,c7⟩⟩ wr)) (fun s30 _=>m2 - (intOf s30).toNat)
 case atStart=>exact ⟨0,Nat.zero_le _,rfl,fun z hz=>absurd hz (Nat.not_lt_zero _),HK1.out⟩
 case round =>
  obtain ⟨k,hk,rfl,Hl,HKr⟩:=hrel;obtain ⟨d0,d1,d2,d3,d4,d5⟩:=config_cells HKr.out.2.1;obtain ⟨⟨e0,e1,e2,e3⟩,⟨e4,e5,e6,e7⟩,e8,e9,e10,e11⟩:=bk_cells HKr.out.2.2;simp only at d0 d1 d2 d3 d4 d5 e0 e1 e2 e3 e4 e5 e6 e7 e8 e9 e10 e11
  by_cases hlt:k < m2
  · obtain ⟨b,off,rfl,g0,g1,g2⟩:=(HB2.out.later HKr.out.1).at (i:=k) (by have:=Hm2.out; omega)
    obtain ⟨y,Hy⟩:∃ z,Hid (rqAt line k=z):=⟨_,rfl⟩;rw [Hy.out] at g0 g1 g2;obtain ⟨yt,ya,ym⟩:=y;simp only at g0 g1 g2;have k0:(0:Int)≤(k:Int):=by omega
    have k1:(k:Int) < (m2:Int):=by omega
    have hbl:b < wr.heap.size:=World.block_lt_of_cell? wr _ g0;have hz2:w.heap.size + 1 < wr.heap.size:=HKr.out.2.2.lt;have hb9:=below_box wr (.cells #[.int .i64 yt,.int .i64 ya,.int .i64 ym] 59);have HK9:=qH (HKr.out.later hb9);have HX9:=qH (Whole.made wr 59 #[.int .i64 yt,.int .i64 ya,.int .i64 ym]);have x0:=HX9.out.cell 0;have x3:=HK9.out.2.2.cell 0;simp only [bkAtC,bkCells] at x3;clear hb9
    by_cases ht:clk < yt
    · obtain rfl:res=false:=No.out fun h=>by
       have h9:=h.2.2.1 k (by have:=Hm2.out; show k < line.length; omega)
       rw [Hy.out] at h9;have h8:yt≤clk:=h9
       omega
      go_wp2_with fail
      go_ret
      exact ⟨by rfl,HK9.out.1⟩
    · go_wp2_with fail
      go_roundw
      case rel=>exact ⟨k + 1,by omega,by go_num,(fun z hz=>by
       by_cases e:z=k
       · subst e; rw [Hy.out]; show yt≤clk; omega
       · exact Hl.out z (by omega)),HK9.out⟩
      case measure=>simp [intOf]; omega
  · obtain rfl:m2=k:=by omega
    have Hll:Hid (∀ i,i < line.length→(rqAt line i).t≤clk):=fun i hi=>Hl.out i (by have:=Hm2.out; omega)
    clear Hl
    by_cases h0:m2=0
    · subst h0
      have hln:line=[]:=List.eq_nil_of_length_eq_zero Hm2.out.symm;obtain ⟨nv,Hnv⟩:∃ z,Hid (noneA ⟨tr,ph,told,use,inc,moved⟩=z):=⟨_,rfl⟩
      by_cases ha:asks=0
      · subst ha
        have hres:res=nv:=by
         rw [← Hres.out,← Hnv.out]
         unfold noneA
         exact decide_eq_decide.2 ⟨fun h=>(h.2.2.2 hln).2,fun h=>⟨Hlo.out,Hsm.out,Hll.out,fun _=>⟨rfl,h⟩⟩⟩
        have HRes:=qH hres;clear hres hln
        go_wp2_with fail
        refine (knone_calls ⟨tr,ph,told,use,inc,moved⟩ ⟨a5,m5,c5,a6,m6,c6,a7,m7,c7⟩ _ HA.out.1.1 HA.out.2.1.1 HA.out.2.2.1 HBa.out).mono ?_;rintro e w2 ⟨rfl,hb⟩;rw [Hnv.out,← HRes.out];have HK2:=qH (HKr.out.later hb);clear hb
        go_wp2_with fail
        go_ret
        exact ⟨by rfl,HK2.out.1⟩
      · obtain rfl:res=false:=No.out fun h=>ha (h.2.2.2 hln).1
        have ha':(asks == 0)=false:=beq_eq_false_iff_ne.2 ha;have HA0:=qH ha;clear ha hln
        go_wp2_with fail
        go_ret
        exact ⟨by rfl,HKr.out.1⟩
    · have hpos:(0:Int) < (m2:Int):=by omega
      have hln:line ≠ []:=fun e=>h0 (by rw [Hm2.out,e]; rfl)
      obtain rfl:res=true:=Hres.out.symm.trans (decide_eq_true ⟨Hlo.out,Hsm.out,Hll.out,fun h=>absurd h hln⟩)
      clear hln h0
      go_wp2_with fail
      go_ret
      exact ⟨by simp,HKr.out.1⟩
set_option maxRecDepth 100000 in
set_option maxHeartbeats 16000000 in
theorem kmayTell_calls (c:Cf) (hc:cfOk c) (who:Int) (x:Bk) (p:Bl) (w:World) (hK:BkIn w p x) :
 Calls Tryz.prog 98 #[cfV c,.int .i64 who,bkAt x p] w (Says w (decide (tellOk c who x))):=by
 have HK:Hid (KeptBk w w.heap.size c x p ((w.alloc (.cells (cfCells c) 23)).alloc (.cells (bkAtC x p) 35))) :=
  ⟨below_two w _ _,(Whole.made w _ _).alloc _,Whole.made2 w _ _ _⟩
 obtain ⟨⟨hm1,hB1⟩,⟨hm2,hB2⟩,⟨hm3,hB3⟩,⟨hm4,hB4⟩,hA⟩:=hK;have b2:p.m2≤9223372036854775807:=by rw [hm2]; exact hB2.1
 have b3:p.m3≤9223372036854775807:=by rw [hm3]; exact hB3.1
 have b4:p.m4≤9223372036854775807:=by rw [hm4]; exact hB4.1
 have ba:p.al.m1≤9223372036854775807∧p.al.m2≤9223372036854775807∧p.al.m3≤9223372036854775807:=⟨by rw [hA.1.1]; exact hA.1.2.1,by rw [hA.2.1.1]; exact hA.2.1.2.1,by rw [hA.2.2.1]; exact hA.2.2.2.1⟩
 obtain ⟨n,q,r,pp,kk,cc⟩:=c;obtain ⟨clk,rows,line,outs,asks,notes,⟨tr,ph,told,use,inc,moved⟩⟩:=x;obtain ⟨a1,m1,c1,a2,m2,c2,a3,m3,c3,a4,m4,c4,⟨a5,m5,c5,a6,m6,c6,a7,m7,c7⟩⟩:=p;simp only at hm1 hB1 hm2 hB2 hm3 hB3 hm4 hB4 b2 b3 b4 ba;have HB1:=qH hB1; clear hB1;have HB2:=qH hB2; clear hB2;have HB3:=qH hB3; clear hB3;have HB4:=qH hB4; clear hB4;have HA:=qH hA; clear hA;have HBa:=qH ba; clear ba;have Hm1:=qH hm1; clear hm1
 have Hm2:=qH hm2; clear hm2;have Hm3:=qH hm3; clear hm3;have Hm4:=qH hm4; clear hm4;obtain ⟨res,Hres⟩:∃ z,Hid (decide (tellOk ⟨n,q,r,pp,kk,cc⟩ who ⟨clk,rows,line,outs,asks,notes,⟨tr,ph,told,use,inc,moved⟩⟩)=z):=⟨_,rfl⟩;have no:¬ tellOk ⟨n,q,r,pp,kk,cc⟩ who ⟨clk,rows,line,outs,asks,notes,⟨tr,ph,told,use,inc,moved⟩⟩→res=false:=fun h=>Hres.out.symm.trans (decide_eq_false h)
 have No:=qH no; clear no;rw [Hres.out];have hq:0≤q∧q≤1000000:=by unfold cfOk at hc; simp only at hc; omega
 obtain ⟨hq1,hq2⟩:=hq;clear hc
 go_enter Tryz.func98,Tryz.ntmps98
 obtain ⟨d0,d1,d2,d3,d4,d5⟩:=config_cells HK.out.2.1;obtain ⟨⟨e0,e1,e2,e3⟩,⟨e4,e5,e6,e7⟩,e8,e9,e10,e11⟩:=bk_cells HK.out.2.2;simp only at d0 d1 d2 d3 d4 d5 e0 e1 e2 e3 e4 e5 e6 e7 e8 e9 e10 e11
 by_cases h5:q + 1 < (m3:Int)
 · obtain rfl:res=false:=No.out fun h=>by have h3:(outs.length:Int)≤q + 1:=h.1; have:=Hm3.out; omega
   go_wp2_with fail
   go_ret
   exact ⟨by rfl,HK.out.1⟩
 have Hsm:Hid ((outs.length:Int)≤q + 1):=by show _≤_; have:=Hm3.out; omega
 go_wp2_with fail
 clear d0 d1 d2 d3 d4 d5 e0 e1 e2 e3 e4 e5 e6 e7 e8 e9 e10 e11;clear h5
 go_loopw [19] (fun s19 wr=>∃ k:Nat,k≤m3∧s19=.int .i64 k∧Hid (∀ i,i < k→outB ⟨n,q,r,pp,kk,cc⟩ who clk (rqAt outs i)=true)∧Hid (KeptBk w w.heap.size ⟨n,q,r,pp,kk,cc⟩ ⟨clk,rows,line,outs,asks,notes,⟨tr,ph,told,use,inc,moved⟩⟩ ⟨a1,m1,c1,a2,m2,c2,a3,m3,c3,a4,m4,c4,⟨a5,m5,c5,a6,m6,c6,a7,m7,c7⟩⟩ wr)) (fun s19 _=>m3 - (intOf s19).toNat)
 case atStart=>exact ⟨0,Nat.zero_le _,rfl,fun z hz=>absurd hz (Nat.not_lt_zero _),HK.out⟩
 case round =>
  clear HK;obtain ⟨j,hj,rfl,Ho,HKr⟩:=hrel;obtain ⟨d0,d1,d2,d3,d4,d5⟩:=config_cells HKr.out.2.1;obtain ⟨⟨e0,e1,e2,e3⟩,⟨e4,e5,e6,e7⟩,e8,e9,e10,e11⟩:=bk_cells HKr.out.2.2;simp only at d0 d1 d2 d3 d4 d5 e0 e1 e2 e3 e4 e5 e6 e7 e8 e9 e10 e11
  by_cases hlt:j < m3
  · obtain ⟨b,off,rfl,g0,g1,g2⟩:=(HB3.out.later HKr.out.1).at (i:=j) (by have:=Hm3.out; omega)
    obtain ⟨y,Hy⟩:∃ z,Hid (rqAt outs j=z):=⟨_,rfl⟩;rw [Hy.out] at g0 g1 g2;obtain ⟨yt,ya,ym⟩:=y;simp only at g0 g1 g2;have k0:(0:Int)≤(j:Int):=by omega
    have k1:(j:Int) < (m3:Int):=by omega
    have hbl:b < wr.heap.size:=World.block_lt_of_cell? wr _ g0;have hz2:w.heap.size + 1 < wr.heap.size:=HKr.out.2.2.lt;obtain ⟨v,Hv⟩:∃ z,Hid (mayB yt ya n=z):=⟨_,rfl⟩;obtain ⟨ov,Hov⟩:∃ z,Hid (outB ⟨n,q,r,pp,kk,cc⟩ who clk ⟨yt,ya,ym⟩=z):=⟨_,rfl⟩;have hov:ov=(v && (decide (ya=who∧yt≤clk) && decide (ym=0∨ym=7))):=by rw [← Hov.out,← Hv.out]; rfl
    have Hov2:=qH hov;clear hov
    have Hfalse:Hid (ov=false→res=false):=fun h0=>No.out fun h=>by
     have h9:=h.2 j (by have:=Hm3.out; show j < outs.length; omega)
     have h8:outB ⟨n,q,r,pp,kk,cc⟩ who clk (rqAt outs j)=true:=h9;rw [Hy.out,Hov.out,h0] at h8
     cases h8
    have Hnext:Hid (ov=true→∀ i,i < j + 1→outB ⟨n,q,r,pp,kk,cc⟩ who clk (rqAt outs i)=true):=fun h0 i hi=>by
     by_cases e:i=j
     · subst e; rw [Hy.out,Hov.out,h0]
     · exact Ho.out i (by omega)
    have hb9:=below_box wr (.cells #[.int .i64 yt,.int .i64 ya,.int .i64 ym] 85);have HK9:=qH (HKr.out.later hb9);have HX9:=qH (Whole.made wr 85 #[.int .i64 yt,.int .i64 ya,.int .i64 ym]);clear hb9;have u0:=HX9.out.cell 0; have u1:=HX9.out.cell 1; have u2:=HX9.out.cell 2;have x4:=HK9.out.2.1.cell 0;simp only [cfCells] at x4
    go_wp2_with fail
    refine (stampmay_calls yt ya n _).mono ?_;rw [Hv.out];rintro e w2 ⟨rfl,hb⟩;have HK2:=qH (HK9.out.later hb);have HX2:=qH (HX9.out.later hb HX9.out.lt);clear hb u0 u1 u2 x4 d0 d1 d2 d3 d4 d5 e0 e1 e2 e3 e4 e5 e6 e7 e8 e9 e10 e11 g0 g1 g2;obtain ⟨d0,d1,d2,d3,d4,d5⟩:=config_cells HK2.out.2.1;obtain ⟨⟨e0,e1,e2,e3⟩,⟨e4,e5,e6,e7⟩,e8,e9,e10,e11⟩:=bk_cells HK2.out.2.2;simp only at d0 d1 d2 d3 d4 d5 e0 e1 e2 e3 e4 e5 e6 e7 e8 e9 e10 e11
    have u0:=HX2.out.cell 0; have u1:=HX2.out.cell 1; have u2:=HX2.out.cell 2
    cases v with
    | false =>
      obtain rfl:res=false:=Hfalse.out (by rw [Hov2.out]; rfl)
      go_wp2_with fail
      go_ret
      exact ⟨by rfl,HK2.out.1⟩
    | true =>
      by_cases ha:ya=who
      rotate_left 1
      · obtain rfl:res=false:=Hfalse.out (by rw [Hov2.out]; simp [ha])
        have ha':(ya != who)=true:=bne_iff_ne.2 ha;clear ha
        go_wp2_with fail
        go_ret
        exact ⟨by rfl,HK2.out.1⟩
      subst ha
      by_cases ht:clk < yt
      · obtain rfl:res=false:=Hfalse.out (by rw [Hov2.out]; simp [show ¬ yt≤clk by omega])
        go_wp2_with fail
        go_ret
        exact ⟨by rfl,HK2.out.1⟩
      have hyt:yt≤clk:=by omega
      by_cases hm0:ym=0
      · subst hm0
        have HN:=qH (Hnext.out (by rw [Hov2.out]; simp [hyt]))
        go_wp2_with fail
        go_roundw
        case rel=>exact ⟨j + 1,by omega,by go_num,HN.out,HK2.out⟩
        case measure=>simp [intOf]; omega
      have hm0':(ym != 0)=true:=bne_iff_ne.2 hm0
      by_cases hm7:ym=7
      · subst hm7
        have HN:=qH (Hnext.out (by rw [Hov2.out]; simp [hyt]))
        clear hm0
        go_wp2_with fail
        go_roundw
        case rel=>exact ⟨j + 1,by omega,by go_num,HN.out,HK2.out⟩
        case measure=>simp [intOf]; omega
      · obtain rfl:res=false:=Hfalse.out (by rw [Hov2.out]; simp [hm0,hm7])
        have hm7':(ym != 7)=true:=bne_iff_ne.2 hm7;clear hm0 hm7
        go_wp2_with fail
        go_ret
        exact ⟨by rfl,HK2.out.1⟩
  · obtain rfl:m3=j:=by omega
    obtain rfl:res=true:=Hres.out.symm.trans (decide_eq_true ⟨Hsm.out,fun i hi=>Ho.out i (by have:=Hm3.out; show i < m3; have h9:i < outs.length:=hi; omega)⟩)
    go_wp2_with fail
    go_ret
    exact ⟨by rfl,HKr.out.1⟩
set_option maxRecDepth 100000 in
set_option maxHeartbeats 16000000 in
theorem kMay_calls (c:Cf) (who:Int) (x:Bk) (p:Bl) (w:World) (hK:BkIn w p x) :
 Calls Tryz.prog 47 #[cfV c,.int .i64 who,bkAt x p] w (Says w (bookB c who x)):=by
 have hKK:=qH hK
 have HK:Hid (KeptBk w w.heap.size c x p ((w.alloc (.cells (cfCells c) 23)).alloc (.cells (bkAtC x p) 35))) :=
  ⟨below_two w _ _,(Whole.made w _ _).alloc _,Whole.made2 w _ _ _⟩
 obtain ⟨⟨hm1,hB1⟩,⟨hm2,hB2⟩,⟨hm3,hB3⟩,⟨hm4,hB4⟩,hA⟩:=hK;have b2:p.m2≤9223372036854775807:=by rw [hm2]; exact hB2.1
 have b3:p.m3≤9223372036854775807:=by rw [hm3]; exact hB3.1
 have b4:p.m4≤9223372036854775807:=by rw [hm4]; exact hB4.1
 have ba:p.al.m1≤9223372036854775807∧p.al.m2≤9223372036854775807∧p.al.m3≤9223372036854775807:=⟨by rw [hA.1.1]; exact hA.1.2.1,by rw [hA.2.1.1]; exact hA.2.1.2.1,by rw [hA.2.2.1]; exact hA.2.2.2.1⟩
 obtain ⟨n,q,r,pp,kk,cc⟩:=c;obtain ⟨clk,rows,line,outs,asks,notes,⟨tr,ph,told,use,inc,moved⟩⟩:=x;obtain ⟨a1,m1,c1,a2,m2,c2,a3,m3,c3,a4,m4,c4,⟨a5,m5,c5,a6,m6,c6,a7,m7,c7⟩⟩:=p;simp only at hm1 hB1 hm2 hB2 hm3 hB3 hm4 hB4 b2 b3 b4 ba;have HB1:=qH hB1; clear hB1;have HB2:=qH hB2; clear hB2;have HB3:=qH hB3; clear hB3;have HB4:=qH hB4; clear hB4;have HA:=qH hA; clear hA;have HBa:=qH ba; clear ba;have Hm1:=qH hm1; clear hm1
 have Hm2:=qH hm2; clear hm2;have Hm3:=qH hm3; clear hm3;have Hm4:=qH hm4; clear hm4;obtain ⟨res,Hres⟩:∃ z,Hid (bookB ⟨n,q,r,pp,kk,cc⟩ who ⟨clk,rows,line,outs,asks,notes,⟨tr,ph,told,use,inc,moved⟩⟩=z):=⟨_,rfl⟩;have no:¬ bookOk ⟨n,q,r,pp,kk,cc⟩ who ⟨clk,rows,line,outs,asks,notes,⟨tr,ph,told,use,inc,moved⟩⟩→res=false:=fun h=>Hres.out.symm.trans (decide_eq_false h)
 have No:=qH no; clear no;rw [Hres.out];obtain ⟨rv,Hrv⟩:∃ z,Hid (rightB ⟨n,q,r,pp,kk,cc⟩ rows=z):=⟨_,rfl⟩;obtain ⟨nv,Hnv⟩:∃ z,Hid (notesB ⟨n,q,r,pp,kk,cc⟩ who notes=z):=⟨_,rfl⟩;obtain ⟨av,Hav⟩:∃ z,Hid (auB ⟨n,q,r,pp,kk,cc⟩ who ⟨tr,ph,told,use,inc,moved⟩=z):=⟨_,rfl⟩;obtain ⟨wv,Hwv⟩:∃ z,Hid (decide (waitOk ⟨n,q,r,pp,kk,cc⟩ who ⟨clk,rows,line,outs,asks,notes,⟨tr,ph,told,use,inc,moved⟩⟩)=z):=⟨_,rfl⟩;obtain ⟨tv,Htv⟩:∃ z,Hid (decide (tellOk ⟨n,q,r,pp,kk,cc⟩ who ⟨clk,rows,line,outs,asks,notes,⟨tr,ph,told,use,inc,moved⟩⟩)=z):=⟨_,rfl⟩
 have HV:Hid (cfOk ⟨n,q,r,pp,kk,cc⟩→∀ W,Below w.heap.size w W→Calls Tryz.prog 98 #[cfV ⟨n,q,r,pp,kk,cc⟩,.int .i64 who,bkAt ⟨clk,rows,line,outs,asks,notes,⟨tr,ph,told,use,inc,moved⟩⟩ ⟨a1,m1,c1,a2,m2,c2,a3,m3,c3,a4,m4,c4,⟨a5,m5,c5,a6,m6,c6,a7,m7,c7⟩⟩] W (Says W tv)):=fun hc W h=>by
  have h1:=kmayTell_calls ⟨n,q,r,pp,kk,cc⟩ hc who ⟨clk,rows,line,outs,asks,notes,⟨tr,ph,told,use,inc,moved⟩⟩ ⟨a1,m1,c1,a2,m2,c2,a3,m3,c3,a4,m4,c4,⟨a5,m5,c5,a6,m6,c6,a7,m7,c7⟩⟩ W (hKK.out.later h);rw [Htv.out] at h1
  exact h1
 have HU:Hid (∀ W,Below w.heap.size w W→Calls Tryz.prog 97 #[cfV ⟨n,q,r,pp,kk,cc⟩,.int .i64 who,bkAt ⟨clk,rows,line,outs,asks,notes,⟨tr,ph,told,use,inc,moved⟩⟩ ⟨a1,m1,c1,a2,m2,c2,a3,m3,c3,a4,m4,c4,⟨a5,m5,c5,a6,m6,c6,a7,m7,c7⟩⟩] W (Says W wv)):=fun W h=>by
  have h1:=kmayWait_calls ⟨n,q,r,pp,kk,cc⟩ who ⟨clk,rows,line,outs,asks,notes,⟨tr,ph,told,use,inc,moved⟩⟩ ⟨a1,m1,c1,a2,m2,c2,a3,m3,c3,a4,m4,c4,⟨a5,m5,c5,a6,m6,c6,a7,m7,c7⟩⟩ W (hKK.out.later h);rw [Hwv.out] at h1
  exact h1
 go_enter Tryz.func47,Tryz.ntmps47
 obtain ⟨d0,d1,d2,d3,d4,d5⟩:=config_cells HK.out.2.1;obtain ⟨⟨e0,e1,e2,e3⟩,⟨e4,e5,e6,e7⟩,e8,e9,e10,e11⟩:=bk_cells HK.out.2.2;simp only at d0 d1 d2 d3 d4 d5 e0 e1 e2 e3 e4 e5 e6 e7 e8 e9 e10 e11
 by_cases h1:clk < 0
 · obtain rfl:res=false:=No.out fun h=>by have h3:0≤clk:=h.2.2.1.1; omega
   go_wp2_with fail
   go_ret
   exact ⟨by rfl,HK.out.1⟩
 by_cases h2:1125899906842624 < clk
 · obtain rfl:res=false:=No.out fun h=>by have h3:clk≤1125899906842624:=h.2.2.1.2; omega
   go_wp2_with fail
   go_ret
   exact ⟨by rfl,HK.out.1⟩
 have Hclk:Hid (0≤clk∧clk≤1125899906842624):=⟨by omega,by omega⟩
 go_wp2_with fail
 refine (rRight_calls ⟨n,q,r,pp,kk,cc⟩ a1 m1 c1 rows Hm1.out _ (HB1.out.later HK.out.1)).mono ?_;rintro e w1 ⟨rfl,hb⟩;rw [Hrv.out];have HK1:=qH (HK.out.later hb);clear hb HK d0 d1 d2 d3 d4 d5 e0 e1 e2 e3 e4 e5 e6 e7 e8 e9 e10 e11;obtain ⟨d0,d1,d2,d3,d4,d5⟩:=config_cells HK1.out.2.1;obtain ⟨⟨e0,e1,e2,e3⟩,⟨e4,e5,e6,e7⟩,e8,e9,e10,e11⟩:=bk_cells HK1.out.2.2;simp only at d0 d1 d2 d3 d4 d5 e0 e1 e2 e3 e4 e5 e6 e7 e8 e9 e10 e11
 cases rv with
 | false =>
   obtain rfl:res=false:=No.out fun h=>by
    have:rightB ⟨n,q,r,pp,kk,cc⟩ rows=true:=decide_eq_true h.1;rw [Hrv.out] at this
    cases this
   go_wp2_with fail
   go_ret
   exact ⟨by rfl,HK1.out.1⟩
 | true =>
 have hro:=rightB_ok Hrv.out;have Hro:=qH hro;clear hro h1 h2
 go_wp2_with fail
 refine (cMay_wide ⟨n,q,r,pp,kk,cc⟩ who a4 m4 c4 notes Hm4.out b4 _ (HB4.out.later HK1.out.1)).mono ?_;rintro e w2 ⟨rfl,hb⟩;rw [Hnv.out];have HK2:=qH (HK1.out.later hb);clear hb d0 d1 d2 d3 d4 d5 e0 e1 e2 e3 e4 e5 e6 e7 e8 e9 e10 e11;obtain ⟨d0,d1,d2,d3,d4,d5⟩:=config_cells HK2.out.2.1;obtain ⟨⟨e0,e1,e2,e3⟩,⟨e4,e5,e6,e7⟩,e8,e9,e10,e11⟩:=bk_cells HK2.out.2.2;simp only at d0 d1 d2 d3 d4 d5 e0 e1 e2 e3 e4 e5 e6 e7 e8 e9 e10 e11
 cases nv with
 | false =>
   obtain rfl:res=false:=No.out fun h=>by
    have:notesB ⟨n,q,r,pp,kk,cc⟩ who notes=true:=decide_eq_true h.2.2.2.2.2.2.2.2.1;rw [Hnv.out] at this
    cases this
   go_wp2_with fail
   go_ret
   exact ⟨by rfl,HK2.out.1⟩
 | true =>
 have hno:notesOk ⟨n,q,r,pp,kk,cc⟩ who notes:=of_decide_eq_true Hnv.out;have Hno:=qH hno;clear hno
 go_wp2_with fail
 refine (aMay_calls ⟨n,q,r,pp,kk,cc⟩ who ⟨tr,ph,told,use,inc,moved⟩ ⟨a5,m5,c5,a6,m6,c6,a7,m7,c7⟩ _ (HA.out.later HK2.out.1)).mono ?_;rintro e w3 ⟨rfl,hb⟩;rw [Hav.out];have HK3:=qH (HK2.out.later hb);clear hb d0 d1 d2 d3 d4 d5 e0 e1 e2 e3 e4 e5 e6 e7 e8 e9 e10 e11;obtain ⟨d0,d1,d2,d3,d4,d5⟩:=config_cells HK3.out.2.1;obtain ⟨⟨e0,e1,e2,e3⟩,⟨e4,e5,e6,e7⟩,e8,e9,e10,e11⟩:=bk_cells HK3.out.2.2;simp only at d0 d1 d2 d3 d4 d5 e0 e1 e2 e3 e4 e5 e6 e7 e8 e9 e10 e11
 cases av with
 | false =>
   obtain rfl:res=false:=No.out fun h=>by
    have:auB ⟨n,q,r,pp,kk,cc⟩ who ⟨tr,ph,told,use,inc,moved⟩=true:=decide_eq_true h.2.2.2.2.2.2.2.2.2;rw [Hav.out] at this
    cases this
   go_wp2_with fail
   go_ret
   exact ⟨by rfl,HK3.out.1⟩
 | true =>
 have hau:auOk ⟨n,q,r,pp,kk,cc⟩ who ⟨tr,ph,told,use,inc,moved⟩:=of_decide_eq_true Hav.out;have Hau:=qH hau;clear hau
 go_wp2_with fail
 refine (HU.out _ HK3.out.1).mono ?_;rintro e w4 ⟨rfl,hb⟩;have HK4:=qH (HK3.out.later hb);clear hb d0 d1 d2 d3 d4 d5 e0 e1 e2 e3 e4 e5 e6 e7 e8 e9 e10 e11;obtain ⟨d0,d1,d2,d3,d4,d5⟩:=config_cells HK4.out.2.1;obtain ⟨⟨e0,e1,e2,e3⟩,⟨e4,e5,e6,e7⟩,e8,e9,e10,e11⟩:=bk_cells HK4.out.2.2;simp only at d0 d1 d2 d3 d4 d5 e0 e1 e2 e3 e4 e5 e6 e7 e8 e9 e10 e11
 cases wv with
 | false =>
   obtain rfl:res=false:=No.out fun h=>by
    have:decide (waitOk ⟨n,q,r,pp,kk,cc⟩ who ⟨clk,rows,line,outs,asks,notes,⟨tr,ph,told,use,inc,moved⟩⟩)=true:=decide_eq_true ⟨h.2.2.2.1,h.2.2.2.2.1.2,h.2.2.2.2.2.1,h.2.2.2.2.2.2.2.1⟩;rw [Hwv.out] at this
    cases this
   go_wp2_with fail
   go_ret
   exact ⟨by rfl,HK4.out.1⟩
 | true =>
 have hwa:waitOk ⟨n,q,r,pp,kk,cc⟩ who ⟨clk,rows,line,outs,asks,notes,⟨tr,ph,told,use,inc,moved⟩⟩:=of_decide_eq_true Hwv.out;have Hwa:=qH hwa;clear hwa
 go_wp2_with fail
 refine (HV.out Hro.out.1 _ HK4.out.1).mono ?_;rintro e w5 ⟨rfl,hb⟩;have HK5:=qH (HK4.out.later hb);clear hb
 have hrt:res=tv:=by
  rw [← Hres.out,← Htv.out]
  exact decide_eq_decide.2 ⟨fun h=>⟨h.2.2.2.2.1.1,h.2.2.2.2.2.2.1⟩,fun h=>⟨Hro.out,Hau.out.2.1,Hclk.out,Hwa.out.1,⟨h.1,Hwa.out.2.1⟩,Hwa.out.2.2.1,h.2,Hwa.out.2.2.2,Hno.out,Hau.out⟩⟩
 subst hrt
 go_wp2_with fail
 go_ret
 exact ⟨by rfl,HK5.out.1⟩
end Go.Proofs.YtecjnkokdnmhlaaGreat
