/- Parts, as far as NodeAtOnceCards reaches them, of: RefBookMay, RefNodeMay, RefRightsShort, RefBookShort, RefNodeShort, StampBest, StampOwn. No law is proved here. -/
import Derived.Test.YtecjnkokdnmhlaaGreatTa38
import Derived.Test.YtecjnkokdnmhlaaGreatTa39
import Derived.Test.YtecjnkokdnmhlaaGreatTa40
namespace Go.Proofs.YtecjnkokdnmhlaaGreat
open Go.RowKit
def KeptK (w:World) (g:Nat) (c:Cf) (x:Bk) (p:Bl) (wx:World):Prop:=Below w.heap.size w wx∧Whole wx g 23 (cfCells c)∧Whole wx (g + 1) 35 (bkAtC x p)
theorem KeptK.later {w:World} {g:Nat} {c:Cf} {x:Bk} {p:Bl} {wx wy:World} (h:KeptK w g c x p wx) (hb:Below wx.heap.size wx wy):KeptK w g c x p wy:=⟨held_next h.1 hb,h.2.1.later hb h.2.1.lt,h.2.2.later hb h.2.2.lt⟩
theorem bookB_no {c:Cf} {who:Int} {x:Bk} (h:¬ bookOk c who x):bookB c who x=false:=decide_eq_false h
set_option maxRecDepth 100000 in
set_option maxHeartbeats 16000000 in
theorem refkmay_calls (c:Cf) (who:Int) (x:Bk) (p:Bl) (w:World) (hK:BkIn w p x) :
 Calls Tryz.prog 31 #[cfV c,.int .i64 who,bkAt x p] w (Says w (bookB c who x)):=by
 have HK:Hid (KeptK w w.heap.size c x p ((w.alloc (.cells (cfCells c) 23)).alloc (.cells (bkAtC x p) 35))) :=
  ⟨below_two w _ _,(Whole.made w _ _).alloc _,Whole.made2 w _ _ _⟩
 obtain ⟨⟨hm1,hB1⟩,⟨hm2,hB2⟩,⟨hm3,hB3⟩,⟨hm4,hB4⟩,hA⟩:=hK;have b2:p.m2≤9223372036854775807:=by rw [hm2]; exact hB2.1
 have b3:p.m3≤9223372036854775807:=by rw [hm3]; exact hB3.1
 have ba:p.al.m1≤9223372036854775807∧p.al.m2≤9223372036854775807∧p.al.m3≤9223372036854775807:=⟨by rw [hA.1.1]; exact hA.1.2.1,by rw [hA.2.1.1]; exact hA.2.1.2.1,by rw [hA.2.2.1]; exact hA.2.2.2.1⟩
 obtain ⟨n,q,r,pp,kk,cc⟩:=c;obtain ⟨clk,rows,line,outs,asks,notes,⟨tr,ph,told,use,inc,moved⟩⟩:=x;obtain ⟨a1,m1,c1,a2,m2,c2,a3,m3,c3,a4,m4,c4,⟨a5,m5,c5,a6,m6,c6,a7,m7,c7⟩⟩:=p;simp only at hm1 hB1 hm2 hB2 hm3 hB3 hm4 hB4 b2 b3 ba;have HB1:=qH hB1; clear hB1;have HB2:=qH hB2; clear hB2;have HB3:=qH hB3; clear hB3;have HB4:=qH hB4; clear hB4;have HA:=qH hA; clear hA;have HBa:=qH ba; clear ba;have Hm1:=qH hm1; clear hm1
 have Hm2:=qH hm2; clear hm2;have Hm3:=qH hm3; clear hm3;have Hm4:=qH hm4; clear hm4;obtain ⟨res,Hres⟩:∃ z,Hid (bookB ⟨n,q,r,pp,kk,cc⟩ who ⟨clk,rows,line,outs,asks,notes,⟨tr,ph,told,use,inc,moved⟩⟩=z):=⟨_,rfl⟩;have no:¬ bookOk ⟨n,q,r,pp,kk,cc⟩ who ⟨clk,rows,line,outs,asks,notes,⟨tr,ph,told,use,inc,moved⟩⟩→res=false:=fun h=>Hres.out.symm.trans (bookB_no h)
 have No:=qH no; clear no;rw [Hres.out];obtain ⟨ok,Hok⟩:∃ z,Hid (rightB ⟨n,q,r,pp,kk,cc⟩ rows=z):=⟨_,rfl⟩;obtain ⟨lv,Hlv⟩:∃ z,Hid (lineB ⟨n,q,r,pp,kk,cc⟩ who line=z):=⟨_,rfl⟩
 go_enter Tryz.func31,Tryz.ntmps31
 go_wp2_with fail
 refine (refright_calls ⟨n,q,r,pp,kk,cc⟩ a1 m1 c1 rows Hm1.out _ (HB1.out.later HK.out.1)).mono ?_;rintro e w1 ⟨rfl,hb⟩;rw [Hok.out];have HK1:=qH (HK.out.later hb);clear hb HK;obtain ⟨d0,d1,d2,d3,d4,d5⟩:=config_cells HK1.out.2.1;obtain ⟨⟨e0,e1,e2,e3⟩,⟨e4,e5,e6,e7⟩,e8,e9,e10,e11⟩:=bk_cells HK1.out.2.2;simp only at d0 d1 d2 d3 d4 d5 e0 e1 e2 e3 e4 e5 e6 e7 e8 e9 e10 e11
 cases ok with
 | false =>
   obtain rfl:res=false:=No.out fun h=>by
    have:rightB ⟨n,q,r,pp,kk,cc⟩ rows=true:=decide_eq_true h.1;rw [Hok.out] at this
    cases this
   go_wp2_with fail
   go_ret
   exact ⟨by rfl,HK1.out.1⟩
 | true =>
 have Hro:=qH (rightB_ok Hok.out)
 by_cases h1:who < 0
 · obtain rfl:res=false:=No.out fun h=>by have h3:0≤who:=h.2.1.1; omega
   go_wp2_with fail
   go_ret
   exact ⟨by rfl,HK1.out.1⟩
 by_cases h2:n≤who
 · obtain rfl:res=false:=No.out fun h=>by have h3:who < n:=h.2.1.2; omega
   go_wp2_with fail
   go_ret
   exact ⟨by rfl,HK1.out.1⟩
 by_cases h3:clk < 0
 · obtain rfl:res=false:=No.out fun h=>by have h3:0≤clk:=h.2.2.1.1; omega
   go_wp2_with fail
   go_ret
   exact ⟨by rfl,HK1.out.1⟩
 by_cases h4:1125899906842624 < clk
 · obtain rfl:res=false:=No.out fun h=>by have h3:clk≤1125899906842624:=h.2.2.1.2; omega
   go_wp2_with fail
   go_ret
   exact ⟨by rfl,HK1.out.1⟩
 have hq:q≤1000000∧0≤q:=by have h:=Hro.out.1; unfold cfOk at h; simp only at h; omega
 obtain ⟨hq1,hq2⟩:=hq
 go_wp2_with fail
 refine (reflinemay_calls ⟨n,q,r,pp,kk,cc⟩ who a2 m2 c2 line Hm2.out _ (HB2.out.later HK1.out.1)).mono ?_;rintro e w2 ⟨rfl,hb⟩;rw [Hlv.out];have HK2:=qH (HK1.out.later hb);clear hb d0 d1 d2 d3 d4 d5 e0 e1 e2 e3 e4 e5 e6 e7 e8 e9 e10 e11;obtain ⟨d0,d1,d2,d3,d4,d5⟩:=config_cells HK2.out.2.1;obtain ⟨⟨e0,e1,e2,e3⟩,⟨e4,e5,e6,e7⟩,e8,e9,e10,e11⟩:=bk_cells HK2.out.2.2;simp only at d0 d1 d2 d3 d4 d5 e0 e1 e2 e3 e4 e5 e6 e7 e8 e9 e10 e11
 cases lv with
 | false =>
   obtain rfl:res=false:=No.out fun h=>by
    have:lineB ⟨n,q,r,pp,kk,cc⟩ who line=true:=decide_eq_true h.2.2.2.1;rw [Hlv.out] at this
    cases this
   go_wp2_with fail
   go_ret
   exact ⟨by rfl,HK2.out.1⟩
 | true =>
 by_cases h5:q + 1 < (m3:Int)
 · obtain rfl:res=false:=No.out fun h=>by have h3:(outs.length:Int)≤q + 1:=h.2.2.2.2.1.1; have:=Hm3.out; omega
   go_wp2_with fail
   go_ret
   exact ⟨by rfl,HK2.out.1⟩
 by_cases h6:asks < 0
 · obtain rfl:res=false:=No.out fun h=>by have h3:0≤asks:=h.2.2.2.2.1.2.1; omega
   go_wp2_with fail
   go_ret
   exact ⟨by rfl,HK2.out.1⟩
 by_cases h7:r < asks
 · obtain rfl:res=false:=No.out fun h=>by have h3:asks≤r:=h.2.2.2.2.1.2.2; omega
   go_wp2_with fail
   go_ret
   exact ⟨by rfl,HK2.out.1⟩
 have Hsm:Hid ((0≤who∧who < n)∧(0≤clk∧clk≤1125899906842624)∧(m3:Int)≤q + 1∧0≤asks∧asks≤r):=⟨by omega,by omega,by omega,by omega,by omega⟩
 have hc1:clk≤1125899906842624:=by omega
 have hc0:0≤clk:=by omega
 have hk0:0≤asks:=by omega
 go_wp2_with fail
 clear d0 d1 d2 d3 d4 d5 e0 e1 e2 e3 e4 e5 e6 e7 e8 e9 e10 e11 h1 h2 h3 h4 h5 h6 h7
 go_loopw [7] (fun s7 wr=>∃ k:Nat,k≤m2∧s7=.int .i64 k∧Hid (∀ i,i < k→(rqAt line i).t≤clk)∧Hid (KeptK w w.heap.size ⟨n,q,r,pp,kk,cc⟩ ⟨clk,rows,line,outs,asks,notes,⟨tr,ph,told,use,inc,moved⟩⟩ ⟨a1,m1,c1,a2,m2,c2,a3,m3,c3,a4,m4,c4,⟨a5,m5,c5,a6,m6,c6,a7,m7,c7⟩⟩ wr)) (fun s7 _=>m2 - (intOf s7).toNat)
 case atStart=>exact ⟨0,Nat.zero_le _,rfl,fun z hz=>absurd hz (Nat.not_lt_zero _),HK2.out⟩
 case round =>
  obtain ⟨k,hk,rfl,Hl,HKr⟩:=hrel;obtain ⟨d0,d1,d2,d3,d4,d5⟩:=config_cells HKr.out.2.1;obtain ⟨⟨e0,e1,e2,e3⟩,⟨e4,e5,e6,e7⟩,e8,e9,e10,e11⟩:=bk_cells HKr.out.2.2;simp only at d0 d1 d2 d3 d4 d5 e0 e1 e2 e3 e4 e5 e6 e7 e8 e9 e10 e11
  by_cases hlt:k < m2
  · obtain ⟨b,off,rfl,g0,g1,g2⟩:=(HB2.out.later HKr.out.1).at (i:=k) (by have:=Hm2.out; omega)
    obtain ⟨y,Hy⟩:∃ z,Hid (rqAt line k=z):=⟨_,rfl⟩;rw [Hy.out] at g0 g1 g2;obtain ⟨yt,ya,ym⟩:=y;simp only at g0 g1 g2;have k0:(0:Int)≤(k:Int):=by omega
    have k1:(k:Int) < (m2:Int):=by omega
    by_cases ht:clk < yt
    · obtain rfl:res=false:=No.out fun h=>by
       have h9:=h.2.2.2.2.2.1 k (by have:=Hm2.out; show k < line.length; omega)
       rw [Hy.out] at h9;have h8:yt≤clk:=h9
       omega
      go_wp2_with fail
      go_quiet (fail)
      go_wp2_with fail
      go_ret
      exact ⟨by rfl,below_drewN HKr.out.1 _⟩
    · go_wp2_with fail
      go_quiet (fail)
      go_wp2_with fail
      go_roundw
      case rel=>exact ⟨k + 1,by omega,by go_num,(fun z hz=>by
       by_cases e:z=k
       · subst e; rw [Hy.out]; show yt≤clk; omega
       · exact Hl.out z (by omega)),HKr.out.later (below_drewN (Below.refl _ _) _)⟩
      case measure=>simp [intOf]; omega
  · obtain rfl:m2=k:=by omega
    have Hll:Hid (∀ i,i < line.length→(rqAt line i).t≤clk):=fun i hi=>Hl.out i (by have:=Hm2.out; omega)
    clear Hl
    go_wp2_with fail
    clear d0 d1 d2 d3 d4 d5 e0 e1 e2 e3 e4 e5 e6 e7 e8 e9 e10 e11
    go_loopw [8] (fun s8 wr=>∃ k:Nat,k≤m3∧s8=.int .i64 k∧Hid (∀ i,i < k→outB ⟨n,q,r,pp,kk,cc⟩ who clk (rqAt outs i)=true)∧Hid (KeptK w w.heap.size ⟨n,q,r,pp,kk,cc⟩ ⟨clk,rows,line,outs,asks,notes,⟨tr,ph,told,use,inc,moved⟩⟩ ⟨a1,m1,c1,a2,m2,c2,a3,m3,c3,a4,m4,c4,⟨a5,m5,c5,a6,m6,c6,a7,m7,c7⟩⟩ wr)) (fun s8 _=>m3 - (intOf s8).toNat)
    case atStart=>exact ⟨0,Nat.zero_le _,rfl,fun z hz=>absurd hz (Nat.not_lt_zero _),HKr.out⟩
    case round =>
     clear HKr;obtain ⟨j,hj,rfl,Ho,HKr⟩:=hrel;obtain ⟨d0,d1,d2,d3,d4,d5⟩:=config_cells HKr.out.2.1;obtain ⟨⟨e0,e1,e2,e3⟩,⟨e4,e5,e6,e7⟩,e8,e9,e10,e11⟩:=bk_cells HKr.out.2.2;simp only at d0 d1 d2 d3 d4 d5 e0 e1 e2 e3 e4 e5 e6 e7 e8 e9 e10 e11
     by_cases hlt:j < m3
     · obtain ⟨b,off,rfl,g0,g1,g2⟩:=(HB3.out.later HKr.out.1).at (i:=j) (by have:=Hm3.out; omega)
       obtain ⟨y,Hy⟩:∃ z,Hid (rqAt outs j=z):=⟨_,rfl⟩;rw [Hy.out] at g0 g1 g2;obtain ⟨yt,ya,ym⟩:=y;simp only at g0 g1 g2;have k0:(0:Int)≤(j:Int):=by omega
       have k1:(j:Int) < (m3:Int):=by omega
       obtain ⟨v,Hv⟩:∃ z,Hid (mayB yt ya n=z):=⟨_,rfl⟩;obtain ⟨ov,Hov⟩:∃ z,Hid (outB ⟨n,q,r,pp,kk,cc⟩ who clk ⟨yt,ya,ym⟩=z):=⟨_,rfl⟩;have hov:ov=(v && (decide (ya=who∧yt≤clk) && decide (ym=0∨ym=7))):=by rw [← Hov.out,← Hv.out]; rfl
       have Hov2:=qH hov;clear hov
       have Hfalse:Hid (ov=false→res=false):=fun h0=>No.out fun h=>by
        have h9:=h.2.2.2.2.2.2.1 j (by have:=Hm3.out; show j < outs.length; omega)
        have h8:outB ⟨n,q,r,pp,kk,cc⟩ who clk (rqAt outs j)=true:=h9;rw [Hy.out,Hov.out,h0] at h8
        cases h8
       have Hnext:Hid (ov=true→∀ i,i < j + 1→outB ⟨n,q,r,pp,kk,cc⟩ who clk (rqAt outs i)=true):=fun h0 i hi=>by
        by_cases e:i=j
        · subst e; rw [Hy.out,Hov.out]; exact h0
        · exact Ho.out i (by omega)
       have HKb:=qH (HKr.out.later (below_box _ (.cells #[.int .i64 yt,.int .i64 ya,.int .i64 ym] 85)));have HO:=qH (Whole.made wr 85 #[.int .i64 yt,.int .i64 ya,.int .i64 ym]);obtain ⟨d0,d1,d2,d3,d4,d5⟩:=config_cells HKb.out.2.1;obtain ⟨⟨e0,e1,e2,e3⟩,⟨e4,e5,e6,e7⟩,e8,e9,e10,e11⟩:=bk_cells HKb.out.2.2;simp only at d0 d1 d2 d3 d4 d5 e0 e1 e2 e3 e4 e5 e6 e7 e8 e9 e10 e11;obtain ⟨o0,o1,o2⟩:_∧_∧_:=⟨HO.out.cell 0,HO.out.cell 1,HO.out.cell 2⟩
       go_wp2_with fail
       refine (refstampmay_calls yt ya n _).mono ?_;rintro e w4 ⟨rfl,hb⟩;rw [Hv.out];have HK4:=qH (HKb.out.later hb)
       replace o0:=cell_later hb o0
       replace o1:=cell_later hb o1
       replace o2:=cell_later hb o2
       clear hb d0 d1 d2 d3 d4 d5 e0 e1 e2 e3 e4 e5 e6 e7 e8 e9 e10 e11;obtain ⟨d0,d1,d2,d3,d4,d5⟩:=config_cells HK4.out.2.1;obtain ⟨⟨e0,e1,e2,e3⟩,⟨e4,e5,e6,e7⟩,e8,e9,e10,e11⟩:=bk_cells HK4.out.2.2;simp only at d0 d1 d2 d3 d4 d5 e0 e1 e2 e3 e4 e5 e6 e7 e8 e9 e10 e11
       cases v with
       | false =>
         obtain rfl:ov=false:=Hov2.out;obtain rfl:res=false:=Hfalse.out rfl
         go_wp2_with fail
         go_ret
         exact ⟨by rfl,HK4.out.1⟩
       | true =>
         by_cases ha:ya=who
         · by_cases ht:yt≤clk
           · by_cases h0:ym=0
             · obtain rfl:ov=true:=Hov2.out.trans (by simp [ha,ht,h0])
               subst ha h0
               go_wp2_with fail
               go_roundw
               case rel=>exact ⟨j + 1,by omega,by go_num,Hnext.out (by trivial),HK4.out⟩
               case measure=>simp [intOf]; omega
             · by_cases h7:ym=7
               · obtain rfl:ov=true:=Hov2.out.trans (by simp [ha,ht,h7])
                 subst ha h7
                 go_wp2_with fail
                 go_roundw
                 case rel=>exact ⟨j + 1,by omega,by go_num,Hnext.out (by trivial),HK4.out⟩
                 case measure=>simp [intOf]; omega
               · obtain rfl:ov=false:=Hov2.out.trans (by simp [ha,ht,h0,h7])
                 obtain rfl:res=false:=Hfalse.out rfl;have n0:(ym != 0)=true:=bne_iff_ne.2 h0;have n7:(ym != 7)=true:=bne_iff_ne.2 h7;subst ha;clear h0 h7
                 go_wp2_with fail
                 go_ret
                 exact ⟨by rfl,HK4.out.1⟩
           · obtain rfl:ov=false:=Hov2.out.trans (by simp [ha,ht])
             obtain rfl:res=false:=Hfalse.out rfl;subst ha
             go_wp2_with fail
             go_ret
             exact ⟨by rfl,HK4.out.1⟩
         · obtain rfl:ov=false:=Hov2.out.trans (by simp [ha])
           obtain rfl:res=false:=Hfalse.out rfl;have na:(ya != who)=true:=bne_iff_ne.2 ha;clear ha
           go_wp2_with fail
           go_ret
           exact ⟨by rfl,HK4.out.1⟩
     · obtain rfl:m3=j:=by omega
       have Hoo:Hid (∀ i,i < outs.length→outB ⟨n,q,r,pp,kk,cc⟩ who clk (rqAt outs i)=true):=fun i hi=>Ho.out i (by have:=Hm3.out; omega)
       clear Ho;obtain ⟨nv,Hnv⟩:∃ z,Hid (notesB ⟨n,q,r,pp,kk,cc⟩ who notes=z):=⟨_,rfl⟩;obtain ⟨av,Hav⟩:∃ z,Hid (auB ⟨n,q,r,pp,kk,cc⟩ who ⟨tr,ph,told,use,inc,moved⟩=z):=⟨_,rfl⟩;obtain ⟨zv,Hzv⟩:∃ z,Hid (noneA ⟨tr,ph,told,use,inc,moved⟩=z):=⟨_,rfl⟩;have hline:lineOk ⟨n,q,r,pp,kk,cc⟩ who line:=of_decide_eq_true Hlv.out;have Hline:=qH hline; clear hline;have hempty:line=[] ↔ m2=0:=by rw [Hm2.out]; simp
       have hres:res=decide ((m2=0→asks=0∧zv=true)∧nv=true∧av=true):=by
        rw [← Hres.out]
        unfold bookB
        congr 1
        rw [← Hnv.out,← Hav.out,← Hzv.out,eq_iff_iff]
        constructor
        · intro h
          exact ⟨fun h0=>⟨(h.2.2.2.2.2.2.2.1 (hempty.2 h0)).1,decide_eq_true (h.2.2.2.2.2.2.2.1 (hempty.2 h0)).2⟩,decide_eq_true h.2.2.2.2.2.2.2.2.1,decide_eq_true h.2.2.2.2.2.2.2.2.2⟩
        · intro h
          exact ⟨Hro.out,Hsm.out.1,Hsm.out.2.1,Hline.out,⟨by show (outs.length:Int)≤q + 1; rw [← Hm3.out]; exact Hsm.out.2.2.1,Hsm.out.2.2.2⟩,Hll.out,Hoo.out,fun h0=>⟨(h.1 (hempty.1 h0)).1,of_decide_eq_true (h.1 (hempty.1 h0)).2⟩,of_decide_eq_true h.2.1,of_decide_eq_true h.2.2⟩
       have HRes:=qH hres;clear hres hempty;obtain ⟨d0,d1,d2,d3,d4,d5⟩:=config_cells HKr.out.2.1;obtain ⟨⟨e0,e1,e2,e3⟩,⟨e4,e5,e6,e7⟩,e8,e9,e10,e11⟩:=bk_cells HKr.out.2.2;simp only at d0 d1 d2 d3 d4 d5 e0 e1 e2 e3 e4 e5 e6 e7 e8 e9 e10 e11
       by_cases hm20:m2=0
       · subst hm20
         by_cases hk:0 < asks
         · obtain rfl:res=false:=by rw [HRes.out]; simp; omega
           go_wp2_with fail
           go_ret
           exact ⟨by rfl,HKr.out.1⟩
         · obtain rfl:asks=0:=by omega
           go_wp2_with fail
           refine (refnone_calls ⟨tr,ph,told,use,inc,moved⟩ ⟨a5,m5,c5,a6,m6,c6,a7,m7,c7⟩ _ HA.out.1.1 HA.out.2.1.1 HA.out.2.2.1 HBa.out).mono ?_;rintro e w4 ⟨rfl,hb⟩;rw [Hzv.out];have HK4:=qH (HKr.out.later hb);clear hb d0 d1 d2 d3 d4 d5 e0 e1 e2 e3 e4 e5 e6 e7 e8 e9 e10 e11;obtain ⟨d0,d1,d2,d3,d4,d5⟩:=config_cells HK4.out.2.1;obtain ⟨⟨e0,e1,e2,e3⟩,⟨e4,e5,e6,e7⟩,e8,e9,e10,e11⟩:=bk_cells HK4.out.2.2
           simp only at d0 d1 d2 d3 d4 d5 e0 e1 e2 e3 e4 e5 e6 e7 e8 e9 e10 e11
           cases zv with
           | false =>
             obtain rfl:res=false:=by rw [HRes.out]; simp
             go_wp2_with fail
             go_ret
             exact ⟨by rfl,HK4.out.1⟩
           | true =>
             go_wp2_with fail
             refine (refclaimmay_calls ⟨n,q,r,pp,kk,cc⟩ who a4 m4 c4 notes Hm4.out _ (HB4.out.later HK4.out.1)).mono ?_;rintro e w5 ⟨rfl,hb⟩;rw [Hnv.out];have HK5:=qH (HK4.out.later hb);clear hb d0 d1 d2 d3 d4 d5 e0 e1 e2 e3 e4 e5 e6 e7 e8 e9 e10 e11;obtain ⟨d0,d1,d2,d3,d4,d5⟩:=config_cells HK5.out.2.1;obtain ⟨⟨e0,e1,e2,e3⟩,⟨e4,e5,e6,e7⟩,e8,e9,e10,e11⟩:=bk_cells HK5.out.2.2;simp only at d0 d1 d2 d3 d4 d5 e0 e1 e2 e3 e4 e5 e6 e7 e8 e9 e10 e11
             cases nv with
             | false =>
               obtain rfl:res=false:=by rw [HRes.out]; simp
               go_wp2_with fail
               go_ret
               exact ⟨by rfl,HK5.out.1⟩
             | true =>
               go_wp2_with fail
               refine (refauditmay_calls ⟨n,q,r,pp,kk,cc⟩ who ⟨tr,ph,told,use,inc,moved⟩ ⟨a5,m5,c5,a6,m6,c6,a7,m7,c7⟩ _ (HA.out.later HK5.out.1)).mono ?_;rintro e w6 ⟨rfl,hb⟩;rw [Hav.out];have HK6:=qH (HK5.out.later hb);obtain rfl:res=av:=by rw [HRes.out]; simp
               clear hb
               go_wp2_with fail
               go_ret
               exact ⟨by rfl,HK6.out.1⟩
       · have hz0:((m2:Int) == 0)=false:=beq_eq_false_iff_ne.2 (by omega)
         have Hm20:=qH hm20; clear hm20
         go_wp2_with fail
         refine (refclaimmay_calls ⟨n,q,r,pp,kk,cc⟩ who a4 m4 c4 notes Hm4.out _ (HB4.out.later HKr.out.1)).mono ?_;rintro e w5 ⟨rfl,hb⟩;rw [Hnv.out];have HK5:=qH (HKr.out.later hb);clear hb d0 d1 d2 d3 d4 d5 e0 e1 e2 e3 e4 e5 e6 e7 e8 e9 e10 e11;obtain ⟨d0,d1,d2,d3,d4,d5⟩:=config_cells HK5.out.2.1;obtain ⟨⟨e0,e1,e2,e3⟩,⟨e4,e5,e6,e7⟩,e8,e9,e10,e11⟩:=bk_cells HK5.out.2.2;simp only at d0 d1 d2 d3 d4 d5 e0 e1 e2 e3 e4 e5 e6 e7 e8 e9 e10 e11
         cases nv with
         | false =>
           obtain rfl:res=false:=by rw [HRes.out]; simp
           go_wp2_with fail
           go_ret
           exact ⟨by rfl,HK5.out.1⟩
         | true =>
           go_wp2_with fail
           refine (refauditmay_calls ⟨n,q,r,pp,kk,cc⟩ who ⟨tr,ph,told,use,inc,moved⟩ ⟨a5,m5,c5,a6,m6,c6,a7,m7,c7⟩ _ (HA.out.later HK5.out.1)).mono ?_;rintro e w6 ⟨rfl,hb⟩;rw [Hav.out];have HK6:=qH (HK5.out.later hb);obtain rfl:res=av:=by rw [HRes.out]; simp [Hm20.out]
           clear hb
           go_wp2_with fail
           go_ret
           exact ⟨by rfl,HK6.out.1⟩
end Go.Proofs.YtecjnkokdnmhlaaGreat
namespace Go.Proofs.YtecjnkokdnmhlaaGreat
open Go.RowKit
set_option maxRecDepth 100000 in
set_option maxHeartbeats 16000000 in
theorem refnmay_calls (c:Cf) (who:Int) (x:Nd) (p:Nl) (w:World) (hK:NdIn w p x) :
 Calls Tryz.prog 16 #[cfV c,.int .i64 who,ndAt x p] w (Says w (nodeB c who x)):=by
 have HW:=qH ((Whole.made w 23 (cfCells c)).alloc (.cells (ndAtC x p) 39));have HX:=qH (Whole.made2 w (.cells (cfCells c) 23) 39 (ndAtC x p));have Hb0:=qH (below_two w (.cells (cfCells c) 23) (.cells (ndAtC x p) 39));have HB:=qH (hK.1.later Hb0.out);have hlen:=hK.2.1;clear hK;obtain ⟨z,Hz⟩:∃ z,Hid (bookB c who x.bk=z):=⟨_,rfl⟩;obtain ⟨res,Hres⟩:∃ z,Hid (nodeB c who x=z):=⟨_,rfl⟩
 have hyes:z=true→0≤x.tk→x.tk≤1125899906842624→0≤x.nx→x.nx≤x.tk + 16→(p.m:Int)≤64→res=true:=fun h0 h1 h2 h3 h4 h5 =>
  Hres.out.symm.trans (decide_eq_true ⟨of_decide_eq_true (Hz.out.trans h0),⟨h1,h2⟩,⟨h3,h4⟩,by omega⟩)
 have hno:(z=false∨¬ 0≤x.tk∨¬ x.tk≤1125899906842624∨¬ 0≤x.nx∨¬ x.nx≤x.tk + 16∨¬ (p.m:Int)≤64)→res=false:=fun h =>
  Hres.out.symm.trans (decide_eq_false fun hk=>by
   obtain ⟨k0,⟨k1,k2⟩,⟨k3,k4⟩,k5⟩:=hk;have k0':z=true:=Hz.out.symm.trans (decide_eq_true k0)
   rcases h with h | h | h | h | h | h
   · rw [k0'] at h; cases h
   · exact h k1
   · exact h k2
   · exact h k3
   · exact h k4
   · exact h (by omega))
 have HY:=qH hyes; have HN:=qH hno; clear hyes hno hlen;rw [Hres.out];clear Hres;have HC:=qH (fun w hw=>refkmay_calls c who x.bk p.bl w hw)
 have hcm:=HC.out;rw [Hz.out] at hcm;have HCM:=qH hcm;clear hcm HC Hz;obtain ⟨n,q,r,pp,kk,cc⟩:=c;obtain ⟨⟨a1,m1,c1,a2,m2,c2,a3,m3,c3,a4,m4,c4,a5,m5,c5,a6,m6,c6,a7,m7,c7⟩,s,ms,cs⟩:=p;obtain ⟨⟨clk,rows,line,outs,asks,notes,tr,ph,told,use,inc,mv⟩,tk,nx,asked⟩:=x
 have KP:Hid (∀ w',Below ((w.alloc (.cells (cfCells ⟨n,q,r,pp,kk,cc⟩) 23)).alloc (.cells (ndAtC ⟨⟨clk,rows,line,outs,asks,notes,tr,ph,told,use,inc,mv⟩,tk,nx,asked⟩ ⟨⟨a1,m1,c1,a2,m2,c2,a3,m3,c3,a4,m4,c4,a5,m5,c5,a6,m6,c6,a7,m7,c7⟩,s,ms,cs⟩) 39)).heap.size ((w.alloc (.cells (cfCells ⟨n,q,r,pp,kk,cc⟩) 23)).alloc (.cells (ndAtC ⟨⟨clk,rows,line,outs,asks,notes,tr,ph,told,use,inc,mv⟩,tk,nx,asked⟩ ⟨⟨a1,m1,c1,a2,m2,c2,a3,m3,c3,a4,m4,c4,a5,m5,c5,a6,m6,c6,a7,m7,c7⟩,s,ms,cs⟩) 39)) w'→(fun w'=>Below ((w.alloc (.cells (cfCells ⟨n,q,r,pp,kk,cc⟩) 23)).alloc (.cells (ndAtC ⟨⟨clk,rows,line,outs,asks,notes,tr,ph,told,use,inc,mv⟩,tk,nx,asked⟩ ⟨⟨a1,m1,c1,a2,m2,c2,a3,m3,c3,a4,m4,c4,a5,m5,c5,a6,m6,c6,a7,m7,c7⟩,s,ms,cs⟩) 39)).heap.size ((w.alloc (.cells (cfCells ⟨n,q,r,pp,kk,cc⟩) 23)).alloc (.cells (ndAtC ⟨⟨clk,rows,line,outs,asks,notes,tr,ph,told,use,inc,mv⟩,tk,nx,asked⟩ ⟨⟨a1,m1,c1,a2,m2,c2,a3,m3,c3,a4,m4,c4,a5,m5,c5,a6,m6,c6,a7,m7,c7⟩,s,ms,cs⟩) 39)) w'∧(w'.cell? ⟨w.heap.size,0,none⟩=some (.int .i64 n)∧w'.cell? ⟨w.heap.size,1,none⟩=some (.int .i64 q)∧w'.cell? ⟨w.heap.size,2,none⟩=some (.int .i64 r)∧w'.cell? ⟨w.heap.size,3,none⟩=some (.int .i64 pp)∧w'.cell? ⟨w.heap.size,4,none⟩=some (.int .i64 kk)∧w'.cell? ⟨w.heap.size,5,none⟩=some (.int .i64 cc))∧w'.cell? ⟨w.heap.size + 1,0,none⟩=some (.int .i64 clk)∧w'.cell? ⟨w.heap.size + 1,1,none⟩=some (.slice a1 m1 c1)∧w'.cell? ⟨w.heap.size + 1,2,none⟩=some (.slice a2 m2 c2)∧w'.cell? ⟨w.heap.size + 1,3,none⟩=some (.slice a3 m3 c3)∧w'.cell? ⟨w.heap.size + 1,4,none⟩=some (.int .i64 asks)∧w'.cell? ⟨w.heap.size + 1,5,none⟩=some (.slice a4 m4 c4)∧w'.cell? ⟨w.heap.size + 1,6,none⟩=some (.int .i64 tr)∧w'.cell? ⟨w.heap.size + 1,7,none⟩=some (.int .i64 ph)∧w'.cell? ⟨w.heap.size + 1,8,none⟩=some (.slice a5 m5 c5)∧w'.cell? ⟨w.heap.size + 1,9,none⟩=some (.slice a6 m6 c6)∧w'.cell? ⟨w.heap.size + 1,10,none⟩=some (.slice a7 m7 c7)∧w'.cell? ⟨w.heap.size + 1,11,none⟩=some (.bool mv)∧w'.cell? ⟨w.heap.size + 1,12,none⟩=some (.int .i64 tk)∧w'.cell? ⟨w.heap.size + 1,13,none⟩=some (.int .i64 nx)∧w'.cell? ⟨w.heap.size + 1,14,none⟩=some (.slice s ms cs)) w'):=fun w' h=>⟨h,config_cells (HW.out.later h HW.out.lt),by
  obtain ⟨⟨e0,e1,e2,e3⟩,⟨e4,e5,e6,e7⟩,⟨e8,e9,e10,e11⟩,e12,e13,e14⟩:=nd_cells (HX.out.later h HX.out.lt)
  exact ⟨e0,e1,e2,e3,e4,e5,e6,e7,e8,e9,e10,e11,e12,e13,e14⟩⟩
 simp only at HY HN
 go_enter Tryz.func16,Tryz.ntmps16
 go_upto_region 1 with fail
 go_cut [6] from 6 to 46 (fun s6 wx=>s6=.bool res∧Below w.heap.size w wx)
 case first =>
  cases z with
  | false =>
    obtain rfl:res=false:=HN.out (Or.inl rfl);clear HY HN;obtain ⟨_,⟨d0,d1,d2,d3,d4,d5⟩,e0,e1,e2,e3,e4,e5,e6,e7,e8,e9,e10,e11,e12,e13,e14⟩:=KP.out _ (Below.refl _ _)
    go_wp2_with fail
    refine (HCM.out _ HB.out).mono ?_;rintro ee wo ⟨rfl,hb2⟩;have HbO:=qH hb2;clear d0 d1 d2 d3 d4 d5 e0 e1 e2 e3 e4 e5 e6 e7 e8 e9 e10 e11 e12 e13 e14;obtain ⟨_,⟨d0,d1,d2,d3,d4,d5⟩,e0,e1,e2,e3,e4,e5,e6,e7,e8,e9,e10,e11,e12,e13,e14⟩:=KP.out _ hb2;clear hb2
    go_wp2_with fail
    go_meet
    exact ⟨by rfl,held_next Hb0.out HbO.out⟩
  | true =>
  by_cases h1:0≤tk
  rotate_left 1
  · obtain rfl:res=false:=HN.out (Or.inr (Or.inl h1))
    clear HY HN;obtain ⟨_,⟨d0,d1,d2,d3,d4,d5⟩,e0,e1,e2,e3,e4,e5,e6,e7,e8,e9,e10,e11,e12,e13,e14⟩:=KP.out _ (Below.refl _ _)
    go_wp2_with fail
    refine (HCM.out _ HB.out).mono ?_;rintro ee wo ⟨rfl,hb2⟩;have HbO:=qH hb2;clear d0 d1 d2 d3 d4 d5 e0 e1 e2 e3 e4 e5 e6 e7 e8 e9 e10 e11 e12 e13 e14;obtain ⟨_,⟨d0,d1,d2,d3,d4,d5⟩,e0,e1,e2,e3,e4,e5,e6,e7,e8,e9,e10,e11,e12,e13,e14⟩:=KP.out _ hb2;clear hb2
    go_wp2_with fail
    go_meet
    exact ⟨by rfl,held_next Hb0.out HbO.out⟩
  by_cases h2:tk≤1125899906842624
  rotate_left 1
  · obtain rfl:res=false:=HN.out (Or.inr (Or.inr (Or.inl h2)))
    clear HY HN;obtain ⟨_,⟨d0,d1,d2,d3,d4,d5⟩,e0,e1,e2,e3,e4,e5,e6,e7,e8,e9,e10,e11,e12,e13,e14⟩:=KP.out _ (Below.refl _ _)
    go_wp2_with fail
    refine (HCM.out _ HB.out).mono ?_;rintro ee wo ⟨rfl,hb2⟩;have HbO:=qH hb2;clear d0 d1 d2 d3 d4 d5 e0 e1 e2 e3 e4 e5 e6 e7 e8 e9 e10 e11 e12 e13 e14;obtain ⟨_,⟨d0,d1,d2,d3,d4,d5⟩,e0,e1,e2,e3,e4,e5,e6,e7,e8,e9,e10,e11,e12,e13,e14⟩:=KP.out _ hb2;clear hb2
    go_wp2_with fail
    go_meet
    exact ⟨by rfl,held_next Hb0.out HbO.out⟩
  by_cases h3:0≤nx
  rotate_left 1
  · obtain rfl:res=false:=HN.out (Or.inr (Or.inr (Or.inr (Or.inl h3))))
    clear HY HN;obtain ⟨_,⟨d0,d1,d2,d3,d4,d5⟩,e0,e1,e2,e3,e4,e5,e6,e7,e8,e9,e10,e11,e12,e13,e14⟩:=KP.out _ (Below.refl _ _)
    go_wp2_with fail
    refine (HCM.out _ HB.out).mono ?_;rintro ee wo ⟨rfl,hb2⟩;have HbO:=qH hb2;clear d0 d1 d2 d3 d4 d5 e0 e1 e2 e3 e4 e5 e6 e7 e8 e9 e10 e11 e12 e13 e14;obtain ⟨_,⟨d0,d1,d2,d3,d4,d5⟩,e0,e1,e2,e3,e4,e5,e6,e7,e8,e9,e10,e11,e12,e13,e14⟩:=KP.out _ hb2;clear hb2
    go_wp2_with fail
    go_meet
    exact ⟨by rfl,held_next Hb0.out HbO.out⟩
  by_cases h4:nx≤tk + 16
  rotate_left 1
  · obtain rfl:res=false:=HN.out (Or.inr (Or.inr (Or.inr (Or.inr (Or.inl h4)))))
    clear HY HN;obtain ⟨_,⟨d0,d1,d2,d3,d4,d5⟩,e0,e1,e2,e3,e4,e5,e6,e7,e8,e9,e10,e11,e12,e13,e14⟩:=KP.out _ (Below.refl _ _)
    go_wp2_with fail
    refine (HCM.out _ HB.out).mono ?_;rintro ee wo ⟨rfl,hb2⟩;have HbO:=qH hb2;clear d0 d1 d2 d3 d4 d5 e0 e1 e2 e3 e4 e5 e6 e7 e8 e9 e10 e11 e12 e13 e14;obtain ⟨_,⟨d0,d1,d2,d3,d4,d5⟩,e0,e1,e2,e3,e4,e5,e6,e7,e8,e9,e10,e11,e12,e13,e14⟩:=KP.out _ hb2;clear hb2
    go_wp2_with fail
    go_meet
    exact ⟨by rfl,held_next Hb0.out HbO.out⟩
  by_cases h5:(ms:Int)≤64
  rotate_left 1
  · obtain rfl:res=false:=HN.out (Or.inr (Or.inr (Or.inr (Or.inr (Or.inr h5)))))
    clear HY HN;obtain ⟨_,⟨d0,d1,d2,d3,d4,d5⟩,e0,e1,e2,e3,e4,e5,e6,e7,e8,e9,e10,e11,e12,e13,e14⟩:=KP.out _ (Below.refl _ _)
    go_wp2_with fail
    refine (HCM.out _ HB.out).mono ?_;rintro ee wo ⟨rfl,hb2⟩;have HbO:=qH hb2;clear d0 d1 d2 d3 d4 d5 e0 e1 e2 e3 e4 e5 e6 e7 e8 e9 e10 e11 e12 e13 e14;obtain ⟨_,⟨d0,d1,d2,d3,d4,d5⟩,e0,e1,e2,e3,e4,e5,e6,e7,e8,e9,e10,e11,e12,e13,e14⟩:=KP.out _ hb2;clear hb2
    go_wp2_with fail
    go_meet
    exact ⟨congrArg Value.bool (decide_eq_false (by omega)),held_next Hb0.out HbO.out⟩
  obtain rfl:res=true:=HY.out rfl h1 h2 h3 h4 h5;clear HY HN;obtain ⟨_,⟨d0,d1,d2,d3,d4,d5⟩,e0,e1,e2,e3,e4,e5,e6,e7,e8,e9,e10,e11,e12,e13,e14⟩:=KP.out _ (Below.refl _ _)
  go_wp2_with fail
  refine (HCM.out _ HB.out).mono ?_;rintro ee wo ⟨rfl,hb2⟩;have HbO:=qH hb2;clear d0 d1 d2 d3 d4 d5 e0 e1 e2 e3 e4 e5 e6 e7 e8 e9 e10 e11 e12 e13 e14;obtain ⟨_,⟨d0,d1,d2,d3,d4,d5⟩,e0,e1,e2,e3,e4,e5,e6,e7,e8,e9,e10,e11,e12,e13,e14⟩:=KP.out _ hb2;clear hb2
  go_wp2_with fail
  go_meet
  exact ⟨by rfl,held_next Hb0.out HbO.out⟩
 case rest =>
 obtain ⟨rfl,hcut2⟩:=hcut
 go_wp2_with fail
 go_ret
 exact ⟨by rfl,hcut2⟩
end Go.Proofs.YtecjnkokdnmhlaaGreat
namespace Go.Proofs.YtecjnkokdnmhlaaGreat
open Go.RowKit
set_option maxRecDepth 100000 in
set_option maxHeartbeats 1000000 in
theorem refshort_calls (a:Option Addr) (m d:Nat) (l:List Rw) (hm:m=l.length) (hR:Reach l) (w:World) (hA:Books w (.slice a m d) l) :
 Calls Tryz.prog 52 #[.slice a m d] w (Says w (shortB l)):=by
 have hbm:m≤17592186044416:=by rw [hm]; exact hR.1
 have HA:=qH hA; clear hA;have Hm:=qH hm; clear hm;have HR:=qH hR; clear hR;obtain ⟨res,Hres⟩:∃ z,Hid (shortB l=z):=⟨_,rfl⟩;rw [Hres.out]
 go_enter Tryz.func52,Tryz.ntmps52
 go_wp2
 go_loop [3,4] (fun t x=>∃ k T:Nat,k≤m∧x=.int .i64 k∧t=.int .i64 T∧T≤17592186045000∧Hid (T=bulk l k)) (fun _ x=>m - (intOf x).toNat)
 case atStart=>exact ⟨0,m,Nat.zero_le _,rfl,rfl,by omega,Hm.out⟩
 case round =>
  obtain ⟨k,T,hk,rfl,rfl,hT,HT⟩:=hrel
  by_cases h4:T≤400
  · by_cases hlt:k < m
    · obtain ⟨g1,o1,A1,C1,rfl,_,_,_,c2,_⟩:=HA.out.at (k:=k) (by have:=Hm.out; omega)
      have hx:=HR.out.2 k (by have:=Hm.out; omega)
      obtain ⟨x,Hx⟩:∃ z,Hid ((at_ l k).out.length=z):=⟨_,rfl⟩;rw [Hx.out] at c2 hx;have k0:(0:Int)≤(k:Int):=by omega
      have k1:(k:Int) < (m:Int):=by omega
      go_wp2
      go_round
      case rel=>exact ⟨k + 1,T + x,by omega,by go_num,by go_num,by omega,show _=_ by rw [HT.out,← Hx.out]; rfl⟩
      case measure=>simp [intOf]; omega
    · have hkm:k=m:=by omega
      obtain rfl:res=true:=Hres.out.symm.trans (decide_eq_true (by rw [← Hm.out,← hkm,← HT.out]; exact h4))
      have Hkm:=qH hkm; clear hkm
      go_wp2
      go_ret
      exact ⟨by simp; omega,Below.refl _ _⟩
  · obtain rfl:res=false:=Hres.out.symm.trans (decide_eq_false fun h=>by
     have:=bulk_mono l k l.length (by have:=Hm.out; omega)
     have:=HT.out
     omega)
    go_wp2
    all_goals go_ret
    all_goals exact ⟨by simp; omega,Below.refl _ _⟩
end Go.Proofs.YtecjnkokdnmhlaaGreat
namespace Go.Proofs.YtecjnkokdnmhlaaGreat
open Go.RowKit
def shortK (x:Bk) (p:Bl):Bool:=shortB x.rows && (decide (p.m2≤40) && (decide (p.m3≤40) && (decide (p.m4≤40) && (decide (p.al.m1≤40) && (decide (p.al.m2≤40) && decide (p.al.m3≤40))))))
set_option maxRecDepth 100000 in
set_option maxHeartbeats 4000000 in
theorem refkshort_calls (x:Bk) (p:Bl) (hR:Reach x.rows) (w:World) (hK:BkIn w p x):Calls Tryz.prog 36 #[bkAt x p] w (Says w (shortK x p)):=by
 obtain ⟨⟨hm1,hB1⟩,⟨hm2,hB2⟩,⟨hm3,hB3⟩,⟨hm4,hB4⟩,⟨hm5,hB5⟩,⟨hm6,hB6⟩,hm7,hB7⟩:=hK;have b2:p.m2≤9223372036854775807:=by rw [hm2]; exact hB2.1
 have b3:p.m3≤9223372036854775807:=by rw [hm3]; exact hB3.1
 have b4:p.m4≤9223372036854775807:=by rw [hm4]; exact hB4.1
 have b5:p.al.m1≤9223372036854775807:=by rw [hm5]; exact hB5.1
 have b6:p.al.m2≤9223372036854775807:=by rw [hm6]; exact hB6.1
 have b7:p.al.m3≤9223372036854775807:=by rw [hm7]; exact hB7.1
 have HX:=qH (Whole.made w 35 (bkAtC x p));have Hb0:=qH (below_box w (.cells (bkAtC x p) 35));have hcall:=fun w hw=>refshort_calls p.a1 p.m1 p.c1 x.rows hm1 hR w hw
 have HB1:=qH hB1;obtain ⟨clk,rows,line,outs,asks,notes,⟨tr,ph,told,use,inc,moved⟩⟩:=x;obtain ⟨a1,m1,c1,a2,m2,c2,a3,m3,c3,a4,m4,c4,⟨a5,m5,c5,a6,m6,c6,a7,m7,c7⟩⟩:=p;simp only at b2 b3 b4 b5 b6 b7;obtain ⟨z,Hz⟩:∃ z,Hid (shortB rows=z):=⟨_,rfl⟩;simp only at hcall;rw [Hz.out] at hcall;have Hcall:=qH hcall;clear hcall hB1 hB2 hB3 hB4 hB5 hB6 hB7 hm1 hm2 hm3 hm4 hm5 hm6 hm7 hR;obtain ⟨res,Hres⟩:∃ y,Hid ((shortB rows && (decide (m2≤40) && (decide (m3≤40) && (decide (m4≤40) && (decide (m5≤40) && (decide (m6≤40) && decide (m7≤40)))))))=y):=⟨_,qH rfl⟩
 show Calls _ _ _ _ (Says w (shortB rows && (decide (m2≤40) && (decide (m3≤40) && (decide (m4≤40) && (decide (m5≤40) && (decide (m6≤40) && decide (m7≤40))))))))
 rw [Hres.out];have HR:=Hres.out;rw [Hz.out] at HR;have HRes:=qH HR;clear HR Hres
 go_enter Tryz.func36,Tryz.ntmps36
 go_wp2_with fail
 refine (Hcall.out _ (HB1.out.later Hb0.out)).mono ?_;rintro e w1 ⟨rfl,hb⟩;have Hb1:=qH (held_next Hb0.out hb);have HX1:=qH (HX.out.later hb HX.out.lt);clear hb Hcall;obtain ⟨⟨z0,z1,z2,z3⟩,⟨z4,z5,z6,z7⟩,z8,z9,z10,z11⟩:=bk_cells HX1.out;simp only at z0 z1 z2 z3 z4 z5 z6 z7 z8 z9 z10 z11
 cases z with
 | false =>
   obtain rfl:res=false:=HRes.out.symm
   go_wp2_with fail
   go_ret
   exact ⟨by rfl,Hb1.out⟩
 | true =>
   by_cases q2:m2≤40
   · by_cases q3:m3≤40
     · by_cases q4:m4≤40
       · by_cases q5:m5≤40
         · by_cases q6:m6≤40
           · by_cases q7:m7≤40
             · obtain rfl:res=true:=HRes.out.symm.trans (by simp [q2,q3,q4,q5,q6,q7])
               go_wp2_with fail
               go_ret
               exact ⟨by simp; omega,Hb1.out⟩
             · obtain rfl:res=false:=HRes.out.symm.trans (by simp [q2,q3,q4,q5,q6,q7])
               go_wp2_with fail
               go_ret
               exact ⟨by simp; omega,Hb1.out⟩
           · obtain rfl:res=false:=HRes.out.symm.trans (by simp [q2,q3,q4,q5,q6])
             go_wp2_with fail
             go_ret
             exact ⟨by rfl,Hb1.out⟩
         · obtain rfl:res=false:=HRes.out.symm.trans (by simp [q2,q3,q4,q5])
           go_wp2_with fail
           go_ret
           exact ⟨by rfl,Hb1.out⟩
       · obtain rfl:res=false:=HRes.out.symm.trans (by simp [q2,q3,q4])
         go_wp2_with fail
         go_ret
         exact ⟨by rfl,Hb1.out⟩
     · obtain rfl:res=false:=HRes.out.symm.trans (by simp [q2,q3])
       go_wp2_with fail
       go_ret
       exact ⟨by rfl,Hb1.out⟩
   · obtain rfl:res=false:=HRes.out.symm.trans (by simp [q2])
     go_wp2_with fail
     go_ret
     exact ⟨by rfl,Hb1.out⟩
end Go.Proofs.YtecjnkokdnmhlaaGreat
namespace Go.Proofs.YtecjnkokdnmhlaaGreat
open Go.RowKit
def shortNd (x:Nd) (p:Nl):Bool:=shortK x.bk p.bl && decide ((p.m:Int)≤100)
set_option maxRecDepth 100000 in
set_option maxHeartbeats 8000000 in
theorem refnshort_calls (x:Nd) (p:Nl) (hR:Reach x.bk.rows) (w:World) (hK:NdIn w p x) :
 Calls Tryz.prog 10 #[ndAt x p] w (Says w (shortNd x p)):=by
 have HX:=qH (Whole.made w 39 (ndAtC x p));have Hb0:=qH (below_box w (.cells (ndAtC x p) 39));have hM:=refkshort_calls x.bk p.bl hR _ (hK.1.later Hb0.out);have hms:p.m≤9223372036854775807:=by rw [hK.2.1]; exact hK.2.2.1
 clear hK;obtain ⟨z,Hz⟩:∃ z,Hid (shortK x.bk p.bl=z):=⟨_,qH rfl⟩;have hr:shortNd x p=(z && decide ((p.m:Int)≤100)):=by unfold shortNd; rw [Hz.out]
 rw [hr];rw [Hz.out] at hM;have HM:=qH hM;clear hr hM Hz;obtain ⟨⟨a1,m1,c1,a2,m2,c2,a3,m3,c3,a4,m4,c4,a5,m5,c5,a6,m6,c6,a7,m7,c7⟩,s,ms,cs⟩:=p;obtain ⟨⟨clk,rows,line,outs,asks,notes,tr,ph,told,use,inc,mv⟩,tk,nx,asked⟩:=x;simp only at hms ⊢
 go_enter Tryz.func10,Tryz.ntmps10
 obtain ⟨⟨e0,e1,e2,e3⟩,⟨e4,e5,e6,e7⟩,⟨e8,e9,e10,e11⟩,e12,e13,e14⟩:=nd_cells HX.out;simp only at e0 e1 e2 e3 e4 e5 e6 e7 e8 e9 e10 e11 e12 e13 e14
 go_wp2_with fail
 refine HM.out.mono ?_;rintro e w1 ⟨rfl,hb⟩;have Hb1:=qH (held_next Hb0.out hb);have HX1:=qH (HX.out.later hb HX.out.lt);clear hb e0 e1 e2 e3 e4 e5 e6 e7 e8 e9 e10 e11 e12 e13 e14;obtain ⟨⟨e0,e1,e2,e3⟩,⟨e4,e5,e6,e7⟩,⟨e8,e9,e10,e11⟩,e12,e13,e14⟩:=nd_cells HX1.out;simp only at e0 e1 e2 e3 e4 e5 e6 e7 e8 e9 e10 e11 e12 e13 e14
 cases z with
 | false =>
   go_wp2_with fail
   go_ret
   exact ⟨by rfl,Hb1.out⟩
 | true =>
   go_wp2_with fail
   go_ret
   exact ⟨by rfl,Hb1.out⟩
end Go.Proofs.YtecjnkokdnmhlaaGreat
namespace Go.Proofs.YtecjnkokdnmhlaaGreat
open Go.ChangeShapes Go.WideShapes Go.ChangeAt Go.RowKit
def sc (s:Int × Int) (j:Nat):Value:=.int .i64 (if j=0 then s.1 else s.2)
def Stamps (w:World) (v:Value) (l:List (Int × Int)):Prop:=Elems w v 2 l.length (fun i j=>sc (l.getD i (0,0)) j)
def best:List (Int × Int)→Int × Int
 | []=>(0,0)
 | s :: r=>r.foldl (fun b x=>if olderB x.1 x.2 b.1 b.2 then x else b) s
theorem best_snoc (l:List (Int × Int)) (x:Int × Int):best (l ++ [x])=if l=[] then x else if olderB x.1 x.2 (best l).1 (best l).2 then x else best l:=by
 cases l with
 | nil=>rfl
 | cons s r=>simp [best]; rfl
theorem take_snoc' (l:List (Int × Int)) (k:Nat) (h:k < l.length):l.take (k + 1)=l.take k ++ [l.getD k (0,0)]:=by
 rw [List.take_succ_eq_append_getElem h]
 simp [List.getD_eq_getElem?_getD,List.getElem?_eq_getElem h]
def Found (w:World) (l:List (Int × Int)) (e:Ending) (w':World):Prop :=
 e=.returned (.tuple #[stampV (best l).1 (best l).2,.bool (decide (0 < l.length))])∧Below w.heap.size w w'
theorem info_stamp:(Tryz.prog.info? 48).map (fun i=>(i.zero,i.size,i.bytes))=some (some (.agg #[.int .i64 0,.int .i64 0]),2,16):=by kernel_rfl
end Go.Proofs.YtecjnkokdnmhlaaGreat
namespace Go.Proofs.YtecjnkokdnmhlaaGreat
open Go.ChangeShapes Go.WideShapes Go.ChangeAt Go.RowKit Go.Joins Go.Deep
abbrev OwnS (w:World) (base:Nat) (v:Value) (l:List (Int × Int)):Prop:=w.ownsRow base 48 2 v l.length (flatCells 2 l.length fun i j=>sc (l.getD i (0,0)) j)
theorem sc_plain (s:Int × Int) (j:Nat):(sc s j).oneCell'=true:=by unfold sc; rfl
theorem stamps_both (l k:List (Int × Int)):(fun i j=>if i < l.length then sc (l.getD i (0,0)) j else sc (k.getD (i - l.length) (0,0)) j)=fun i j=>sc ((l ++ k).getD i (0,0)) j:=by
 funext i j
 by_cases h:i < l.length
 · rw [if_pos h,List.getD_eq_getElem?_getD,List.getD_eq_getElem?_getD,List.getElem?_append_left h]
 · rw [if_neg h,List.getD_eq_getElem?_getD,List.getD_eq_getElem?_getD,List.getElem?_append_right (by omega)]
theorem OwnS.stamps {w:World} {base:Nat} {v:Value} {l:List (Int × Int)} (h:OwnS w base v l) (hb:l.length≤9223372036854775807):∃ A C,v=.slice A l.length C∧Stamps w (.slice A l.length C) l:=by
 obtain ⟨A,C,hv,_,he⟩:=elems_of_own h hb
 exact ⟨A,C,hv,he⟩
theorem one_stamp {w:World} {g:Nat} {t a:Int} (h:Whole w g 48 #[.int .i64 t,.int .i64 a]):Stamps w (.slice (some ⟨g,0,none⟩) 1 1) [(t,a)]:=by
 refine ⟨show 1≤9223372036854775807 by decide,Or.inr ⟨g,0,1,rfl,Nat.le_refl _,fun i j hi hj=>?_⟩⟩
 have hi:i < 1:=hi;obtain rfl:i=0:=by omega
 match j,hj with
 | 0,_=>exact h.cell 0
 | 1,_=>exact h.cell 1
theorem run_append_stamps {w:World} {base:Nat} {v:Value} {l k:List (Int × Int)} {A:Option Addr} {m c:Nat} (hown:OwnS w base v l) (hE:Stamps w (.slice A m c) k) (hm:m=k.length) (h:l.length + k.length≤1000000) (hbase:base≤w.heap.size) :
 ∃ v' w',(Builtin.append_ #[126,126] 126 #[v,.slice A m c]).run Tryz.prog w=.ok v' w'∧OwnS w' base v' (l ++ k)∧Below base w w'∧Grew w w' v v':=by
 subst hm;obtain ⟨i5,hi,hz0,hz1,hz2⟩:=info_parts info_stamp
 obtain ⟨v',w',h1,h2,h3,h4⟩:=run_append_elems (P:=Tryz.prog) (w:=w) 126 126 base 48 i5 _ 2 16 Tryz.underlying126 hi hz0 hz1 hz2 rfl (by decide)
  v l.length _ hown A k.length c _ hE (fun i j _ _=>sc_plain _ j) (by unfold maxLen; omega) (by omega) hbase
 refine ⟨v',w',h1,?_,h3,h4⟩;rw [stamps_both] at h2
 show OwnS w' base v' (l ++ k)
 unfold OwnS
 rw [List.length_append]
 exact h2
def stampsTo (c:Cf) (l:List Nt):Nat→List (Int × Int)
 | 0=>[]
 | k + 1=>if onB c (ntAt l k)=true then stampsTo c l k ++ [((ntAt l k).t,(ntAt l k).a)] else stampsTo c l k
theorem stampsTo_len (c:Cf) (l:List Nt):∀ k,(stampsTo c l k).length≤k
 | 0=>Nat.le_refl _
 | k + 1 => by
   have:=stampsTo_len c l k
   unfold stampsTo
   split
   · rw [List.length_append]; show _ + 1≤_; omega
   · omega
theorem stampsTo_best (c:Cf) (l:List Nt):∀ k,(oldK c l k=none→stampsTo c l k=[])∧∀ j,oldK c l k=some j→stampsTo c l k ≠ []∧best (stampsTo c l k)=((ntAt l j).t,(ntAt l j).a)∧j < k∧onB c (ntAt l j)=true
 | 0=>⟨fun _=>rfl,fun j h=>by cases h⟩
 | k + 1 => by
   obtain ⟨h1,h2⟩:=stampsTo_best c l k
   unfold stampsTo oldK
   by_cases ho:onB c (ntAt l k)=true
   · rw [if_pos ho,if_pos ho]
     cases hk:oldK c l k with
     | none =>
       refine ⟨(fun h=>by cases h),fun j h=>?_⟩
       simp only [Option.some.injEq] at h;subst h;rw [h1 hk]
       exact ⟨by simp,rfl,Nat.lt_succ_self _,ho⟩
     | some i =>
       obtain ⟨g1,g2,g3,g4⟩:=h2 i hk;refine ⟨(fun h=>by simp only at h; split at h <;> simp at h),fun j h=>?_⟩
       refine ⟨by simp,?_⟩
       rw [best_snoc,if_neg g1,g2];simp only at h ⊢
       by_cases hol:olderB (ntAt l k).t (ntAt l k).a (ntAt l i).t (ntAt l i).a=true
       · rw [if_pos hol] at h ⊢
         simp only [Option.some.injEq] at h;subst h
         exact ⟨rfl,Nat.lt_succ_self _,ho⟩
       · rw [if_neg hol] at h ⊢
         simp only [Option.some.injEq] at h;subst h
         exact ⟨rfl,by omega,g4⟩
   · rw [if_neg ho,if_neg ho]
     exact ⟨h1,fun j h=>by obtain ⟨g1,g2,g3,g4⟩:=h2 j h; exact ⟨g1,g2,by omega,g4⟩⟩
end Go.Proofs.YtecjnkokdnmhlaaGreat
