/- Parts, as far as NodeAtOnceCards reaches them, of: RefAuditNone, RefAuditMay, RefRightsOf, Ref04May, RefRightsRight. No law is proved here. -/
import Derived.Test.YtecjnkokdnmhlaaGreatTa37
namespace Go.Proofs.YtecjnkokdnmhlaaGreat
open Go.RowKit
set_option maxRecDepth 100000 in
set_option maxHeartbeats 4000000 in
theorem refnone_calls (x:Au) (p:Al) (w:World) (h1:p.m1=x.told.length) (h2:p.m2=x.use.length) (h3:p.m3=x.inc.length) (hb:p.m1≤9223372036854775807∧p.m2≤9223372036854775807∧p.m3≤9223372036854775807) :
 Calls Tryz.prog 73 #[auAt x p] w (Says w (noneA x)):=by
 have Hb0:=qH (below_box w (.cells (auCells x (.slice p.a1 p.m1 p.c1) (.slice p.a2 p.m2 p.c2) (.slice p.a3 p.m3 p.c3)) 33));obtain ⟨tr,ph,told,use,inc,moved⟩:=x;obtain ⟨a1,m1,c1,a2,m2,c2,a3,m3,c3⟩:=p;obtain ⟨hb1,hb2,hb3⟩:=hb;simp only at h1 h2 h3 hb1 hb2 hb3;obtain ⟨res,Hres⟩:∃ z,Hid (noneA ⟨tr,ph,told,use,inc,moved⟩=z):=⟨_,rfl⟩;rw [Hres.out]
 have hr:res=decide (tr=0∧ph=0∧m1=0∧m2=0∧m3=0∧moved=false):=by
  rw [← Hres.out,h1,h2,h3]
  unfold noneA
  simp only [Au.mk.injEq,List.length_eq_zero_iff]
 have HR:=qH hr;clear hr h1 h2 h3
 go_enter Tryz.func73,Tryz.ntmps73
 by_cases k1:tr=0
 · subst k1
   by_cases k2:ph=0
   · subst k2
     by_cases k3:m1=0
     · subst k3
       by_cases k4:m2=0
       · subst k4
         by_cases k5:m3=0
         · subst k5
           cases moved with
           | false =>
             obtain rfl:res=true:=by rw [HR.out]; simp
             go_wp2_with fail
             go_ret
             exact ⟨by rfl,Hb0.out⟩
           | true =>
             obtain rfl:res=false:=by rw [HR.out]; simp
             go_wp2_with fail
             go_ret
             exact ⟨by rfl,Hb0.out⟩
         · obtain rfl:res=false:=by rw [HR.out]; simp [k5]
           have k5':((m3:Int) == 0)=false:=beq_eq_false_iff_ne.2 (by omega)
           clear k5
           go_wp2_with fail
           go_ret
           exact ⟨by rfl,Hb0.out⟩
       · obtain rfl:res=false:=by rw [HR.out]; simp [k4]
         have k4':((m2:Int) == 0)=false:=beq_eq_false_iff_ne.2 (by omega)
         clear k4
         go_wp2_with fail
         go_ret
         exact ⟨by rfl,Hb0.out⟩
     · obtain rfl:res=false:=by rw [HR.out]; simp [k3]
       have k3':((m1:Int) == 0)=false:=beq_eq_false_iff_ne.2 (by omega)
       clear k3
       go_wp2_with fail
       go_ret
       exact ⟨by rfl,Hb0.out⟩
   · obtain rfl:res=false:=by rw [HR.out]; simp [k2]
     have k2':(ph == 0)=false:=beq_eq_false_iff_ne.2 k2;clear k2
     go_wp2_with fail
     go_ret
     exact ⟨by rfl,Hb0.out⟩
 · obtain rfl:res=false:=by rw [HR.out]; simp [k1]
   have k1':(tr == 0)=false:=beq_eq_false_iff_ne.2 k1;clear k1
   go_wp2_with fail
   go_ret
   exact ⟨by rfl,Hb0.out⟩
end Go.Proofs.YtecjnkokdnmhlaaGreat
namespace Go.Proofs.YtecjnkokdnmhlaaGreat
open Go.RowKit
set_option maxRecDepth 100000 in
set_option maxHeartbeats 8000000 in
theorem refauditmay_calls (c:Cf) (who:Int) (x:Au) (p:Al) (w:World) (hA:AuIn w p x) :
 Calls Tryz.prog 74 #[cfV c,.int .i64 who,auAt x p] w (Says w (auB c who x)):=by
 have HK:Hid (KeptA w w.heap.size c x p ((w.alloc (.cells (cfCells c) 23)).alloc (.cells (auCells x (.slice p.a1 p.m1 p.c1) (.slice p.a2 p.m2 p.c2) (.slice p.a3 p.m3 p.c3)) 33))) :=
  ⟨below_two w _ _,(Whole.made w _ _).alloc _,Whole.made2 w _ _ _⟩
 have hbig:p.m1≤9223372036854775807∧p.m2≤9223372036854775807∧p.m3≤9223372036854775807:=⟨by rw [hA.1.1]; exact hA.1.2.1,by rw [hA.2.1.1]; exact hA.2.1.2.1,by rw [hA.2.2.1]; exact hA.2.2.2.1⟩
 have hnone:=fun w=>refnone_calls x p w hA.1.1 hA.2.1.1 hA.2.2.1 hbig
 have HA:=qH hA; clear hA;obtain ⟨a1,m1,c1,a2,m2,c2,a3,m3,c3⟩:=p;obtain ⟨n,q,r,p,kk,cc⟩:=c;obtain ⟨tr,ph,told,use,inc,moved⟩:=x;obtain ⟨hb1,hb2,hb3⟩:=hbig;simp only at hb1 hb2 hb3;obtain ⟨res,Hres⟩:∃ z,Hid (auB ⟨n,q,r,p,kk,cc⟩ who ⟨tr,ph,told,use,inc,moved⟩=z):=⟨_,rfl⟩;have no:¬ auOk ⟨n,q,r,p,kk,cc⟩ who ⟨tr,ph,told,use,inc,moved⟩→res=false:=fun h=>Hres.out.symm.trans (auB_no h)
 have yes:auOk ⟨n,q,r,p,kk,cc⟩ who ⟨tr,ph,told,use,inc,moved⟩→res=true:=fun h=>Hres.out.symm.trans (decide_eq_true h)
 have No:=qH no; have Yes:=qH yes; clear no yes;rw [Hres.out];obtain ⟨ok,Hok⟩:∃ z,Hid (cfB ⟨n,q,r,p,kk,cc⟩=z):=⟨_,rfl⟩;obtain ⟨nn,Hnn⟩:∃ z,Hid (noneA ⟨tr,ph,told,use,inc,moved⟩=z):=⟨_,rfl⟩;have Hnone:=qH hnone; clear hnone
 go_enter Tryz.func74,Tryz.ntmps74
 go_wp2_with fail
 refine (refcfg_calls ⟨n,q,r,p,kk,cc⟩ _).mono ?_;rintro e w1 ⟨rfl,hb⟩;rw [Hok.out];have HK1:=qH (HK.out.later hb);clear hb HK;obtain ⟨d0,d1,d2,d3,d4,d5⟩:=config_cells HK1.out.2.1;obtain ⟨e0,e1,e2,e3,e4,e5⟩:=au_cells HK1.out.2.2;simp only at d0 d1 d2 d3 d4 d5 e0 e1 e2 e3 e4 e5
 cases ok with
 | false =>
   obtain rfl:res=false:=No.out fun h=>by
    have:=cfB_yes h.1;rw [Hok.out] at this
    cases this
   go_wp2_with fail
   go_ret
   exact ⟨by rfl,HK1.out.1⟩
 | true =>
 by_cases h1:who < 0
 · obtain rfl:res=false:=No.out fun h=>by have:=h.2.1.1; omega
   go_wp2_with fail
   go_ret
   exact ⟨by rfl,HK1.out.1⟩
 by_cases h2:n≤who
 · obtain rfl:res=false:=No.out fun h=>by have h3:who < n:=h.2.1.2; omega
   go_wp2_with fail
   go_ret
   exact ⟨by rfl,HK1.out.1⟩
 have Hwho:Hid (0≤who∧who < n):=⟨by omega,by omega⟩
 go_wp2_with fail
 refine (Hnone.out _).mono ?_;rw [Hnn.out];rintro e w2 ⟨rfl,hb⟩;have HK2:=qH (HK1.out.later hb);clear hb HK1 d0 d1 d2 d3 d4 d5 e0 e1 e2 e3 e4 e5
 cases nn with
 | true =>
   obtain rfl:res=true:=Yes.out ⟨cfB_ok Hok.out,Hwho.out,Or.inl (of_decide_eq_true Hnn.out)⟩
   go_wp2_with fail
   go_ret
   exact ⟨by rfl,HK2.out.1⟩
 | false =>
 have Hne:Hid (¬ (⟨tr,ph,told,use,inc,moved⟩:Au)=au0):=of_decide_eq_false Hnn.out;have no2:¬ runsOk ⟨n,q,r,p,kk,cc⟩ who ⟨tr,ph,told,use,inc,moved⟩→res=false:=fun h=>No.out fun h2=>h2.2.2.elim Hne.out h
 have No2:=qH no2; clear no2;obtain ⟨d0,d1,d2,d3,d4,d5⟩:=config_cells HK2.out.2.1;obtain ⟨e0,e1,e2,e3,e4,e5⟩:=au_cells HK2.out.2.2;simp only at d0 d1 d2 d3 d4 d5 e0 e1 e2 e3 e4 e5;obtain ⟨⟨hl1,hB1⟩,⟨hl2,hB2⟩,hl3,hB3⟩:=HA.out;simp only at hl1 hB1 hl2 hB2 hl3 hB3;have H1:=qH hl1; have H2:=qH hl2; have H3:=qH hl3;have HB1:=qH hB1; have HB2:=qH hB2; have HB3:=qH hB3;clear hl1 hl2 hl3 hB1 hB2 hB3
 by_cases g1:tr≤0
 · obtain rfl:res=false:=No2.out fun h=>by have h3:0 < tr:=h.1.1; omega
   go_wp2_with fail
   go_ret
   exact ⟨by rfl,HK2.out.1⟩
 by_cases g2:1125899906842624 < tr
 · obtain rfl:res=false:=No2.out fun h=>by have h3:tr≤1125899906842624:=h.1.2; omega
   go_wp2_with fail
   go_ret
   exact ⟨by rfl,HK2.out.1⟩
 by_cases g3:ph ≠ 1∧ph ≠ 2
 · obtain rfl:res=false:=No2.out fun h=>by have h3:ph=1∨ph=2:=h.2.1; omega
   have g4:(ph != 1)=true:=bne_iff_ne.2 g3.1;have g5:(ph != 2)=true:=bne_iff_ne.2 g3.2;clear g3
   go_wp2_with fail
   go_ret
   exact ⟨by rfl,HK2.out.1⟩
 have G3:Hid (ph=1∨ph=2):=by show ph=1∨ph=2; omega
 clear g3;have bad:∀ s:Bool,s=true→(s=true→res=false)→res=false:=fun s h h2=>h2 h
 clear bad
 go_upto_region 5 with fail
 obtain ⟨z,Hz⟩:∃ z:Bool,Hid (z=!decide ((m1:Int)=n∧(m2:Int)=n∧(m3:Int)=n∧told[who.toNat]?.getD false=false)):=⟨_,rfl⟩
 go_cut [75] from 23 to 75 (fun s75 wx=>s75=.bool z∧Hid (KeptA w w.heap.size ⟨n,q,r,p,kk,cc⟩ ⟨tr,ph,told,use,inc,moved⟩ ⟨a1,m1,c1,a2,m2,c2,a3,m3,c3⟩ wx))
 case first =>
  by_cases h1:(m1:Int)=n
  · by_cases h2:(m2:Int)=n
    · by_cases h3:(m3:Int)=n
      · subst h1
        have e2':m2=m1:=by omega
        have e3':m3=m1:=by omega
        subst e2' e3';have hwh:=Hwho.out;obtain ⟨b,off,hbe,t0⟩:=(HB1.out.later HK2.out.1).at (i:=who.toNat) (by have:=H1.out; omega)
        subst hbe;obtain ⟨tv,Htv⟩:∃ z,Hid (told[who.toNat]?.getD false=z):=⟨_,rfl⟩;rw [Htv.out] at t0;have hz:z=tv:=by rw [Hz.out,Htv.out]; cases tv <;> simp
        subst hz;have k0:(0:Int)≤who:=hwh.1;have k1:who < (m3:Int):=hwh.2;clear hwh
        rcases G3.out with rfl | rfl
        · go_wp2_with fail
          go_meet
          exact ⟨by simp; intro h; omega,HK2.out⟩
        · go_wp2_with fail
          go_meet
          exact ⟨by simp; intro h; omega,HK2.out⟩
      · obtain rfl:z=true:=by rw [Hz.out]; simp [h3]
        have h3':((m3:Int) != n)=true:=bne_iff_ne.2 h3;subst h1;have e2':m2=m1:=by omega
        subst e2';clear h3
        rcases G3.out with rfl | rfl
        · go_wp2_with fail
          go_meet
          exact ⟨by rfl,HK2.out⟩
        · go_wp2_with fail
          go_meet
          exact ⟨by rfl,HK2.out⟩
    · obtain rfl:z=true:=by rw [Hz.out]; simp [h2]
      have h2':((m2:Int) != n)=true:=bne_iff_ne.2 h2;subst h1;clear h2
      rcases G3.out with rfl | rfl
      · go_wp2_with fail
        go_meet
        exact ⟨by rfl,HK2.out⟩
      · go_wp2_with fail
        go_meet
        exact ⟨by rfl,HK2.out⟩
  · obtain rfl:z=true:=by rw [Hz.out]; simp [h1]
    have h1':((m1:Int) != n)=true:=bne_iff_ne.2 h1;clear h1
    rcases G3.out with rfl | rfl
    · go_wp2_with fail
      go_meet
      exact ⟨by rfl,HK2.out⟩
    · go_wp2_with fail
      go_meet
      exact ⟨by rfl,HK2.out⟩
 case rest =>
 clear HK2 d0 d1 d2 d3 d4 d5 e0 e1 e2 e3 e4 e5;obtain ⟨rfl,HK3⟩:=hcut
 cases z with
 | true =>
   obtain rfl:res=false:=No2.out fun h=>by
    have h9:decide ((m1:Int)=n∧(m2:Int)=n∧(m3:Int)=n∧told[who.toNat]?.getD false=false)=true:=by
     refine decide_eq_true ⟨?_,?_,?_,h.2.2.2.2.2.1⟩
     · rw [H1.out]; exact h.2.2.1
     · rw [H2.out]; exact h.2.2.2.1
     · rw [H3.out]; exact h.2.2.2.2.1
    have h8:=Hz.out;rw [h9] at h8
    cases h8
   go_wp2_with fail
   go_ret
   exact ⟨by rfl,HK3.out.1⟩
 | false =>
   have hz:decide ((m1:Int)=n∧(m2:Int)=n∧(m3:Int)=n∧told[who.toNat]?.getD false=false)=true:=by
    have h8:=Hz.out
    cases h9:decide ((m1:Int)=n∧(m2:Int)=n∧(m3:Int)=n∧told[who.toNat]?.getD false=false) with
    | true=>rfl
    | false=>rw [h9] at h8; cases h8
   obtain ⟨y1,y2,y3,y4⟩:=of_decide_eq_true hz;have hn16:n≤16:=(cfB_ok Hok.out).2.1;have e2':m2=m1:=by omega
   have e3':m3=m1:=by omega
   subst e2' e3' y1;have H4:=qH y4;have Htr:Hid (0 < tr∧tr≤1125899906842624):=⟨by omega,by omega⟩
   clear hz y2 y3 y4 g1 g2 h1 h2
   go_wp2_with fail
   go_loopw [7] (fun s7 wr=>∃ k:Nat,k≤m3∧s7=.int .i64 k∧Hid (∀ i,i < k→(0≤use[i]?.getD 0∧use[i]?.getD 0≤1099511627776)∧(0≤inc[i]?.getD 0∧inc[i]?.getD 0≤1099511627776))∧Hid (KeptA w w.heap.size ⟨m3,q,r,p,kk,cc⟩ ⟨tr,ph,told,use,inc,moved⟩ ⟨a1,m3,c1,a2,m3,c2,a3,m3,c3⟩ wr)) (fun s7 _=>m3 - (intOf s7).toNat)
   case atStart=>exact ⟨0,Nat.zero_le _,rfl,fun z hz=>absurd hz (Nat.not_lt_zero _),HK3.out⟩
   case round =>
    obtain ⟨k,hk,rfl,Hl,HKr⟩:=hrel;obtain ⟨d0,d1,d2,d3,d4,d5⟩:=config_cells HKr.out.2.1;obtain ⟨e0,e1,e2,e3,e4,e5⟩:=au_cells HKr.out.2.2;simp only at d0 d1 d2 d3 d4 d5 e0 e1 e2 e3 e4 e5
    by_cases hlt:k < m3
    · obtain ⟨b2,o2,hbe,_,u0⟩:=(HB2.out.later HKr.out.1).at (i:=k) (by have:=H2.out; omega)
      subst hbe;obtain ⟨b3,o3,hbe,_,v0⟩:=(HB3.out.later HKr.out.1).at (i:=k) (by have:=H3.out; omega)
      subst hbe;obtain ⟨y,Hy⟩:∃ z,Hid (use[k]?.getD 0=z):=⟨_,rfl⟩;obtain ⟨v,Hv⟩:∃ z,Hid (inc[k]?.getD 0=z):=⟨_,rfl⟩;rw [Hy.out] at u0;rw [Hv.out] at v0;have k0:(0:Int)≤(k:Int):=by omega
      have k1:(k:Int) < (m3:Int):=by omega
      have hin:runsOk ⟨m3,q,r,p,kk,cc⟩ who ⟨tr,ph,told,use,inc,moved⟩→(0≤y∧y≤1099511627776)∧(0≤v∧v≤1099511627776):=fun h=>by
       have h9:(0≤use[k]?.getD 0∧use[k]?.getD 0≤1099511627776)∧(0≤inc[k]?.getD 0∧inc[k]?.getD 0≤1099511627776):=h.2.2.2.2.2.2 k (by have:=H1.out; show k < told.length; omega)
       rw [Hy.out,Hv.out] at h9
       exact h9
      have Hin:=qH hin; clear hin
      by_cases f1:y < 0
      · obtain rfl:res=false:=No2.out fun h=>by have:=(Hin.out h).1.1; omega
        go_wp2_with fail
        go_ret
        exact ⟨by rfl,HKr.out.1⟩
      by_cases f2:1099511627776 < y
      · obtain rfl:res=false:=No2.out fun h=>by have:=(Hin.out h).1.2; omega
        go_wp2_with fail
        go_ret
        exact ⟨by rfl,HKr.out.1⟩
      by_cases f3:v < 0
      · obtain rfl:res=false:=No2.out fun h=>by have:=(Hin.out h).2.1; omega
        go_wp2_with fail
        go_ret
        exact ⟨by rfl,HKr.out.1⟩
      by_cases f4:1099511627776 < v
      · obtain rfl:res=false:=No2.out fun h=>by have:=(Hin.out h).2.2; omega
        go_wp2_with fail
        go_ret
        exact ⟨by rfl,HKr.out.1⟩
      have Hf:Hid ((0≤y∧y≤1099511627776)∧(0≤v∧v≤1099511627776)):=⟨⟨by omega,by omega⟩,by omega,by omega⟩
      go_wp2_with fail
      go_roundw
      case rel=>exact ⟨k + 1,by omega,by go_num,(fun z hz=>by
       by_cases e:z=k
       · subst e; rw [Hy.out,Hv.out]; exact Hf.out
       · exact Hl.out z (by omega)),HKr.out⟩
      case measure=>simp [intOf]; omega
    · have hall:∀ i,i < told.length→(0≤use[i]?.getD 0∧use[i]?.getD 0≤1099511627776)∧(0≤inc[i]?.getD 0∧inc[i]?.getD 0≤1099511627776):=fun i hi=>Hl.out i (by have:=H1.out; omega)
      obtain rfl:res=true:=Yes.out ⟨cfB_ok Hok.out,Hwho.out,Or.inr ⟨Htr.out,G3.out,by show (told.length:Int)=m3; rw [← H1.out],by show (use.length:Int)=m3; rw [← H2.out],by show (inc.length:Int)=m3; rw [← H3.out],H4.out,hall⟩⟩
      clear hall
      go_wp2_with fail
      go_ret
      exact ⟨by rfl,HKr.out.1⟩
end Go.Proofs.YtecjnkokdnmhlaaGreat
namespace Go.Proofs.YtecjnkokdnmhlaaGreat
open Go.RowKit
set_option maxRecDepth 100000 in
set_option maxHeartbeats 2000000 in
theorem refshare_calls (c:Cf) (who:Int) (w:World):Calls Tryz.prog 130 #[cfV c,.int .i64 who] w (fun e w'=>e=.returned (.int .i64 (shareV c who))∧Below w.heap.size w w'):=by
 have HW:=qH (Whole.made w 23 (cfCells c));have Hb0:=qH (below_box w (.cells (cfCells c) 23));obtain ⟨n,q,r,p,k,cc⟩:=c
 by_cases hok:cfOk ⟨n,q,r,p,k,cc⟩
 · by_cases h0:0≤who
   · by_cases h1:who < n
     · have Hok:=qH hok
       obtain ⟨g1,g2,_,_,_,_,_,_,g9,g10,g11⟩:=hok;simp only at g1 g2 g9 g10 g11
       have hkk:k≤1099511627776:=by
        have:=Int.mul_nonneg (show 0≤n by omega) g10
        omega
       clear g10 g11;have hv:shareV ⟨n,q,r,p,k,cc⟩ who=k / n + (if who < k - k / n * n then 1 else 0):=if_pos ⟨Hok.out,h0,h1⟩
       have hq0:0≤k / n:=Int.ediv_nonneg g9 (by omega)
       have hqk:k / n * n≤k:=Int.ediv_mul_le k (by omega)
       have hqn:0≤k / n * n:=Int.mul_nonneg hq0 (by omega)
       have hqs:k / n≤k:=Int.ediv_le_self n g9;obtain ⟨s,hs⟩:∃ s,k / n=s:=⟨_,rfl⟩;rw [hs] at hv hq0 hqk hqn hqs;obtain ⟨m,hm⟩:∃ m,s * n=m:=⟨_,rfl⟩;rw [hm] at hv hqk hqn;obtain ⟨v,Hv⟩:∃ v,Hid (s + (if who < k - m then 1 else 0)=v):=⟨_,rfl⟩
       rw [hv,Hv.out];clear hv;have hn0:n ≠ 0:=by omega
       have Hs:=qH hs; clear hs;have Hm:=qH hm; clear hm
       go_enter Tryz.func130,Tryz.ntmps130
       go_wp2_with fail
       refine (refcfg_calls ⟨n,q,r,p,k,cc⟩ _).mono ?_;rintro e w1 ⟨rfl,hb⟩;rw [cfB_yes Hok.out];have Hb1:=qH (held_next Hb0.out hb);have HW1:=qH (HW.out.later hb HW.out.lt);clear hb;have d0:w1.cell? ⟨w.heap.size,0,none⟩=some (.int .i64 n):=HW1.out.cell 0;have d4:w1.cell? ⟨w.heap.size,4,none⟩=some (.int .i64 k):=HW1.out.cell 4;have hs:=Hs.out;have hm:=Hm.out
       by_cases hw:who < k - m
       · have Hv1:Hid (v=s + 1):=by rw [← Hv.out,if_pos hw]; exact rfl
         go_wp2_with fail
         go_ret
         exact ⟨by rw [Hv1.out]; rfl,Hb1.out⟩
       · have Hv1:Hid (v=s):=by rw [← Hv.out,if_neg hw,Int.add_zero]; exact rfl
         go_wp2_with fail
         go_ret
         exact ⟨by rw [Hv1.out,← Hs.out]; rfl,Hb1.out⟩
     · rw [shareV_no (fun h=>h1 h.2.2)]
       have Hok:=qH hok; clear hok
       go_enter Tryz.func130,Tryz.ntmps130
       go_wp2_with fail
       refine (refcfg_calls ⟨n,q,r,p,k,cc⟩ _).mono ?_;rintro e w1 ⟨rfl,hb⟩;rw [cfB_yes Hok.out];have Hb1:=qH (held_next Hb0.out hb);have HW1:=qH (HW.out.later hb HW.out.lt);clear hb;have d0:w1.cell? ⟨w.heap.size,0,none⟩=some (.int .i64 n):=HW1.out.cell 0
       go_wp2_with fail
       go_ret
       exact ⟨rfl,Hb1.out⟩
   · rw [shareV_no (fun h=>h0 h.2.1)]
     have Hok:=qH hok; clear hok
     go_enter Tryz.func130,Tryz.ntmps130
     go_wp2_with fail
     refine (refcfg_calls ⟨n,q,r,p,k,cc⟩ _).mono ?_;rintro e w1 ⟨rfl,hb⟩;rw [cfB_yes Hok.out];have Hb1:=qH (held_next Hb0.out hb);clear hb
     go_wp2_with fail
     go_ret
     exact ⟨rfl,Hb1.out⟩
 · rw [shareV_no (fun h=>hok h.1)]
   have Hok:=qH hok; clear hok
   go_enter Tryz.func130,Tryz.ntmps130
   go_wp2_with fail
   refine (refcfg_calls ⟨n,q,r,p,k,cc⟩ _).mono ?_;rintro e w1 ⟨rfl,hb⟩;rw [cfB_no Hok.out];have Hb1:=qH (held_next Hb0.out hb);clear hb
   go_wp2_with fail
   go_ret
   exact ⟨rfl,Hb1.out⟩
set_option maxRecDepth 100000 in
set_option maxHeartbeats 4000000 in
theorem refof_calls (c:Cf) (a:Option Addr) (m d:Nat) (l:List Rw) (who:Nat) (hm:m=l.length) (h16:m≤16) (hw:who < m) (hF:Fits l) (w:World) (hB:Books w (.slice a m d) l) :
 Calls Tryz.prog 69 #[cfV c,.slice a m d,.int .i64 (who:Int)] w (fun e w'=>e=.returned (.int .i64 (rightsV c l who))∧Below w.heap.size w w'):=by
 have HW:=qH (Whole.made w 23 (cfCells c));have Hb0:=qH (below_box w (.cells (cfCells c) 23));obtain ⟨b,off,A,C,rfl,hbw,c0,c1,c2,hN⟩:=hB.at (k:=who) (by omega)
 have HB:=qH hB; clear hB;have Hm:=qH hm; clear hm;have HF:=qH hF; clear hF;have HN:=qH hN; clear hN;obtain ⟨x,Hx⟩:∃ x,Hid ((at_ l who).inc=x):=⟨_,rfl⟩;obtain ⟨y,Hy⟩:∃ y,Hid ((at_ l who).use=y):=⟨_,rfl⟩;obtain ⟨s,Hs⟩:∃ s,Hid (shareV c who=s):=⟨_,rfl⟩;have hbx:0≤x∧x≤1099511627776:=by have:=HF.out who (by have:=Hm.out; omega); rw [Hx.out] at this; omega
 have hby:0≤y∧y≤1099511627776:=by have:=HF.out who (by have:=Hm.out; omega); rw [Hy.out] at this; omega
 have hbs:0≤s∧s≤1099511627777:=by have:=shareV_bound c who; rw [Hs.out] at this; exact this
 obtain ⟨hx0,hx1⟩:=hbx;obtain ⟨hy0,hy1⟩:=hby;obtain ⟨hs0,hs1⟩:=hbs;obtain ⟨M,HM⟩:∃ M,Hid ((at_ l who).out.length=M):=⟨_,rfl⟩;have hMm:M=m:=by rw [← HM.out,(HF.out who (by have:=Hm.out; omega)).1,← Hm.out]
 rw [Hx.out] at c0;rw [Hy.out] at c1;rw [HM.out,hMm] at c2;have HN':Hid (Nums w (.slice A m C) (at_ l who).out):=by have:=HN.out; rw [HM.out,hMm] at this; exact this
 clear HN;have HMm:=qH hMm; clear hMm
 have KP:Hid (∀ w',Below w.heap.size w w'→w'.cell? ⟨b,off + who * 3,none⟩=some (.int .i64 x)∧w'.cell? ⟨b,off + who * 3 + 1,none⟩=some (.int .i64 y)∧w'.cell? ⟨b,off + who * 3 + 2,none⟩=some (.slice A m C)) :=
  fun w' h=>⟨cell_later h c0,cell_later h c1,cell_later h c2⟩
 clear c0 c1 c2;have k0:(0:Int)≤(who:Int):=by omega
 have k1:(who:Int) < (m:Int):=by omega
 have KC:Hid (∀ w',Below (w.alloc (.cells (cfCells c) 23)).heap.size (w.alloc (.cells (cfCells c) 23)) w'→((w'.cell? ⟨w.heap.size,0,none⟩=some (.int .i64 c.n)∧w'.cell? ⟨w.heap.size,1,none⟩=some (.int .i64 c.q)∧w'.cell? ⟨w.heap.size,2,none⟩=some (.int .i64 c.r)∧w'.cell? ⟨w.heap.size,3,none⟩=some (.int .i64 c.p)∧w'.cell? ⟨w.heap.size,4,none⟩=some (.int .i64 c.k)∧w'.cell? ⟨w.heap.size,5,none⟩=some (.int .i64 c.c)) ∧
  w'.cell? ⟨b,off + who * 3,none⟩=some (.int .i64 x)∧w'.cell? ⟨b,off + who * 3 + 1,none⟩=some (.int .i64 y))):=fun w' h=>by
  have h2:=KP.out w' (held_next Hb0.out h)
  exact ⟨config_cells (HW.out.later h HW.out.lt),h2.1,h2.2.1⟩
 have OS:Hid (∀ w',Calls Tryz.prog 130 #[cfV c,.int .i64 (who:Int)] w' (fun e w''=>e=.returned (.int .i64 s)∧Below w'.heap.size w' w'')):=by rw [← Hs.out]; exact fun w'=>refshare_calls c who w'
 have e1:IntKind.i64.wrap (s + x)=s + x:=IntWalk.i64_in _ (by omega)
 have e2:IntKind.i64.wrap (s + x - y)=s + x - y:=IntWalk.i64_in _ (by omega)
 go_enter Tryz.func69,Tryz.ntmps69
 go_wp2_with fail
 go_region_held3 (fun w'=>(w'.cell? ⟨w.heap.size,0,none⟩=some (.int .i64 c.n)∧w'.cell? ⟨w.heap.size,1,none⟩=some (.int .i64 c.q)∧w'.cell? ⟨w.heap.size,2,none⟩=some (.int .i64 c.r)∧w'.cell? ⟨w.heap.size,3,none⟩=some (.int .i64 c.p)∧w'.cell? ⟨w.heap.size,4,none⟩=some (.int .i64 c.k)∧w'.cell? ⟨w.heap.size,5,none⟩=some (.int .i64 c.c)) ∧
  w'.cell? ⟨b,off + who * 3,none⟩=some (.int .i64 x)∧w'.cell? ⟨b,off + who * 3 + 1,none⟩=some (.int .i64 y))
  (first | exact KC.out _ (Below.refl _ _).drew | exact KC.out _ hS1)
  (first | (go_at_call 130; refine (OS.out _).mono ?_; rintro e w1 ⟨rfl,hb1⟩; have hS1:=held_next ((Below.refl _ _).drew) hb1))
 clear e1 e2 OS KC HW;have Hb1:=qH (held_next Hb0.out hS1);clear hS1 hb1
 go_wp2
 go_loopw [7,8] (fun t i wr=>∃ (k:Nat) (T:Int),k≤m∧i=.int .i64 k∧t=.int .i64 T∧Hid (T=s + x - y + flow l who k)∧Hid (Below w.heap.size w wr)) (fun _ i _=>m - (intOf i).toNat)
 case atStart=>exact ⟨0,s + x - y,Nat.zero_le _,rfl,rfl,show _=_ by simp [flow],Hb1.out⟩
 case round =>
  obtain ⟨k,T,hk,rfl,rfl,HT,Hb⟩:=hrel
  by_cases hlt:k < m
  · have hfb:=flow_bound HF.out (who:=who) (by have:=Hm.out; omega) k (by have:=Hm.out; omega)
    have hT:=HT.out;have hT0:-(1125899906842624 * 17)≤T:=by omega
    have hT1:T≤1125899906842624 * 17:=by omega
    clear hfb hT;obtain ⟨b2,off2,A2,C2,ebo,_,_,_,c2,hN2⟩:=HB.out.at (k:=k) (by have:=Hm.out; omega)
    simp only [Option.some.injEq,Addr.mk.injEq,and_true] at ebo;obtain ⟨rfl,rfl⟩:=ebo;obtain ⟨f1,_,_,_,_,f2⟩:=HF.out k (by have:=Hm.out; omega)
    have f3:=f2 who (by have:=Hm.out; omega)
    obtain ⟨_,_,_,_,_,f4⟩:=HF.out who (by have:=Hm.out; omega)
    have f5:=f4 k (by have:=Hm.out; omega)
    rw [f1,← Hm.out] at c2 hN2;obtain ⟨g2,o2,rfl,_,d2⟩:=hN2.at (i:=who) (by rw [f1,← Hm.out]; exact hw)
    obtain ⟨g1,o1,rfl,_,d1⟩:=HN'.out.at (i:=k) (by rw [HM.out,HMm.out]; exact hlt)
    obtain ⟨p1,Hp1⟩:∃ z,Hid ((at_ l k).out[who]?.getD 0=z):=⟨_,rfl⟩;obtain ⟨p2,Hp2⟩:∃ z,Hid ((at_ l who).out[k]?.getD 0=z):=⟨_,rfl⟩;rw [Hp1.out] at d2 f3;rw [Hp2.out] at d1 f5;obtain ⟨f30,f31⟩:=f3;obtain ⟨f50,f51⟩:=f5;have r2:=cell_later Hb.out c2;have r1:=(KP.out wr Hb.out).2.2;have r3:=cell_later Hb.out d2;have r4:=cell_later Hb.out d1;have Hfl:Hid (flow l who (k + 1)=flow l who k + (p1 - p2)):=by rw [← Hp1.out,← Hp2.out]; exact rfl
    clear f1 f2 f4 c2 hN2 d1 d2;have j0:(0:Int)≤(k:Int):=by omega
    have j1:(k:Int) < (m:Int):=by omega
    have hmb:m≤9223372036854775807:=by omega
    have e1:IntKind.i64.wrap (T + p1)=T + p1:=IntWalk.i64_in _ (by omega)
    have e2:IntKind.i64.wrap (T + p1 - p2)=T + p1 - p2:=IntWalk.i64_in _ (by omega)
    go_wp2
    go_quiet (fail)
    clear e1 e2
    go_wp2
    go_roundw
    case rel=>exact ⟨k + 1,T + p1 - p2,by omega,by go_num,rfl,show _=_ by rw [Hfl.out,HT.out]; omega,below_drewN Hb.out _⟩
    case measure=>simp [intOf]; omega
  · have hkm:k=m:=by omega
    have Hkm:=qH hkm; clear hkm;have hmb:m≤9223372036854775807:=by omega
    have Hv:Hid (T=rightsV c l who):=by
     unfold rightsV
     rw [HT.out,Hs.out,Hx.out,Hy.out,Hkm.out,Hm.out]; exact rfl
    go_wp2
    go_ret
    exact ⟨by rw [← Hv.out]; rfl,Hb.out⟩
end Go.Proofs.YtecjnkokdnmhlaaGreat
namespace Go.Proofs.YtecjnkokdnmhlaaGreat
open Go.RowKit
set_option maxRecDepth 100000 in
set_option maxHeartbeats 4000000 in
theorem refmay_no (a:Option Addr) (m c:Nat) (i u n who:Int) (w:World) (h:who < 0∨n≤who∨(m:Int) ≠ n∨i < 0∨1099511627776 < i∨u < 0∨1099511627776 < u):Calls Tryz.prog 128 #[rowV i u (.slice a m c),.int .i64 n,.int .i64 who] w (Says w false):=by
 by_cases h1:who < 0
 · clear h
   go_enter Tryz.func128,Tryz.ntmps128
   go_wp2
   go_ret
   exact ⟨rfl,below_box _ _⟩
 by_cases h2:n≤who
 · clear h
   go_enter Tryz.func128,Tryz.ntmps128
   go_wp2
   go_ret
   exact ⟨rfl,below_box _ _⟩
 by_cases h3:(m:Int) ≠ n
 · clear h
   have h3':((m:Int) != n)=true:=bne_iff_ne.2 h3
   go_enter Tryz.func128,Tryz.ntmps128
   go_wp2
   go_ret
   exact ⟨rfl,below_box _ _⟩
 have h3e:(m:Int)=n:=by omega
 clear h3;have h3:¬ ((m:Int) ≠ n):=fun k=>k h3e
 subst h3e
 by_cases h4:i < 0
 · clear h
   go_enter Tryz.func128,Tryz.ntmps128
   go_wp2
   go_ret
   exact ⟨rfl,below_box _ _⟩
 by_cases h5:1099511627776 < i
 · clear h
   go_enter Tryz.func128,Tryz.ntmps128
   go_wp2
   go_ret
   exact ⟨rfl,below_box _ _⟩
 by_cases h6:u < 0
 · clear h
   go_enter Tryz.func128,Tryz.ntmps128
   go_wp2
   go_ret
   exact ⟨rfl,below_box _ _⟩
 by_cases h7:1099511627776 < u
 · clear h
   go_enter Tryz.func128,Tryz.ntmps128
   go_wp2
   go_ret
   exact ⟨rfl,below_box _ _⟩
 omega
set_option maxRecDepth 100000 in
set_option maxHeartbeats 4000000 in
theorem refmay_loop (a:Option Addr) (m c:Nat) (i u who:Int) (la:List Int) (hm:m=la.length) (w:World) (hA:Nums w (.slice a m c) la) (h1:0≤who) (h2:who < (m:Int)) (h4:0≤i) (h5:i≤1099511627776) (h6:0≤u) (h7:u≤1099511627776) :
 Calls Tryz.prog 128 #[rowV i u (.slice a m c),.int .i64 (m:Int),.int .i64 who] w (Says w (mayR i u la m who)):=by
 have hbig:m≤9223372036854775807:=by rw [hm]; exact hA.1
 obtain ⟨b,Hbb⟩:∃ b,Hid (mayR i u la m who=b):=⟨_,rfl⟩;rw [Hbb.out];have HA:=qH hA; clear hA;have Hm:=qH hm; clear hm;have HW:=qH (Whole.made w 77 #[.int .i64 i,.int .i64 u,.slice a m c])
 go_enter Tryz.func128,Tryz.ntmps128
 go_wp2
 go_loopw [7] (fun x wr=>∃ k:Nat,k≤m∧x=.int .i64 k∧Hid (∀ q,q < k→0≤la[q]?.getD 0∧la[q]?.getD 0≤mostOf who q)∧Hid (wr=w.alloc (.cells #[.int .i64 i,.int .i64 u,.slice a m c] 77))) (fun x _=>m - (intOf x).toNat)
 case atStart=>exact ⟨0,Nat.zero_le _,rfl,fun q hq=>absurd hq (Nat.not_lt_zero _),rfl⟩
 case round =>
  obtain ⟨k,hk,rfl,Hl,Hw⟩:=hrel;have hw:=Hw.out;subst hw;clear Hw
  by_cases hlt:k < m
  · obtain ⟨g,o,rfl,hg,d⟩:=HA.out.at (i:=k) (by have:=Hm.out; omega)
    obtain ⟨x,Hx⟩:∃ z,Hid (la[k]?.getD 0=z):=⟨_,rfl⟩;rw [Hx.out] at d;have k0:(0:Int)≤(k:Int):=by omega
    have k1:(k:Int) < (m:Int):=by omega
    have Hno:Hid (¬ (0≤x∧x≤mostOf who k)→b=false):=fun hn=>by
     refine Hbb.out.symm.trans (mayR_no fun h=>hn ?_)
     have:=h.2.2.2.2.2 k (by have:=Hm.out; omega)
     rwa [Hx.out] at this
    by_cases hx0:x < 0
    · obtain rfl:b=false:=Hno.out (by omega)
      go_wp2
      go_ret
      exact ⟨by rfl,below_box _ _⟩
    by_cases hx1:1125899906842624 < x
    · obtain rfl:b=false:=Hno.out (by unfold mostOf; split <;> omega)
      go_wp2
      go_ret
      exact ⟨by rfl,below_box _ _⟩
    by_cases hkw:(k:Int)=who
    · by_cases hx2:0 < x
      · obtain rfl:b=false:=Hno.out (by unfold mostOf; rw [if_pos hkw]; omega)
        subst hkw
        go_wp2
        go_ret
        exact ⟨by rfl,below_box _ _⟩
      · have Hy:Hid (0≤x∧x≤mostOf who k):=by unfold mostOf; rw [if_pos hkw]; exact ⟨by omega,by omega⟩
        subst hkw
        go_wp2
        go_roundw
        case rel=>exact ⟨k + 1,by omega,by go_num,(fun q hq=>by
         by_cases e:q=k
         · subst e; rw [Hx.out]; exact Hy.out
         · exact Hl.out q (by omega)),qH trivial⟩
        case measure=>simp [intOf]; omega
    · have Hy:Hid (0≤x∧x≤mostOf who k):=by unfold mostOf; rw [if_neg hkw]; exact ⟨by omega,by omega⟩
      have hkw':((k:Int) == who)=false:=by simpa using hkw
      go_wp2
      go_roundw
      case rel=>exact ⟨k + 1,by omega,by go_num,(fun q hq=>by
       by_cases e:q=k
       · subst e; rw [Hx.out]; exact Hy.out
       · exact Hl.out q (by omega)),qH trivial⟩
      case measure=>simp [intOf]; omega
  · have hkm:k=m:=by omega
    obtain rfl:b=true:=Hbb.out.symm.trans ((mayR_iff _ _ _ _ _).2 ⟨by rw [← Hm.out],h1,h2,⟨h4,h5⟩,⟨h6,h7⟩,fun q hq=>Hl.out q (by have:=Hm.out; omega)⟩)
    have Hkm:=qH hkm; clear hkm
    go_wp2
    go_ret
    exact ⟨by rfl,below_box _ _⟩
theorem refmay_calls (a:Option Addr) (m c:Nat) (i u n who:Int) (la:List Int) (hm:m=la.length) (w:World) (hA:Nums w (.slice a m c) la) :
 Calls Tryz.prog 128 #[rowV i u (.slice a m c),.int .i64 n,.int .i64 who] w (Says w (mayR i u la n who)):=by
 by_cases h:who < 0∨n≤who∨(m:Int) ≠ n∨i < 0∨1099511627776 < i∨u < 0∨1099511627776 < u
 · rw [mayR_no (fun h'=>by rw [← hm] at h'; omega)]
   exact refmay_no a m c i u n who w h
 · obtain rfl:(m:Int)=n:=by omega
   exact refmay_loop a m c i u who la hm w hA (by omega) (by omega) (by omega) (by omega) (by omega) (by omega)
end Go.Proofs.YtecjnkokdnmhlaaGreat
namespace Go.Proofs.YtecjnkokdnmhlaaGreat
open Go.RowKit
set_option maxRecDepth 100000 in
set_option maxHeartbeats 8000000 in
theorem refright_calls (c:Cf) (a:Option Addr) (m d:Nat) (l:List Rw) (hm:m=l.length) (w:World) (hB:Books w (.slice a m d) l) :
 Calls Tryz.prog 62 #[cfV c,.slice a m d] w (Says w (rightB c l)):=by
 have hbig:m≤9223372036854775807:=by rw [hm]; exact hB.big
 have HW:=qH (Whole.made w 23 (cfCells c));have Hb0:=qH (below_box w (.cells (cfCells c) 23));have HB:=qH hB; clear hB;have Hm:=qH hm; clear hm;obtain ⟨n,q,r,p,kk,cc⟩:=c;obtain ⟨res,Hres⟩:∃ z,Hid (rightB ⟨n,q,r,p,kk,cc⟩ l=z):=⟨_,rfl⟩;rw [Hres.out];obtain ⟨ok,Hok⟩:∃ z,Hid (cfB ⟨n,q,r,p,kk,cc⟩=z):=⟨_,rfl⟩
 go_enter Tryz.func62,Tryz.ntmps62
 go_wp2_with fail
 refine (refcfg_calls ⟨n,q,r,p,kk,cc⟩ _).mono ?_;rintro e w1 ⟨rfl,hb⟩;rw [Hok.out];have Hb1:=qH (held_next Hb0.out hb);have HW1:=qH (HW.out.later hb HW.out.lt);clear hb;obtain ⟨d0,d1,d2,d3,d4,d5⟩:=config_cells HW1.out;simp only at d0 d1 d2 d3 d4 d5
 cases ok with
 | false =>
   obtain rfl:res=false:=Hres.out.symm.trans (rightB_no fun h=>by
    have:=cfB_yes h.1;rw [Hok.out] at this
    cases this)
   go_wp2_with fail
   go_ret
   exact ⟨rfl,Hb1.out⟩
 | true =>
   by_cases hnm:(m:Int) ≠ n
   · obtain rfl:res=false:=Hres.out.symm.trans (rightB_no fun h=>hnm (by rw [Hm.out]; exact h.2.1))
     have hnm':((m:Int) != n)=true:=bne_iff_ne.2 hnm
     go_wp2_with fail
     go_ret
     exact ⟨by rfl,Hb1.out⟩
   have hnme:n=(m:Int):=by omega
   clear hnm;subst hnme
   go_wp2_with fail
   clear d0 d1 d2 d3 d4 d5
   go_loopw [5] (fun x wr=>∃ k:Nat,k≤m∧x=.int .i64 k∧Hid (∀ q,q < k→mayR (at_ l q).inc (at_ l q).use (at_ l q).out (m:Int) q=true∧(at_ l q).inc≤cc)∧Hid (Below w.heap.size w wr)∧Hid (Whole wr w.heap.size 23 (cfCells ⟨m,q,r,p,kk,cc⟩))) (fun x _=>m - (intOf x).toNat)
   case atStart=>exact ⟨0,Nat.zero_le _,rfl,fun q hq=>absurd hq (Nat.not_lt_zero _),Hb1.out,HW1.out⟩
   case round =>
    obtain ⟨k,hk,rfl,Hl,Hb,HWr⟩:=hrel;have d0:wr.cell? ⟨w.heap.size,0,none⟩=some (.int .i64 (m:Int)):=HWr.out.cell 0
    by_cases hlt:k < m
    · obtain ⟨b,off,A,C,rfl,_,c0,c1,c2,hN⟩:=HB.out.at (k:=k) (by have:=Hm.out; omega)
      obtain ⟨x,Hx⟩:∃ z,Hid ((at_ l k).inc=z):=⟨_,rfl⟩;obtain ⟨y,Hy⟩:∃ z,Hid ((at_ l k).use=z):=⟨_,rfl⟩;obtain ⟨v,Hv⟩:∃ z,Hid (mayR (at_ l k).inc (at_ l k).use (at_ l k).out (m:Int) k=z):=⟨_,rfl⟩;rw [Hx.out] at c0;rw [Hy.out] at c1;have HN:=qH hN; clear hN
      have KP:Hid (∀ w',Below wr.heap.size wr w'→((w'.cell? ⟨w.heap.size,0,none⟩=some (.int .i64 (m:Int))∧w'.cell? ⟨w.heap.size,5,none⟩=some (.int .i64 cc))∧w'.cell? ⟨b,off + k * 3,none⟩=some (.int .i64 x)∧w'.cell? ⟨b,off + k * 3 + 1,none⟩=some (.int .i64 y)∧w'.cell? ⟨b,off + k * 3 + 2,none⟩=some (.slice A (at_ l k).out.length C))) :=
       fun w' h=>⟨⟨(HWr.out.later h HWr.out.lt).cell 0,(HWr.out.later h HWr.out.lt).cell 5⟩,cell_later (held_next Hb.out h) c0,cell_later (held_next Hb.out h) c1,cell_later (held_next Hb.out h) c2⟩
      have OM:Hid (∀ w',Below wr.heap.size wr w'→Calls Tryz.prog 128 #[rowV x y (.slice A (at_ l k).out.length C),.int .i64 (m:Int),.int .i64 (k:Int)] w' (Says w' v)):=by
       rw [← Hv.out,Hx.out,Hy.out]
       exact fun w' h=>refmay_calls A _ C x y m k (at_ l k).out rfl w' (HN.out.later (held_next Hb.out h))
      clear c0 c1 c2;have k0:(0:Int)≤(k:Int):=by omega
      have k1:(k:Int) < (m:Int):=by omega
      cases v with
      | true =>
        by_cases hxc:cc < x
        · obtain rfl:res=false:=Hres.out.symm.trans (rightB_no fun h=>by
           have:=(h.2.2.1 k (by have:=Hm.out; omega)).2
           rw [Hx.out] at this;simp only at this
           omega)
          go_wp2_with fail
          first | go_region_held3 (fun w'=>(w'.cell? ⟨w.heap.size,0,none⟩=some (.int .i64 (m:Int))∧w'.cell? ⟨w.heap.size,5,none⟩=some (.int .i64 cc))∧w'.cell? ⟨b,off + k * 3,none⟩=some (.int .i64 x)∧w'.cell? ⟨b,off + k * 3 + 1,none⟩=some (.int .i64 y)∧w'.cell? ⟨b,off + k * 3 + 2,none⟩=some (.slice A (at_ l k).out.length C)) (first | exact KP.out _ (Below.refl _ _).drew | exact KP.out _ hS1) (first | (go_at_call 128; refine (OM.out _ (Below.refl _ _).drew).mono ?_; rintro e w2 ⟨rfl,hb1⟩; have hS1:=held_next ((Below.refl _ _).drew) hb1)) | fail
          all_goals go_wp2_with fail
          all_goals go_ret
          all_goals exact ⟨by rfl,held_next Hb.out hS1⟩
        · go_wp2_with fail
          first | go_region_held3 (fun w'=>(w'.cell? ⟨w.heap.size,0,none⟩=some (.int .i64 (m:Int))∧w'.cell? ⟨w.heap.size,5,none⟩=some (.int .i64 cc))∧w'.cell? ⟨b,off + k * 3,none⟩=some (.int .i64 x)∧w'.cell? ⟨b,off + k * 3 + 1,none⟩=some (.int .i64 y)∧w'.cell? ⟨b,off + k * 3 + 2,none⟩=some (.slice A (at_ l k).out.length C)) (first | exact KP.out _ (Below.refl _ _).drew | exact KP.out _ hS1) (first | (go_at_call 128; refine (OM.out _ (Below.refl _ _).drew).mono ?_; rintro e w2 ⟨rfl,hb1⟩; have hS1:=held_next ((Below.refl _ _).drew) hb1)) | fail
          all_goals go_wp2_with fail
          all_goals go_roundw
          case rel=>exact ⟨k + 1,by omega,by go_num,(fun z hz=>by
           by_cases e:z=k
           · subst e; exact ⟨Hv.out,by rw [Hx.out]; omega⟩
           · exact Hl.out z (by omega)),held_next Hb.out hS1,HWr.out.later hS1 HWr.out.lt⟩
          case measure=>simp [intOf]; omega
      | false =>
        obtain rfl:res=false:=Hres.out.symm.trans (rightB_no fun h=>by
         have:=(h.2.2.1 k (by have:=Hm.out; omega)).1
         simp only at this;rw [Hv.out] at this
         cases this)
        go_wp2_with fail
        refine wp_region_held_drew (S:=(fun w'=>(w'.cell? ⟨w.heap.size,0,none⟩=some (.int .i64 (m:Int))∧w'.cell? ⟨w.heap.size,5,none⟩=some (.int .i64 cc))∧w'.cell? ⟨b,off + k * 3,none⟩=some (.int .i64 x)∧w'.cell? ⟨b,off + k * 3 + 1,none⟩=some (.int .i64 y)∧w'.cell? ⟨b,off + k * 3 + 2,none⟩=some (.slice A (at_ l k).out.length C))) (by kernel_rfl) (KP.out _ (Below.refl _ _).drew) (fun hHeld=>?_)
        refine qT 0 23 ?_ rfl ?_ ?_
        rotate_left 1
        · intro w hSw
          try dsimp only at hSw
          go_simp
          try with_reducible rfl
        simp only [Act.put,qA,qB,qC];refine qT 1 24 ?_ rfl ?_ ?_
        rotate_left 1
        · intro w hSw
          try dsimp only at hSw
          go_simp
          try with_reducible rfl
        simp only [Act.put,qA,qB,qC];refine qT 2 25 ?_ rfl ?_ ?_
        rotate_left 1
        · intro w hSw
          try dsimp only at hSw
          go_simp
          try with_reducible rfl
        simp only [Act.put,qA,qB,qC];refine qT 3 26 ?_ rfl ?_ ?_
        rotate_left 1
        · intro w hSw
          try dsimp only at hSw
          go_simp
          try with_reducible rfl
        simp only [Act.put,qA,qB,qC];refine qT 4 27 ?_ rfl ?_ ?_
        rotate_left 1
        · intro w hSw
          try dsimp only at hSw
          go_simp
          try with_reducible rfl
        simp only [Act.put,qA,qB,qC];refine qT 5 28 ?_ rfl ?_ ?_
        rotate_left 1
        · intro w hSw
          try dsimp only at hSw
          go_simp
          try with_reducible rfl
        simp only [Act.put,qA,qB,qC];refine qT 6 29 ?_ rfl ?_ ?_
        rotate_left 1
        · intro w hSw
          try dsimp only at hSw
          go_simp
          try with_reducible rfl
        simp only [Act.put,qA,qB,qC];refine wpAnyH_ready (rs:=[7]) (by kernel_rfl) (by simp) ?_
        refine AllReadyH.cons rfl (fun K hK=>?_) AllReadyH.nil
        go_simp
        go_wp2_with (go_at_call 128; refine (OM.out _ (Below.refl _ _).drew).mono ?_; rintro e w2 ⟨rfl,hb1⟩; have hS1:=held_next ((Below.refl _ _).drew) hb1)
        refine hK.out _ _ (KP.out _ hS1) (fun hHeld2=>?_)
        clear hHeld hK K;refine qT 8 31 ?_ rfl ?_ ?_
        rotate_left 1
        · intro w hSw
          try dsimp only at hSw
          go_simp
          try with_reducible rfl
        simp only [Act.put,qA,qB,qC];refine qT 9 32 ?_ rfl ?_ ?_
        rotate_left 1
        · intro w hSw
          try dsimp only at hSw
          go_simp
          try with_reducible rfl
        simp only [Act.put,qA,qB,qC];refine qS 10 33 rfl ?_;simp only [Act.put,qA,qB,qC];refine qS 11 34 rfl ?_;simp only [Act.put,qA,qB,qC];refine qS 12 35 rfl ?_;simp only [Act.put,qA,qB,qC];refine qS 13 36 rfl ?_;simp only [Act.put,qA,qB,qC];refine qS 14 37 rfl ?_;simp only [Act.put,qA,qB,qC];refine qS 15 38 rfl ?_;simp only [Act.put,qA,qB,qC];refine qS 16 39 rfl ?_;simp only [Act.put,qA,qB,qC]
        refine qS 17 40 rfl ?_;simp only [Act.put,qA,qB,qC];refine qT 18 41 ?_ rfl ?_ ?_
        rotate_left 1
        · intro w hSw
          try dsimp only at hSw
          go_simp
          try with_reducible rfl
        simp only [Act.put,qA,qB,qC];refine wpAnyH_done (by kernel_rfl) ?_ _
        go_wp2_with fail
        go_ret
        exact ⟨by rfl,held_next Hb.out hS1⟩
    · have hkm:k=m:=by omega
      have Hl':Hid (∀ i,i < l.length→mayR (at_ l i).inc (at_ l i).use (at_ l i).out (m:Int) i=true∧(at_ l i).inc≤cc):=fun i hi=>Hl.out i (by have:=Hm.out; omega)
      have HF:Hid (Fits l):=fits_of_may fun i hi=>by rw [← Hm.out]; exact (Hl'.out i hi).1
      have h16:m≤16:=by have:=(cfB_ok Hok.out).2.1; simp only at this; omega
      have Hkm:=qH hkm; clear hkm;clear Hl;have Hbk:=qH Hb.out;have HWk:=qH HWr.out
      go_wp2_with fail
      clear d0
      go_loopw [6] (fun x wr=>∃ k:Nat,k≤m∧x=.int .i64 k∧Hid (∀ z,z < k→0≤rightsV ⟨m,q,r,p,kk,cc⟩ l z)∧Hid (Below w.heap.size w wr)∧Hid (Whole wr w.heap.size 23 (cfCells ⟨m,q,r,p,kk,cc⟩))) (fun x _=>m - (intOf x).toNat)
      case atStart=>exact ⟨0,Nat.zero_le _,rfl,fun q hq=>absurd hq (Nat.not_lt_zero _),Hbk.out,HWk.out⟩
      case round =>
       clear Hbk HWk Hb HWr;obtain ⟨k,hk,rfl,Hg,Hb,HWr⟩:=hrel;obtain ⟨d0,d1,d2,d3,d4,d5⟩:=config_cells HWr.out;simp only at d0 d1 d2 d3 d4 d5
       by_cases hlt:k < m
       · obtain ⟨v,Hv⟩:∃ z,Hid (rightsV ⟨m,q,r,p,kk,cc⟩ l k=z):=⟨_,rfl⟩
         go_wp2_with fail
         refine (refof_calls ⟨m,q,r,p,kk,cc⟩ a m d l k Hm.out h16 hlt HF.out _ (HB.out.later Hb.out)).mono ?_;rintro e w2 ⟨rfl,hb⟩;rw [Hv.out];have Hb2:=qH (held_next Hb.out hb);have HW2:=qH (HWr.out.later hb HWr.out.lt);clear hb d0 d1 d2 d3 d4 d5
         by_cases hv:v < 0
         · obtain rfl:res=false:=Hres.out.symm.trans (rightB_no fun h=>by
            have:=h.2.2.2 k (by have:=Hm.out; omega)
            rw [Hv.out] at this
            omega)
           go_wp2_with fail
           go_ret
           exact ⟨by rfl,Hb2.out⟩
         · go_wp2_with fail
           go_roundw
           case rel=>exact ⟨k + 1,by omega,by go_num,(fun z hz=>by
            by_cases e:z=k
            · subst e; rw [Hv.out]; omega
            · exact Hg.out z (by omega)),Hb2.out,HW2.out⟩
           case measure=>simp [intOf]; omega
       · have hkm:k=m:=by omega
         obtain rfl:res=true:=Hres.out.symm.trans (decide_eq_true ⟨cfB_ok Hok.out,by rw [← Hm.out],Hl'.out,fun i hi=>Hg.out i (by have:=Hm.out; omega)⟩)
         have Hkm2:=qH hkm; clear hkm
         go_wp2_with fail
         go_ret
         exact ⟨by rfl,Hb.out⟩
end Go.Proofs.YtecjnkokdnmhlaaGreat
