/- Parts, as far as NodeAtOnceCards reaches them, of: AuditEnds, RightsKeepMath, RightsKeepEnds, AuditMath, AuditMostMath, AuditRunsMath, NodeMath. No law is proved here. -/
import Derived.Test.YtecjnkokdnmhlaaGreatTa16
import Derived.Test.YtecjnkokdnmhlaaGreatTa11
namespace Go.Proofs.YtecjnkokdnmhlaaGreat
open Go.RowKit
def allSum (x:Au):Nat→Int
 | 0=>0
 | k + 1=>allSum x k + (x.inc[k]?.getD 0 - x.use[k]?.getD 0)
theorem all_other {who:Int} {x:Au} (h0:0≤who):∀ k:Nat,allSum x k=otherA who x k + if who < (k:Int) then x.inc[who.toNat]?.getD 0 - x.use[who.toNat]?.getD 0 else 0
 | 0=>by rw [if_neg (by omega)]; rfl
 | k + 1 => by
   rw [allSum,otherA,all_other h0 k]
   by_cases e:(k:Int)=who
   · have e2:who.toNat=k:=by omega
     rw [if_neg (by omega),if_pos e,if_pos (by omega),e2]
   · rw [if_neg e]
     by_cases h:who < (k:Int)
     · rw [if_pos h,if_pos (by omega)]; omega
     · rw [if_neg h,if_neg (by omega)]; omega
theorem all_bound {c:Cf} {who:Int} {x:Au} (h:runsOk c who x):∀ k:Nat,k≤x.told.length→-(1099511627776 * (k:Int))≤allSum x k∧allSum x k≤1099511627776 * (k:Int)
 | 0,_=>⟨by show -(1099511627776 * (0:Int))≤0; omega,by show (0:Int)≤1099511627776 * (0:Int); omega⟩
 | k + 1, hk => by
   have h1:=all_bound h k (by omega)
   have h2:=h.2.2.2.2.2.2 k (by omega)
   rw [allSum]
   omega
theorem ends_is {c:Cf} {who:Int} {x:Au} {l:List Rw} (h:auOk c who x) (hr:rightOk c l) :
 endsA c who x l=if alB who x 2=true then (if x.moved=true∨(at_ l who.toNat).use ≠ x.use[who.toNat]?.getD 0 then (0,false,true) else (c.k + (at_ l who.toNat).inc - x.inc[who.toNat]?.getD 0 + allSum x x.told.length,true,true)) else (0,false,false):=by
 unfold endsA
 rw [alB_all h (by decide)]
 by_cases h2:x.ph=2∧allA who x
 · rw [if_pos ⟨h,hr,h2⟩,if_pos (decide_eq_true h2)]
   have hl:who < (x.told.length:Int):=by
    rcases h.2.2 with h3 | h3
    · rw [h3] at h2; exact absurd h2.1 (by decide)
    · have:=h3.2.2.1; have:=h.2.1.2; omega
   rw [all_other h.2.1.1,if_pos hl]
   split
   · rfl
   · congr 1; omega
 · rw [if_neg (fun h3=>h2 h3.2.2),if_neg (by rw [decide_eq_false h2]; decide)]
theorem al_runs2 {c:Cf} {who:Int} {x:Au} (h:auOk c who x) (ha:alB who x 2=true):runsOk c who x:=by
 rcases h.2.2 with h2 | h2
 · rw [h2] at ha; exact absurd (of_decide_eq_true ha).1 (by decide)
 · exact h2
set_option maxRecDepth 100000 in
set_option maxHeartbeats 8000000 in
theorem aEnds_calls (c:Cf) (who:Int) (x:Au) (p:Al) (a:Option Addr) (m cp:Nat) (l:List Rw) (hm:m=l.length) (w:World) (hA:AuIn w p x) (hB:Books w (.slice a m cp) l) :
 Calls Tryz.prog 143 #[cfV c,.int .i64 who,auAt x p,.slice a m cp] w (EndsA w (endsA c who x l)):=by
 have HK:Hid (KeptA w w.heap.size c x p ((w.alloc (.cells (cfCells c) 23)).alloc (.cells (auCells x (.slice p.a1 p.m1 p.c1) (.slice p.a2 p.m2 p.c2) (.slice p.a3 p.m3 p.c3)) 33))) :=
  ⟨below_two w _ _,(Whole.made w _ _).alloc _,Whole.made2 w _ _ _⟩
 have HC1:=qH (fun w hA=>aMay_calls c who x p w hA)
 have HC2:=qH (fun w hB=>rRight_calls c a m cp l hm w hB)
 have HC4:=qH (fun w hA=>auall_calls who x p 2 w hA)
 have HA:=qH hA; clear hA;have HB:=qH hB; clear hB;have Hm:=qH hm; clear hm;obtain ⟨a1,m1,k1,a2,m2,k2,a3,m3,k3⟩:=p;obtain ⟨n,q,r,p,kk,cc⟩:=c;obtain ⟨tr,ph,told,use,inc,moved⟩:=x;obtain ⟨res,Hres⟩:∃ z,Hid (endsA ⟨n,q,r,p,kk,cc⟩ who ⟨tr,ph,told,use,inc,moved⟩ l=z):=⟨_,qH rfl⟩;rw [Hres.out];obtain ⟨ok,Hok⟩:∃ z,Hid (auB ⟨n,q,r,p,kk,cc⟩ who ⟨tr,ph,told,use,inc,moved⟩=z):=⟨_,qH rfl⟩;obtain ⟨rt,Hrt⟩:∃ z,Hid (rightB ⟨n,q,r,p,kk,cc⟩ l=z):=⟨_,qH rfl⟩
 obtain ⟨al,Hal⟩:∃ z,Hid (alB who ⟨tr,ph,told,use,inc,moved⟩ 2=z):=⟨_,qH rfl⟩;have no:¬ (ok=true∧rt=true)→res=(0,false,false):=fun h=>Hres.out.symm.trans (if_neg fun h2=>h ⟨Hok.out.symm.trans (decide_eq_true h2.1),Hrt.out.symm.trans (decide_eq_true h2.2.1)⟩)
 have No:=qH no; clear no
 go_enter Tryz.func143,Tryz.ntmps143
 obtain ⟨d0,d1,d2,d3,d4,d5⟩:=config_cells HK.out.2.1;obtain ⟨e0,e1,e2,e3,e4,e5⟩:=au_cells HK.out.2.2;simp only at d0 d1 d2 d3 d4 d5 e0 e1 e2 e3 e4 e5
 go_wp2_with fail
 refine (HC1.out _ (HA.out.later HK.out.1)).mono ?_;rw [Hok.out];rintro e w1 ⟨rfl,hb⟩;have HK1:=qH (HK.out.later hb);clear hb HK d0 d1 d2 d3 d4 d5 e0 e1 e2 e3 e4 e5
 cases ok with
 | false =>
   obtain rfl:=No.out (fun h=>by cases h.1)
   go_wp2_with fail
   refine bodyPost_ret (v:=.tuple #[.int .i64 0,.bool false,.bool false]) (by simp [results,Tryz.results143,go_sem]) rfl ⟨rfl,HK1.out.1⟩
 | true =>
 obtain ⟨d0,d1,d2,d3,d4,d5⟩:=config_cells HK1.out.2.1;simp only at d0 d1 d2 d3 d4 d5
 go_wp2_with fail
 refine (HC2.out _ (HB.out.later HK1.out.1)).mono ?_;rw [Hrt.out];rintro e w2 ⟨rfl,hb⟩;have HK2:=qH (HK1.out.later hb);clear hb HK1 d0 d1 d2 d3 d4 d5
 cases rt with
 | false =>
   obtain rfl:=No.out (fun h=>by cases h.2)
   go_wp2_with fail
   refine bodyPost_ret (v:=.tuple #[.int .i64 0,.bool false,.bool false]) (by simp [results,Tryz.results143,go_sem]) rfl ⟨rfl,HK2.out.1⟩
 | true =>
 clear No;have Hau:=qH (of_decide_eq_true Hok.out);have Hri:=qH (of_decide_eq_true Hrt.out);have HN:=qH (ends_is Hau.out Hri.out);obtain ⟨e0,e1,e2,e3,e4,e5⟩:=au_cells HK2.out.2.2;simp only at e0 e1 e2 e3 e4 e5
 go_wp2_with fail
 refine (HC4.out _ (HA.out.later HK2.out.1)).mono ?_;rw [Hal.out];rintro e w3 ⟨rfl,hb⟩;have HK3:=qH (HK2.out.later hb);clear hb HK2 e0 e1 e2 e3 e4 e5
 cases al with
 | false =>
   obtain rfl:res=(0,false,false):=Hres.out.symm.trans (HN.out.trans (by rw [Hal.out]; rfl))
   go_wp2_with fail
   refine bodyPost_ret (v:=.tuple #[.int .i64 0,.bool false,.bool false]) (by simp [results,Tryz.results143,go_sem]) rfl ⟨rfl,HK3.out.1⟩
 | true =>
 have hrun:=al_runs2 Hau.out Hal.out;have hw0:0≤who:=Hau.out.2.1.1;have hwn:who < n:=Hau.out.2.1.2;have hlen3:(told.length:Int)=n∧(use.length:Int)=n∧(inc.length:Int)=n:=⟨hrun.2.2.1,hrun.2.2.2.1,hrun.2.2.2.2.1⟩;have hln:(l.length:Int)=n:=Hri.out.2.1;have hn16:n≤16:=Hau.out.1.2.1
 have hk0:0≤kk∧kk≤1099511627776:=by
  have h9:=Hau.out.1;have h8:0≤n * cc:=Int.mul_nonneg (by omega) h9.2.2.2.2.2.2.2.2.2.1
  have h7:kk + n * cc≤1099511627776:=h9.2.2.2.2.2.2.2.2.2.2;have h6:0≤kk:=h9.2.2.2.2.2.2.2.2.1
  omega
 have hm1:m1=told.length:=HA.out.1.1;have hm2:m2=use.length:=HA.out.2.1.1;have hm3:m3=inc.length:=HA.out.2.2.1;have hmm:=Hm.out;obtain ⟨b9,off9,A9,C9,rfl,hbw9,r0,r1,r2,hN9⟩:=(HB.out.later HK3.out.1).at (k:=who.toNat) (by omega)
 have hfit:=Hri.out.fits who.toNat (by omega)
 obtain ⟨hf1,hf2,hf3,hf4,hf5,-⟩:=hfit;obtain ⟨ri,Hrin⟩:∃ z,Hid ((at_ l who.toNat).inc=z):=⟨_,rfl⟩;obtain ⟨ru,Hru⟩:∃ z,Hid ((at_ l who.toNat).use=z):=⟨_,rfl⟩;rw [Hrin.out] at r0 hf2 hf3;rw [Hru.out] at r1;obtain ⟨lm,Hlm⟩:∃ z,Hid (z=(at_ l who.toNat).out.length):=⟨_,rfl⟩;rw [← Hlm.out] at r2;obtain ⟨b2,o2,hbe2,hbl2,u0⟩:=(HA.out.2.1.2.later HK3.out.1).at (i:=who.toNat) (show who.toNat < use.length by omega)
 obtain ⟨b3,o3,hbe3,hbl3,v0⟩:=(HA.out.2.2.2.later HK3.out.1).at (i:=who.toNat) (show who.toNat < inc.length by omega)
 simp only at hbe2 hbe3 u0 v0;subst hbe2 hbe3;obtain ⟨uw,Huw⟩:∃ z,Hid (use[who.toNat]?.getD 0=z):=⟨_,rfl⟩;obtain ⟨iw,Hiw⟩:∃ z,Hid (inc[who.toNat]?.getD 0=z):=⟨_,rfl⟩;have hiw:=(hrun.2.2.2.2.2.2 who.toNat (show who.toNat < told.length by omega)).2
 simp only at hiw;rw [Huw.out] at u0;rw [Hiw.out] at v0 hiw
 have HNr:Hid (endsA ⟨n,q,r,p,kk,cc⟩ who ⟨tr,ph,told,use,inc,moved⟩ l=if moved=true∨ru ≠ uw then (0,false,true) else (kk + ri - iw + allSum ⟨tr,ph,told,use,inc,moved⟩ told.length,true,true)):=by
  have h9:=HN.out;rw [Hal.out,if_pos rfl] at h9;rw [Hrin.out,Hru.out,Huw.out,Hiw.out] at h9
  exact h9
 have hwm:who < (m:Int):=by omega
 have hw2:who < (m2:Int):=by omega
 have hw3:who < (m3:Int):=by omega
 obtain ⟨N,hNn⟩:∃ N:Nat,n=(N:Int):=⟨n.toNat,by omega⟩
 subst hNn
 have HN3:Hid (told.length=N∧use.length=N∧inc.length=N∧m2=N∧m3=N∧N≤16):=by
  refine ⟨?_,?_,?_,?_,?_,?_⟩ <;> omega
 have Hrun:=qH hrun;obtain ⟨d0,d1,d2,d3,d4,d5⟩:=config_cells HK3.out.2.1;obtain ⟨e0,e1,e2,e3,e4,e5⟩:=au_cells HK3.out.2.2;simp only at d0 d1 d2 d3 d4 d5 e0 e1 e2 e3 e4 e5;have hbx:=below_box w3 (.cells #[.int .i64 ri,.int .i64 ru,.slice A9 lm C9] 77);have HK4:=qH (HK3.out.later hbx);have HX4:=qH (Whole.made w3 77 #[.int .i64 ri,.int .i64 ru,.slice A9 lm C9]);have hlt3:w.heap.size + 1 < w3.heap.size:=HK3.out.2.2.lt
 have hlt0:w.heap.size < w3.heap.size:=HK3.out.2.1.lt;clear hm1 hm2 hm3 hmm hlen3 hln hwn hn16 hrun hN9 hf1 hf4 hf5 hbx
 cases moved with
 | true =>
   obtain rfl:res=(0,false,true):=Hres.out.symm.trans (HNr.out.trans (if_pos (Or.inl rfl)))
   go_wp2_with fail
   go_quiet (fail)
   go_wp2_with fail
   refine bodyPost_ret (v:=.tuple #[.int .i64 0,.bool false,.bool true]) (by simp [results,Tryz.results143,go_sem]) rfl ⟨rfl,below_drewN HK4.out.1 _⟩
 | false =>
 by_cases hru:ru=uw
 rotate_left 1
 · obtain rfl:res=(0,false,true):=Hres.out.symm.trans (HNr.out.trans (if_pos (Or.inr hru)))
   have hru':(ru != uw)=true:=bne_iff_ne.2 hru;clear hru
   go_wp2_with fail
   go_quiet (fail)
   go_wp2_with fail
   refine bodyPost_ret (v:=.tuple #[.int .i64 0,.bool false,.bool true]) (by simp [results,Tryz.results143,go_sem]) rfl ⟨rfl,below_drewN HK4.out.1 _⟩
 have hru':(ru != uw)=false:=by simp [hru]
 obtain rfl:res=(kk + ri - iw + allSum ⟨tr,ph,told,use,inc,false⟩ told.length,true,true):=Hres.out.symm.trans (HNr.out.trans (if_neg (by simp [hru])))
 clear hru
 go_wp2_with fail
 go_quiet (fail)
 go_wp2_with fail
 go_quiet (fail)
 go_wp2_with fail
 clear d0 d1 d2 d3 d4 d5 e0 e1 e2 e3 e4 e5 r0 r1 r2 u0 v0 hru' hlt0 hlt3 hbw9 hbl2 hbl3 Hres HN HNr HX4 HC1 HC2 HC4;have Hb1:Hid (0≤ri∧ri≤1099511627776∧0≤iw∧iw≤1099511627776∧0≤kk∧kk≤1099511627776):=⟨hf2,hf3,hiw.1,hiw.2,hk0.1,hk0.2⟩;clear hf2 hf3 hiw hk0 hwm hw2 hw3
 go_loopw [8,59] (fun s8 s59 wr=>∃ (k:Nat) (y:Int),k≤N∧s59=.int .i64 (k:Int)∧s8=.int .i64 y∧Hid (kk + ri - iw + allSum ⟨tr,ph,told,use,inc,false⟩ k=y)∧Hid (KeptA w w.heap.size ⟨(N:Int),q,r,p,kk,cc⟩ ⟨tr,ph,told,use,inc,false⟩ ⟨a1,m1,k1,some ⟨b2,o2,none⟩,m2,k2,some ⟨b3,o3,none⟩,m3,k3⟩ wr)) (fun _ s59 _=>N - (intOf s59).toNat)
 case atStart=>exact ⟨0,_,Nat.zero_le _,rfl,rfl,by show kk + ri - iw + 0=_; omega,HK4.out.later (below_drewN (Below.refl _ _) _)⟩
 case round =>
  obtain ⟨k,y,hk,rfl,rfl,Hy,HKr⟩:=hrel
  by_cases hlt:k < N
  · obtain ⟨d0,d1,d2,d3,d4,d5⟩:=config_cells HKr.out.2.1
    obtain ⟨e0,e1,e2,e3,e4,e5⟩:=au_cells HKr.out.2.2;simp only at d0 d1 d2 d3 d4 d5 e0 e1 e2 e3 e4 e5;obtain ⟨b2',o2',hbe2,-,u0⟩:=(HA.out.2.1.2.later HKr.out.1).at (i:=k) (show k < use.length by have:=HN3.out; omega)
    obtain ⟨b3',o3',hbe3,-,v0⟩:=(HA.out.2.2.2.later HKr.out.1).at (i:=k) (show k < inc.length by have:=HN3.out; omega)
    simp only [Option.some.injEq,Addr.mk.injEq,and_true] at hbe2 hbe3 u0 v0;obtain ⟨rfl,rfl⟩:=hbe2;obtain ⟨rfl,rfl⟩:=hbe3;obtain ⟨u,Hu⟩:∃ z,Hid (use[k]?.getD 0=z):=⟨_,rfl⟩;obtain ⟨v,Hv⟩:∃ z,Hid (inc[k]?.getD 0=z):=⟨_,rfl⟩;rw [Hu.out] at u0;rw [Hv.out] at v0;have huv:=Hrun.out.2.2.2.2.2.2 k (show k < told.length by have:=HN3.out; omega)
    rw [show (Au.use ⟨tr,ph,told,use,inc,false⟩)[k]?.getD 0=u from Hu.out,show (Au.inc ⟨tr,ph,told,use,inc,false⟩)[k]?.getD 0=v from Hv.out] at huv
    have hyb:-17592186044416 * 2≤y∧y≤17592186044416 * 2:=by
     have h1:=all_bound Hrun.out k (show k≤told.length by have:=HN3.out; omega)
     have h2:=Hy.out;have h3:=Hb1.out;have h4:=HN3.out
     omega
    have k0:(0:Int)≤(k:Int):=by omega
    have k2':(k:Int) < (m2:Int):=by have:=HN3.out; omega
    have k3':(k:Int) < (m3:Int):=by have:=HN3.out; omega
    have kN:(k:Int) < (N:Int):=by omega
    have hN16:N≤16:=HN3.out.2.2.2.2.2
    have hnext:Hid (kk + ri - iw + allSum ⟨tr,ph,told,use,inc,false⟩ (k + 1)=y + (v - u)):=by
     show kk + ri - iw + (allSum ⟨tr,ph,told,use,inc,false⟩ k + (inc[k]?.getD 0 - use[k]?.getD 0))=_
     rw [Hu.out,Hv.out];have h2:=Hy.out
     omega
    go_wp2_with fail
    go_quiet (fail)
    go_wp2_with fail
    go_roundw
    case rel=>exact ⟨k + 1,_,by omega,by go_num,rfl,hnext.out,HKr.out.later (below_drewN (Below.refl _ _) _)⟩
    case measure=>simp [intOf]; omega
  · have hkN:k=N:=by omega
    have hfin:kk + ri - iw + allSum ⟨tr,ph,told,use,inc,false⟩ told.length=y:=by rw [HN3.out.1,← hkN]; exact Hy.out
    have Hfin:=qH hfin;clear hfin Hy;subst hkN
    go_wp2_with fail
    refine bodyPost_ret (v:=.tuple #[.int .i64 y,.bool true,.bool true]) (by simp [results,Tryz.results143,go_sem]) rfl ⟨by rw [Hfin.out],HKr.out.1⟩
end Go.Proofs.YtecjnkokdnmhlaaGreat
namespace Go.Proofs.YtecjnkokdnmhlaaGreat
open Go.RowKit
theorem flow_same {l l':List Rw} (h:∀ p,(at_ l' p).out=(at_ l p).out) (who:Nat):∀ k,flow l' who k=flow l who k
 | 0=>rfl
 | k + 1=>by rw [flow,flow,flow_same h who k,h,h]
theorem set_out {l:List Rw} {k:Nat} (hk:k < l.length) {r:Rw} (hr:r.out=(at_ l k).out) (p:Nat):(at_ (l.set k r) p).out=(at_ l p).out:=by
 rw [at_set hk]
 by_cases h:p=k
 · rw [if_pos h,hr,h]
 · rw [if_neg h]
theorem rights_set {c:Cf} {l:List Rw} {k:Nat} (hk:k < l.length) {r:Rw} (hr:r.out=(at_ l k).out) (p:Nat) :
 rightsV c (l.set k r) p=rightsV c l p + (if p=k then r.inc - (at_ l k).inc - (r.use - (at_ l k).use) else 0):=by
 unfold rightsV
 rw [flow_same (set_out hk hr),List.length_set,at_set hk]
 by_cases h:p=k
 · subst h; rw [if_pos rfl,if_pos rfl]; omega
 · rw [if_neg h,if_neg h]; omega
theorem sum_set {c:Cf} {l:List Rw} {k:Nat} (hk:k < l.length) {r:Rw} (hr:r.out=(at_ l k).out):∀ n,
 sumRights c (l.set k r) n=sumRights c l n + (if k < n then r.inc - (at_ l k).inc - (r.use - (at_ l k).use) else 0)
 | 0=>by simp [sumRights]
 | n + 1 => by
   rw [sumRights,sumRights,sum_set hk hr n,rights_set hk hr n]
   by_cases h:k < n
   · rw [if_pos h,if_neg (by omega),if_pos (by omega)]; omega
   · by_cases h2:n=k
     · subst h2; rw [if_neg h,if_pos rfl,if_pos (by omega)]; omega
     · rw [if_neg h,if_neg h2,if_neg (by omega)]; omega
theorem right_set {c:Cf} {l:List Rw} (h:rightOk c l) {k:Nat} (hk:k < l.length) {r:Rw} (hr:r.out=(at_ l k).out) (h1:0≤r.inc∧r.inc≤c.c) (h2:0≤r.use∧r.use≤1099511627776)
 (h3:0≤rightsV c l k + (r.inc - (at_ l k).inc - (r.use - (at_ l k).use))):rightOk c (l.set k r):=by
 have hc:=cf_most h.1;refine ⟨h.1,by rw [List.length_set]; exact h.2.1,fun i hi=>?_,fun i hi=>?_⟩
 · rw [List.length_set] at hi
   obtain ⟨e1,e2⟩:=h.2.2.1 i hi
   by_cases hik:i=k
   · subst hik
     rw [at_set hk,if_pos rfl];obtain ⟨g1,g2,g3,_,_,g6⟩:=(mayR_iff _ _ _ _ _).1 e1;refine ⟨(mayR_iff _ _ _ _ _).2 ⟨by rw [hr]; exact g1,g2,g3,⟨h1.1,by omega⟩,h2,by rw [hr]; exact g6⟩,h1.2⟩
   · rw [at_set hk,if_neg hik]; exact ⟨e1,e2⟩
 · rw [List.length_set] at hi
   rw [rights_set hk hr]
   by_cases hik:i=k
   · subst hik; rw [if_pos rfl]; exact h3
   · rw [if_neg hik]; have:=h.2.2.2 i hi; omega
theorem set_num {l:List Int} {j:Nat} (hj:j < l.length) (x:Int) (p:Nat):(l.set j x)[p]?.getD 0=if p=j then x else l[p]?.getD 0:=by
 rw [List.getElem?_set]
 by_cases h:p=j
 · subst h; simp [hj]
 · rw [if_neg (Ne.symm h),if_neg h]
section
variable {c:Cf} {l:List Rw} {k j:Nat} {x:Int}
def moved (l:List Rw) (k j:Nat) (x:Int):List Rw:=l.set k ⟨(at_ l k).inc,(at_ l k).use,(at_ l k).out.set j x⟩
theorem moved_out (hk:k < l.length) (hj:j < (at_ l k).out.length) (p q:Nat):(at_ (moved l k j x) p).out[q]?.getD 0=(at_ l p).out[q]?.getD 0 + (if p=k∧q=j then x - (at_ l k).out[j]?.getD 0 else 0):=by
 unfold moved
 rw [at_set hk]
 by_cases hp:p=k
 · subst hp
   rw [if_pos rfl];simp only;rw [set_num hj]
   by_cases hq:q=j
   · subst hq; simp; omega
   · simp [hq]
 · simp [hp]
theorem flow_moved (hk:k < l.length) (hj:j < (at_ l k).out.length) (who:Nat):∀ n,flow (moved l k j x) who n=flow l who n + (if who=j∧k < n then x - (at_ l k).out[j]?.getD 0 else 0) - (if who=k∧j < n then x - (at_ l k).out[j]?.getD 0 else 0)
 | 0=>by simp [flow]
 | n + 1 => by
   rw [flow,flow,flow_moved hk hj who n,moved_out hk hj,moved_out hk hj]
   generalize x - (at_ l k).out[j]?.getD 0=y
   generalize (at_ l n).out[who]?.getD 0=y1
   generalize (at_ l who).out[n]?.getD 0=y2
   generalize flow l who n=y3
   by_cases a1:who=j <;> by_cases a2:who=k <;> by_cases a3:k < n <;> by_cases a4:j < n <;> by_cases a5:n=k <;> by_cases a6:n=j <;> simp only [a1,a2,a3,a4,a5,a6,true_and,and_true,false_and,and_false,if_true,if_false] <;> (try omega) <;> (repeat' split) <;> omega
end
end Go.Proofs.YtecjnkokdnmhlaaGreat
namespace Go.Proofs.YtecjnkokdnmhlaaGreat
open Go.RowKit
section
variable {c:Cf} {l:List Rw} {k j:Nat} {x:Int}
theorem moved_same (hk:k < l.length) (p:Nat):(at_ (moved l k j x) p).inc=(at_ l p).inc∧(at_ (moved l k j x) p).use=(at_ l p).use∧(at_ (moved l k j x) p).out.length=(at_ l p).out.length:=by
 unfold moved
 rw [at_set hk]
 by_cases h:p=k
 · subst h; rw [if_pos rfl]; exact ⟨rfl,rfl,List.length_set⟩
 · rw [if_neg h]; exact ⟨rfl,rfl,rfl⟩
theorem moved_len:(moved l k j x).length=l.length:=by unfold moved; rw [List.length_set]
theorem rights_moved (hk:k < l.length) (hj:j < (at_ l k).out.length) (hjl:j < l.length) (p:Nat) :
 rightsV c (moved l k j x) p=rightsV c l p + (if p=j then x - (at_ l k).out[j]?.getD 0 else 0) - (if p=k then x - (at_ l k).out[j]?.getD 0 else 0):=by
 unfold rightsV
 obtain ⟨e1,e2,_⟩:=moved_same (j:=j) (x:=x) hk p;rw [e1,e2,moved_len,flow_moved hk hj];simp only [hk,hjl,and_true]
 omega
theorem sum_moved (hk:k < l.length) (hj:j < (at_ l k).out.length) (hjl:j < l.length):∀ n,sumRights c (moved l k j x) n=sumRights c l n + (if j < n then x - (at_ l k).out[j]?.getD 0 else 0) - (if k < n then x - (at_ l k).out[j]?.getD 0 else 0)
 | 0=>by simp [sumRights]
 | n + 1 => by
   rw [sumRights,sumRights,sum_moved hk hj hjl n,rights_moved hk hj hjl n]
   generalize x - (at_ l k).out[j]?.getD 0=y
   generalize sumRights c l n=y1
   generalize rightsV c l n=y2
   by_cases a1:j < n <;> by_cases a2:k < n <;> by_cases a3:n=j <;> by_cases a4:n=k <;> simp only [a1,a2,a3,a4,if_true,if_false] <;> (try omega) <;> (repeat' split) <;> omega
theorem right_moved (h:rightOk c l) (hk:k < l.length) (hj:j < (at_ l k).out.length) (hjl:j < l.length) (hjk:j ≠ k) (h1:(at_ l k).out[j]?.getD 0≤x) (h2:x≤1125899906842624)
 (h3:x - (at_ l k).out[j]?.getD 0≤rightsV c l k):rightOk c (moved l k j x):=by
 refine ⟨h.1,by rw [moved_len]; exact h.2.1,fun i hi=>?_,fun i hi=>?_⟩
 · rw [moved_len] at hi
   obtain ⟨e1,e2⟩:=h.2.2.1 i hi;obtain ⟨m1,m2,m3⟩:=moved_same (j:=j) (x:=x) hk i;obtain ⟨g1,g2,g3,g4,g5,g6⟩:=(mayR_iff _ _ _ _ _).1 e1;refine ⟨(mayR_iff _ _ _ _ _).2 ⟨by rw [m3]; exact g1,g2,g3,by rw [m1]; exact g4,by rw [m2]; exact g5,fun q hq=>?_⟩,by rw [m1]; exact e2⟩
   rw [m3] at hq;have h6:=g6 q hq;rw [moved_out hk hj]
   by_cases hiq:i=k∧q=j
   · obtain ⟨rfl,rfl⟩:=hiq
     rw [if_pos ⟨rfl,rfl⟩]
     unfold mostOf at h6 ⊢
     rw [if_neg (by omega)]
     rw [if_neg (by omega)] at h6
     omega
   · rw [if_neg hiq]; omega
 · rw [moved_len] at hi
   rw [rights_moved hk hj hjl];have h4:=h.2.2.2 i hi;have h5:=h.2.2.2 k hk
   by_cases hij:i=j
   · subst hij; rw [if_pos rfl,if_neg hjk]; omega
   · rw [if_neg hij]
     by_cases hik:i=k
     · subst hik; rw [if_pos rfl]; omega
     · rw [if_neg hik]; omega
end
theorem value_of {c:Cf} {l:List Rw} (h:rightOk c l):valueV c l=sumRights c l l.length:=if_pos h
theorem take_keeps (c:Cf) (l:List Rw) (who amount:Int):(takeR c l who amount).2=0∧(1≤amount∧amount≤1099511627776)∧rightOk c (takeR c l who amount).1∧valueV c (takeR c l who amount).1=valueV c l - amount∨(takeR c l who amount).2 ≠ 0:=by
 unfold takeR
 by_cases h:askedV c l who amount=0
 · rw [if_pos h]
   by_cases h2:amount≤rightsV c l who.toNat
   · rw [if_pos h2]
     by_cases h7:(at_ l who.toNat).use + amount≤1099511627776
     · rw [if_pos h7]
       obtain ⟨hok,h3,h4,h5,h6⟩:=askedV_zero h;have hk:who.toNat < l.length:=by have:=hok.2.1; omega
       obtain ⟨_,f1,f2,f3,f4,_⟩:=hok.fits who.toNat hk;have hc:=(hok.2.2.1 who.toNat hk).2;have hR:rightOk c (l.set who.toNat ⟨(at_ l who.toNat).inc,(at_ l who.toNat).use + amount,(at_ l who.toNat).out⟩):=right_set hok hk rfl ⟨f1,hc⟩ ⟨by simp only; omega,h7⟩ (by simp only; omega)
       refine Or.inl ⟨rfl,⟨h5,h6⟩,hR,?_⟩;rw [value_of hR,value_of hok,List.length_set,sum_set (r:=⟨(at_ l who.toNat).inc,(at_ l who.toNat).use + amount,(at_ l who.toNat).out⟩) hk rfl,if_pos hk];simp only; omega
     · rw [if_neg h7]; exact Or.inr (by simp)
   · rw [if_neg h2]; exact Or.inr (by simp)
 · rw [if_neg h]; exact Or.inr h
theorem move_keeps (c:Cf) (l:List Rw) (who tg amount:Int):(moveR c l who tg amount).2=0∧(1≤amount∧amount≤1099511627776)∧rightOk c (moveR c l who tg amount).1∧valueV c (moveR c l who tg amount).1=valueV c l∧ofV c (moveR c l who tg amount).1 tg=ofV c l tg + amount∨(moveR c l who tg amount).2 ≠ 0:=by
 unfold moveR
 by_cases h0:askedV c l who amount ≠ 1∧0≤tg∧tg < c.n∧tg ≠ who
 · rw [if_pos h0]
   by_cases h:askedV c l who amount=0
   · rw [if_pos h]
     by_cases h2:amount≤rightsV c l who.toNat
     · rw [if_pos h2]
       by_cases h7:(at_ l who.toNat).out[tg.toNat]?.getD 0 + amount≤1125899906842624
       · rw [if_pos h7]
         obtain ⟨hok,h3,h4,h5,h6⟩:=askedV_zero h;obtain ⟨_,t1,t2,t3⟩:=h0;have hk:who.toNat < l.length:=by have:=hok.2.1; omega
         have hjl:tg.toNat < l.length:=by have:=hok.2.1; omega
         obtain ⟨fl,f1,f2,f3,f4,_⟩:=hok.fits who.toNat hk;have hj:tg.toNat < (at_ l who.toNat).out.length:=by omega
         have hR:rightOk c (moved l who.toNat tg.toNat ((at_ l who.toNat).out[tg.toNat]?.getD 0 + amount)):=right_moved hok hk hj hjl (by omega) (by omega) h7 (by omega)
         refine Or.inl ⟨rfl,⟨h5,h6⟩,hR,?_,?_⟩
         · show valueV c (moved l who.toNat tg.toNat ((at_ l who.toNat).out[tg.toNat]?.getD 0 + amount))=valueV c l
           rw [value_of hR,value_of hok,moved_len,sum_moved hk hj hjl,if_pos hjl,if_pos hk]; omega
         · show ofV c (moved l who.toNat tg.toNat ((at_ l who.toNat).out[tg.toNat]?.getD 0 + amount)) tg=ofV c l tg + amount
           unfold ofV
           rw [if_pos ⟨hR,t1,t2⟩,if_pos ⟨hok,t1,t2⟩,rights_moved hk hj hjl,if_pos rfl,if_neg (by omega)]; omega
       · rw [if_neg h7]; exact Or.inr (by simp)
     · rw [if_neg h2]; exact Or.inr (by simp)
   · rw [if_neg h]; exact Or.inr (by simp)
 · rw [if_neg h0]; exact Or.inr (by simp)
end Go.Proofs.YtecjnkokdnmhlaaGreat
namespace Go.Proofs.YtecjnkokdnmhlaaGreat
theorem begin_no {c:Cf} {who tr:Int} (h:¬ (cfOk c∧(0≤who∧who < c.n)∧(1≤tr∧tr≤1125899906842624))):beginA c who tr=(au0,1):=if_neg h
theorem begin_yes {c:Cf} {who tr:Int} (h:cfOk c∧(0≤who∧who < c.n)∧(1≤tr∧tr≤1125899906842624)) :
 beginA c who tr=(⟨tr,1,List.replicate c.n.toNat false,List.replicate c.n.toNat 0,List.replicate c.n.toNat 0,false⟩,0):=if_pos h
theorem rep_at {α:Type} (n i:Nat) (x:α):(List.replicate n x)[i]?.getD x=x:=by
 rw [List.getElem?_replicate]
 split <;> rfl
theorem begin_ok {c:Cf} {who tr:Int} (h:cfOk c∧(0≤who∧who < c.n)∧(1≤tr∧tr≤1125899906842624)) :
 auOk c who ⟨tr,1,List.replicate c.n.toNat false,List.replicate c.n.toNat 0,List.replicate c.n.toNat 0,false⟩:=by
 have hn:=h.1.1;refine ⟨h.1,h.2.1,Or.inr ⟨⟨show 0 < tr by omega,h.2.2.2⟩,Or.inl rfl,?_,?_,?_,rep_at _ _ _,fun i _=>?_⟩⟩
 · show ((List.replicate c.n.toNat false).length:Int)=c.n; rw [List.length_replicate]; omega
 · show ((List.replicate c.n.toNat (0:Int)).length:Int)=c.n; rw [List.length_replicate]; omega
 · show ((List.replicate c.n.toNat (0:Int)).length:Int)=c.n; rw [List.length_replicate]; omega
 · show (0≤(List.replicate c.n.toNat (0:Int))[i]?.getD 0∧(List.replicate c.n.toNat (0:Int))[i]?.getD 0≤1099511627776)∧_
   rw [rep_at]
   exact ⟨⟨by decide,by decide⟩,by decide,by decide⟩
theorem serve_stop {c:Cf} {who:Int} {k:Bk} (h:¬ serveOk c who k):∀ f,serveK c who f k=k
 | 0=>rfl
 | _ + 1=>if_neg h
theorem serve_step {c:Cf} {who:Int} {k:Bk} (h:serveOk c who k):serveK c who k.line.length k=serveK c who (servedK c who k).line.length (servedK c who k):=by
 obtain ⟨x,l,e⟩:=List.exists_cons_of_ne_nil h.1;have e1:k.line.length=l.length + 1:=by rw [e]; rfl
 have e2:(servedK c who k).line.length=l.length:=by show k.line.tail.length=_; rw [e]; rfl
 rw [e1,e2]
 exact if_pos h
theorem serve_less (c:Cf) (who:Int):∀ f k,(serveK c who f k).line.length≤k.line.length
 | 0,_=>Nat.le_refl _
 | f + 1, k => by
   unfold serveK
   split
   · refine Nat.le_trans (serve_less c who f _) ?_
     show k.line.tail.length≤_
     rw [List.length_tail]; omega
   · exact Nat.le_refl _
theorem goes_line (c:Cf) (who:Int) (k:Bk):(goesK c who k).line=k.line:=by unfold goesK; split <;> rfl
theorem once_less (c:Cf) (who:Int) (k:Bk):(onceK c who k).line.length≤k.line.length:=by
 unfold onceK
 rw [goes_line]
 exact serve_less c who _ k
theorem left_less {k:Bk} (h:k.line ≠ []) (code:Int):(leftK k code).line.length < k.line.length:=by
 obtain ⟨x,l,e⟩:=List.exists_cons_of_ne_nil h
 show k.line.tail.length < _
 rw [e]; exact Nat.lt_succ_self _
theorem loop_fuel (c:Cf) (who:Int):∀ (f g:Nat) (k:Bk),k.line.length < f→k.line.length < g→loopK c who f k=loopK c who g k
 | 0,_,_,h,_=>absurd h (Nat.not_lt_zero _)
 | _ + 1,0,_,_,h=>absurd h (Nat.not_lt_zero _)
 | f + 1, g + 1, k, hf, hg => by
   show (if lacksK c who (onceK c who k) then loopK c who f (leftK (onceK c who k) 7) else endsK c who (onceK c who k))=(if lacksK c who (onceK c who k) then loopK c who g (leftK (onceK c who k) 7) else endsK c who (onceK c who k))
   by_cases hl:lacksK c who (onceK c who k)
   · rw [if_pos hl,if_pos hl]
     have h1:=left_less hl.1 7;have h2:=once_less c who k
     exact loop_fuel c who f g _ (by omega) (by omega)
   · rw [if_neg hl,if_neg hl]
theorem loop_step {c:Cf} {who:Int} {k:Bk} (h:lacksK c who (onceK c who k)):loopK c who (k.line.length + 1) k=loopK c who ((leftK (onceK c who k) 7).line.length + 1) (leftK (onceK c who k) 7):=by
 have h1:=left_less h.1 7;have h2:=once_less c who k;refine Eq.trans (if_pos h) ?_
 exact loop_fuel c who _ _ _ (by omega) (by omega)
theorem loop_stop {c:Cf} {who:Int} {k:Bk} (h:¬ lacksK c who (onceK c who k)):loopK c who (k.line.length + 1) k=endsK c who (onceK c who k):=if_neg h
theorem IK.rows {c:Cf} {who:Int} {k:Bk} (h:IK c who k) {l:List Rw} (hl:rightOk c l):IK c who (rowsK k l):=⟨hl,h.2⟩
theorem IK.au {c:Cf} {who:Int} {k:Bk} (h:IK c who k) {a:Au} (ha:auOk c who a) (hn:k.line=[]→a=au0):IK c who (auK k a):=by
 obtain ⟨h1,h2,h3,h4,h5,h6,h7,h8,h9,h10⟩:=h
 exact ⟨h1,h2,h3,h4,h5,h6,h7,fun e=>⟨(h8 e).1,hn e⟩,h9,ha⟩
theorem au0_ok {c:Cf} {who:Int} (h:cfOk c) (hw:0≤who∧who < c.n):auOk c who au0:=⟨h,hw,Or.inl rfl⟩
theorem head_ok {c:Cf} {who:Int} {k:Bk} (h:IK c who k) (hl:k.line ≠ []):oneOk c who (headQ k)∧(headQ k).t≤k.clk:=by
 have hp:0 < k.line.length:=List.length_pos_iff.2 hl
 exact ⟨oneB_iff.1 (h.2.2.2.1.2.2.2 0 hp).1,h.2.2.2.2.2.1 0 hp⟩
theorem IK.left {c:Cf} {who:Int} {k:Bk} (h:IK c who k) (hl:k.line ≠ []) {code:Int} (hc:code=0∨code=7):IK c who (leftK k code):=by
 obtain ⟨ho,ht⟩:=head_ok h hl;obtain ⟨h1,h2,h3,h4,h5,h6,h7,h8,h9,h10⟩:=h;have hp:0 < k.line.length:=List.length_pos_iff.2 hl;refine ⟨h1,h2,h3,leave_stays h4,⟨?_,?_,?_⟩,fun i hi=>?_,fun i hi=>?_,fun _=>⟨rfl,rfl⟩,h9,au0_ok h1.1 h2⟩
 · show (((k.outs ++ [_]).length:Nat):Int) + ((k.line.tail.length:Nat):Int)≤c.q
   rw [List.length_append,List.length_tail]
   show ((k.outs.length + 1:Nat):Int) + _≤_
   have:=h5.1
   omega
 · show (0:Int)≤0; omega
 · show (0:Int)≤c.r; have:=h1.1; exact this.2.2.2.2.1
 · show (rqAt k.line.tail i).t≤k.clk
   rw [rqAt_tail]
   exact h6 (i + 1) (by have:i < k.line.tail.length:=hi; rw [List.length_tail] at this; omega)
 · have hi:i < (k.outs ++ [(⟨(headQ k).t,(headQ k).a,code⟩:Rq)]).length:=hi
   rw [List.length_append] at hi;have hi:i < k.outs.length + 1:=hi
   show outB c who k.clk (rqAt (k.outs ++ [_]) i)=true
   by_cases e:i < k.outs.length
   · rw [rqAt_left _ e]; exact h7 i e
   · have e2:i=k.outs.length:=by omega
     subst e2;rw [rqAt_last]
     unfold outB
     simp only [Bool.and_eq_true];refine ⟨decide_eq_true ho.1,decide_eq_true ⟨ho.2.1,ht⟩,decide_eq_true hc⟩
theorem next_ok {c:Cf} {who:Int} {x:Au} {l:List Rw} (h:auOk c who x) (hr:rightOk c l):auOk c who (nextA c who x l).1∧((nextA c who x l).2=true→x ≠ au0):=by
 unfold nextA
 rw [if_pos ⟨h,hr⟩]
 by_cases h2:x.ph=1∧allA who x
 · rw [if_pos h2]
   rcases h.2.2 with e | e
   · rw [e] at h2; exact absurd h2.1 (by decide)
   · obtain ⟨e1,_,e3,e4,e5,e6,e7⟩:=e
     have hwl:who.toNat < x.use.length:=by have:=h.2.1; omega
     refine ⟨⟨h.1,h.2.1,Or.inr ⟨e1,Or.inr rfl,?_,?_,e5,?_,fun i hi=>?_⟩⟩,fun _ e=>by rw [e] at h2; exact absurd h2.1 (by decide)⟩
     · show ((List.replicate x.told.length false).length:Int)=c.n; rw [List.length_replicate]; exact e3
     · show ((x.use.set who.toNat _).length:Int)=c.n; rw [List.length_set]; exact e4
     · show (List.replicate x.told.length false)[who.toNat]?.getD false=false; exact rep_at _ _ _
     · have hi:i < (List.replicate x.told.length false).length:=hi
       rw [List.length_replicate] at hi;have h9:=e7 i hi;refine ⟨?_,h9.2⟩
       show 0≤(x.use.set who.toNat (at_ l who.toNat).use)[i]?.getD 0∧_
       by_cases e:i=who.toNat
       · subst e
         rw [List.getElem?_set_self hwl];have hf:=hr.fits who.toNat (by have:=hr.2.1; omega)
         exact ⟨hf.2.2.2.1,hf.2.2.2.2.1⟩
       · rw [List.getElem?_set_ne (fun h=>e h.symm)]; exact h9.1
 · rw [if_neg h2]; exact ⟨h,fun e=>by cases e⟩
theorem take_right {c:Cf} {l:List Rw} {who amount:Int} (h:(takeR c l who amount).2=0):rightOk c (takeR c l who amount).1∧valueV c (takeR c l who amount).1=valueV c l - amount:=by
 rcases take_keeps c l who amount with h2 | h2
 · exact ⟨h2.2.2.1,h2.2.2.2⟩
 · exact absurd h h2
theorem IK.served {c:Cf} {who:Int} {k:Bk} (h:IK c who k) (hs:serveOk c who k):IK c who (servedK c who k) :=
 (h.rows (take_right hs.2.2).1).left hs.1 (Or.inl rfl)
theorem IK.serve {c:Cf} {who:Int}:∀ (f:Nat) {k:Bk},IK c who k→IK c who (serveK c who f k)
 | 0,_,h=>h
 | f + 1, k, h => by
   unfold serveK
   split
   · rename_i hs; exact (h.served hs).serve f
   · exact h
theorem IK.goes {c:Cf} {who:Int} {k:Bk} (h:IK c who k):IK c who (goesK c who k):=by
 unfold goesK
 obtain ⟨h1,h2⟩:=next_ok h.2.2.2.2.2.2.2.2.2 h.1
 split
 · rename_i hn
   exact h.au h1 fun e=>absurd (h.2.2.2.2.2.2.2.1 e).2 (h2 hn)
 · exact h
theorem IK.once {c:Cf} {who:Int} {k:Bk} (h:IK c who k):IK c who (onceK c who k):=(h.serve _).goes
theorem IK.ends {c:Cf} {who:Int} {k:Bk} (h:IK c who k):IK c who (endsK c who k):=by
 unfold endsK
 split
 · exact h.au (au0_ok h.1.1 h.2.1) fun _=>rfl
 · exact h
theorem IK.loop {c:Cf} {who:Int}:∀ (f:Nat) {k:Bk},IK c who k→IK c who (loopK c who f k)
 | 0,_,h=>h
 | f + 1, k, h => by
   unfold loopK
   split
   · rename_i hl; exact (h.once.left hl.1 (Or.inr rfl)).loop f
   · exact h.once.ends
theorem IK.move {c:Cf} {who:Int} {k:Bk} (h:IK c who k) (tg amount:Int):IK c who (moveK c who k tg amount):=by
 unfold moveK
 split
 · rename_i hm
   rcases move_keeps c k.rows who tg amount with h2 | h2
   · exact h.rows h2.2.2.1
   · exact absurd hm h2
 · exact h
theorem IK.yield {c:Cf} {who:Int} {k:Bk} (h:IK c who k):IK c who (yieldK c who k):=by
 unfold yieldK
 split
 · exact h.move _ _
 · exact h
theorem IK.settle {c:Cf} {who:Int} {k:Bk} (h:IK c who k):IK c who (settleK c who k):=(h.loop _).yield
theorem IK.book {c:Cf} {who:Int} {k:Bk} (h:IK c who k):bookOk c who k:=by
 obtain ⟨h1,h2,h3,h4,h5,h6⟩:=h
 exact ⟨h1,h2,h3,h4,⟨by omega,h5.2⟩,h6⟩
theorem IK.of_book {c:Cf} {who:Int} {k:Bk} (h:bookOk c who k):IK c who ⟨k.clk,k.rows,k.line,[],k.asks,k.notes,k.au⟩:=by
 obtain ⟨h1,h2,h3,h4,h5,h6,h7,h8⟩:=h;refine ⟨h1,h2,h3,h4,⟨?_,h5.2⟩,h6,fun i hi=>absurd hi (Nat.not_lt_zero _),h8⟩
 show ((([]:List Rq).length:Nat):Int) + (k.line.length:Int)≤c.q
 have:=h4.2.2.1;simp only [List.length_nil]
 omega
end Go.Proofs.YtecjnkokdnmhlaaGreat
