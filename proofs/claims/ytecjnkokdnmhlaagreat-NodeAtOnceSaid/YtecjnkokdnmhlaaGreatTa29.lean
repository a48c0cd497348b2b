/- Parts, as far as NodeAtOnceCards reaches them, of: NodeDec, RightsPut, NodeInc, BookNil, RightsNewOwn. No law is proved here. -/
import Derived.Test.YtecjnkokdnmhlaaGreatTa28
namespace Go.Proofs.YtecjnkokdnmhlaaGreat
open Go.RowKit
def HasD (w:World) (r:Nd × (Int × Int) × Int) (e:Ending) (w':World):Prop :=
 ∃ P:Nl,e=.returned (.tuple #[ndAt r.1 P,.agg #[.int .i64 r.2.1.1,.int .i64 r.2.1.2],.int .i64 r.2.2])∧Below w.heap.size w w'∧Stay (fun b=>b < w.heap.size) w' (fun V=>NdIn V P r.1)
theorem EndTo.one {n0 g:Nat} {E:Nat→Prop} {c:Cf} {who:Int} {x y:Nd} {p:Nl} {code:Int} {W w':World} {e:Ending} (h:EndTo W x p code y e w') (hS:St n0 E W g c who x p code) (hx:code=0→x.bk.outs.length≤1000) (hf:FewK y.bk) (ha:y.asked.length≤1000) :
 ∃ P,e=.returned (.tuple #[ndAt (if code=0 then x else y) P,.int .i64 code])∧Below W.heap.size W w'∧Stay (fun b=>b < n0) w' (fun V=>NdIn V P (if code=0 then x else y)):=by
 obtain ⟨hb,h0,h1⟩:=h
 by_cases hc:code=0
 · rw [if_pos hc]
   exact ⟨p,by rw [h0 hc,hc],hb,(hS.answer (by have:=hx hc; omega)).later hb⟩
 · rw [if_neg hc]
   obtain ⟨P,e1,hO⟩:=h1 hc
   exact ⟨P,e1,hb,fun V hV=>hO.stay hf ha V (hV.wide fun b hb2=>by have:=hS.le; have:=hS.lt; omega)⟩
set_option maxRecDepth 100000 in
set_option maxHeartbeats 8000000 in
theorem ndDec_calls (c:Cf) (who:Int) (x:Nd) (p:Nl) (m:Int) (hf:FewK x.bk) (ha:x.asked.length≤1000) (w:World) (hK:NdIn w p x) :
 Calls Tryz.prog 13 #[cfV c,.int .i64 who,ndAt x p,.int .i64 m] w (HasD w (decNd c who x m)):=by
 have HI:=qH hK;have Hf:=qH hf;have HA:=qH ha;clear hK hf ha;obtain ⟨x1,Hx1⟩:∃ z,Hid (x1N c who x=z):=⟨_,rfl⟩;obtain ⟨k1,Hk1⟩:∃ z,Hid (k1N c who x=z):=⟨_,rfl⟩;obtain ⟨⟨x2,k2,t,u⟩,Hj⟩:∃ z,Hid (joinX c who x1 k1 m=z):=⟨_,rfl⟩;have hd:=dec_is c who x m (x2,k2,t,u) (by rw [Hx1.out,Hk1.out]; exact Hj.out)
 have HIK:=qH hd.2;rw [← hd.1];clear hd
 have hx1:x1.bk.line.length≤1000∧x1.asked.length≤1000:=by
  rw [← Hx1.out]; unfold x1N; split
  · exact ⟨Hf.out.2.1,HA.out⟩
  · exact ⟨Nat.zero_le _,Nat.zero_le _⟩
 have Hx1l:=qH hx1;clear hx1;obtain ⟨x3,Hx3⟩:∃ z,Hid ((if k2=0 then bkN x2 (settleK c who (clearK x2.bk)) else x2)=z):=⟨_,rfl⟩
 obtain ⟨y,Hy⟩:∃ z,Hid ((if k2=0 then bkN x2 (settleK c who (clearK x2.bk)) else x)=z):=⟨_,rfl⟩
 have hy:(if k2=0 then x3 else x)=y:=by rw [← Hy.out,← Hx3.out]; split <;> rfl
 have Hy3:=qH hy;clear hy;simp only;rw [Hy.out];have HC0:=qH ((((Whole.made w 23 (cfCells c)).alloc (.cells (ndAtC x p) 39)).alloc (.cells zeroN 39)).alloc (.cells #[.int .i64 0,.int .i64 0] 48));have HN0:Hid (Whole ((((w.alloc (.cells (cfCells c) 23)).alloc (.cells (ndAtC x p) 39)).alloc (.cells zeroN 39)).alloc (.cells #[.int .i64 0,.int .i64 0] 48)) (w.heap.size + 1) 39 (ndAtC x p)):=qH (((Whole.made2 w _ _ _).alloc _).alloc _)
 have HR0:Hid (Whole ((((w.alloc (.cells (cfCells c) 23)).alloc (.cells (ndAtC x p) 39)).alloc (.cells zeroN 39)).alloc (.cells #[.int .i64 0,.int .i64 0] 48)) (w.heap.size + 1 + 1) 39 zeroN):=qH ((Whole.madeAt _ _ _ _ (by simp)).alloc _)
 have HT0:Hid (Whole ((((w.alloc (.cells (cfCells c) 23)).alloc (.cells (ndAtC x p) 39)).alloc (.cells zeroN 39)).alloc (.cells #[.int .i64 0,.int .i64 0] 48)) (w.heap.size + 1 + 1 + 1) 48 #[.int .i64 0,.int .i64 0]):=qH (Whole.madeAt _ _ _ _ (by simp))
 have HB0:Hid (Below w.heap.size w ((((w.alloc (.cells (cfCells c) 23)).alloc (.cells (ndAtC x p) 39)).alloc (.cells zeroN 39)).alloc (.cells #[.int .i64 0,.int .i64 0] 48))):=qH (((below_two w _ _).alloc (by simp; omega) _).alloc (by simp; omega) _)
 obtain ⟨W0,HW⟩:∃ z,Hid (((((w.alloc (.cells (cfCells c) 23)).alloc (.cells (ndAtC x p) 39)).alloc (.cells zeroN 39)).alloc (.cells #[.int .i64 0,.int .i64 0] 48))=z):=⟨_,rfl⟩;rw [HW.out] at HC0 HN0 HR0 HT0 HB0;have OB:=qH (begin18_calls c who x p Hf.out HA.out W0 (HI.out.later HB0.out));have hlt:=HT0.out.lt
 go_enter Tryz.func13,Tryz.ntmps13
 go_wp2_with fail
 try rw [HW.out]
 refine OB.out.mono ?_;rintro e W1 ⟨g,p1,rfl,hb,hS⟩;rw [show (if nodeOk c who x then x else nd0)=x1 from Hx1.out,show (if nodeOk c who x then (0:Int) else 1)=k1 from Hk1.out] at hS
 have HS1:=qH hS;have HB1:=qH hb;have OJ:=qH (join18_calls hS m Hx1l.out.1 Hx1l.out.2);rw [Hj.out] at OJ;clear hS hb OB hlt
 go_wp2_with fail
 refine OJ.out.mono ?_;rintro e W2 ⟨rfl,p2,hS2,hK2⟩;have HB2:=qH (HB1.out.trans (HS1.out.low hK2));have hbx:=below_box W2 (.cells #[.int .i64 t,.int .i64 u] 48);have HS3:=qH (hS2.later hbx);have H12':=qH (Whole.made W2 48 #[.int .i64 t,.int .i64 u]);have HB3:=qH (HB2.out.trans (hbx.mono HB2.out.size));have Hsz2:Hid (W0.heap.size≤W2.heap.size):=qH HB2.out.size;clear hS2 hK2 hbx OJ
 try simp only
 go_wp2_with fail
 obtain ⟨b12,Hb12e⟩:∃ z,Hid (W2.heap.size=z):=⟨_,rfl⟩;obtain ⟨W3,HW3⟩:∃ z,Hid (W2.alloc (.cells #[.int .i64 t,.int .i64 u] 48)=z):=⟨_,rfl⟩;rw [HW3.out] at HS3 H12' HB3 ⊢;rw [Hb12e.out] at H12' Hsz2 ⊢;have OS:=qH (settle18_calls HS3.out HIK.out)
 try simp only at OS
 rw [Hx3.out] at OS;refine OS.out.mono ?_;rintro e W4 ⟨rfl,p4,hS4,hK4⟩;have HS4:=qH hS4;have HB4:=qH (HB3.out.trans (HS3.out.low hK4));have H124:=qH (hK4.whole H12'.out (HS3.out.whole_ne H12'.out (by decide)) (HS3.out.own_other H12'.out (by decide)))
 have HN4:=qH (HN0.out.later HB4.out HN0.out.lt);clear hS4 hK4 OS;have OE:=qH (end18_calls HS4.out x p (HI.out.later (held_next HB0.out HB4.out)) Hf.out HA.out);obtain ⟨⟨q0,q1,q2,q3⟩,⟨q4,q5,q6,q7⟩,⟨q8,q9,q10,q11⟩,q12,q13,q14⟩:=nd_cells HN4.out;have hlt4:=HN4.out.lt
 go_wp2_with fail
 refine OE.out.mono ?_;rintro e W5 hE;obtain ⟨P,he,hb5,hst⟩:=hE.one HS4.out (fun h=>by rw [← Hx3.out,if_pos h]; exact ((HIK.out h).settle).few.2.1) Hf.out HA.out
 rw [Hy3.out] at he hst;subst he;have hbx:=below_box W5 (.cells (ndAtC y P) 39);have H13':=qH (Whole.made W5 39 (ndAtC y P));have HB5:=qH (HB4.out.trans (hb5.mono HB4.out.size));have HB06:=qH (HB5.out.trans (hbx.mono HB5.out.size));have H125:=qH ((H124.out.later hb5 H124.out.lt).later hbx (H124.out.later hb5 H124.out.lt).lt);have HST5:=qH (hst.later hbx);have Hsz5:Hid (W0.heap.size≤W5.heap.size):=qH HB5.out.size
 clear hE hb5 hst hbx OE q0 q1 q2 q3 q4 q5 q6 q7 q8 q9 q10 q11 q12 q13 q14 hlt4
 go_wp2_with fail
 obtain ⟨b13,Hb13e⟩:∃ z,Hid (W5.heap.size=z):=⟨_,rfl⟩;obtain ⟨W6,HW6⟩:∃ z,Hid (W5.alloc (.cells (ndAtC y P) 39)=z):=⟨_,rfl⟩;rw [HW6.out] at H13' HB06 H125 HST5 ⊢;rw [Hb13e.out] at H13' Hsz5 ⊢;have Hb12:=qH Hsz2.out;have Hb13:=qH Hsz5.out;have H12:=qH H125.out;have H13:=qH H13'.out;have HST6:=qH HST5.out;have HB6:=qH (held_next HB0.out HB06.out);have HR6:=qH (HR0.out.later HB06.out HR0.out.lt);have HT6:=qH (HT0.out.later HB06.out HT0.out.lt)
 have hw0:w.heap.size + 1 + 1 + 1 < W0.heap.size:=HT0.out.lt;clear HS1 HB1 HB2 HS3 H12' HB3 Hsz2 HS4 HB4 H124 HN4 H13' HB5 H125 HST5 Hsz5;refine wp_region_each_at ?hm ?hb (fun a0 d a' w'=>∃ (e0 e1 e2 e5:Value),a'=putAll a0 [(30,e0),(31,e1),(32,e2),(10,e5)]∧Below w.heap.size W6 w'∧(d 0=true→e0=(ndAt y P))∧(d 1=true→e1=(.agg #[.int .i64 t,.int .i64 u]))∧(d 2=true→e2=(.int .i64 k2))∧(d 3=true→Whole w' (w.heap.size + 1 + 1) 39 (ndAtC y P))∧(d 4=true→(d 1=true∧Whole w' (w.heap.size + 1 + 1 + 1) 48 #[.int .i64 t,.int .i64 u]))∧(d 5=true→e5=(.int .i64 k2))∧(d 3=false→Whole w' (w.heap.size + 1 + 1) 39 zeroN)∧(d 4=false→Whole w' (w.heap.size + 1 + 1 + 1) 48 #[.int .i64 0,.int .i64 0])∧Whole w' b12 48 #[.int .i64 t,.int .i64 u]∧Whole w' b13 39 (ndAtC y P)∧ButS (fun b=>b=w.heap.size + 1 + 1∨b=w.heap.size + 1 + 1 + 1) W6 w') ?h0 ?step ?ends
 case hm=>kernel_rfl
 case hb=>kernel_rfl
 case h0 =>
  refine ⟨undef,undef,undef,(.int .i64 0),?_,(Below.refl _ _).drew,fun h=>absurd h (by decide),fun h=>absurd h (by decide),fun h=>absurd h (by decide),fun h=>absurd h (by decide),fun h=>absurd h (by decide),fun h=>absurd h (by decide),fun _=>HR6.out.drew,fun _=>HT6.out.drew,H12.out.drew,H13.out.drew,ButS.of (Below.refl _ _).drew⟩
  simp only [putAll,Act.put,qA,qB,qC]
 case step =>
  intro i d a' w' hi hJ hd hk;obtain ⟨e0,e1,e2,e5,rfl,hC⟩:=hJ;obtain ⟨hB,hC⟩:=hC;obtain ⟨c0,hC⟩:=hC;obtain ⟨c1,hC⟩:=hC;obtain ⟨c2,hC⟩:=hC;obtain ⟨c3,hC⟩:=hC;obtain ⟨c4,hC⟩:=hC;obtain ⟨c5,hC⟩:=hC;obtain ⟨cr,hC⟩:=hC;obtain ⟨ct,hC⟩:=hC;obtain ⟨c12,hC⟩:=hC;obtain ⟨c13,hC⟩:=hC;have cu:=hC;clear hC;have Xc0:=qH c0; clear c0;have Xc1:=qH c1; clear c1;have Xc2:=qH c2; clear c2;have Xc3:=qH c3; clear c3;have Xc4:=qH c4; clear c4
  have Xc5:=qH c5; clear c5;have Xcr:=qH cr; clear cr;have Xct:=qH ct; clear ct;have Xc12:=qH c12; clear c12;have Xc13:=qH c13; clear c13;have Xcu:=qH cu; clear cu
  match i,hi,hd,hk with
  | 0, _, hd, hk =>
    have c13:=Xc13.out;obtain ⟨⟨q0,q1,q2,q3⟩,⟨q4,q5,q6,q7⟩,⟨q8,q9,q10,q11⟩,q12,q13,q14⟩:=nd_cells c13;clear c13;apply wpOp_at
    case ho=>rfl
    intro K hK;simp only [putAll,Act.put,qA,qB,qC];go_simp;refine hK _ _ ⟨(ndAt y P),_,_,_,?_,hB,fun _=>rfl,Xc1,Xc2,Xc3,Xc4,Xc5,Xcr.out,Xct.out,Xc12,Xc13,Xcu.out⟩
    simp only [putAll,Act.put,qA,qB,qC]
  | 1, _, hd, hk =>
    have c12:=Xc12.out;have q0:=c12.cell 0;have q1:=c12.cell 1;clear c12;apply wpOp_at
    case ho=>rfl
    intro K hK;simp only [putAll,Act.put,qA,qB,qC];go_simp;have c4:=Xc4.out;refine hK _ _ ⟨_,(.agg #[.int .i64 t,.int .i64 u]),_,_,?_,hB,Xc0,fun _=>rfl,Xc2,Xc3,fun h=>Bool.noConfusion (hd.symm.trans (c4 h).1),Xc5,Xcr.out,Xct.out,Xc12,Xc13,Xcu.out⟩
    simp only [putAll,Act.put,qA,qB,qC]
  | 2, _, hd, hk =>
    apply wpOp_at
    case ho=>rfl
    intro K hK;simp only [putAll,Act.put,qA,qB,qC];go_simp;refine hK _ _ ⟨_,_,(.int .i64 k2),_,?_,hB,Xc0,Xc1,fun _=>rfl,Xc3,Xc4,Xc5,Xcr.out,Xct.out,Xc12,Xc13,Xcu.out⟩
    simp only [putAll,Act.put,qA,qB,qC]
  | 3, _, hd, hk =>
    have h0:=hk 0 (by decide +kernel)
    have c0:=Xc0.out;have cr:=Xcr.out;have c12:=Xc12.out;have c13:=Xc13.out;obtain rfl:=c0 h0;have hr9:=cr hd;have hW8:Whole (nd15p w' (w.heap.size + 1 + 1) y P) (w.heap.size + 1 + 1) 39 (ndAtC y P):=nd15_whole hr9;obtain ⟨⟨z0,z1,z2,z3⟩,⟨z4,z5,z6,z7⟩,⟨z8,z9,z10,z11⟩,z12,z13,z14⟩:=nd_cells hr9;have y0:=hr9.free 0;have y1:=hr9.free 1;have y2:=hr9.free 2;have y3:=hr9.free 3;have y4:=hr9.free 4;have y5:=hr9.free 5
    have y6:=hr9.free 6;have y7:=hr9.free 7;have y8:=hr9.free 8;have y9:=hr9.free 9;have y10:=hr9.free 10;have y11:=hr9.free 11;have y12:=hr9.free 12;have y13:=hr9.free 13;have y14:=hr9.free 14;have hbt:ButS (fun b=>b=w.heap.size + 1 + 1) w' (nd15p w' (w.heap.size + 1 + 1) y P):=nd15_buts (ButS.refl _ _) rfl
    have e12:Whole (nd15p w' (w.heap.size + 1 + 1) y P) b12 48 #[.int .i64 t,.int .i64 u]:=(hbt.2 b12 c12.lt (by have:=Hb12.out; omega)).trans c12
    have e13:Whole (nd15p w' (w.heap.size + 1 + 1) y P) b13 39 (ndAtC y P):=(hbt.2 b13 c13.lt (by have:=Hb13.out; omega)).trans c13
    have e9:∀ cs,Whole w' (w.heap.size + 1 + 1 + 1) 48 cs→Whole (nd15p w' (w.heap.size + 1 + 1) y P) (w.heap.size + 1 + 1 + 1) 48 cs:=fun cs h=>(hbt.2 _ h.lt (by omega)).trans h
    clear c0 cr c12 c13;apply wpOp_at
    case ho=>rfl
    intro K hK;simp only [putAll,Act.put,qA,qB,qC];go_simp;have c4:=Xc4.out;have ct:=Xct.out;have cu:=Xcu.out;refine hK _ _ ⟨(ndAt y P),_,_,_,?_,nd15_below hB (by omega),Xc0,Xc1,Xc2,fun _=>hW8,fun h=>⟨(c4 h).1,e9 _ (c4 h).2⟩,Xc5,fun h=>Bool.noConfusion (show true=false from h),fun h=>e9 _ (ct h),e12,e13,nd15_buts cu (Or.inl rfl)⟩
    simp only [putAll,Act.put,qA,qB,qC]
  | 4, _, hd, hk =>
    have h1:=hk 1 (by decide +kernel)
    have h3:=hk 3 (by decide +kernel)
    have c1:=Xc1.out;have ct:=Xct.out;obtain rfl:=c1 h1;have hr9:=ct hd;have v0:=hr9.cell 0;have v1:=hr9.cell 1;have u0:=hr9.free 0;have u1:=hr9.free 1;have hW8:=(hr9.set 0 (.int .i64 t)).set 1 (.int .i64 u);simp only [List.setIfInBounds_toArray,List.set_cons_zero,List.set_cons_succ] at hW8;have hbt:ButS (fun b=>b=w.heap.size + 1 + 1 + 1) w' ((w'.setCell ⟨w.heap.size + 1 + 1 + 1,0,none⟩ (.int .i64 t)).setCell ⟨w.heap.size + 1 + 1 + 1,1,none⟩ (.int .i64 u)):=((ButS.refl (fun b=>b=w.heap.size + 1 + 1 + 1) w').set (p:=⟨w.heap.size + 1 + 1 + 1,0,none⟩) rfl _).set (p:=⟨w.heap.size + 1 + 1 + 1,1,none⟩) rfl _
    clear c1 ct;apply wpOp_at
    case ho=>rfl
    intro K hK;simp only [putAll,Act.put,qA,qB,qC];go_simp;have c3:=Xc3.out;have c12:=Xc12.out;have c13:=Xc13.out;have cu:=Xcu.out;refine hK _ _ ⟨_,(.agg #[.int .i64 t,.int .i64 u]),_,_,?_,(hB.setCell (p:=⟨w.heap.size + 1 + 1 + 1,0,none⟩) (show w.heap.size≤w.heap.size + 1 + 1 + 1 by omega) _).setCell (p:=⟨w.heap.size + 1 + 1 + 1,1,none⟩) (show w.heap.size≤w.heap.size + 1 + 1 + 1 by omega) _,Xc0,Xc1,Xc2,fun h=>(hbt.2 _ (c3 h).lt (by omega)).trans (c3 h),fun _=>⟨h1,hW8⟩,Xc5,fun h=>absurd (h3.symm.trans h) (by decide),fun h=>Bool.noConfusion (show true=false from h),(hbt.2 b12 c12.lt (by have:=Hb12.out; omega)).trans c12,(hbt.2 b13 c13.lt (by have:=Hb13.out; omega)).trans c13,(cu.set (p:=⟨w.heap.size + 1 + 1 + 1,0,none⟩) (Or.inr rfl) _).set (p:=⟨w.heap.size + 1 + 1 + 1,1,none⟩) (Or.inr rfl) _⟩
    simp only [putAll,Act.put,qA,qB,qC]
  | 5, _, hd, hk =>
    have h0:=hk 0 (by decide +kernel)
    have h1:=hk 1 (by decide +kernel)
    have h2:=hk 2 (by decide +kernel)
    have h3:=hk 3 (by decide +kernel)
    have h4:=hk 4 (by decide +kernel)
    have c0:=Xc0.out;have c1:=Xc1.out;have c2:=Xc2.out;obtain rfl:=c0 h0;obtain rfl:=c1 h1;obtain rfl:=c2 h2;clear c0 c1 c2;apply wpOp_at
    case ho=>rfl
    intro K hK;simp only [putAll,Act.put,qA,qB,qC];go_simp;refine hK _ _ ⟨(ndAt y P),(.agg #[.int .i64 t,.int .i64 u]),(.int .i64 k2),(.int .i64 k2),?_,hB,Xc0,Xc1,Xc2,Xc3,Xc4,fun _=>rfl,Xcr.out,Xct.out,Xc12,Xc13,Xcu.out⟩
    simp only [putAll,Act.put,qA,qB,qC]
  | k + 6,hi,_,_=>exact absurd hi (by simp)
 case ends =>
  intro d a' w' hJ hall;obtain ⟨e0,e1,e2,e5,rfl,hC⟩:=hJ;obtain ⟨hB,hC⟩:=hC;obtain ⟨c0,hC⟩:=hC;obtain ⟨c1,hC⟩:=hC;obtain ⟨c2,hC⟩:=hC;obtain ⟨c3,hC⟩:=hC;obtain ⟨c4,hC⟩:=hC;obtain ⟨c5,hC⟩:=hC;obtain ⟨cr,hC⟩:=hC;obtain ⟨ct,hC⟩:=hC;obtain ⟨c12,hC⟩:=hC;obtain ⟨c13,hC⟩:=hC;have cu:=hC;clear hC;have HE8:=qH (c3 (hall 3 (by decide +kernel)))
  have HE9:=qH (c4 (hall 4 (by decide +kernel))).2
  have HU:=qH cu;have HBe:=qH hB;obtain rfl:=c0 (hall 0 (by decide +kernel))
  obtain rfl:=c1 (hall 1 (by decide +kernel))
  obtain rfl:=c2 (hall 2 (by decide +kernel))
  obtain rfl:=c5 (hall 5 (by decide +kernel))
  clear c3 c4 cr ct c12 c13 cu hall hB;simp only [putAll,Act.put,qA,qB,qC];obtain ⟨⟨k0,k1,k2',k3⟩,⟨k4,k5,k6,k7⟩,⟨k8,k9,k10,k11⟩,k12,k13,k14⟩:=nd_cells HE8.out;have j0:=HE9.out.cell 0;have j1:=HE9.out.cell 1
  simp at j0 j1
  go_wp2_with fail
  refine bodyPost_ret (v:=.tuple #[ndAt y P,.agg #[.int .i64 t,.int .i64 u],.int .i64 k2]) (by simp [results,Tryz.results13,go_sem,k0,k1,k2',k3,k4,k5,k6,k7,k8,k9,k10,k11,k12,k13,k14,j0,j1]) rfl ⟨P,rfl,HB6.out.trans HBe.out,fun V hV=>HST6.out V ?_⟩
  exact (HU.out.wide fun b e=>by omega).trans (hV.wide fun b e=>by omega)
end Go.Proofs.YtecjnkokdnmhlaaGreat
namespace Go.Proofs.YtecjnkokdnmhlaaGreat
open Go.RowKit
def HasI (w:World) (r:Nd × Int) (e:Ending) (w':World):Prop :=
 ∃ P:Nl,e=.returned (.tuple #[ndAt r.1 P,.int .i64 r.2])∧Below w.heap.size w w'∧Stay (fun b=>b < w.heap.size) w' (fun V=>NdIn V P r.1)
end Go.Proofs.YtecjnkokdnmhlaaGreat
namespace Go.Proofs.YtecjnkokdnmhlaaGreat
open Go.RowKit
abbrev bl0:Bl:=⟨none,0,0,none,0,0,none,0,0,none,0,0,⟨none,0,0,none,0,0,none,0,0⟩⟩
theorem nums_nil' (w:World):Nums w (.slice none 0 0) []:=elems_nil w none 0 1 _ (fun _=>rfl)
theorem bools_nil' (w:World):Bools w (.slice none 0 0) []:=elems_nil w none 0 1 _ (fun _=>rfl)
theorem notes_nil' (w:World):Notes w (.slice none 0 0) []:=elems_nil w none 0 7 _ (fun _=>rfl)
theorem au_in0 (w:World):AuIn w ⟨none,0,0,none,0,0,none,0,0⟩ au0:=⟨⟨rfl,bools_nil' w⟩,⟨rfl,nums_nil' w⟩,rfl,nums_nil' w⟩
theorem bk_in0 (w:World):BkIn w bl0 bk0:=⟨⟨rfl,books_nil _ _ _ (fun _=>rfl)⟩,⟨rfl,Line.nil _ _ _ (fun _=>rfl)⟩,⟨rfl,Line.nil _ _ _ (fun _=>rfl)⟩,⟨rfl,notes_nil' w⟩,au_in0 w⟩
end Go.Proofs.YtecjnkokdnmhlaaGreat
namespace Go.Proofs.YtecjnkokdnmhlaaGreat
open Go.RowKit
set_option maxRecDepth 100000 in
set_option maxHeartbeats 8000000 in
theorem rNew_own (c:Cf) (w:World):Calls Tryz.prog 133 #[cfV c] w (fun e w'=>∃ A C B,e=.returned (.slice A (newL c).length C)∧w.heap.size≤B∧OwnBooks w' B (.slice A (newL c).length C) (newL c)∧Below w.heap.size w w'):=by
 have HW:=qH (Whole.made w 23 (cfCells c));have Hb0:=qH (below_box w (.cells (cfCells c) 23));obtain ⟨n,q,r,p,kk,cc⟩:=c;obtain ⟨ok,Hok⟩:∃ z,Hid (cfB ⟨n,q,r,p,kk,cc⟩=z):=⟨_,rfl⟩;obtain ⟨L,HL⟩:∃ L,Hid (newL ⟨n,q,r,p,kk,cc⟩=L):=⟨_,rfl⟩;rw [HL.out]
 go_enter Tryz.func133,Tryz.ntmps133
 go_wp2_with fail
 refine (rMay_calls ⟨n,q,r,p,kk,cc⟩ _).mono ?_;rintro e w1 ⟨rfl,hb⟩;rw [Hok.out];have Hb1:=qH (held_next Hb0.out hb);have HW1:=qH (HW.out.later hb HW.out.lt);clear hb
 cases ok with
 | false =>
   obtain rfl:L=[]:=HL.out.symm.trans (if_neg fun h=>by
    have:=cfB_yes h;rw [Hok.out] at this
    cases this)
   go_wp2_with fail
   go_ret
   exact ⟨none,0,_,by rfl,Nat.le_refl _,ownBooks_nil _ _,Hb1.out⟩
 | true =>
   have hok:=cfB_ok Hok.out;obtain ⟨m,hmn⟩:∃ m:Nat,n=(m:Int):=⟨n.toNat,by have:=hok.1; simp only at this; omega⟩
   subst hmn;have h16:m≤16:=by have:=hok.2.1; simp only at this; omega
   have hl:L=List.replicate m (zeroRow m):=by
    rw [← HL.out]
    unfold newL
    rw [if_pos hok]; rfl
   have Hll:Hid (L.length=m):=by rw [hl]; exact List.length_replicate
   have Hat:Hid (∀ k,k < m→at_ L k=zeroRow m):=fun k hk=>by rw [hl]; simp [at_,hk]
   have Hhl:=qH hl;clear hok hl
   have hmk1:∀ w:World,(Instr.makeSlice 24 (.int .i64 (m:Int)) (.int .i64 (m:Int))).run Tryz.prog w=.ok (.slice (some ⟨w.heap.size,0,none⟩) m m) (w.alloc (.cells (madeCells #[.int .i64 0,.int .i64 0,.slice none 0 0] (m * 3)) 77)):=by
    intro w;obtain ⟨i0,hi,hz0,hz1,hz2⟩:=info_parts info_row;have:=run_make (P:=Tryz.prog) w 24 77 i0 (.agg #[.int .i64 0,.int .i64 0,.slice none 0 0]) Tryz.underlying24 hi hz0 .i64 .i64 (m:Int) (m:Int) (by omega) (by omega) (by rw [hz2]; omega) (by omega)
    simpa [hz1,show (Value.agg #[.int .i64 0,.int .i64 0,.slice none 0 0]).cells=#[.int .i64 0,.int .i64 0,.slice none 0 0] from rfl] using this
   have hmk:∀ w:World,(Instr.makeSlice 31 (.int .i64 (m:Int)) (.int .i64 (m:Int))).run Tryz.prog w=.ok (.slice (some ⟨w.heap.size,0,none⟩) m m) (w.alloc (.cells (madeCells #[.int .i64 0] m) 2)):=by
    intro w;obtain ⟨i0,hi,hz0,hz1,hz2⟩:=info_parts info_int64;have:=run_make (P:=Tryz.prog) w 31 2 i0 (.int .i64 0) Tryz.underlying31 hi hz0 .i64 .i64 (m:Int) (m:Int) (by omega) (by omega) (by rw [hz2]; omega) (by omega)
    simpa [hz1,show (Value.int .i64 0).cells=#[.int .i64 0] from rfl] using this
   have d0:w1.cell? ⟨w.heap.size,0,none⟩=some (.int .i64 (m:Int)):=HW1.out.cell 0;have hlw:w.heap.size < w1.heap.size:=HW1.out.lt
   have HO1:Hid (OwnBooks (w1.alloc (.cells (madeCells #[.int .i64 0,.int .i64 0,.slice none 0 0] (m * 3)) 77)) w1.heap.size (.slice (some ⟨w1.heap.size,0,none⟩) m m) (part L 0)):=by
    rw [part_zero,Hll.out]; exact own_bare w1 m (by unfold maxLen; omega)
   have Hb2:Hid (Below w1.heap.size w1 (w1.alloc (.cells (madeCells #[.int .i64 0,.int .i64 0,.slice none 0 0] (m * 3)) 77))):=below_box _ _
   go_wp2_with fail
   clear d0
   go_loopw [13] (fun x wr=>∃ k:Nat,k≤m∧x=.int .i64 k∧Hid (OwnBooks wr w1.heap.size (.slice (some ⟨w1.heap.size,0,none⟩) m m) (part L k))∧Hid (Below w1.heap.size w1 wr)) (fun x _=>m - (intOf x).toNat)
   case atStart=>exact ⟨0,Nat.zero_le _,rfl,HO1.out,Hb2.out⟩
   case round =>
    obtain ⟨k,hk,rfl,HO,Hb⟩:=hrel
    by_cases hlt:k < m
    · obtain ⟨g,hG⟩:=HO.out
      have hkl:k < L.length:=by rw [Hll.out]; exact hlt
      have hzr:=Hat.out k hlt;have hzl:(zeroRow m).out.length=m:=by simp [zeroRow]
      have hpl:(part L k).length=m:=by rw [part_length (by omega),Hll.out]
      have d0:wr.cell? ⟨w.heap.size,0,none⟩=some (.int .i64 (m:Int)):=(HW1.out.later Hb.out HW1.out.lt).cell 0;have hlw2:w.heap.size < wr.heap.size:=by have:=Hb.out.size; omega
      have q1:(wr.alloc (.cells (madeCells #[.int .i64 0] m) 2)).ownsRow wr.heap.size 2 1 (.slice (some ⟨wr.heap.size,0,none⟩) m m) m ((zeroRow m).out.map (Value.int .i64)):=by
       have:=own_whole (n:=m) (sz:=1) (f:=fun q _=>.int .i64 ((zeroRow m).out[q]?.getD 0)) (Whole.made wr 2 (madeCells #[.int .i64 0] m)) (Nat.le_refl _) (by rw [made_flat]; have:=flat_one (zeroRow m).out; rw [show (zeroRow m).out.length=m by simp [zeroRow]] at this; exact this) (by unfold maxLen; omega)
       have e:=flat_one (zeroRow m).out;rw [show (zeroRow m).out.length=m by simp [zeroRow]] at e
       rw [e]; exact this
      have hb3:Below wr.heap.size wr (wr.alloc (.cells (madeCells #[.int .i64 0] m) 2)):=below_box _ _;obtain ⟨bb,cap,hv,hbb,hblt,hfz,hcs,hG2⟩:=ownG_list (r:=zeroRow m) hG hb3 Hb.out.size (by rw [hzl]; exact q1) ⟨_,_,by rw [hzl]⟩ (k:=k) (by rw [hpl]; exact hlt) (by rw [part_at hkl]; rfl) (by rw [part_at hkl]; rfl)
      simp only [Value.slice.injEq,Option.some.injEq,Addr.mk.injEq] at hv;have hbeq:=hv.1.1;clear hv;subst hbeq;rw [← hzr,part_set hkl] at hG2;have HO2:Hid (OwnBooks ((wr.alloc (.cells (madeCells #[.int .i64 0] m) 2)).setCell ⟨w1.heap.size,k * 3 + 2,none⟩ (.slice (some ⟨wr.heap.size,0,none⟩) m m)) w1.heap.size (.slice (some ⟨w1.heap.size,0,none⟩) m m) (part L (k + 1))):=⟨_,hG2⟩;have Hbn:Hid (Below w1.heap.size w1 ((wr.alloc (.cells (madeCells #[.int .i64 0] m) 2)).setCell ⟨w1.heap.size,k * 3 + 2,none⟩ (.slice (some ⟨wr.heap.size,0,none⟩) m m))):=(Hb.out.trans (hb3.mono Hb.out.size)).setCell (p:=⟨w1.heap.size,k * 3 + 2,none⟩) (Nat.le_refl _) _
      have z2:=hcs k 2 (by rw [hpl]; exact hlt) (by decide)
      have y2:=hfz (k * 3 + 2);have hsp:(wr.alloc (.cells (madeCells #[.int .i64 0] m) 2)).setCell ⟨w1.heap.size,k * 3 + 2,none⟩ (.slice (some ⟨wr.heap.size,0,none⟩) m m)=(wr.setCell ⟨w1.heap.size,k * 3 + 2,none⟩ (.slice (some ⟨wr.heap.size,0,none⟩) m m)).alloc (.cells (madeCells #[.int .i64 0] m) 2):=World.setCell_alloc_past _ _ _ _ hblt;rw [hsp] at HO2 Hbn;clear hG hG2 hcs hfz q1 hb3 hzr hzl hpl hsp
      have k0:(0:Int)≤(k:Int):=by omega
      have k1:(k:Int) < (m:Int):=by omega
      have hbm:m≤9223372036854775807:=by omega
      go_wp2
      go_roundw
      case rel=>exact ⟨k + 1,by omega,by go_num,HO2.out,Hbn.out⟩
      case measure=>simp [intOf]; omega
    · have hkm:k=m:=by omega
      have hO:=HO.out;rw [hkm,← Hll.out,part_all,Hll.out] at hO;have HBk:=qH hO;have Hkm:=qH hkm;clear hkm hO
      go_wp2
      go_ret
      exact ⟨_,_,_,by rw [Hll.out]; rfl,Hb1.out.size,by rw [Hll.out]; exact HBk.out,held_next Hb1.out Hb.out⟩
end Go.Proofs.YtecjnkokdnmhlaaGreat
