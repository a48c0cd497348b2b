/- Parts, as far as NodeAtOnceCards reaches them, of: NodeEnd, HeardAt, ClaimHeard, NodeStaysMath, NodeDecMath. No law is proved here. -/
import Derived.Test.YtecjnkokdnmhlaaGreatTa27
import Derived.Test.YtecjnkokdnmhlaaGreatTa14
namespace Go.Proofs.YtecjnkokdnmhlaaGreat
open Go.RowKit
def EndTo (W:World) (x:Nd) (p:Nl) (code:Int) (y:Nd) (e:Ending) (w':World):Prop :=
 Below W.heap.size W w'∧(code=0→e=.returned (.tuple #[ndAt x p,.int .i64 0]))∧(code ≠ 0→∃ P,e=.returned (.tuple #[ndAt y P,.int .i64 code])∧OwnNd w' W.heap.size P y)
set_option maxRecDepth 100000 in
set_option maxHeartbeats 8000000 in
theorem end18_calls {n0 g:Nat} {E:Nat→Prop} {c:Cf} {who:Int} {x:Nd} {p:Nl} {code:Int} {W:World} (h:St n0 E W g c who x p code) (y:Nd) (q:Nl) (hQ:NdIn W q y) (hf:FewK y.bk) (ha:y.asked.length≤1000) :
 Calls Tryz.prog 41 #[.pointer (some ⟨g,0,none⟩),ndAt y q] W (EndTo W x p code y):=by
 have hlt:=h.lt;have HS:=qH h;have HQ:=qH hQ;have Hf:=qH hf;have HA:=qH ha;clear h hQ hf ha;have HN0:=qH ((Whole.made W 39 (ndAtC y q)).alloc (.cells zeroN 39));have HR0:=qH (Whole.made2 W (.cells (ndAtC y q) 39) 39 zeroN);have HB0:=qH (below_two W (.cells (ndAtC y q) 39) (.cells zeroN 39));obtain ⟨W0,HW⟩:∃ z,Hid ((W.alloc (.cells (ndAtC y q) 39)).alloc (.cells zeroN 39)=z):=⟨_,rfl⟩;rw [HW.out] at HN0 HR0 HB0
 have HS0:=qH (HS.out.later HB0.out);have O0:=qH (stopped_calls HS0.out)
 by_cases hc:code=0
 · have hd:decide (code ≠ 0)=false:=decide_eq_false (fun k=>k hc)
   rw [hd] at O0
   go_enter Tryz.func41,Tryz.ntmps41
   go_wp2_with fail
   try rw [HW.out]
   refine O0.out.mono ?_;rintro e w1 ⟨rfl,rfl⟩
   go_wp2_with fail
   refine wp_region_each_at ?hm ?hb (fun a0 d a' w'=>∃ (e0 e1 e2 e3 e4 e5 e6 e7 e8 e10:Value),a'=putAll a0 [(14,e0),(15,e1),(16,e2),(17,e3),(18,e4),(19,e5),(20,e6),(21,e7),(22,e8),(5,e10)]∧Below W.heap.size W0 w'∧(d 0=true→e0=(.pointer (some ⟨g,0,none⟩)))∧(d 1=true→e1=(.pointer (some ⟨g,0,none⟩)))∧(d 2=true→e2=(.pointer (some ⟨g,0,none⟩)))∧(d 3=true→e3=(bkAt x.bk p.bl))∧(d 4=true→e4=(.pointer (some ⟨g,0,none⟩)))∧(d 5=true→e5=(.pointer (some ⟨g,0,none⟩)))∧(d 6=true→e6=(.pointer (some ⟨g,12,none⟩)))∧(d 7=true→e7=(.agg #[.int .i64 x.tk,.int .i64 x.nx,.slice p.a p.m p.c]))∧(d 8=true→e8=(ndAt x p))∧(d 9=true→Whole w' (W.heap.size + 1) 39 (ndAtC x p))∧(d 10=true→e10=(.int .i64 0))∧(d 9=false→Whole w' (W.heap.size + 1) 39 zeroN)∧Whole w' g 99 (stC c who x p code)) ?h0 ?step ?ends
   case hm=>kernel_rfl
   case hb=>kernel_rfl
   case h0 =>
    refine ⟨undef,undef,undef,undef,undef,undef,undef,undef,undef,(.int .i64 0),?_,(Below.refl _ _).drew,fun h=>absurd h (by decide),fun h=>absurd h (by decide),fun h=>absurd h (by decide),fun h=>absurd h (by decide),fun h=>absurd h (by decide),fun h=>absurd h (by decide),fun h=>absurd h (by decide),fun h=>absurd h (by decide),fun h=>absurd h (by decide),fun h=>absurd h (by decide),fun h=>absurd h (by decide),fun _=>HR0.out.drew,HS0.out.ob.drew⟩
    simp only [putAll,Act.put,qA,qB,qC]
   case step =>
    intro i d a' w' hi hJ hd hk;obtain ⟨e0,e1,e2,e3,e4,e5,e6,e7,e8,e10,rfl,hC⟩:=hJ;obtain ⟨hB,hC⟩:=hC;obtain ⟨c0,hC⟩:=hC;obtain ⟨c1,hC⟩:=hC;obtain ⟨c2,hC⟩:=hC;obtain ⟨c3,hC⟩:=hC;obtain ⟨c4,hC⟩:=hC;obtain ⟨c5,hC⟩:=hC;obtain ⟨c6,hC⟩:=hC;obtain ⟨c7,hC⟩:=hC;obtain ⟨c8,hC⟩:=hC;obtain ⟨c9,hC⟩:=hC;obtain ⟨c10,hC⟩:=hC;obtain ⟨cr,hC⟩:=hC;have cs:=hC;clear hC;have Xc0:=qH c0; clear c0;have Xc1:=qH c1; clear c1
    have Xc2:=qH c2; clear c2;have Xc3:=qH c3; clear c3;have Xc4:=qH c4; clear c4;have Xc5:=qH c5; clear c5;have Xc6:=qH c6; clear c6;have Xc7:=qH c7; clear c7;have Xc8:=qH c8; clear c8;have Xc9:=qH c9; clear c9;have Xc10:=qH c10; clear c10;have Xcr:=qH cr; clear cr;have Xcs:=qH cs; clear cs
    match i,hi,hd,hk with
    | 0, _, hd, hk =>
      apply wpOp_at
      case ho=>rfl
      intro K hK;simp only [putAll,Act.put,qA,qB,qC];go_simp;refine hK _ _ ⟨(.pointer (some ⟨g,0,none⟩)),_,_,_,_,_,_,_,_,_,?_,hB,fun _=>rfl,Xc1,Xc2,Xc3,Xc4,Xc5,Xc6,Xc7,Xc8,Xc9,Xc10,Xcr.out,Xcs.out⟩
      simp only [putAll,Act.put,qA,qB,qC]
    | 1, _, hd, hk =>
      have h0:=hk 0 (by decide +kernel)
      have c0:=Xc0.out;obtain rfl:=c0 h0;clear c0;apply wpOp_at
      case ho=>rfl
      intro K hK;simp only [putAll,Act.put,qA,qB,qC];go_simp;refine hK _ _ ⟨(.pointer (some ⟨g,0,none⟩)),(.pointer (some ⟨g,0,none⟩)),_,_,_,_,_,_,_,_,?_,hB,Xc0,fun _=>rfl,Xc2,Xc3,Xc4,Xc5,Xc6,Xc7,Xc8,Xc9,Xc10,Xcr.out,Xcs.out⟩
      simp only [putAll,Act.put,qA,qB,qC]
    | 2, _, hd, hk =>
      have h1:=hk 1 (by decide +kernel)
      have c1:=Xc1.out;obtain rfl:=c1 h1;clear c1;apply wpOp_at
      case ho=>rfl
      intro K hK;simp only [putAll,Act.put,qA,qB,qC];go_simp;refine hK _ _ ⟨_,(.pointer (some ⟨g,0,none⟩)),(.pointer (some ⟨g,0,none⟩)),_,_,_,_,_,_,_,?_,hB,Xc0,Xc1,fun _=>rfl,Xc3,Xc4,Xc5,Xc6,Xc7,Xc8,Xc9,Xc10,Xcr.out,Xcs.out⟩
      simp only [putAll,Act.put,qA,qB,qC]
    | 3, _, hd, hk =>
      have h2:=hk 2 (by decide +kernel)
      have c2:=Xc2.out;have cs:=Xcs.out;obtain rfl:=c2 h2;obtain ⟨⟨q0,q1,q2,q3,q4,q5⟩,⟨q6,q7,q8,q9,q10,q11⟩,⟨q12,q13,q14⟩,-,-,-⟩:=st_cells cs;clear c2 cs;apply wpOp_at
      case ho=>rfl
      intro K hK;simp only [putAll,Act.put,qA,qB,qC];go_simp;refine hK _ _ ⟨_,_,(.pointer (some ⟨g,0,none⟩)),(bkAt x.bk p.bl),_,_,_,_,_,_,?_,hB,Xc0,Xc1,Xc2,fun _=>rfl,Xc4,Xc5,Xc6,Xc7,Xc8,Xc9,Xc10,Xcr.out,Xcs.out⟩
      simp only [putAll,Act.put,qA,qB,qC]
    | 4, _, hd, hk =>
      apply wpOp_at
      case ho=>rfl
      intro K hK;simp only [putAll,Act.put,qA,qB,qC];go_simp;refine hK _ _ ⟨_,_,_,_,(.pointer (some ⟨g,0,none⟩)),_,_,_,_,_,?_,hB,Xc0,Xc1,Xc2,Xc3,fun _=>rfl,Xc5,Xc6,Xc7,Xc8,Xc9,Xc10,Xcr.out,Xcs.out⟩
      simp only [putAll,Act.put,qA,qB,qC]
    | 5, _, hd, hk =>
      have h4:=hk 4 (by decide +kernel)
      have c4:=Xc4.out;obtain rfl:=c4 h4;clear c4;apply wpOp_at
      case ho=>rfl
      intro K hK;simp only [putAll,Act.put,qA,qB,qC];go_simp;refine hK _ _ ⟨_,_,_,_,(.pointer (some ⟨g,0,none⟩)),(.pointer (some ⟨g,0,none⟩)),_,_,_,_,?_,hB,Xc0,Xc1,Xc2,Xc3,Xc4,fun _=>rfl,Xc6,Xc7,Xc8,Xc9,Xc10,Xcr.out,Xcs.out⟩
      simp only [putAll,Act.put,qA,qB,qC]
    | 6, _, hd, hk =>
      have h5:=hk 5 (by decide +kernel)
      have c5:=Xc5.out;obtain rfl:=c5 h5;clear c5;apply wpOp_at
      case ho=>rfl
      intro K hK;simp only [putAll,Act.put,qA,qB,qC];go_simp;refine hK _ _ ⟨_,_,_,_,_,(.pointer (some ⟨g,0,none⟩)),(.pointer (some ⟨g,12,none⟩)),_,_,_,?_,hB,Xc0,Xc1,Xc2,Xc3,Xc4,Xc5,fun _=>rfl,Xc7,Xc8,Xc9,Xc10,Xcr.out,Xcs.out⟩
      simp only [putAll,Act.put,qA,qB,qC]
    | 7, _, hd, hk =>
      have h6:=hk 6 (by decide +kernel)
      have c6:=Xc6.out;have cs:=Xcs.out;obtain rfl:=c6 h6;obtain ⟨⟨q0,q1,q2,q3,q4,q5⟩,⟨q6,q7,q8,q9,q10,q11⟩,⟨q12,q13,q14⟩,-,-,-⟩:=st_cells cs;clear c6 cs;apply wpOp_at
      case ho=>rfl
      intro K hK;simp only [putAll,Act.put,qA,qB,qC];go_simp;refine hK _ _ ⟨_,_,_,_,_,_,(.pointer (some ⟨g,12,none⟩)),(.agg #[.int .i64 x.tk,.int .i64 x.nx,.slice p.a p.m p.c]),_,_,?_,hB,Xc0,Xc1,Xc2,Xc3,Xc4,Xc5,Xc6,fun _=>rfl,Xc8,Xc9,Xc10,Xcr.out,Xcs.out⟩
      simp only [putAll,Act.put,qA,qB,qC]
    | 8, _, hd, hk =>
      have h3:=hk 3 (by decide +kernel)
      have h7:=hk 7 (by decide +kernel)
      have c3:=Xc3.out;have c7:=Xc7.out;obtain rfl:=c3 h3;obtain rfl:=c7 h7;clear c3 c7;apply wpOp_at
      case ho=>rfl
      intro K hK;simp only [putAll,Act.put,qA,qB,qC];go_simp;refine hK _ _ ⟨_,_,_,(bkAt x.bk p.bl),_,_,_,(.agg #[.int .i64 x.tk,.int .i64 x.nx,.slice p.a p.m p.c]),(ndAt x p),_,?_,hB,Xc0,Xc1,Xc2,Xc3,Xc4,Xc5,Xc6,Xc7,fun _=>rfl,Xc9,Xc10,Xcr.out,Xcs.out⟩
      simp only [putAll,Act.put,qA,qB,qC]
    | 9, _, hd, hk =>
      have h8:=hk 8 (by decide +kernel)
      have c8:=Xc8.out;have cr:=Xcr.out;have cs:=Xcs.out;obtain rfl:=c8 h8;have hr9:=cr hd;have hW8:Whole (nd15p w' (W.heap.size + 1) x p) (W.heap.size + 1) 39 (ndAtC x p):=nd15_whole hr9;obtain ⟨⟨z0,z1,z2,z3⟩,⟨z4,z5,z6,z7⟩,⟨z8,z9,z10,z11⟩,z12,z13,z14⟩:=nd_cells hr9;have y0:=hr9.free 0;have y1:=hr9.free 1;have y2:=hr9.free 2;have y3:=hr9.free 3;have y4:=hr9.free 4;have y5:=hr9.free 5;have y6:=hr9.free 6
      have y7:=hr9.free 7;have y8:=hr9.free 8;have y9:=hr9.free 9;have y10:=hr9.free 10;have y11:=hr9.free 11;have y12:=hr9.free 12;have y13:=hr9.free 13;have y14:=hr9.free 14;have hbt:ButS (fun b=>b=W.heap.size + 1) w' (nd15p w' (W.heap.size + 1) x p):=nd15_buts (ButS.refl _ _) rfl
      have cs9:Whole (nd15p w' (W.heap.size + 1) x p) g 99 (stC c who x p code):=(hbt.2 g cs.lt (by have:=HS.out.lt; omega)).trans cs
      clear c8 cr cs;apply wpOp_at
      case ho=>rfl
      intro K hK;simp only [putAll,Act.put,qA,qB,qC];go_simp;refine hK _ _ ⟨_,_,_,_,_,_,_,_,(ndAt x p),_,?_,nd15_below hB (by omega),Xc0,Xc1,Xc2,Xc3,Xc4,Xc5,Xc6,Xc7,Xc8,fun _=>hW8,Xc10,fun h=>Bool.noConfusion (show true=false from h),cs9⟩
      simp only [putAll,Act.put,qA,qB,qC]
    | 10, _, hd, hk =>
      have h0:=hk 0 (by decide +kernel)
      have h1:=hk 1 (by decide +kernel)
      have h2:=hk 2 (by decide +kernel)
      have h3:=hk 3 (by decide +kernel)
      have h4:=hk 4 (by decide +kernel)
      have h5:=hk 5 (by decide +kernel)
      have h6:=hk 6 (by decide +kernel)
      have h7:=hk 7 (by decide +kernel)
      have h8:=hk 8 (by decide +kernel)
      have h9:=hk 9 (by decide +kernel)
      have c0:=Xc0.out;have c1:=Xc1.out;have c2:=Xc2.out;have c3:=Xc3.out;have c4:=Xc4.out;have c5:=Xc5.out;have c6:=Xc6.out;have c7:=Xc7.out;have c8:=Xc8.out;obtain rfl:=c0 h0;obtain rfl:=c1 h1;obtain rfl:=c2 h2;obtain rfl:=c3 h3;obtain rfl:=c4 h4;obtain rfl:=c5 h5;obtain rfl:=c6 h6;obtain rfl:=c7 h7;obtain rfl:=c8 h8;clear c0 c1 c2 c3 c4 c5 c6 c7 c8;apply wpOp_at
      case ho=>rfl
      intro K hK;simp only [putAll,Act.put,qA,qB,qC];go_simp;refine hK _ _ ⟨(.pointer (some ⟨g,0,none⟩)),(.pointer (some ⟨g,0,none⟩)),(.pointer (some ⟨g,0,none⟩)),(bkAt x.bk p.bl),(.pointer (some ⟨g,0,none⟩)),(.pointer (some ⟨g,0,none⟩)),(.pointer (some ⟨g,12,none⟩)),(.agg #[.int .i64 x.tk,.int .i64 x.nx,.slice p.a p.m p.c]),(ndAt x p),(.int .i64 0),?_,hB,Xc0,Xc1,Xc2,Xc3,Xc4,Xc5,Xc6,Xc7,Xc8,Xc9,fun _=>rfl,Xcr.out,Xcs.out⟩
      simp only [putAll,Act.put,qA,qB,qC]
    | k + 11,hi,_,_=>exact absurd hi (by simp)
   case ends =>
    intro d a' w' hJ hall;obtain ⟨e0,e1,e2,e3,e4,e5,e6,e7,e8,e10,rfl,hC⟩:=hJ;obtain ⟨hB,hC⟩:=hC;obtain ⟨c0,hC⟩:=hC;obtain ⟨c1,hC⟩:=hC;obtain ⟨c2,hC⟩:=hC;obtain ⟨c3,hC⟩:=hC;obtain ⟨c4,hC⟩:=hC;obtain ⟨c5,hC⟩:=hC;obtain ⟨c6,hC⟩:=hC;obtain ⟨c7,hC⟩:=hC;obtain ⟨c8,hC⟩:=hC;obtain ⟨c9,hC⟩:=hC;obtain ⟨c10,hC⟩:=hC;obtain ⟨cr,hC⟩:=hC;have cs:=hC;clear hC;have HE:=qH (c9 (hall 9 (by decide +kernel)))
    have HBe:=qH hB;obtain rfl:=c0 (hall 0 (by decide +kernel))
    obtain rfl:=c1 (hall 1 (by decide +kernel))
    obtain rfl:=c2 (hall 2 (by decide +kernel))
    obtain rfl:=c3 (hall 3 (by decide +kernel))
    obtain rfl:=c4 (hall 4 (by decide +kernel))
    obtain rfl:=c5 (hall 5 (by decide +kernel))
    obtain rfl:=c6 (hall 6 (by decide +kernel))
    obtain rfl:=c7 (hall 7 (by decide +kernel))
    obtain rfl:=c8 (hall 8 (by decide +kernel))
    obtain rfl:=c10 (hall 10 (by decide +kernel))
    clear c9 cr cs hall hB;simp only [putAll,Act.put,qA,qB,qC];obtain ⟨⟨k0,k1,k2,k3⟩,⟨k4,k5,k6,k7⟩,⟨k8,k9,k10,k11⟩,k12,k13,k14⟩:=nd_cells HE.out
    go_wp2_with fail
    refine bodyPost_ret (v:=.tuple #[ndAt x p,.int .i64 0]) (by simp [results,Tryz.results41,go_sem,k0,k1,k2,k3,k4,k5,k6,k7,k8,k9,k10,k11,k12,k13,k14]) rfl ⟨HB0.out.trans HBe.out,fun _=>rfl,fun h=>by first | exact absurd hc h | exact absurd rfl h⟩
 · have hd:decide (code ≠ 0)=true:=decide_eq_true hc
   rw [hd] at O0
   go_enter Tryz.func41,Tryz.ntmps41
   go_wp2_with fail
   try rw [HW.out]
   refine O0.out.mono ?_;rintro e w1 ⟨rfl,rfl⟩
   go_wp2_with fail
   refine wp_region_each_at ?hm ?hb (fun a0 d a' w'=>∃ (e0 e1 e2 e3 e4 e5 e7:Value) (P1:Nl),a'=putAll a0 [(8,e0),(9,e1),(10,e2),(11,e3),(12,e4),(13,e5),(5,e7)]∧Below W.heap.size W0 w'∧(d 0=true→e0=(ndAt y q))∧(d 1=true→(d 0=true∧e1=(ndAt y P1)∧OwnNd w' W0.heap.size P1 y))∧(d 2=true→e2=(.pointer (some ⟨g,0,none⟩)))∧(d 3=true→e3=(.pointer (some ⟨g,0,none⟩)))∧(d 4=true→e4=(.pointer (some ⟨g,22,none⟩)))∧(d 5=true→e5=(.int .i64 code))∧(d 6=true→(d 1=true∧Whole w' (W.heap.size + 1) 39 (ndAtC y P1)))∧(d 7=true→e7=(.int .i64 code))∧(d 6=false→Below W0.heap.size W0 w')∧(d 6=false→Whole w' (W.heap.size + 1) 39 zeroN)∧Whole w' g 99 (stC c who x p code)) ?h0 ?step ?ends
   case hm=>kernel_rfl
   case hb=>kernel_rfl
   case h0 =>
    refine ⟨undef,undef,undef,undef,undef,undef,(.int .i64 0),p00,?_,(Below.refl _ _).drew,fun h=>absurd h (by decide),fun h=>absurd h (by decide),fun h=>absurd h (by decide),fun h=>absurd h (by decide),fun h=>absurd h (by decide),fun h=>absurd h (by decide),fun h=>absurd h (by decide),fun h=>absurd h (by decide),fun _=>(Below.refl _ _).drew,fun _=>HR0.out.drew,HS0.out.ob.drew⟩
    simp only [putAll,Act.put,qA,qB,qC]
   case step =>
    intro i d a' w' hi hJ hd hk;obtain ⟨e0,e1,e2,e3,e4,e5,e7,P1,rfl,hC⟩:=hJ;obtain ⟨hB,hC⟩:=hC;obtain ⟨c0,hC⟩:=hC;obtain ⟨c1,hC⟩:=hC;obtain ⟨c2,hC⟩:=hC;obtain ⟨c3,hC⟩:=hC;obtain ⟨c4,hC⟩:=hC;obtain ⟨c5,hC⟩:=hC;obtain ⟨c6,hC⟩:=hC;obtain ⟨c7,hC⟩:=hC;obtain ⟨cb,hC⟩:=hC;obtain ⟨cr,hC⟩:=hC;have cs:=hC;clear hC;have Xc0:=qH c0; clear c0;have Xc1:=qH c1; clear c1;have Xc2:=qH c2; clear c2;have Xc3:=qH c3; clear c3
    have Xc4:=qH c4; clear c4;have Xc5:=qH c5; clear c5;have Xc6:=qH c6; clear c6;have Xc7:=qH c7; clear c7;have Xcb:=qH cb; clear cb;have Xcr:=qH cr; clear cr;have Xcs:=qH cs; clear cs
    match i,hi,hd,hk with
    | 0, _, hd, hk =>
      have c1:=Xc1.out;have c6:=Xc6.out;have cb:=Xcb.out;have hd6:d 6=false:=by cases h:d 6 with | false=>rfl | true=>exact Bool.noConfusion (hd.symm.trans (c1 (c6 h).1).1)
      have hb9:=cb hd6;have hN9:=HN0.out.later hb9 HN0.out.lt;obtain ⟨⟨q0,q1,q2,q3⟩,⟨q4,q5,q6,q7⟩,⟨q8,q9,q10,q11⟩,q12,q13,q14⟩:=nd_cells hN9;clear c1 c6 cb;apply wpOp_at
      case ho=>rfl
      intro K hK;simp only [putAll,Act.put,qA,qB,qC];go_simp;have c1:=Xc1.out;refine hK _ _ ⟨(ndAt y q),e1,_,_,_,_,_,P1,?_,hB,fun _=>rfl,fun h=>Bool.noConfusion (hd.symm.trans (c1 h).1),Xc2,Xc3,Xc4,Xc5,Xc6,Xc7,Xcb,Xcr.out,Xcs.out⟩
      simp only [putAll,Act.put,qA,qB,qC]
    | 1, _, hd, hk =>
      have h0:=hk 0 (by decide +kernel)
      have c0:=Xc0.out;have c6:=Xc6.out;have cb:=Xcb.out;obtain rfl:=c0 h0;have hd6:d 6=false:=by cases h:d 6 with | false=>rfl | true=>exact Bool.noConfusion (hd.symm.trans (c6 h).1)
      have hb9:=cb hd6;clear c0 c6 cb;apply wpOp_at
      case ho=>rfl
      intro K hK;simp only [putAll,Act.put,qA,qB,qC];go_simp;have c6:=Xc6.out;have cb:=Xcb.out;have cr:=Xcr.out;have cs:=Xcs.out;refine (own18_calls y q Hf.out HA.out w' (HQ.out.later (held_next HB0.out hb9))).mono ?_;rintro e w'' ⟨Q,rfl,hO,hb⟩;refine hK _ _ ⟨(ndAt y q),ndAt y Q,_,_,_,_,_,Q,?_,hB.trans (hb.mono (Nat.le_trans HB0.out.size hb9.size)),Xc0,fun _=>⟨h0,rfl,hO.mono hb9.size⟩,Xc2,Xc3,Xc4,Xc5,fun h=>Bool.noConfusion (hd.symm.trans (c6 h).1),Xc7,fun h=>held_next (cb h) hb,fun h=>(cr h).later hb (cr h).lt,cs.later hb cs.lt⟩
      simp only [putAll,Act.put,qA,qB,qC]
    | 2, _, hd, hk =>
      apply wpOp_at
      case ho=>rfl
      intro K hK;simp only [putAll,Act.put,qA,qB,qC];go_simp;refine hK _ _ ⟨_,_,(.pointer (some ⟨g,0,none⟩)),_,_,_,_,P1,?_,hB,Xc0,Xc1,fun _=>rfl,Xc3,Xc4,Xc5,Xc6,Xc7,Xcb,Xcr.out,Xcs.out⟩
      simp only [putAll,Act.put,qA,qB,qC]
    | 3, _, hd, hk =>
      have h2:=hk 2 (by decide +kernel)
      have c2:=Xc2.out;obtain rfl:=c2 h2;clear c2;apply wpOp_at
      case ho=>rfl
      intro K hK;simp only [putAll,Act.put,qA,qB,qC];go_simp;refine hK _ _ ⟨_,_,(.pointer (some ⟨g,0,none⟩)),(.pointer (some ⟨g,0,none⟩)),_,_,_,P1,?_,hB,Xc0,Xc1,Xc2,fun _=>rfl,Xc4,Xc5,Xc6,Xc7,Xcb,Xcr.out,Xcs.out⟩
      simp only [putAll,Act.put,qA,qB,qC]
    | 4, _, hd, hk =>
      have h3:=hk 3 (by decide +kernel)
      have c3:=Xc3.out;obtain rfl:=c3 h3;clear c3;apply wpOp_at
      case ho=>rfl
      intro K hK;simp only [putAll,Act.put,qA,qB,qC];go_simp;refine hK _ _ ⟨_,_,_,(.pointer (some ⟨g,0,none⟩)),(.pointer (some ⟨g,22,none⟩)),_,_,P1,?_,hB,Xc0,Xc1,Xc2,Xc3,fun _=>rfl,Xc5,Xc6,Xc7,Xcb,Xcr.out,Xcs.out⟩
      simp only [putAll,Act.put,qA,qB,qC]
    | 5, _, hd, hk =>
      have h4:=hk 4 (by decide +kernel)
      have c4:=Xc4.out;have cs:=Xcs.out;obtain rfl:=c4 h4;have z22:w'.cell? ⟨g,22,none⟩=some (.int .i64 code):=cs.cell 22;clear c4 cs;apply wpOp_at
      case ho=>rfl
      intro K hK;simp only [putAll,Act.put,qA,qB,qC];go_simp;refine hK _ _ ⟨_,_,_,_,(.pointer (some ⟨g,22,none⟩)),(.int .i64 code),_,P1,?_,hB,Xc0,Xc1,Xc2,Xc3,Xc4,fun _=>rfl,Xc6,Xc7,Xcb,Xcr.out,Xcs.out⟩
      simp only [putAll,Act.put,qA,qB,qC]
    | 6, _, hd, hk =>
      have h1:=hk 1 (by decide +kernel)
      have c1:=Xc1.out;have cr:=Xcr.out;have cs:=Xcs.out;obtain ⟨-,rfl,hO9⟩:=c1 h1;have hr9:=cr hd;have hW8:Whole (nd15p w' (W.heap.size + 1) y P1) (W.heap.size + 1) 39 (ndAtC y P1):=nd15_whole hr9;obtain ⟨⟨z0,z1,z2,z3⟩,⟨z4,z5,z6,z7⟩,⟨z8,z9,z10,z11⟩,z12,z13,z14⟩:=nd_cells hr9;have y0:=hr9.free 0;have y1:=hr9.free 1;have y2:=hr9.free 2;have y3:=hr9.free 3;have y4:=hr9.free 4;have y5:=hr9.free 5;have y6:=hr9.free 6
      have y7:=hr9.free 7;have y8:=hr9.free 8;have y9:=hr9.free 9;have y10:=hr9.free 10;have y11:=hr9.free 11;have y12:=hr9.free 12;have y13:=hr9.free 13;have y14:=hr9.free 14;have hbt:ButS (fun b=>b=W.heap.size + 1) w' (nd15p w' (W.heap.size + 1) y P1):=nd15_buts (ButS.refl _ _) rfl
      have hS9:∀ b,b=W.heap.size + 1→b < W0.heap.size:=fun b e=>by rw [e]; exact HR0.out.lt
      have hO8:=hO9.butS hS9 hbt;have cs9:Whole (nd15p w' (W.heap.size + 1) y P1) g 99 (stC c who x p code):=(hbt.2 g cs.lt (by have:=HS.out.lt; omega)).trans cs
      clear c1 cr cs;apply wpOp_at
      case ho=>rfl
      intro K hK;simp only [putAll,Act.put,qA,qB,qC];go_simp;have c1:=Xc1.out;refine hK _ _ ⟨_,(ndAt y P1),_,_,_,_,_,P1,?_,nd15_below hB (by omega),Xc0,fun _=>⟨(c1 h1).1,rfl,hO8⟩,Xc2,Xc3,Xc4,Xc5,fun _=>⟨h1,hW8⟩,Xc7,fun h=>Bool.noConfusion (show true=false from h),fun h=>Bool.noConfusion (show true=false from h),cs9⟩
      simp only [putAll,Act.put,qA,qB,qC]
    | 7, _, hd, hk =>
      have h0:=hk 0 (by decide +kernel)
      have h1:=hk 1 (by decide +kernel)
      have h2:=hk 2 (by decide +kernel)
      have h3:=hk 3 (by decide +kernel)
      have h4:=hk 4 (by decide +kernel)
      have h5:=hk 5 (by decide +kernel)
      have h6:=hk 6 (by decide +kernel)
      have c0:=Xc0.out;have c2:=Xc2.out;have c3:=Xc3.out;have c4:=Xc4.out;have c5:=Xc5.out;obtain rfl:=c0 h0;obtain rfl:=c2 h2;obtain rfl:=c3 h3;obtain rfl:=c4 h4;obtain rfl:=c5 h5;clear c0 c2 c3 c4 c5;apply wpOp_at
      case ho=>rfl
      intro K hK;simp only [putAll,Act.put,qA,qB,qC];go_simp;refine hK _ _ ⟨(ndAt y q),_,(.pointer (some ⟨g,0,none⟩)),(.pointer (some ⟨g,0,none⟩)),(.pointer (some ⟨g,22,none⟩)),(.int .i64 code),(.int .i64 code),P1,?_,hB,Xc0,Xc1,Xc2,Xc3,Xc4,Xc5,Xc6,fun _=>rfl,Xcb,Xcr.out,Xcs.out⟩
      simp only [putAll,Act.put,qA,qB,qC]
    | k + 8,hi,_,_=>exact absurd hi (by simp)
   case ends =>
    intro d a' w' hJ hall;obtain ⟨e0,e1,e2,e3,e4,e5,e7,P1,rfl,hC⟩:=hJ;obtain ⟨hB,hC⟩:=hC;obtain ⟨c0,hC⟩:=hC;obtain ⟨c1,hC⟩:=hC;obtain ⟨c2,hC⟩:=hC;obtain ⟨c3,hC⟩:=hC;obtain ⟨c4,hC⟩:=hC;obtain ⟨c5,hC⟩:=hC;obtain ⟨c6,hC⟩:=hC;obtain ⟨c7,hC⟩:=hC;obtain ⟨cb,hC⟩:=hC;obtain ⟨cr,hC⟩:=hC;have cs:=hC;clear hC;have HE:=qH (c6 (hall 6 (by decide +kernel))).2
    obtain ⟨-,rfl,ho1⟩:=c1 (hall 1 (by decide +kernel))
    have HO1:=qH ho1;have HBe:=qH hB;obtain rfl:=c0 (hall 0 (by decide +kernel))
    obtain rfl:=c2 (hall 2 (by decide +kernel))
    obtain rfl:=c3 (hall 3 (by decide +kernel))
    obtain rfl:=c4 (hall 4 (by decide +kernel))
    obtain rfl:=c5 (hall 5 (by decide +kernel))
    obtain rfl:=c7 (hall 7 (by decide +kernel))
    clear c6 ho1 cb cr cs hall hB;simp only [putAll,Act.put,qA,qB,qC];obtain ⟨⟨k0,k1,k2,k3⟩,⟨k4,k5,k6,k7⟩,⟨k8,k9,k10,k11⟩,k12,k13,k14⟩:=nd_cells HE.out
    go_wp2_with fail
    refine bodyPost_ret (v:=.tuple #[ndAt y P1,.int .i64 code]) (by simp [results,Tryz.results41,go_sem,k0,k1,k2,k3,k4,k5,k6,k7,k8,k9,k10,k11,k12,k13,k14]) rfl ⟨HB0.out.trans HBe.out,fun h=>absurd h hc,fun _=>⟨P1,rfl,HO1.out.mono HB0.out.size⟩⟩
end Go.Proofs.YtecjnkokdnmhlaaGreat
namespace Go.Proofs.YtecjnkokdnmhlaaGreat
theorem tick_most {a b:Int} (h:tickC a b=0):a < tickT a b∧b < tickT a b∧tickT a b≤1125899906842624∧1≤tickT a b:=by
 unfold tickC at h
 unfold tickT
 by_cases h1:a < 0∨b < 0
 · rw [if_pos h1] at h; cases h
 · rw [if_neg h1] at h ⊢
   by_cases h2:1125899906842624≤a∨1125899906842624≤b
   · rw [if_pos h2] at h; cases h
   · rw [if_neg h2]
     split <;> omega
theorem IK.clear {c:Cf} {who:Int} {k:Bk} (h:bookOk c who k):IK c who (clearK k):=IK.of_book h
theorem outB_up {c:Cf} {who a b:Int} {o:Rq} (h:outB c who a o=true) (hab:a≤b):outB c who b o=true:=by
 unfold outB at h ⊢
 simp only [Bool.and_eq_true,decide_eq_true_eq] at h ⊢;obtain ⟨h1,⟨h2,h3⟩,h4⟩:=h
 exact ⟨h1,⟨h2,by omega⟩,h4⟩
theorem IK.clk {c:Cf} {who:Int} {k:Bk} (h:IK c who k) {t:Int} (h1:k.clk≤t) (h2:t≤1125899906842624):IK c who (clkK k t):=by
 obtain ⟨g1,g2,g3,g4,g5,g6,g7,g8⟩:=h
 exact ⟨g1,g2,⟨by show (0:Int)≤t; omega,h2⟩,g4,g5,fun i hi=>Int.le_trans (g6 i hi) h1,fun i hi=>outB_up (g7 i hi) h1,g8⟩
theorem IK.joins {c:Cf} {who:Int} {k:Bk} (h:bookOk c who k) {t m:Int} (ht:k.clk < t) (ht2:t≤1125899906842624) (hm:1≤m∧m≤1099511627776) (hq:(k.line.length:Int) < c.q):IK c who (joinsK k t who m):=by
 obtain ⟨g1,g2,g3,g4,g5,g6,g7,g8,g9,g10⟩:=h;have hone:oneB c who ⟨t,who,m⟩=true:=oneB_iff.2 ⟨⟨by show 1≤t; omega,ht2,g2.1,g2.2⟩,rfl,hm⟩
 have hn:nextB c who k.line ⟨t,who,m⟩=true:=by
  unfold nextB
  rw [hone,Bool.true_and,Bool.or_eq_true]
  by_cases h0:k.line.length=0
  · exact Or.inl (decide_eq_true h0)
  · refine Or.inr (decide_eq_true (Or.inl ?_))
    have:=g6 (k.line.length - 1) (by omega)
    show (rqAt k.line (k.line.length - 1)).t < t
    omega
 refine ⟨g1,g2,⟨by show (0:Int)≤t; omega,ht2⟩,join_stays g4 hq hn,⟨?_,g5.2⟩,fun i hi=>?_,fun i hi=>absurd hi (Nat.not_lt_zero _),fun e=>?_,g9,g10⟩
 · show ((([]:List Rq).length:Nat):Int) + ((k.line ++ [_]).length:Int)≤c.q
   rw [List.length_append]
   show (0:Int) + ((k.line.length + 1:Nat):Int)≤c.q
   omega
 · show (rqAt (k.line ++ [_]) i).t≤t
   by_cases e:i < k.line.length
   · rw [rqAt_left _ e]; have:=g6 i e; omega
   · have hi:i < (k.line ++ [(⟨t,who,m⟩:Rq)]).length:=hi
     rw [List.length_append] at hi;have hi:i < k.line.length + 1:=hi;have e2:i=k.line.length:=by omega
     subst e2;rw [rqAt_last]; exact Int.le_refl _
 · have e:k.line ++ [_]=[]:=e
   simp at e
theorem IK.asks {c:Cf} {who:Int} {k:Bk} (h:IK c who k):IK c who (asksK c k):=by
 unfold asksK
 split
 · rename_i h1
   obtain ⟨g1,g2,g3,g4,g5,g6,g7,g8,g9,g10⟩:=h
   exact ⟨g1,g2,g3,g4,⟨g5.1,by show (0:Int)≤k.asks + 1; omega,by show k.asks + 1≤c.r; omega⟩,g6,g7,fun e=>absurd e h1.1,g9,g10⟩
 · exact h
theorem IK.looks {c:Cf} {who:Int} {k k':Bk} (h:IK c who k) (hk:looksK c who k=some k'):IK c who k'∧k'.rows=k.rows:=by
 unfold looksK at hk
 split at hk
 · rename_i h1
   split at hk
   · rename_i h2
     have ht:=tick_most h2
     cases hk
     have h3:=h.clk (t:=tickT k.clk 0) (by omega) ht.2.2.1
     refine ⟨h3.au ?_ fun e=>absurd e h1.1,rfl⟩
     have hb:cfOk c∧(0≤who∧who < c.n)∧(1≤tickT k.clk 0∧tickT k.clk 0≤1125899906842624):=⟨h.1.1,h.2.1,ht.2.2.2,ht.2.2.1⟩;rw [begin_yes hb]
     exact begin_ok hb
   · cases hk
 · cases hk
   exact ⟨h,rfl⟩
theorem IK.gives {c:Cf} {who:Int} {k:Bk} (h:IK c who k) (asked:List Int):IK c who (givesK c who asked k):=by
 unfold givesK
 split
 · exact h.move _ _
 · exact h
theorem gives_up {c:Cf} {who:Int} (asked:List Int) (k:Bk):UpK who k.rows (givesK c who asked k).rows:=by
 unfold givesK
 split
 · exact moveK_up _ _ _
 · exact UpR.refl _
theorem asks_rows (c:Cf) (k:Bk):(asksK c k).rows=k.rows:=by unfold asksK; split <;> rfl
theorem letter_ok {c:Cf} {who:Int} {k:Bk} (h:IK c who k) {tg:Int} (ht:0≤tg∧tg < c.n) (hne:tg ≠ who) (hk:1≤k.clk):mailOk c (letterK who k tg):=by
 obtain ⟨g1,g2,g3,g4,g5,g6,g7,g8,g9,g10⟩:=h
 have hlk:∀ i,lkAt (k.notes.map fun x=>(x.try_,x.ph)) i=((ntAt k.notes i).try_,(ntAt k.notes i).ph):=fun i=>by
  unfold lkAt ntAt
  rw [List.getElem?_map]
  cases k.notes[i]? <;> rfl
 refine ⟨g1,g2,ht,fun e=>hne e.symm,by show k.clk ≠ 0; omega,?_,fun i hi=>?_,?_⟩
 · show ((k.notes.map _).length:Int)=c.n
   rw [List.length_map]; exact g9.2.2.1
 · have hi:i < (k.notes.map fun x=>(x.try_,x.ph)).length:=hi
   rw [List.length_map] at hi;obtain ⟨h1,h2⟩:=g9.2.2.2 i hi
   show lookB (lkAt (k.notes.map fun x=>(x.try_,x.ph)) i).1 (lkAt (k.notes.map fun x=>(x.try_,x.ph)) i).2=true∧((i:Int)=who→¬ 0 < (lkAt (k.notes.map fun x=>(x.try_,x.ph)) i).2)
   rw [hlk]
   unfold noteB at h1
   simp only [Bool.and_eq_true] at h1;refine ⟨h1.2.2.2,fun e=>?_⟩
   rw [h2 e]
   decide
 · show noteB c who ⟨k.clk,(headQ k).t,(headQ k).a,(headQ k).m,k.asks,k.au.try_,k.au.ph⟩=true
   unfold noteB
   simp only [Bool.and_eq_true,Bool.or_eq_true];refine ⟨decide_eq_true g3,?_,decide_eq_true ⟨g5.2.1,g5.2.2⟩,decide_eq_true ?_⟩
   · by_cases e:k.line=[]
     · left
       unfold headQ
       rw [e]; rfl
     · right
       have hp:0 < k.line.length:=List.length_pos_iff.2 e;have ho:=oneB_iff.1 (g4.2.2.2 0 hp).1
       unfold hasHead
       rw [Bool.and_eq_true]
       exact ⟨decide_eq_true ho.1,decide_eq_true ⟨ho.2.1,by have:=ho.2.2.1; show 0 < (rqAt k.line 0).m; omega,ho.2.2.2⟩⟩
   · rcases g10.2.2 with e | e
     · rw [e]; exact Or.inl ⟨rfl,rfl⟩
     · have h1:=e.1
       have h2:=e.2.1
       exact Or.inr ⟨h1.1,h1.2,by omega,by omega⟩
theorem write_ok {c:Cf} {who:Int} {k:Bk} (h:IK c who k):∀ (i:Nat),(i:Int)≤c.n→∀ {k':Bk} {l:List Ml},writeK who k i=some (k',l) →
 IK c who k'∧k.clk≤k'.clk∧k'.rows=k.rows∧(∀ m ∈ l,mailOk c m∧m.fr=who∧m.clk≤k'.clk)∧l.Pairwise (fun a b=>a.clk < b.clk)
 | 0, _, k', l, e => by
   cases e
   exact ⟨h,Int.le_refl _,rfl,fun _ hm=>absurd hm List.not_mem_nil,List.Pairwise.nil⟩
 | i + 1, hi, k', l, e => by
   unfold writeK at e
   split at e
   · cases e
   · rename_i k1 l1 e1
     obtain ⟨g1,g2,g3,g4,g5⟩:=write_ok h i (by omega) e1
     split at e
     · cases e
       exact ⟨g1,g2,g3,g4,g5⟩
     · rename_i hne
       split at e
       · rename_i htk
         have ht:=tick_most htk
         cases e
         have hI:=g1.clk (t:=tickT k1.clk 0) (by omega) ht.2.2.1
         refine ⟨hI,by show k.clk≤tickT k1.clk 0; omega,g3,fun m hm=>?_,?_⟩
         · rcases List.mem_append.1 hm with hm | hm
           · obtain ⟨a1,a2,a3⟩:=g4 m hm
             exact ⟨a1,a2,by show m.clk≤tickT k1.clk 0; omega⟩
           · rw [List.mem_singleton.1 hm]
             exact ⟨letter_ok hI ⟨by omega,by omega⟩ hne ht.2.2.2,rfl,Int.le_refl _⟩
         · refine List.pairwise_append.2 ⟨g5,List.pairwise_singleton _ _,fun a ha b hb=>?_⟩
           rw [List.mem_singleton.1 hb];have:=(g4 a ha).2.2
           show a.clk < tickT k1.clk 0
           omega
       · cases e
theorem tick_stays {c:Cf} {who:Int} {x:Nd} (draw:Nat) (h:nodeOk c who x) :
 nodeOk c who (tickNd c who x draw).1∧UpK who x.bk.rows (tickNd c who x draw).1.bk.rows∧((tickNd c who x draw).2.2 ≠ 0→(tickNd c who x draw).1=x) ∧
 (∀ m ∈ (tickNd c who x draw).2.1,mailOk c m∧m.fr=who)∧(tickNd c who x draw).2.1.Pairwise (fun a b=>a.clk < b.clk):=by
 have hsame:nodeOk c who x∧UpK who x.bk.rows x.bk.rows∧((6:Int) ≠ 0→x=x)∧(∀ m ∈ ([]:List Ml),mailOk c m∧m.fr=who)∧([]:List Ml).Pairwise (fun a b=>a.clk < b.clk) :=
  ⟨h,UpR.refl _,fun _=>rfl,fun _ hm=>absurd hm List.not_mem_nil,List.Pairwise.nil⟩
 unfold tickNd
 rw [if_pos h]
 by_cases h1:1125899906842624≤x.tk
 · rw [if_pos h1]; exact hsame
 · rw [if_neg h1]
   have htk:=h.2.1;have hnx:=h.2.2.1
   by_cases h2:x.tk + 1 < x.nx
   · rw [if_pos h2]
     refine ⟨⟨h.1,⟨by show 0≤x.tk + 1; omega,by show x.tk + 1≤_; omega⟩,⟨hnx.1,by show x.nx≤x.tk + 1 + 16; omega⟩,keepN_le _ _⟩,UpR.refl _,fun e=>absurd rfl e,fun _ hm=>absurd hm List.not_mem_nil,List.Pairwise.nil⟩
   · rw [if_neg h2]
     have hI:=(IK.clear h.1).asks
     cases e1:looksK c who (asksK c (clearK x.bk)) with
     | none=>exact hsame
     | some k =>
       obtain ⟨hK,hrows⟩:=hI.looks e1;have hS:=(hK.gives (keepN x.asked 0)).settle;simp only
       cases e2:writeK who (settleK c who (givesK c who (keepN x.asked 0) k)) c.n.toNat with
       | none=>exact hsame
       | some y =>
         obtain ⟨k',l⟩:=y;have hn:1≤c.n:=h.1.1.1.1;obtain ⟨g1,g2,g3,g4,g5⟩:=write_ok hS c.n.toNat (by omega) e2
         simp only;have hwt:=waitV_le c.p k'.asks draw;have hbd:=boundW_le c.p k'.asks;refine ⟨⟨IK.book g1,⟨by show 0≤x.tk + 1; omega,by show x.tk + 1≤_; omega⟩,⟨by show 0≤x.tk + 1 + (waitV c.p k'.asks draw:Int); omega,by show x.tk + 1 + (waitV c.p k'.asks draw:Int)≤x.tk + 1 + 16; omega⟩,keepN_le _ _⟩,?_,fun e=>absurd rfl e,fun m hm=>⟨(g4 m hm).1,(g4 m hm).2.1⟩,g5⟩
         show UpK who x.bk.rows k'.rows
         rw [g3]
         have u1:UpK who x.bk.rows k.rows:=by
          rw [hrows,asks_rows]
          exact UpR.refl _
         exact (u1.trans (gives_up (keepN x.asked 0) k)).trans (settle_up _)
open Go.RowKit
theorem nodeOk.few {c:Cf} {who:Int} {x:Nd} (h:nodeOk c who x):FewK x.bk∧x.asked.length≤1000:=by
 obtain ⟨hb,_,_,ha⟩:=h;obtain ⟨h1,hw,_,hline,⟨ho,_⟩,_,_,_,hn,hau⟩:=hb;have hf:=h1.fits;have hl:=h1.2.1;have hI:=(IK.of_book (k:=x.bk) ⟨h1,hw,by assumption,hline,⟨ho,by assumption⟩,by assumption,by assumption,by assumption,hn,hau⟩).few
 have hc:=h1.1
 unfold cfOk at hc
 refine ⟨⟨⟨by omega,fun k hk=>by have:=(hf k hk).1; omega⟩,hI.1,by omega,hI.2.2,?_⟩,by omega⟩
 rcases hau.2.2 with e | e
 · rw [e]; exact ⟨by decide,by decide,by decide⟩
 · obtain ⟨_,_,e1,e2,e3,_⟩:=e
   omega
theorem joinQ_of {c:Cf} {who:Int} {l:List Rq} {r:Rq} (h:lineOk c who l) (h2:lineOk c who (l ++ [r])) (hm:¬ (r.m < 1∨1099511627776 < r.m)) (hq:¬ c.q≤(l.length:Int)):joinQ c who l r=(l ++ [r],0):=by
 have h3:=h2.2.2.2 l.length (by simp)
 have e1:rqAt (l ++ [r]) l.length=r:=by unfold rqAt; simp
 rw [e1] at h3
 have hn:nextB c who l r=true:=by
  unfold nextB
  rw [h3.1,Bool.true_and,Bool.or_eq_true]
  by_cases h0:l.length=0
  · exact Or.inl (decide_eq_true h0)
  · refine Or.inr ?_
    have h4:=h3.2 (by omega)
    have e2:rqAt (l ++ [r]) (l.length - 1)=rqAt l (l.length - 1):=by unfold rqAt; rw [List.getElem?_append_left (by omega)]
    rw [e2] at h4
    exact h4
 unfold joinQ
 rw [if_pos h,if_neg hm,if_neg hq,if_pos hn]
theorem joinX_yes {c:Cf} {who:Int} {x:Nd} {m:Int} (h:nodeOk c who x) (h1:¬ (m < 1∨1099511627776 < m)) (h2:¬ c.q≤(x.bk.line.length:Int)) (h3:tickC x.bk.clk 0=0) :
 joinX c who x 0 m=(⟨lineK (clksK x.bk (tickT x.bk.clk 0)) (x.bk.line ++ [⟨tickT x.bk.clk 0,who,m⟩]),x.tk,x.nx,keepN x.asked m⟩,0,tickT x.bk.clk 0,who):=by
 have ht:=tick_most h3;have hI:=IK.joins h.1 ht.1 ht.2.2.1 (show 1≤m∧m≤1099511627776 by omega) (by omega)
 have hj:joinQ c who x.bk.line ⟨tickT x.bk.clk 0,who,m⟩=(x.bk.line ++ [⟨tickT x.bk.clk 0,who,m⟩],0):=joinQ_of h.1.2.2.2.1 hI.2.2.2.1 h1 h2
 unfold joinX
 rw [if_neg (show ¬ ((0:Int) ≠ 0) from fun h=>h rfl),if_neg h1,if_neg h2,if_neg (fun k=>k h3),hj]
abbrev x1N (c:Cf) (who:Int) (x:Nd):Nd:=if nodeOk c who x then x else nd0
abbrev k1N (c:Cf) (who:Int) (x:Nd):Int:=if nodeOk c who x then 0 else 1
theorem dec_is (c:Cf) (who:Int) (x:Nd) (m:Int):∀ j,joinX c who (x1N c who x) (k1N c who x) m=j →
 ((if j.2.1=0 then bkN j.1 (settleK c who (clearK j.1.bk)) else x,(j.2.2.1,j.2.2.2),j.2.1):Nd × (Int × Int) × Int)=decNd c who x m∧(j.2.1=0→IK c who (clearK j.1.bk)):=by
 rintro j rfl
 unfold decNd x1N k1N
 by_cases h:nodeOk c who x
 · simp only [if_pos h]
   by_cases h1:m < 1∨1099511627776 < m
   · have hj:joinX c who x 0 m=(x,2,0,0):=by unfold joinX; rw [if_neg (show ¬ ((0:Int) ≠ 0) from fun h=>h rfl),if_pos h1]
     rw [hj,if_pos h1]
     exact ⟨rfl,fun k=>absurd (show (2:Int)=0 from k) (by decide)⟩
   · by_cases h2:c.q≤(x.bk.line.length:Int)
     · have hj:joinX c who x 0 m=(x,3,0,0):=by unfold joinX; rw [if_neg (show ¬ ((0:Int) ≠ 0) from fun h=>h rfl),if_neg h1,if_pos h2]
       rw [hj,if_neg h1,if_pos h2]
       exact ⟨rfl,fun k=>absurd (show (3:Int)=0 from k) (by decide)⟩
     · by_cases h3:tickC x.bk.clk 0=0
       · rw [joinX_yes h h1 h2 h3,if_neg h1,if_neg h2,if_pos h3]
         have ht:=tick_most h3
         exact ⟨rfl,fun _=>IK.joins h.1 ht.1 ht.2.2.1 (show 1≤m∧m≤1099511627776 by omega) (by omega)⟩
       · have hj:joinX c who x 0 m=(bkN x (clksK x.bk (tickT x.bk.clk 0)),tickC x.bk.clk 0,0,0):=by unfold joinX; rw [if_neg (show ¬ ((0:Int) ≠ 0) from fun h=>h rfl),if_neg h1,if_neg h2,if_pos h3]
         rw [hj,if_neg h1,if_neg h2,if_neg h3]
         exact ⟨by simp only [if_neg h3],fun k=>absurd k h3⟩
 · simp only [if_neg h]
   have hj:joinX c who nd0 1 m=(nd0,1,0,0):=by unfold joinX; rw [if_pos (by decide)]
   rw [hj]
   exact ⟨rfl,fun k=>absurd k (by decide)⟩
end Go.Proofs.YtecjnkokdnmhlaaGreat
