/- Parts, as far as NodeAtOnceCards reaches them, of: AuditCopied. No law is proved here. -/
import Derived.Test.YtecjnkokdnmhlaaGreatTa16
import Derived.Test.YtecjnkokdnmhlaaGreatTa13
namespace Go.Proofs.YtecjnkokdnmhlaaGreat
open Go.RowKit
def CopiedA (w:World) (x:Au) (e:Ending) (w':World):Prop:=∃ p:Al,e=.returned (auAt x p)∧OwnAu w' w.heap.size p x∧Below w.heap.size w w'
set_option maxRecDepth 100000 in
set_option maxHeartbeats 8000000 in
theorem aucopied_calls (x:Au) (p:Al) (hs:p.m1≤100000∧p.m2≤100000∧p.m3≤100000) (w:World) (hA:AuIn w p x):Calls Tryz.prog 164 #[auAt x p] w (CopiedA w x):=by
 have HW:=qH ((Whole.made w 33 (auCells x (.slice p.a1 p.m1 p.c1) (.slice p.a2 p.m2 p.c2) (.slice p.a3 p.m3 p.c3))).alloc (.cells (auCells au0 (.slice none 0 0) (.slice none 0 0) (.slice none 0 0)) 33));have HZ:=qH (Whole.made2 w (.cells (auCells x (.slice p.a1 p.m1 p.c1) (.slice p.a2 p.m2 p.c2) (.slice p.a3 p.m3 p.c3)) 33) 33 (auCells au0 (.slice none 0 0) (.slice none 0 0) (.slice none 0 0)));have Hb0:=qH (below_two w (.cells (auCells x (.slice p.a1 p.m1 p.c1) (.slice p.a2 p.m2 p.c2) (.slice p.a3 p.m3 p.c3)) 33) (.cells (auCells au0 (.slice none 0 0) (.slice none 0 0) (.slice none 0 0)) 33))
 obtain ⟨⟨h1,b1⟩,⟨h2,b2⟩,h3,b3⟩:=hA;obtain ⟨tr,ph,told,use,inc,moved⟩:=x;obtain ⟨a1,m1,k1,a2,m2,k2,a3,m3,k3⟩:=p;have H1:Hid (m1=told.length):=h1;have H2:Hid (m2=use.length):=h2;have H3:Hid (m3=inc.length):=h3;have HB1:Hid (Bools w (.slice a1 m1 k1) told):=b1;have HB2:Hid (Nums w (.slice a2 m2 k2) use):=b2;have HB3:Hid (Nums w (.slice a3 m3 k3) inc):=b3;clear h1 h2 h3 b1 b2 b3;simp only at hs
 go_enter Tryz.func164,Tryz.ntmps164
 go_wp2_with fail
 refine wp_region_each_at ?hm ?hb (fun a0 d a' w'=>∃ (e0 e1 e2 e3 e4 e5 e6 e7 e8 e9 e11 e13:Value) (A1:Option Addr) (C1:Nat) (A2:Option Addr) (C2:Nat) (A3:Option Addr) (C3:Nat),a'=putAll a0 [(3,e0),(4,e1),(5,e2),(6,e3),(7,e4),(8,e5),(9,e6),(10,e7),(11,e8),(12,e9),(13,e11),(14,e13)]∧Below w.heap.size w w'∧(d 0=true→e0=(.pointer (some ⟨w.heap.size,2,none⟩)))∧(d 1=true→e1=(.slice a1 m1 k1))∧(d 2=true→(e2=(.slice A1 told.length C1)∧OwnT w' (w.heap.size + 1 + 1) (.slice A1 told.length C1) told))∧(d 3=true→e3=(.pointer (some ⟨w.heap.size,3,none⟩)))∧(d 4=true→e4=(.slice a2 m2 k2))∧(d 5=true→(e5=(.slice A2 use.length C2)∧OwnN w' (w.heap.size + 1 + 1) (.slice A2 use.length C2) use))∧(d 6=true→e6=(.pointer (some ⟨w.heap.size,4,none⟩)))∧(d 7=true→e7=(.slice a3 m3 k3))∧(d 8=true→(e8=(.slice A3 inc.length C3)∧OwnN w' (w.heap.size + 1 + 1) (.slice A3 inc.length C3) inc∧(∀ b,(Value.slice A2 use.length C2).ownBlock=some b→(Value.slice A3 inc.length C3).ownBlock ≠ some b)∧d 5=true))∧(d 9=true→e9=(.pointer (some ⟨w.heap.size,2,none⟩)))∧(d 10=true→(d 1=true∧d 4=true∧d 7=true∧d 2=true∧d 5=true∧d 8=true∧(d 12=false→Whole w' w.heap.size 33 (auCells ⟨tr,ph,told,use,inc,moved⟩ (.slice A1 told.length C1) (.slice a2 m2 k2) (.slice a3 m3 k3)))))∧(d 11=true→e11=(.pointer (some ⟨w.heap.size,3,none⟩)))∧(d 12=true→(d 2=true∧d 5=true∧d 8=true∧d 10=true∧(d 14=false→Whole w' w.heap.size 33 (auCells ⟨tr,ph,told,use,inc,moved⟩ (.slice A1 told.length C1) (.slice A2 use.length C2) (.slice a3 m3 k3)))))∧(d 13=true→e13=(.pointer (some ⟨w.heap.size,4,none⟩)))∧(d 14=true→(d 2=true∧d 5=true∧d 8=true∧d 10=true∧d 12=true∧Whole w' w.heap.size 33 (auCells ⟨tr,ph,told,use,inc,moved⟩ (.slice A1 told.length C1) (.slice A2 use.length C2) (.slice A3 inc.length C3))))∧(d 10=false→Whole w' w.heap.size 33 (auCells ⟨tr,ph,told,use,inc,moved⟩ (.slice a1 m1 k1) (.slice a2 m2 k2) (.slice a3 m3 k3)))∧w.heap.size + 1 + 1≤w'.heap.size∧Whole w' (w.heap.size + 1) 33 (auCells au0 (.slice none 0 0) (.slice none 0 0) (.slice none 0 0))) ?h0 ?step ?ends
 case hm=>kernel_rfl
 case hb=>kernel_rfl
 case h0 =>
  refine ⟨undef,undef,undef,undef,undef,undef,undef,undef,undef,undef,undef,undef,none,0,none,0,none,0,?_,Hb0.out.drew,fun h=>absurd h (by decide),fun h=>absurd h (by decide),fun h=>absurd h (by decide),fun h=>absurd h (by decide),fun h=>absurd h (by decide),fun h=>absurd h (by decide),fun h=>absurd h (by decide),fun h=>absurd h (by decide),fun h=>absurd h (by decide),fun h=>absurd h (by decide),fun h=>absurd h (by decide),fun h=>absurd h (by decide),fun h=>absurd h (by decide),fun h=>absurd h (by decide),fun h=>absurd h (by decide),fun _=>HW.out,(by simp),HZ.out⟩
  simp only [putAll,Act.put,qA,qB,qC]
 case step =>
  intro i d a' w' hi hJ hd hk;obtain ⟨e0,e1,e2,e3,e4,e5,e6,e7,e8,e9,e11,e13,A1,C1,A2,C2,A3,C3,rfl,hC⟩:=hJ;obtain ⟨hB,hC⟩:=hC;obtain ⟨c0,hC⟩:=hC;obtain ⟨c1,hC⟩:=hC;obtain ⟨c2,hC⟩:=hC;obtain ⟨c3,hC⟩:=hC;obtain ⟨c4,hC⟩:=hC;obtain ⟨c5,hC⟩:=hC;obtain ⟨c6,hC⟩:=hC;obtain ⟨c7,hC⟩:=hC;obtain ⟨c8,hC⟩:=hC;obtain ⟨c9,hC⟩:=hC;obtain ⟨c10,hC⟩:=hC;obtain ⟨c11,hC⟩:=hC;obtain ⟨c12,hC⟩:=hC;obtain ⟨c13,hC⟩:=hC;obtain ⟨c14,hC⟩:=hC
  obtain ⟨cw,hC⟩:=hC;obtain ⟨cz,hC⟩:=hC;have cr:=hC;clear hC
  match i,hi,hd,hk with
  | 0, _, hd, hk =>
    apply wpOp_at
    case ho=>rfl
    intro K hK;simp only [putAll,Act.put,qA,qB,qC];go_simp;refine hK _ _ ⟨(.pointer (some ⟨w.heap.size,2,none⟩)),e1,e2,e3,e4,e5,e6,e7,e8,e9,e11,e13,A1,C1,A2,C2,A3,C3,?_,hB,fun _=>rfl,c1,c2,c3,c4,c5,c6,c7,c8,c9,c10,c11,c12,c13,c14,cw,cz,cr⟩
    simp only [putAll,Act.put,qA,qB,qC]
  | 1, _, hd, hk =>
    have h0:=hk 0 (by decide +kernel)
    obtain rfl:=c0 h0;have hd10:d 10=false:=by cases h:d 10 with | false=>rfl | true=>exact Bool.noConfusion (hd.symm.trans (c10 h).1)
    obtain ⟨z0,z1,z2,z3,z4,z5⟩:=au_cells (cw hd10);simp only at z0 z1 z2 z3 z4 z5;apply wpOp_at
    case ho=>rfl
    intro K hK;simp only [putAll,Act.put,qA,qB,qC];go_simp;refine hK _ _ ⟨(.pointer (some ⟨w.heap.size,2,none⟩)),(.slice a1 m1 k1),e2,e3,e4,e5,e6,e7,e8,e9,e11,e13,A1,C1,A2,C2,A3,C3,?_,hB,c0,fun _=>rfl,c2,c3,c4,c5,c6,c7,c8,c9,fun h=>Bool.noConfusion (hd.symm.trans (c10 h).1),c11,c12,c13,c14,cw,cz,cr⟩
    simp only [putAll,Act.put,qA,qB,qC]
  | 2, _, hd, hk =>
    have h1:=hk 1 (by decide +kernel)
    obtain rfl:=c1 h1;have hd10:d 10=false:=by cases h:d 10 with | false=>rfl | true=>exact Bool.noConfusion (hd.symm.trans (c10 h).2.2.2.1)
    apply wpOp_at
    case ho=>rfl
    intro K hK;simp only [putAll,Act.put,qA,qB,qC];go_simp;refine (cloneT_calls a1 m1 k1 told H1.out hs.1 w' (HB1.out.later hB)).mono ?_;rintro e w'' ⟨A,C,rfl,hO,hb⟩;refine hK _ _ ⟨e0,(.slice a1 m1 k1),.slice A told.length C,e3,e4,e5,e6,e7,e8,e9,e11,e13,A,C,A2,C2,A3,C3,?_,hB.trans (hb.mono hB.size),c0,c1,fun _=>⟨rfl,own_mono hO cz⟩,c3,c4,fun h=>⟨(c5 h).1,own_later (c5 h).2 hb⟩,c6,c7,fun h=>⟨(c8 h).1,own_later (c8 h).2.1 hb,(c8 h).2.2⟩,c9,fun h=>Bool.noConfusion (hd.symm.trans (c10 h).2.2.2.1),c11,fun h=>Bool.noConfusion (hd.symm.trans (c12 h).1),c13,fun h=>Bool.noConfusion (hd.symm.trans (c14 h).1),fun h=>(cw h).later hb (cw h).lt,Nat.le_trans cz hb.size,cr.later hb cr.lt⟩
    simp only [putAll,Act.put,qA,qB,qC]
  | 3, _, hd, hk =>
    apply wpOp_at
    case ho=>rfl
    intro K hK;simp only [putAll,Act.put,qA,qB,qC];go_simp;refine hK _ _ ⟨e0,e1,e2,(.pointer (some ⟨w.heap.size,3,none⟩)),e4,e5,e6,e7,e8,e9,e11,e13,A1,C1,A2,C2,A3,C3,?_,hB,c0,c1,c2,fun _=>rfl,c4,c5,c6,c7,c8,c9,c10,c11,c12,c13,c14,cw,cz,cr⟩
    simp only [putAll,Act.put,qA,qB,qC]
  | 4, _, hd, hk =>
    have h3:=hk 3 (by decide +kernel)
    obtain rfl:=c3 h3;have hd10:d 10=false:=by cases h:d 10 with | false=>rfl | true=>exact Bool.noConfusion (hd.symm.trans (c10 h).2.1)
    obtain ⟨z0,z1,z2,z3,z4,z5⟩:=au_cells (cw hd10);simp only at z0 z1 z2 z3 z4 z5;apply wpOp_at
    case ho=>rfl
    intro K hK;simp only [putAll,Act.put,qA,qB,qC];go_simp;refine hK _ _ ⟨e0,e1,e2,(.pointer (some ⟨w.heap.size,3,none⟩)),(.slice a2 m2 k2),e5,e6,e7,e8,e9,e11,e13,A1,C1,A2,C2,A3,C3,?_,hB,c0,c1,c2,c3,fun _=>rfl,c5,c6,c7,c8,c9,fun h=>Bool.noConfusion (hd.symm.trans (c10 h).2.1),c11,c12,c13,c14,cw,cz,cr⟩
    simp only [putAll,Act.put,qA,qB,qC]
  | 5, _, hd, hk =>
    have h2:=hk 2 (by decide +kernel)
    have h4:=hk 4 (by decide +kernel)
    obtain rfl:=c4 h4;obtain ⟨rfl,ho2⟩:=c2 h2;apply wpOp_at
    case ho=>rfl
    intro K hK;simp only [putAll,Act.put,qA,qB,qC];go_simp;refine (cloneN_calls a2 m2 k2 use H2.out hs.2.1 w' (HB2.out.later hB)).mono ?_;rintro e w'' ⟨A,C,rfl,hO,hb⟩;refine hK _ _ ⟨e0,e1,(.slice A1 told.length C1),e3,(.slice a2 m2 k2),.slice A use.length C,e6,e7,e8,e9,e11,e13,A1,C1,A,C,A3,C3,?_,hB.trans (hb.mono hB.size),c0,c1,fun _=>⟨rfl,own_later ho2 hb⟩,c3,c4,fun _=>⟨rfl,own_mono hO cz⟩,c6,c7,fun h=>Bool.noConfusion (hd.symm.trans (c8 h).2.2.2),c9,fun h=>Bool.noConfusion (hd.symm.trans (c10 h).2.2.2.2.1),c11,fun h=>Bool.noConfusion (hd.symm.trans (c12 h).2.1),c13,fun h=>Bool.noConfusion (hd.symm.trans (c14 h).2.1),fun h=>(cw h).later hb (cw h).lt,Nat.le_trans cz hb.size,cr.later hb cr.lt⟩
    simp only [putAll,Act.put,qA,qB,qC]
  | 6, _, hd, hk =>
    apply wpOp_at
    case ho=>rfl
    intro K hK;simp only [putAll,Act.put,qA,qB,qC];go_simp;refine hK _ _ ⟨e0,e1,e2,e3,e4,e5,(.pointer (some ⟨w.heap.size,4,none⟩)),e7,e8,e9,e11,e13,A1,C1,A2,C2,A3,C3,?_,hB,c0,c1,c2,c3,c4,c5,fun _=>rfl,c7,c8,c9,c10,c11,c12,c13,c14,cw,cz,cr⟩
    simp only [putAll,Act.put,qA,qB,qC]
  | 7, _, hd, hk =>
    have h6:=hk 6 (by decide +kernel)
    obtain rfl:=c6 h6;have hd10:d 10=false:=by cases h:d 10 with | false=>rfl | true=>exact Bool.noConfusion (hd.symm.trans (c10 h).2.2.1)
    obtain ⟨z0,z1,z2,z3,z4,z5⟩:=au_cells (cw hd10);simp only at z0 z1 z2 z3 z4 z5;apply wpOp_at
    case ho=>rfl
    intro K hK;simp only [putAll,Act.put,qA,qB,qC];go_simp;refine hK _ _ ⟨e0,e1,e2,e3,e4,e5,(.pointer (some ⟨w.heap.size,4,none⟩)),(.slice a3 m3 k3),e8,e9,e11,e13,A1,C1,A2,C2,A3,C3,?_,hB,c0,c1,c2,c3,c4,c5,c6,fun _=>rfl,c8,c9,fun h=>Bool.noConfusion (hd.symm.trans (c10 h).2.2.1),c11,c12,c13,c14,cw,cz,cr⟩
    simp only [putAll,Act.put,qA,qB,qC]
  | 8, _, hd, hk =>
    have h5:=hk 5 (by decide +kernel)
    have h7:=hk 7 (by decide +kernel)
    obtain rfl:=c7 h7;obtain ⟨rfl,ho5⟩:=c5 h5;apply wpOp_at
    case ho=>rfl
    intro K hK;simp only [putAll,Act.put,qA,qB,qC];go_simp;refine (cloneN_calls a3 m3 k3 inc H3.out hs.2.2 w' (HB3.out.later hB)).mono ?_;rintro e w'' ⟨A,C,rfl,hO,hb⟩;refine hK _ _ ⟨e0,e1,e2,e3,e4,(.slice A2 use.length C2),e6,(.slice a3 m3 k3),.slice A inc.length C,e9,e11,e13,A1,C1,A2,C2,A,C,?_,hB.trans (hb.mono hB.size),c0,c1,fun h=>⟨(c2 h).1,own_later (c2 h).2 hb⟩,c3,c4,fun _=>⟨rfl,own_later ho5 hb⟩,c6,c7,fun _=>⟨rfl,own_mono hO cz,(fun b hb5 hb8=>by have q1:=(ho5.lt _ hb5).2; have q2:=(hO.lt _ hb8).1; omega),h5⟩,c9,fun h=>Bool.noConfusion (hd.symm.trans (c10 h).2.2.2.2.2.1),c11,fun h=>Bool.noConfusion (hd.symm.trans (c12 h).2.2.1),c13,fun h=>Bool.noConfusion (hd.symm.trans (c14 h).2.2.1),fun h=>(cw h).later hb (cw h).lt,Nat.le_trans cz hb.size,cr.later hb cr.lt⟩
    simp only [putAll,Act.put,qA,qB,qC]
  | 9, _, hd, hk =>
    apply wpOp_at
    case ho=>rfl
    intro K hK;simp only [putAll,Act.put,qA,qB,qC];go_simp;refine hK _ _ ⟨e0,e1,e2,e3,e4,e5,e6,e7,e8,(.pointer (some ⟨w.heap.size,2,none⟩)),e11,e13,A1,C1,A2,C2,A3,C3,?_,hB,c0,c1,c2,c3,c4,c5,c6,c7,c8,fun _=>rfl,c10,c11,c12,c13,c14,cw,cz,cr⟩
    simp only [putAll,Act.put,qA,qB,qC]
  | 10, _, hd, hk =>
    have h1:=hk 1 (by decide +kernel)
    have h4:=hk 4 (by decide +kernel)
    have h7:=hk 7 (by decide +kernel)
    have h2:=hk 2 (by decide +kernel)
    have h8:=hk 8 (by decide +kernel)
    have h9:=hk 9 (by decide +kernel)
    obtain rfl:=c1 h1;obtain rfl:=c4 h4;obtain rfl:=c7 h7;obtain rfl:=c9 h9;obtain ⟨rfl,ho2⟩:=c2 h2;obtain ⟨rfl,ho8⟩:=c8 h8;have h5:=ho8.2.2;obtain ⟨rfl,ho5⟩:=c5 h5;have hW:=cw hd;have y2:=hW.free 2;obtain ⟨z0,z1,z2,z3,z4,z5⟩:=au_cells hW;simp only at z0 z1 z2 z3 z4 z5;apply wpOp_at
    case ho=>rfl
    intro K hK;simp only [putAll,Act.put,qA,qB,qC];go_simp;refine hK _ _ ⟨e0,(.slice a1 m1 k1),(.slice A1 told.length C1),e3,(.slice a2 m2 k2),(.slice A2 use.length C2),e6,(.slice a3 m3 k3),(.slice A3 inc.length C3),(.pointer (some ⟨w.heap.size,2,none⟩)),e11,e13,A1,C1,A2,C2,A3,C3,?_,hB.setCell (p:=⟨w.heap.size,2,none⟩) (Nat.le_refl _) _,c0,c1,fun _=>⟨rfl,own_low ho2 (by show w.heap.size < _; omega) _⟩,c3,c4,fun _=>⟨rfl,own_low ho5 (by show w.heap.size < _; omega) _⟩,c6,c7,fun _=>⟨rfl,own_low ho8.1 (by show w.heap.size < _; omega) _,ho8.2⟩,c9,fun _=>⟨h1,h4,h7,h2,h5,h8,fun _=>hW.set 2 _⟩,c11,fun h=>Bool.noConfusion (hd.symm.trans (c12 h).2.2.2.1),c13,fun h=>Bool.noConfusion (hd.symm.trans (c14 h).2.2.2.1),fun h=>Bool.noConfusion (show true=false from h),by simpa using cz,cr.other (p:=⟨w.heap.size,2,none⟩) (by show w.heap.size + 1 ≠ w.heap.size; omega) _⟩
    simp only [putAll,Act.put,qA,qB,qC]
  | 11, _, hd, hk =>
    apply wpOp_at
    case ho=>rfl
    intro K hK;simp only [putAll,Act.put,qA,qB,qC];go_simp;refine hK _ _ ⟨e0,e1,e2,e3,e4,e5,e6,e7,e8,e9,(.pointer (some ⟨w.heap.size,3,none⟩)),e13,A1,C1,A2,C2,A3,C3,?_,hB,c0,c1,c2,c3,c4,c5,c6,c7,c8,c9,c10,fun _=>rfl,c12,c13,c14,cw,cz,cr⟩
    simp only [putAll,Act.put,qA,qB,qC]
  | 12, _, hd, hk =>
    have h1:=hk 1 (by decide +kernel)
    have h4:=hk 4 (by decide +kernel)
    have h7:=hk 7 (by decide +kernel)
    have h2:=hk 2 (by decide +kernel)
    have h5:=hk 5 (by decide +kernel)
    have h10:=hk 10 (by decide +kernel)
    have h11:=hk 11 (by decide +kernel)
    obtain rfl:=c1 h1;obtain rfl:=c4 h4;obtain rfl:=c7 h7;obtain rfl:=c11 h11;have h8:=(c10 h10).2.2.2.2.2.1;obtain ⟨rfl,ho2⟩:=c2 h2;obtain ⟨rfl,ho8⟩:=c8 h8;obtain ⟨rfl,ho5⟩:=c5 h5;have hW:=(c10 h10).2.2.2.2.2.2 hd;have y3:=hW.free 3;obtain ⟨z0,z1,z2,z3,z4,z5⟩:=au_cells hW;simp only at z0 z1 z2 z3 z4 z5;apply wpOp_at
    case ho=>rfl
    intro K hK;simp only [putAll,Act.put,qA,qB,qC];go_simp;refine hK _ _ ⟨e0,(.slice a1 m1 k1),(.slice A1 told.length C1),e3,(.slice a2 m2 k2),(.slice A2 use.length C2),e6,(.slice a3 m3 k3),(.slice A3 inc.length C3),e9,(.pointer (some ⟨w.heap.size,3,none⟩)),e13,A1,C1,A2,C2,A3,C3,?_,hB.setCell (p:=⟨w.heap.size,3,none⟩) (Nat.le_refl _) _,c0,c1,fun _=>⟨rfl,own_low ho2 (by show w.heap.size < _; omega) _⟩,c3,c4,fun _=>⟨rfl,own_low ho5 (by show w.heap.size < _; omega) _⟩,c6,c7,fun _=>⟨rfl,own_low ho8.1 (by show w.heap.size < _; omega) _,ho8.2⟩,c9,fun h=>⟨(c10 h).1,(c10 h).2.1,(c10 h).2.2.1,(c10 h).2.2.2.1,(c10 h).2.2.2.2.1,(c10 h).2.2.2.2.2.1,fun h=>Bool.noConfusion (show true=false from h)⟩,c11,fun _=>⟨h2,h5,h8,h10,fun _=>hW.set 3 _⟩,c13,fun h=>Bool.noConfusion (hd.symm.trans (c14 h).2.2.2.2.1),fun h=>Bool.noConfusion (h10.symm.trans h),by simpa using cz,cr.other (p:=⟨w.heap.size,3,none⟩) (by show w.heap.size + 1 ≠ w.heap.size; omega) _⟩
    simp only [putAll,Act.put,qA,qB,qC]
  | 13, _, hd, hk =>
    apply wpOp_at
    case ho=>rfl
    intro K hK;simp only [putAll,Act.put,qA,qB,qC];go_simp;refine hK _ _ ⟨e0,e1,e2,e3,e4,e5,e6,e7,e8,e9,e11,(.pointer (some ⟨w.heap.size,4,none⟩)),A1,C1,A2,C2,A3,C3,?_,hB,c0,c1,c2,c3,c4,c5,c6,c7,c8,c9,c10,c11,c12,fun _=>rfl,c14,cw,cz,cr⟩
    simp only [putAll,Act.put,qA,qB,qC]
  | 14, _, hd, hk =>
    have h1:=hk 1 (by decide +kernel)
    have h4:=hk 4 (by decide +kernel)
    have h7:=hk 7 (by decide +kernel)
    have h2:=hk 2 (by decide +kernel)
    have h5:=hk 5 (by decide +kernel)
    have h8:=hk 8 (by decide +kernel)
    have h10:=hk 10 (by decide +kernel)
    have h12:=hk 12 (by decide +kernel)
    have h13:=hk 13 (by decide +kernel)
    obtain rfl:=c1 h1;obtain rfl:=c4 h4;obtain rfl:=c7 h7;obtain rfl:=c13 h13;obtain ⟨rfl,ho2⟩:=c2 h2;obtain ⟨rfl,ho8⟩:=c8 h8;obtain ⟨rfl,ho5⟩:=c5 h5;have hW:=(c12 h12).2.2.2.2 hd;have y4:=hW.free 4;obtain ⟨z0,z1,z2,z3,z4,z5⟩:=au_cells hW;simp only at z0 z1 z2 z3 z4 z5;apply wpOp_at
    case ho=>rfl
    intro K hK;simp only [putAll,Act.put,qA,qB,qC];go_simp;refine hK _ _ ⟨e0,(.slice a1 m1 k1),(.slice A1 told.length C1),e3,(.slice a2 m2 k2),(.slice A2 use.length C2),e6,(.slice a3 m3 k3),(.slice A3 inc.length C3),e9,e11,(.pointer (some ⟨w.heap.size,4,none⟩)),A1,C1,A2,C2,A3,C3,?_,hB.setCell (p:=⟨w.heap.size,4,none⟩) (Nat.le_refl _) _,c0,c1,fun _=>⟨rfl,own_low ho2 (by show w.heap.size < _; omega) _⟩,c3,c4,fun _=>⟨rfl,own_low ho5 (by show w.heap.size < _; omega) _⟩,c6,c7,fun _=>⟨rfl,own_low ho8.1 (by show w.heap.size < _; omega) _,ho8.2⟩,c9,fun h=>⟨(c10 h).1,(c10 h).2.1,(c10 h).2.2.1,(c10 h).2.2.2.1,(c10 h).2.2.2.2.1,(c10 h).2.2.2.2.2.1,fun h=>Bool.noConfusion (h12.symm.trans h)⟩,c11,fun h=>⟨(c12 h).1,(c12 h).2.1,(c12 h).2.2.1,(c12 h).2.2.2.1,fun h=>Bool.noConfusion (show true=false from h)⟩,c13,fun _=>⟨h2,h5,h8,h10,h12,hW.set 4 _⟩,fun h=>Bool.noConfusion (h10.symm.trans h),by simpa using cz,cr.other (p:=⟨w.heap.size,4,none⟩) (by show w.heap.size + 1 ≠ w.heap.size; omega) _⟩
    simp only [putAll,Act.put,qA,qB,qC]
  | k + 15,hi,_,_=>exact absurd hi (by simp)
 case ends =>
  intro d a' w' hJ hall;obtain ⟨e0,e1,e2,e3,e4,e5,e6,e7,e8,e9,e11,e13,A1,C1,A2,C2,A3,C3,rfl,hC⟩:=hJ;obtain ⟨hB,hC⟩:=hC;obtain ⟨c0,hC⟩:=hC;obtain ⟨c1,hC⟩:=hC;obtain ⟨c2,hC⟩:=hC;obtain ⟨c3,hC⟩:=hC;obtain ⟨c4,hC⟩:=hC;obtain ⟨c5,hC⟩:=hC;obtain ⟨c6,hC⟩:=hC;obtain ⟨c7,hC⟩:=hC;obtain ⟨c8,hC⟩:=hC;obtain ⟨c9,hC⟩:=hC;obtain ⟨c10,hC⟩:=hC;obtain ⟨c11,hC⟩:=hC;obtain ⟨c12,hC⟩:=hC;obtain ⟨c13,hC⟩:=hC;obtain ⟨c14,hC⟩:=hC
  obtain ⟨cw,hC⟩:=hC;obtain ⟨cz,hC⟩:=hC;have cr:=hC;clear hC;obtain ⟨h2,h5,h8,h10,h12,hX⟩:=c14 (hall 14 (by decide +kernel))
  obtain ⟨rfl,o1⟩:=c2 h2;obtain ⟨rfl,o2⟩:=c5 h5;obtain ⟨rfl,o3,hne,_⟩:=c8 h8;have HO:Hid (OwnAu w' (w.heap.size + 1 + 1) ⟨A1,told.length,C1,A2,use.length,C2,A3,inc.length,C3⟩ ⟨tr,ph,told,use,inc,moved⟩):=⟨⟨rfl,o1⟩,⟨rfl,o2⟩,⟨rfl,o3⟩,hne⟩;have HX:=qH hX;have HR:=qH cr;have Hb2:=qH hB;obtain rfl:=c0 (hall 0 (by decide +kernel))
  obtain rfl:=c1 (hall 1 (by decide +kernel))
  obtain rfl:=c3 (hall 3 (by decide +kernel))
  obtain rfl:=c4 (hall 4 (by decide +kernel))
  obtain rfl:=c6 (hall 6 (by decide +kernel))
  obtain rfl:=c7 (hall 7 (by decide +kernel))
  obtain rfl:=c9 (hall 9 (by decide +kernel))
  obtain rfl:=c11 (hall 11 (by decide +kernel))
  obtain rfl:=c13 (hall 13 (by decide +kernel))
  clear c2 c5 c8 c10 c12 c14 cw cz cr hall hX hB h2 h5 h8 h10 h12 o1 o2 o3 hne;simp only [putAll,Act.put,qA,qB,qC];obtain ⟨z0,z1,z2,z3,z4,z5⟩:=au_cells HX.out;simp only at z0 z1 z2 z3 z4 z5;obtain ⟨x0,x1,x2,x3,x4,x5⟩:=au_cells HR.out;simp only at x0 x1 x2 x3 x4 x5;have y0:=HR.out.free 0;have y1:=HR.out.free 1;have y2:=HR.out.free 2;have y3:=HR.out.free 3;have y4:=HR.out.free 4;have y5:=HR.out.free 5
  have HS:=qH (au6_whole (y:=⟨tr,ph,told,use,inc,moved⟩) (p:=⟨A1,told.length,C1,A2,use.length,C2,A3,inc.length,C3⟩) HR.out)
  go_wp2_with fail
  obtain ⟨q0,q1,q2,q3,q4,q5⟩:=au_cells HS.out;simp only [au6] at q0 q1 q2 q3 q4 q5;refine bodyPost_ret (v:=auAt ⟨tr,ph,told,use,inc,moved⟩ ⟨A1,told.length,C1,A2,use.length,C2,A3,inc.length,C3⟩) (by simp [results,Tryz.results164,go_sem,q0,q1,q2,q3,q4,q5]) rfl ⟨_,rfl,?_,?_⟩
  · exact ((((((HO.out.low (q:=⟨w.heap.size + 1,0,none⟩) (Nat.lt_succ_self _) _).low (q:=⟨w.heap.size + 1,1,none⟩) (Nat.lt_succ_self _) _).low (q:=⟨w.heap.size + 1,2,none⟩) (Nat.lt_succ_self _) _).low (q:=⟨w.heap.size + 1,3,none⟩) (Nat.lt_succ_self _) _).low (q:=⟨w.heap.size + 1,4,none⟩) (Nat.lt_succ_self _) _).low (q:=⟨w.heap.size + 1,5,none⟩) (Nat.lt_succ_self _) _).mono (by omega)
  · exact au6_below (y:=⟨tr,ph,told,use,inc,moved⟩) (p:=⟨A1,told.length,C1,A2,use.length,C2,A3,inc.length,C3⟩) Hb2.out (Nat.le_succ _)
end Go.Proofs.YtecjnkokdnmhlaaGreat
