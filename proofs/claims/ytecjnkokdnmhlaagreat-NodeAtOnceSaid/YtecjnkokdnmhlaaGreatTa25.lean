/- Parts, as far as NodeAtOnceCards reaches them, of: NodeBox, NodeOwn. No law is proved here. -/
import Derived.Test.YtecjnkokdnmhlaaGreatTa24
namespace Go.Proofs.YtecjnkokdnmhlaaGreat
open Go.RowKit
abbrev nd0:Nd:=⟨bk0,0,0,[]⟩
abbrev zeroN:Array Value:=ndCells nd0 (.slice none 0 0) (.slice none 0 0) (.slice none 0 0) (.slice none 0 0) (.slice none 0 0) (.slice none 0 0) (.slice none 0 0) (.slice none 0 0)
def nd15 (W:World) (g:Nat) (x:Nd) (rv lv ov nv tv uv iv sv:Value):World:=(((((((((((((((W).setCell ⟨g,0,none⟩ (.int .i64 x.bk.clk)).setCell ⟨g,1,none⟩ rv).setCell ⟨g,2,none⟩ lv).setCell ⟨g,3,none⟩ ov).setCell ⟨g,4,none⟩ (.int .i64 x.bk.asks)).setCell ⟨g,5,none⟩ nv).setCell ⟨g,6,none⟩ (.int .i64 x.bk.au.try_)).setCell ⟨g,7,none⟩ (.int .i64 x.bk.au.ph)).setCell ⟨g,8,none⟩ tv).setCell ⟨g,9,none⟩ uv).setCell ⟨g,10,none⟩ iv).setCell ⟨g,11,none⟩ (.bool x.bk.au.moved)).setCell ⟨g,12,none⟩ (.int .i64 x.tk)).setCell ⟨g,13,none⟩ (.int .i64 x.nx)).setCell ⟨g,14,none⟩ sv
abbrev nd15p (W:World) (g:Nat) (x:Nd) (p:Nl):World:=nd15 W g x (.slice p.bl.a1 p.bl.m1 p.bl.c1) (.slice p.bl.a2 p.bl.m2 p.bl.c2) (.slice p.bl.a3 p.bl.m3 p.bl.c3) (.slice p.bl.a4 p.bl.m4 p.bl.c4) (.slice p.bl.al.a1 p.bl.al.m1 p.bl.al.c1) (.slice p.bl.al.a2 p.bl.al.m2 p.bl.al.c2) (.slice p.bl.al.a3 p.bl.al.m3 p.bl.al.c3) (.slice p.a p.m p.c)
section
variable {w W:World} {x y:Nd} {p q:Nl} {rv lv ov nv tv uv iv sv rv' lv' ov' nv' tv' uv' iv' sv':Value} {g g':Nat}
theorem nd15_below {B:Nat} (h:Below B w W) (hg:B≤g):Below B w (nd15 W g x rv lv ov nv tv uv iv sv):=(((((((((((((((h.setCell (p:=⟨g,0,none⟩) hg _).setCell (p:=⟨g,1,none⟩) hg _).setCell (p:=⟨g,2,none⟩) hg _).setCell (p:=⟨g,3,none⟩) hg _).setCell (p:=⟨g,4,none⟩) hg _).setCell (p:=⟨g,5,none⟩) hg _).setCell (p:=⟨g,6,none⟩) hg _).setCell (p:=⟨g,7,none⟩) hg _).setCell (p:=⟨g,8,none⟩) hg _).setCell (p:=⟨g,9,none⟩) hg _).setCell (p:=⟨g,10,none⟩) hg _).setCell (p:=⟨g,11,none⟩) hg _).setCell (p:=⟨g,12,none⟩) hg _).setCell (p:=⟨g,13,none⟩) hg _).setCell (p:=⟨g,14,none⟩) hg _)
theorem nd15_cells:((((((((((((((((ndCells y rv' lv' ov' nv' tv' uv' iv' sv')).setIfInBounds 0 (.int .i64 x.bk.clk)).setIfInBounds 1 rv).setIfInBounds 2 lv).setIfInBounds 3 ov).setIfInBounds 4 (.int .i64 x.bk.asks)).setIfInBounds 5 nv).setIfInBounds 6 (.int .i64 x.bk.au.try_)).setIfInBounds 7 (.int .i64 x.bk.au.ph)).setIfInBounds 8 tv).setIfInBounds 9 uv).setIfInBounds 10 iv).setIfInBounds 11 (.bool x.bk.au.moved)).setIfInBounds 12 (.int .i64 x.tk)).setIfInBounds 13 (.int .i64 x.nx)).setIfInBounds 14 sv=ndCells x rv lv ov nv tv uv iv sv:=by
 simp only [ndCells,qA,qB,qC]
theorem nd15_whole (h:Whole W g 39 (ndCells y rv' lv' ov' nv' tv' uv' iv' sv')):Whole (nd15 W g x rv lv ov nv tv uv iv sv) g 39 (ndCells x rv lv ov nv tv uv iv sv):=by
 have h1:=(((((((((((((((h.set 0 (.int .i64 x.bk.clk)).set 1 rv).set 2 lv).set 3 ov).set 4 (.int .i64 x.bk.asks)).set 5 nv).set 6 (.int .i64 x.bk.au.try_)).set 7 (.int .i64 x.bk.au.ph)).set 8 tv).set 9 uv).set 10 iv).set 11 (.bool x.bk.au.moved)).set 12 (.int .i64 x.tk)).set 13 (.int .i64 x.nx)).set 14 sv);rw [nd15_cells] at h1
 exact h1
theorem nd15_buts {S:Nat→Prop} (h:ButS S w W) (hg:S g):ButS S w (nd15 W g x rv lv ov nv tv uv iv sv):=(((((((((((((((h.set (p:=⟨g,0,none⟩) hg _).set (p:=⟨g,1,none⟩) hg _).set (p:=⟨g,2,none⟩) hg _).set (p:=⟨g,3,none⟩) hg _).set (p:=⟨g,4,none⟩) hg _).set (p:=⟨g,5,none⟩) hg _).set (p:=⟨g,6,none⟩) hg _).set (p:=⟨g,7,none⟩) hg _).set (p:=⟨g,8,none⟩) hg _).set (p:=⟨g,9,none⟩) hg _).set (p:=⟨g,10,none⟩) hg _).set (p:=⟨g,11,none⟩) hg _).set (p:=⟨g,12,none⟩) hg _).set (p:=⟨g,13,none⟩) hg _).set (p:=⟨g,14,none⟩) hg _)
theorem nd12_cells (z:Bk):(((((((((((((ndCells y rv' lv' ov' nv' tv' uv' iv' sv')).setIfInBounds 0 (.int .i64 z.clk)).setIfInBounds 1 rv).setIfInBounds 2 lv).setIfInBounds 3 ov).setIfInBounds 4 (.int .i64 z.asks)).setIfInBounds 5 nv).setIfInBounds 6 (.int .i64 z.au.try_)).setIfInBounds 7 (.int .i64 z.au.ph)).setIfInBounds 8 tv).setIfInBounds 9 uv).setIfInBounds 10 iv).setIfInBounds 11 (.bool z.au.moved)=ndCells ⟨z,y.tk,y.nx,y.asked⟩ rv lv ov nv tv uv iv sv':=by
 simp only [ndCells,qA,qB,qC]
theorem nd12_whole (z:Bk) (h:Whole W g 39 (ndCells y rv' lv' ov' nv' tv' uv' iv' sv')):Whole (bk12 W g z rv lv ov nv tv uv iv) g 39 (ndCells ⟨z,y.tk,y.nx,y.asked⟩ rv lv ov nv tv uv iv sv'):=by
 have h1:=((((((((((((h.set 0 (.int .i64 z.clk)).set 1 rv).set 2 lv).set 3 ov).set 4 (.int .i64 z.asks)).set 5 nv).set 6 (.int .i64 z.au.try_)).set 7 (.int .i64 z.au.ph)).set 8 tv).set 9 uv).set 10 iv).set 11 (.bool z.au.moved));rw [nd12_cells] at h1
 exact h1
end
end Go.Proofs.YtecjnkokdnmhlaaGreat
namespace Go.Proofs.YtecjnkokdnmhlaaGreat
open Go.RowKit
def OwnNd (W:World) (B:Nat) (p:Nl) (x:Nd):Prop:=OwnK W B p.bl x.bk∧p.m=x.asked.length∧OwnN W B (.slice p.a p.m p.c) x.asked
def CopiedNd (w:World) (x:Nd) (e:Ending) (w':World):Prop:=∃ p:Nl,e=.returned (ndAt x p)∧OwnNd w' w.heap.size p x∧Below w.heap.size w w'
section
variable {W W':World} {B B':Nat} {p:Bl} {x:Bk}
theorem OwnK.later (h:OwnK W B p x) (hb:Below W.heap.size W W'):OwnK W' B p x :=
 ⟨⟨h.1.1,h.1.2.later hb⟩,⟨h.2.1.1,own_later h.2.1.2 hb⟩,⟨h.2.2.1.1,own_later h.2.2.1.2 hb⟩,⟨h.2.2.2.1.1,own_later h.2.2.2.1.2 hb⟩,h.2.2.2.2.later hb⟩
theorem OwnK.mono (h:OwnK W B p x) (hB:B'≤B):OwnK W B' p x :=
 ⟨⟨h.1.1,h.1.2.mono hB⟩,⟨h.2.1.1,own_mono h.2.1.2 hB⟩,⟨h.2.2.1.1,own_mono h.2.2.1.2 hB⟩,⟨h.2.2.2.1.1,own_mono h.2.2.2.1.2 hB⟩,h.2.2.2.2.mono hB⟩
theorem OwnAu.butS {q:Al} {a:Au} {S:Nat→Prop} (h:OwnAu W B q a) (hS:∀ b,S b→b < B) (k:ButS S W W'):OwnAu W' B q a :=
 ⟨⟨h.1.1,row_butS h.1.2 hS k⟩,⟨h.2.1.1,row_butS h.2.1.2 hS k⟩,⟨h.2.2.1.1,row_butS h.2.2.1.2 hS k⟩,h.2.2.2⟩
theorem OwnK.butS {S:Nat→Prop} (h:OwnK W B p x) (hS:∀ b,S b→b < B) (k:ButS S W W'):OwnK W' B p x :=
 ⟨⟨h.1.1,h.1.2.butS hS k⟩,⟨h.2.1.1,row_butS h.2.1.2 hS k⟩,⟨h.2.2.1.1,row_butS h.2.2.1.2 hS k⟩,⟨h.2.2.2.1.1,row_butS h.2.2.2.1.2 hS k⟩,h.2.2.2.2.butS hS k⟩
theorem OwnNd.mono {q:Nl} {y:Nd} (h:OwnNd W B q y) (hB:B'≤B):OwnNd W B' q y:=⟨h.1.mono hB,h.2.1,own_mono h.2.2 hB⟩
theorem OwnNd.butS {S:Nat→Prop} {q:Nl} {y:Nd} (h:OwnNd W B q y) (hS:∀ b,S b→b < B) (k:ButS S W W'):OwnNd W' B q y:=⟨h.1.butS hS k,h.2.1,row_butS h.2.2 hS k⟩
end
set_option maxRecDepth 100000 in
set_option maxHeartbeats 8000000 in
theorem own18_calls (x:Nd) (p:Nl) (hf:FewK x.bk) (ha:x.asked.length≤1000) (w:World) (hK:NdIn w p x):Calls Tryz.prog 77 #[ndAt x p] w (CopiedNd w x):=by
 have HI0:=qH hK;have Hf:=qH hf;have HA:=qH ha;clear hK hf ha;obtain ⟨N1,HN1⟩:∃ z,Hid (x.asked.length=z):=⟨_,rfl⟩;have HX0:=qH ((Whole.made w 39 (ndAtC x p)).alloc (.cells zeroN 39));have HR0:=qH (Whole.made2 w (.cells (ndAtC x p) 39) 39 zeroN);have HB0:=qH (below_two w (.cells (ndAtC x p) 39) (.cells zeroN 39));obtain ⟨W0,HW0⟩:∃ z,Hid ((w.alloc (.cells (ndAtC x p) 39)).alloc (.cells zeroN 39)=z):=⟨_,rfl⟩
 rw [HW0.out] at HX0 HR0 HB0
 go_enter Tryz.func77,Tryz.ntmps77
 go_wp2_with fail
 rw [HW0.out];refine wp_region_each_at ?hm ?hb (fun a0 d a' w'=>∃ (e0 e1 e2 e3 e4 e5 e6 e7 e9 e10:Value) (P1:Bl) (A1:Option Addr) (C1:Nat),a'=putAll a0 [(3,e0),(4,e1),(5,e2),(6,e3),(7,e4),(8,e5),(9,e6),(10,e7),(11,e9),(12,e10)]∧Below w.heap.size W0 w'∧(d 0=true→e0=(.pointer (some ⟨w.heap.size,0,none⟩)))∧(d 1=true→e1=(bkAt x.bk p.bl))∧(d 2=true→(d 1=true∧e2=(bkAt x.bk P1)∧OwnK w' W0.heap.size P1 x.bk))∧(d 3=true→e3=(.pointer (some ⟨w.heap.size,12,none⟩)))∧(d 4=true→e4=(.pointer (some ⟨w.heap.size,14,none⟩)))∧(d 5=true→e5=(.slice p.a p.m p.c))∧(d 6=true→(d 5=true∧d 2=true∧e6=(.slice A1 N1 C1)∧OwnN w' W0.heap.size (.slice A1 N1 C1) x.asked))∧(d 7=true→e7=(.pointer (some ⟨w.heap.size,0,none⟩)))∧(d 8=true→(d 6=true∧(d 11=false→Whole w' w.heap.size 39 (ndAtC x ⟨P1,p.a,p.m,p.c⟩))))∧(d 9=true→e9=(.pointer (some ⟨w.heap.size,12,none⟩)))∧(d 10=true→e10=(.pointer (some ⟨w.heap.size,14,none⟩)))∧(d 11=true→(d 8=true∧Whole w' w.heap.size 39 (ndAtC x ⟨P1,A1,N1,C1⟩)))∧(d 8=false→Below W0.heap.size W0 w')∧Whole w' (w.heap.size + 1) 39 zeroN) ?h0 ?step ?ends
 case hm=>kernel_rfl
 case hb=>kernel_rfl
 case h0 =>
  refine ⟨undef,undef,undef,undef,undef,undef,undef,undef,undef,undef,⟨none,0,0,none,0,0,none,0,0,none,0,0,al0⟩,none,0,?_,(Below.refl _ _).drew,fun h=>absurd h (by decide),fun h=>absurd h (by decide),fun h=>absurd h (by decide),fun h=>absurd h (by decide),fun h=>absurd h (by decide),fun h=>absurd h (by decide),fun h=>absurd h (by decide),fun h=>absurd h (by decide),fun h=>absurd h (by decide),fun h=>absurd h (by decide),fun h=>absurd h (by decide),fun h=>absurd h (by decide),fun _=>(Below.refl _ _).drew,HR0.out.drew⟩
  simp only [putAll,Act.put,qA,qB,qC]
 case step =>
  intro i d a' w' hi hJ hd hk;obtain ⟨e0,e1,e2,e3,e4,e5,e6,e7,e9,e10,P1,A1,C1,rfl,hC⟩:=hJ;obtain ⟨hB,hC⟩:=hC;obtain ⟨c0,hC⟩:=hC;obtain ⟨c1,hC⟩:=hC;obtain ⟨c2,hC⟩:=hC;obtain ⟨c3,hC⟩:=hC;obtain ⟨c4,hC⟩:=hC;obtain ⟨c5,hC⟩:=hC;obtain ⟨c6,hC⟩:=hC;obtain ⟨c7,hC⟩:=hC;obtain ⟨c8,hC⟩:=hC;obtain ⟨c9,hC⟩:=hC;obtain ⟨c10,hC⟩:=hC;obtain ⟨c11,hC⟩:=hC;obtain ⟨cb,hC⟩:=hC;have cr:=hC;clear hC;have Xc0:=qH c0; clear c0
  have Xc1:=qH c1; clear c1;have Xc2:=qH c2; clear c2;have Xc3:=qH c3; clear c3;have Xc4:=qH c4; clear c4;have Xc5:=qH c5; clear c5;have Xc6:=qH c6; clear c6;have Xc7:=qH c7; clear c7;have Xc8:=qH c8; clear c8;have Xc9:=qH c9; clear c9;have Xc10:=qH c10; clear c10;have Xc11:=qH c11; clear c11;have Xcb:=qH cb; clear cb;have Xcr:=qH cr; clear cr
  match i,hi,hd,hk with
  | 0, _, hd, hk =>
    apply wpOp_at
    case ho=>rfl
    intro K hK;simp only [putAll,Act.put,qA,qB,qC];go_simp;refine hK _ _ ⟨(.pointer (some ⟨w.heap.size,0,none⟩)),_,_,_,_,_,_,_,_,_,P1,A1,C1,?_,hB,fun _=>rfl,Xc1,Xc2,Xc3,Xc4,Xc5,Xc6,Xc7,Xc8,Xc9,Xc10,Xc11,Xcb,Xcr.out⟩
    simp only [putAll,Act.put,qA,qB,qC]
  | 1, _, hd, hk =>
    have h0:=hk 0 (by decide +kernel)
    have c0:=Xc0.out;have c2:=Xc2.out;have c6:=Xc6.out;have c8:=Xc8.out;have cb:=Xcb.out;obtain rfl:=c0 h0;have hdf:d 8=false:=by cases h:d 8 with | false=>rfl | true=>exact Bool.noConfusion (hd.symm.trans (c2 (c6 (c8 h).1).2.1).1)
    have hb9:=cb hdf;have hW9:=HX0.out.later hb9 HX0.out.lt;obtain ⟨⟨q0,q1,q2,q3⟩,⟨q4,q5,q6,q7⟩,⟨q8,q9,q10,q11⟩,q12,q13,q14⟩:=nd_cells hW9;clear c0 c2 c6 c8 cb;apply wpOp_at
    case ho=>rfl
    intro K hK;simp only [putAll,Act.put,qA,qB,qC];go_simp;have c2:=Xc2.out;refine hK _ _ ⟨(.pointer (some ⟨w.heap.size,0,none⟩)),(bkAt x.bk p.bl),e2,_,_,_,_,_,_,_,P1,A1,C1,?_,hB,Xc0,fun _=>rfl,fun h=>Bool.noConfusion (hd.symm.trans (c2 h).1),Xc3,Xc4,Xc5,Xc6,Xc7,Xc8,Xc9,Xc10,Xc11,Xcb,Xcr.out⟩
    simp only [putAll,Act.put,qA,qB,qC]
  | 2, _, hd, hk =>
    have h1:=hk 1 (by decide +kernel)
    have c1:=Xc1.out;have c6:=Xc6.out;have c8:=Xc8.out;have cb:=Xcb.out;obtain rfl:=c1 h1;have hdf:d 8=false:=by cases h:d 8 with | false=>rfl | true=>exact Bool.noConfusion (hd.symm.trans (c6 (c8 h).1).2.1)
    have hb9:=cb hdf;clear c1 c6 c8 cb;apply wpOp_at
    case ho=>rfl
    intro K hK;simp only [putAll,Act.put,qA,qB,qC];go_simp;have c6:=Xc6.out;have c8:=Xc8.out;have c11:=Xc11.out;have cb:=Xcb.out;have cr:=Xcr.out;refine (copied18_calls x.bk p.bl Hf.out w' (HI0.out.1.later (held_next HB0.out hb9))).mono ?_;rintro e w'' ⟨Q,rfl,hO,hb⟩;refine hK _ _ ⟨_,(bkAt x.bk p.bl),bkAt x.bk Q,_,_,_,e6,_,_,_,Q,A1,C1,?_,hB.trans (hb.mono (Nat.le_trans HB0.out.size hb9.size)),Xc0,Xc1,fun _=>⟨h1,rfl,hO.mono hb9.size⟩,Xc3,Xc4,Xc5,fun h=>Bool.noConfusion (hd.symm.trans (c6 h).2.1),Xc7,fun h=>Bool.noConfusion (hd.symm.trans (c6 (c8 h).1).2.1),Xc9,Xc10,fun h=>Bool.noConfusion (hd.symm.trans (c6 (c8 (c11 h).1).1).2.1),fun h=>held_next (cb h) hb,cr.later hb cr.lt⟩
    simp only [putAll,Act.put,qA,qB,qC]
  | 3, _, hd, hk =>
    apply wpOp_at
    case ho=>rfl
    intro K hK;simp only [putAll,Act.put,qA,qB,qC];go_simp;refine hK _ _ ⟨_,_,_,(.pointer (some ⟨w.heap.size,12,none⟩)),_,_,_,_,_,_,P1,A1,C1,?_,hB,Xc0,Xc1,Xc2,fun _=>rfl,Xc4,Xc5,Xc6,Xc7,Xc8,Xc9,Xc10,Xc11,Xcb,Xcr.out⟩
    simp only [putAll,Act.put,qA,qB,qC]
  | 4, _, hd, hk =>
    have h3:=hk 3 (by decide +kernel)
    have c3:=Xc3.out;obtain rfl:=c3 h3;clear c3;apply wpOp_at
    case ho=>rfl
    intro K hK;simp only [putAll,Act.put,qA,qB,qC];go_simp;refine hK _ _ ⟨_,_,_,(.pointer (some ⟨w.heap.size,12,none⟩)),(.pointer (some ⟨w.heap.size,14,none⟩)),_,_,_,_,_,P1,A1,C1,?_,hB,Xc0,Xc1,Xc2,Xc3,fun _=>rfl,Xc5,Xc6,Xc7,Xc8,Xc9,Xc10,Xc11,Xcb,Xcr.out⟩
    simp only [putAll,Act.put,qA,qB,qC]
  | 5, _, hd, hk =>
    have h4:=hk 4 (by decide +kernel)
    have c4:=Xc4.out;have c6:=Xc6.out;have c8:=Xc8.out;have cb:=Xcb.out;obtain rfl:=c4 h4;have hdf:d 8=false:=by cases h:d 8 with | false=>rfl | true=>exact Bool.noConfusion (hd.symm.trans (c6 (c8 h).1).1)
    have hb9:=cb hdf;have hW9:=HX0.out.later hb9 HX0.out.lt;obtain ⟨⟨q0,q1,q2,q3⟩,⟨q4,q5,q6,q7⟩,⟨q8,q9,q10,q11⟩,q12,q13,q14⟩:=nd_cells hW9;clear c4 c6 c8 cb;apply wpOp_at
    case ho=>rfl
    intro K hK;simp only [putAll,Act.put,qA,qB,qC];go_simp;have c6:=Xc6.out;refine hK _ _ ⟨_,_,_,_,(.pointer (some ⟨w.heap.size,14,none⟩)),(.slice p.a p.m p.c),e6,_,_,_,P1,A1,C1,?_,hB,Xc0,Xc1,Xc2,Xc3,Xc4,fun _=>rfl,fun h=>Bool.noConfusion (hd.symm.trans (c6 h).1),Xc7,Xc8,Xc9,Xc10,Xc11,Xcb,Xcr.out⟩
    simp only [putAll,Act.put,qA,qB,qC]
  | 6, _, hd, hk =>
    have h2:=hk 2 (by decide +kernel)
    have h5:=hk 5 (by decide +kernel)
    have c5:=Xc5.out;have c8:=Xc8.out;have cb:=Xcb.out;obtain rfl:=c5 h5;have hdf:d 8=false:=by cases h:d 8 with | false=>rfl | true=>exact Bool.noConfusion (hd.symm.trans (c8 h).1)
    have hb9:=cb hdf;clear c5 c8 cb;apply wpOp_at
    case ho=>rfl
    intro K hK;simp only [putAll,Act.put,qA,qB,qC];go_simp;have c2:=Xc2.out;have c8:=Xc8.out;have c11:=Xc11.out;have cb:=Xcb.out;have cr:=Xcr.out;refine (cloneN_calls p.a p.m p.c x.asked HI0.out.2.1 (by have:=HA.out; have:=HI0.out.2.1; omega) w' (HI0.out.2.2.later (held_next HB0.out hb9))).mono ?_
    rintro e w'' ⟨A,C,rfl,hO,hb⟩;rw [HN1.out] at hO ⊢;refine hK _ _ ⟨_,_,e2,_,_,(.slice p.a p.m p.c),.slice A N1 C,_,_,_,P1,A,C,?_,hB.trans (hb.mono (Nat.le_trans HB0.out.size hb9.size)),Xc0,Xc1,fun h=>⟨(c2 h).1,(c2 h).2.1,(c2 h).2.2.later hb⟩,Xc3,Xc4,Xc5,fun _=>⟨h5,h2,rfl,own_mono hO hb9.size⟩,Xc7,fun h=>Bool.noConfusion (hd.symm.trans (c8 h).1),Xc9,Xc10,fun h=>Bool.noConfusion (hd.symm.trans (c8 (c11 h).1).1),fun h=>held_next (cb h) hb,cr.later hb cr.lt⟩
    simp only [putAll,Act.put,qA,qB,qC]
  | 7, _, hd, hk =>
    apply wpOp_at
    case ho=>rfl
    intro K hK;simp only [putAll,Act.put,qA,qB,qC];go_simp;refine hK _ _ ⟨_,_,_,_,_,_,_,(.pointer (some ⟨w.heap.size,0,none⟩)),_,_,P1,A1,C1,?_,hB,Xc0,Xc1,Xc2,Xc3,Xc4,Xc5,Xc6,fun _=>rfl,Xc8,Xc9,Xc10,Xc11,Xcb,Xcr.out⟩
    simp only [putAll,Act.put,qA,qB,qC]
  | 8, _, hd, hk =>
    have h2:=hk 2 (by decide +kernel)
    have h6:=hk 6 (by decide +kernel)
    have h7:=hk 7 (by decide +kernel)
    have c2:=Xc2.out;have c7:=Xc7.out;have cb:=Xcb.out;have cr:=Xcr.out;obtain rfl:=c7 h7;obtain ⟨-,rfl,-⟩:=c2 h2;have hb9:=cb hd;have hW9:=HX0.out.later hb9 HX0.out.lt;obtain ⟨⟨q0,q1,q2,q3⟩,⟨q4,q5,q6,q7⟩,⟨q8,q9,q10,q11⟩,q12,q13,q14⟩:=nd_cells hW9;have y0:=hW9.free 0;have y1:=hW9.free 1;have y2:=hW9.free 2;have y3:=hW9.free 3;have y4:=hW9.free 4;have y5:=hW9.free 5;have y6:=hW9.free 6;have y7:=hW9.free 7
    have y8:=hW9.free 8;have y9:=hW9.free 9;have y10:=hW9.free 10;have y11:=hW9.free 11;have y12:=hW9.free 12;have y13:=hW9.free 13;have y14:=hW9.free 14;have hW8:=nd12_whole (y:=x) x.bk (rv:=.slice P1.a1 P1.m1 P1.c1) (lv:=.slice P1.a2 P1.m2 P1.c2) (ov:=.slice P1.a3 P1.m3 P1.c3) (nv:=.slice P1.a4 P1.m4 P1.c4) (tv:=.slice P1.al.a1 P1.al.m1 P1.al.c1) (uv:=.slice P1.al.a2 P1.al.m2 P1.al.c2) (iv:=.slice P1.al.a3 P1.al.m3 P1.al.c3) hW9
    have hbt:ButS (fun b=>b=w.heap.size) w' (bk12p w' w.heap.size x.bk P1):=bk12_buts (ButS.refl _ _) rfl
    have hS:∀ b,b=w.heap.size→b < W0.heap.size:=fun b e=>by rw [e]; exact HX0.out.lt
    have cr9:Whole (bk12p w' w.heap.size x.bk P1) (w.heap.size + 1) 39 zeroN:=bk12_other cr (by omega)
    clear c2 c7 cb cr;apply wpOp_at
    case ho=>rfl
    intro K hK;simp only [putAll,Act.put,qA,qB,qC];go_simp;have c2:=Xc2.out;have c6:=Xc6.out;have c11:=Xc11.out;refine hK _ _ ⟨_,_,(bkAt x.bk P1),_,_,_,e6,(.pointer (some ⟨w.heap.size,0,none⟩)),_,_,P1,A1,C1,?_,bk12_below hB (Nat.le_refl _),Xc0,Xc1,fun h=>⟨(c2 h).1,(c2 h).2.1,(c2 h).2.2.butS hS hbt⟩,Xc3,Xc4,Xc5,fun h=>⟨(c6 h).1,(c6 h).2.1,(c6 h).2.2.1,row_butS (c6 h).2.2.2 hS hbt⟩,Xc7,fun _=>⟨h6,fun _=>hW8⟩,Xc9,Xc10,fun h=>Bool.noConfusion (hd.symm.trans (c11 h).1),fun h=>Bool.noConfusion (show true=false from h),cr9⟩
    simp only [putAll,Act.put,qA,qB,qC]
  | 9, _, hd, hk =>
    have h8:=hk 8 (by decide +kernel)
    apply wpOp_at
    case ho=>rfl
    intro K hK;simp only [putAll,Act.put,qA,qB,qC];go_simp;refine hK _ _ ⟨_,_,_,_,_,_,_,_,(.pointer (some ⟨w.heap.size,12,none⟩)),_,P1,A1,C1,?_,hB,Xc0,Xc1,Xc2,Xc3,Xc4,Xc5,Xc6,Xc7,Xc8,fun _=>rfl,Xc10,Xc11,Xcb,Xcr.out⟩
    simp only [putAll,Act.put,qA,qB,qC]
  | 10, _, hd, hk =>
    have h9:=hk 9 (by decide +kernel)
    have c9:=Xc9.out;obtain rfl:=c9 h9;clear c9;apply wpOp_at
    case ho=>rfl
    intro K hK;simp only [putAll,Act.put,qA,qB,qC];go_simp;refine hK _ _ ⟨_,_,_,_,_,_,_,_,(.pointer (some ⟨w.heap.size,12,none⟩)),(.pointer (some ⟨w.heap.size,14,none⟩)),P1,A1,C1,?_,hB,Xc0,Xc1,Xc2,Xc3,Xc4,Xc5,Xc6,Xc7,Xc8,Xc9,fun _=>rfl,Xc11,Xcb,Xcr.out⟩
    simp only [putAll,Act.put,qA,qB,qC]
  | 11, _, hd, hk =>
    have h6:=hk 6 (by decide +kernel)
    have h8:=hk 8 (by decide +kernel)
    have h10:=hk 10 (by decide +kernel)
    have c6:=Xc6.out;have c8:=Xc8.out;have c10:=Xc10.out;obtain rfl:=c10 h10;obtain ⟨-,-,rfl,-⟩:=c6 h6;have hW9:=(c8 h8).2 hd;have z14:=hW9.cell 14;have y14:=hW9.free 14;have hW8:=hW9.set 14 (.slice A1 N1 C1);simp only [ndAtC,ndCells,qA,qB,qC] at hW8;have hbw:w.heap.size < W0.heap.size:=HX0.out.lt;have hbt:ButS (fun b=>b=w.heap.size) w' (w'.setCell ⟨w.heap.size,14,none⟩ (.slice A1 N1 C1)):=(ButS.refl (fun b=>b=w.heap.size) w').set (p:=⟨w.heap.size,14,none⟩) rfl _
    have hS:∀ b,b=w.heap.size→b < W0.heap.size:=fun b e=>by rw [e]; exact HX0.out.lt
    clear c6 c8 c10;apply wpOp_at
    case ho=>rfl
    intro K hK;simp only [putAll,Act.put,qA,qB,qC];go_simp;have c2:=Xc2.out;have c6:=Xc6.out;have c8:=Xc8.out;have cr:=Xcr.out;refine hK _ _ ⟨_,_,e2,_,_,_,(.slice A1 N1 C1),_,_,(.pointer (some ⟨w.heap.size,14,none⟩)),P1,A1,C1,?_,hB.setCell (p:=⟨w.heap.size,14,none⟩) (Nat.le_refl _) _,Xc0,Xc1,fun h=>⟨(c2 h).1,(c2 h).2.1,(c2 h).2.2.butS hS hbt⟩,Xc3,Xc4,Xc5,fun h=>⟨(c6 h).1,(c6 h).2.1,(c6 h).2.2.1,own_low (c6 h).2.2.2 (p:=⟨w.heap.size,14,none⟩) hbw _⟩,Xc7,fun h=>⟨(c8 h).1,fun k=>absurd (show true=false from k) (by decide)⟩,Xc9,Xc10,fun _=>⟨h8,hW8⟩,fun h=>absurd (h8.symm.trans h) (by decide),cr.other (by show w.heap.size + 1 ≠ w.heap.size; omega) _⟩
    simp only [putAll,Act.put,qA,qB,qC]
  | k + 12,hi,_,_=>exact absurd hi (by simp)
 case ends =>
  intro d a' w' hJ hall;obtain ⟨e0,e1,e2,e3,e4,e5,e6,e7,e9,e10,P1,A1,C1,rfl,hC⟩:=hJ;obtain ⟨hB,hC⟩:=hC;obtain ⟨c0,hC⟩:=hC;obtain ⟨c1,hC⟩:=hC;obtain ⟨c2,hC⟩:=hC;obtain ⟨c3,hC⟩:=hC;obtain ⟨c4,hC⟩:=hC;obtain ⟨c5,hC⟩:=hC;obtain ⟨c6,hC⟩:=hC;obtain ⟨c7,hC⟩:=hC;obtain ⟨c8,hC⟩:=hC;obtain ⟨c9,hC⟩:=hC;obtain ⟨c10,hC⟩:=hC;obtain ⟨c11,hC⟩:=hC;obtain ⟨cb,hC⟩:=hC;have cr:=hC;clear hC;have HX:=qH (c11 (hall 11 (by decide +kernel))).2
  have HR:=qH cr;have HBe:=qH hB;obtain ⟨-,rfl,ho2⟩:=c2 (hall 2 (by decide +kernel))
  obtain ⟨-,-,rfl,ho6⟩:=c6 (hall 6 (by decide +kernel))
  have HO2:=qH ho2;have HO6:=qH ho6;obtain rfl:=c0 (hall 0 (by decide +kernel))
  obtain rfl:=c1 (hall 1 (by decide +kernel))
  obtain rfl:=c3 (hall 3 (by decide +kernel))
  obtain rfl:=c4 (hall 4 (by decide +kernel))
  obtain rfl:=c5 (hall 5 (by decide +kernel))
  obtain rfl:=c7 (hall 7 (by decide +kernel))
  obtain rfl:=c9 (hall 9 (by decide +kernel))
  obtain rfl:=c10 (hall 10 (by decide +kernel))
  clear c8 c11 ho2 ho6 cb cr hall hB;simp only [putAll,Act.put,qA,qB,qC];obtain ⟨W2,HW2⟩:∃ z,z=w':=⟨_,rfl⟩;subst HW2;obtain ⟨P,HP⟩:∃ P:Nl,P=⟨P1,A1,N1,C1⟩:=⟨_,rfl⟩;have HE:Hid (Whole (nd15p W2 (w.heap.size + 1) x P) (w.heap.size + 1) 39 (ndAtC x P)):=nd15_whole HR.out;have hbt:ButS (fun b=>b=w.heap.size + 1) W2 (nd15p W2 (w.heap.size + 1) x P):=nd15_buts (ButS.refl _ _) rfl
  have hw0:w.heap.size + 1 < W0.heap.size:=HR0.out.lt;have hlow:∀ b,b=w.heap.size + 1→b < W0.heap.size:=fun b e=>by omega
  have hK:OwnNd (nd15p W2 (w.heap.size + 1) x P) w.heap.size P x:=by
   have h:OwnNd W2 W0.heap.size P x:=by rw [HP]; exact ⟨HO2.out,HN1.out.symm,HO6.out⟩
   exact (h.butS hlow hbt).mono HB0.out.size
  have HK:=qH hK;have HBL:Hid (Below w.heap.size w (nd15p W2 (w.heap.size + 1) x P)):=nd15_below (HB0.out.trans HBe.out) (Nat.le_succ w.heap.size);obtain ⟨⟨q0,q1,q2,q3⟩,⟨q4,q5,q6,q7⟩,⟨q8,q9,q10,q11⟩,q12,q13,q14⟩:=nd_cells HX.out;obtain ⟨⟨z0,z1,z2,z3⟩,⟨z4,z5,z6,z7⟩,⟨z8,z9,z10,z11⟩,z12,z13,z14⟩:=nd_cells HR.out;have y0:=HR.out.free 0;have y1:=HR.out.free 1;have y2:=HR.out.free 2;have y3:=HR.out.free 3
  have y4:=HR.out.free 4;have y5:=HR.out.free 5;have y6:=HR.out.free 6;have y7:=HR.out.free 7;have y8:=HR.out.free 8;have y9:=HR.out.free 9;have y10:=HR.out.free 10;have y11:=HR.out.free 11;have y12:=HR.out.free 12;have y13:=HR.out.free 13;have y14:=HR.out.free 14;have hrlt:w.heap.size + 1 < W2.heap.size:=HR.out.lt;have hxlt:w.heap.size < W2.heap.size:=HX.out.lt;clear hK hbt hlow hw0
  go_wp2_with fail
  obtain ⟨⟨k0,k1,k2,k3⟩,⟨k4,k5,k6,k7⟩,⟨k8,k9,k10,k11⟩,k12,k13,k14⟩:=nd_cells HE.out;rw [HP] at k0 k1 k2 k3 k4 k5 k6 k7 k8 k9 k10 k11 k12 k13 k14;simp only [nd15p,nd15] at k0 k1 k2 k3 k4 k5 k6 k7 k8 k9 k10 k11 k12 k13 k14;refine bodyPost_ret (v:=ndAt x P) (by rw [HP]; simp [results,Tryz.results77,go_sem,k0,k1,k2,k3,k4,k5,k6,k7,k8,k9,k10,k11,k12,k13,k14]) rfl ⟨P,rfl,?_,?_⟩
  · have h:=HK.out
    rw [HP] at h ⊢
    exact h
  · have h:=HBL.out
    rw [HP] at h
    exact h
end Go.Proofs.YtecjnkokdnmhlaaGreat
