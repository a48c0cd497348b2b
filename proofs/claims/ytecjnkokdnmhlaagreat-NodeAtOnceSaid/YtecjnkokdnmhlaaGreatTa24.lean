/- Parts, as far as NodeAtOnceCards reaches them, of: NodeCopied. No law is proved here. -/
import Derived.Test.YtecjnkokdnmhlaaGreatTa23
namespace Go.Proofs.YtecjnkokdnmhlaaGreat
open Go.RowKit
def OwnK (W:World) (B:Nat) (p:Bl) (x:Bk):Prop :=
 (p.m1=x.rows.length∧OwnBooks W B (.slice p.a1 p.m1 p.c1) x.rows)∧(p.m2=x.line.length∧OwnQ W B (.slice p.a2 p.m2 p.c2) x.line)∧(p.m3=x.outs.length∧OwnOc W B (.slice p.a3 p.m3 p.c3) x.outs) ∧
 (p.m4=x.notes.length∧OwnNt W B (.slice p.a4 p.m4 p.c4) x.notes)∧OwnAu W B p.al x.au
def CopiedK (w:World) (x:Bk) (e:Ending) (w':World):Prop:=∃ p:Bl,e=.returned (bkAt x p)∧OwnK w' w.heap.size p x∧Below w.heap.size w w'
def Own4 (W:World) (B:Nat) (A1:Option Addr) (N1 C1:Nat) (A2:Option Addr) (N2 C2:Nat) (A3:Option Addr) (N3 C3:Nat) (A4:Option Addr) (N4 C4:Nat) (x:Bk):Prop :=
 OwnBooks W B (.slice A1 N1 C1) x.rows∧OwnQ W B (.slice A2 N2 C2) x.line∧OwnOc W B (.slice A3 N3 C3) x.outs∧OwnNt W B (.slice A4 N4 C4) x.notes
section
variable {W W':World} {B:Nat} {A1:Option Addr} {N1 C1:Nat} {A2:Option Addr} {N2 C2:Nat} {A3:Option Addr} {N3 C3:Nat} {A4:Option Addr} {N4 C4:Nat} {x:Bk}
theorem Own4.later (h:Own4 W B A1 N1 C1 A2 N2 C2 A3 N3 C3 A4 N4 C4 x) (hb:Below W.heap.size W W'):Own4 W' B A1 N1 C1 A2 N2 C2 A3 N3 C3 A4 N4 C4 x:=⟨h.1.later hb,own_later h.2.1 hb,own_later h.2.2.1 hb,own_later h.2.2.2 hb⟩
theorem Own4.low (h:Own4 W B A1 N1 C1 A2 N2 C2 A3 N3 C3 A4 N4 C4 x) {p:Addr} (hp:p.block < B) (u:Value):Own4 (W.setCell p u) B A1 N1 C1 A2 N2 C2 A3 N3 C3 A4 N4 C4 x:=⟨h.1.low hp u,own_low h.2.1 hp u,own_low h.2.2.1 hp u,own_low h.2.2.2 hp u⟩
end
def FewK (x:Bk):Prop:=(x.rows.length≤1000∧∀ k,k < x.rows.length→(at_ x.rows k).out.length≤1000)∧x.line.length≤1000∧x.outs.length≤1000∧x.notes.length≤1000∧x.au.told.length≤1000∧x.au.use.length≤1000∧x.au.inc.length≤1000
set_option maxRecDepth 100000 in
set_option maxHeartbeats 8000000 in
theorem copied18_calls (x:Bk) (p:Bl) (hf:FewK x) (w:World) (hK:BkIn w p x):Calls Tryz.prog 51 #[bkAt x p] w (CopiedK w x):=by
 have HI0:=qH hK;have Hf:=qH hf;have H1:=qH hK.1.1;have H2:=qH hK.2.1.1;have H3:=qH hK.2.2.1.1;have H4:=qH hK.2.2.2.1.1;have H5:=qH hK.2.2.2.2.1.1;have H6:=qH hK.2.2.2.2.2.1.1;have H7:=qH hK.2.2.2.2.2.2.1;clear hK hf;obtain ⟨N1,HN1⟩:∃ z,Hid (x.rows.length=z):=⟨_,rfl⟩;obtain ⟨N2,HN2⟩:∃ z,Hid (x.line.length=z):=⟨_,rfl⟩;obtain ⟨N3,HN3⟩:∃ z,Hid (x.outs.length=z):=⟨_,rfl⟩;obtain ⟨N4,HN4⟩:∃ z,Hid (x.notes.length=z):=⟨_,rfl⟩
 obtain ⟨N5,HN5⟩:∃ z,Hid (x.au.told.length=z):=⟨_,rfl⟩;obtain ⟨N6,HN6⟩:∃ z,Hid (x.au.use.length=z):=⟨_,rfl⟩;obtain ⟨N7,HN7⟩:∃ z,Hid (x.au.inc.length=z):=⟨_,rfl⟩;have HX0:=qH ((Whole.made w 35 (bkAtC x p)).alloc (.cells zeroK 35));have HR0:=qH (Whole.made2 w (.cells (bkAtC x p) 35) 35 zeroK);have HB0:=qH (below_two w (.cells (bkAtC x p) 35) (.cells zeroK 35));obtain ⟨W0,HW0⟩:∃ z,Hid ((w.alloc (.cells (bkAtC x p) 35)).alloc (.cells zeroK 35)=z):=⟨_,rfl⟩
 rw [HW0.out] at HX0 HR0 HB0
 go_enter Tryz.func51,Tryz.ntmps51
 go_wp2_with fail
 rw [HW0.out];refine wp_region_each_at ?hm ?hb (fun a0 d a' w'=>∃ (e0 e1 e2 e3 e4 e5 e6 e7 e8 e9 e10 e11 e12 e14 e16 e18:Value) (A1:Option Addr) (C1:Nat) (A2:Option Addr) (C2:Nat) (A3:Option Addr) (C3:Nat) (A4:Option Addr) (C4:Nat),a'=putAll a0 [(3,e0),(4,e1),(5,e2),(6,e3),(7,e4),(8,e5),(9,e6),(10,e7),(11,e8),(12,e9),(13,e10),(14,e11),(15,e12),(16,e14),(17,e16),(18,e18)]∧Below w.heap.size W0 w'∧(d 0=true→e0=(.pointer (some ⟨w.heap.size,1,none⟩)))∧(d 1=true→e1=(.slice p.a1 p.m1 p.c1))∧(d 2=true→(d 1=true∧True∧e2=(.slice A1 N1 C1)∧OwnBooks w' W0.heap.size (.slice A1 N1 C1) x.rows))∧(d 3=true→e3=(.pointer (some ⟨w.heap.size,2,none⟩)))∧(d 4=true→e4=(.slice p.a2 p.m2 p.c2))∧(d 5=true→(d 4=true∧d 2=true∧e5=(.slice A2 N2 C2)∧OwnQ w' W0.heap.size (.slice A2 N2 C2) x.line))∧(d 6=true→e6=(.pointer (some ⟨w.heap.size,3,none⟩)))∧(d 7=true→e7=(.slice p.a3 p.m3 p.c3))∧(d 8=true→(d 7=true∧d 5=true∧e8=(.slice A3 N3 C3)∧OwnOc w' W0.heap.size (.slice A3 N3 C3) x.outs))∧(d 9=true→e9=(.pointer (some ⟨w.heap.size,5,none⟩)))∧(d 10=true→e10=(.slice p.a4 p.m4 p.c4))∧(d 11=true→(d 10=true∧d 8=true∧e11=(.slice A4 N4 C4)∧OwnNt w' W0.heap.size (.slice A4 N4 C4) x.notes))∧(d 12=true→e12=(.pointer (some ⟨w.heap.size,1,none⟩)))∧(d 13=true→(d 11=true∧(d 15=false→Whole w' w.heap.size 35 (bkCells x (.slice A1 N1 C1) (.slice p.a2 p.m2 p.c2) (.slice p.a3 p.m3 p.c3) (.slice p.a4 p.m4 p.c4) (.slice p.al.a1 p.al.m1 p.al.c1) (.slice p.al.a2 p.al.m2 p.al.c2) (.slice p.al.a3 p.al.m3 p.al.c3)))))∧(d 14=true→e14=(.pointer (some ⟨w.heap.size,2,none⟩)))∧(d 15=true→(d 13=true∧(d 17=false→Whole w' w.heap.size 35 (bkCells x (.slice A1 N1 C1) (.slice A2 N2 C2) (.slice p.a3 p.m3 p.c3) (.slice p.a4 p.m4 p.c4) (.slice p.al.a1 p.al.m1 p.al.c1) (.slice p.al.a2 p.al.m2 p.al.c2) (.slice p.al.a3 p.al.m3 p.al.c3)))))∧(d 16=true→e16=(.pointer (some ⟨w.heap.size,3,none⟩)))∧(d 17=true→(d 15=true∧(d 19=false→Whole w' w.heap.size 35 (bkCells x (.slice A1 N1 C1) (.slice A2 N2 C2) (.slice A3 N3 C3) (.slice p.a4 p.m4 p.c4) (.slice p.al.a1 p.al.m1 p.al.c1) (.slice p.al.a2 p.al.m2 p.al.c2) (.slice p.al.a3 p.al.m3 p.al.c3)))))∧(d 18=true→e18=(.pointer (some ⟨w.heap.size,5,none⟩)))∧(d 19=true→(d 17=true∧Whole w' w.heap.size 35 (bkCells x (.slice A1 N1 C1) (.slice A2 N2 C2) (.slice A3 N3 C3) (.slice A4 N4 C4) (.slice p.al.a1 p.al.m1 p.al.c1) (.slice p.al.a2 p.al.m2 p.al.c2) (.slice p.al.a3 p.al.m3 p.al.c3))))∧(d 13=false→Below W0.heap.size W0 w')∧Whole w' (w.heap.size + 1) 35 zeroK) ?h0 ?step ?ends
 case hm=>kernel_rfl
 case hb=>kernel_rfl
 case h0 =>
  refine ⟨undef,undef,undef,undef,undef,undef,undef,undef,undef,undef,undef,undef,undef,undef,undef,undef,none,0,none,0,none,0,none,0,?_,(Below.refl _ _).drew,fun h=>absurd h (by decide),fun h=>absurd h (by decide),fun h=>absurd h (by decide),fun h=>absurd h (by decide),fun h=>absurd h (by decide),fun h=>absurd h (by decide),fun h=>absurd h (by decide),fun h=>absurd h (by decide),fun h=>absurd h (by decide),fun h=>absurd h (by decide),fun h=>absurd h (by decide),fun h=>absurd h (by decide),fun h=>absurd h (by decide),fun h=>absurd h (by decide),fun h=>absurd h (by decide),fun h=>absurd h (by decide),fun h=>absurd h (by decide),fun h=>absurd h (by decide),fun h=>absurd h (by decide),fun h=>absurd h (by decide),fun _=>(Below.refl _ _).drew,HR0.out.drew⟩
  simp only [putAll,Act.put,qA,qB,qC]
 case step =>
  intro i d a' w' hi hJ hd hk;obtain ⟨e0,e1,e2,e3,e4,e5,e6,e7,e8,e9,e10,e11,e12,e14,e16,e18,A1,C1,A2,C2,A3,C3,A4,C4,rfl,hC⟩:=hJ;obtain ⟨hB,hC⟩:=hC;obtain ⟨c0,hC⟩:=hC;obtain ⟨c1,hC⟩:=hC;obtain ⟨c2,hC⟩:=hC;obtain ⟨c3,hC⟩:=hC;obtain ⟨c4,hC⟩:=hC;obtain ⟨c5,hC⟩:=hC;obtain ⟨c6,hC⟩:=hC;obtain ⟨c7,hC⟩:=hC;obtain ⟨c8,hC⟩:=hC;obtain ⟨c9,hC⟩:=hC;obtain ⟨c10,hC⟩:=hC;obtain ⟨c11,hC⟩:=hC;obtain ⟨c12,hC⟩:=hC;obtain ⟨c13,hC⟩:=hC
  obtain ⟨c14,hC⟩:=hC;obtain ⟨c15,hC⟩:=hC;obtain ⟨c16,hC⟩:=hC;obtain ⟨c17,hC⟩:=hC;obtain ⟨c18,hC⟩:=hC;obtain ⟨c19,hC⟩:=hC;obtain ⟨cb,hC⟩:=hC;have cr:=hC;clear hC;have Xc0:=qH c0; clear c0;have Xc1:=qH c1; clear c1;have Xc2:=qH c2; clear c2;have Xc3:=qH c3; clear c3;have Xc4:=qH c4; clear c4;have Xc5:=qH c5; clear c5;have Xc6:=qH c6; clear c6;have Xc7:=qH c7; clear c7;have Xc8:=qH c8; clear c8;have Xc9:=qH c9; clear c9
  have Xc10:=qH c10; clear c10;have Xc11:=qH c11; clear c11;have Xc12:=qH c12; clear c12;have Xc13:=qH c13; clear c13;have Xc14:=qH c14; clear c14;have Xc15:=qH c15; clear c15;have Xc16:=qH c16; clear c16;have Xc17:=qH c17; clear c17;have Xc18:=qH c18; clear c18;have Xc19:=qH c19; clear c19;have Xcb:=qH cb; clear cb;have Xcr:=qH cr; clear cr
  match i,hi,hd,hk with
  | 0, _, hd, hk =>
    apply wpOp_at
    case ho=>rfl
    intro K hK;simp only [putAll,Act.put,qA,qB,qC];go_simp;refine hK _ _ ⟨(.pointer (some ⟨w.heap.size,1,none⟩)),_,_,_,_,_,_,_,_,_,_,_,_,_,_,_,A1,C1,A2,C2,A3,C3,A4,C4,?_,hB,fun _=>rfl,Xc1,Xc2,Xc3,Xc4,Xc5,Xc6,Xc7,Xc8,Xc9,Xc10,Xc11,Xc12,Xc13,Xc14,Xc15,Xc16,Xc17,Xc18,Xc19,Xcb,Xcr.out⟩
    simp only [putAll,Act.put,qA,qB,qC]
  | 1, _, hd, hk =>
    have h0:=hk 0 (by decide +kernel)
    have c0:=Xc0.out;have c2:=Xc2.out;have c5:=Xc5.out;have c8:=Xc8.out;have c11:=Xc11.out;have c13:=Xc13.out;have cb:=Xcb.out;obtain rfl:=c0 h0;have hdf:d 13=false:=by cases h:d 13 with | false=>rfl | true=>exact Bool.noConfusion (hd.symm.trans (c2 (c5 (c8 (c11 (c13 h).1).2.1).2.1).2.1).1)
    have hb9:=cb hdf;have hW9:=HX0.out.later hb9 HX0.out.lt;have z1:w'.cell? ⟨w.heap.size,1,none⟩=some (.slice p.a1 p.m1 p.c1):=hW9.cell 1;clear c0 c2 c5 c8 c11 c13 cb;apply wpOp_at
    case ho=>rfl
    intro K hK;simp only [putAll,Act.put,qA,qB,qC];go_simp;have c2:=Xc2.out;refine hK _ _ ⟨(.pointer (some ⟨w.heap.size,1,none⟩)),(.slice p.a1 p.m1 p.c1),e2,_,_,_,_,_,_,_,_,_,_,_,_,_,A1,C1,A2,C2,A3,C3,A4,C4,?_,hB,Xc0,fun _=>rfl,fun h=>Bool.noConfusion (hd.symm.trans (c2 h).1),Xc3,Xc4,Xc5,Xc6,Xc7,Xc8,Xc9,Xc10,Xc11,Xc12,Xc13,Xc14,Xc15,Xc16,Xc17,Xc18,Xc19,Xcb,Xcr.out⟩
    simp only [putAll,Act.put,qA,qB,qC]
  | 2, _, hd, hk =>
    have h1:=hk 1 (by decide +kernel)
    have c1:=Xc1.out;have c5:=Xc5.out;have c8:=Xc8.out;have c11:=Xc11.out;have c13:=Xc13.out;have cb:=Xcb.out;obtain rfl:=c1 h1;have hdf:d 13=false:=by cases h:d 13 with | false=>rfl | true=>exact Bool.noConfusion (hd.symm.trans (c5 (c8 (c11 (c13 h).1).2.1).2.1).2.1)
    have hb9:=cb hdf;clear c1 c5 c8 c11 c13 cb;apply wpOp_at
    case ho=>rfl
    intro K hK;simp only [putAll,Act.put,qA,qB,qC];go_simp;have c5:=Xc5.out;have c8:=Xc8.out;have c11:=Xc11.out;have c13:=Xc13.out;have c15:=Xc15.out;have c17:=Xc17.out;have c19:=Xc19.out;have cb:=Xcb.out;have cr:=Xcr.out;refine (rows18_calls _ _ _ _ H1.out (by have:=Hf.out.1.1; have:=H1.out; omega) Hf.out.1.2 w' (HI0.out.1.2.later (held_next HB0.out hb9))).mono ?_
    rintro e w'' ⟨A,C,rfl,hO,hb⟩;rw [HN1.out] at hO ⊢;have hbs:W0.heap.size≤w'.heap.size:=Nat.le_trans (Nat.le_refl _) hb9.size;refine hK _ _ ⟨_,(.slice p.a1 p.m1 p.c1),.slice A N1 C,_,_,e5,_,_,e8,_,_,e11,_,_,_,_,A,C,A2,C2,A3,C3,A4,C4,?_,hB.trans (hb.mono (Nat.le_trans HB0.out.size hb9.size)),Xc0,Xc1,fun _=>⟨h1,trivial,rfl,OwnBooks.mono hO hbs⟩,Xc3,Xc4,fun h=>Bool.noConfusion (hd.symm.trans (c5 h).2.1),Xc6,Xc7,fun h=>Bool.noConfusion (hd.symm.trans (c5 (c8 h).2.1).2.1),Xc9,Xc10,fun h=>Bool.noConfusion (hd.symm.trans (c5 (c8 (c11 h).2.1).2.1).2.1),Xc12,fun h=>Bool.noConfusion (hd.symm.trans (c5 (c8 (c11 (c13 h).1).2.1).2.1).2.1),Xc14,fun h=>Bool.noConfusion (hd.symm.trans (c5 (c8 (c11 (c13 (c15 h).1).1).2.1).2.1).2.1),Xc16,fun h=>Bool.noConfusion (hd.symm.trans (c5 (c8 (c11 (c13 (c15 (c17 h).1).1).1).2.1).2.1).2.1),Xc18,fun h=>Bool.noConfusion (hd.symm.trans (c5 (c8 (c11 (c13 (c15 (c17 (c19 h).1).1).1).1).2.1).2.1).2.1),fun h=>held_next (cb h) hb,cr.later hb cr.lt⟩
    simp only [putAll,Act.put,qA,qB,qC]
  | 3, _, hd, hk =>
    apply wpOp_at
    case ho=>rfl
    intro K hK;simp only [putAll,Act.put,qA,qB,qC];go_simp;refine hK _ _ ⟨_,_,_,(.pointer (some ⟨w.heap.size,2,none⟩)),_,_,_,_,_,_,_,_,_,_,_,_,A1,C1,A2,C2,A3,C3,A4,C4,?_,hB,Xc0,Xc1,Xc2,fun _=>rfl,Xc4,Xc5,Xc6,Xc7,Xc8,Xc9,Xc10,Xc11,Xc12,Xc13,Xc14,Xc15,Xc16,Xc17,Xc18,Xc19,Xcb,Xcr.out⟩
    simp only [putAll,Act.put,qA,qB,qC]
  | 4, _, hd, hk =>
    have h3:=hk 3 (by decide +kernel)
    have c3:=Xc3.out;have c5:=Xc5.out;have c8:=Xc8.out;have c11:=Xc11.out;have c13:=Xc13.out;have cb:=Xcb.out;obtain rfl:=c3 h3;have hdf:d 13=false:=by cases h:d 13 with | false=>rfl | true=>exact Bool.noConfusion (hd.symm.trans (c5 (c8 (c11 (c13 h).1).2.1).2.1).1)
    have hb9:=cb hdf;have hW9:=HX0.out.later hb9 HX0.out.lt;have z2:w'.cell? ⟨w.heap.size,2,none⟩=some (.slice p.a2 p.m2 p.c2):=hW9.cell 2;clear c3 c5 c8 c11 c13 cb;apply wpOp_at
    case ho=>rfl
    intro K hK;simp only [putAll,Act.put,qA,qB,qC];go_simp;have c5:=Xc5.out;refine hK _ _ ⟨_,_,_,(.pointer (some ⟨w.heap.size,2,none⟩)),(.slice p.a2 p.m2 p.c2),e5,_,_,_,_,_,_,_,_,_,_,A1,C1,A2,C2,A3,C3,A4,C4,?_,hB,Xc0,Xc1,Xc2,Xc3,fun _=>rfl,fun h=>Bool.noConfusion (hd.symm.trans (c5 h).1),Xc6,Xc7,Xc8,Xc9,Xc10,Xc11,Xc12,Xc13,Xc14,Xc15,Xc16,Xc17,Xc18,Xc19,Xcb,Xcr.out⟩
    simp only [putAll,Act.put,qA,qB,qC]
  | 5, _, hd, hk =>
    have h4:=hk 4 (by decide +kernel)
    have h2:=hk 2 (by decide +kernel)
    have c4:=Xc4.out;have c8:=Xc8.out;have c11:=Xc11.out;have c13:=Xc13.out;have cb:=Xcb.out;obtain rfl:=c4 h4;have hdf:d 13=false:=by cases h:d 13 with | false=>rfl | true=>exact Bool.noConfusion (hd.symm.trans (c8 (c11 (c13 h).1).2.1).2.1)
    have hb9:=cb hdf;clear c4 c8 c11 c13 cb;apply wpOp_at
    case ho=>rfl
    intro K hK;simp only [putAll,Act.put,qA,qB,qC];go_simp;have c2:=Xc2.out;have c8:=Xc8.out;have c11:=Xc11.out;have c13:=Xc13.out;have c15:=Xc15.out;have c17:=Xc17.out;have c19:=Xc19.out;have cb:=Xcb.out;have cr:=Xcr.out;refine (cloneQ_calls _ _ _ _ H2.out (by have:=Hf.out.2.1; have:=H2.out; omega) w' (HI0.out.2.1.2.later (held_next HB0.out hb9))).mono ?_
    rintro e w'' ⟨A,C,rfl,hO,hb⟩;rw [HN2.out] at hO ⊢;have hbs:W0.heap.size≤w'.heap.size:=Nat.le_trans (Nat.le_refl _) hb9.size;refine hK _ _ ⟨_,_,e2,_,(.slice p.a2 p.m2 p.c2),.slice A N2 C,_,_,e8,_,_,e11,_,_,_,_,A1,C1,A,C,A3,C3,A4,C4,?_,hB.trans (hb.mono (Nat.le_trans HB0.out.size hb9.size)),Xc0,Xc1,fun h=>⟨(c2 h).1,(c2 h).2.1,(c2 h).2.2.1,((c2 h).2.2.2).later hb⟩,Xc3,Xc4,fun _=>⟨h4,h2,rfl,own_mono hO hbs⟩,Xc6,Xc7,fun h=>Bool.noConfusion (hd.symm.trans (c8 h).2.1),Xc9,Xc10,fun h=>Bool.noConfusion (hd.symm.trans (c8 (c11 h).2.1).2.1),Xc12,fun h=>Bool.noConfusion (hd.symm.trans (c8 (c11 (c13 h).1).2.1).2.1),Xc14,fun h=>Bool.noConfusion (hd.symm.trans (c8 (c11 (c13 (c15 h).1).1).2.1).2.1),Xc16,fun h=>Bool.noConfusion (hd.symm.trans (c8 (c11 (c13 (c15 (c17 h).1).1).1).2.1).2.1),Xc18,fun h=>Bool.noConfusion (hd.symm.trans (c8 (c11 (c13 (c15 (c17 (c19 h).1).1).1).1).2.1).2.1),fun h=>held_next (cb h) hb,cr.later hb cr.lt⟩
    simp only [putAll,Act.put,qA,qB,qC]
  | 6, _, hd, hk =>
    apply wpOp_at
    case ho=>rfl
    intro K hK;simp only [putAll,Act.put,qA,qB,qC];go_simp;refine hK _ _ ⟨_,_,_,_,_,_,(.pointer (some ⟨w.heap.size,3,none⟩)),_,_,_,_,_,_,_,_,_,A1,C1,A2,C2,A3,C3,A4,C4,?_,hB,Xc0,Xc1,Xc2,Xc3,Xc4,Xc5,fun _=>rfl,Xc7,Xc8,Xc9,Xc10,Xc11,Xc12,Xc13,Xc14,Xc15,Xc16,Xc17,Xc18,Xc19,Xcb,Xcr.out⟩
    simp only [putAll,Act.put,qA,qB,qC]
  | 7, _, hd, hk =>
    have h6:=hk 6 (by decide +kernel)
    have c6:=Xc6.out;have c8:=Xc8.out;have c11:=Xc11.out;have c13:=Xc13.out;have cb:=Xcb.out;obtain rfl:=c6 h6;have hdf:d 13=false:=by cases h:d 13 with | false=>rfl | true=>exact Bool.noConfusion (hd.symm.trans (c8 (c11 (c13 h).1).2.1).1)
    have hb9:=cb hdf;have hW9:=HX0.out.later hb9 HX0.out.lt;have z3:w'.cell? ⟨w.heap.size,3,none⟩=some (.slice p.a3 p.m3 p.c3):=hW9.cell 3;clear c6 c8 c11 c13 cb;apply wpOp_at
    case ho=>rfl
    intro K hK;simp only [putAll,Act.put,qA,qB,qC];go_simp;have c8:=Xc8.out;refine hK _ _ ⟨_,_,_,_,_,_,(.pointer (some ⟨w.heap.size,3,none⟩)),(.slice p.a3 p.m3 p.c3),e8,_,_,_,_,_,_,_,A1,C1,A2,C2,A3,C3,A4,C4,?_,hB,Xc0,Xc1,Xc2,Xc3,Xc4,Xc5,Xc6,fun _=>rfl,fun h=>Bool.noConfusion (hd.symm.trans (c8 h).1),Xc9,Xc10,Xc11,Xc12,Xc13,Xc14,Xc15,Xc16,Xc17,Xc18,Xc19,Xcb,Xcr.out⟩
    simp only [putAll,Act.put,qA,qB,qC]
  | 8, _, hd, hk =>
    have h7:=hk 7 (by decide +kernel)
    have h5:=hk 5 (by decide +kernel)
    have c7:=Xc7.out;have c11:=Xc11.out;have c13:=Xc13.out;have cb:=Xcb.out;obtain rfl:=c7 h7;have hdf:d 13=false:=by cases h:d 13 with | false=>rfl | true=>exact Bool.noConfusion (hd.symm.trans (c11 (c13 h).1).2.1)
    have hb9:=cb hdf;clear c7 c11 c13 cb;apply wpOp_at
    case ho=>rfl
    intro K hK;simp only [putAll,Act.put,qA,qB,qC];go_simp;have c2:=Xc2.out;have c5:=Xc5.out;have c11:=Xc11.out;have c13:=Xc13.out;have c15:=Xc15.out;have c17:=Xc17.out;have c19:=Xc19.out;have cb:=Xcb.out;have cr:=Xcr.out;refine (cloneOc_calls _ _ _ _ H3.out (by have:=Hf.out.2.2.1; have:=H3.out; omega) w' (HI0.out.2.2.1.2.later (held_next HB0.out hb9))).mono ?_
    rintro e w'' ⟨A,C,rfl,hO,hb⟩;rw [HN3.out] at hO ⊢;have hbs:W0.heap.size≤w'.heap.size:=Nat.le_trans (Nat.le_refl _) hb9.size;refine hK _ _ ⟨_,_,e2,_,_,e5,_,(.slice p.a3 p.m3 p.c3),.slice A N3 C,_,_,e11,_,_,_,_,A1,C1,A2,C2,A,C,A4,C4,?_,hB.trans (hb.mono (Nat.le_trans HB0.out.size hb9.size)),Xc0,Xc1,fun h=>⟨(c2 h).1,(c2 h).2.1,(c2 h).2.2.1,((c2 h).2.2.2).later hb⟩,Xc3,Xc4,fun h=>⟨(c5 h).1,(c5 h).2.1,(c5 h).2.2.1,own_later ((c5 h).2.2.2) hb⟩,Xc6,Xc7,fun _=>⟨h7,h5,rfl,own_mono hO hbs⟩,Xc9,Xc10,fun h=>Bool.noConfusion (hd.symm.trans (c11 h).2.1),Xc12,fun h=>Bool.noConfusion (hd.symm.trans (c11 (c13 h).1).2.1),Xc14,fun h=>Bool.noConfusion (hd.symm.trans (c11 (c13 (c15 h).1).1).2.1),Xc16,fun h=>Bool.noConfusion (hd.symm.trans (c11 (c13 (c15 (c17 h).1).1).1).2.1),Xc18,fun h=>Bool.noConfusion (hd.symm.trans (c11 (c13 (c15 (c17 (c19 h).1).1).1).1).2.1),fun h=>held_next (cb h) hb,cr.later hb cr.lt⟩
    simp only [putAll,Act.put,qA,qB,qC]
  | 9, _, hd, hk =>
    apply wpOp_at
    case ho=>rfl
    intro K hK;simp only [putAll,Act.put,qA,qB,qC];go_simp;refine hK _ _ ⟨_,_,_,_,_,_,_,_,_,(.pointer (some ⟨w.heap.size,5,none⟩)),_,_,_,_,_,_,A1,C1,A2,C2,A3,C3,A4,C4,?_,hB,Xc0,Xc1,Xc2,Xc3,Xc4,Xc5,Xc6,Xc7,Xc8,fun _=>rfl,Xc10,Xc11,Xc12,Xc13,Xc14,Xc15,Xc16,Xc17,Xc18,Xc19,Xcb,Xcr.out⟩
    simp only [putAll,Act.put,qA,qB,qC]
  | 10, _, hd, hk =>
    have h9:=hk 9 (by decide +kernel)
    have c9:=Xc9.out;have c11:=Xc11.out;have c13:=Xc13.out;have cb:=Xcb.out;obtain rfl:=c9 h9;have hdf:d 13=false:=by cases h:d 13 with | false=>rfl | true=>exact Bool.noConfusion (hd.symm.trans (c11 (c13 h).1).1)
    have hb9:=cb hdf;have hW9:=HX0.out.later hb9 HX0.out.lt;have z5:w'.cell? ⟨w.heap.size,5,none⟩=some (.slice p.a4 p.m4 p.c4):=hW9.cell 5;clear c9 c11 c13 cb;apply wpOp_at
    case ho=>rfl
    intro K hK;simp only [putAll,Act.put,qA,qB,qC];go_simp;have c11:=Xc11.out;refine hK _ _ ⟨_,_,_,_,_,_,_,_,_,(.pointer (some ⟨w.heap.size,5,none⟩)),(.slice p.a4 p.m4 p.c4),e11,_,_,_,_,A1,C1,A2,C2,A3,C3,A4,C4,?_,hB,Xc0,Xc1,Xc2,Xc3,Xc4,Xc5,Xc6,Xc7,Xc8,Xc9,fun _=>rfl,fun h=>Bool.noConfusion (hd.symm.trans (c11 h).1),Xc12,Xc13,Xc14,Xc15,Xc16,Xc17,Xc18,Xc19,Xcb,Xcr.out⟩
    simp only [putAll,Act.put,qA,qB,qC]
  | 11, _, hd, hk =>
    have h10:=hk 10 (by decide +kernel)
    have h8:=hk 8 (by decide +kernel)
    have c10:=Xc10.out;have c13:=Xc13.out;have cb:=Xcb.out;obtain rfl:=c10 h10;have hdf:d 13=false:=by cases h:d 13 with | false=>rfl | true=>exact Bool.noConfusion (hd.symm.trans (c13 h).1)
    have hb9:=cb hdf;clear c10 c13 cb;apply wpOp_at
    case ho=>rfl
    intro K hK;simp only [putAll,Act.put,qA,qB,qC];go_simp;have c2:=Xc2.out;have c5:=Xc5.out;have c8:=Xc8.out;have c13:=Xc13.out;have c15:=Xc15.out;have c17:=Xc17.out;have c19:=Xc19.out;have cb:=Xcb.out;have cr:=Xcr.out;refine (cloneNn_calls _ _ _ _ H4.out (by have:=Hf.out.2.2.2.1; have:=H4.out; omega) w' (HI0.out.2.2.2.1.2.later (held_next HB0.out hb9))).mono ?_
    rintro e w'' ⟨A,C,rfl,hO,hb⟩;rw [HN4.out] at hO ⊢;have hbs:W0.heap.size≤w'.heap.size:=Nat.le_trans (Nat.le_refl _) hb9.size;refine hK _ _ ⟨_,_,e2,_,_,e5,_,_,e8,_,(.slice p.a4 p.m4 p.c4),.slice A N4 C,_,_,_,_,A1,C1,A2,C2,A3,C3,A,C,?_,hB.trans (hb.mono (Nat.le_trans HB0.out.size hb9.size)),Xc0,Xc1,fun h=>⟨(c2 h).1,(c2 h).2.1,(c2 h).2.2.1,((c2 h).2.2.2).later hb⟩,Xc3,Xc4,fun h=>⟨(c5 h).1,(c5 h).2.1,(c5 h).2.2.1,own_later ((c5 h).2.2.2) hb⟩,Xc6,Xc7,fun h=>⟨(c8 h).1,(c8 h).2.1,(c8 h).2.2.1,own_later ((c8 h).2.2.2) hb⟩,Xc9,Xc10,fun _=>⟨h10,h8,rfl,own_mono hO hbs⟩,Xc12,fun h=>Bool.noConfusion (hd.symm.trans (c13 h).1),Xc14,fun h=>Bool.noConfusion (hd.symm.trans (c13 (c15 h).1).1),Xc16,fun h=>Bool.noConfusion (hd.symm.trans (c13 (c15 (c17 h).1).1).1),Xc18,fun h=>Bool.noConfusion (hd.symm.trans (c13 (c15 (c17 (c19 h).1).1).1).1),fun h=>held_next (cb h) hb,cr.later hb cr.lt⟩
    simp only [putAll,Act.put,qA,qB,qC]
  | 12, _, hd, hk =>
    apply wpOp_at
    case ho=>rfl
    intro K hK;simp only [putAll,Act.put,qA,qB,qC];go_simp;refine hK _ _ ⟨_,_,_,_,_,_,_,_,_,_,_,_,(.pointer (some ⟨w.heap.size,1,none⟩)),_,_,_,A1,C1,A2,C2,A3,C3,A4,C4,?_,hB,Xc0,Xc1,Xc2,Xc3,Xc4,Xc5,Xc6,Xc7,Xc8,Xc9,Xc10,Xc11,fun _=>rfl,Xc13,Xc14,Xc15,Xc16,Xc17,Xc18,Xc19,Xcb,Xcr.out⟩
    simp only [putAll,Act.put,qA,qB,qC]
  | 13, _, hd, hk =>
    have h2:=hk 2 (by decide +kernel)
    have h12:=hk 12 (by decide +kernel)
    have h11:=hk 11 (by decide +kernel)
    have c2:=Xc2.out;have c12:=Xc12.out;have cb:=Xcb.out;obtain rfl:=c12 h12;obtain ⟨-,-,rfl,hO9⟩:=c2 h2;have hb9:=cb hd;have hW9:=HX0.out.later hb9 HX0.out.lt;have z1:=hW9.cell 1;have y1:=hW9.free 1;have hW8:=hW9.set 1 (.slice A1 N1 C1);simp only [List.setIfInBounds_toArray,List.set_cons_zero,List.set_cons_succ] at hW8;have hbw:w.heap.size < W0.heap.size:=HX0.out.lt;clear hO9;clear c2 c12 cb;apply wpOp_at
    case ho=>rfl
    intro K hK;simp only [putAll,Act.put,qA,qB,qC];go_simp;have c2:=Xc2.out;have c5:=Xc5.out;have c8:=Xc8.out;have c11:=Xc11.out;have c15:=Xc15.out;have c17:=Xc17.out;have c19:=Xc19.out;have cr:=Xcr.out;refine hK _ _ ⟨_,_,(.slice A1 N1 C1),_,_,e5,_,_,e8,_,_,e11,(.pointer (some ⟨w.heap.size,1,none⟩)),_,_,_,A1,C1,A2,C2,A3,C3,A4,C4,?_,hB.setCell (p:=⟨w.heap.size,1,none⟩) (Nat.le_refl _) _,Xc0,Xc1,fun h=>⟨(c2 h).1,(c2 h).2.1,(c2 h).2.2.1,((c2 h).2.2.2).low (p:=⟨w.heap.size,1,none⟩) hbw _⟩,Xc3,Xc4,fun h=>⟨(c5 h).1,(c5 h).2.1,(c5 h).2.2.1,own_low ((c5 h).2.2.2) (p:=⟨w.heap.size,1,none⟩) hbw _⟩,Xc6,Xc7,fun h=>⟨(c8 h).1,(c8 h).2.1,(c8 h).2.2.1,own_low ((c8 h).2.2.2) (p:=⟨w.heap.size,1,none⟩) hbw _⟩,Xc9,Xc10,fun h=>⟨(c11 h).1,(c11 h).2.1,(c11 h).2.2.1,own_low ((c11 h).2.2.2) (p:=⟨w.heap.size,1,none⟩) hbw _⟩,Xc12,fun _=>⟨h11,fun _=>hW8⟩,Xc14,fun h=>Bool.noConfusion (hd.symm.trans (c15 h).1),Xc16,fun h=>Bool.noConfusion (hd.symm.trans (c15 (c17 h).1).1),Xc18,fun h=>Bool.noConfusion (hd.symm.trans (c15 (c17 (c19 h).1).1).1),fun h=>Bool.noConfusion (show true=false from h),cr.other (by show w.heap.size + 1 ≠ w.heap.size; omega) _⟩
    simp only [putAll,Act.put,qA,qB,qC]
  | 14, _, hd, hk =>
    apply wpOp_at
    case ho=>rfl
    intro K hK;simp only [putAll,Act.put,qA,qB,qC];go_simp;refine hK _ _ ⟨_,_,_,_,_,_,_,_,_,_,_,_,_,(.pointer (some ⟨w.heap.size,2,none⟩)),_,_,A1,C1,A2,C2,A3,C3,A4,C4,?_,hB,Xc0,Xc1,Xc2,Xc3,Xc4,Xc5,Xc6,Xc7,Xc8,Xc9,Xc10,Xc11,Xc12,Xc13,fun _=>rfl,Xc15,Xc16,Xc17,Xc18,Xc19,Xcb,Xcr.out⟩
    simp only [putAll,Act.put,qA,qB,qC]
  | 15, _, hd, hk =>
    have h5:=hk 5 (by decide +kernel)
    have h14:=hk 14 (by decide +kernel)
    have h13:=hk 13 (by decide +kernel)
    have c5:=Xc5.out;have c13:=Xc13.out;have c14:=Xc14.out;obtain rfl:=c14 h14;have hfs:d 13=true:=h13;obtain ⟨-,-,rfl,hO9⟩:=c5 h5;have hW9:=(c13 h13).2 hd;have z2:=hW9.cell 2;have y2:=hW9.free 2;have hW8:=hW9.set 2 (.slice A2 N2 C2);simp only [List.setIfInBounds_toArray,List.set_cons_zero,List.set_cons_succ] at hW8;have hbw:w.heap.size < W0.heap.size:=HX0.out.lt;clear hO9;clear c5 c13 c14;apply wpOp_at
    case ho=>rfl
    intro K hK;simp only [putAll,Act.put,qA,qB,qC];go_simp;have c2:=Xc2.out;have c5:=Xc5.out;have c8:=Xc8.out;have c11:=Xc11.out;have c13:=Xc13.out;have c17:=Xc17.out;have c19:=Xc19.out;have cr:=Xcr.out;refine hK _ _ ⟨_,_,e2,_,_,(.slice A2 N2 C2),_,_,e8,_,_,e11,_,(.pointer (some ⟨w.heap.size,2,none⟩)),_,_,A1,C1,A2,C2,A3,C3,A4,C4,?_,hB.setCell (p:=⟨w.heap.size,2,none⟩) (Nat.le_refl _) _,Xc0,Xc1,fun h=>⟨(c2 h).1,(c2 h).2.1,(c2 h).2.2.1,((c2 h).2.2.2).low (p:=⟨w.heap.size,2,none⟩) hbw _⟩,Xc3,Xc4,fun h=>⟨(c5 h).1,(c5 h).2.1,(c5 h).2.2.1,own_low ((c5 h).2.2.2) (p:=⟨w.heap.size,2,none⟩) hbw _⟩,Xc6,Xc7,fun h=>⟨(c8 h).1,(c8 h).2.1,(c8 h).2.2.1,own_low ((c8 h).2.2.2) (p:=⟨w.heap.size,2,none⟩) hbw _⟩,Xc9,Xc10,fun h=>⟨(c11 h).1,(c11 h).2.1,(c11 h).2.2.1,own_low ((c11 h).2.2.2) (p:=⟨w.heap.size,2,none⟩) hbw _⟩,Xc12,fun h=>⟨(c13 h).1,fun k=>absurd (show true=false from k) (by decide)⟩,Xc14,fun _=>⟨h13,fun _=>hW8⟩,Xc16,fun h=>Bool.noConfusion (hd.symm.trans (c17 h).1),Xc18,fun h=>Bool.noConfusion (hd.symm.trans (c17 (c19 h).1).1),fun h=>absurd (hfs.symm.trans h) (by decide),cr.other (by show w.heap.size + 1 ≠ w.heap.size; omega) _⟩
    simp only [putAll,Act.put,qA,qB,qC]
  | 16, _, hd, hk =>
    apply wpOp_at
    case ho=>rfl
    intro K hK;simp only [putAll,Act.put,qA,qB,qC];go_simp;refine hK _ _ ⟨_,_,_,_,_,_,_,_,_,_,_,_,_,_,(.pointer (some ⟨w.heap.size,3,none⟩)),_,A1,C1,A2,C2,A3,C3,A4,C4,?_,hB,Xc0,Xc1,Xc2,Xc3,Xc4,Xc5,Xc6,Xc7,Xc8,Xc9,Xc10,Xc11,Xc12,Xc13,Xc14,Xc15,fun _=>rfl,Xc17,Xc18,Xc19,Xcb,Xcr.out⟩
    simp only [putAll,Act.put,qA,qB,qC]
  | 17, _, hd, hk =>
    have h8:=hk 8 (by decide +kernel)
    have h16:=hk 16 (by decide +kernel)
    have h15:=hk 15 (by decide +kernel)
    have c8:=Xc8.out;have c15:=Xc15.out;have c16:=Xc16.out;obtain rfl:=c16 h16;have hx15:d 15=true:=h15;have hfs:d 13=true:=(c15 h15).1;obtain ⟨-,-,rfl,hO9⟩:=c8 h8;have hW9:=(c15 h15).2 hd;have z3:=hW9.cell 3;have y3:=hW9.free 3;have hW8:=hW9.set 3 (.slice A3 N3 C3);simp only [List.setIfInBounds_toArray,List.set_cons_zero,List.set_cons_succ] at hW8;have hbw:w.heap.size < W0.heap.size:=HX0.out.lt;clear hO9
    clear c8 c15 c16;apply wpOp_at
    case ho=>rfl
    intro K hK;simp only [putAll,Act.put,qA,qB,qC];go_simp;have c2:=Xc2.out;have c5:=Xc5.out;have c8:=Xc8.out;have c11:=Xc11.out;have c13:=Xc13.out;have c15:=Xc15.out;have c19:=Xc19.out;have cr:=Xcr.out;refine hK _ _ ⟨_,_,e2,_,_,e5,_,_,(.slice A3 N3 C3),_,_,e11,_,_,(.pointer (some ⟨w.heap.size,3,none⟩)),_,A1,C1,A2,C2,A3,C3,A4,C4,?_,hB.setCell (p:=⟨w.heap.size,3,none⟩) (Nat.le_refl _) _,Xc0,Xc1,fun h=>⟨(c2 h).1,(c2 h).2.1,(c2 h).2.2.1,((c2 h).2.2.2).low (p:=⟨w.heap.size,3,none⟩) hbw _⟩,Xc3,Xc4,fun h=>⟨(c5 h).1,(c5 h).2.1,(c5 h).2.2.1,own_low ((c5 h).2.2.2) (p:=⟨w.heap.size,3,none⟩) hbw _⟩,Xc6,Xc7,fun h=>⟨(c8 h).1,(c8 h).2.1,(c8 h).2.2.1,own_low ((c8 h).2.2.2) (p:=⟨w.heap.size,3,none⟩) hbw _⟩,Xc9,Xc10,fun h=>⟨(c11 h).1,(c11 h).2.1,(c11 h).2.2.1,own_low ((c11 h).2.2.2) (p:=⟨w.heap.size,3,none⟩) hbw _⟩,Xc12,fun h=>⟨(c13 h).1,fun k=>absurd (hx15.symm.trans k) (by decide)⟩,Xc14,fun h=>⟨(c15 h).1,fun k=>absurd (show true=false from k) (by decide)⟩,Xc16,fun _=>⟨h15,fun _=>hW8⟩,Xc18,fun h=>Bool.noConfusion (hd.symm.trans (c19 h).1),fun h=>absurd (hfs.symm.trans h) (by decide),cr.other (by show w.heap.size + 1 ≠ w.heap.size; omega) _⟩
    simp only [putAll,Act.put,qA,qB,qC]
  | 18, _, hd, hk =>
    apply wpOp_at
    case ho=>rfl
    intro K hK;simp only [putAll,Act.put,qA,qB,qC];go_simp;refine hK _ _ ⟨_,_,_,_,_,_,_,_,_,_,_,_,_,_,_,(.pointer (some ⟨w.heap.size,5,none⟩)),A1,C1,A2,C2,A3,C3,A4,C4,?_,hB,Xc0,Xc1,Xc2,Xc3,Xc4,Xc5,Xc6,Xc7,Xc8,Xc9,Xc10,Xc11,Xc12,Xc13,Xc14,Xc15,Xc16,Xc17,fun _=>rfl,Xc19,Xcb,Xcr.out⟩
    simp only [putAll,Act.put,qA,qB,qC]
  | 19, _, hd, hk =>
    have h11:=hk 11 (by decide +kernel)
    have h18:=hk 18 (by decide +kernel)
    have h17:=hk 17 (by decide +kernel)
    have c11:=Xc11.out;have c15:=Xc15.out;have c17:=Xc17.out;have c18:=Xc18.out;obtain rfl:=c18 h18;have hx17:d 17=true:=h17;have hx15:d 15=true:=(c17 h17).1;have hfs:d 13=true:=(c15 (c17 h17).1).1;obtain ⟨-,-,rfl,hO9⟩:=c11 h11;have hW9:=(c17 h17).2 hd;have z5:=hW9.cell 5;have y5:=hW9.free 5;have hW8:=hW9.set 5 (.slice A4 N4 C4);simp only [List.setIfInBounds_toArray,List.set_cons_zero,List.set_cons_succ] at hW8
    have hbw:w.heap.size < W0.heap.size:=HX0.out.lt;clear hO9;clear c11 c15 c17 c18;apply wpOp_at
    case ho=>rfl
    intro K hK;simp only [putAll,Act.put,qA,qB,qC];go_simp;have c2:=Xc2.out;have c5:=Xc5.out;have c8:=Xc8.out;have c11:=Xc11.out;have c13:=Xc13.out;have c15:=Xc15.out;have c17:=Xc17.out;have cr:=Xcr.out;refine hK _ _ ⟨_,_,e2,_,_,e5,_,_,e8,_,_,(.slice A4 N4 C4),_,_,_,(.pointer (some ⟨w.heap.size,5,none⟩)),A1,C1,A2,C2,A3,C3,A4,C4,?_,hB.setCell (p:=⟨w.heap.size,5,none⟩) (Nat.le_refl _) _,Xc0,Xc1,fun h=>⟨(c2 h).1,(c2 h).2.1,(c2 h).2.2.1,((c2 h).2.2.2).low (p:=⟨w.heap.size,5,none⟩) hbw _⟩,Xc3,Xc4,fun h=>⟨(c5 h).1,(c5 h).2.1,(c5 h).2.2.1,own_low ((c5 h).2.2.2) (p:=⟨w.heap.size,5,none⟩) hbw _⟩,Xc6,Xc7,fun h=>⟨(c8 h).1,(c8 h).2.1,(c8 h).2.2.1,own_low ((c8 h).2.2.2) (p:=⟨w.heap.size,5,none⟩) hbw _⟩,Xc9,Xc10,fun h=>⟨(c11 h).1,(c11 h).2.1,(c11 h).2.2.1,own_low ((c11 h).2.2.2) (p:=⟨w.heap.size,5,none⟩) hbw _⟩,Xc12,fun h=>⟨(c13 h).1,fun k=>absurd (hx15.symm.trans k) (by decide)⟩,Xc14,fun h=>⟨(c15 h).1,fun k=>absurd (hx17.symm.trans k) (by decide)⟩,Xc16,fun h=>⟨(c17 h).1,fun k=>absurd (show true=false from k) (by decide)⟩,Xc18,fun _=>⟨h17,hW8⟩,fun h=>absurd (hfs.symm.trans h) (by decide),cr.other (by show w.heap.size + 1 ≠ w.heap.size; omega) _⟩
    simp only [putAll,Act.put,qA,qB,qC]
  | k + 20,hi,_,_=>exact absurd hi (by simp)
 case ends =>
  intro d a' w' hJ hall;obtain ⟨e0,e1,e2,e3,e4,e5,e6,e7,e8,e9,e10,e11,e12,e14,e16,e18,A1,C1,A2,C2,A3,C3,A4,C4,rfl,hC⟩:=hJ;obtain ⟨hB,hC⟩:=hC;obtain ⟨c0,hC⟩:=hC;obtain ⟨c1,hC⟩:=hC;obtain ⟨c2,hC⟩:=hC;obtain ⟨c3,hC⟩:=hC;obtain ⟨c4,hC⟩:=hC;obtain ⟨c5,hC⟩:=hC;obtain ⟨c6,hC⟩:=hC;obtain ⟨c7,hC⟩:=hC;obtain ⟨c8,hC⟩:=hC;obtain ⟨c9,hC⟩:=hC;obtain ⟨c10,hC⟩:=hC;obtain ⟨c11,hC⟩:=hC;obtain ⟨c12,hC⟩:=hC;obtain ⟨c13,hC⟩:=hC
  obtain ⟨c14,hC⟩:=hC;obtain ⟨c15,hC⟩:=hC;obtain ⟨c16,hC⟩:=hC;obtain ⟨c17,hC⟩:=hC;obtain ⟨c18,hC⟩:=hC;obtain ⟨c19,hC⟩:=hC;obtain ⟨cb,hC⟩:=hC;have cr:=hC;clear hC;have HX:=qH (c19 (hall 19 (by decide +kernel))).2
  have HR:=qH cr;have HBe:=qH hB;obtain ⟨-,-,rfl,ho2⟩:=c2 (hall 2 (by decide +kernel))
  have HOr:=qH ho2;obtain ⟨-,-,rfl,ho5⟩:=c5 (hall 5 (by decide +kernel))
  have HOl:=qH ho5;obtain ⟨-,-,rfl,ho8⟩:=c8 (hall 8 (by decide +kernel))
  have HOo:=qH ho8;obtain ⟨-,-,rfl,ho11⟩:=c11 (hall 11 (by decide +kernel))
  have HOn:=qH ho11;obtain rfl:=c0 (hall 0 (by decide +kernel))
  obtain rfl:=c1 (hall 1 (by decide +kernel))
  obtain rfl:=c3 (hall 3 (by decide +kernel))
  obtain rfl:=c4 (hall 4 (by decide +kernel))
  obtain rfl:=c6 (hall 6 (by decide +kernel))
  obtain rfl:=c7 (hall 7 (by decide +kernel))
  obtain rfl:=c9 (hall 9 (by decide +kernel))
  obtain rfl:=c10 (hall 10 (by decide +kernel))
  obtain rfl:=c12 (hall 12 (by decide +kernel))
  obtain rfl:=c14 (hall 14 (by decide +kernel))
  obtain rfl:=c16 (hall 16 (by decide +kernel))
  obtain rfl:=c18 (hall 18 (by decide +kernel))
  clear c13 c15 c17 c19 ho2 ho5 ho8 ho11 cb cr hall hB;simp only [putAll,Act.put,qA,qB,qC];obtain ⟨W1,HW1⟩:∃ z,z=w':=⟨_,rfl⟩;subst HW1;have HX1:=qH HX.out;have HR1:=qH HR.out;have HB1:=qH (HB0.out.trans HBe.out);have HS01:Hid (W0.heap.size≤W1.heap.size):=qH HBe.out.size;have HCO1:Hid (Own4 W1 W0.heap.size A1 N1 C1 A2 N2 C2 A3 N3 C3 A4 N4 C4 x):=qH ⟨HOr.out,HOl.out,HOo.out,HOn.out⟩;clear HX HR HBe HOr HOl HOo HOn
  go_wp2_with fail
  refine wp_region_each_at ?hm ?hb (fun a0 d a' w'=>∃ (e0 e1 e2 e3 e4 e5 e6 e7 e8 e9 e10 e11 e12 e13 e15 e16 e18 e19:Value) (A5:Option Addr) (C5:Nat) (A6:Option Addr) (C6:Nat) (A7:Option Addr) (C7:Nat),a'=putAll a0 [(19,e0),(20,e1),(21,e2),(22,e3),(23,e4),(24,e5),(25,e6),(26,e7),(27,e8),(28,e9),(29,e10),(30,e11),(31,e12),(32,e13),(33,e15),(34,e16),(35,e18),(36,e19)]∧Below w.heap.size W1 w'∧(d 0=true→e0=(.pointer (some ⟨w.heap.size,6,none⟩)))∧(d 1=true→e1=(.pointer (some ⟨w.heap.size,8,none⟩)))∧(d 2=true→e2=(.slice p.al.a1 p.al.m1 p.al.c1))∧(d 3=true→(d 2=true∧True∧e3=(.slice A5 N5 C5)∧OwnT w' W0.heap.size (.slice A5 N5 C5) x.au.told))∧(d 4=true→e4=(.pointer (some ⟨w.heap.size,6,none⟩)))∧(d 5=true→e5=(.pointer (some ⟨w.heap.size,9,none⟩)))∧(d 6=true→e6=(.slice p.al.a2 p.al.m2 p.al.c2))∧(d 7=true→(d 6=true∧d 3=true∧e7=(.slice A6 N6 C6)∧OwnN w' W0.heap.size (.slice A6 N6 C6) x.au.use))∧(d 8=true→e8=(.pointer (some ⟨w.heap.size,6,none⟩)))∧(d 9=true→e9=(.pointer (some ⟨w.heap.size,10,none⟩)))∧(d 10=true→e10=(.slice p.al.a3 p.al.m3 p.al.c3))∧(d 11=true→(d 10=true∧d 7=true∧e11=(.slice A7 N7 C7)∧(OwnN w' W0.heap.size (.slice A7 N7 C7) x.au.inc∧∀ b,(Value.slice A6 N6 C6).ownBlock=some b→(Value.slice A7 N7 C7).ownBlock ≠ some b)))∧(d 12=true→e12=(.pointer (some ⟨w.heap.size,6,none⟩)))∧(d 13=true→e13=(.pointer (some ⟨w.heap.size,8,none⟩)))∧(d 14=true→(d 11=true∧(d 17=false→Whole w' w.heap.size 35 (bkCells x (.slice A1 N1 C1) (.slice A2 N2 C2) (.slice A3 N3 C3) (.slice A4 N4 C4) (.slice A5 N5 C5) (.slice p.al.a2 p.al.m2 p.al.c2) (.slice p.al.a3 p.al.m3 p.al.c3)))))∧(d 15=true→e15=(.pointer (some ⟨w.heap.size,6,none⟩)))∧(d 16=true→e16=(.pointer (some ⟨w.heap.size,9,none⟩)))∧(d 17=true→(d 14=true∧(d 20=false→Whole w' w.heap.size 35 (bkCells x (.slice A1 N1 C1) (.slice A2 N2 C2) (.slice A3 N3 C3) (.slice A4 N4 C4) (.slice A5 N5 C5) (.slice A6 N6 C6) (.slice p.al.a3 p.al.m3 p.al.c3)))))∧(d 18=true→e18=(.pointer (some ⟨w.heap.size,6,none⟩)))∧(d 19=true→e19=(.pointer (some ⟨w.heap.size,10,none⟩)))∧(d 20=true→(d 17=true∧Whole w' w.heap.size 35 (bkCells x (.slice A1 N1 C1) (.slice A2 N2 C2) (.slice A3 N3 C3) (.slice A4 N4 C4) (.slice A5 N5 C5) (.slice A6 N6 C6) (.slice A7 N7 C7))))∧(d 14=false→Below W1.heap.size W1 w')∧Whole w' (w.heap.size + 1) 35 zeroK∧Own4 w' W0.heap.size A1 N1 C1 A2 N2 C2 A3 N3 C3 A4 N4 C4 x) ?h0 ?step ?ends
  case hm=>kernel_rfl
  case hb=>kernel_rfl
  case h0 =>
   refine ⟨undef,undef,undef,undef,undef,undef,undef,undef,undef,undef,undef,undef,undef,undef,undef,undef,undef,undef,none,0,none,0,none,0,?_,(Below.refl _ _).drew,fun h=>absurd h (by decide),fun h=>absurd h (by decide),fun h=>absurd h (by decide),fun h=>absurd h (by decide),fun h=>absurd h (by decide),fun h=>absurd h (by decide),fun h=>absurd h (by decide),fun h=>absurd h (by decide),fun h=>absurd h (by decide),fun h=>absurd h (by decide),fun h=>absurd h (by decide),fun h=>absurd h (by decide),fun h=>absurd h (by decide),fun h=>absurd h (by decide),fun h=>absurd h (by decide),fun h=>absurd h (by decide),fun h=>absurd h (by decide),fun h=>absurd h (by decide),fun h=>absurd h (by decide),fun h=>absurd h (by decide),fun h=>absurd h (by decide),fun _=>(Below.refl _ _).drew,HR1.out.drew,(HCO1.out.later (Below.refl _ _).drew)⟩
   simp only [putAll,Act.put,qA,qB,qC]
  case step =>
   intro i d a' w' hi hJ hd hk;obtain ⟨e0,e1,e2,e3,e4,e5,e6,e7,e8,e9,e10,e11,e12,e13,e15,e16,e18,e19,A5,C5,A6,C6,A7,C7,rfl,hC⟩:=hJ;obtain ⟨hB,hC⟩:=hC;obtain ⟨c0,hC⟩:=hC;obtain ⟨c1,hC⟩:=hC;obtain ⟨c2,hC⟩:=hC;obtain ⟨c3,hC⟩:=hC;obtain ⟨c4,hC⟩:=hC;obtain ⟨c5,hC⟩:=hC;obtain ⟨c6,hC⟩:=hC;obtain ⟨c7,hC⟩:=hC;obtain ⟨c8,hC⟩:=hC;obtain ⟨c9,hC⟩:=hC;obtain ⟨c10,hC⟩:=hC;obtain ⟨c11,hC⟩:=hC;obtain ⟨c12,hC⟩:=hC;obtain ⟨c13,hC⟩:=hC
   obtain ⟨c14,hC⟩:=hC;obtain ⟨c15,hC⟩:=hC;obtain ⟨c16,hC⟩:=hC;obtain ⟨c17,hC⟩:=hC;obtain ⟨c18,hC⟩:=hC;obtain ⟨c19,hC⟩:=hC;obtain ⟨c20,hC⟩:=hC;obtain ⟨cb,hC⟩:=hC;obtain ⟨cr,hC⟩:=hC;have co:=hC;clear hC;have Xc0:=qH c0; clear c0;have Xc1:=qH c1; clear c1;have Xc2:=qH c2; clear c2;have Xc3:=qH c3; clear c3;have Xc4:=qH c4; clear c4;have Xc5:=qH c5; clear c5;have Xc6:=qH c6; clear c6;have Xc7:=qH c7; clear c7
   have Xc8:=qH c8; clear c8;have Xc9:=qH c9; clear c9;have Xc10:=qH c10; clear c10;have Xc11:=qH c11; clear c11;have Xc12:=qH c12; clear c12;have Xc13:=qH c13; clear c13;have Xc14:=qH c14; clear c14;have Xc15:=qH c15; clear c15;have Xc16:=qH c16; clear c16;have Xc17:=qH c17; clear c17;have Xc18:=qH c18; clear c18;have Xc19:=qH c19; clear c19;have Xc20:=qH c20; clear c20;have Xcb:=qH cb; clear cb;have Xcr:=qH cr; clear cr
   have Xco:=qH co; clear co
   match i,hi,hd,hk with
   | 0, _, hd, hk =>
     apply wpOp_at
     case ho=>rfl
     intro K hK;simp only [putAll,Act.put,qA,qB,qC];go_simp;refine hK _ _ ⟨(.pointer (some ⟨w.heap.size,6,none⟩)),_,_,_,_,_,_,_,_,_,_,_,_,_,_,_,_,_,A5,C5,A6,C6,A7,C7,?_,hB,fun _=>rfl,Xc1,Xc2,Xc3,Xc4,Xc5,Xc6,Xc7,Xc8,Xc9,Xc10,Xc11,Xc12,Xc13,Xc14,Xc15,Xc16,Xc17,Xc18,Xc19,Xc20,Xcb,Xcr.out,Xco.out⟩
     simp only [putAll,Act.put,qA,qB,qC]
   | 1, _, hd, hk =>
     have h0:=hk 0 (by decide +kernel)
     have c0:=Xc0.out;obtain rfl:=c0 h0;clear c0;apply wpOp_at
     case ho=>rfl
     intro K hK;simp only [putAll,Act.put,qA,qB,qC];go_simp;refine hK _ _ ⟨(.pointer (some ⟨w.heap.size,6,none⟩)),(.pointer (some ⟨w.heap.size,8,none⟩)),_,_,_,_,_,_,_,_,_,_,_,_,_,_,_,_,A5,C5,A6,C6,A7,C7,?_,hB,Xc0,fun _=>rfl,Xc2,Xc3,Xc4,Xc5,Xc6,Xc7,Xc8,Xc9,Xc10,Xc11,Xc12,Xc13,Xc14,Xc15,Xc16,Xc17,Xc18,Xc19,Xc20,Xcb,Xcr.out,Xco.out⟩
     simp only [putAll,Act.put,qA,qB,qC]
   | 2, _, hd, hk =>
     have h1:=hk 1 (by decide +kernel)
     have c1:=Xc1.out;have c3:=Xc3.out;have c7:=Xc7.out;have c11:=Xc11.out;have c14:=Xc14.out;have cb:=Xcb.out;obtain rfl:=c1 h1;have hdf:d 14=false:=by cases h:d 14 with | false=>rfl | true=>exact Bool.noConfusion (hd.symm.trans (c3 (c7 (c11 (c14 h).1).2.1).2.1).1)
     have hb9:=cb hdf;have hW9:=HX1.out.later hb9 HX1.out.lt;have z8:w'.cell? ⟨w.heap.size,8,none⟩=some (.slice p.al.a1 p.al.m1 p.al.c1):=hW9.cell 8;clear c1 c3 c7 c11 c14 cb;apply wpOp_at
     case ho=>rfl
     intro K hK;simp only [putAll,Act.put,qA,qB,qC];go_simp;have c3:=Xc3.out;refine hK _ _ ⟨_,(.pointer (some ⟨w.heap.size,8,none⟩)),(.slice p.al.a1 p.al.m1 p.al.c1),e3,_,_,_,_,_,_,_,_,_,_,_,_,_,_,A5,C5,A6,C6,A7,C7,?_,hB,Xc0,Xc1,fun _=>rfl,fun h=>Bool.noConfusion (hd.symm.trans (c3 h).1),Xc4,Xc5,Xc6,Xc7,Xc8,Xc9,Xc10,Xc11,Xc12,Xc13,Xc14,Xc15,Xc16,Xc17,Xc18,Xc19,Xc20,Xcb,Xcr.out,Xco.out⟩
     simp only [putAll,Act.put,qA,qB,qC]
   | 3, _, hd, hk =>
     have h2:=hk 2 (by decide +kernel)
     have c2:=Xc2.out;have c7:=Xc7.out;have c11:=Xc11.out;have c14:=Xc14.out;have cb:=Xcb.out;obtain rfl:=c2 h2;have hdf:d 14=false:=by cases h:d 14 with | false=>rfl | true=>exact Bool.noConfusion (hd.symm.trans (c7 (c11 (c14 h).1).2.1).2.1)
     have hb9:=cb hdf;clear c2 c7 c11 c14 cb;apply wpOp_at
     case ho=>rfl
     intro K hK;simp only [putAll,Act.put,qA,qB,qC];go_simp;have c7:=Xc7.out;have c11:=Xc11.out;have c14:=Xc14.out;have c17:=Xc17.out;have c20:=Xc20.out;have cb:=Xcb.out;have cr:=Xcr.out;have co:=Xco.out;refine (cloneT_calls _ _ _ _ H5.out (by have:=Hf.out.2.2.2.2.1; have:=H5.out; omega) w' (HI0.out.2.2.2.2.1.2.later (held_next HB1.out hb9))).mono ?_
     rintro e w'' ⟨A,C,rfl,hO,hb⟩;rw [HN5.out] at hO ⊢;have hbs:W0.heap.size≤w'.heap.size:=Nat.le_trans HS01.out hb9.size;refine hK _ _ ⟨_,_,(.slice p.al.a1 p.al.m1 p.al.c1),.slice A N5 C,_,_,_,e7,_,_,_,e11,_,_,_,_,_,_,A,C,A6,C6,A7,C7,?_,hB.trans (hb.mono (Nat.le_trans HB1.out.size hb9.size)),Xc0,Xc1,Xc2,fun _=>⟨h2,trivial,rfl,own_mono hO hbs⟩,Xc4,Xc5,Xc6,fun h=>Bool.noConfusion (hd.symm.trans (c7 h).2.1),Xc8,Xc9,Xc10,fun h=>Bool.noConfusion (hd.symm.trans (c7 (c11 h).2.1).2.1),Xc12,Xc13,fun h=>Bool.noConfusion (hd.symm.trans (c7 (c11 (c14 h).1).2.1).2.1),Xc15,Xc16,fun h=>Bool.noConfusion (hd.symm.trans (c7 (c11 (c14 (c17 h).1).1).2.1).2.1),Xc18,Xc19,fun h=>Bool.noConfusion (hd.symm.trans (c7 (c11 (c14 (c17 (c20 h).1).1).1).2.1).2.1),fun h=>held_next (cb h) hb,cr.later hb cr.lt,co.later hb⟩
     simp only [putAll,Act.put,qA,qB,qC]
   | 4, _, hd, hk =>
     apply wpOp_at
     case ho=>rfl
     intro K hK;simp only [putAll,Act.put,qA,qB,qC];go_simp;refine hK _ _ ⟨_,_,_,_,(.pointer (some ⟨w.heap.size,6,none⟩)),_,_,_,_,_,_,_,_,_,_,_,_,_,A5,C5,A6,C6,A7,C7,?_,hB,Xc0,Xc1,Xc2,Xc3,fun _=>rfl,Xc5,Xc6,Xc7,Xc8,Xc9,Xc10,Xc11,Xc12,Xc13,Xc14,Xc15,Xc16,Xc17,Xc18,Xc19,Xc20,Xcb,Xcr.out,Xco.out⟩
     simp only [putAll,Act.put,qA,qB,qC]
   | 5, _, hd, hk =>
     have h4:=hk 4 (by decide +kernel)
     have c4:=Xc4.out;obtain rfl:=c4 h4;clear c4;apply wpOp_at
     case ho=>rfl
     intro K hK;simp only [putAll,Act.put,qA,qB,qC];go_simp;refine hK _ _ ⟨_,_,_,_,(.pointer (some ⟨w.heap.size,6,none⟩)),(.pointer (some ⟨w.heap.size,9,none⟩)),_,_,_,_,_,_,_,_,_,_,_,_,A5,C5,A6,C6,A7,C7,?_,hB,Xc0,Xc1,Xc2,Xc3,Xc4,fun _=>rfl,Xc6,Xc7,Xc8,Xc9,Xc10,Xc11,Xc12,Xc13,Xc14,Xc15,Xc16,Xc17,Xc18,Xc19,Xc20,Xcb,Xcr.out,Xco.out⟩
     simp only [putAll,Act.put,qA,qB,qC]
   | 6, _, hd, hk =>
     have h5:=hk 5 (by decide +kernel)
     have c5:=Xc5.out;have c7:=Xc7.out;have c11:=Xc11.out;have c14:=Xc14.out;have cb:=Xcb.out;obtain rfl:=c5 h5;have hdf:d 14=false:=by cases h:d 14 with | false=>rfl | true=>exact Bool.noConfusion (hd.symm.trans (c7 (c11 (c14 h).1).2.1).1)
     have hb9:=cb hdf;have hW9:=HX1.out.later hb9 HX1.out.lt;have z9:w'.cell? ⟨w.heap.size,9,none⟩=some (.slice p.al.a2 p.al.m2 p.al.c2):=hW9.cell 9;clear c5 c7 c11 c14 cb;apply wpOp_at
     case ho=>rfl
     intro K hK;simp only [putAll,Act.put,qA,qB,qC];go_simp;have c7:=Xc7.out;refine hK _ _ ⟨_,_,_,_,_,(.pointer (some ⟨w.heap.size,9,none⟩)),(.slice p.al.a2 p.al.m2 p.al.c2),e7,_,_,_,_,_,_,_,_,_,_,A5,C5,A6,C6,A7,C7,?_,hB,Xc0,Xc1,Xc2,Xc3,Xc4,Xc5,fun _=>rfl,fun h=>Bool.noConfusion (hd.symm.trans (c7 h).1),Xc8,Xc9,Xc10,Xc11,Xc12,Xc13,Xc14,Xc15,Xc16,Xc17,Xc18,Xc19,Xc20,Xcb,Xcr.out,Xco.out⟩
     simp only [putAll,Act.put,qA,qB,qC]
   | 7, _, hd, hk =>
     have h6:=hk 6 (by decide +kernel)
     have h3:=hk 3 (by decide +kernel)
     have c6:=Xc6.out;have c11:=Xc11.out;have c14:=Xc14.out;have cb:=Xcb.out;obtain rfl:=c6 h6;have hdf:d 14=false:=by cases h:d 14 with | false=>rfl | true=>exact Bool.noConfusion (hd.symm.trans (c11 (c14 h).1).2.1)
     have hb9:=cb hdf;clear c6 c11 c14 cb;apply wpOp_at
     case ho=>rfl
     intro K hK;simp only [putAll,Act.put,qA,qB,qC];go_simp;have c3:=Xc3.out;have c11:=Xc11.out;have c14:=Xc14.out;have c17:=Xc17.out;have c20:=Xc20.out;have cb:=Xcb.out;have cr:=Xcr.out;have co:=Xco.out;refine (cloneN_calls _ _ _ _ H6.out (by have:=Hf.out.2.2.2.2.2.1; have:=H6.out; omega) w' (HI0.out.2.2.2.2.2.1.2.later (held_next HB1.out hb9))).mono ?_
     rintro e w'' ⟨A,C,rfl,hO,hb⟩;rw [HN6.out] at hO ⊢;have hbs:W0.heap.size≤w'.heap.size:=Nat.le_trans HS01.out hb9.size;refine hK _ _ ⟨_,_,_,e3,_,_,(.slice p.al.a2 p.al.m2 p.al.c2),.slice A N6 C,_,_,_,e11,_,_,_,_,_,_,A5,C5,A,C,A7,C7,?_,hB.trans (hb.mono (Nat.le_trans HB1.out.size hb9.size)),Xc0,Xc1,Xc2,fun h=>⟨(c3 h).1,(c3 h).2.1,(c3 h).2.2.1,own_later ((c3 h).2.2.2) hb⟩,Xc4,Xc5,Xc6,fun _=>⟨h6,h3,rfl,own_mono hO hbs⟩,Xc8,Xc9,Xc10,fun h=>Bool.noConfusion (hd.symm.trans (c11 h).2.1),Xc12,Xc13,fun h=>Bool.noConfusion (hd.symm.trans (c11 (c14 h).1).2.1),Xc15,Xc16,fun h=>Bool.noConfusion (hd.symm.trans (c11 (c14 (c17 h).1).1).2.1),Xc18,Xc19,fun h=>Bool.noConfusion (hd.symm.trans (c11 (c14 (c17 (c20 h).1).1).1).2.1),fun h=>held_next (cb h) hb,cr.later hb cr.lt,co.later hb⟩
     simp only [putAll,Act.put,qA,qB,qC]
   | 8, _, hd, hk =>
     apply wpOp_at
     case ho=>rfl
     intro K hK;simp only [putAll,Act.put,qA,qB,qC];go_simp;refine hK _ _ ⟨_,_,_,_,_,_,_,_,(.pointer (some ⟨w.heap.size,6,none⟩)),_,_,_,_,_,_,_,_,_,A5,C5,A6,C6,A7,C7,?_,hB,Xc0,Xc1,Xc2,Xc3,Xc4,Xc5,Xc6,Xc7,fun _=>rfl,Xc9,Xc10,Xc11,Xc12,Xc13,Xc14,Xc15,Xc16,Xc17,Xc18,Xc19,Xc20,Xcb,Xcr.out,Xco.out⟩
     simp only [putAll,Act.put,qA,qB,qC]
   | 9, _, hd, hk =>
     have h8:=hk 8 (by decide +kernel)
     have c8:=Xc8.out;obtain rfl:=c8 h8;clear c8;apply wpOp_at
     case ho=>rfl
     intro K hK;simp only [putAll,Act.put,qA,qB,qC];go_simp;refine hK _ _ ⟨_,_,_,_,_,_,_,_,(.pointer (some ⟨w.heap.size,6,none⟩)),(.pointer (some ⟨w.heap.size,10,none⟩)),_,_,_,_,_,_,_,_,A5,C5,A6,C6,A7,C7,?_,hB,Xc0,Xc1,Xc2,Xc3,Xc4,Xc5,Xc6,Xc7,Xc8,fun _=>rfl,Xc10,Xc11,Xc12,Xc13,Xc14,Xc15,Xc16,Xc17,Xc18,Xc19,Xc20,Xcb,Xcr.out,Xco.out⟩
     simp only [putAll,Act.put,qA,qB,qC]
   | 10, _, hd, hk =>
     have h9:=hk 9 (by decide +kernel)
     have c9:=Xc9.out;have c11:=Xc11.out;have c14:=Xc14.out;have cb:=Xcb.out;obtain rfl:=c9 h9;have hdf:d 14=false:=by cases h:d 14 with | false=>rfl | true=>exact Bool.noConfusion (hd.symm.trans (c11 (c14 h).1).1)
     have hb9:=cb hdf;have hW9:=HX1.out.later hb9 HX1.out.lt;have z10:w'.cell? ⟨w.heap.size,10,none⟩=some (.slice p.al.a3 p.al.m3 p.al.c3):=hW9.cell 10;clear c9 c11 c14 cb;apply wpOp_at
     case ho=>rfl
     intro K hK;simp only [putAll,Act.put,qA,qB,qC];go_simp;have c11:=Xc11.out;refine hK _ _ ⟨_,_,_,_,_,_,_,_,_,(.pointer (some ⟨w.heap.size,10,none⟩)),(.slice p.al.a3 p.al.m3 p.al.c3),e11,_,_,_,_,_,_,A5,C5,A6,C6,A7,C7,?_,hB,Xc0,Xc1,Xc2,Xc3,Xc4,Xc5,Xc6,Xc7,Xc8,Xc9,fun _=>rfl,fun h=>Bool.noConfusion (hd.symm.trans (c11 h).1),Xc12,Xc13,Xc14,Xc15,Xc16,Xc17,Xc18,Xc19,Xc20,Xcb,Xcr.out,Xco.out⟩
     simp only [putAll,Act.put,qA,qB,qC]
   | 11, _, hd, hk =>
     have h10:=hk 10 (by decide +kernel)
     have h7:=hk 7 (by decide +kernel)
     have c10:=Xc10.out;have c14:=Xc14.out;have cb:=Xcb.out;obtain rfl:=c10 h10;have hdf:d 14=false:=by cases h:d 14 with | false=>rfl | true=>exact Bool.noConfusion (hd.symm.trans (c14 h).1)
     have hb9:=cb hdf;clear c10 c14 cb;apply wpOp_at
     case ho=>rfl
     intro K hK;simp only [putAll,Act.put,qA,qB,qC];go_simp;have c3:=Xc3.out;have c7:=Xc7.out;have c14:=Xc14.out;have c17:=Xc17.out;have c20:=Xc20.out;have cb:=Xcb.out;have cr:=Xcr.out;have co:=Xco.out;refine (cloneN_calls _ _ _ _ H7.out (by have:=Hf.out.2.2.2.2.2.2; have:=H7.out; omega) w' (HI0.out.2.2.2.2.2.2.2.later (held_next HB1.out hb9))).mono ?_
     rintro e w'' ⟨A,C,rfl,hO,hb⟩;rw [HN7.out] at hO ⊢;have hbs:W0.heap.size≤w'.heap.size:=Nat.le_trans HS01.out hb9.size;refine hK _ _ ⟨_,_,_,e3,_,_,_,e7,_,_,(.slice p.al.a3 p.al.m3 p.al.c3),.slice A N7 C,_,_,_,_,_,_,A5,C5,A6,C6,A,C,?_,hB.trans (hb.mono (Nat.le_trans HB1.out.size hb9.size)),Xc0,Xc1,Xc2,fun h=>⟨(c3 h).1,(c3 h).2.1,(c3 h).2.2.1,own_later ((c3 h).2.2.2) hb⟩,Xc4,Xc5,Xc6,fun h=>⟨(c7 h).1,(c7 h).2.1,(c7 h).2.2.1,own_later ((c7 h).2.2.2) hb⟩,Xc8,Xc9,Xc10,fun _=>⟨h10,h7,rfl,⟨own_mono hO hbs,fun b e1 e2=>by have h1:=((c7 h7).2.2.2.lt b e1).2; have h2:=(hO.lt b e2).1; omega⟩⟩,Xc12,Xc13,fun h=>Bool.noConfusion (hd.symm.trans (c14 h).1),Xc15,Xc16,fun h=>Bool.noConfusion (hd.symm.trans (c14 (c17 h).1).1),Xc18,Xc19,fun h=>Bool.noConfusion (hd.symm.trans (c14 (c17 (c20 h).1).1).1),fun h=>held_next (cb h) hb,cr.later hb cr.lt,co.later hb⟩
     simp only [putAll,Act.put,qA,qB,qC]
   | 12, _, hd, hk =>
     apply wpOp_at
     case ho=>rfl
     intro K hK;simp only [putAll,Act.put,qA,qB,qC];go_simp;refine hK _ _ ⟨_,_,_,_,_,_,_,_,_,_,_,_,(.pointer (some ⟨w.heap.size,6,none⟩)),_,_,_,_,_,A5,C5,A6,C6,A7,C7,?_,hB,Xc0,Xc1,Xc2,Xc3,Xc4,Xc5,Xc6,Xc7,Xc8,Xc9,Xc10,Xc11,fun _=>rfl,Xc13,Xc14,Xc15,Xc16,Xc17,Xc18,Xc19,Xc20,Xcb,Xcr.out,Xco.out⟩
     simp only [putAll,Act.put,qA,qB,qC]
   | 13, _, hd, hk =>
     have h12:=hk 12 (by decide +kernel)
     have c12:=Xc12.out;obtain rfl:=c12 h12;clear c12;apply wpOp_at
     case ho=>rfl
     intro K hK;simp only [putAll,Act.put,qA,qB,qC];go_simp;refine hK _ _ ⟨_,_,_,_,_,_,_,_,_,_,_,_,(.pointer (some ⟨w.heap.size,6,none⟩)),(.pointer (some ⟨w.heap.size,8,none⟩)),_,_,_,_,A5,C5,A6,C6,A7,C7,?_,hB,Xc0,Xc1,Xc2,Xc3,Xc4,Xc5,Xc6,Xc7,Xc8,Xc9,Xc10,Xc11,Xc12,fun _=>rfl,Xc14,Xc15,Xc16,Xc17,Xc18,Xc19,Xc20,Xcb,Xcr.out,Xco.out⟩
     simp only [putAll,Act.put,qA,qB,qC]
   | 14, _, hd, hk =>
     have h3:=hk 3 (by decide +kernel)
     have h13:=hk 13 (by decide +kernel)
     have h11:=hk 11 (by decide +kernel)
     have c3:=Xc3.out;have c13:=Xc13.out;have cb:=Xcb.out;obtain rfl:=c13 h13;obtain ⟨-,-,rfl,hO9⟩:=c3 h3;have hb9:=cb hd;have hW9:=HX1.out.later hb9 HX1.out.lt;have z8:=hW9.cell 8;have y8:=hW9.free 8;have hW8:=hW9.set 8 (.slice A5 N5 C5);simp only [List.setIfInBounds_toArray,List.set_cons_zero,List.set_cons_succ] at hW8;have hbw:w.heap.size < W0.heap.size:=HX0.out.lt;clear hO9;clear c3 c13 cb;apply wpOp_at
     case ho=>rfl
     intro K hK;simp only [putAll,Act.put,qA,qB,qC];go_simp;have c3:=Xc3.out;have c7:=Xc7.out;have c11:=Xc11.out;have c17:=Xc17.out;have c20:=Xc20.out;have cr:=Xcr.out;have co:=Xco.out;refine hK _ _ ⟨_,_,_,(.slice A5 N5 C5),_,_,_,e7,_,_,_,e11,_,(.pointer (some ⟨w.heap.size,8,none⟩)),_,_,_,_,A5,C5,A6,C6,A7,C7,?_,hB.setCell (p:=⟨w.heap.size,8,none⟩) (Nat.le_refl _) _,Xc0,Xc1,Xc2,fun h=>⟨(c3 h).1,(c3 h).2.1,(c3 h).2.2.1,own_low ((c3 h).2.2.2) (p:=⟨w.heap.size,8,none⟩) hbw _⟩,Xc4,Xc5,Xc6,fun h=>⟨(c7 h).1,(c7 h).2.1,(c7 h).2.2.1,own_low ((c7 h).2.2.2) (p:=⟨w.heap.size,8,none⟩) hbw _⟩,Xc8,Xc9,Xc10,fun h=>⟨(c11 h).1,(c11 h).2.1,(c11 h).2.2.1,⟨own_low ((c11 h).2.2.2).1 (p:=⟨w.heap.size,8,none⟩) hbw _,((c11 h).2.2.2).2⟩⟩,Xc12,Xc13,fun _=>⟨h11,fun _=>hW8⟩,Xc15,Xc16,fun h=>Bool.noConfusion (hd.symm.trans (c17 h).1),Xc18,Xc19,fun h=>Bool.noConfusion (hd.symm.trans (c17 (c20 h).1).1),fun h=>Bool.noConfusion (show true=false from h),cr.other (by show w.heap.size + 1 ≠ w.heap.size; omega) _,co.low (p:=⟨w.heap.size,8,none⟩) hbw _⟩
     simp only [putAll,Act.put,qA,qB,qC]
   | 15, _, hd, hk =>
     apply wpOp_at
     case ho=>rfl
     intro K hK;simp only [putAll,Act.put,qA,qB,qC];go_simp;refine hK _ _ ⟨_,_,_,_,_,_,_,_,_,_,_,_,_,_,(.pointer (some ⟨w.heap.size,6,none⟩)),_,_,_,A5,C5,A6,C6,A7,C7,?_,hB,Xc0,Xc1,Xc2,Xc3,Xc4,Xc5,Xc6,Xc7,Xc8,Xc9,Xc10,Xc11,Xc12,Xc13,Xc14,fun _=>rfl,Xc16,Xc17,Xc18,Xc19,Xc20,Xcb,Xcr.out,Xco.out⟩
     simp only [putAll,Act.put,qA,qB,qC]
   | 16, _, hd, hk =>
     have h15:=hk 15 (by decide +kernel)
     have c15:=Xc15.out;obtain rfl:=c15 h15;clear c15;apply wpOp_at
     case ho=>rfl
     intro K hK;simp only [putAll,Act.put,qA,qB,qC];go_simp;refine hK _ _ ⟨_,_,_,_,_,_,_,_,_,_,_,_,_,_,(.pointer (some ⟨w.heap.size,6,none⟩)),(.pointer (some ⟨w.heap.size,9,none⟩)),_,_,A5,C5,A6,C6,A7,C7,?_,hB,Xc0,Xc1,Xc2,Xc3,Xc4,Xc5,Xc6,Xc7,Xc8,Xc9,Xc10,Xc11,Xc12,Xc13,Xc14,Xc15,fun _=>rfl,Xc17,Xc18,Xc19,Xc20,Xcb,Xcr.out,Xco.out⟩
     simp only [putAll,Act.put,qA,qB,qC]
   | 17, _, hd, hk =>
     have h7:=hk 7 (by decide +kernel)
     have h16:=hk 16 (by decide +kernel)
     have h14:=hk 14 (by decide +kernel)
     have c7:=Xc7.out;have c14:=Xc14.out;have c16:=Xc16.out;obtain rfl:=c16 h16;have hfs:d 14=true:=h14;obtain ⟨-,-,rfl,hO9⟩:=c7 h7;have hW9:=(c14 h14).2 hd;have z9:=hW9.cell 9;have y9:=hW9.free 9;have hW8:=hW9.set 9 (.slice A6 N6 C6);simp only [List.setIfInBounds_toArray,List.set_cons_zero,List.set_cons_succ] at hW8;have hbw:w.heap.size < W0.heap.size:=HX0.out.lt;clear hO9;clear c7 c14 c16;apply wpOp_at
     case ho=>rfl
     intro K hK;simp only [putAll,Act.put,qA,qB,qC];go_simp;have c3:=Xc3.out;have c7:=Xc7.out;have c11:=Xc11.out;have c14:=Xc14.out;have c20:=Xc20.out;have cr:=Xcr.out;have co:=Xco.out;refine hK _ _ ⟨_,_,_,e3,_,_,_,(.slice A6 N6 C6),_,_,_,e11,_,_,_,(.pointer (some ⟨w.heap.size,9,none⟩)),_,_,A5,C5,A6,C6,A7,C7,?_,hB.setCell (p:=⟨w.heap.size,9,none⟩) (Nat.le_refl _) _,Xc0,Xc1,Xc2,fun h=>⟨(c3 h).1,(c3 h).2.1,(c3 h).2.2.1,own_low ((c3 h).2.2.2) (p:=⟨w.heap.size,9,none⟩) hbw _⟩,Xc4,Xc5,Xc6,fun h=>⟨(c7 h).1,(c7 h).2.1,(c7 h).2.2.1,own_low ((c7 h).2.2.2) (p:=⟨w.heap.size,9,none⟩) hbw _⟩,Xc8,Xc9,Xc10,fun h=>⟨(c11 h).1,(c11 h).2.1,(c11 h).2.2.1,⟨own_low ((c11 h).2.2.2).1 (p:=⟨w.heap.size,9,none⟩) hbw _,((c11 h).2.2.2).2⟩⟩,Xc12,Xc13,fun h=>⟨(c14 h).1,fun k=>absurd (show true=false from k) (by decide)⟩,Xc15,Xc16,fun _=>⟨h14,fun _=>hW8⟩,Xc18,Xc19,fun h=>Bool.noConfusion (hd.symm.trans (c20 h).1),fun h=>absurd (hfs.symm.trans h) (by decide),cr.other (by show w.heap.size + 1 ≠ w.heap.size; omega) _,co.low (p:=⟨w.heap.size,9,none⟩) hbw _⟩
     simp only [putAll,Act.put,qA,qB,qC]
   | 18, _, hd, hk =>
     apply wpOp_at
     case ho=>rfl
     intro K hK;simp only [putAll,Act.put,qA,qB,qC];go_simp;refine hK _ _ ⟨_,_,_,_,_,_,_,_,_,_,_,_,_,_,_,_,(.pointer (some ⟨w.heap.size,6,none⟩)),_,A5,C5,A6,C6,A7,C7,?_,hB,Xc0,Xc1,Xc2,Xc3,Xc4,Xc5,Xc6,Xc7,Xc8,Xc9,Xc10,Xc11,Xc12,Xc13,Xc14,Xc15,Xc16,Xc17,fun _=>rfl,Xc19,Xc20,Xcb,Xcr.out,Xco.out⟩
     simp only [putAll,Act.put,qA,qB,qC]
   | 19, _, hd, hk =>
     have h18:=hk 18 (by decide +kernel)
     have c18:=Xc18.out;obtain rfl:=c18 h18;clear c18;apply wpOp_at
     case ho=>rfl
     intro K hK;simp only [putAll,Act.put,qA,qB,qC];go_simp;refine hK _ _ ⟨_,_,_,_,_,_,_,_,_,_,_,_,_,_,_,_,(.pointer (some ⟨w.heap.size,6,none⟩)),(.pointer (some ⟨w.heap.size,10,none⟩)),A5,C5,A6,C6,A7,C7,?_,hB,Xc0,Xc1,Xc2,Xc3,Xc4,Xc5,Xc6,Xc7,Xc8,Xc9,Xc10,Xc11,Xc12,Xc13,Xc14,Xc15,Xc16,Xc17,Xc18,fun _=>rfl,Xc20,Xcb,Xcr.out,Xco.out⟩
     simp only [putAll,Act.put,qA,qB,qC]
   | 20, _, hd, hk =>
     have h11:=hk 11 (by decide +kernel)
     have h19:=hk 19 (by decide +kernel)
     have h17:=hk 17 (by decide +kernel)
     have c11:=Xc11.out;have c17:=Xc17.out;have c19:=Xc19.out;obtain rfl:=c19 h19;have hx17:d 17=true:=h17;have hfs:d 14=true:=(c17 h17).1;obtain ⟨-,-,rfl,hO9⟩:=c11 h11;have hW9:=(c17 h17).2 hd;have z10:=hW9.cell 10;have y10:=hW9.free 10;have hW8:=hW9.set 10 (.slice A7 N7 C7);simp only [List.setIfInBounds_toArray,List.set_cons_zero,List.set_cons_succ] at hW8;have hbw:w.heap.size < W0.heap.size:=HX0.out.lt
     clear hO9;clear c11 c17 c19;apply wpOp_at
     case ho=>rfl
     intro K hK;simp only [putAll,Act.put,qA,qB,qC];go_simp;have c3:=Xc3.out;have c7:=Xc7.out;have c11:=Xc11.out;have c14:=Xc14.out;have c17:=Xc17.out;have cr:=Xcr.out;have co:=Xco.out;refine hK _ _ ⟨_,_,_,e3,_,_,_,e7,_,_,_,(.slice A7 N7 C7),_,_,_,_,_,(.pointer (some ⟨w.heap.size,10,none⟩)),A5,C5,A6,C6,A7,C7,?_,hB.setCell (p:=⟨w.heap.size,10,none⟩) (Nat.le_refl _) _,Xc0,Xc1,Xc2,fun h=>⟨(c3 h).1,(c3 h).2.1,(c3 h).2.2.1,own_low ((c3 h).2.2.2) (p:=⟨w.heap.size,10,none⟩) hbw _⟩,Xc4,Xc5,Xc6,fun h=>⟨(c7 h).1,(c7 h).2.1,(c7 h).2.2.1,own_low ((c7 h).2.2.2) (p:=⟨w.heap.size,10,none⟩) hbw _⟩,Xc8,Xc9,Xc10,fun h=>⟨(c11 h).1,(c11 h).2.1,(c11 h).2.2.1,⟨own_low ((c11 h).2.2.2).1 (p:=⟨w.heap.size,10,none⟩) hbw _,((c11 h).2.2.2).2⟩⟩,Xc12,Xc13,fun h=>⟨(c14 h).1,fun k=>absurd (hx17.symm.trans k) (by decide)⟩,Xc15,Xc16,fun h=>⟨(c17 h).1,fun k=>absurd (show true=false from k) (by decide)⟩,Xc18,Xc19,fun _=>⟨h17,hW8⟩,fun h=>absurd (hfs.symm.trans h) (by decide),cr.other (by show w.heap.size + 1 ≠ w.heap.size; omega) _,co.low (p:=⟨w.heap.size,10,none⟩) hbw _⟩
     simp only [putAll,Act.put,qA,qB,qC]
   | k + 21,hi,_,_=>exact absurd hi (by simp)
  case ends =>
   intro d a' w' hJ hall;obtain ⟨e0,e1,e2,e3,e4,e5,e6,e7,e8,e9,e10,e11,e12,e13,e15,e16,e18,e19,A5,C5,A6,C6,A7,C7,rfl,hC⟩:=hJ;obtain ⟨hB,hC⟩:=hC;obtain ⟨c0,hC⟩:=hC;obtain ⟨c1,hC⟩:=hC;obtain ⟨c2,hC⟩:=hC;obtain ⟨c3,hC⟩:=hC;obtain ⟨c4,hC⟩:=hC;obtain ⟨c5,hC⟩:=hC;obtain ⟨c6,hC⟩:=hC;obtain ⟨c7,hC⟩:=hC;obtain ⟨c8,hC⟩:=hC;obtain ⟨c9,hC⟩:=hC;obtain ⟨c10,hC⟩:=hC;obtain ⟨c11,hC⟩:=hC;obtain ⟨c12,hC⟩:=hC;obtain ⟨c13,hC⟩:=hC
   obtain ⟨c14,hC⟩:=hC;obtain ⟨c15,hC⟩:=hC;obtain ⟨c16,hC⟩:=hC;obtain ⟨c17,hC⟩:=hC;obtain ⟨c18,hC⟩:=hC;obtain ⟨c19,hC⟩:=hC;obtain ⟨c20,hC⟩:=hC;obtain ⟨cb,hC⟩:=hC;obtain ⟨cr,hC⟩:=hC;have co:=hC;clear hC;have HX:=qH (c20 (hall 20 (by decide +kernel))).2
   have HR:=qH cr;have HBe:=qH hB;have HCO:=qH co;obtain ⟨-,-,rfl,ho3⟩:=c3 (hall 3 (by decide +kernel))
   have HOt:=qH ho3;obtain ⟨-,-,rfl,ho7⟩:=c7 (hall 7 (by decide +kernel))
   have HOu:=qH ho7;obtain ⟨-,-,rfl,ho11⟩:=c11 (hall 11 (by decide +kernel))
   have HOi:=qH ho11;obtain rfl:=c0 (hall 0 (by decide +kernel))
   obtain rfl:=c1 (hall 1 (by decide +kernel))
   obtain rfl:=c2 (hall 2 (by decide +kernel))
   obtain rfl:=c4 (hall 4 (by decide +kernel))
   obtain rfl:=c5 (hall 5 (by decide +kernel))
   obtain rfl:=c6 (hall 6 (by decide +kernel))
   obtain rfl:=c8 (hall 8 (by decide +kernel))
   obtain rfl:=c9 (hall 9 (by decide +kernel))
   obtain rfl:=c10 (hall 10 (by decide +kernel))
   obtain rfl:=c12 (hall 12 (by decide +kernel))
   obtain rfl:=c13 (hall 13 (by decide +kernel))
   obtain rfl:=c15 (hall 15 (by decide +kernel))
   obtain rfl:=c16 (hall 16 (by decide +kernel))
   obtain rfl:=c18 (hall 18 (by decide +kernel))
   obtain rfl:=c19 (hall 19 (by decide +kernel))
   clear c14 c17 c20 ho3 ho7 ho11 cb cr hall hB;simp only [putAll,Act.put,qA,qB,qC];obtain ⟨W2,HW2⟩:∃ z,z=w':=⟨_,rfl⟩;subst HW2;obtain ⟨⟨q0,q1,q2,q3⟩,⟨q4,q5,q6,q7⟩,q8,q9,q10,q11⟩:=bk_cells HX.out
   try simp only at q0 q1 q2 q3 q4 q5 q6 q7 q8 q9 q10 q11
   obtain ⟨⟨z0,z1,z2,z3⟩,⟨z4,z5,z6,z7⟩,z8,z9,z10,z11⟩:=bk_cells HR.out
   try simp only at z0 z1 z2 z3 z4 z5 z6 z7 z8 z9 z10 z11
   have y0:=HR.out.free 0;have y1:=HR.out.free 1;have y2:=HR.out.free 2;have y3:=HR.out.free 3;have y4:=HR.out.free 4;have y5:=HR.out.free 5;have y6:=HR.out.free 6;have y7:=HR.out.free 7;have y8:=HR.out.free 8;have y9:=HR.out.free 9;have y10:=HR.out.free 10;have y11:=HR.out.free 11;obtain ⟨P,HP⟩:∃ P:Bl,P=⟨A1,N1,C1,A2,N2,C2,A3,N3,C3,A4,N4,C4,⟨A5,N5,C5,A6,N6,C6,A7,N7,C7⟩⟩:=⟨_,rfl⟩;have HE:=qH (bk12_whole (x:=x) (rv:=.slice A1 N1 C1) (lv:=.slice A2 N2 C2) (ov:=.slice A3 N3 C3) (nv:=.slice A4 N4 C4) (tv:=.slice A5 N5 C5) (uv:=.slice A6 N6 C6) (iv:=.slice A7 N7 C7) HR.out)
   have hbt:ButS (fun b=>b=w.heap.size + 1) W2 (bk12p W2 (w.heap.size + 1) x P):=bk12_buts (ButS.refl _ _) rfl
   have hw0:w.heap.size + 1 < W0.heap.size:=HR0.out.lt;have hlow:∀ b,b=w.heap.size + 1→b < W0.heap.size:=fun b e=>by omega
   have hK:OwnK (bk12p W2 (w.heap.size + 1) x P) w.heap.size P x:=by
    subst HP
    exact ⟨⟨HN1.out.symm,(HCO.out.1.butS hlow hbt).mono HB0.out.size⟩,⟨HN2.out.symm,own_mono (row_butS HCO.out.2.1 hlow hbt) HB0.out.size⟩,⟨HN3.out.symm,own_mono (row_butS HCO.out.2.2.1 hlow hbt) HB0.out.size⟩,⟨HN4.out.symm,own_mono (row_butS HCO.out.2.2.2 hlow hbt) HB0.out.size⟩,
     ⟨HN5.out.symm,own_mono (row_butS HOt.out hlow hbt) HB0.out.size⟩,⟨HN6.out.symm,own_mono (row_butS HOu.out hlow hbt) HB0.out.size⟩,⟨HN7.out.symm,own_mono (row_butS HOi.out.1 hlow hbt) HB0.out.size⟩,HOi.out.2⟩
   have HK:=qH hK;have HBL:=qH (bk12_below (x:=x) (rv:=.slice A1 N1 C1) (lv:=.slice A2 N2 C2) (ov:=.slice A3 N3 C3) (nv:=.slice A4 N4 C4) (tv:=.slice A5 N5 C5) (uv:=.slice A6 N6 C6) (iv:=.slice A7 N7 C7) (HB1.out.trans HBe.out) (Nat.le_succ w.heap.size));have hrlt:w.heap.size + 1 < W2.heap.size:=HR.out.lt;have hxlt:w.heap.size < W2.heap.size:=HX.out.lt;clear hK hbt hlow hw0
   go_wp2_with fail
   obtain ⟨⟨k0,k1,k2,k3⟩,⟨k4,k5,k6,k7⟩,k8,k9,k10,k11⟩:=bk_cells HE.out;simp only [bk12] at k0 k1 k2 k3 k4 k5 k6 k7 k8 k9 k10 k11;refine bodyPost_ret (v:=bkAt x P) (by rw [HP]; simp [results,Tryz.results51,go_sem,k0,k1,k2,k3,k4,k5,k6,k7,k8,k9,k10,k11]) rfl ⟨P,rfl,?_,HBL.out⟩
   have h:=HK.out;rw [HP] at h ⊢
   exact h
end Go.Proofs.YtecjnkokdnmhlaaGreat
