/- Parts, as far as NodeAtOnceCards reaches them, of: NodeFree. No law is proved here. -/
import Derived.Test.YtecjnkokdnmhlaaGreatTa13
namespace Go.Proofs.YtecjnkokdnmhlaaGreat
open Go.RowKit
theorem rq_set3' {w:World} {g:Nat} {o:Rq} (h:Whole w g 59 (rqCells o)) (t a m:Int):Whole (((w.setCell ⟨g,0,none⟩ (.int .i64 t)).setCell ⟨g,1,none⟩ (.int .i64 a)).setCell ⟨g,2,none⟩ (.int .i64 m)) g 59 (rqCells ⟨t,a,m⟩):=by
 have h9:=((h.set 0 (.int .i64 t)).set 1 (.int .i64 a)).set 2 (.int .i64 m)
 simpa using h9
set_option maxRecDepth 100000 in
set_option maxHeartbeats 8000000 in
theorem free18_calls {n0 g:Nat} {E:Nat→Prop} {c:Cf} {who:Int} {x:Nd} {p:Nl} {code:Int} {W:World} (h:St n0 E W g c who x p code) (hs:x.bk.notes.length≤1000) :
 Calls Tryz.prog 114 #[.pointer (some ⟨g,0,none⟩)] W (Says W (quietB c who x.bk)):=by
 have hlt:=h.lt;have HS:=qH h;clear h;obtain ⟨res,Hres⟩:∃ z,Hid (quietB c who x.bk=z):=⟨_,rfl⟩;rw [Hres.out];obtain ⟨⟨⟨ht,ha,hq⟩,ok⟩,Ho⟩:∃ z,Hid (oldestN c who x.bk.notes=z):=⟨_,rfl⟩
 have HO:Hid (∀ w',Below W.heap.size W w'→Calls Tryz.prog 165 #[cfV c,.int .i64 who,.slice p.bl.a4 p.bl.m4 p.bl.c4] w' (fun e w2=>e=.returned (.tuple #[rqV ⟨ht,ha,hq⟩,.bool ok])∧Below w'.heap.size w' w2)):=fun w' hb=>by
  have h1:=cOldest_calls c who p.bl.a4 p.bl.m4 p.bl.c4 x.bk.notes HS.out.inn.2.2.1.1 (by have:=HS.out.inn.2.2.1.1; omega) w' (HS.out.inn.2.2.1.2.later hb)
  rw [Ho.out] at h1
  exact h1
 go_enter Tryz.func114,Tryz.ntmps114
 go_wp2_with fail
 refine wp_region_each_at ?hm ?hb (fun a0 d a' w'=>∃ (e0 e1 e2 e3 e4 e5 e6 e7 e8 e9 e10 e11 e12 e13 e14 e15 e16 e17 e19:Value),a'=putAll a0 [(6,e0),(7,e1),(8,e2),(9,e3),(10,e4),(11,e5),(12,e6),(13,e7),(14,e8),(15,e9),(16,e10),(17,e11),(18,e12),(19,e13),(5,e14),(20,e15),(21,e16),(3,e17),(4,e19)]∧Below W.heap.size W w'∧(d 0=true→e0=(.pointer (some ⟨g,0,none⟩)))∧(d 1=true→e1=(.pointer (some ⟨g,0,none⟩)))∧(d 2=true→e2=(.pointer (some ⟨g,15,none⟩)))∧(d 3=true→e3=(cfV c))∧(d 4=true→e4=(.pointer (some ⟨g,0,none⟩)))∧(d 5=true→e5=(.pointer (some ⟨g,0,none⟩)))∧(d 6=true→e6=(.pointer (some ⟨g,21,none⟩)))∧(d 7=true→e7=(.int .i64 who))∧(d 8=true→e8=(.pointer (some ⟨g,0,none⟩)))∧(d 9=true→e9=(.pointer (some ⟨g,0,none⟩)))∧(d 10=true→e10=(.pointer (some ⟨g,0,none⟩)))∧(d 11=true→e11=(.pointer (some ⟨g,5,none⟩)))∧(d 12=true→e12=(.slice p.bl.a4 p.bl.m4 p.bl.c4))∧(d 13=true→e13=(.tuple #[rqV ⟨ht,ha,hq⟩,.bool ok]))∧(d 14=true→e14=(.tuple #[rqV ⟨ht,ha,hq⟩,.bool ok]))∧(d 15=true→e15=(rqV ⟨ht,ha,hq⟩))∧(d 16=true→e16=(.bool ok))∧(d 17=true→(∃ (gb:Nat) (rq:Rq),e17=.pointer (some ⟨gb,0,none⟩)∧W.heap.size≤gb∧Whole w' gb 59 (rqCells rq)))∧(d 18=true→True)∧(d 19=true→e19=(.bool ok))) ?h0 ?step ?ends
 case hm=>kernel_rfl
 case hb=>kernel_rfl
 case h0 =>
  refine ⟨undef,undef,undef,undef,undef,undef,undef,undef,undef,undef,undef,undef,undef,undef,undef,undef,undef,undef,undef,?_,(Below.refl _ _).drew,fun h=>absurd h (by decide),fun h=>absurd h (by decide),fun h=>absurd h (by decide),fun h=>absurd h (by decide),fun h=>absurd h (by decide),fun h=>absurd h (by decide),fun h=>absurd h (by decide),fun h=>absurd h (by decide),fun h=>absurd h (by decide),fun h=>absurd h (by decide),fun h=>absurd h (by decide),fun h=>absurd h (by decide),fun h=>absurd h (by decide),fun h=>absurd h (by decide),fun h=>absurd h (by decide),fun h=>absurd h (by decide),fun h=>absurd h (by decide),fun h=>absurd h (by decide),fun h=>absurd h (by decide),fun h=>absurd h (by decide)⟩
  simp only [putAll,Act.put,qA,qB,qC]
 case step =>
  intro i d a' w' hi hJ hd hk;obtain ⟨e0,e1,e2,e3,e4,e5,e6,e7,e8,e9,e10,e11,e12,e13,e14,e15,e16,e17,e19,rfl,hC⟩:=hJ;obtain ⟨hB,hC⟩:=hC;obtain ⟨c0,hC⟩:=hC;obtain ⟨c1,hC⟩:=hC;obtain ⟨c2,hC⟩:=hC;obtain ⟨c3,hC⟩:=hC;obtain ⟨c4,hC⟩:=hC;obtain ⟨c5,hC⟩:=hC;obtain ⟨c6,hC⟩:=hC;obtain ⟨c7,hC⟩:=hC;obtain ⟨c8,hC⟩:=hC;obtain ⟨c9,hC⟩:=hC;obtain ⟨c10,hC⟩:=hC;obtain ⟨c11,hC⟩:=hC;obtain ⟨c12,hC⟩:=hC;obtain ⟨c13,hC⟩:=hC
  obtain ⟨c14,hC⟩:=hC;obtain ⟨c15,hC⟩:=hC;obtain ⟨c16,hC⟩:=hC;obtain ⟨c17,hC⟩:=hC;obtain ⟨c18,hC⟩:=hC;have c19:=hC;clear hC
  match i,hi,hd,hk with
  | 0, _, hd, hk =>
    apply wpOp_at
    case ho=>rfl
    intro K hK;simp only [putAll,Act.put,qA,qB,qC];go_simp;refine hK _ _ ⟨(.pointer (some ⟨g,0,none⟩)),e1,e2,e3,e4,e5,e6,e7,e8,e9,e10,e11,e12,e13,e14,e15,e16,e17,e19,?_,hB,fun _=>rfl,c1,c2,c3,c4,c5,c6,c7,c8,c9,c10,c11,c12,c13,c14,c15,c16,c17,c18,c19⟩
    simp only [putAll,Act.put,qA,qB,qC]
  | 1, _, hd, hk =>
    have h0:=hk 0 (by decide +kernel)
    obtain rfl:=c0 h0;apply wpOp_at
    case ho=>rfl
    intro K hK;simp only [putAll,Act.put,qA,qB,qC];go_simp;refine hK _ _ ⟨(.pointer (some ⟨g,0,none⟩)),(.pointer (some ⟨g,0,none⟩)),e2,e3,e4,e5,e6,e7,e8,e9,e10,e11,e12,e13,e14,e15,e16,e17,e19,?_,hB,c0,fun _=>rfl,c2,c3,c4,c5,c6,c7,c8,c9,c10,c11,c12,c13,c14,c15,c16,c17,c18,c19⟩
    simp only [putAll,Act.put,qA,qB,qC]
  | 2, _, hd, hk =>
    have h1:=hk 1 (by decide +kernel)
    obtain rfl:=c1 h1;apply wpOp_at
    case ho=>rfl
    intro K hK;simp only [putAll,Act.put,qA,qB,qC];go_simp;refine hK _ _ ⟨e0,(.pointer (some ⟨g,0,none⟩)),(.pointer (some ⟨g,15,none⟩)),e3,e4,e5,e6,e7,e8,e9,e10,e11,e12,e13,e14,e15,e16,e17,e19,?_,hB,c0,c1,fun _=>rfl,c3,c4,c5,c6,c7,c8,c9,c10,c11,c12,c13,c14,c15,c16,c17,c18,c19⟩
    simp only [putAll,Act.put,qA,qB,qC]
  | 3, _, hd, hk =>
    have h2:=hk 2 (by decide +kernel)
    obtain rfl:=c2 h2;have z15:w'.cell? ⟨g,15,none⟩=some (.int .i64 c.n):=(HS.out.later hB).ob.cell 15;have z16:w'.cell? ⟨g,16,none⟩=some (.int .i64 c.q):=(HS.out.later hB).ob.cell 16;have z17:w'.cell? ⟨g,17,none⟩=some (.int .i64 c.r):=(HS.out.later hB).ob.cell 17;have z18:w'.cell? ⟨g,18,none⟩=some (.int .i64 c.p):=(HS.out.later hB).ob.cell 18;have z19:w'.cell? ⟨g,19,none⟩=some (.int .i64 c.k):=(HS.out.later hB).ob.cell 19
    have z20:w'.cell? ⟨g,20,none⟩=some (.int .i64 c.c):=(HS.out.later hB).ob.cell 20;apply wpOp_at
    case ho=>rfl
    intro K hK;simp only [putAll,Act.put,qA,qB,qC];go_simp;refine hK _ _ ⟨e0,e1,(.pointer (some ⟨g,15,none⟩)),(cfV c),e4,e5,e6,e7,e8,e9,e10,e11,e12,e13,e14,e15,e16,e17,e19,?_,hB,c0,c1,c2,fun _=>rfl,c4,c5,c6,c7,c8,c9,c10,c11,c12,c13,c14,c15,c16,c17,c18,c19⟩
    simp only [putAll,Act.put,qA,qB,qC]
  | 4, _, hd, hk =>
    apply wpOp_at
    case ho=>rfl
    intro K hK;simp only [putAll,Act.put,qA,qB,qC];go_simp;refine hK _ _ ⟨e0,e1,e2,e3,(.pointer (some ⟨g,0,none⟩)),e5,e6,e7,e8,e9,e10,e11,e12,e13,e14,e15,e16,e17,e19,?_,hB,c0,c1,c2,c3,fun _=>rfl,c5,c6,c7,c8,c9,c10,c11,c12,c13,c14,c15,c16,c17,c18,c19⟩
    simp only [putAll,Act.put,qA,qB,qC]
  | 5, _, hd, hk =>
    have h4:=hk 4 (by decide +kernel)
    obtain rfl:=c4 h4;apply wpOp_at
    case ho=>rfl
    intro K hK;simp only [putAll,Act.put,qA,qB,qC];go_simp;refine hK _ _ ⟨e0,e1,e2,e3,(.pointer (some ⟨g,0,none⟩)),(.pointer (some ⟨g,0,none⟩)),e6,e7,e8,e9,e10,e11,e12,e13,e14,e15,e16,e17,e19,?_,hB,c0,c1,c2,c3,c4,fun _=>rfl,c6,c7,c8,c9,c10,c11,c12,c13,c14,c15,c16,c17,c18,c19⟩
    simp only [putAll,Act.put,qA,qB,qC]
  | 6, _, hd, hk =>
    have h5:=hk 5 (by decide +kernel)
    obtain rfl:=c5 h5;apply wpOp_at
    case ho=>rfl
    intro K hK;simp only [putAll,Act.put,qA,qB,qC];go_simp;refine hK _ _ ⟨e0,e1,e2,e3,e4,(.pointer (some ⟨g,0,none⟩)),(.pointer (some ⟨g,21,none⟩)),e7,e8,e9,e10,e11,e12,e13,e14,e15,e16,e17,e19,?_,hB,c0,c1,c2,c3,c4,c5,fun _=>rfl,c7,c8,c9,c10,c11,c12,c13,c14,c15,c16,c17,c18,c19⟩
    simp only [putAll,Act.put,qA,qB,qC]
  | 7, _, hd, hk =>
    have h6:=hk 6 (by decide +kernel)
    obtain rfl:=c6 h6;have z21:w'.cell? ⟨g,21,none⟩=some (.int .i64 who):=(HS.out.later hB).ob.cell 21;apply wpOp_at
    case ho=>rfl
    intro K hK;simp only [putAll,Act.put,qA,qB,qC];go_simp;refine hK _ _ ⟨e0,e1,e2,e3,e4,e5,(.pointer (some ⟨g,21,none⟩)),(.int .i64 who),e8,e9,e10,e11,e12,e13,e14,e15,e16,e17,e19,?_,hB,c0,c1,c2,c3,c4,c5,c6,fun _=>rfl,c8,c9,c10,c11,c12,c13,c14,c15,c16,c17,c18,c19⟩
    simp only [putAll,Act.put,qA,qB,qC]
  | 8, _, hd, hk =>
    apply wpOp_at
    case ho=>rfl
    intro K hK;simp only [putAll,Act.put,qA,qB,qC];go_simp;refine hK _ _ ⟨e0,e1,e2,e3,e4,e5,e6,e7,(.pointer (some ⟨g,0,none⟩)),e9,e10,e11,e12,e13,e14,e15,e16,e17,e19,?_,hB,c0,c1,c2,c3,c4,c5,c6,c7,fun _=>rfl,c9,c10,c11,c12,c13,c14,c15,c16,c17,c18,c19⟩
    simp only [putAll,Act.put,qA,qB,qC]
  | 9, _, hd, hk =>
    have h8:=hk 8 (by decide +kernel)
    obtain rfl:=c8 h8;apply wpOp_at
    case ho=>rfl
    intro K hK;simp only [putAll,Act.put,qA,qB,qC];go_simp;refine hK _ _ ⟨e0,e1,e2,e3,e4,e5,e6,e7,(.pointer (some ⟨g,0,none⟩)),(.pointer (some ⟨g,0,none⟩)),e10,e11,e12,e13,e14,e15,e16,e17,e19,?_,hB,c0,c1,c2,c3,c4,c5,c6,c7,c8,fun _=>rfl,c10,c11,c12,c13,c14,c15,c16,c17,c18,c19⟩
    simp only [putAll,Act.put,qA,qB,qC]
  | 10, _, hd, hk =>
    have h9:=hk 9 (by decide +kernel)
    obtain rfl:=c9 h9;apply wpOp_at
    case ho=>rfl
    intro K hK;simp only [putAll,Act.put,qA,qB,qC];go_simp;refine hK _ _ ⟨e0,e1,e2,e3,e4,e5,e6,e7,e8,(.pointer (some ⟨g,0,none⟩)),(.pointer (some ⟨g,0,none⟩)),e11,e12,e13,e14,e15,e16,e17,e19,?_,hB,c0,c1,c2,c3,c4,c5,c6,c7,c8,c9,fun _=>rfl,c11,c12,c13,c14,c15,c16,c17,c18,c19⟩
    simp only [putAll,Act.put,qA,qB,qC]
  | 11, _, hd, hk =>
    have h10:=hk 10 (by decide +kernel)
    obtain rfl:=c10 h10;apply wpOp_at
    case ho=>rfl
    intro K hK;simp only [putAll,Act.put,qA,qB,qC];go_simp;refine hK _ _ ⟨e0,e1,e2,e3,e4,e5,e6,e7,e8,e9,(.pointer (some ⟨g,0,none⟩)),(.pointer (some ⟨g,5,none⟩)),e12,e13,e14,e15,e16,e17,e19,?_,hB,c0,c1,c2,c3,c4,c5,c6,c7,c8,c9,c10,fun _=>rfl,c12,c13,c14,c15,c16,c17,c18,c19⟩
    simp only [putAll,Act.put,qA,qB,qC]
  | 12, _, hd, hk =>
    have h11:=hk 11 (by decide +kernel)
    obtain rfl:=c11 h11;have z5:w'.cell? ⟨g,5,none⟩=some (.slice p.bl.a4 p.bl.m4 p.bl.c4):=(HS.out.later hB).ob.cell 5;apply wpOp_at
    case ho=>rfl
    intro K hK;simp only [putAll,Act.put,qA,qB,qC];go_simp;refine hK _ _ ⟨e0,e1,e2,e3,e4,e5,e6,e7,e8,e9,e10,(.pointer (some ⟨g,5,none⟩)),(.slice p.bl.a4 p.bl.m4 p.bl.c4),e13,e14,e15,e16,e17,e19,?_,hB,c0,c1,c2,c3,c4,c5,c6,c7,c8,c9,c10,c11,fun _=>rfl,c13,c14,c15,c16,c17,c18,c19⟩
    simp only [putAll,Act.put,qA,qB,qC]
  | 13, _, hd, hk =>
    have h3:=hk 3 (by decide +kernel)
    have h7:=hk 7 (by decide +kernel)
    have h12:=hk 12 (by decide +kernel)
    obtain rfl:=c3 h3;obtain rfl:=c7 h7;obtain rfl:=c12 h12;apply wpOp_at
    case ho=>rfl
    intro K hK;simp only [putAll,Act.put,qA,qB,qC];go_simp;refine (HO.out _ hB).mono ?_;rintro e w'' ⟨rfl,hb⟩;refine hK _ _ ⟨e0,e1,e2,(cfV c),e4,e5,e6,(.int .i64 who),e8,e9,e10,e11,(.slice p.bl.a4 p.bl.m4 p.bl.c4),(.tuple #[rqV ⟨ht,ha,hq⟩,.bool ok]),e14,e15,e16,e17,e19,?_,hB.trans (hb.mono hB.size),c0,c1,c2,c3,c4,c5,c6,c7,c8,c9,c10,c11,c12,fun _=>rfl,c14,c15,c16,fun h=>let ⟨gb,rq,h1,h2,h3⟩:=c17 h; ⟨gb,rq,h1,h2,h3.later hb h3.lt⟩,c18,c19⟩
    simp only [putAll,Act.put,qA,qB,qC]
  | 14, _, hd, hk =>
    have h13:=hk 13 (by decide +kernel)
    obtain rfl:=c13 h13;apply wpOp_at
    case ho=>rfl
    intro K hK;simp only [putAll,Act.put,qA,qB,qC];go_simp;refine hK _ _ ⟨e0,e1,e2,e3,e4,e5,e6,e7,e8,e9,e10,e11,e12,(.tuple #[rqV ⟨ht,ha,hq⟩,.bool ok]),(.tuple #[rqV ⟨ht,ha,hq⟩,.bool ok]),e15,e16,e17,e19,?_,hB,c0,c1,c2,c3,c4,c5,c6,c7,c8,c9,c10,c11,c12,c13,fun _=>rfl,c15,c16,c17,c18,c19⟩
    simp only [putAll,Act.put,qA,qB,qC]
  | 15, _, hd, hk =>
    have h14:=hk 14 (by decide +kernel)
    obtain rfl:=c14 h14;apply wpOp_at
    case ho=>rfl
    intro K hK;simp only [putAll,Act.put,qA,qB,qC];go_simp;refine hK _ _ ⟨e0,e1,e2,e3,e4,e5,e6,e7,e8,e9,e10,e11,e12,e13,(.tuple #[rqV ⟨ht,ha,hq⟩,.bool ok]),(rqV ⟨ht,ha,hq⟩),e16,e17,e19,?_,hB,c0,c1,c2,c3,c4,c5,c6,c7,c8,c9,c10,c11,c12,c13,c14,fun _=>rfl,c16,c17,c18,c19⟩
    simp only [putAll,Act.put,qA,qB,qC]
  | 16, _, hd, hk =>
    have h14:=hk 14 (by decide +kernel)
    obtain rfl:=c14 h14;apply wpOp_at
    case ho=>rfl
    intro K hK;simp only [putAll,Act.put,qA,qB,qC];go_simp;refine hK _ _ ⟨e0,e1,e2,e3,e4,e5,e6,e7,e8,e9,e10,e11,e12,e13,(.tuple #[rqV ⟨ht,ha,hq⟩,.bool ok]),e15,(.bool ok),e17,e19,?_,hB,c0,c1,c2,c3,c4,c5,c6,c7,c8,c9,c10,c11,c12,c13,c14,c15,fun _=>rfl,c17,c18,c19⟩
    simp only [putAll,Act.put,qA,qB,qC]
  | 17, _, hd, hk =>
    have hb:=below_box w' (.cells (rqCells ⟨0,0,0⟩) 59);apply wpOp_at
    case ho=>rfl
    intro K hK;simp only [putAll,Act.put,qA,qB,qC];go_simp;refine hK _ _ ⟨e0,e1,e2,e3,e4,e5,e6,e7,e8,e9,e10,e11,e12,e13,e14,e15,e16,.pointer (some ⟨w'.heap.size,0,none⟩),e19,?_,hB.trans (hb.mono hB.size),c0,c1,c2,c3,c4,c5,c6,c7,c8,c9,c10,c11,c12,c13,c14,c15,c16,fun _=>⟨_,⟨0,0,0⟩,rfl,hB.size,Whole.made w' _ _⟩,c18,c19⟩
    simp only [putAll,Act.put,qA,qB,qC]
  | 18, _, hd, hk =>
    have h15:=hk 15 (by decide +kernel)
    have h17:=hk 17 (by decide +kernel)
    obtain rfl:=c15 h15;obtain ⟨gb,rq,rfl,hg,hW⟩:=c17 h17;obtain ⟨q0,q1,q2⟩:=rq_cells hW;have y0:=hW.free 0;have y1:=hW.free 1;have y2:=hW.free 2;have hL:=rq_set3' hW ht ha hq;apply wpOp_at
    case ho=>rfl
    intro K hK;simp only [putAll,Act.put,qA,qB,qC];go_simp;refine hK _ _ ⟨e0,e1,e2,e3,e4,e5,e6,e7,e8,e9,e10,e11,e12,e13,e14,(rqV ⟨ht,ha,hq⟩),e16,.pointer (some ⟨gb,0,none⟩),e19,?_,((hB.setCell (p:=⟨gb,0,none⟩) hg _).setCell (p:=⟨gb,1,none⟩) hg _).setCell (p:=⟨gb,2,none⟩) hg _,c0,c1,c2,c3,c4,c5,c6,c7,c8,c9,c10,c11,c12,c13,c14,c15,c16,fun _=>⟨gb,_,rfl,hg,hL⟩,fun _=>trivial,c19⟩
    simp only [putAll,Act.put,qA,qB,qC]
  | 19, _, hd, hk =>
    have h16:=hk 16 (by decide +kernel)
    obtain rfl:=c16 h16;apply wpOp_at
    case ho=>rfl
    intro K hK;simp only [putAll,Act.put,qA,qB,qC];go_simp;refine hK _ _ ⟨e0,e1,e2,e3,e4,e5,e6,e7,e8,e9,e10,e11,e12,e13,e14,e15,(.bool ok),e17,(.bool ok),?_,hB,c0,c1,c2,c3,c4,c5,c6,c7,c8,c9,c10,c11,c12,c13,c14,c15,c16,c17,c18,fun _=>rfl⟩
    simp only [putAll,Act.put,qA,qB,qC]
  | k + 20,hi,_,_=>exact absurd hi (by simp)
 case ends =>
  intro d a' w' hJ hall;obtain ⟨e0,e1,e2,e3,e4,e5,e6,e7,e8,e9,e10,e11,e12,e13,e14,e15,e16,e17,e19,rfl,hC⟩:=hJ;obtain ⟨hB,hC⟩:=hC;obtain ⟨c0,hC⟩:=hC;obtain ⟨c1,hC⟩:=hC;obtain ⟨c2,hC⟩:=hC;obtain ⟨c3,hC⟩:=hC;obtain ⟨c4,hC⟩:=hC;obtain ⟨c5,hC⟩:=hC;obtain ⟨c6,hC⟩:=hC;obtain ⟨c7,hC⟩:=hC;obtain ⟨c8,hC⟩:=hC;obtain ⟨c9,hC⟩:=hC;obtain ⟨c10,hC⟩:=hC;obtain ⟨c11,hC⟩:=hC;obtain ⟨c12,hC⟩:=hC;obtain ⟨c13,hC⟩:=hC;obtain ⟨c14,hC⟩:=hC
  obtain ⟨c15,hC⟩:=hC;obtain ⟨c16,hC⟩:=hC;obtain ⟨c17,hC⟩:=hC;obtain ⟨c18,hC⟩:=hC;have c19:=hC;clear hC;obtain rfl:=c0 (hall 0 (by decide +kernel))
  obtain rfl:=c1 (hall 1 (by decide +kernel))
  obtain rfl:=c2 (hall 2 (by decide +kernel))
  obtain rfl:=c3 (hall 3 (by decide +kernel))
  obtain rfl:=c4 (hall 4 (by decide +kernel))
  obtain rfl:=c5 (hall 5 (by decide +kernel))
  obtain rfl:=c6 (hall 6 (by decide +kernel))
  obtain rfl:=c7 (hall 7 (by decide +kernel))
  obtain rfl:=c8 (hall 8 (by decide +kernel))
  obtain rfl:=c9 (hall 9 (by decide +kernel))
  obtain rfl:=c10 (hall 10 (by decide +kernel))
  obtain rfl:=c11 (hall 11 (by decide +kernel))
  obtain rfl:=c12 (hall 12 (by decide +kernel))
  obtain rfl:=c13 (hall 13 (by decide +kernel))
  obtain rfl:=c14 (hall 14 (by decide +kernel))
  obtain rfl:=c15 (hall 15 (by decide +kernel))
  obtain rfl:=c16 (hall 16 (by decide +kernel))
  obtain rfl:=c19 (hall 19 (by decide +kernel))
  obtain ⟨gb,rq,rfl,_,_⟩:=c17 (hall 17 (by decide +kernel))
  have HB:=qH hB;clear hall hB c17 c18;simp only [putAll,Act.put,qA,qB,qC];have HS2:=qH (HS.out.later HB.out)
  cases ok with
  | true =>
    obtain rfl:res=false:=Hres.out.symm.trans (by unfold quietB; rw [Ho.out]; exact Bool.and_false _)
    go_wp2_with fail
    go_ret
    exact ⟨by rfl,HB.out⟩
  | false =>
    have hr:res=!(decide (0 < x.bk.line.length)):=Hres.out.symm.trans (by unfold quietB; rw [Ho.out]; show (decide (x.bk.line=[]) && !false)=_; rw [Bool.not_false,Bool.and_true]; cases hx:x.bk.line <;> simp)
    obtain ⟨bw,Hbw⟩:∃ z,Hid (decide (0 < x.bk.line.length)=z):=⟨_,rfl⟩;rw [Hbw.out] at hr;subst hr
    go_wp2_with fail
    refine (waits_calls HS2.out).mono ?_;rw [Hbw.out];rintro e w2 ⟨rfl,rfl⟩
    cases bw <;> (go_wp2_with fail; go_ret; exact ⟨by rfl,HB.out⟩)
end Go.Proofs.YtecjnkokdnmhlaaGreat
