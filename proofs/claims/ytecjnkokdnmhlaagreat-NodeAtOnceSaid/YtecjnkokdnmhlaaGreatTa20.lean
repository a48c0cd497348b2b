/- Parts, as far as NodeAtOnceCards reaches them, of: NodeRefuse. No law is proved here. -/
import Derived.Test.YtecjnkokdnmhlaaGreatTa15
import Derived.Test.YtecjnkokdnmhlaaGreatTa18
import Derived.Test.YtecjnkokdnmhlaaGreatTa19
namespace Go.Proofs.YtecjnkokdnmhlaaGreat
open Go.RowKit
theorem auk_next {c:Cf} {who:Int} {k:Bk} (h:IK c who k):auK k (nextA c who k.au k.rows).1=goesK c who k:=by
 unfold goesK
 by_cases h1:(nextA c who k.au k.rows).2=true
 · rw [if_pos h1]
 · rw [if_neg h1]
   have h2:(nextA c who k.au k.rows).1=k.au:=by
    unfold nextA at h1 ⊢
    rw [if_pos ⟨h.2.2.2.2.2.2.2.2.2,h.1⟩] at h1 ⊢
    split
    · rename_i h3; rw [if_pos h3] at h1; exact absurd rfl h1
    · rfl
   rw [h2]
   rfl
theorem ends_none {c:Cf} {who:Int} {k:Bk} (h:IK c who k) (hl:k.line=[]) (l:List Rw):(endsA c who k.au l).2.2=false:=by
 rw [(h.2.2.2.2.2.2.2.1 hl).2]
 unfold endsA
 rw [if_neg (fun h=>absurd h.2.2.1 (by decide))]
theorem IK.few {c:Cf} {who:Int} {k:Bk} (h:IK c who k):k.line.length≤1000∧k.outs.length≤1000∧k.notes.length≤1000:=by
 obtain ⟨h1,h2,_,_,⟨h3,_⟩,_,_,_,h4,_⟩:=h;obtain ⟨hc,_⟩:=h1
 unfold cfOk at hc
 have h5:(k.notes.length:Int)=c.n:=h4.2.2.1
 omega
set_option maxRecDepth 100000 in
set_option maxHeartbeats 8000000 in
theorem refuse18_calls {n0 g:Nat} {E:Nat→Prop} {c:Cf} {who:Int} {x:Nd} {p:Nl} {code:Int} {W:World} (h:St n0 E W g c who x p code) (hI:IK c who x.bk) :
 Calls Tryz.prog 85 #[.pointer (some ⟨g,0,none⟩)] W (fun e w'=>e=.returned (.bool (decide (lacksK c who (goesK c who x.bk))))∧StepTo n0 E g c who p W (bkN x (if lacksK c who (goesK c who x.bk) then leftK (goesK c who x.bk) 7 else endsK c who (goesK c who x.bk))) code w'):=by
 have hlt:=h.lt;have hn0:n0≤W.heap.size:=by have:=h.le; omega
 have HS:=qH h;have HI:=qH hI;clear h hI;obtain ⟨⟨y,gz⟩,Hn⟩:∃ z,Hid (nextA c who x.bk.au x.bk.rows=z):=⟨_,rfl⟩;obtain ⟨x1,Hx1⟩:∃ z,Hid (bkN x (goesK c who x.bk)=z):=⟨_,rfl⟩;have hx1:goesK c who x.bk=x1.bk:=by rw [← Hx1.out]
 have HI1:Hid (IK c who x1.bk):=by rw [← hx1]; exact HI.out.goes
 have hx1b:∀ k:Bk,bkN x k=bkN x1 k:=fun k=>by rw [← Hx1.out]
 rw [hx1,hx1b];clear hx1b;have HX1:=qH hx1;clear hx1;obtain ⟨⟨most,sure,ended⟩,He⟩:∃ z,Hid (endsA c who x1.bk.au x1.bk.rows=z):=⟨_,rfl⟩;have HE1:Hid ((endsA c who x1.bk.au x1.bk.rows).2.2=ended):=qH (by rw [He.out])
 have HE0:Hid ((endsA c who x1.bk.au x1.bk.rows).2.2=ended):=qH (by rw [He.out])
 obtain ⟨lk,Hlk⟩:∃ z,Hid (decide (lacksK c who x1.bk)=z):=⟨_,rfl⟩;obtain ⟨kr,Hkr⟩:∃ z,Hid ((if lacksK c who x1.bk then leftK x1.bk 7 else endsK c who x1.bk)=z):=⟨_,rfl⟩
 have HLK:Hid ((if lacksK c who x1.bk then leftK x1.bk 7 else endsK c who x1.bk)=if lk=true then leftK x1.bk 7 else endsK c who x1.bk):=qH (by rw [← Hlk.out]; simp only [decide_eq_true_eq])
 rw [Hlk.out,Hkr.out]
 have HN:Hid (∀ w',Below W.heap.size W w'→Calls Tryz.prog 142 #[cfV c,.int .i64 who,auAt x.bk.au p.bl.al,.slice p.bl.a1 p.bl.m1 p.bl.c1] w' (fun e w2=>∃ pa,e=.returned (.tuple #[auAt y pa,.bool gz])∧Below w'.heap.size w' w2∧Stay (fun b=>b < w'.heap.size) w2 (fun V=>AuIn V pa y))):=fun w' hb=>by
  have h1:=aNextF_calls c who x.bk.au p.bl.al p.bl.a1 p.bl.m1 p.bl.c1 x.bk.rows HS.out.inn.1.1 w' (HS.out.inn.2.2.2.1.later hb) (HS.out.inn.1.2.later hb);rw [Hn.out] at h1
  exact h1.mono fun e w2 ⟨q,h1,h2,h3,h4⟩=>⟨q,h1,h3,fun V hV=>h2.butS hV fun g hg=>h4 g trivial (Or.inl hg)⟩
 go_enter Tryz.func85,Tryz.ntmps85
 go_wp2_with fail
 refine wp_region_each_at ?hm ?hb (fun a0 d a' w'=>∃ (e0 e1 e2 e3 e4 e5 e6 e7 e8 e9 e10 e11 e12 e13 e14 e15 e16 e17 e18 e19 e20 e21 e22 e23 e24 e25:Value) (pa:Al),a'=putAll a0 [(7,e0),(8,e1),(9,e2),(10,e3),(11,e4),(12,e5),(13,e6),(14,e7),(15,e8),(16,e9),(17,e10),(18,e11),(19,e12),(20,e13),(21,e14),(22,e15),(23,e16),(24,e17),(25,e18),(26,e19),(6,e20),(27,e21),(28,e22),(29,e23),(30,e24),(31,e25)]∧Below n0 W w'∧(d 0=true→e0=(.pointer (some ⟨g,0,none⟩)))∧(d 1=true→e1=(.pointer (some ⟨g,0,none⟩)))∧(d 2=true→e2=(.pointer (some ⟨g,0,none⟩)))∧(d 3=true→e3=(.pointer (some ⟨g,15,none⟩)))∧(d 4=true→e4=(cfV c))∧(d 5=true→e5=(.pointer (some ⟨g,0,none⟩)))∧(d 6=true→e6=(.pointer (some ⟨g,0,none⟩)))∧(d 7=true→e7=(.pointer (some ⟨g,21,none⟩)))∧(d 8=true→e8=(.int .i64 who))∧(d 9=true→e9=(.pointer (some ⟨g,0,none⟩)))∧(d 10=true→e10=(.pointer (some ⟨g,0,none⟩)))∧(d 11=true→e11=(.pointer (some ⟨g,0,none⟩)))∧(d 12=true→e12=(.pointer (some ⟨g,6,none⟩)))∧(d 13=true→e13=(auAt x.bk.au p.bl.al))∧(d 14=true→e14=(.pointer (some ⟨g,0,none⟩)))∧(d 15=true→e15=(.pointer (some ⟨g,0,none⟩)))∧(d 16=true→e16=(.pointer (some ⟨g,0,none⟩)))∧(d 17=true→e17=(.pointer (some ⟨g,1,none⟩)))∧(d 18=true→e18=(.slice p.bl.a1 p.bl.m1 p.bl.c1))∧(d 19=true→(d 4=true∧d 8=true∧d 13=true∧d 18=true∧e19=(.tuple #[auAt y pa,.bool gz])∧(d 26=false→Stay (fun b=>b < W.heap.size) w' (fun V=>AuIn V pa y))))∧(d 20=true→(d 19=true∧e20=(.tuple #[auAt y pa,.bool gz])))∧(d 21=true→(d 19=true∧e21=(auAt y pa)))∧(d 22=true→e22=(.bool gz))∧(d 23=true→e23=(.pointer (some ⟨g,0,none⟩)))∧(d 24=true→e24=(.pointer (some ⟨g,0,none⟩)))∧(d 25=true→e25=(.pointer (some ⟨g,6,none⟩)))∧(d 26=true→(d 19=true∧StepTo n0 E g c who p W (bkN x (auK x.bk y)) code w'))∧(d 26=false→Below W.heap.size W w')) ?h0 ?step ?ends
 case hm=>kernel_rfl
 case hb=>kernel_rfl
 case h0 =>
  refine ⟨undef,undef,undef,undef,undef,undef,undef,undef,undef,undef,undef,undef,undef,undef,undef,undef,undef,undef,undef,undef,undef,undef,undef,undef,undef,undef,al0,?_,(Below.refl _ _).drew,fun h=>absurd h (by decide),fun h=>absurd h (by decide),fun h=>absurd h (by decide),fun h=>absurd h (by decide),fun h=>absurd h (by decide),fun h=>absurd h (by decide),fun h=>absurd h (by decide),fun h=>absurd h (by decide),fun h=>absurd h (by decide),fun h=>absurd h (by decide),fun h=>absurd h (by decide),fun h=>absurd h (by decide),fun h=>absurd h (by decide),fun h=>absurd h (by decide),fun h=>absurd h (by decide),fun h=>absurd h (by decide),fun h=>absurd h (by decide),fun h=>absurd h (by decide),fun h=>absurd h (by decide),fun h=>absurd h (by decide),fun h=>absurd h (by decide),fun h=>absurd h (by decide),fun h=>absurd h (by decide),fun h=>absurd h (by decide),fun h=>absurd h (by decide),fun h=>absurd h (by decide),fun h=>absurd h (by decide),fun _=>(Below.refl _ _).drew⟩
  simp only [putAll,Act.put,qA,qB,qC]
 case step =>
  intro i d a' w' hi hJ hd hk;obtain ⟨e0,e1,e2,e3,e4,e5,e6,e7,e8,e9,e10,e11,e12,e13,e14,e15,e16,e17,e18,e19,e20,e21,e22,e23,e24,e25,pa,rfl,hC⟩:=hJ;obtain ⟨hB,hC⟩:=hC;obtain ⟨c0,hC⟩:=hC;obtain ⟨c1,hC⟩:=hC;obtain ⟨c2,hC⟩:=hC;obtain ⟨c3,hC⟩:=hC;obtain ⟨c4,hC⟩:=hC;obtain ⟨c5,hC⟩:=hC;obtain ⟨c6,hC⟩:=hC;obtain ⟨c7,hC⟩:=hC;obtain ⟨c8,hC⟩:=hC;obtain ⟨c9,hC⟩:=hC;obtain ⟨c10,hC⟩:=hC;obtain ⟨c11,hC⟩:=hC;obtain ⟨c12,hC⟩:=hC
  obtain ⟨c13,hC⟩:=hC;obtain ⟨c14,hC⟩:=hC;obtain ⟨c15,hC⟩:=hC;obtain ⟨c16,hC⟩:=hC;obtain ⟨c17,hC⟩:=hC;obtain ⟨c18,hC⟩:=hC;obtain ⟨c19,hC⟩:=hC;obtain ⟨c20,hC⟩:=hC;obtain ⟨c21,hC⟩:=hC;obtain ⟨c22,hC⟩:=hC;obtain ⟨c23,hC⟩:=hC;obtain ⟨c24,hC⟩:=hC;obtain ⟨c25,hC⟩:=hC;obtain ⟨c26,hC⟩:=hC;have cb:=hC;clear hC;have Xc0:=qH c0; clear c0;have Xc1:=qH c1; clear c1;have Xc2:=qH c2; clear c2;have Xc3:=qH c3; clear c3
  have Xc4:=qH c4; clear c4;have Xc5:=qH c5; clear c5;have Xc6:=qH c6; clear c6;have Xc7:=qH c7; clear c7;have Xc8:=qH c8; clear c8;have Xc9:=qH c9; clear c9;have Xc10:=qH c10; clear c10;have Xc11:=qH c11; clear c11;have Xc12:=qH c12; clear c12;have Xc13:=qH c13; clear c13;have Xc14:=qH c14; clear c14;have Xc15:=qH c15; clear c15;have Xc16:=qH c16; clear c16;have Xc17:=qH c17; clear c17;have Xc18:=qH c18; clear c18
  have Xc19:=qH c19; clear c19;have Xc20:=qH c20; clear c20;have Xc21:=qH c21; clear c21;have Xc22:=qH c22; clear c22;have Xc23:=qH c23; clear c23;have Xc24:=qH c24; clear c24;have Xc25:=qH c25; clear c25;have Xc26:=qH c26; clear c26;have Xcb:=qH cb; clear cb
  match i,hi,hd,hk with
  | 0, _, hd, hk =>
    apply wpOp_at
    case ho=>rfl
    intro K hK;simp only [putAll,Act.put,qA,qB,qC];go_simp;refine hK _ _ ⟨(.pointer (some ⟨g,0,none⟩)),_,_,_,_,_,_,_,_,_,_,_,_,_,_,_,_,_,_,_,_,_,_,_,_,_,pa,?_,hB,fun _=>rfl,Xc1,Xc2,Xc3,Xc4,Xc5,Xc6,Xc7,Xc8,Xc9,Xc10,Xc11,Xc12,Xc13,Xc14,Xc15,Xc16,Xc17,Xc18,Xc19,Xc20,Xc21,Xc22,Xc23,Xc24,Xc25,Xc26,Xcb⟩
    simp only [putAll,Act.put,qA,qB,qC]
  | 1, _, hd, hk =>
    apply wpOp_at
    case ho=>rfl
    intro K hK;simp only [putAll,Act.put,qA,qB,qC];go_simp;refine hK _ _ ⟨_,(.pointer (some ⟨g,0,none⟩)),_,_,_,_,_,_,_,_,_,_,_,_,_,_,_,_,_,_,_,_,_,_,_,_,pa,?_,hB,Xc0,fun _=>rfl,Xc2,Xc3,Xc4,Xc5,Xc6,Xc7,Xc8,Xc9,Xc10,Xc11,Xc12,Xc13,Xc14,Xc15,Xc16,Xc17,Xc18,Xc19,Xc20,Xc21,Xc22,Xc23,Xc24,Xc25,Xc26,Xcb⟩
    simp only [putAll,Act.put,qA,qB,qC]
  | 2, _, hd, hk =>
    have h1:=hk 1 (by decide +kernel)
    have c1:=Xc1.out;obtain rfl:=c1 h1;clear c1;apply wpOp_at
    case ho=>rfl
    intro K hK;simp only [putAll,Act.put,qA,qB,qC];go_simp;refine hK _ _ ⟨_,(.pointer (some ⟨g,0,none⟩)),(.pointer (some ⟨g,0,none⟩)),_,_,_,_,_,_,_,_,_,_,_,_,_,_,_,_,_,_,_,_,_,_,_,pa,?_,hB,Xc0,Xc1,fun _=>rfl,Xc3,Xc4,Xc5,Xc6,Xc7,Xc8,Xc9,Xc10,Xc11,Xc12,Xc13,Xc14,Xc15,Xc16,Xc17,Xc18,Xc19,Xc20,Xc21,Xc22,Xc23,Xc24,Xc25,Xc26,Xcb⟩
    simp only [putAll,Act.put,qA,qB,qC]
  | 3, _, hd, hk =>
    have h2:=hk 2 (by decide +kernel)
    have c2:=Xc2.out;obtain rfl:=c2 h2;clear c2;apply wpOp_at
    case ho=>rfl
    intro K hK;simp only [putAll,Act.put,qA,qB,qC];go_simp;refine hK _ _ ⟨_,_,(.pointer (some ⟨g,0,none⟩)),(.pointer (some ⟨g,15,none⟩)),_,_,_,_,_,_,_,_,_,_,_,_,_,_,_,_,_,_,_,_,_,_,pa,?_,hB,Xc0,Xc1,Xc2,fun _=>rfl,Xc4,Xc5,Xc6,Xc7,Xc8,Xc9,Xc10,Xc11,Xc12,Xc13,Xc14,Xc15,Xc16,Xc17,Xc18,Xc19,Xc20,Xc21,Xc22,Xc23,Xc24,Xc25,Xc26,Xcb⟩
    simp only [putAll,Act.put,qA,qB,qC]
  | 4, _, hd, hk =>
    have h3:=hk 3 (by decide +kernel)
    have c3:=Xc3.out;have c19:=Xc19.out;have c26:=Xc26.out;have cb:=Xcb.out;obtain rfl:=c3 h3;have hd26:d 26=false:=by cases h:d 26 with | false=>rfl | true=>exact Bool.noConfusion (hd.symm.trans (c19 (c26 h).1).1)
    have hB9:=cb hd26;have z15:w'.cell? ⟨g,15,none⟩=some (.int .i64 c.n):=(HS.out.later hB9).ob.cell 15;have z16:w'.cell? ⟨g,16,none⟩=some (.int .i64 c.q):=(HS.out.later hB9).ob.cell 16;have z17:w'.cell? ⟨g,17,none⟩=some (.int .i64 c.r):=(HS.out.later hB9).ob.cell 17;have z18:w'.cell? ⟨g,18,none⟩=some (.int .i64 c.p):=(HS.out.later hB9).ob.cell 18;have z19:w'.cell? ⟨g,19,none⟩=some (.int .i64 c.k):=(HS.out.later hB9).ob.cell 19
    have z20:w'.cell? ⟨g,20,none⟩=some (.int .i64 c.c):=(HS.out.later hB9).ob.cell 20;clear c3 c19 c26 cb;apply wpOp_at
    case ho=>rfl
    intro K hK;simp only [putAll,Act.put,qA,qB,qC];go_simp;have c19:=Xc19.out;refine hK _ _ ⟨_,_,_,(.pointer (some ⟨g,15,none⟩)),(cfV c),_,_,_,_,_,_,_,_,_,_,_,_,_,_,e19,_,_,_,_,_,_,pa,?_,hB,Xc0,Xc1,Xc2,Xc3,fun _=>rfl,Xc5,Xc6,Xc7,Xc8,Xc9,Xc10,Xc11,Xc12,Xc13,Xc14,Xc15,Xc16,Xc17,Xc18,fun h=>Bool.noConfusion (hd.symm.trans (c19 h).1),Xc20,Xc21,Xc22,Xc23,Xc24,Xc25,Xc26,Xcb⟩
    simp only [putAll,Act.put,qA,qB,qC]
  | 5, _, hd, hk =>
    apply wpOp_at
    case ho=>rfl
    intro K hK;simp only [putAll,Act.put,qA,qB,qC];go_simp;refine hK _ _ ⟨_,_,_,_,_,(.pointer (some ⟨g,0,none⟩)),_,_,_,_,_,_,_,_,_,_,_,_,_,_,_,_,_,_,_,_,pa,?_,hB,Xc0,Xc1,Xc2,Xc3,Xc4,fun _=>rfl,Xc6,Xc7,Xc8,Xc9,Xc10,Xc11,Xc12,Xc13,Xc14,Xc15,Xc16,Xc17,Xc18,Xc19,Xc20,Xc21,Xc22,Xc23,Xc24,Xc25,Xc26,Xcb⟩
    simp only [putAll,Act.put,qA,qB,qC]
  | 6, _, hd, hk =>
    have h5:=hk 5 (by decide +kernel)
    have c5:=Xc5.out;obtain rfl:=c5 h5;clear c5;apply wpOp_at
    case ho=>rfl
    intro K hK;simp only [putAll,Act.put,qA,qB,qC];go_simp;refine hK _ _ ⟨_,_,_,_,_,(.pointer (some ⟨g,0,none⟩)),(.pointer (some ⟨g,0,none⟩)),_,_,_,_,_,_,_,_,_,_,_,_,_,_,_,_,_,_,_,pa,?_,hB,Xc0,Xc1,Xc2,Xc3,Xc4,Xc5,fun _=>rfl,Xc7,Xc8,Xc9,Xc10,Xc11,Xc12,Xc13,Xc14,Xc15,Xc16,Xc17,Xc18,Xc19,Xc20,Xc21,Xc22,Xc23,Xc24,Xc25,Xc26,Xcb⟩
    simp only [putAll,Act.put,qA,qB,qC]
  | 7, _, hd, hk =>
    have h6:=hk 6 (by decide +kernel)
    have c6:=Xc6.out;obtain rfl:=c6 h6;clear c6;apply wpOp_at
    case ho=>rfl
    intro K hK;simp only [putAll,Act.put,qA,qB,qC];go_simp;refine hK _ _ ⟨_,_,_,_,_,_,(.pointer (some ⟨g,0,none⟩)),(.pointer (some ⟨g,21,none⟩)),_,_,_,_,_,_,_,_,_,_,_,_,_,_,_,_,_,_,pa,?_,hB,Xc0,Xc1,Xc2,Xc3,Xc4,Xc5,Xc6,fun _=>rfl,Xc8,Xc9,Xc10,Xc11,Xc12,Xc13,Xc14,Xc15,Xc16,Xc17,Xc18,Xc19,Xc20,Xc21,Xc22,Xc23,Xc24,Xc25,Xc26,Xcb⟩
    simp only [putAll,Act.put,qA,qB,qC]
  | 8, _, hd, hk =>
    have h7:=hk 7 (by decide +kernel)
    have c7:=Xc7.out;have c19:=Xc19.out;have c26:=Xc26.out;have cb:=Xcb.out;obtain rfl:=c7 h7;have hd26:d 26=false:=by cases h:d 26 with | false=>rfl | true=>exact Bool.noConfusion (hd.symm.trans (c19 (c26 h).1).2.1)
    have hB9:=cb hd26;have z21:w'.cell? ⟨g,21,none⟩=some (.int .i64 who):=(HS.out.later hB9).ob.cell 21;clear c7 c19 c26 cb;apply wpOp_at
    case ho=>rfl
    intro K hK;simp only [putAll,Act.put,qA,qB,qC];go_simp;have c19:=Xc19.out;refine hK _ _ ⟨_,_,_,_,_,_,_,(.pointer (some ⟨g,21,none⟩)),(.int .i64 who),_,_,_,_,_,_,_,_,_,_,e19,_,_,_,_,_,_,pa,?_,hB,Xc0,Xc1,Xc2,Xc3,Xc4,Xc5,Xc6,Xc7,fun _=>rfl,Xc9,Xc10,Xc11,Xc12,Xc13,Xc14,Xc15,Xc16,Xc17,Xc18,fun h=>Bool.noConfusion (hd.symm.trans (c19 h).2.1),Xc20,Xc21,Xc22,Xc23,Xc24,Xc25,Xc26,Xcb⟩
    simp only [putAll,Act.put,qA,qB,qC]
  | 9, _, hd, hk =>
    apply wpOp_at
    case ho=>rfl
    intro K hK;simp only [putAll,Act.put,qA,qB,qC];go_simp;refine hK _ _ ⟨_,_,_,_,_,_,_,_,_,(.pointer (some ⟨g,0,none⟩)),_,_,_,_,_,_,_,_,_,_,_,_,_,_,_,_,pa,?_,hB,Xc0,Xc1,Xc2,Xc3,Xc4,Xc5,Xc6,Xc7,Xc8,fun _=>rfl,Xc10,Xc11,Xc12,Xc13,Xc14,Xc15,Xc16,Xc17,Xc18,Xc19,Xc20,Xc21,Xc22,Xc23,Xc24,Xc25,Xc26,Xcb⟩
    simp only [putAll,Act.put,qA,qB,qC]
  | 10, _, hd, hk =>
    have h9:=hk 9 (by decide +kernel)
    have c9:=Xc9.out;obtain rfl:=c9 h9;clear c9;apply wpOp_at
    case ho=>rfl
    intro K hK;simp only [putAll,Act.put,qA,qB,qC];go_simp;refine hK _ _ ⟨_,_,_,_,_,_,_,_,_,(.pointer (some ⟨g,0,none⟩)),(.pointer (some ⟨g,0,none⟩)),_,_,_,_,_,_,_,_,_,_,_,_,_,_,_,pa,?_,hB,Xc0,Xc1,Xc2,Xc3,Xc4,Xc5,Xc6,Xc7,Xc8,Xc9,fun _=>rfl,Xc11,Xc12,Xc13,Xc14,Xc15,Xc16,Xc17,Xc18,Xc19,Xc20,Xc21,Xc22,Xc23,Xc24,Xc25,Xc26,Xcb⟩
    simp only [putAll,Act.put,qA,qB,qC]
  | 11, _, hd, hk =>
    have h10:=hk 10 (by decide +kernel)
    have c10:=Xc10.out;obtain rfl:=c10 h10;clear c10;apply wpOp_at
    case ho=>rfl
    intro K hK;simp only [putAll,Act.put,qA,qB,qC];go_simp;refine hK _ _ ⟨_,_,_,_,_,_,_,_,_,_,(.pointer (some ⟨g,0,none⟩)),(.pointer (some ⟨g,0,none⟩)),_,_,_,_,_,_,_,_,_,_,_,_,_,_,pa,?_,hB,Xc0,Xc1,Xc2,Xc3,Xc4,Xc5,Xc6,Xc7,Xc8,Xc9,Xc10,fun _=>rfl,Xc12,Xc13,Xc14,Xc15,Xc16,Xc17,Xc18,Xc19,Xc20,Xc21,Xc22,Xc23,Xc24,Xc25,Xc26,Xcb⟩
    simp only [putAll,Act.put,qA,qB,qC]
  | 12, _, hd, hk =>
    have h11:=hk 11 (by decide +kernel)
    have c11:=Xc11.out;obtain rfl:=c11 h11;clear c11;apply wpOp_at
    case ho=>rfl
    intro K hK;simp only [putAll,Act.put,qA,qB,qC];go_simp;refine hK _ _ ⟨_,_,_,_,_,_,_,_,_,_,_,(.pointer (some ⟨g,0,none⟩)),(.pointer (some ⟨g,6,none⟩)),_,_,_,_,_,_,_,_,_,_,_,_,_,pa,?_,hB,Xc0,Xc1,Xc2,Xc3,Xc4,Xc5,Xc6,Xc7,Xc8,Xc9,Xc10,Xc11,fun _=>rfl,Xc13,Xc14,Xc15,Xc16,Xc17,Xc18,Xc19,Xc20,Xc21,Xc22,Xc23,Xc24,Xc25,Xc26,Xcb⟩
    simp only [putAll,Act.put,qA,qB,qC]
  | 13, _, hd, hk =>
    have h12:=hk 12 (by decide +kernel)
    have c12:=Xc12.out;have c19:=Xc19.out;have c26:=Xc26.out;have cb:=Xcb.out;obtain rfl:=c12 h12;have hd26:d 26=false:=by cases h:d 26 with | false=>rfl | true=>exact Bool.noConfusion (hd.symm.trans (c19 (c26 h).1).2.2.1)
    have hB9:=cb hd26;have z6:w'.cell? ⟨g,6,none⟩=some (.int .i64 x.bk.au.try_):=(HS.out.later hB9).ob.cell 6;have z7:w'.cell? ⟨g,7,none⟩=some (.int .i64 x.bk.au.ph):=(HS.out.later hB9).ob.cell 7;have z8:w'.cell? ⟨g,8,none⟩=some (.slice p.bl.al.a1 p.bl.al.m1 p.bl.al.c1):=(HS.out.later hB9).ob.cell 8;have z9:w'.cell? ⟨g,9,none⟩=some (.slice p.bl.al.a2 p.bl.al.m2 p.bl.al.c2):=(HS.out.later hB9).ob.cell 9
    have z10:w'.cell? ⟨g,10,none⟩=some (.slice p.bl.al.a3 p.bl.al.m3 p.bl.al.c3):=(HS.out.later hB9).ob.cell 10;have z11:w'.cell? ⟨g,11,none⟩=some (.bool x.bk.au.moved):=(HS.out.later hB9).ob.cell 11;clear c12 c19 c26 cb;apply wpOp_at
    case ho=>rfl
    intro K hK;simp only [putAll,Act.put,qA,qB,qC];go_simp;have c19:=Xc19.out;refine hK _ _ ⟨_,_,_,_,_,_,_,_,_,_,_,_,(.pointer (some ⟨g,6,none⟩)),(auAt x.bk.au p.bl.al),_,_,_,_,_,e19,_,_,_,_,_,_,pa,?_,hB,Xc0,Xc1,Xc2,Xc3,Xc4,Xc5,Xc6,Xc7,Xc8,Xc9,Xc10,Xc11,Xc12,fun _=>rfl,Xc14,Xc15,Xc16,Xc17,Xc18,fun h=>Bool.noConfusion (hd.symm.trans (c19 h).2.2.1),Xc20,Xc21,Xc22,Xc23,Xc24,Xc25,Xc26,Xcb⟩
    simp only [putAll,Act.put,qA,qB,qC]
  | 14, _, hd, hk =>
    apply wpOp_at
    case ho=>rfl
    intro K hK;simp only [putAll,Act.put,qA,qB,qC];go_simp;refine hK _ _ ⟨_,_,_,_,_,_,_,_,_,_,_,_,_,_,(.pointer (some ⟨g,0,none⟩)),_,_,_,_,_,_,_,_,_,_,_,pa,?_,hB,Xc0,Xc1,Xc2,Xc3,Xc4,Xc5,Xc6,Xc7,Xc8,Xc9,Xc10,Xc11,Xc12,Xc13,fun _=>rfl,Xc15,Xc16,Xc17,Xc18,Xc19,Xc20,Xc21,Xc22,Xc23,Xc24,Xc25,Xc26,Xcb⟩
    simp only [putAll,Act.put,qA,qB,qC]
  | 15, _, hd, hk =>
    have h14:=hk 14 (by decide +kernel)
    have c14:=Xc14.out;obtain rfl:=c14 h14;clear c14;apply wpOp_at
    case ho=>rfl
    intro K hK;simp only [putAll,Act.put,qA,qB,qC];go_simp;refine hK _ _ ⟨_,_,_,_,_,_,_,_,_,_,_,_,_,_,(.pointer (some ⟨g,0,none⟩)),(.pointer (some ⟨g,0,none⟩)),_,_,_,_,_,_,_,_,_,_,pa,?_,hB,Xc0,Xc1,Xc2,Xc3,Xc4,Xc5,Xc6,Xc7,Xc8,Xc9,Xc10,Xc11,Xc12,Xc13,Xc14,fun _=>rfl,Xc16,Xc17,Xc18,Xc19,Xc20,Xc21,Xc22,Xc23,Xc24,Xc25,Xc26,Xcb⟩
    simp only [putAll,Act.put,qA,qB,qC]
  | 16, _, hd, hk =>
    have h15:=hk 15 (by decide +kernel)
    have c15:=Xc15.out;obtain rfl:=c15 h15;clear c15;apply wpOp_at
    case ho=>rfl
    intro K hK;simp only [putAll,Act.put,qA,qB,qC];go_simp;refine hK _ _ ⟨_,_,_,_,_,_,_,_,_,_,_,_,_,_,_,(.pointer (some ⟨g,0,none⟩)),(.pointer (some ⟨g,0,none⟩)),_,_,_,_,_,_,_,_,_,pa,?_,hB,Xc0,Xc1,Xc2,Xc3,Xc4,Xc5,Xc6,Xc7,Xc8,Xc9,Xc10,Xc11,Xc12,Xc13,Xc14,Xc15,fun _=>rfl,Xc17,Xc18,Xc19,Xc20,Xc21,Xc22,Xc23,Xc24,Xc25,Xc26,Xcb⟩
    simp only [putAll,Act.put,qA,qB,qC]
  | 17, _, hd, hk =>
    have h16:=hk 16 (by decide +kernel)
    have c16:=Xc16.out;obtain rfl:=c16 h16;clear c16;apply wpOp_at
    case ho=>rfl
    intro K hK;simp only [putAll,Act.put,qA,qB,qC];go_simp;refine hK _ _ ⟨_,_,_,_,_,_,_,_,_,_,_,_,_,_,_,_,(.pointer (some ⟨g,0,none⟩)),(.pointer (some ⟨g,1,none⟩)),_,_,_,_,_,_,_,_,pa,?_,hB,Xc0,Xc1,Xc2,Xc3,Xc4,Xc5,Xc6,Xc7,Xc8,Xc9,Xc10,Xc11,Xc12,Xc13,Xc14,Xc15,Xc16,fun _=>rfl,Xc18,Xc19,Xc20,Xc21,Xc22,Xc23,Xc24,Xc25,Xc26,Xcb⟩
    simp only [putAll,Act.put,qA,qB,qC]
  | 18, _, hd, hk =>
    have h17:=hk 17 (by decide +kernel)
    have c17:=Xc17.out;have c19:=Xc19.out;have c26:=Xc26.out;have cb:=Xcb.out;obtain rfl:=c17 h17;have hd26:d 26=false:=by cases h:d 26 with | false=>rfl | true=>exact Bool.noConfusion (hd.symm.trans (c19 (c26 h).1).2.2.2.1)
    have hB9:=cb hd26;have z1:w'.cell? ⟨g,1,none⟩=some (.slice p.bl.a1 p.bl.m1 p.bl.c1):=(HS.out.later hB9).ob.cell 1;clear c17 c19 c26 cb;apply wpOp_at
    case ho=>rfl
    intro K hK;simp only [putAll,Act.put,qA,qB,qC];go_simp;have c19:=Xc19.out;refine hK _ _ ⟨_,_,_,_,_,_,_,_,_,_,_,_,_,_,_,_,_,(.pointer (some ⟨g,1,none⟩)),(.slice p.bl.a1 p.bl.m1 p.bl.c1),e19,_,_,_,_,_,_,pa,?_,hB,Xc0,Xc1,Xc2,Xc3,Xc4,Xc5,Xc6,Xc7,Xc8,Xc9,Xc10,Xc11,Xc12,Xc13,Xc14,Xc15,Xc16,Xc17,fun _=>rfl,fun h=>Bool.noConfusion (hd.symm.trans (c19 h).2.2.2.1),Xc20,Xc21,Xc22,Xc23,Xc24,Xc25,Xc26,Xcb⟩
    simp only [putAll,Act.put,qA,qB,qC]
  | 19, _, hd, hk =>
    have h4:=hk 4 (by decide +kernel)
    have h8:=hk 8 (by decide +kernel)
    have h13:=hk 13 (by decide +kernel)
    have h18:=hk 18 (by decide +kernel)
    have c4:=Xc4.out;have c8:=Xc8.out;have c13:=Xc13.out;have c18:=Xc18.out;have c26:=Xc26.out;have cb:=Xcb.out;obtain rfl:=c4 h4;obtain rfl:=c8 h8;obtain rfl:=c13 h13;obtain rfl:=c18 h18;have hd26:d 26=false:=by cases h:d 26 with | false=>rfl | true=>exact Bool.noConfusion (hd.symm.trans (c26 h).1)
    have hB9:=cb hd26;clear c4 c8 c13 c18 c26 cb;apply wpOp_at
    case ho=>rfl
    intro K hK;simp only [putAll,Act.put,qA,qB,qC];go_simp;have c20:=Xc20.out;have c21:=Xc21.out;have c26:=Xc26.out;have cb:=Xcb.out;refine (HN.out _ hB9).mono ?_;rintro e w'' ⟨q,rfl,hb,hs⟩;refine hK _ _ ⟨_,_,_,_,(cfV c),_,_,_,(.int .i64 who),_,_,_,_,(auAt x.bk.au p.bl.al),_,_,_,_,(.slice p.bl.a1 p.bl.m1 p.bl.c1),.tuple #[auAt y q,.bool gz],e20,e21,_,_,_,_,q,?_,hB.trans (hb.mono (Nat.le_trans hn0 hB9.size)),Xc0,Xc1,Xc2,Xc3,Xc4,Xc5,Xc6,Xc7,Xc8,Xc9,Xc10,Xc11,Xc12,Xc13,Xc14,Xc15,Xc16,Xc17,Xc18,fun _=>⟨h4,h8,h13,h18,rfl,fun _ V hV=>hs V (hV.wide fun b (hb2:b < W.heap.size)=>Nat.lt_of_lt_of_le hb2 hB9.size)⟩,fun h=>Bool.noConfusion (hd.symm.trans (c20 h).1),fun h=>Bool.noConfusion (hd.symm.trans (c21 h).1),Xc22,Xc23,Xc24,Xc25,fun h=>Bool.noConfusion (hd.symm.trans (c26 h).1),fun h=>held_next (cb h) hb⟩
    simp only [putAll,Act.put,qA,qB,qC]
  | 20, _, hd, hk =>
    have h19:=hk 19 (by decide +kernel)
    have c19:=Xc19.out;obtain ⟨-,-,-,-,rfl,-⟩:=c19 h19;clear c19;apply wpOp_at
    case ho=>rfl
    intro K hK;simp only [putAll,Act.put,qA,qB,qC];go_simp;refine hK _ _ ⟨_,_,_,_,_,_,_,_,_,_,_,_,_,_,_,_,_,_,_,(.tuple #[auAt y pa,.bool gz]),(.tuple #[auAt y pa,.bool gz]),_,_,_,_,_,pa,?_,hB,Xc0,Xc1,Xc2,Xc3,Xc4,Xc5,Xc6,Xc7,Xc8,Xc9,Xc10,Xc11,Xc12,Xc13,Xc14,Xc15,Xc16,Xc17,Xc18,Xc19,fun _=>⟨h19,rfl⟩,Xc21,Xc22,Xc23,Xc24,Xc25,Xc26,Xcb⟩
    simp only [putAll,Act.put,qA,qB,qC]
  | 21, _, hd, hk =>
    have h20:=hk 20 (by decide +kernel)
    have c20:=Xc20.out;obtain ⟨k19,rfl⟩:=c20 h20;clear c20;apply wpOp_at
    case ho=>rfl
    intro K hK;simp only [putAll,Act.put,qA,qB,qC];go_simp;refine hK _ _ ⟨_,_,_,_,_,_,_,_,_,_,_,_,_,_,_,_,_,_,_,_,(.tuple #[auAt y pa,.bool gz]),(auAt y pa),_,_,_,_,pa,?_,hB,Xc0,Xc1,Xc2,Xc3,Xc4,Xc5,Xc6,Xc7,Xc8,Xc9,Xc10,Xc11,Xc12,Xc13,Xc14,Xc15,Xc16,Xc17,Xc18,Xc19,Xc20,fun _=>⟨k19,rfl⟩,Xc22,Xc23,Xc24,Xc25,Xc26,Xcb⟩
    simp only [putAll,Act.put,qA,qB,qC]
  | 22, _, hd, hk =>
    have h20:=hk 20 (by decide +kernel)
    have c20:=Xc20.out;obtain ⟨k19,rfl⟩:=c20 h20;clear c20;apply wpOp_at
    case ho=>rfl
    intro K hK;simp only [putAll,Act.put,qA,qB,qC];go_simp;refine hK _ _ ⟨_,_,_,_,_,_,_,_,_,_,_,_,_,_,_,_,_,_,_,_,(.tuple #[auAt y pa,.bool gz]),_,(.bool gz),_,_,_,pa,?_,hB,Xc0,Xc1,Xc2,Xc3,Xc4,Xc5,Xc6,Xc7,Xc8,Xc9,Xc10,Xc11,Xc12,Xc13,Xc14,Xc15,Xc16,Xc17,Xc18,Xc19,Xc20,Xc21,fun _=>rfl,Xc23,Xc24,Xc25,Xc26,Xcb⟩
    simp only [putAll,Act.put,qA,qB,qC]
  | 23, _, hd, hk =>
    have h0:=hk 0 (by decide +kernel)
    have c0:=Xc0.out;obtain rfl:=c0 h0;clear c0;apply wpOp_at
    case ho=>rfl
    intro K hK;simp only [putAll,Act.put,qA,qB,qC];go_simp;refine hK _ _ ⟨(.pointer (some ⟨g,0,none⟩)),_,_,_,_,_,_,_,_,_,_,_,_,_,_,_,_,_,_,_,_,_,_,(.pointer (some ⟨g,0,none⟩)),_,_,pa,?_,hB,Xc0,Xc1,Xc2,Xc3,Xc4,Xc5,Xc6,Xc7,Xc8,Xc9,Xc10,Xc11,Xc12,Xc13,Xc14,Xc15,Xc16,Xc17,Xc18,Xc19,Xc20,Xc21,Xc22,fun _=>rfl,Xc24,Xc25,Xc26,Xcb⟩
    simp only [putAll,Act.put,qA,qB,qC]
  | 24, _, hd, hk =>
    have h23:=hk 23 (by decide +kernel)
    have c23:=Xc23.out;obtain rfl:=c23 h23;clear c23;apply wpOp_at
    case ho=>rfl
    intro K hK;simp only [putAll,Act.put,qA,qB,qC];go_simp;refine hK _ _ ⟨_,_,_,_,_,_,_,_,_,_,_,_,_,_,_,_,_,_,_,_,_,_,_,(.pointer (some ⟨g,0,none⟩)),(.pointer (some ⟨g,0,none⟩)),_,pa,?_,hB,Xc0,Xc1,Xc2,Xc3,Xc4,Xc5,Xc6,Xc7,Xc8,Xc9,Xc10,Xc11,Xc12,Xc13,Xc14,Xc15,Xc16,Xc17,Xc18,Xc19,Xc20,Xc21,Xc22,Xc23,fun _=>rfl,Xc25,Xc26,Xcb⟩
    simp only [putAll,Act.put,qA,qB,qC]
  | 25, _, hd, hk =>
    have h24:=hk 24 (by decide +kernel)
    have c24:=Xc24.out;obtain rfl:=c24 h24;clear c24;apply wpOp_at
    case ho=>rfl
    intro K hK;simp only [putAll,Act.put,qA,qB,qC];go_simp;refine hK _ _ ⟨_,_,_,_,_,_,_,_,_,_,_,_,_,_,_,_,_,_,_,_,_,_,_,_,(.pointer (some ⟨g,0,none⟩)),(.pointer (some ⟨g,6,none⟩)),pa,?_,hB,Xc0,Xc1,Xc2,Xc3,Xc4,Xc5,Xc6,Xc7,Xc8,Xc9,Xc10,Xc11,Xc12,Xc13,Xc14,Xc15,Xc16,Xc17,Xc18,Xc19,Xc20,Xc21,Xc22,Xc23,Xc24,fun _=>rfl,Xc26,Xcb⟩
    simp only [putAll,Act.put,qA,qB,qC]
  | 26, _, hd, hk =>
    have h21:=hk 21 (by decide +kernel)
    have h25:=hk 25 (by decide +kernel)
    have c19:=Xc19.out;have c21:=Xc21.out;have c25:=Xc25.out;have cb:=Xcb.out;obtain rfl:=c25 h25;obtain ⟨k19,rfl⟩:=c21 h21;obtain ⟨-,-,-,-,-,hs⟩:=c19 k19;have hB9:=cb hd;have hs9:=HS.out.stay (hs hd);have hS9:=HS.out.later hB9;have hM:=hS9.au hs9;have z6:=hS9.ob.cell 6;have z7:=hS9.ob.cell 7;have z8:=hS9.ob.cell 8;have z9:=hS9.ob.cell 9;have z10:=hS9.ob.cell 10;have z11:=hS9.ob.cell 11;have y6:=hS9.ob.free 6
    have y7:=hS9.ob.free 7;have y8:=hS9.ob.free 8;have y9:=hS9.ob.free 9;have y10:=hS9.ob.free 10;have y11:=hS9.ob.free 11;clear hs;clear c19 c21 c25 cb;apply wpOp_at
    case ho=>rfl
    intro K hK;simp only [putAll,Act.put,qA,qB,qC];go_simp;have c19:=Xc19.out;refine hK _ _ ⟨_,_,_,_,_,_,_,_,_,_,_,_,_,_,_,_,_,_,_,e19,_,(auAt y pa),_,_,_,(.pointer (some ⟨g,6,none⟩)),pa,?_,st6_below hB HS.out.le,Xc0,Xc1,Xc2,Xc3,Xc4,Xc5,Xc6,Xc7,Xc8,Xc9,Xc10,Xc11,Xc12,Xc13,Xc14,Xc15,Xc16,Xc17,Xc18,fun h=>⟨(c19 h).1,(c19 h).2.1,(c19 h).2.2.1,(c19 h).2.2.2.1,(c19 h).2.2.2.2.1,fun h=>Bool.noConfusion (show true=false from h)⟩,Xc20,Xc21,Xc22,Xc23,Xc24,Xc25,fun _=>⟨k19,_,hM.1,(Kept.of hB9).trans hM.2⟩,fun h=>Bool.noConfusion (show true=false from h)⟩
    simp only [putAll,Act.put,qA,qB,qC]
  | k + 27,hi,_,_=>exact absurd hi (by simp)
 case ends =>
  intro d a' w' hJ hall;obtain ⟨e0,e1,e2,e3,e4,e5,e6,e7,e8,e9,e10,e11,e12,e13,e14,e15,e16,e17,e18,e19,e20,e21,e22,e23,e24,e25,pa,rfl,hC⟩:=hJ;obtain ⟨hB,hC⟩:=hC;obtain ⟨c0,hC⟩:=hC;obtain ⟨c1,hC⟩:=hC;obtain ⟨c2,hC⟩:=hC;obtain ⟨c3,hC⟩:=hC;obtain ⟨c4,hC⟩:=hC;obtain ⟨c5,hC⟩:=hC;obtain ⟨c6,hC⟩:=hC;obtain ⟨c7,hC⟩:=hC;obtain ⟨c8,hC⟩:=hC;obtain ⟨c9,hC⟩:=hC;obtain ⟨c10,hC⟩:=hC;obtain ⟨c11,hC⟩:=hC;obtain ⟨c12,hC⟩:=hC
  obtain ⟨c13,hC⟩:=hC;obtain ⟨c14,hC⟩:=hC;obtain ⟨c15,hC⟩:=hC;obtain ⟨c16,hC⟩:=hC;obtain ⟨c17,hC⟩:=hC;obtain ⟨c18,hC⟩:=hC;obtain ⟨c19,hC⟩:=hC;obtain ⟨c20,hC⟩:=hC;obtain ⟨c21,hC⟩:=hC;obtain ⟨c22,hC⟩:=hC;obtain ⟨c23,hC⟩:=hC;obtain ⟨c24,hC⟩:=hC;obtain ⟨c25,hC⟩:=hC;obtain ⟨c26,hC⟩:=hC;have cb:=hC;clear hC;have HT:=qH (c26 (hall 26 (by decide +kernel))).2
  obtain rfl:=c0 (hall 0 (by decide +kernel))
  obtain rfl:=c1 (hall 1 (by decide +kernel))
  obtain rfl:=c2 (hall 2 (by decide +kernel))
  obtain rfl:=c3 (hall 3 (by decide +kernel))
  obtain rfl:=c4 (hall 4 (by decide +kernel))
  obtain rfl:=c5 (hall 5 (by decide +kernel))
  obtain rfl:=c6 (hall 6 (by decide +kernel))
  obtain rfl:=c7 (hall 7 (by decide +kernel))
  obtain rfl:=c8 (hall 8 (by decide +kernel))
  obtain rfl:=c9 (hall 9 (by decide +kernel))
  obtain rfl:=c10 (hall 10 (by decide +kernel))
  obtain rfl:=c11 (hall 11 (by decide +kernel))
  obtain rfl:=c12 (hall 12 (by decide +kernel))
  obtain rfl:=c13 (hall 13 (by decide +kernel))
  obtain rfl:=c14 (hall 14 (by decide +kernel))
  obtain rfl:=c15 (hall 15 (by decide +kernel))
  obtain rfl:=c16 (hall 16 (by decide +kernel))
  obtain rfl:=c17 (hall 17 (by decide +kernel))
  obtain rfl:=c18 (hall 18 (by decide +kernel))
  obtain rfl:=c23 (hall 23 (by decide +kernel))
  obtain rfl:=c24 (hall 24 (by decide +kernel))
  obtain rfl:=c25 (hall 25 (by decide +kernel))
  obtain ⟨_,rfl⟩:=c20 (hall 20 (by decide +kernel))
  obtain ⟨_,rfl⟩:=c21 (hall 21 (by decide +kernel))
  obtain rfl:=c22 (hall 22 (by decide +kernel))
  obtain ⟨_,_,_,_,rfl,_⟩:=c19 (hall 19 (by decide +kernel))
  clear c19 c26 cb hall hB;simp only [putAll,Act.put,qA,qB,qC];obtain ⟨p1,hS1,hK1⟩:=HT.out;clear HT;have hxy:bkN x (auK x.bk y)=x1:=by rw [← Hx1.out,← auk_next HI.out,Hn.out]
  rw [hxy] at hS1;have HS1:=qH hS1;have HK1:=qH hK1;clear hS1 hK1 hxy;have hlt1:=HS1.out.lt;have KP2:Hid (∀ u',Below w'.heap.size w' u'→(Below w'.heap.size w' u'∧u'.cell? ⟨g,15,none⟩=some (.int .i64 c.n)∧u'.cell? ⟨g,16,none⟩=some (.int .i64 c.q)∧u'.cell? ⟨g,17,none⟩=some (.int .i64 c.r)∧u'.cell? ⟨g,18,none⟩=some (.int .i64 c.p)∧u'.cell? ⟨g,19,none⟩=some (.int .i64 c.k)∧u'.cell? ⟨g,20,none⟩=some (.int .i64 c.c)∧u'.cell? ⟨g,21,none⟩=some (.int .i64 who)∧u'.cell? ⟨g,6,none⟩=some (.int .i64 x1.bk.au.try_)∧u'.cell? ⟨g,7,none⟩=some (.int .i64 x1.bk.au.ph)∧u'.cell? ⟨g,8,none⟩=some (.slice p1.bl.al.a1 p1.bl.al.m1 p1.bl.al.c1)∧u'.cell? ⟨g,9,none⟩=some (.slice p1.bl.al.a2 p1.bl.al.m2 p1.bl.al.c2)∧u'.cell? ⟨g,10,none⟩=some (.slice p1.bl.al.a3 p1.bl.al.m3 p1.bl.al.c3)∧u'.cell? ⟨g,11,none⟩=some (.bool x1.bk.au.moved)∧u'.cell? ⟨g,1,none⟩=some (.slice p1.bl.a1 p1.bl.m1 p1.bl.c1))):=fun u' hb=>⟨hb,(HS1.out.later hb).ob.cell 15,(HS1.out.later hb).ob.cell 16,(HS1.out.later hb).ob.cell 17,(HS1.out.later hb).ob.cell 18,(HS1.out.later hb).ob.cell 19,(HS1.out.later hb).ob.cell 20,(HS1.out.later hb).ob.cell 21,(HS1.out.later hb).ob.cell 6,(HS1.out.later hb).ob.cell 7,(HS1.out.later hb).ob.cell 8,(HS1.out.later hb).ob.cell 9,(HS1.out.later hb).ob.cell 10,(HS1.out.later hb).ob.cell 11,(HS1.out.later hb).ob.cell 1⟩
  have z15:w'.cell? ⟨g,15,none⟩=some (.int .i64 c.n):=HS1.out.ob.cell 15;have z16:w'.cell? ⟨g,16,none⟩=some (.int .i64 c.q):=HS1.out.ob.cell 16;have z17:w'.cell? ⟨g,17,none⟩=some (.int .i64 c.r):=HS1.out.ob.cell 17;have z18:w'.cell? ⟨g,18,none⟩=some (.int .i64 c.p):=HS1.out.ob.cell 18;have z19:w'.cell? ⟨g,19,none⟩=some (.int .i64 c.k):=HS1.out.ob.cell 19;have z20:w'.cell? ⟨g,20,none⟩=some (.int .i64 c.c):=HS1.out.ob.cell 20
  have z21:w'.cell? ⟨g,21,none⟩=some (.int .i64 who):=HS1.out.ob.cell 21;have z6:w'.cell? ⟨g,6,none⟩=some (.int .i64 x1.bk.au.try_):=HS1.out.ob.cell 6;have z7:w'.cell? ⟨g,7,none⟩=some (.int .i64 x1.bk.au.ph):=HS1.out.ob.cell 7;have z8:w'.cell? ⟨g,8,none⟩=some (.slice p1.bl.al.a1 p1.bl.al.m1 p1.bl.al.c1):=HS1.out.ob.cell 8;have z9:w'.cell? ⟨g,9,none⟩=some (.slice p1.bl.al.a2 p1.bl.al.m2 p1.bl.al.c2):=HS1.out.ob.cell 9
  have z10:w'.cell? ⟨g,10,none⟩=some (.slice p1.bl.al.a3 p1.bl.al.m3 p1.bl.al.c3):=HS1.out.ob.cell 10;have z11:w'.cell? ⟨g,11,none⟩=some (.bool x1.bk.au.moved):=HS1.out.ob.cell 11;have z1:w'.cell? ⟨g,1,none⟩=some (.slice p1.bl.a1 p1.bl.m1 p1.bl.c1):=HS1.out.ob.cell 1
  have O2:Hid (∀ u',Below w'.heap.size w' u'→Calls Tryz.prog 143 #[cfV c,.int .i64 who,auAt x1.bk.au p1.bl.al,.slice p1.bl.a1 p1.bl.m1 p1.bl.c1] u' (fun e w2=>e=.returned (.tuple #[.int .i64 most,.bool sure,.bool ended])∧Below u'.heap.size u' w2)):=fun u' hb=>by
   have h1:=aEnds_calls c who x1.bk.au p1.bl.al p1.bl.a1 p1.bl.m1 p1.bl.c1 x1.bk.rows HS1.out.inn.1.1 u' (HS1.out.inn.2.2.2.1.later hb) (HS1.out.inn.1.2.later hb);rw [He.out] at h1
   exact h1
  go_wp2_with fail
  go_region_held3 (fun u'=>Below w'.heap.size w' u'∧u'.cell? ⟨g,15,none⟩=some (.int .i64 c.n)∧u'.cell? ⟨g,16,none⟩=some (.int .i64 c.q)∧u'.cell? ⟨g,17,none⟩=some (.int .i64 c.r)∧u'.cell? ⟨g,18,none⟩=some (.int .i64 c.p)∧u'.cell? ⟨g,19,none⟩=some (.int .i64 c.k)∧u'.cell? ⟨g,20,none⟩=some (.int .i64 c.c)∧u'.cell? ⟨g,21,none⟩=some (.int .i64 who)∧u'.cell? ⟨g,6,none⟩=some (.int .i64 x1.bk.au.try_)∧u'.cell? ⟨g,7,none⟩=some (.int .i64 x1.bk.au.ph)∧u'.cell? ⟨g,8,none⟩=some (.slice p1.bl.al.a1 p1.bl.al.m1 p1.bl.al.c1)∧u'.cell? ⟨g,9,none⟩=some (.slice p1.bl.al.a2 p1.bl.al.m2 p1.bl.al.c2)∧u'.cell? ⟨g,10,none⟩=some (.slice p1.bl.al.a3 p1.bl.al.m3 p1.bl.al.c3)∧u'.cell? ⟨g,11,none⟩=some (.bool x1.bk.au.moved)∧u'.cell? ⟨g,1,none⟩=some (.slice p1.bl.a1 p1.bl.m1 p1.bl.c1))
   (first | exact KP2.out _ (Below.refl _ _).drew | (refine KP2.out _ ?_; assumption))
   (first | (go_at_call 143; have hcur:=(‹Below w'.heap.size w' _∧_∧_›).1; (with_reducible refine (O2.out _ hcur).mono ?_); rintro ee wn ⟨rfl,hb⟩; have hS:=held_next hcur hb; clear hb))
  all_goals (have hb2:=(‹Below w'.heap.size w' _∧_∧_›).1)
  all_goals (have HS2:=qH (HS1.out.later hb2); have HK2:=qH (HK1.out.next hb2))
  all_goals (
   cases ended with
   | false =>
     obtain rfl:lk=false:=Hlk.out.symm.trans (decide_eq_false fun h=>by have:=h.2.1; rw [HE1.out] at this; cases this)
     obtain rfl:kr=x1.bk:=Hkr.out.symm.trans (by rw [HLK.out]; exact (if_neg Bool.false_ne_true).trans (by unfold endsK; rw [HE0.out]; exact if_neg Bool.false_ne_true))
     go_wp2_with fail
     go_ret
     exact ⟨by rfl,_,HS2.out,HK2.out⟩
   | true =>
     have hne:x1.bk.line ≠ []:=fun h=>by have:=ends_none HI1.out h x1.bk.rows; rw [HE1.out] at this; cases this
     have Hne:=qH hne;have hend:endsK c who x1.bk=auK x1.bk au0:=by unfold endsK; rw [HE0.out]; exact if_pos rfl
     have Hend:=qH hend;have hA:=HS2.out.au0;have HA:=qH (And.intro hA.1 (HK2.out.trans hA.2));clear hA hne hend;have z6:=HS2.out.ob.cell 6;have y6:=HS2.out.ob.free 6;have z7:=HS2.out.ob.cell 7;have y7:=HS2.out.ob.free 7;have z8:=HS2.out.ob.cell 8;have y8:=HS2.out.ob.free 8;have z9:=HS2.out.ob.cell 9;have y9:=HS2.out.ob.free 9;have z10:=HS2.out.ob.cell 10;have y10:=HS2.out.ob.free 10;have z11:=HS2.out.ob.cell 11
     have y11:=HS2.out.ob.free 11
     cases sure with
     | false =>
       obtain rfl:lk=false:=Hlk.out.symm.trans (decide_eq_false fun h=>by have:=h.2.2.1; rw [He.out] at this; cases this)
       obtain rfl:kr=auK x1.bk au0:=Hkr.out.symm.trans (by rw [HLK.out]; exact (if_neg Bool.false_ne_true).trans Hend.out)
       go_wp2_with fail
       go_ret
       exact ⟨by rfl,_,HA.out⟩
     | true =>
       obtain ⟨⟨ht,ha,hq⟩,Hh⟩:∃ z,Hid (headQ x1.bk=z):=⟨_,rfl⟩;have O3:=qH (head18_calls HA.out.1);rw [show headQ (bkN x1 (auK x1.bk au0)).bk=⟨ht,ha,hq⟩ from Hh.out] at O3
       have hfd:∀ w:World,(Instr.field 59 (.agg #[.int .i64 ht,.int .i64 ha,.int .i64 hq]) 1).run Tryz.prog w=.ok (.int .i64 hq) w:=fun _=>rfl
       go_wp2_with fail
       refine O3.out.mono ?_;rintro e w3 ⟨rfl,hb3⟩;have HS3:=qH (HA.out.1.later hb3);have HK3:=qH (HA.out.2.next hb3);clear hb3 O3
       by_cases hm:hq≤most
       · obtain rfl:lk=false:=Hlk.out.symm.trans (decide_eq_false fun h=>by have:=h.2.2.2; rw [He.out,Hh.out] at this; simp only at this; omega)
         obtain rfl:kr=auK x1.bk au0:=Hkr.out.symm.trans (by rw [HLK.out]; exact (if_neg Bool.false_ne_true).trans Hend.out)
         go_wp2_with fail
         go_ret
         exact ⟨by rfl,_,HS3.out,HK3.out⟩
       · obtain rfl:lk=true:=Hlk.out.symm.trans (decide_eq_true ⟨Hne.out,by rw [He.out],by rw [He.out],by rw [He.out,Hh.out]; show most < hq; omega⟩)
         obtain rfl:kr=leftK x1.bk 7:=Hkr.out.symm.trans (by rw [HLK.out]; exact if_pos rfl)
         go_wp2_with fail
         refine (leave18_calls HS3.out 7 HI1.out.few.1 HI1.out.few.2.1).mono ?_;rintro e w4 ⟨rfl,p4,hS4,hK4⟩;have HS4:=qH hS4;have HK4:=qH (HK3.out.trans hK4);clear hS4 hK4
         go_wp2_with fail
         go_ret
         exact ⟨by rfl,_,HS4.out,HK4.out⟩)
end Go.Proofs.YtecjnkokdnmhlaaGreat
