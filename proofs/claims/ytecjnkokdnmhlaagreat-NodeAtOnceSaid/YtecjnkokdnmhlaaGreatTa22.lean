/- Parts, as far as NodeAtOnceCards reaches them, of: NodeYield. No law is proved here. -/
import Derived.Test.YtecjnkokdnmhlaaGreatTa21
namespace Go.Proofs.YtecjnkokdnmhlaaGreat
open Go.RowKit
set_option maxRecDepth 100000 in
set_option maxHeartbeats 8000000 in
theorem yield18_calls {n0 g:Nat} {E:Nat→Prop} {c:Cf} {who:Int} {x:Nd} {p:Nl} {code:Int} {W:World} (h:St n0 E W g c who x p code) (hI:IK c who x.bk) :
 Calls Tryz.prog 86 #[.pointer (some ⟨g,0,none⟩)] W (fun e w'=>e=.returned (.tuple #[])∧StepTo n0 E g c who p W (bkN x (yieldK c who x.bk)) code w'):=by
 have hlt:=h.lt;have hn0':n0≤W.heap.size:=by have:=h.le; omega
 have HS:=qH h;have HI:=qH hI;clear h hI;have few:=HI.out.few;obtain ⟨kr,Hkr⟩:∃ z,Hid (yieldK c who x.bk=z):=⟨_,rfl⟩;rw [Hkr.out];obtain ⟨⟨ht,ha,hq⟩,Hh⟩:∃ z,Hid (headQ x.bk=z):=⟨_,rfl⟩;obtain ⟨⟨tg,ok⟩,Hc⟩:∃ z,Hid (callsN c who x.bk.notes (headQ x.bk)=z):=⟨_,rfl⟩
 have O1:Hid (∀ w',Below W.heap.size W w'→Calls Tryz.prog 140 #[.pointer (some ⟨g,0,none⟩)] w' (fun e w2=>e=.returned (rqV ⟨ht,ha,hq⟩)∧Below w'.heap.size w' w2)):=fun w' hb=>by
  have h1:=head18_calls (HS.out.later hb);rw [Hh.out] at h1
  exact h1
 have O2:Hid (∀ w',Below W.heap.size W w'→Calls Tryz.prog 144 #[cfV c,.int .i64 who,.slice p.bl.a4 p.bl.m4 p.bl.c4,rqV ⟨ht,ha,hq⟩] w' (fun e w2=>e=.returned (.tuple #[.int .i64 tg,.bool ok])∧Below w'.heap.size w' w2)):=fun w' hb=>by
  have h1:=cCalls_calls c who p.bl.a4 p.bl.m4 p.bl.c4 x.bk.notes ⟨ht,ha,hq⟩ HS.out.inn.2.2.1.1 (by have:=HS.out.inn.2.2.1.1; omega) w' (HS.out.inn.2.2.1.2.later hb)
  rw [← Hh.out,Hc.out] at h1;rw [← Hh.out]
  exact h1
 have KP:Hid (∀ w',Below W.heap.size W w'→(Below W.heap.size W w'∧w'.cell? ⟨g,15,none⟩=some (.int .i64 c.n)∧w'.cell? ⟨g,16,none⟩=some (.int .i64 c.q)∧w'.cell? ⟨g,17,none⟩=some (.int .i64 c.r)∧w'.cell? ⟨g,18,none⟩=some (.int .i64 c.p)∧w'.cell? ⟨g,19,none⟩=some (.int .i64 c.k)∧w'.cell? ⟨g,20,none⟩=some (.int .i64 c.c)∧w'.cell? ⟨g,21,none⟩=some (.int .i64 who)∧w'.cell? ⟨g,5,none⟩=some (.slice p.bl.a4 p.bl.m4 p.bl.c4))):=fun w' hb=>⟨hb,(HS.out.later hb).ob.cell 15,(HS.out.later hb).ob.cell 16,(HS.out.later hb).ob.cell 17,(HS.out.later hb).ob.cell 18,(HS.out.later hb).ob.cell 19,(HS.out.later hb).ob.cell 20,(HS.out.later hb).ob.cell 21,(HS.out.later hb).ob.cell 5⟩
 have z15:W.cell? ⟨g,15,none⟩=some (.int .i64 c.n):=HS.out.ob.cell 15;have z16:W.cell? ⟨g,16,none⟩=some (.int .i64 c.q):=HS.out.ob.cell 16;have z17:W.cell? ⟨g,17,none⟩=some (.int .i64 c.r):=HS.out.ob.cell 17;have z18:W.cell? ⟨g,18,none⟩=some (.int .i64 c.p):=HS.out.ob.cell 18;have z19:W.cell? ⟨g,19,none⟩=some (.int .i64 c.k):=HS.out.ob.cell 19;have z20:W.cell? ⟨g,20,none⟩=some (.int .i64 c.c):=HS.out.ob.cell 20
 have z21:W.cell? ⟨g,21,none⟩=some (.int .i64 who):=HS.out.ob.cell 21;have z5:W.cell? ⟨g,5,none⟩=some (.slice p.bl.a4 p.bl.m4 p.bl.c4):=HS.out.ob.cell 5
 go_enter Tryz.func86,Tryz.ntmps86
 go_wp2_with fail
 go_region_held3 (fun w'=>Below W.heap.size W w'∧w'.cell? ⟨g,15,none⟩=some (.int .i64 c.n)∧w'.cell? ⟨g,16,none⟩=some (.int .i64 c.q)∧w'.cell? ⟨g,17,none⟩=some (.int .i64 c.r)∧w'.cell? ⟨g,18,none⟩=some (.int .i64 c.p)∧w'.cell? ⟨g,19,none⟩=some (.int .i64 c.k)∧w'.cell? ⟨g,20,none⟩=some (.int .i64 c.c)∧w'.cell? ⟨g,21,none⟩=some (.int .i64 who)∧w'.cell? ⟨g,5,none⟩=some (.slice p.bl.a4 p.bl.m4 p.bl.c4))
  (first | exact KP.out _ (Below.refl _ _).drew | (refine KP.out _ ?_; assumption))
  (first | (go_at_call 140; have hcur:=(‹Below W.heap.size W _∧_∧_›).1; (with_reducible refine (O1.out _ hcur).mono ?_); rintro ee wn ⟨rfl,hb⟩; have hS:=held_next hcur hb; clear hb) | (go_at_call 144; have hcur:=(‹Below W.heap.size W _∧_∧_›).1; (with_reducible refine (O2.out _ hcur).mono ?_); rintro ee wn ⟨rfl,hb⟩; have hS:=held_next hcur hb; clear hb))
 have hb1:=(‹Below W.heap.size W _∧_∧_›).1;obtain ⟨W1,HW1⟩:∃ z,z=wn:=⟨_,rfl⟩;subst HW1;have HB1:=qH hb1;have HS1:=qH (HS.out.later hb1);clear hb1 hS z15 z16 z17 z18 z19 z20 z21 z5
 cases ok with
 | false =>
   obtain rfl:kr=x.bk:=Hkr.out.symm.trans (by unfold yieldK; rw [Hc.out]; exact if_neg Bool.false_ne_true)
   go_wp2_with fail
   exact bodyPost_ret (v:=.tuple #[]) (by simp [results,Tryz.results86,go_sem]) rfl ⟨rfl,_,HS1.out,Kept.of HB1.out⟩
 | true =>
 have hin:=(calls_other HI.out.2.2.2.2.2.2.2.2.1 (headQ x.bk) (by rw [Hc.out])).1
 rw [Hc.out] at hin;simp only at hin;have hw:=HI.out.2.1;obtain ⟨k,rfl⟩:∃ k:Nat,who=(k:Int):=⟨who.toNat,by omega⟩
 obtain ⟨j,rfl⟩:∃ j:Nat,tg=(j:Int):=⟨tg.toNat,by omega⟩
 have hn0:n0≤W1.heap.size:=Nat.le_trans hn0' HB1.out.size;have hlt1:=HS1.out.lt;have hlen:=HI.out.1.2.1;have hkl:k < x.bk.rows.length:=by omega
 have hfits:=HI.out.1.fits k hkl;have hjl:j < (at_ x.bk.rows k).out.length:=by have:=hfits.1; omega
 obtain ⟨b,off,A,C,ha1,hbw,_,_,c2,hN⟩:=HS1.out.inn.1.2.at (k:=k) hkl;obtain ⟨b3,off3,hA,_,c3⟩:=hN.at (i:=j) hjl;obtain ⟨om,Hom⟩:∃ z,Hid ((at_ x.bk.rows k).out.length=z):=⟨_,rfl⟩;obtain ⟨o,Ho⟩:∃ z,Hid ((at_ x.bk.rows k).out[j]?.getD 0=z):=⟨_,rfl⟩;have hob:0≤o∧o≤1125899906842624:=by rw [← Ho.out]; exact hfits.2.2.2.2.2 j (by omega)
 have z1:W1.cell? ⟨g,1,none⟩=some (.slice (some ⟨b,off,none⟩) p.bl.m1 p.bl.c1):=by rw [← ha1]; exact HS1.out.ob.cell 1
 have z21:W1.cell? ⟨g,21,none⟩=some (.int .i64 (k:Int)):=HS1.out.ob.cell 21;have hm1:=HS1.out.inn.1.1;have hkm:k < p.bl.m1:=by rw [hm1]; exact hkl
 clear hm1;have q0:(0:Int)≤(k:Int):=by omega
 have q1:(k:Int) < (p.bl.m1:Int):=by omega
 clear hkm;have q2:(0:Int)≤(j:Int):=by omega
 have q3:(j:Int) < (om:Int):=by rw [← Hom.out]; omega
 rw [Hom.out,hA] at c2;rw [Ho.out] at c3;obtain ⟨V0,HV0⟩:∃ z,Hid (ofV c x.bk.rows (k:Int)=z):=⟨_,rfl⟩;have hV0:=ofV_bound c x.bk.rows (k:Int);rw [HV0.out] at hV0;obtain rfl:kr=moveK c (k:Int) x.bk (j:Int) (min V0 (1125899906842624 - o)):=Hkr.out.symm.trans (by unfold yieldK; rw [Hc.out]; refine (if_pos rfl).trans ?_; unfold roomV; simp only [Int.toNat_natCast]; rw [HV0.out,Ho.out])
 clear hin hw hlen hkl hfits hjl hN ha1 hA few
 go_wp2_with fail
 go_quiet (fail)
 have hq2:Below W1.heap.size W1 (W1.drewN nq):=below_drewN (Below.refl _ _) nq;have HS2:=qH (HS1.out.later hq2);have HB2:=qH (held_next HB1.out hq2);clear c2 c3 z1 z21 q0 q1 q2 q3 hq2;obtain ⟨W2,HW2⟩:∃ z,Hid (W1.drewN nq=z):=⟨_,rfl⟩;rw [HW2.out] at HS2 HB2
 go_wp2_with fail
 rw [HW2.out];have hlt2:=HS2.out.lt;have hn0:n0≤W2.heap.size:=Nat.le_trans hn0' HB2.out.size
 have HOF:Hid (∀ w',Below W2.heap.size W2 w'→Calls Tryz.prog 145 #[cfV c,.slice p.bl.a1 p.bl.m1 p.bl.c1,.int .i64 (k:Int)] w' (fun e w2=>e=.returned (.int .i64 V0)∧Below w'.heap.size w' w2)):=fun w' hb=>by
  have h1:=rOf_calls c p.bl.a1 p.bl.m1 p.bl.c1 x.bk.rows (k:Int) HS2.out.inn.1.1 w' (HS2.out.inn.1.2.later hb);rw [HV0.out] at h1
  exact h1
 refine wp_region_each_at ?hm ?hb (fun a0 d a' w'=>∃ (e0 e1 e2 e3 e4 e5 e6 e7 e8 e9 e10 e11 e12 e13 e14 e15 e16 e17 e18:Value),a'=putAll a0 [(42,e0),(43,e1),(44,e2),(45,e3),(46,e4),(47,e5),(48,e6),(49,e7),(50,e8),(51,e9),(52,e10),(53,e11),(54,e12),(55,e13),(56,e14),(57,e15),(58,e16),(59,e17),(60,e18)]∧Below n0 W2 w'∧(d 0=true→e0=(.pointer (some ⟨g,0,none⟩)))∧(d 1=true→e1=(.int .i64 (j:Int)))∧(d 2=true→e2=(.pointer (some ⟨g,0,none⟩)))∧(d 3=true→e3=(.pointer (some ⟨g,0,none⟩)))∧(d 4=true→e4=(.pointer (some ⟨g,15,none⟩)))∧(d 5=true→e5=(cfV c))∧(d 6=true→e6=(.pointer (some ⟨g,0,none⟩)))∧(d 7=true→e7=(.pointer (some ⟨g,0,none⟩)))∧(d 8=true→e8=(.pointer (some ⟨g,0,none⟩)))∧(d 9=true→e9=(.pointer (some ⟨g,1,none⟩)))∧(d 10=true→e10=(.slice p.bl.a1 p.bl.m1 p.bl.c1))∧(d 11=true→e11=(.pointer (some ⟨g,0,none⟩)))∧(d 12=true→e12=(.pointer (some ⟨g,0,none⟩)))∧(d 13=true→e13=(.pointer (some ⟨g,21,none⟩)))∧(d 14=true→e14=(.int .i64 (k:Int)))∧(d 15=true→(d 5=true∧d 10=true∧d 14=true∧e15=(.int .i64 V0)))∧(d 16=true→e16=(.int .i64 (1125899906842624 - o)))∧(d 17=true→(d 15=true∧e17=(.int .i64 (min V0 (1125899906842624 - o)))))∧(d 18=true→(d 15=true∧StepTo n0 E g c (k:Int) p W2 (bkN x (moveK c (k:Int) x.bk (j:Int) (min V0 (1125899906842624 - o)))) code w'))∧(d 18=false→Below W2.heap.size W2 w')) ?h0 ?step ?ends
 case hm=>kernel_rfl
 case hb=>kernel_rfl
 case h0 =>
  refine ⟨undef,undef,undef,undef,undef,undef,undef,undef,undef,undef,undef,undef,undef,undef,undef,undef,undef,undef,undef,?_,(Below.refl _ _).drew,fun h=>absurd h (by decide),fun h=>absurd h (by decide),fun h=>absurd h (by decide),fun h=>absurd h (by decide),fun h=>absurd h (by decide),fun h=>absurd h (by decide),fun h=>absurd h (by decide),fun h=>absurd h (by decide),fun h=>absurd h (by decide),fun h=>absurd h (by decide),fun h=>absurd h (by decide),fun h=>absurd h (by decide),fun h=>absurd h (by decide),fun h=>absurd h (by decide),fun h=>absurd h (by decide),fun h=>absurd h (by decide),fun h=>absurd h (by decide),fun h=>absurd h (by decide),fun h=>absurd h (by decide),fun _=>(Below.refl _ _).drew⟩
  simp only [putAll,Act.put,qA,qB,qC]
 case step =>
  intro i d a' w' hi hJ hd hk;obtain ⟨e0,e1,e2,e3,e4,e5,e6,e7,e8,e9,e10,e11,e12,e13,e14,e15,e16,e17,e18,rfl,hC⟩:=hJ;obtain ⟨hB,hC⟩:=hC;obtain ⟨c0,hC⟩:=hC;obtain ⟨c1,hC⟩:=hC;obtain ⟨c2,hC⟩:=hC;obtain ⟨c3,hC⟩:=hC;obtain ⟨c4,hC⟩:=hC;obtain ⟨c5,hC⟩:=hC;obtain ⟨c6,hC⟩:=hC;obtain ⟨c7,hC⟩:=hC;obtain ⟨c8,hC⟩:=hC;obtain ⟨c9,hC⟩:=hC;obtain ⟨c10,hC⟩:=hC;obtain ⟨c11,hC⟩:=hC;obtain ⟨c12,hC⟩:=hC;obtain ⟨c13,hC⟩:=hC
  obtain ⟨c14,hC⟩:=hC;obtain ⟨c15,hC⟩:=hC;obtain ⟨c16,hC⟩:=hC;obtain ⟨c17,hC⟩:=hC;obtain ⟨c18,hC⟩:=hC;have cb:=hC;clear hC;have Xc0:=qH c0; clear c0;have Xc1:=qH c1; clear c1;have Xc2:=qH c2; clear c2;have Xc3:=qH c3; clear c3;have Xc4:=qH c4; clear c4;have Xc5:=qH c5; clear c5;have Xc6:=qH c6; clear c6;have Xc7:=qH c7; clear c7;have Xc8:=qH c8; clear c8;have Xc9:=qH c9; clear c9;have Xc10:=qH c10; clear c10
  have Xc11:=qH c11; clear c11;have Xc12:=qH c12; clear c12;have Xc13:=qH c13; clear c13;have Xc14:=qH c14; clear c14;have Xc15:=qH c15; clear c15;have Xc16:=qH c16; clear c16;have Xc17:=qH c17; clear c17;have Xc18:=qH c18; clear c18;have Xcb:=qH cb; clear cb
  match i,hi,hd,hk with
  | 0, _, hd, hk =>
    apply wpOp_at
    case ho=>rfl
    intro K hK;simp only [putAll,Act.put,qA,qB,qC];go_simp;refine hK _ _ ⟨(.pointer (some ⟨g,0,none⟩)),_,_,_,_,_,_,_,_,_,_,_,_,_,_,_,_,_,e18,?_,hB,fun _=>rfl,Xc1,Xc2,Xc3,Xc4,Xc5,Xc6,Xc7,Xc8,Xc9,Xc10,Xc11,Xc12,Xc13,Xc14,Xc15,Xc16,Xc17,Xc18,Xcb⟩
    simp only [putAll,Act.put,qA,qB,qC]
  | 1, _, hd, hk =>
    apply wpOp_at
    case ho=>rfl
    intro K hK;simp only [putAll,Act.put,qA,qB,qC];go_simp;refine hK _ _ ⟨_,(.int .i64 (j:Int)),_,_,_,_,_,_,_,_,_,_,_,_,_,_,_,_,e18,?_,hB,Xc0,fun _=>rfl,Xc2,Xc3,Xc4,Xc5,Xc6,Xc7,Xc8,Xc9,Xc10,Xc11,Xc12,Xc13,Xc14,Xc15,Xc16,Xc17,Xc18,Xcb⟩
    simp only [putAll,Act.put,qA,qB,qC]
  | 2, _, hd, hk =>
    apply wpOp_at
    case ho=>rfl
    intro K hK;simp only [putAll,Act.put,qA,qB,qC];go_simp;refine hK _ _ ⟨_,_,(.pointer (some ⟨g,0,none⟩)),_,_,_,_,_,_,_,_,_,_,_,_,_,_,_,e18,?_,hB,Xc0,Xc1,fun _=>rfl,Xc3,Xc4,Xc5,Xc6,Xc7,Xc8,Xc9,Xc10,Xc11,Xc12,Xc13,Xc14,Xc15,Xc16,Xc17,Xc18,Xcb⟩
    simp only [putAll,Act.put,qA,qB,qC]
  | 3, _, hd, hk =>
    have h2:=hk 2 (by decide +kernel)
    have c2:=Xc2.out;obtain rfl:=c2 h2;clear c2;apply wpOp_at
    case ho=>rfl
    intro K hK;simp only [putAll,Act.put,qA,qB,qC];go_simp;refine hK _ _ ⟨_,_,(.pointer (some ⟨g,0,none⟩)),(.pointer (some ⟨g,0,none⟩)),_,_,_,_,_,_,_,_,_,_,_,_,_,_,e18,?_,hB,Xc0,Xc1,Xc2,fun _=>rfl,Xc4,Xc5,Xc6,Xc7,Xc8,Xc9,Xc10,Xc11,Xc12,Xc13,Xc14,Xc15,Xc16,Xc17,Xc18,Xcb⟩
    simp only [putAll,Act.put,qA,qB,qC]
  | 4, _, hd, hk =>
    have h3:=hk 3 (by decide +kernel)
    have c3:=Xc3.out;obtain rfl:=c3 h3;clear c3;apply wpOp_at
    case ho=>rfl
    intro K hK;simp only [putAll,Act.put,qA,qB,qC];go_simp;refine hK _ _ ⟨_,_,_,(.pointer (some ⟨g,0,none⟩)),(.pointer (some ⟨g,15,none⟩)),_,_,_,_,_,_,_,_,_,_,_,_,_,e18,?_,hB,Xc0,Xc1,Xc2,Xc3,fun _=>rfl,Xc5,Xc6,Xc7,Xc8,Xc9,Xc10,Xc11,Xc12,Xc13,Xc14,Xc15,Xc16,Xc17,Xc18,Xcb⟩
    simp only [putAll,Act.put,qA,qB,qC]
  | 5, _, hd, hk =>
    have h4:=hk 4 (by decide +kernel)
    have c4:=Xc4.out;have c15:=Xc15.out;have c18:=Xc18.out;have cb:=Xcb.out;obtain rfl:=c4 h4;have hdM:d 18=false:=by cases h:d 18 with | false=>rfl | true=>exact Bool.noConfusion (hd.symm.trans (c15 (c18 h).1).1)
    have hB9:=cb hdM;have z15:w'.cell? ⟨g,15,none⟩=some (.int .i64 c.n):=(HS2.out.later hB9).ob.cell 15;have z16:w'.cell? ⟨g,16,none⟩=some (.int .i64 c.q):=(HS2.out.later hB9).ob.cell 16;have z17:w'.cell? ⟨g,17,none⟩=some (.int .i64 c.r):=(HS2.out.later hB9).ob.cell 17;have z18:w'.cell? ⟨g,18,none⟩=some (.int .i64 c.p):=(HS2.out.later hB9).ob.cell 18;have z19:w'.cell? ⟨g,19,none⟩=some (.int .i64 c.k):=(HS2.out.later hB9).ob.cell 19
    have z20:w'.cell? ⟨g,20,none⟩=some (.int .i64 c.c):=(HS2.out.later hB9).ob.cell 20;clear c4 c15 c18 cb;apply wpOp_at
    case ho=>rfl
    intro K hK;simp only [putAll,Act.put,qA,qB,qC];go_simp;have c15:=Xc15.out;refine hK _ _ ⟨_,_,_,_,(.pointer (some ⟨g,15,none⟩)),(cfV c),_,_,_,_,_,_,_,_,_,e15,_,_,e18,?_,hB,Xc0,Xc1,Xc2,Xc3,Xc4,fun _=>rfl,Xc6,Xc7,Xc8,Xc9,Xc10,Xc11,Xc12,Xc13,Xc14,fun h=>Bool.noConfusion (hd.symm.trans (c15 h).1),Xc16,Xc17,Xc18,Xcb⟩
    simp only [putAll,Act.put,qA,qB,qC]
  | 6, _, hd, hk =>
    apply wpOp_at
    case ho=>rfl
    intro K hK;simp only [putAll,Act.put,qA,qB,qC];go_simp;refine hK _ _ ⟨_,_,_,_,_,_,(.pointer (some ⟨g,0,none⟩)),_,_,_,_,_,_,_,_,_,_,_,e18,?_,hB,Xc0,Xc1,Xc2,Xc3,Xc4,Xc5,fun _=>rfl,Xc7,Xc8,Xc9,Xc10,Xc11,Xc12,Xc13,Xc14,Xc15,Xc16,Xc17,Xc18,Xcb⟩
    simp only [putAll,Act.put,qA,qB,qC]
  | 7, _, hd, hk =>
    have h6:=hk 6 (by decide +kernel)
    have c6:=Xc6.out;obtain rfl:=c6 h6;clear c6;apply wpOp_at
    case ho=>rfl
    intro K hK;simp only [putAll,Act.put,qA,qB,qC];go_simp;refine hK _ _ ⟨_,_,_,_,_,_,(.pointer (some ⟨g,0,none⟩)),(.pointer (some ⟨g,0,none⟩)),_,_,_,_,_,_,_,_,_,_,e18,?_,hB,Xc0,Xc1,Xc2,Xc3,Xc4,Xc5,Xc6,fun _=>rfl,Xc8,Xc9,Xc10,Xc11,Xc12,Xc13,Xc14,Xc15,Xc16,Xc17,Xc18,Xcb⟩
    simp only [putAll,Act.put,qA,qB,qC]
  | 8, _, hd, hk =>
    have h7:=hk 7 (by decide +kernel)
    have c7:=Xc7.out;obtain rfl:=c7 h7;clear c7;apply wpOp_at
    case ho=>rfl
    intro K hK;simp only [putAll,Act.put,qA,qB,qC];go_simp;refine hK _ _ ⟨_,_,_,_,_,_,_,(.pointer (some ⟨g,0,none⟩)),(.pointer (some ⟨g,0,none⟩)),_,_,_,_,_,_,_,_,_,e18,?_,hB,Xc0,Xc1,Xc2,Xc3,Xc4,Xc5,Xc6,Xc7,fun _=>rfl,Xc9,Xc10,Xc11,Xc12,Xc13,Xc14,Xc15,Xc16,Xc17,Xc18,Xcb⟩
    simp only [putAll,Act.put,qA,qB,qC]
  | 9, _, hd, hk =>
    have h8:=hk 8 (by decide +kernel)
    have c8:=Xc8.out;obtain rfl:=c8 h8;clear c8;apply wpOp_at
    case ho=>rfl
    intro K hK;simp only [putAll,Act.put,qA,qB,qC];go_simp;refine hK _ _ ⟨_,_,_,_,_,_,_,_,(.pointer (some ⟨g,0,none⟩)),(.pointer (some ⟨g,1,none⟩)),_,_,_,_,_,_,_,_,e18,?_,hB,Xc0,Xc1,Xc2,Xc3,Xc4,Xc5,Xc6,Xc7,Xc8,fun _=>rfl,Xc10,Xc11,Xc12,Xc13,Xc14,Xc15,Xc16,Xc17,Xc18,Xcb⟩
    simp only [putAll,Act.put,qA,qB,qC]
  | 10, _, hd, hk =>
    have h9:=hk 9 (by decide +kernel)
    have c9:=Xc9.out;have c15:=Xc15.out;have c18:=Xc18.out;have cb:=Xcb.out;obtain rfl:=c9 h9;have hdM:d 18=false:=by cases h:d 18 with | false=>rfl | true=>exact Bool.noConfusion (hd.symm.trans (c15 (c18 h).1).2.1)
    have hB9:=cb hdM;have z1:w'.cell? ⟨g,1,none⟩=some (.slice p.bl.a1 p.bl.m1 p.bl.c1):=(HS2.out.later hB9).ob.cell 1;clear c9 c15 c18 cb;apply wpOp_at
    case ho=>rfl
    intro K hK;simp only [putAll,Act.put,qA,qB,qC];go_simp;have c15:=Xc15.out;refine hK _ _ ⟨_,_,_,_,_,_,_,_,_,(.pointer (some ⟨g,1,none⟩)),(.slice p.bl.a1 p.bl.m1 p.bl.c1),_,_,_,_,e15,_,_,e18,?_,hB,Xc0,Xc1,Xc2,Xc3,Xc4,Xc5,Xc6,Xc7,Xc8,Xc9,fun _=>rfl,Xc11,Xc12,Xc13,Xc14,fun h=>Bool.noConfusion (hd.symm.trans (c15 h).2.1),Xc16,Xc17,Xc18,Xcb⟩
    simp only [putAll,Act.put,qA,qB,qC]
  | 11, _, hd, hk =>
    apply wpOp_at
    case ho=>rfl
    intro K hK;simp only [putAll,Act.put,qA,qB,qC];go_simp;refine hK _ _ ⟨_,_,_,_,_,_,_,_,_,_,_,(.pointer (some ⟨g,0,none⟩)),_,_,_,_,_,_,e18,?_,hB,Xc0,Xc1,Xc2,Xc3,Xc4,Xc5,Xc6,Xc7,Xc8,Xc9,Xc10,fun _=>rfl,Xc12,Xc13,Xc14,Xc15,Xc16,Xc17,Xc18,Xcb⟩
    simp only [putAll,Act.put,qA,qB,qC]
  | 12, _, hd, hk =>
    have h11:=hk 11 (by decide +kernel)
    have c11:=Xc11.out;obtain rfl:=c11 h11;clear c11;apply wpOp_at
    case ho=>rfl
    intro K hK;simp only [putAll,Act.put,qA,qB,qC];go_simp;refine hK _ _ ⟨_,_,_,_,_,_,_,_,_,_,_,(.pointer (some ⟨g,0,none⟩)),(.pointer (some ⟨g,0,none⟩)),_,_,_,_,_,e18,?_,hB,Xc0,Xc1,Xc2,Xc3,Xc4,Xc5,Xc6,Xc7,Xc8,Xc9,Xc10,Xc11,fun _=>rfl,Xc13,Xc14,Xc15,Xc16,Xc17,Xc18,Xcb⟩
    simp only [putAll,Act.put,qA,qB,qC]
  | 13, _, hd, hk =>
    have h12:=hk 12 (by decide +kernel)
    have c12:=Xc12.out;obtain rfl:=c12 h12;clear c12;apply wpOp_at
    case ho=>rfl
    intro K hK;simp only [putAll,Act.put,qA,qB,qC];go_simp;refine hK _ _ ⟨_,_,_,_,_,_,_,_,_,_,_,_,(.pointer (some ⟨g,0,none⟩)),(.pointer (some ⟨g,21,none⟩)),_,_,_,_,e18,?_,hB,Xc0,Xc1,Xc2,Xc3,Xc4,Xc5,Xc6,Xc7,Xc8,Xc9,Xc10,Xc11,Xc12,fun _=>rfl,Xc14,Xc15,Xc16,Xc17,Xc18,Xcb⟩
    simp only [putAll,Act.put,qA,qB,qC]
  | 14, _, hd, hk =>
    have h13:=hk 13 (by decide +kernel)
    have c13:=Xc13.out;have c15:=Xc15.out;have c18:=Xc18.out;have cb:=Xcb.out;obtain rfl:=c13 h13;have hdM:d 18=false:=by cases h:d 18 with | false=>rfl | true=>exact Bool.noConfusion (hd.symm.trans (c15 (c18 h).1).2.2.1)
    have hB9:=cb hdM;have z21:w'.cell? ⟨g,21,none⟩=some (.int .i64 (k:Int)):=(HS2.out.later hB9).ob.cell 21;clear c13 c15 c18 cb;apply wpOp_at
    case ho=>rfl
    intro K hK;simp only [putAll,Act.put,qA,qB,qC];go_simp;have c15:=Xc15.out;refine hK _ _ ⟨_,_,_,_,_,_,_,_,_,_,_,_,_,(.pointer (some ⟨g,21,none⟩)),(.int .i64 (k:Int)),e15,_,_,e18,?_,hB,Xc0,Xc1,Xc2,Xc3,Xc4,Xc5,Xc6,Xc7,Xc8,Xc9,Xc10,Xc11,Xc12,Xc13,fun _=>rfl,fun h=>Bool.noConfusion (hd.symm.trans (c15 h).2.2.1),Xc16,Xc17,Xc18,Xcb⟩
    simp only [putAll,Act.put,qA,qB,qC]
  | 15, _, hd, hk =>
    have h5:=hk 5 (by decide +kernel)
    have h10:=hk 10 (by decide +kernel)
    have h14:=hk 14 (by decide +kernel)
    have c5:=Xc5.out;have c10:=Xc10.out;have c14:=Xc14.out;have c18:=Xc18.out;have cb:=Xcb.out;obtain rfl:=c5 h5;obtain rfl:=c10 h10;obtain rfl:=c14 h14;have hdM:d 18=false:=by cases h:d 18 with | false=>rfl | true=>exact Bool.noConfusion (hd.symm.trans (c18 h).1)
    have hB9:=cb hdM;clear c5 c10 c14 c18 cb;apply wpOp_at
    case ho=>rfl
    intro K hK;simp only [putAll,Act.put,qA,qB,qC];go_simp;have c17:=Xc17.out;have c18:=Xc18.out;have cb:=Xcb.out;refine (HOF.out _ hB9).mono ?_;rintro e w'' ⟨rfl,hb⟩;refine hK _ _ ⟨_,_,_,_,_,(cfV c),_,_,_,_,(.slice p.bl.a1 p.bl.m1 p.bl.c1),_,_,_,(.int .i64 (k:Int)),.int .i64 V0,_,e17,e18,?_,hB.trans (hb.mono (Nat.le_trans hn0 hB9.size)),Xc0,Xc1,Xc2,Xc3,Xc4,Xc5,Xc6,Xc7,Xc8,Xc9,Xc10,Xc11,Xc12,Xc13,Xc14,fun _=>⟨h5,h10,h14,rfl⟩,Xc16,fun h=>Bool.noConfusion (hd.symm.trans (c17 h).1),fun h=>Bool.noConfusion (hd.symm.trans (c18 h).1),fun h=>held_next (cb h) hb⟩
    simp only [putAll,Act.put,qA,qB,qC]
  | 16, _, hd, hk =>
    apply wpOp_at
    case ho=>rfl
    intro K hK;simp only [putAll,Act.put,qA,qB,qC];go_simp;refine hK _ _ ⟨_,_,_,_,_,_,_,_,_,_,_,_,_,_,_,_,(.int .i64 (1125899906842624 - o)),_,e18,?_,hB,Xc0,Xc1,Xc2,Xc3,Xc4,Xc5,Xc6,Xc7,Xc8,Xc9,Xc10,Xc11,Xc12,Xc13,Xc14,Xc15,fun _=>rfl,Xc17,Xc18,Xcb⟩
    simp only [putAll,Act.put,qA,qB,qC]
  | 17, _, hd, hk =>
    have h15:=hk 15 (by decide +kernel)
    have h16:=hk 16 (by decide +kernel)
    have c15:=Xc15.out;have c16:=Xc16.out;obtain rfl:=c16 h16;obtain ⟨-,-,-,rfl⟩:=c15 h15;clear c15 c16;apply wpOp_at
    case ho=>rfl
    intro K hK;simp only [putAll,Act.put,qA,qB,qC];go_simp;refine hK _ _ ⟨_,_,_,_,_,_,_,_,_,_,_,_,_,_,_,(.int .i64 V0),(.int .i64 (1125899906842624 - o)),(.int .i64 (min V0 (1125899906842624 - o))),e18,?_,hB,Xc0,Xc1,Xc2,Xc3,Xc4,Xc5,Xc6,Xc7,Xc8,Xc9,Xc10,Xc11,Xc12,Xc13,Xc14,Xc15,Xc16,fun _=>⟨h15,rfl⟩,Xc18,Xcb⟩
    simp only [putAll,Act.put,qA,qB,qC]
  | 18, _, hd, hk =>
    have h0:=hk 0 (by decide +kernel)
    have h1:=hk 1 (by decide +kernel)
    have h17:=hk 17 (by decide +kernel)
    have c0:=Xc0.out;have c1:=Xc1.out;have c17:=Xc17.out;have cb:=Xcb.out;obtain rfl:=c0 h0;obtain rfl:=c1 h1;obtain ⟨k15,rfl⟩:=c17 h17;have hB9:=cb hd;have hS9:=HS2.out.later hB9;clear c0 c1 c17 cb;apply wpOp_at
    case ho=>rfl
    intro K hK;simp only [putAll,Act.put,qA,qB,qC];go_simp;refine (move18_calls hS9 (j:Int) (min V0 (1125899906842624 - o))).mono ?_;rintro e w'' ⟨rfl,p2,hS2,hK2⟩;refine hK _ _ ⟨(.pointer (some ⟨g,0,none⟩)),(.int .i64 (j:Int)),_,_,_,_,_,_,_,_,_,_,_,_,_,_,_,(.int .i64 (min V0 (1125899906842624 - o))),.tuple #[],?_,hB.trans (hS9.low hK2),Xc0,Xc1,Xc2,Xc3,Xc4,Xc5,Xc6,Xc7,Xc8,Xc9,Xc10,Xc11,Xc12,Xc13,Xc14,Xc15,Xc16,Xc17,fun _=>⟨k15,p2,hS2,(Kept.of hB9).trans hK2⟩,fun h=>Bool.noConfusion (show true=false from h)⟩
    simp only [putAll,Act.put,qA,qB,qC]
  | k + 19,hi,_,_=>exact absurd hi (by simp)
 case ends =>
  intro d a' w' hJ hall;obtain ⟨e0,e1,e2,e3,e4,e5,e6,e7,e8,e9,e10,e11,e12,e13,e14,e15,e16,e17,e18,rfl,hC⟩:=hJ;obtain ⟨hB,hC⟩:=hC;obtain ⟨c0,hC⟩:=hC;obtain ⟨c1,hC⟩:=hC;obtain ⟨c2,hC⟩:=hC;obtain ⟨c3,hC⟩:=hC;obtain ⟨c4,hC⟩:=hC;obtain ⟨c5,hC⟩:=hC;obtain ⟨c6,hC⟩:=hC;obtain ⟨c7,hC⟩:=hC;obtain ⟨c8,hC⟩:=hC;obtain ⟨c9,hC⟩:=hC;obtain ⟨c10,hC⟩:=hC;obtain ⟨c11,hC⟩:=hC;obtain ⟨c12,hC⟩:=hC;obtain ⟨c13,hC⟩:=hC;obtain ⟨c14,hC⟩:=hC
  obtain ⟨c15,hC⟩:=hC;obtain ⟨c16,hC⟩:=hC;obtain ⟨c17,hC⟩:=hC;obtain ⟨c18,hC⟩:=hC;have cb:=hC;clear hC;have HT:=qH (c18 (hall 18 (by decide +kernel))).2
  obtain rfl:=c0 (hall 0 (by decide +kernel))
  obtain rfl:=c1 (hall 1 (by decide +kernel))
  obtain rfl:=c2 (hall 2 (by decide +kernel))
  obtain rfl:=c3 (hall 3 (by decide +kernel))
  obtain rfl:=c4 (hall 4 (by decide +kernel))
  obtain rfl:=c5 (hall 5 (by decide +kernel))
  obtain rfl:=c6 (hall 6 (by decide +kernel))
  obtain rfl:=c7 (hall 7 (by decide +kernel))
  obtain rfl:=c8 (hall 8 (by decide +kernel))
  obtain rfl:=c9 (hall 9 (by decide +kernel))
  obtain rfl:=c10 (hall 10 (by decide +kernel))
  obtain rfl:=c11 (hall 11 (by decide +kernel))
  obtain rfl:=c12 (hall 12 (by decide +kernel))
  obtain rfl:=c13 (hall 13 (by decide +kernel))
  obtain rfl:=c14 (hall 14 (by decide +kernel))
  obtain rfl:=c16 (hall 16 (by decide +kernel))
  obtain ⟨_,_,_,rfl⟩:=c15 (hall 15 (by decide +kernel))
  obtain ⟨_,rfl⟩:=c17 (hall 17 (by decide +kernel))
  clear c18 cb hall hB;simp only [putAll,Act.put,qA,qB,qC];obtain ⟨p2,hS2,hK2⟩:=HT.out;clear HT;have HSE:=qH hS2;have HK2:=qH ((Kept.of HB2.out).trans hK2);clear hS2 hK2
  go_wp2_with fail
  exact bodyPost_end (v:=.tuple #[]) (by simp [results,Tryz.results86,go_sem]) rfl ⟨rfl,_,HSE.out,HK2.out⟩
end Go.Proofs.YtecjnkokdnmhlaaGreat
