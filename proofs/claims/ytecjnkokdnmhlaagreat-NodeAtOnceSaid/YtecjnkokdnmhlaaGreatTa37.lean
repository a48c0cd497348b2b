/- Parts, as far as NodeAtOnceCards reaches them, of: NodeAwake, RefRightsMay, RefStamp. No law is proved here. -/
import Derived.Test.YtecjnkokdnmhlaaGreatTa36
namespace Go.Proofs.YtecjnkokdnmhlaaGreat
open Go.RowKit
abbrev MlAny:MlP:=fun _ _ _ _ _=>True
theorem write_alone:WriteC MlAny wakeC18 0:=fun _ _ _ _ _ _ h _=>write1_calls MlAny (fun _ _ _=>trivial) h rfl rfl
theorem few_wk1:FewK wk1.bk:=⟨⟨by decide,by decide⟩,by decide,by decide,by decide,by decide,by decide,by decide⟩
theorem few_wk2:FewK wk2.bk:=⟨⟨by decide,by decide⟩,by decide,by decide,by decide,by decide,by decide,by decide⟩
theorem few_wk3:FewK wk3.bk:=⟨⟨by decide,by decide⟩,by decide,by decide,by decide,by decide,by decide,by decide⟩
theorem wake_nodes:∃ X1 X2 X3:Nd,newNd wakeC18 0=(X1,0)∧(FewK X1.bk∧X1.asked.length≤1000)∧decNd wakeC18 0 X1 3=(X2,(1,0),0)∧(FewK X2.bk∧X2.asked.length≤1000∧X2.bk.outs=[⟨1,0,0⟩])∧readNd wakeC18 0 X2=2 ∧
 decNd wakeC18 0 X2 3=(X3,(2,0),0)∧(FewK X3.bk∧X3.asked.length≤1000∧X3.bk.outs=[]∧X3.bk.line.length=1)∧∃ X4:Nd,tickNd wakeC18 0 X3 0=(X4,[],0)∧X4.bk.outs=[⟨2,0,7⟩] :=
 ⟨wk1,wk2,wk3,rfl,⟨few_wk1,by decide⟩,wake_dec1,⟨few_wk2,by decide,rfl⟩,wake_read,wake_dec2,⟨few_wk3,by decide,rfl,rfl⟩,(tickNd wakeC18 0 wk3 0).1,Prod.ext rfl wake_tick,wake_outs⟩
set_option maxRecDepth 100000 in
set_option maxHeartbeats 16000000 in
theorem awake18 (w:World):Calls Tryz.prog 9 #[] w (Says w true):=by
 obtain ⟨X1,X2,X3,hn1,hn2,hn3,hn4,hn5,hn6,hn7,X4,hn8,hn9⟩:=wake_nodes;have N1:=qH hn1; have N2:=qH hn2; have N3:=qH hn3; have N4:=qH hn4; have N5:=qH hn5; have N6:=qH hn6; have N7:=qH hn7; have N8:=qH hn8; have N9:=qH hn9;clear hn1 hn2 hn3 hn4 hn5 hn6 hn7 hn8 hn9;have HC0:=qH (Whole.made w 23 (cfCells wakeC18));have HB0:=qH (below_box w (.cells (cfCells wakeC18) 23));obtain ⟨w0,Hw0⟩:∃ z,Hid (w.alloc (.cells (cfCells wakeC18) 23)=z):=⟨_,rfl⟩
 rw [Hw0.out] at HC0 HB0
 go_enter Tryz.func9,Tryz.ntmps9
 go_wp2_with fail
 rw [Hw0.out];refine (ndNew_calls wakeC18 0 _).mono ?_;rw [N1.out];rintro e w1 ⟨p1,rfl,hb,hs⟩;simp only at hs;have HC1:=qH ((HC0.out.later hb HC0.out.lt).alloc (.cells (ndAtC X1 p1) 39));have HX1:=qH (Whole.made w1 39 (ndAtC X1 p1));have hbx:=below_box w1 (.cells (ndAtC X1 p1) 39);have HI1:=qH (hs.inn.later hbx);have HB1:=qH (held_next (held_next HB0.out hb) hbx);have hcl:w.heap.size < w1.heap.size:=Nat.lt_of_lt_of_le HC0.out.lt hb.size
 have Hcl:=qH hcl;clear hb hs hbx hcl;obtain ⟨g1,Hg1⟩:∃ z,Hid (w1.heap.size=z):=⟨_,rfl⟩;obtain ⟨d0,d1,d2,d3,d4,d5⟩:=config_cells HC1.out;simp only at d0 d1 d2 d3 d4 d5
 go_wp2_with fail
 obtain ⟨w2,Hw2⟩:∃ z,Hid (w1.alloc (.cells (ndAtC X1 p1) 39)=z):=⟨_,rfl⟩;rw [Hw2.out] at HC1 HX1 HI1 HB1 ⊢;rw [Hg1.out] at HX1 Hcl ⊢;clear d0 d1 d2 d3 d4 d5;refine (ndDec_calls wakeC18 0 X1 p1 3 N2.out.1 N2.out.2 w2 HI1.out).mono ?_;rw [N3.out];rintro e w3 ⟨p2,rfl,hb,hs⟩;simp only at hs;have HX3:=qH (HX1.out.later hb HX1.out.lt);have HC3:=qH (HC1.out.later hb HC1.out.lt);have HB3:=qH (held_next HB1.out hb)
 have HS3:=qH hs;have hg1:g1 < w2.heap.size:=HX1.out.lt;have Hg12:=qH hg1;clear hb hs hg1;obtain ⟨⟨z0,z1,z2,z3⟩,⟨z4,z5,z6,z7⟩,⟨z8,z9,z10,z11⟩,z12,z13,z14⟩:=nd_cells HX3.out;have y0:=HX3.out.free 0;have y1:=HX3.out.free 1;have y2:=HX3.out.free 2;have y3:=HX3.out.free 3;have y4:=HX3.out.free 4;have y5:=HX3.out.free 5;have y6:=HX3.out.free 6;have y7:=HX3.out.free 7;have y8:=HX3.out.free 8;have y9:=HX3.out.free 9
 have y10:=HX3.out.free 10;have y11:=HX3.out.free 11;have y12:=HX3.out.free 12;have y13:=HX3.out.free 13;have y14:=HX3.out.free 14;have hlt3:=HX3.out.lt;have hU0:ButS (fun b=>b=g1) w3 (nd15p w3 g1 X2 p2):=nd15_buts (ButS.refl _ _) rfl
 have hU:ButS (fun b=>b=g1) w3 ((nd15p w3 g1 X2 p2).alloc (.cells #[.int .i64 1,.int .i64 0] 48)):=hU0.trans (ButS.of (below_box _ _))
 have HX4:=qH (show Whole ((nd15p w3 g1 X2 p2).alloc (.cells #[.int .i64 1,.int .i64 0] 48)) g1 39 (ndAtC X2 p2) from (nd15_whole HX3.out).alloc _)
 have HC4:=qH (show Whole ((nd15p w3 g1 X2 p2).alloc (.cells #[.int .i64 1,.int .i64 0] 48)) w.heap.size 23 (cfCells wakeC18) from (hU.2 _ HC3.out.lt (by have:=Hcl.out; omega)).trans HC3.out)
 have HT4:=qH (show Whole ((nd15p w3 g1 X2 p2).alloc (.cells #[.int .i64 1,.int .i64 0] 48)) w3.heap.size 48 #[.int .i64 1,.int .i64 0] from Whole.madeAt _ _ _ _ (by simp [nd15p,nd15]))
 have HI4:=qH (show NdIn ((nd15p w3 g1 X2 p2).alloc (.cells #[.int .i64 1,.int .i64 0] 48)) p2 X2 from HS3.out _ (hU.wide fun b e=>by have:=Hg12.out; omega))
 have hNB:Below w.heap.size w (nd15p w3 g1 X2 p2):=nd15_below HB3.out (by have:=Hcl.out; omega)
 have HB4:=qH (show Below w.heap.size w ((nd15p w3 g1 X2 p2).alloc (.cells #[.int .i64 1,.int .i64 0] 48)) from hNB.alloc hNB.size _)
 clear hU hU0 hNB
 go_wp2_with fail
 clear z0 z1 z2 z3 z4 z5 z6 z7 z8 z9 z10 z11 z12 z13 z14 hlt3 y0 y1 y2 y3 y4 y5 y6 y7 y8 y9 y10 y11 y12 y13 y14;obtain ⟨w4,Hw4⟩:∃ z,Hid ((nd15p w3 g1 X2 p2).alloc (.cells #[.int .i64 1,.int .i64 0] 48)=z):=⟨_,rfl⟩;obtain ⟨g4,Hg4⟩:∃ z,Hid (w3.heap.size=z):=⟨_,rfl⟩;rw [Hw4.out] at HX4 HC4 HT4 HI4 HB4;rw [Hg4.out] at HT4;rw [Hg4.out]
 show Code.wp _ _ _ _ ((nd15p w3 g1 X2 p2).alloc (.cells #[.int .i64 1,.int .i64 0] 48))
 rw [Hw4.out];have HB3':=qH (HB3.out);clear Hw4 HS3 HX3 HB3;obtain ⟨⟨a1,m1,c1,a2,m2,c2,a3,m3,c3,a4,m4,c4,al⟩,pa,pm,pc⟩:=p2;obtain ⟨hm0,hl3⟩:=HI4.out.1.2.2.1;rw [N4.out.2.2] at hm0 hl3;obtain ⟨b,off,ha0,k0,k1,k2⟩:=hl3.at (i:=0) (by decide)
 have hm3:m3=1:=hm0;have ha:a3=some ⟨b,off,none⟩:=ha0;have q0:w4.cell? ⟨b,off,none⟩=some (.int .i64 1):=k0;have q1:w4.cell? ⟨b,off + 1,none⟩=some (.int .i64 0):=k1;have q2:w4.cell? ⟨b,off + 2,none⟩=some (.int .i64 0):=k2;clear k0 k1 k2 hl3 hm0 ha0;subst hm3;subst ha
 have O1:Hid (∀ w',Below w4.heap.size w4 w'→Calls Tryz.prog 17 #[cfV wakeC18,.int .i64 0,ndAt X2 ⟨⟨a1,m1,c1,a2,m2,c2,some ⟨b,off,none⟩,1,c3,a4,m4,c4,al⟩,pa,pm,pc⟩] w' (fun e w2=>e=.returned (.int .i64 2)∧Below w'.heap.size w' w2)):=fun w' hb=>by
  have h1:=ndRead_calls wakeC18 0 X2 ⟨⟨a1,m1,c1,a2,m2,c2,some ⟨b,off,none⟩,1,c3,a4,m4,c4,al⟩,pa,pm,pc⟩ w' (HI4.out.later hb);rw [N5.out] at h1
  exact h1
 have KP:Hid (∀ w',Below w4.heap.size w4 w'→(Below w4.heap.size w4 w'∧(w'.cell? ⟨w.heap.size,0,none⟩=some (.int .i64 1)∧w'.cell? ⟨w.heap.size,1,none⟩=some (.int .i64 1)∧w'.cell? ⟨w.heap.size,2,none⟩=some (.int .i64 0)∧w'.cell? ⟨w.heap.size,3,none⟩=some (.int .i64 1)∧w'.cell? ⟨w.heap.size,4,none⟩=some (.int .i64 5)∧w'.cell? ⟨w.heap.size,5,none⟩=some (.int .i64 0))∧(w'.cell? ⟨g1,0,none⟩=some (.int .i64 X2.bk.clk)∧w'.cell? ⟨g1,1,none⟩=some (.slice a1 m1 c1)∧w'.cell? ⟨g1,2,none⟩=some (.slice a2 m2 c2)∧w'.cell? ⟨g1,3,none⟩=some (.slice (some ⟨b,off,none⟩) 1 c3)∧w'.cell? ⟨g1,4,none⟩=some (.int .i64 X2.bk.asks)∧w'.cell? ⟨g1,5,none⟩=some (.slice a4 m4 c4)∧w'.cell? ⟨g1,6,none⟩=some (.int .i64 X2.bk.au.try_)∧w'.cell? ⟨g1,7,none⟩=some (.int .i64 X2.bk.au.ph)∧w'.cell? ⟨g1,8,none⟩=some (.slice al.a1 al.m1 al.c1)∧w'.cell? ⟨g1,9,none⟩=some (.slice al.a2 al.m2 al.c2)∧w'.cell? ⟨g1,10,none⟩=some (.slice al.a3 al.m3 al.c3)∧w'.cell? ⟨g1,11,none⟩=some (.bool X2.bk.au.moved)∧w'.cell? ⟨g1,12,none⟩=some (.int .i64 X2.tk)∧w'.cell? ⟨g1,13,none⟩=some (.int .i64 X2.nx)∧w'.cell? ⟨g1,14,none⟩=some (.slice pa pm pc))∧(w'.cell? ⟨g4,0,none⟩=some (.int .i64 1)∧w'.cell? ⟨g4,1,none⟩=some (.int .i64 0))∧(w'.cell? ⟨b,off,none⟩=some (.int .i64 1)∧w'.cell? ⟨b,off + 1,none⟩=some (.int .i64 0)∧w'.cell? ⟨b,off + 2,none⟩=some (.int .i64 0)))):=fun w' hb=>⟨hb,⟨(HC4.out.later hb HC4.out.lt).cell 0,(HC4.out.later hb HC4.out.lt).cell 1,(HC4.out.later hb HC4.out.lt).cell 2,(HC4.out.later hb HC4.out.lt).cell 3,(HC4.out.later hb HC4.out.lt).cell 4,(HC4.out.later hb HC4.out.lt).cell 5⟩,⟨(HX4.out.later hb HX4.out.lt).cell 0,(HX4.out.later hb HX4.out.lt).cell 1,(HX4.out.later hb HX4.out.lt).cell 2,(HX4.out.later hb HX4.out.lt).cell 3,(HX4.out.later hb HX4.out.lt).cell 4,(HX4.out.later hb HX4.out.lt).cell 5,(HX4.out.later hb HX4.out.lt).cell 6,(HX4.out.later hb HX4.out.lt).cell 7,(HX4.out.later hb HX4.out.lt).cell 8,(HX4.out.later hb HX4.out.lt).cell 9,(HX4.out.later hb HX4.out.lt).cell 10,(HX4.out.later hb HX4.out.lt).cell 11,(HX4.out.later hb HX4.out.lt).cell 12,(HX4.out.later hb HX4.out.lt).cell 13,(HX4.out.later hb HX4.out.lt).cell 14⟩,⟨(HT4.out.later hb HT4.out.lt).cell 0,(HT4.out.later hb HT4.out.lt).cell 1⟩,⟨cell_later hb q0,cell_later hb q1,cell_later hb q2⟩⟩
 clear q0 q1 q2
 go_region_held3 (fun w'=>Below w4.heap.size w4 w'∧(w'.cell? ⟨w.heap.size,0,none⟩=some (.int .i64 1)∧w'.cell? ⟨w.heap.size,1,none⟩=some (.int .i64 1)∧w'.cell? ⟨w.heap.size,2,none⟩=some (.int .i64 0)∧w'.cell? ⟨w.heap.size,3,none⟩=some (.int .i64 1)∧w'.cell? ⟨w.heap.size,4,none⟩=some (.int .i64 5)∧w'.cell? ⟨w.heap.size,5,none⟩=some (.int .i64 0))∧(w'.cell? ⟨g1,0,none⟩=some (.int .i64 X2.bk.clk)∧w'.cell? ⟨g1,1,none⟩=some (.slice a1 m1 c1)∧w'.cell? ⟨g1,2,none⟩=some (.slice a2 m2 c2)∧w'.cell? ⟨g1,3,none⟩=some (.slice (some ⟨b,off,none⟩) 1 c3)∧w'.cell? ⟨g1,4,none⟩=some (.int .i64 X2.bk.asks)∧w'.cell? ⟨g1,5,none⟩=some (.slice a4 m4 c4)∧w'.cell? ⟨g1,6,none⟩=some (.int .i64 X2.bk.au.try_)∧w'.cell? ⟨g1,7,none⟩=some (.int .i64 X2.bk.au.ph)∧w'.cell? ⟨g1,8,none⟩=some (.slice al.a1 al.m1 al.c1)∧w'.cell? ⟨g1,9,none⟩=some (.slice al.a2 al.m2 al.c2)∧w'.cell? ⟨g1,10,none⟩=some (.slice al.a3 al.m3 al.c3)∧w'.cell? ⟨g1,11,none⟩=some (.bool X2.bk.au.moved)∧w'.cell? ⟨g1,12,none⟩=some (.int .i64 X2.tk)∧w'.cell? ⟨g1,13,none⟩=some (.int .i64 X2.nx)∧w'.cell? ⟨g1,14,none⟩=some (.slice pa pm pc))∧(w'.cell? ⟨g4,0,none⟩=some (.int .i64 1)∧w'.cell? ⟨g4,1,none⟩=some (.int .i64 0))∧(w'.cell? ⟨b,off,none⟩=some (.int .i64 1)∧w'.cell? ⟨b,off + 1,none⟩=some (.int .i64 0)∧w'.cell? ⟨b,off + 2,none⟩=some (.int .i64 0)))
  (first | exact KP.out _ (Below.refl _ _).drew | (refine KP.out _ ?_; assumption))
  (first | (go_at_call 17; have hcur:=(‹Below w4.heap.size w4 _∧_∧_›).1; (with_reducible refine (O1.out _ hcur).mono ?_); rintro ee wn ⟨rfl,hb⟩; have hS:=held_next hcur hb; clear hb))
 all_goals (
  have hb4:=(‹Below w4.heap.size w4 _∧_∧_›).1
  rename_i hHz
  have HX5:=qH (HX4.out.later hb4 HX4.out.lt);have HC5:=qH (HC4.out.later hb4 HC4.out.lt);have HT5:=qH (HT4.out.later hb4 HT4.out.lt);have HI5:=qH (HI4.out.later hb4);have HB5:=qH (held_next HB4.out hb4);clear hHz hb4 O1 KP;obtain ⟨w5,hw5⟩:∃ z,z=wn:=⟨_,rfl⟩;subst hw5;obtain ⟨⟨z0,z1,z2,z3⟩,⟨z4,z5,z6,z7⟩,⟨z8,z9,z10,z11⟩,z12,z13,z14⟩:=nd_cells HX5.out;have d0:=HC5.out.cell 0;have d1:=HC5.out.cell 1;have d2:=HC5.out.cell 2
  have d3:=HC5.out.cell 3;have d4:=HC5.out.cell 4;have d5:=HC5.out.cell 5
  go_wp2_with fail
  clear z0 z1 z2 z3 z4 z5 z6 z7 z8 z9 z10 z11 z12 z13 z14 d0 d1 d2 d3 d4 d5;refine (ndDec_calls wakeC18 0 X2 _ 3 N4.out.1 N4.out.2.1 w5 HI5.out).mono ?_;rw [N6.out];rintro e w6 ⟨p3,rfl,hb,hs⟩;simp only at hs;have HX6:=qH (HX5.out.later hb HX5.out.lt);have HC6:=qH (HC5.out.later hb HC5.out.lt);have HT6:=qH (HT5.out.later hb HT5.out.lt);have HB6:=qH (held_next HB5.out hb);have HS6:=qH hs;have hg5:g1 < w5.heap.size:=HX5.out.lt
  have hg54:g4 < w5.heap.size:=HT5.out.lt;have Hg5:=qH (And.intro hg5 hg54);clear hb hs hg5 hg54
  try simp only
  obtain ⟨⟨e1,n1,f1,e2,n2,f2,e3,n3,f3,e4,n4,f4,al3⟩,qa,qm,qc⟩:=p3;have hm2:n2=1:=HS6.out.inn.1.2.1.1.trans N7.out.2.2.2;have hm3:n3=0:=HS6.out.inn.1.2.2.1.1.trans (by rw [N7.out.2.2.1]; rfl)
  subst hm2;subst hm3
  have hne:g1 ≠ g4:=fun e=>by
   have h1:=HX6.out; have h2:=HT6.out;rw [e] at h1
   exact absurd (h1.symm.trans h2) (by simp)
  have hne2:g4 ≠ g1:=fun e=>hne e.symm
  have hU0:ButS (fun b=>b=g1) w6 (nd15p w6 g1 X3 ⟨⟨e1,n1,f1,e2,1,f2,e3,0,f3,e4,n4,f4,al3⟩,qa,qm,qc⟩):=nd15_buts (ButS.refl _ _) rfl
  have hUw:ButS (fun b=>b=g1∨b=g4) w6 (nd15p w6 g1 X3 ⟨⟨e1,n1,f1,e2,1,f2,e3,0,f3,e4,n4,f4,al3⟩,qa,qm,qc⟩):=hU0.wide fun b e=>Or.inl e
  have hU:ButS (fun b=>b=g1∨b=g4) w6 (((nd15p w6 g1 X3 ⟨⟨e1,n1,f1,e2,1,f2,e3,0,f3,e4,n4,f4,al3⟩,qa,qm,qc⟩).setCell ⟨g4,0,none⟩ (.int .i64 2)).setCell ⟨g4,1,none⟩ (.int .i64 0)):=(hUw.set (p:=⟨g4,0,none⟩) (Or.inr rfl) _).set (p:=⟨g4,1,none⟩) (Or.inr rfl) _
  have hT1:=HT6.out;have hT2:Whole (nd15p w6 g1 X3 ⟨⟨e1,n1,f1,e2,1,f2,e3,0,f3,e4,n4,f4,al3⟩,qa,qm,qc⟩) g4 48 #[.int .i64 1,.int .i64 0]:=(hU0.2 g4 HT6.out.lt hne2).trans HT6.out;have hT3:=(hT2.set 0 (.int .i64 2)).set 1 (.int .i64 0);have HT7:=qH (show Whole (((nd15p w6 g1 X3 ⟨⟨e1,n1,f1,e2,1,f2,e3,0,f3,e4,n4,f4,al3⟩,qa,qm,qc⟩).setCell ⟨g4,0,none⟩ (.int .i64 2)).setCell ⟨g4,1,none⟩ (.int .i64 0)) g4 48 #[.int .i64 2,.int .i64 0] by simpa using hT3)
  have HX7:=qH (show Whole (((nd15p w6 g1 X3 ⟨⟨e1,n1,f1,e2,1,f2,e3,0,f3,e4,n4,f4,al3⟩,qa,qm,qc⟩).setCell ⟨g4,0,none⟩ (.int .i64 2)).setCell ⟨g4,1,none⟩ (.int .i64 0)) g1 39 (ndAtC X3 ⟨⟨e1,n1,f1,e2,1,f2,e3,0,f3,e4,n4,f4,al3⟩,qa,qm,qc⟩) from ((nd15_whole HX6.out).other (p:=⟨g4,0,none⟩) hne _).other (p:=⟨g4,1,none⟩) hne _)
  have HC7:=qH (show Whole (((nd15p w6 g1 X3 ⟨⟨e1,n1,f1,e2,1,f2,e3,0,f3,e4,n4,f4,al3⟩,qa,qm,qc⟩).setCell ⟨g4,0,none⟩ (.int .i64 2)).setCell ⟨g4,1,none⟩ (.int .i64 0)) w.heap.size 23 (cfCells wakeC18) from (hU.2 _ HC6.out.lt (fun e=>e.elim (fun e=>by have:=Hcl.out; omega) (fun e=>by
   have h1:=HC6.out; have h2:=HT6.out;rw [e] at h1
   exact absurd (h1.symm.trans h2) (by simp)))).trans HC6.out)
  have HI7:=qH (show NdIn (((nd15p w6 g1 X3 ⟨⟨e1,n1,f1,e2,1,f2,e3,0,f3,e4,n4,f4,al3⟩,qa,qm,qc⟩).setCell ⟨g4,0,none⟩ (.int .i64 2)).setCell ⟨g4,1,none⟩ (.int .i64 0)) ⟨⟨e1,n1,f1,e2,1,f2,e3,0,f3,e4,n4,f4,al3⟩,qa,qm,qc⟩ X3 from HS6.out _ (hU.wide fun b e=>by have:=Hg5.out; rcases e with e | e <;> omega))
  have hB1:Below w.heap.size w (nd15p w6 g1 X3 ⟨⟨e1,n1,f1,e2,1,f2,e3,0,f3,e4,n4,f4,al3⟩,qa,qm,qc⟩):=nd15_below HB6.out (by have:=Hcl.out; omega)
  have hg4w:w.heap.size≤g4:=by have h1:=Hg4.out; have h2:=HB3'.out.size; omega
  have HB7:=qH (show Below w.heap.size w (((nd15p w6 g1 X3 ⟨⟨e1,n1,f1,e2,1,f2,e3,0,f3,e4,n4,f4,al3⟩,qa,qm,qc⟩).setCell ⟨g4,0,none⟩ (.int .i64 2)).setCell ⟨g4,1,none⟩ (.int .i64 0)) from (hB1.setCell (p:=⟨g4,0,none⟩) hg4w _).setCell (p:=⟨g4,1,none⟩) hg4w _)
  obtain ⟨⟨z0,z1,z2,z3⟩,⟨z4,z5,z6,z7⟩,⟨z8,z9,z10,z11⟩,z12,z13,z14⟩:=nd_cells HX6.out;have y0:=HX6.out.free 0;have y1:=HX6.out.free 1;have y2:=HX6.out.free 2;have y3:=HX6.out.free 3;have y4:=HX6.out.free 4;have y5:=HX6.out.free 5;have y6:=HX6.out.free 6;have y7:=HX6.out.free 7;have y8:=HX6.out.free 8;have y9:=HX6.out.free 9;have y10:=HX6.out.free 10;have y11:=HX6.out.free 11;have y12:=HX6.out.free 12
  have y13:=HX6.out.free 13;have y14:=HX6.out.free 14;have u0:=HT6.out.free 0;have u1:=HT6.out.free 1;have v0:=HT6.out.cell 0;have v1:=HT6.out.cell 1;have hl6:=HX6.out.lt;have hl64:=HT6.out.lt;obtain ⟨⟨k0,k1,k2,k3⟩,⟨k4,k5,k6,k7⟩,⟨k8,k9,k10,k11⟩,k12,k13,k14⟩:=nd_cells HX7.out;obtain ⟨d0,d1,d2,d3,d4,d5⟩:=config_cells HC7.out;simp only [nd15p,nd15] at k0 k1 k2 k3 k4 k5 k6 k7 k8 k9 k10 k11 k12 k13 k14 d0 d1 d2 d3 d4 d5
  clear hU hU0 hUw hT1 hT2 hT3 hB1 hg4w
  go_wp2_with fail
  clear z0 z1 z2 z3 z4 z5 z6 z7 z8 z9 z10 z11 z12 z13 z14 y0 y1 y2 y3 y4 y5 y6 y7 y8 y9 y10 y11 y12 y13 y14 k0 k1 k2 k3 k4 k5 k6 k7 k8 k9 k10 k11 k12 k13 k14 d0 d1 d2 d3 d4 d5 u0 u1 v0 v1 hl6 hl64;obtain ⟨w7,Hw7⟩:∃ z,Hid ((((nd15p w6 g1 X3 ⟨⟨e1,n1,f1,e2,1,f2,e3,0,f3,e4,n4,f4,al3⟩,qa,qm,qc⟩).setCell ⟨g4,0,none⟩ (.int .i64 2)).setCell ⟨g4,1,none⟩ (.int .i64 0))=z):=⟨_,rfl⟩;rw [Hw7.out] at HT7 HX7 HC7 HI7 HB7
  have hw7:=Hw7.out;simp only [nd15p,nd15] at hw7;rw [hw7];clear hw7;have OT:=qH (ndTick_calls MlAny (fun _ _ _=>trivial) wakeC18 0 X3 ⟨⟨e1,n1,f1,e2,1,f2,e3,0,f3,e4,n4,f4,al3⟩,qa,qm,qc⟩ 0 (by decide) write_alone N7.out.1 N7.out.2.1 w7 HI7.out)
  rw [N8.out] at OT;refine OT.out.mono ?_;rintro e w8 ⟨p4,A,m,C,rfl,hm0,hb,hs,_⟩;simp only at hs;have hm:m=0:=hm0;clear hm0;subst hm;have HX8:=qH (HX7.out.later hb HX7.out.lt);have HT8:=qH (HT7.out.later hb HT7.out.lt);have HB8:=qH (held_next HB7.out hb);have hU8:ButS (fun b=>b=g1) w8 (nd15p w8 g1 X4 p4):=nd15_buts (ButS.refl _ _) rfl
  have hI9:NdIn (nd15p w8 g1 X4 p4) p4 X4:=hs _ (hU8.wide fun b e=>by have:=HX7.out.lt; omega)
  have hT9:Whole (nd15p w8 g1 X4 p4) g4 48 #[.int .i64 2,.int .i64 0]:=(hU8.2 g4 HT8.out.lt hne2).trans HT8.out;have HX9:=qH (nd15_whole (x:=X4) (rv:=.slice p4.bl.a1 p4.bl.m1 p4.bl.c1) (lv:=.slice p4.bl.a2 p4.bl.m2 p4.bl.c2) (ov:=.slice p4.bl.a3 p4.bl.m3 p4.bl.c3) (nv:=.slice p4.bl.a4 p4.bl.m4 p4.bl.c4) (tv:=.slice p4.bl.al.a1 p4.bl.al.m1 p4.bl.al.c1) (uv:=.slice p4.bl.al.a2 p4.bl.al.m2 p4.bl.al.c2) (iv:=.slice p4.bl.al.a3 p4.bl.al.m3 p4.bl.al.c3) (sv:=.slice p4.a p4.m p4.c) HX8.out)
  have HB9:=qH (show Below w.heap.size w (nd15p w8 g1 X4 p4) from nd15_below HB8.out (by have:=Hcl.out; omega))
  obtain ⟨hn0,hl9⟩:=hI9.1.2.2.1;rw [N9.out] at hn0 hl9;obtain ⟨b9,f9,ha9,k0',k1',k2'⟩:=hl9.at (i:=0) (by decide)
  have HI9:=qH hI9;clear hb hs hU8 hI9 hl9 OT;obtain ⟨⟨i1,o1,j1,i2,o2,j2,i3,o3,j3,i4,o4,j4,al4⟩,ra,rm,rc⟩:=p4;have ho3:o3=1:=hn0;have hi3:i3=some ⟨b9,f9,none⟩:=ha9;have q0:(nd15p w8 g1 X4 ⟨⟨i1,o1,j1,i2,o2,j2,i3,o3,j3,i4,o4,j4,al4⟩,ra,rm,rc⟩).cell? ⟨b9,f9,none⟩=some (.int .i64 2):=k0';have q1:(nd15p w8 g1 X4 ⟨⟨i1,o1,j1,i2,o2,j2,i3,o3,j3,i4,o4,j4,al4⟩,ra,rm,rc⟩).cell? ⟨b9,f9 + 1,none⟩=some (.int .i64 0):=k1'
  have q2:(nd15p w8 g1 X4 ⟨⟨i1,o1,j1,i2,o2,j2,i3,o3,j3,i4,o4,j4,al4⟩,ra,rm,rc⟩).cell? ⟨b9,f9 + 2,none⟩=some (.int .i64 7):=k2';clear k0' k1' k2' hn0 ha9;subst ho3;subst hi3;have v0:=hT9.cell 0;have v1:=hT9.cell 1;have k3:=HX9.out.cell 3;obtain ⟨⟨z0,z1,z2,z3⟩,⟨z4,z5,z6,z7⟩,⟨z8,z9,z10,z11⟩,z12,z13,z14⟩:=nd_cells HX8.out;have y0:=HX8.out.free 0;have y1:=HX8.out.free 1;have y2:=HX8.out.free 2;have y3:=HX8.out.free 3
  have y4:=HX8.out.free 4;have y5:=HX8.out.free 5;have y6:=HX8.out.free 6;have y7:=HX8.out.free 7;have y8:=HX8.out.free 8;have y9:=HX8.out.free 9;have y10:=HX8.out.free 10;have y11:=HX8.out.free 11;have y12:=HX8.out.free 12;have y13:=HX8.out.free 13;have y14:=HX8.out.free 14;have hl8:=HX8.out.lt;simp only [nd15p,nd15] at q0 q1 q2 v0 v1 k3;clear hT9
  go_wp2_with fail
  clear z0 z1 z2 z3 z4 z5 z6 z7 z8 z9 z10 z11 z12 z13 z14 y0 y1 y2 y3 y4 y5 y6 y7 y8 y9 y10 y11 y12 y13 y14 hl8
  go_quiet (fail)
  go_wp2_with fail
  go_ret
  exact ⟨by rfl,below_drewN HB9.out nq⟩)
end Go.Proofs.YtecjnkokdnmhlaaGreat
namespace Go.Proofs.YtecjnkokdnmhlaaGreat
open Go.RowKit
set_option maxRecDepth 100000 in
set_option maxHeartbeats 4000000 in
theorem refcfg_no (n q r p k c:Int) (w:World) (h:n < 1∨16 < n∨q < 1∨8 < q∨r < 0∨8 < r∨p < 1∨16 < p∨k < 0∨c < 0):Calls Tryz.prog 127 #[cfV ⟨n,q,r,p,k,c⟩] w (Says w false):=by
 by_cases h1:n < 1
 · clear h
   go_enter Tryz.func127,Tryz.ntmps127
   go_wp2
   go_ret
   exact ⟨rfl,below_box _ _⟩
 by_cases h2:16 < n
 · clear h
   go_enter Tryz.func127,Tryz.ntmps127
   go_wp2
   go_ret
   exact ⟨rfl,below_box _ _⟩
 by_cases h3:q < 1
 · clear h
   go_enter Tryz.func127,Tryz.ntmps127
   go_wp2
   go_ret
   exact ⟨rfl,below_box _ _⟩
 by_cases h4:8 < q
 · clear h
   go_enter Tryz.func127,Tryz.ntmps127
   go_wp2
   go_ret
   exact ⟨rfl,below_box _ _⟩
 by_cases h5:r < 0
 · clear h
   go_enter Tryz.func127,Tryz.ntmps127
   go_wp2
   go_ret
   exact ⟨rfl,below_box _ _⟩
 by_cases h6:8 < r
 · clear h
   go_enter Tryz.func127,Tryz.ntmps127
   go_wp2
   go_ret
   exact ⟨rfl,below_box _ _⟩
 by_cases h7:p < 1
 · clear h
   go_enter Tryz.func127,Tryz.ntmps127
   go_wp2
   go_ret
   exact ⟨rfl,below_box _ _⟩
 by_cases h8:16 < p
 · clear h
   go_enter Tryz.func127,Tryz.ntmps127
   go_wp2
   go_ret
   exact ⟨rfl,below_box _ _⟩
 by_cases h9:k < 0
 · clear h
   go_enter Tryz.func127,Tryz.ntmps127
   go_wp2
   go_ret
   exact ⟨rfl,below_box _ _⟩
 by_cases h10:c < 0
 · clear h
   go_enter Tryz.func127,Tryz.ntmps127
   go_wp2
   go_ret
   exact ⟨rfl,below_box _ _⟩
 omega
set_option maxRecDepth 100000 in
set_option maxHeartbeats 1000000 in
theorem refcfg_loop (n q r p k c:Int) (w:World) (h1:1≤n) (h2:n≤16) (h3:1≤q) (h4:q≤8) (h5:0≤r) (h6:r≤8) (h7:1≤p) (h8:p≤16) (h9:0≤k) (h10:0≤c) :
 Calls Tryz.prog 127 #[cfV ⟨n,q,r,p,k,c⟩] w (Says w (cfB ⟨n,q,r,p,k,c⟩)):=by
 obtain ⟨b,Hbb⟩:∃ b,Hid (cfB ⟨n,q,r,p,k,c⟩=b):=⟨_,rfl⟩;rw [Hbb.out]
 go_enter Tryz.func127,Tryz.ntmps127
 go_wp2
 go_loop [3,4] (fun l i=>∃ (j:Nat) (L:Int),(j:Int)≤n∧i=.int .i64 j∧l=.int .i64 L∧0≤L∧L≤1099511627776∧Hid (L=1099511627776 - (j:Int) * c)) (fun _ i=>(n - intOf i).toNat)
 case atStart=>exact ⟨0,1099511627776,by omega,rfl,rfl,by omega,by omega,show _=_ by simp⟩
 case round =>
  obtain ⟨j,L,hj,rfl,rfl,hL0,hL1,HL⟩:=hrel
  by_cases hlt:(j:Int) < n
  · by_cases hc:L < c
    · obtain rfl:b=false:=by
       refine Hbb.out.symm.trans (cfB_no fun h=>?_)
       have h11:=h.2.2.2.2.2.2.2.2.2.2;have h12:=mul_step (k:=(j:Int)) hlt h10;have h13:=HL.out;simp only at h11
       omega
      go_wp2
      go_ret
      exact ⟨rfl,below_box _ _⟩
    · have hs:=mul_succ' j c
      have Hs:=qH hs; clear hs
      go_wp2
      go_round
      case rel=>exact ⟨j + 1,L - c,by omega,by go_num,rfl,by omega,by omega,show _=_ by rw [Hs.out,HL.out]; omega⟩
      case measure=>simp [intOf]; omega
  · have hjn:n=(j:Int):=by omega
    have HL':=HL.out;rw [← hjn] at HL'
    by_cases hk:k≤L
    · obtain rfl:b=true:=Hbb.out.symm.trans (cfB_yes ⟨h1,h2,h3,h4,h5,h6,h7,h8,h9,h10,by show k + n * c≤_; omega⟩)
      clear HL';have Hjn:=qH hjn; clear hjn
      go_wp2
      go_ret
      exact ⟨by simp,below_box _ _⟩
    · obtain rfl:b=false:=Hbb.out.symm.trans (cfB_no fun h=>by
       have h11:=h.2.2.2.2.2.2.2.2.2.2;simp only at h11
       omega)
      clear HL';have Hjn:=qH hjn; clear hjn
      go_wp2
      go_ret
      exact ⟨by simp,below_box _ _⟩
theorem refcfg_calls (c:Cf) (w:World):Calls Tryz.prog 127 #[cfV c] w (Says w (cfB c)):=by
 obtain ⟨n,q,r,p,k,cc⟩:=c
 by_cases h:n < 1∨16 < n∨q < 1∨8 < q∨r < 0∨8 < r∨p < 1∨16 < p∨k < 0∨cc < 0
 · rw [cfB_no (fun h'=>by unfold cfOk at h'; simp only at h'; omega)]
   exact refcfg_no n q r p k cc w h
 · exact refcfg_loop n q r p k cc w (by omega) (by omega) (by omega) (by omega) (by omega) (by omega) (by omega) (by omega) (by omega) (by omega)
end Go.Proofs.YtecjnkokdnmhlaaGreat
namespace Go.Proofs.YtecjnkokdnmhlaaGreat
open Go.RowKit
set_option maxHeartbeats 400000 in
theorem refolder_calls (t a u b:Int) (w:World) :
 Calls Tryz.prog 129 #[stampV t a,stampV u b] w (Says w (olderB t a u b)):=by
 by_cases h1:t < u
 · rw [olderB_yes (Or.inl h1)]
   go_enter Tryz.func129,Tryz.ntmps129
   go_wp2_with fail
   go_ret
   exact ⟨by simp_all,below_two _ _ _⟩
 · by_cases h2:t=u
   · subst h2
     by_cases h3:a < b
     · rw [olderB_yes (Or.inr ⟨rfl,h3⟩)]
       go_enter Tryz.func129,Tryz.ntmps129
       go_wp2_with fail
       go_ret
       exact ⟨by simp_all,below_two _ _ _⟩
     · rw [olderB_no (by omega)]
       go_enter Tryz.func129,Tryz.ntmps129
       go_wp2_with fail
       go_ret
       exact ⟨by simp_all,below_two _ _ _⟩
   · rw [olderB_no (by omega)]
     have hn:(t == u)=false:=beq_eq_false_iff_ne.2 h2
     go_enter Tryz.func129,Tryz.ntmps129
     go_wp2_with fail
     go_ret
     exact ⟨by simp_all,below_two _ _ _⟩
end Go.Proofs.YtecjnkokdnmhlaaGreat
