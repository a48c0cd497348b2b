/- Parts, as far as NodeAtOnceCards reaches them, of: BookNewK, NodeNew, NodePassMath, NodePassWords. No law is proved here. -/
import Derived.Test.YtecjnkokdnmhlaaGreatTa29
namespace Go.Proofs.YtecjnkokdnmhlaaGreat
open Go.RowKit
theorem notes_stay {B n:Nat} {w:World} {A:Option Addr} {C:Nat} {l:List Nt} (hn:n=l.length) (h:Notes w (.slice A n C) l) (hne:0 < n→∀ ad,A=some ad→B≤ad.block):Stay (fun b=>b < B) w (fun W=>Notes W (.slice A n C) l):=by
 subst hn; exact elems_stay h hne
def GaveKF (w:World) (x:Bk × Int) (e:Ending) (w':World):Prop:=∃ p:Bl,e=.returned (.tuple #[bkAt x.1 p,.int .i64 x.2])∧BkIn w' p x.1∧Below w.heap.size w w'∧Stay (fun b=>b < w.heap.size) w' (fun V=>BkIn V p x.1)
set_option maxRecDepth 100000 in
set_option maxHeartbeats 8000000 in
theorem kNew_far (c:Cf) (who:Int) (w:World):Calls Tryz.prog 76 #[cfV c,.int .i64 who] w (GaveKF w (newK c who)):=by
 have HW:=qH ((Whole.made w 23 (cfCells c)).alloc (.cells (bkCells bk0 (.slice none 0 0) (.slice none 0 0) (.slice none 0 0) (.slice none 0 0) (.slice none 0 0) (.slice none 0 0) (.slice none 0 0)) 35));have HZ:=qH (Whole.made2 w (.cells (cfCells c) 23) 35 (bkCells bk0 (.slice none 0 0) (.slice none 0 0) (.slice none 0 0) (.slice none 0 0) (.slice none 0 0) (.slice none 0 0) (.slice none 0 0)));have Hb0:=qH (below_two w (.cells (cfCells c) 23) (.cells (bkCells bk0 (.slice none 0 0) (.slice none 0 0) (.slice none 0 0) (.slice none 0 0) (.slice none 0 0) (.slice none 0 0) (.slice none 0 0)) 35))
 obtain ⟨nn,q,r,p,kk,cc⟩:=c;obtain ⟨ok,Hok⟩:∃ z,Hid (amB ⟨nn,q,r,p,kk,cc⟩ who=z):=⟨_,rfl⟩;obtain ⟨res,Hres⟩:∃ z,Hid (newK ⟨nn,q,r,p,kk,cc⟩ who=z):=⟨_,qH rfl⟩;have hcall:=fun w=>kamong_calls ⟨nn,q,r,p,kk,cc⟩ who w
 rw [Hok.out] at hcall;have Hcall:=qH hcall;clear hcall;rw [Hres.out]
 go_enter Tryz.func76,Tryz.ntmps76
 go_wp2_with fail
 refine (Hcall.out _).mono ?_;rintro e w1 ⟨rfl,hb⟩;have Hb1:=qH (held_next Hb0.out hb);have HW1:=qH (HW.out.later hb HW.out.lt);have HZ1:=qH (HZ.out.later hb HZ.out.lt);clear hb;have hlt1:=HZ1.out.lt;obtain ⟨d0,d1,d2,d3,d4,d5⟩:=config_cells HW1.out;simp only at d0 d1 d2 d3 d4 d5
 by_cases hall:cfOk ⟨nn,q,r,p,kk,cc⟩∧0≤who∧who < nn
 · obtain ⟨hc,hw0,hwn⟩:=hall
   obtain rfl:ok=true:=Hok.out.symm.trans (decide_eq_true ⟨hc,hw0,hwn⟩);obtain ⟨N,hN⟩:∃ N:Nat,nn=(N:Int):=⟨nn.toNat,by have h:1≤nn:=hc.1; omega⟩
   subst hN;have h16:N≤16:=by have h:(N:Int)≤16:=hc.2.1; omega
   obtain ⟨L,HL⟩:∃ z,Hid (newL ⟨(N:Int),q,r,p,kk,cc⟩=z):=⟨_,qH rfl⟩
   have hlen:L.length=N∧∀ k,k < L.length→(at_ L k).out.length≤1000:=by
    have e:newL ⟨(N:Int),q,r,p,kk,cc⟩=List.replicate N (zeroRow N):=by
     show (if cfOk ⟨(N:Int),q,r,p,kk,cc⟩ then List.replicate ((N:Int)).toNat (zeroRow ((N:Int)).toNat) else [])=_
     rw [if_pos hc,Int.toNat_natCast]
    rw [← HL.out,e];refine ⟨List.length_replicate,fun k hk=>?_⟩
    rw [List.length_replicate] at hk
    unfold at_
    rw [List.getElem?_replicate,if_pos hk]
    show (zeroRow N).out.length≤1000
    simp only [zeroRow,List.length_replicate]
    omega
   have Hlen:=qH hlen
   have hx:newK ⟨(N:Int),q,r,p,kk,cc⟩ who=(⟨0,L,[],[],0,List.replicate N nt0,au0⟩,0):=by
    show (if cfOk ⟨(N:Int),q,r,p,kk,cc⟩∧0≤who∧who < (N:Int) then _ else _)=_
    rw [if_pos ⟨hc,hw0,hwn⟩,HL.out]
    show (_,_)=(_,_)
    rw [Int.toNat_natCast]
   obtain rfl:res=(⟨0,L,[],[],0,List.replicate N nt0,au0⟩,0):=Hres.out.symm.trans hx;have g1:¬ who < 0:=by omega
   have g2:¬ (N:Int)≤who:=by omega
   have Hc:=qH hc;clear hc hx hlen hwn hw0;have hmk:∀ w:World,(Instr.makeSlice 27 (.int .i64 (N:Int)) (.int .i64 (N:Int))).run Tryz.prog w=.ok (.slice (some ⟨w.heap.size,0,none⟩) N N) (w.alloc (.cells (madeCells zero7 (N * 7)) 113)):=fun w=>run_make_notes (by omega)
   go_wp2_with fail
   refine wp_region_each_at ?hm ?hb (fun a0 d a' w'=>∃ (e0 e1 e2 e3 e4 e5 e7:Value) (A1:Option Addr) (C1 g4:Nat),a'=putAll a0 [(11,e0),(12,e1),(13,e2),(14,e3),(15,e4),(16,e5),(5,e7)]∧Below w.heap.size w w'∧(d 0=true→e0=(cfV ⟨(N:Int),q,r,p,kk,cc⟩))∧(d 1=true→(e1=.slice A1 L.length C1∧∃ B,w1.heap.size≤B∧OwnBooks w' B (.slice A1 L.length C1) L))∧(d 2=true→e2=(.pointer (some ⟨w.heap.size,0,none⟩)))∧(d 3=true→e3=(.int .i64 (N:Int)))∧(d 4=true→(e4=.slice (some ⟨g4,0,none⟩) N N∧Notes w' (.slice (some ⟨g4,0,none⟩) N N) (List.replicate N nt0)∧w1.heap.size≤g4))∧(d 5=true→(d 1=true∧d 4=true∧e5=.agg (bkCells ⟨0,L,[],[],0,List.replicate N nt0,au0⟩ (.slice A1 L.length C1) (.slice none 0 0) (.slice none 0 0) (.slice (some ⟨g4,0,none⟩) N N) (.slice none 0 0) (.slice none 0 0) (.slice none 0 0))))∧(d 6=true→(d 1=true∧d 4=true∧d 5=true∧Whole w' (w.heap.size + 1) 35 (bkCells ⟨0,L,[],[],0,List.replicate N nt0,au0⟩ (.slice A1 L.length C1) (.slice none 0 0) (.slice none 0 0) (.slice (some ⟨g4,0,none⟩) N N) (.slice none 0 0) (.slice none 0 0) (.slice none 0 0))))∧(d 7=true→(e7=.int .i64 0))∧(d 6=false→Whole w' (w.heap.size + 1) 35 (bkCells bk0 (.slice none 0 0) (.slice none 0 0) (.slice none 0 0) (.slice none 0 0) (.slice none 0 0) (.slice none 0 0) (.slice none 0 0)))∧Whole w' w.heap.size 23 (cfCells ⟨(N:Int),q,r,p,kk,cc⟩)∧w1.heap.size≤w'.heap.size) ?h0 ?step ?ends
   case hm=>kernel_rfl
   case hb=>kernel_rfl
   case h0 =>
    refine ⟨undef,undef,undef,undef,undef,undef,.int .i64 0,none,0,0,?_,Hb1.out.drew,fun h=>absurd h (by decide),fun h=>absurd h (by decide),fun h=>absurd h (by decide),fun h=>absurd h (by decide),fun h=>absurd h (by decide),fun h=>absurd h (by decide),fun h=>absurd h (by decide),fun h=>absurd h (by decide),fun _=>HZ1.out.drew,HW1.out.drew,Nat.le_refl _⟩
    simp only [putAll,Act.put,qA,qB,qC]
   case step =>
    intro i d a' w' hi hJ hd hk;obtain ⟨e0,e1,e2,e3,e4,e5,e7,A1,C1,g4,rfl,hC⟩:=hJ;obtain ⟨hB,hC⟩:=hC;obtain ⟨c0,hC⟩:=hC;obtain ⟨c1,hC⟩:=hC;obtain ⟨c2,hC⟩:=hC;obtain ⟨c3,hC⟩:=hC;obtain ⟨c4,hC⟩:=hC;obtain ⟨c5,hC⟩:=hC;obtain ⟨c6,hC⟩:=hC;obtain ⟨c7,hC⟩:=hC;obtain ⟨cg,hC⟩:=hC;obtain ⟨cw,hC⟩:=hC;have cz:=hC;clear hC
    match i,hi,hd,hk with
    | 0, _, hd, hk =>
      obtain ⟨z0,z1,z2,z3,z4,z5⟩:=config_cells cw;simp only at z0 z1 z2 z3 z4 z5;apply wpOp_at
      case ho=>rfl
      intro K hK;simp only [putAll,Act.put,qA,qB,qC];go_simp;refine hK _ _ ⟨(cfV ⟨(N:Int),q,r,p,kk,cc⟩),e1,e2,e3,e4,e5,e7,A1,C1,g4,?_,hB,fun _=>rfl,c1,c2,c3,c4,c5,c6,c7,cg,cw,cz⟩
      simp only [putAll,Act.put,qA,qB,qC]
      all_goals rfl
    | 1, _, hd, hk =>
      have h0:=hk 0 (by decide +kernel)
      obtain rfl:=c0 h0;apply wpOp_at
      case ho=>rfl
      intro K hK;simp only [putAll,Act.put,qA,qB,qC];go_simp;refine (rNew_own ⟨(N:Int),q,r,p,kk,cc⟩ w').mono ?_;rw [HL.out];rintro e w'' ⟨A,C,B9,rfl,hB9,hO,hb⟩;refine hK _ _ ⟨(cfV ⟨(N:Int),q,r,p,kk,cc⟩),.slice A L.length C,e2,e3,e4,e5,e7,A,C,g4,?_,hB.trans (hb.mono hB.size),c0,fun _=>⟨rfl,B9,Nat.le_trans cz hB9,hO⟩,c2,c3,fun h=>⟨(c4 h).1,(c4 h).2.1.later hb,(c4 h).2.2⟩,fun h=>Bool.noConfusion (hd.symm.trans (c5 h).1),fun h=>Bool.noConfusion (hd.symm.trans (c6 h).1),c7,fun h=>(cg h).later hb (cg h).lt,cw.later hb cw.lt,Nat.le_trans cz hb.size⟩
      simp only [putAll,Act.put,qA,qB,qC]
      all_goals rfl
    | 2, _, hd, hk =>
      apply wpOp_at
      case ho=>rfl
      intro K hK;simp only [putAll,Act.put,qA,qB,qC];go_simp;refine hK _ _ ⟨e0,e1,(.pointer (some ⟨w.heap.size,0,none⟩)),e3,e4,e5,e7,A1,C1,g4,?_,hB,c0,c1,fun _=>rfl,c3,c4,c5,c6,c7,cg,cw,cz⟩
      simp only [putAll,Act.put,qA,qB,qC]
      all_goals rfl
    | 3, _, hd, hk =>
      have h2:=hk 2 (by decide +kernel)
      obtain rfl:=c2 h2;obtain ⟨z0,z1,z2,z3,z4,z5⟩:=config_cells cw;simp only at z0 z1 z2 z3 z4 z5;apply wpOp_at
      case ho=>rfl
      intro K hK;simp only [putAll,Act.put,qA,qB,qC];go_simp;refine hK _ _ ⟨e0,e1,(.pointer (some ⟨w.heap.size,0,none⟩)),(.int .i64 (N:Int)),e4,e5,e7,A1,C1,g4,?_,hB,c0,c1,c2,fun _=>rfl,c4,c5,c6,c7,cg,cw,cz⟩
      simp only [putAll,Act.put,qA,qB,qC]
      all_goals rfl
    | 4, _, hd, hk =>
      have h3:=hk 3 (by decide +kernel)
      obtain rfl:=c3 h3;have hb:=below_box w' (.cells (madeCells zero7 (N * 7)) 113);have hnt:=notes_zero (m:=N) (by omega) (Whole.made w' 113 (madeCells zero7 (N * 7)))
      apply wpOp_at
      case ho=>rfl
      intro K hK;simp only [putAll,Act.put,qA,qB,qC];go_simp
      refine hK _ _ ⟨e0,e1,e2,(.int .i64 (N:Int)),.slice (some ⟨w'.heap.size,0,none⟩) N N,e5,e7,A1,C1,w'.heap.size,?_,hB.trans (hb.mono hB.size),c0,fun h=>by
       obtain ⟨h1,B,h2,h3⟩:=c1 h
       exact ⟨h1,B,h2,h3.later hb⟩,c2,c3,fun _=>⟨rfl,hnt,cz⟩,fun h=>Bool.noConfusion (hd.symm.trans (c5 h).2.1),fun h=>Bool.noConfusion (hd.symm.trans (c6 h).2.1),c7,fun h=>(cg h).later hb (cg h).lt,cw.later hb cw.lt,Nat.le_trans cz hb.size⟩
      simp only [putAll,Act.put,qA,qB,qC]
      all_goals rfl
    | 5, _, hd, hk =>
      have h1:=hk 1 (by decide +kernel)
      have h4:=hk 4 (by decide +kernel)
      obtain ⟨rfl,hp1⟩:=c1 h1;obtain ⟨rfl,hp4⟩:=c4 h4;apply wpOp_at
      case ho=>rfl
      intro K hK;simp only [putAll,Act.put,qA,qB,qC];go_simp;refine hK _ _ ⟨e0,.slice A1 L.length C1,e2,e3,.slice (some ⟨g4,0,none⟩) N N,.agg (bkCells ⟨0,L,[],[],0,List.replicate N nt0,au0⟩ (.slice A1 L.length C1) (.slice none 0 0) (.slice none 0 0) (.slice (some ⟨g4,0,none⟩) N N) (.slice none 0 0) (.slice none 0 0) (.slice none 0 0)),e7,A1,C1,g4,?_,hB,c0,fun _=>⟨rfl,hp1⟩,c2,c3,fun _=>⟨rfl,hp4⟩,fun _=>⟨h1,h4,rfl⟩,fun h=>⟨(c6 h).1,(c6 h).2.1,rfl,(c6 h).2.2.2⟩,c7,cg,cw,cz⟩
      simp only [putAll,Act.put,qA,qB,qC]
      all_goals rfl
    | 6, _, hd, hk =>
      have h5:=hk 5 (by decide +kernel)
      obtain ⟨h1,h4,rfl⟩:=c5 h5;obtain ⟨rfl,B,hB1,hO1⟩:=c1 h1;obtain ⟨rfl,hn4,hg4⟩:=c4 h4;have hZ:=cg hd;have y0:=hZ.free 0;have y1:=hZ.free 1;have y2:=hZ.free 2;have y3:=hZ.free 3;have y4:=hZ.free 4;have y5:=hZ.free 5;have y6:=hZ.free 6;have y7:=hZ.free 7;have y8:=hZ.free 8;have y9:=hZ.free 9;have y10:=hZ.free 10;have y11:=hZ.free 11;obtain ⟨⟨z0,z1,z2,z3⟩,⟨z4,z5,z6,z7⟩,z8,z9,z10,z11⟩:=bk_cells hZ
      have hwh:=bk12_whole (x:=⟨0,L,[],[],0,List.replicate N nt0,au0⟩) (rv:=.slice A1 L.length C1) (lv:=.slice none 0 0) (ov:=.slice none 0 0) (nv:=.slice (some ⟨g4,0,none⟩) N N) (tv:=.slice none 0 0) (uv:=.slice none 0 0) (iv:=.slice none 0 0) hZ;have hbl:=bk12_below (g:=w.heap.size + 1) (x:=⟨0,L,[],[],0,List.replicate N nt0,au0⟩) (rv:=.slice A1 L.length C1) (lv:=.slice none 0 0) (ov:=.slice none 0 0) (nv:=.slice (some ⟨g4,0,none⟩) N N) (tv:=.slice none 0 0) (uv:=.slice none 0 0) (iv:=.slice none 0 0) hB (by omega)
      have hlb:=bk12_below (g:=w.heap.size + 1) (x:=⟨0,L,[],[],0,List.replicate N nt0,au0⟩) (rv:=.slice A1 L.length C1) (lv:=.slice none 0 0) (ov:=.slice none 0 0) (nv:=.slice (some ⟨g4,0,none⟩) N N) (tv:=.slice none 0 0) (uv:=.slice none 0 0) (iv:=.slice none 0 0) (Below.refl (w.heap.size + 1) w') (Nat.le_refl _);have hO6:=bk12_own (g:=w.heap.size + 1) (x:=⟨0,L,[],[],0,List.replicate N nt0,au0⟩) (rv:=.slice A1 L.length C1) (lv:=.slice none 0 0) (ov:=.slice none 0 0) (nv:=.slice (some ⟨g4,0,none⟩) N N) (tv:=.slice none 0 0) (uv:=.slice none 0 0) (iv:=.slice none 0 0) hO1 (by omega)
      have hN6:=bk12_notes (g:=w.heap.size + 1) (x:=⟨0,L,[],[],0,List.replicate N nt0,au0⟩) (rv:=.slice A1 L.length C1) (lv:=.slice none 0 0) (ov:=.slice none 0 0) (nv:=.slice (some ⟨g4,0,none⟩) N N) (tv:=.slice none 0 0) (uv:=.slice none 0 0) (iv:=.slice none 0 0) hn4 List.length_replicate.symm (fun ad had=>by cases had; show g4 ≠ w.heap.size + 1; omega)
      apply wpOp_at
      case ho=>rfl
      intro K hK;simp only [putAll,Act.put,qA,qB,qC];go_simp;refine hK _ _ ⟨e0,.slice A1 L.length C1,e2,e3,.slice (some ⟨g4,0,none⟩) N N,.agg (bkCells ⟨0,L,[],[],0,List.replicate N nt0,au0⟩ (.slice A1 L.length C1) (.slice none 0 0) (.slice none 0 0) (.slice (some ⟨g4,0,none⟩) N N) (.slice none 0 0) (.slice none 0 0) (.slice none 0 0)),e7,A1,C1,g4,?_,hbl,c0,fun _=>⟨rfl,B,hB1,hO6⟩,c2,c3,fun _=>⟨rfl,hN6,hg4⟩,fun _=>⟨h1,h4,rfl⟩,fun _=>⟨h1,h4,h5,hwh⟩,c7,fun h=>Bool.noConfusion (show true=false from h),cw.later hlb (Nat.lt_succ_self _),Nat.le_trans cz hlb.size⟩
      simp only [putAll,Act.put,qA,qB,qC]
      all_goals rfl
    | 7, _, hd, hk =>
      have h6:=hk 6 (by decide +kernel)
      obtain ⟨h1,h4,h5,hwh⟩:=c6 h6;obtain ⟨rfl,hp1⟩:=c1 h1;obtain ⟨rfl,hp4⟩:=c4 h4;obtain ⟨_,_,rfl⟩:=c5 h5;apply wpOp_at
      case ho=>rfl
      intro K hK;simp only [putAll,Act.put,qA,qB,qC];go_simp;refine hK _ _ ⟨e0,.slice A1 L.length C1,e2,e3,.slice (some ⟨g4,0,none⟩) N N,.agg (bkCells ⟨0,L,[],[],0,List.replicate N nt0,au0⟩ (.slice A1 L.length C1) (.slice none 0 0) (.slice none 0 0) (.slice (some ⟨g4,0,none⟩) N N) (.slice none 0 0) (.slice none 0 0) (.slice none 0 0)),.int .i64 0,A1,C1,g4,?_,hB,c0,fun _=>⟨rfl,hp1⟩,c2,c3,fun _=>⟨rfl,hp4⟩,fun _=>⟨h1,h4,rfl⟩,c6,fun _=>rfl,cg,cw,cz⟩
      simp only [putAll,Act.put,qA,qB,qC]
      all_goals rfl
    | k + 8,hi,_,_=>exact absurd hi (by simp)
   case ends =>
    intro d a' w9 hJ hall;obtain ⟨e0,e1,e2,e3,e4,e5,e7,A1,C1,g4,rfl,hC⟩:=hJ;obtain ⟨hB,hC⟩:=hC;obtain ⟨c0,hC⟩:=hC;obtain ⟨c1,hC⟩:=hC;obtain ⟨c2,hC⟩:=hC;obtain ⟨c3,hC⟩:=hC;obtain ⟨c4,hC⟩:=hC;obtain ⟨c5,hC⟩:=hC;obtain ⟨c6,hC⟩:=hC;obtain ⟨c7,hC⟩:=hC;obtain ⟨cg,hC⟩:=hC;obtain ⟨cw,hC⟩:=hC;have cz:=hC;clear hC;obtain ⟨h1,h4,h5,hwh⟩:=c6 (hall 6 (by decide +kernel))
    obtain ⟨rfl,B,hB1,hO1⟩:=c1 h1;obtain ⟨rfl,hn4,hg4⟩:=c4 h4;obtain ⟨_,_,rfl⟩:=c5 h5;obtain rfl:=c7 (hall 7 (by decide +kernel))
    have HE:=qH hwh;have HO:=qH hO1;have HN:=qH hn4;have HBE:=qH hB;clear c0 c1 c2 c3 c4 c5 c6 c7 cg cw cz hall hwh hO1 hn4 hB h1 h4 h5;simp only [putAll,Act.put,qA,qB,qC];obtain ⟨⟨Z0,Z1,Z2,Z3⟩,⟨Z4,Z5,Z6,Z7⟩,Z8,Z9,Z10,Z11⟩:=bk_cells HE.out;simp only at Z0 Z1 Z2 Z3 Z4 Z5 Z6 Z7 Z8 Z9 Z10 Z11
    go_wp2_with fail
    obtain ⟨A9,C9,e9,hbk⟩:=HO.out.books (by have:=Hlen.out.1; omega) (fun k hk=>by have:=Hlen.out.2 k hk; omega)
    simp only [Value.slice.injEq] at e9;obtain ⟨rfl,_,rfl⟩:=e9;refine bodyPost_ret (v:=.tuple #[bkAt ⟨0,L,[],[],0,List.replicate N nt0,au0⟩ ⟨A1,L.length,C1,none,0,0,none,0,0,some ⟨g4,0,none⟩,N,N,⟨none,0,0,none,0,0,none,0,0⟩⟩,.int .i64 0]) (by simp [results,Tryz.results76,go_sem,Z0,Z1,Z2,Z3,Z4,Z5,Z6,Z7,Z8,Z9,Z10,Z11]) rfl ⟨_,rfl,⟨⟨rfl,hbk⟩,⟨rfl,Line.nil _ _ _ (fun _=>rfl)⟩,⟨rfl,Line.nil _ _ _ (fun _=>rfl)⟩,⟨List.length_replicate.symm,HN.out⟩,au_in0 _⟩,HBE.out,fun V hV=>⟨⟨rfl,(HO.out.butS (fun b (hb:b < w.heap.size)=>by have:=Hb1.out.size; omega) hV).here hbk.long⟩,⟨rfl,Line.nil _ _ _ (fun _=>rfl)⟩,⟨rfl,Line.nil _ _ _ (fun _=>rfl)⟩,⟨List.length_replicate.symm,notes_stay (B:=w.heap.size) List.length_replicate.symm HN.out (fun _ ad e=>by cases e; show w.heap.size≤g4; have:=Hb1.out.size; omega) V hV⟩,au_in0 _⟩⟩
 · have hno:newK ⟨nn,q,r,p,kk,cc⟩ who=(bk0,1):=if_neg hall
   obtain rfl:res=(bk0,1):=Hres.out.symm.trans hno;clear hno;have y0:=HZ1.out.free 0;have y1:=HZ1.out.free 1;have y2:=HZ1.out.free 2;have y3:=HZ1.out.free 3;have y4:=HZ1.out.free 4;have y5:=HZ1.out.free 5;have y6:=HZ1.out.free 6;have y7:=HZ1.out.free 7;have y8:=HZ1.out.free 8;have y9:=HZ1.out.free 9;have y10:=HZ1.out.free 10;have y11:=HZ1.out.free 11;obtain ⟨⟨z0,z1,z2,z3⟩,⟨z4,z5,z6,z7⟩,z8,z9,z10,z11⟩:=bk_cells HZ1.out
   simp only at z0 z1 z2 z3 z4 z5 z6 z7 z8 z9 z10 z11;have HZn:=qH (bk12_whole (x:=bk0) (rv:=.slice none 0 0) (lv:=.slice none 0 0) (ov:=.slice none 0 0) (nv:=.slice none 0 0) (tv:=.slice none 0 0) (uv:=.slice none 0 0) (iv:=.slice none 0 0) HZ1.out);have hend:∀ W,W=bk12 w1 (w.heap.size + 1) bk0 (.slice none 0 0) (.slice none 0 0) (.slice none 0 0) (.slice none 0 0) (.slice none 0 0) (.slice none 0 0) (.slice none 0 0)→Below w.heap.size w W:=fun W e=>by rw [e]; exact bk12_below Hb1.out (by omega)
   have Hend:=qH hend;clear hend;have Hall:=qH hall;clear hall;obtain rfl:ok=false:=Hok.out.symm.trans (decide_eq_false Hall.out)
   go_wp2_with fail
   obtain ⟨⟨Z0,Z1,Z2,Z3⟩,⟨Z4,Z5,Z6,Z7⟩,Z8,Z9,Z10,Z11⟩:=bk_cells HZn.out;simp only [bk12] at Z0 Z1 Z2 Z3 Z4 Z5 Z6 Z7 Z8 Z9 Z10 Z11;refine bodyPost_ret (v:=.tuple #[bkAt bk0 bl0,.int .i64 1]) (by simp [results,Tryz.results76,go_sem,Z0,Z1,Z2,Z3,Z4,Z5,Z6,Z7,Z8,Z9,Z10,Z11]) rfl ⟨bl0,rfl,bk_in0 _,Hend.out _ rfl,fun _ _=>bk_in0 _⟩
end Go.Proofs.YtecjnkokdnmhlaaGreat
namespace Go.Proofs.YtecjnkokdnmhlaaGreat
open Go.RowKit
def newNd (c:Cf) (who:Int):Nd × Int:=(⟨(newK c who).1,0,0,[]⟩,(newK c who).2)
set_option maxRecDepth 100000 in
set_option maxHeartbeats 8000000 in
theorem ndNew_calls (c:Cf) (who:Int) (w:World):Calls Tryz.prog 35 #[cfV c,.int .i64 who] w (HasI w (newNd c who)):=by
 have HR0:=qH (Whole.made2 w (.cells (cfCells c) 23) 39 zeroN);have HB0:=qH (below_two w (.cells (cfCells c) 23) (.cells zeroN 39));obtain ⟨W0,HW⟩:∃ z,Hid (((w.alloc (.cells (cfCells c) 23)).alloc (.cells zeroN 39))=z):=⟨_,rfl⟩;rw [HW.out] at HR0 HB0;have OB:=qH (kNew_far c who W0);obtain ⟨⟨k,cd⟩,Hk⟩:∃ z,Hid (newK c who=z):=⟨_,rfl⟩
 unfold newNd
 rw [Hk.out] at OB ⊢;have hlt:=HR0.out.lt
 go_enter Tryz.func35,Tryz.ntmps35
 go_wp2_with fail
 try rw [HW.out]
 refine OB.out.mono ?_;rintro e W1 ⟨p,rfl,_,hb,hs⟩;have HR1:=qH (HR0.out.later hb HR0.out.lt);have HB1:=qH (held_next HB0.out hb);have HS1:=qH hs;clear hb hs OB hlt;obtain ⟨⟨z0,z1,z2,z3⟩,⟨z4,z5,z6,z7⟩,⟨z8,z9,z10,z11⟩,z12,z13,z14⟩:=nd_cells HR1.out;have y0:=HR1.out.free 0;have y1:=HR1.out.free 1;have y2:=HR1.out.free 2;have y3:=HR1.out.free 3;have y4:=HR1.out.free 4;have y5:=HR1.out.free 5;have y6:=HR1.out.free 6
 have y7:=HR1.out.free 7;have y8:=HR1.out.free 8;have y9:=HR1.out.free 9;have y10:=HR1.out.free 10;have y11:=HR1.out.free 11;have y12:=HR1.out.free 12;have y13:=HR1.out.free 13;have y14:=HR1.out.free 14;have hlt2:=HR1.out.lt;have hw0:w.heap.size + 1 < W0.heap.size:=HR0.out.lt;have hU:ButS (fun b=>b=w.heap.size + 1) W1 (nd15p W1 (w.heap.size + 1) ⟨k,0,0,[]⟩ ⟨p,none,0,0⟩):=nd15_buts (ButS.refl _ _) rfl
 have HE:Hid (Whole ((nd15p W1 (w.heap.size + 1) ⟨k,0,0,[]⟩ ⟨p,none,0,0⟩).alloc (.cells (bkAtC k p) 35)) (w.heap.size + 1) 39 (ndAtC ⟨k,0,0,[]⟩ ⟨p,none,0,0⟩)):=qH ((nd15_whole HR1.out).alloc _);have HBE:Hid (Below w.heap.size w ((nd15p W1 (w.heap.size + 1) ⟨k,0,0,[]⟩ ⟨p,none,0,0⟩).alloc (.cells (bkAtC k p) 35))):=qH ((nd15_below HB1.out (by omega)).alloc (by have:=(nd15_below (x:=⟨k,0,0,[]⟩) (rv:=.slice p.a1 p.m1 p.c1) (lv:=.slice p.a2 p.m2 p.c2) (ov:=.slice p.a3 p.m3 p.c3) (nv:=.slice p.a4 p.m4 p.c4) (tv:=.slice p.al.a1 p.al.m1 p.al.c1) (uv:=.slice p.al.a2 p.al.m2 p.al.c2) (iv:=.slice p.al.a3 p.al.m3 p.al.c3) (sv:=.slice none 0 0) HB1.out (show w.heap.size≤w.heap.size + 1 by omega)).size; exact this) _)
 have HSE:Hid (Stay (fun b=>b < w.heap.size) ((nd15p W1 (w.heap.size + 1) ⟨k,0,0,[]⟩ ⟨p,none,0,0⟩).alloc (.cells (bkAtC k p) 35)) (fun V=>NdIn V ⟨p,none,0,0⟩ ⟨k,0,0,[]⟩)):=qH fun V hV=>⟨HS1.out V (((hU.wide fun b e=>by omega).trans (ButS.of (below_box _ _))).trans (hV.wide fun b e=>by omega)),rfl,elems_nil _ _ _ _ _ (fun _=>rfl)⟩
 clear hU
 go_wp2_with fail
 obtain ⟨⟨k0,k1',k2',k3⟩,⟨k4,k5,k6,k7⟩,⟨k8,k9,k10,k11⟩,k12,k13,k14⟩:=nd_cells HE.out;simp only [nd15p,nd15] at k0 k1' k2' k3 k4 k5 k6 k7 k8 k9 k10 k11 k12 k13 k14;refine bodyPost_ret (v:=.tuple #[ndAt ⟨k,0,0,[]⟩ ⟨p,none,0,0⟩,.int .i64 cd]) (by simp [results,Tryz.results35,go_sem,k0,k1',k2',k3,k4,k5,k6,k7,k8,k9,k10,k11,k12,k13,k14]) rfl ⟨⟨p,none,0,0⟩,rfl,HBE.out,HSE.out⟩
end Go.Proofs.YtecjnkokdnmhlaaGreat
namespace Go.Proofs.YtecjnkokdnmhlaaGreat
def askK (c:Cf) (who:Int) (k:Bk):Bk × Int :=
 if k.line=[] then (k,0)
 else if (asksK c k).asks < c.r∨¬ ((asksK c k).au.try_=0∧(asksK c k).au.ph=0)∨heldB c who (asksK c k).notes (headQ (asksK c k)).t (headQ (asksK c k)).a=true then (asksK c k,0)
 else if tickC (asksK c k).clk 0=0 then (auK (clksK (asksK c k) (tickT (asksK c k).clk 0)) (beginA c who (tickT (asksK c k).clk 0)).1,(beginA c who (tickT (asksK c k).clk 0)).2)
 else (clksK (asksK c k) (tickT (asksK c k).clk 0),tickC (asksK c k).clk 0)
theorem look_none {c:Cf} {who:Int} {a:Au} (h:auOk c who a):noneA a=true ↔ (a.try_=0∧a.ph=0):=by
 unfold noneA
 rw [decide_eq_true_eq]
 constructor
 · rintro rfl; exact ⟨rfl,rfl⟩
 · intro h1
   rcases h.2.2 with e | e
   · exact e
   · have:=e.1.1; omega
theorem clear_asks (c:Cf) (k:Bk):asksK c (clearK k)=clearK (asksK c k):=by
 by_cases h:k.line ≠ []∧k.asks < c.r
 · have e1:asksK c (clearK k)=clearK ⟨k.clk,k.rows,k.line,k.outs,k.asks + 1,k.notes,k.au⟩:=if_pos h
   have e2:asksK c k=⟨k.clk,k.rows,k.line,k.outs,k.asks + 1,k.notes,k.au⟩:=if_pos h;rw [e1,e2]
 · have e1:asksK c (clearK k)=clearK k:=if_neg h
   have e2:asksK c k=k:=if_neg h;rw [e1,e2]
theorem asks_line (c:Cf) (k:Bk):(asksK c k).line=k.line:=by unfold asksK; split <;> rfl
theorem ask_nil {c:Cf} {who:Int} {k:Bk} (h:k.line=[]):askK c who k=(k,0):=by unfold askK; exact if_pos h
theorem ask_is {c:Cf} {who:Int} {k:Bk} (h:IK c who (clearK k)):looksK c who (asksK c (clearK k))=(if (askK c who k).2=0 then some (clearK (askK c who k).1) else none):=by
 have hA:IK c who (asksK c (clearK k)):=h.asks;rw [clear_asks] at hA ⊢;have hl:=asks_line c k
 by_cases h0:k.line=[]
 · rw [ask_nil h0]
   have e1:asksK c k=k:=by unfold asksK; exact if_neg fun h=>h.1 h0
   rw [e1,if_pos rfl]
   unfold looksK
   exact if_neg fun h=>h.1 h0
 · have hle:(asksK c k).asks≤c.r:=hA.2.2.2.2.1.2.2
   have hn:=look_none (a:=(asksK c k).au) hA.2.2.2.2.2.2.2.2.2
   unfold askK
   rw [if_neg h0]
   by_cases h1:(asksK c k).asks < c.r∨¬ ((asksK c k).au.try_=0∧(asksK c k).au.ph=0)∨heldB c who (asksK c k).notes (headQ (asksK c k)).t (headQ (asksK c k)).a=true
   · rw [if_pos h1,if_pos rfl]
     unfold looksK
     refine if_neg ?_;rintro ⟨_,a1,a2,a3⟩;have a1:(asksK c k).asks=c.r:=a1
     rcases h1 with h1 | h1 | h1
     · omega
     · exact h1 (hn.1 a2)
     · have a3:heldB c who (asksK c k).notes (headQ (asksK c k)).t (headQ (asksK c k)).a=false:=a3
       rw [a3] at h1; cases h1
   · rw [if_neg h1]
     have hc:(clearK (asksK c k)).line ≠ []∧(clearK (asksK c k)).asks=c.r∧noneA (clearK (asksK c k)).au=true∧heldB c who (clearK (asksK c k)).notes (headQ (clearK (asksK c k))).t (headQ (clearK (asksK c k))).a=false:=by
      refine ⟨by show (asksK c k).line ≠ []; rw [hl]; exact h0,?_,?_,?_⟩
      · show (asksK c k).asks=c.r
        have:¬ (asksK c k).asks < c.r:=fun e=>h1 (Or.inl e)
        omega
      · exact hn.2 (Decidable.byContradiction fun e=>h1 (Or.inr (Or.inl e)))
      · exact Bool.eq_false_iff.2 fun e=>h1 (Or.inr (Or.inr e))
     unfold looksK
     rw [if_pos hc]
     show (if tickC (asksK c k).clk 0=0 then _ else _)=_
     by_cases h2:tickC (asksK c k).clk 0=0
     · have ht:=tick_most h2
       have hb:cfOk c∧(0≤who∧who < c.n)∧(1≤tickT (asksK c k).clk 0∧tickT (asksK c k).clk 0≤1125899906842624):=⟨hA.1.1,hA.2.1,ht.2.2.2,ht.2.2.1⟩;have hb2:(beginA c who (tickT (asksK c k).clk 0)).2=0:=by unfold beginA; rw [if_pos hb]
       rw [if_pos h2,if_pos h2,hb2,if_pos rfl]
       rfl
     · rw [if_neg h2,if_neg h2,if_neg h2]
theorem quiet_clear (c:Cf) (who:Int) (k:Bk):quietB c who (clearK k)=quietB c who k:=rfl
theorem move_clear (c:Cf) (who:Int) (k:Bk) (tg v:Int):moveK c who (clearK k) tg v=clearK (moveK c who k tg v):=by
 unfold moveK
 show (if (moveR c k.rows who tg v).2=0 then _ else _)=_
 by_cases h:(moveR c k.rows who tg v).2=0
 · rw [if_pos h,if_pos h]; rfl
 · rw [if_neg h,if_neg h]
theorem gives_clear (c:Cf) (who:Int) (l:List Int) (k:Bk):givesK c who l (clearK k)=clearK (givesK c who l k):=by
 unfold givesK
 rw [quiet_clear]
 by_cases h:quietB c who k=true
 · rw [if_pos h,if_pos h]; exact move_clear ..
 · rw [if_neg h,if_neg h]
def dueK (c:Cf) (who:Int) (x:Nd):Bk:=settleK c who (clearK (givesK c who (keepN x.asked 0) (askK c who x.bk).1))
theorem IK.due {c:Cf} {who:Int} {x:Nd} (h:nodeOk c who x) (h0:(askK c who x.bk).2=0):IK c who (clearK (givesK c who (keepN x.asked 0) (askK c who x.bk).1)):=by
 have hI:=IK.clear h.1;have h1:=ask_is hI;rw [if_pos h0] at h1;rw [← gives_clear]
 exact (hI.asks.looks h1).1.gives _
theorem tick_due {c:Cf} {who:Int} {x:Nd} (draw:Nat) (h:nodeOk c who x) (h1:¬ 1125899906842624≤x.tk) (h2:¬ x.tk + 1 < x.nx) :
 tickNd c who x draw=((if (askK c who x.bk).2=0 then (match writeK who (dueK c who x) c.n.toNat with
  | none=>(x,[],6)
  | some (k',l)=>(⟨k',x.tk + 1,x.tk + 1 + (waitV c.p k'.asks draw:Nat),keepN x.asked 0⟩,l,0)) else (x,[],6)):Nd × List Ml × Int):=by
 unfold tickNd
 rw [if_pos h,if_neg h1,if_neg h2,ask_is (IK.clear h.1)]
 by_cases h0:(askK c who x.bk).2=0
 · rw [if_pos h0,if_pos h0]
   simp only
   unfold dueK
   rw [gives_clear]
   generalize writeK who _ c.n.toNat=z
   cases z <;> rfl
 · rw [if_neg h0,if_neg h0]
theorem ask_code {c:Cf} {who:Int} {x:Nd} (h:nodeOk c who x) (h0:(askK c who x.bk).2 ≠ 0):(askK c who x.bk).2=6:=by
 have hA:IK c who (asksK c (clearK x.bk)):=(IK.clear h.1).asks;rw [clear_asks] at hA
 unfold askK at h0 ⊢
 split at h0
 · exact absurd rfl h0
 · rename_i a0
   rw [if_neg a0]
   split at h0
   · exact absurd rfl h0
   · rename_i a1
     rw [if_neg a1]
     split at h0
     · rename_i a2
       have ht:=tick_most a2;have hb:cfOk c∧(0≤who∧who < c.n)∧(1≤tickT (asksK c x.bk).clk 0∧tickT (asksK c x.bk).clk 0≤1125899906842624):=⟨hA.1.1,hA.2.1,ht.2.2.2,ht.2.2.1⟩
       exact absurd (show (beginA c who (tickT (asksK c x.bk).clk 0)).2=0 by unfold beginA; rw [if_pos hb]) h0
     · rename_i a2
       rw [if_neg a2];have hk:0≤(asksK c x.bk).clk:=hA.2.2.1.1
       unfold tickC at h0 a2 ⊢
       split
       · rename_i e; omega
       · rename_i e
         rw [if_neg e] at h0
         split
         · rfl
         · rename_i e2; rw [if_neg e2] at h0; exact absurd rfl h0
open Go.RowKit
abbrev MlP:=World→Option Addr→Nat→Nat→List Ml→Prop
def WroteTo (P:MlP) (n0:Nat) (E:Nat→Prop) (g:Nat) (c:Cf) (who:Int) (p:Nl) (W:World) (x:Nd) (code:Int) (e:Ending) (w':World):Prop :=
 ∃ (A : Option Addr) (m C : Nat) (k : Bk) (p' : Nl) (code' : Int), e = .returned (.slice A m C) ∧ St n0 E w' g c who (bkN x k) p' code' ∧ Kept g p p' W w' ∧ (code ≠ 0 → code' = code) ∧ (code' ≠ 0 → m = 0) ∧
   (code=0→(writeK who x.bk c.n.toNat=none→code'=6)∧∀ k1 l,writeK who x.bk c.n.toNat=some (k1,l)→code'=0∧k=k1∧m=l.length∧Stay (Mine n0 E g p') w' (fun V=>P V A m C l))
def PassTo (P:MlP) (n0:Nat) (E:Nat→Prop) (g:Nat) (c:Cf) (who:Int) (p:Nl) (W:World) (x:Nd) (code:Int) (draw:Nat) (e:Ending) (w':World):Prop :=
 ∃ (A : Option Addr) (m C : Nat) (x' : Nd) (p' : Nl) (code' : Int), e = .returned (.slice A m C) ∧ St n0 E w' g c who x' p' code' ∧ Kept g p p' W w' ∧ (code ≠ 0 → code' = code ∧ m = 0) ∧
   (code=0→code'=(tickNd c who x draw).2.2∧(code'=0→x'=(tickNd c who x draw).1)∧m=(tickNd c who x draw).2.1.length∧Stay (Mine n0 E g p') w' (fun V=>P V A m C (tickNd c who x draw).2.1))
theorem pass_fin {c:Cf} {who:Int} {x:Nd} {draw:Nat} {cd6 cd9:Int} {k9:Bk} {m:Nat} {Q:List Ml→Prop} (h:nodeOk c who x) (h1:¬ 1125899906842624≤x.tk) (h2:¬ x.tk + 1 < x.nx)
 (e6:(askK c who x.bk).2=cd6) (hn:cd6 ≠ 0→cd9=cd6) (hm:cd9 ≠ 0→m=0) (hq:m=0→Q [])
 (hy:cd6=0→(writeK who (dueK c who x) c.n.toNat=none→cd9=6)∧∀ k1 l,writeK who (dueK c who x) c.n.toNat=some (k1,l)→cd9=0∧k9=k1∧m=l.length∧Q l) :
 cd9=(tickNd c who x draw).2.2∧(cd9=0→(⟨k9,x.tk + 1,x.tk + 1 + (waitV c.p k9.asks draw:Nat),keepN x.asked 0⟩:Nd)=(tickNd c who x draw).1)∧m=(tickNd c who x draw).2.1.length∧Q (tickNd c who x draw).2.1:=by
 rw [tick_due draw h h1 h2]
 have no:cd9=6→cd9=((x,[],6):Nd × List Ml × Int).2.2∧(cd9=0→(⟨k9,x.tk + 1,x.tk + 1 + (waitV c.p k9.asks draw:Nat),keepN x.asked 0⟩:Nd)=((x,[],6):Nd × List Ml × Int).1)∧m=((x,[],6):Nd × List Ml × Int).2.1.length∧Q ((x,[],6):Nd × List Ml × Int).2.1:=fun e=>by
  have h0:=hm (by rw [e]; decide)
  exact ⟨e,fun e2=>absurd (e.symm.trans e2) (by decide),h0,hq h0⟩
 by_cases h0:(askK c who x.bk).2=0
 · rw [if_pos h0]
   obtain ⟨hy1,hy2⟩:=hy (e6.symm.trans h0)
   cases hw:writeK who (dueK c who x) c.n.toNat with
   | none=>exact no (hy1 hw)
   | some r =>
     obtain ⟨k1,l⟩:=r;obtain ⟨g1,g2,g3,g4⟩:=hy2 k1 l hw;subst g2
     exact ⟨g1,fun _=>rfl,g3,g4⟩
 · rw [if_neg h0]
   have h6:=ask_code h h0
   exact no (by rw [hn (by rw [← e6]; exact h0),← e6]; exact h6)
theorem ask_notes (c:Cf) (who:Int) (k:Bk):(askK c who k).1.notes=k.notes:=by
 have ha:(asksK c k).notes=k.notes:=by unfold asksK; split <;> rfl
 unfold askK
 split
 · rfl
 · split
   · exact ha
   · split <;> exact ha
end Go.Proofs.YtecjnkokdnmhlaaGreat
