/- Parts, as far as NodeAtOnceCards reaches them, of: LineLeave, NodeLeave. No law is proved here. -/
import Derived.Test.YtecjnkokdnmhlaaGreatTa13
namespace Go.Proofs.YtecjnkokdnmhlaaGreat
open Go.RowKit
attribute [local go_sem ↓] run_fine
set_option maxRecDepth 100000 in
set_option maxHeartbeats 4000000 in
theorem lLeave_far (a:Option Addr) (m cp:Nat) (l:List Rq) (hm:m=l.length) (hsmall:m≤1000) (hc:m≤cp) (w:World) (hB:Line w (.slice a m cp) l) :
 Calls Tryz.prog 186 #[.slice a m cp] w (LeftQF w l):=by
 have HW:=qH (Whole.made w 59 (rqCells ⟨0,0,0⟩));have Hb0:=qH (below_box w (.cells (rqCells ⟨0,0,0⟩) 59));obtain ⟨w0,Hw0⟩:∃ w0,Hid (w.alloc (.cells (rqCells ⟨0,0,0⟩) 59)=w0):=⟨_,rfl⟩
 by_cases h0:m=0
 · subst h0
   have hl:l=[]:=List.eq_nil_of_length_eq_zero hm.symm;subst hl;clear hB hm hc hsmall;rw [Hw0.out] at HW Hb0;have z0:=HW.out.cell 0;have z1:=HW.out.cell 1;have z2:=HW.out.cell 2;have y0:=HW.out.free 0;have y1:=HW.out.free 1;have y2:=HW.out.free 2;have hlt:=HW.out.lt
   go_enter Tryz.func186,Tryz.ntmps186
   go_wp2
   try rw [Hw0.out]
   refine bodyPost_ret (v:=.tuple #[rqV ⟨0,0,0⟩,.slice none 0 0,.bool false]) (by simp [results,Tryz.results186,go_sem,z0,z1,z2]) rfl ⟨none,0,Nat.le_refl _,rfl,Line.nil _ _ _ (fun _=>rfl),?_,line_none _ _⟩
   exact Hb0.out
 · obtain ⟨b,off,rfl,c0,c1,c2⟩:=hB.at (i:=0) (by omega)
   obtain ⟨x,Hx⟩:∃ z,Hid (rqAt l 0=z):=⟨_,rfl⟩;rw [Hx.out,Nat.zero_mul,Nat.add_zero] at c0 c1 c2;have d0:=cell_later Hb0.out c0;have d1:=cell_later Hb0.out c1;have d2:=cell_later Hb0.out c2;have hrest:=hB.rest hm (by omega)
   have hlen:l.tail.length=m - 1:=by rw [List.length_tail,← hm]
   obtain ⟨t,u,v⟩:=x;simp only at c0 c1 c2 d0 d1 d2;rw [Hw0.out] at HW Hb0 d0 d1 d2;have Hrest:=qH hrest; clear hrest;have Hlen:=qH hlen; clear hlen;have Hm:=qH hm; clear hm;have hlt:=HW.out.lt;have y0:=HW.out.free 0;have y1:=HW.out.free 1;have y2:=HW.out.free 2;have z0:=HW.out.cell 0;have z1:=HW.out.cell 1;have z2:=HW.out.cell 2;clear c0 c1 c2 hB;have k1:(1:Int)≤(m:Int):=by omega
   have k2:(0:Int) < (m:Int):=by omega
   obtain ⟨B,hBB⟩:∃ B,(if cp=1 then some (⟨b,off,none⟩:Addr) else some ⟨b,off + 3,none⟩)=B:=⟨_,rfl⟩
   have HrB:Hid (Line w (.slice B (m - 1) (cp - 1)) l.tail):=by
    by_cases h1:cp=1
    · rw [if_pos h1] at hBB
      have hm1:m - 1=0:=by omega
      have ht:l.tail=[]:=List.eq_nil_of_length_eq_zero (by rw [Hlen.out]; exact hm1)
      rw [ht,hm1]
      exact Line.nil _ _ _ (fun h=>by rw [← hBB] at h; cases h)
    · rw [if_neg h1] at hBB
      rw [← hBB]
      exact Hrest.out
   obtain ⟨A1,C1,w5,hrun1,hC1,hL1,hb1,hat1⟩:=run_append_rq (w:=w0.drew) (A:=some ⟨b,off,none⟩) (n:=0) (l:=[]) (k:=l.tail) (Line.nil _ _ _ (fun h=>by cases h)) rfl (B:=B) (m:=m - 1) (c:=cp - 1) ((HrB.out.later Hb0.out.drew)) (Hlen.out.symm) (by rw [Hlen.out]; simp; omega)
   have hb2:Below w0.heap.size w0 w5:=held_next ((Below.refl _ _).drew) hb1;obtain ⟨hfine1,happV1,happW1⟩:=fine_of hrun1;clear hrun1;simp only [Nat.zero_add,List.nil_append] at happV1 hC1 hL1;have HL1:=qH hL1; clear hL1;have Hat:=qH hat1; clear hat1;have HC1:=qH hC1; clear hC1;have Hb1:=qH hb2; clear hb1 hb2;have HW5:=qH (HW.out.later Hb1.out hlt);have hlt5:=HW5.out.lt;clear y0 y1 y2 z0 z1 z2;have g0:=cell_later Hb1.out d0
   have g1:=cell_later Hb1.out d1;have g2:=cell_later Hb1.out d2;have y0:=HW5.out.free 0;have y1:=HW5.out.free 1;have y2:=HW5.out.free 2;have z0:w5.cell? ⟨w.heap.size,0,none⟩=some (.int .i64 0):=HW5.out.cell 0;have z1:w5.cell? ⟨w.heap.size,1,none⟩=some (.int .i64 0):=HW5.out.cell 1;have z2:w5.cell? ⟨w.heap.size,2,none⟩=some (.int .i64 0):=HW5.out.cell 2;have HW6:=qH (((HW5.out.set 0 (.int .i64 t)).set 1 (.int .i64 u)).set 2 (.int .i64 v))
   have Hb5:=qH (held_next Hb0.out Hb1.out);have Hb6:=qH (((Hb5.out.setCell (p:=⟨w.heap.size,0,none⟩) (Nat.le_refl _) (.int .i64 t)).setCell (p:=⟨w.heap.size,1,none⟩) (Nat.le_refl _) (.int .i64 u)).setCell (p:=⟨w.heap.size,2,none⟩) (Nat.le_refl _) (.int .i64 v))
   go_enter Tryz.func186,Tryz.ntmps186
   go_wp2_with fail
   try rw [Hw0.out]
   go_region
   go_wp2
   have HL6:Hid (Line (((w5.setCell ⟨w.heap.size,0,none⟩ (.int .i64 t)).setCell ⟨w.heap.size,1,none⟩ (.int .i64 u)).setCell ⟨w.heap.size,2,none⟩ (.int .i64 v)) (.slice A1 (m - 1) C1) l.tail):=by
    by_cases h1:0 < m - 1
    · have hap:∀ ad,A1=some ad→ad.block ≠ w.heap.size:=fun ad had=>by
       have h2:=Hat.out h1 ad had;have h3:w0.drew.heap.size=w0.heap.size:=rfl
       omega
      have hL:Line w5 (.slice A1 (m - 1) C1) l.tail:=HL1.out
      unfold Line at hL
      rw [Hlen.out] at hL;have h4:=((Elems.other hL (p:=⟨w.heap.size,0,none⟩) hap (.int .i64 t)).other (p:=⟨w.heap.size,1,none⟩) hap (.int .i64 u)).other (p:=⟨w.heap.size,2,none⟩) hap (.int .i64 v)
      show Elems _ _ _ l.tail.length _
      rw [Hlen.out]
      exact h4
    · have hm1:m - 1=0:=by omega
      have ht:l.tail=[]:=List.eq_nil_of_length_eq_zero (by rw [Hlen.out]; exact hm1)
      have hL:Line w5 (.slice A1 (m - 1) C1) l.tail:=HL1.out;rw [ht,hm1] at hL ⊢;refine Line.nil _ _ _ (fun h=>?_)
      obtain ⟨_,⟨a0,c0,hv,h0,_⟩ | ⟨b',off',c0,hv,hn,_⟩⟩:=hL
      · simp only [Value.slice.injEq] at hv
        rw [hv.2.2]
        exact h0 (by rw [← hv.1]; exact h)
      · simp only [Value.slice.injEq] at hv
        rw [h] at hv
        cases hv.1
   have v0:=HW6.out.cell 0;have v1:=HW6.out.cell 1;have v2:=HW6.out.cell 2;refine bodyPost_ret (v:=.tuple #[rqV ⟨t,u,v⟩,.slice A1 (m - 1) C1,.bool true]) (by simp [results,Tryz.results186,go_sem,z0,z1,z2]) rfl ⟨A1,C1,by have:=HC1.out; have:=Hm.out; omega,?_,?_,Hb6.out,?_⟩
   · rw [Hx.out,← Hm.out,decide_eq_true (show 0 < m by omega)]
   · rw [← Hm.out]; exact HL6.out
   · rw [← Hm.out]; exact line_stay Hlen.out.symm HL6.out fun h ad e=>Nat.le_trans (show w.heap.size≤w0.heap.size from Hb0.out.size) (Hat.out h ad e)
end Go.Proofs.YtecjnkokdnmhlaaGreat
namespace Go.Proofs.YtecjnkokdnmhlaaGreat
open Go.RowKit
attribute [local go_sem ↓] run_fine
theorem line_cap {w:World} {a:Option Addr} {m cp:Nat} {l:List Rq} (hm:m=l.length) (h:Line w (.slice a m cp) l):m≤cp:=by
 obtain ⟨_,⟨a',c',hv,_,h0⟩ | ⟨b,off,c',hv,hn,_⟩⟩:=h
 · omega
 · simp only [Value.slice.injEq] at hv
   omega
set_option maxRecDepth 100000 in
set_option maxHeartbeats 8000000 in
theorem leave18_calls {n0 g:Nat} {E:Nat→Prop} {c:Cf} {who:Int} {x:Nd} {p:Nl} {code:Int} {W:World} (h:St n0 E W g c who x p code) (cd:Int) (hl:x.bk.line.length≤1000) (ho:x.bk.outs.length≤1000) :
 Calls Tryz.prog 141 #[.pointer (some ⟨g,0,none⟩),.int .i64 cd] W (fun e w'=>e=.returned (.tuple #[])∧StepTo n0 E g c who p W (bkN x (leftK x.bk cd)) code w'):=by
 have hlt:=h.lt;have HS:=qH h;have Hol:=qH ho;clear h ho;have hkr:leftK x.bk cd=⟨x.bk.clk,x.bk.rows,x.bk.line.tail,x.bk.outs ++ [⟨(rqAt x.bk.line 0).t,(rqAt x.bk.line 0).a,cd⟩],0,x.bk.notes,au0⟩:=rfl;rw [hkr];clear hkr;have hlv:=lLeave_far p.bl.a2 p.bl.m2 p.bl.c2 x.bk.line HS.out.inn.2.1.1 (by have:=HS.out.inn.2.1.1; omega) (line_cap HS.out.inn.2.1.1 HS.out.inn.2.1.2) W HS.out.inn.2.1.2
 obtain ⟨⟨t,a,q⟩,Hh⟩:∃ z,Hid (rqAt x.bk.line 0=z):=⟨_,rfl⟩;rw [Hh.out];obtain ⟨L1,HL1⟩:∃ z,Hid (x.bk.line.length - 1=z):=⟨_,rfl⟩;obtain ⟨ok,Hok⟩:∃ z,Hid (decide (0 < x.bk.line.length)=z):=⟨_,rfl⟩
 have Hlv:Hid (Calls Tryz.prog 186 #[.slice p.bl.a2 p.bl.m2 p.bl.c2] W (fun e w'=>∃ A C,e=.returned (.tuple #[rqV ⟨t,a,q⟩,.slice A L1 C,.bool ok])∧Below W.heap.size W w'∧Stay (fun b=>b < W.heap.size) w' (fun V=>Line V (.slice A L1 C) x.bk.line.tail))):=by
  refine hlv.mono ?_;rintro e w' ⟨A,C,_,he,_,hb,hs⟩;rw [Hh.out,HL1.out,Hok.out] at he;rw [HL1.out] at hs
  exact ⟨A,C,he,hb,hs⟩
 clear hlv;have z2:W.cell? ⟨g,2,none⟩=some (.slice p.bl.a2 p.bl.m2 p.bl.c2):=HS.out.ob.cell 2
 go_enter Tryz.func141,Tryz.ntmps141
 go_wp2_with fail
 refine Hlv.out.mono ?_;rintro e w1 ⟨A,C,rfl,hb,hs⟩;have hbx:=below_box w1 (.cells (rqCells ⟨t,a,q⟩) 59);have HX1:=qH (Whole.made w1 59 (rqCells ⟨t,a,q⟩));have Hb1:=qH (held_next hb hbx);have HT1:=qH (hs.later hbx);clear hb hbx hs z2
 go_wp2_with fail
 obtain ⟨hx,Hhx⟩:∃ z,Hid (w1.heap.size=z):=⟨_,rfl⟩;obtain ⟨W1,HW1⟩:∃ z,Hid (w1.alloc (.cells (rqCells ⟨t,a,q⟩) 59)=z):=⟨_,rfl⟩;rw [HW1.out] at HX1 Hb1 HT1 ⊢;rw [Hhx.out] at HX1 ⊢;have HS1:=qH (HS.out.later Hb1.out);have hn0:n0≤W1.heap.size:=by have:=HS1.out.le; have:=HS1.out.lt; omega
 refine wp_region_each_at ?hm ?hb (fun a0 d a' w'=>∃ (e0 e1 e2 e3 e4 e5 e6 e7 e8 e9 e10 e11 e12 e13 e14:Value),a'=putAll a0 [(17,e0),(18,e1),(19,e2),(20,e3),(21,e4),(22,e5),(23,e6),(24,e7),(25,e8),(26,e9),(27,e10),(28,e11),(29,e12),(30,e13),(31,e14)]∧Below n0 W1 w'∧(d 0=true→e0=(.pointer (some ⟨g,0,none⟩)))∧(d 1=true→e1=(.pointer (some ⟨g,0,none⟩)))∧(d 2=true→e2=(.pointer (some ⟨g,0,none⟩)))∧(d 3=true→e3=(.pointer (some ⟨g,0,none⟩)))∧(d 4=true→e4=(.pointer (some ⟨g,3,none⟩)))∧(d 5=true→e5=(.slice p.bl.a3 p.bl.m3 p.bl.c3))∧(d 6=true→e6=(.pointer (some ⟨hx,0,none⟩)))∧(d 7=true→e7=(.agg #[.int .i64 t,.int .i64 a]))∧(d 8=true→e8=(.int .i64 cd))∧(d 9=true→(d 7=true∧e9=.agg #[.int .i64 t,.int .i64 a,.int .i64 cd]))∧(d 10=true→(d 7=true∧∃ gb,e10=.slice (some ⟨gb,0,none⟩) 1 1∧(d 11=false→Whole w' gb 85 (rqCells ⟨t,a,cd⟩))))∧(d 11=true→(d 5=true∧d 7=true∧d 10=true∧(d 15=false→OwnOc w' n0 e11 (x.bk.outs ++ [(⟨t,a,cd⟩:Rq)])∧GrewTo W1 w' (outV p) e11)))∧(d 12=true→e12=(.pointer (some ⟨g,0,none⟩)))∧(d 13=true→e13=(.pointer (some ⟨g,0,none⟩)))∧(d 14=true→e14=(.pointer (some ⟨g,3,none⟩)))∧(d 15=true→(d 11=true∧StepTo n0 E g c who p W1 (bkN x (outsK x.bk (x.bk.outs ++ [(⟨t,a,cd⟩:Rq)]))) code w'))∧(d 11=false→Below W1.heap.size W1 w')) ?h0 ?step ?ends
 case hm=>kernel_rfl
 case hb=>kernel_rfl
 case h0 =>
  refine ⟨undef,undef,undef,undef,undef,undef,undef,undef,undef,undef,undef,undef,undef,undef,undef,?_,(Below.refl _ _).drew,fun h=>absurd h (by decide),fun h=>absurd h (by decide),fun h=>absurd h (by decide),fun h=>absurd h (by decide),fun h=>absurd h (by decide),fun h=>absurd h (by decide),fun h=>absurd h (by decide),fun h=>absurd h (by decide),fun h=>absurd h (by decide),fun h=>absurd h (by decide),fun h=>absurd h (by decide),fun h=>absurd h (by decide),fun h=>absurd h (by decide),fun h=>absurd h (by decide),fun h=>absurd h (by decide),fun h=>absurd h (by decide),fun _=>(Below.refl _ _).drew⟩
  simp only [putAll,Act.put,qA,qB,qC]
 case step =>
  intro i d a' w' hi hJ hd hk;obtain ⟨e0,e1,e2,e3,e4,e5,e6,e7,e8,e9,e10,e11,e12,e13,e14,rfl,hC⟩:=hJ;obtain ⟨hB,hC⟩:=hC;obtain ⟨c0,hC⟩:=hC;obtain ⟨c1,hC⟩:=hC;obtain ⟨c2,hC⟩:=hC;obtain ⟨c3,hC⟩:=hC;obtain ⟨c4,hC⟩:=hC;obtain ⟨c5,hC⟩:=hC;obtain ⟨c6,hC⟩:=hC;obtain ⟨c7,hC⟩:=hC;obtain ⟨c8,hC⟩:=hC;obtain ⟨c9,hC⟩:=hC;obtain ⟨c10,hC⟩:=hC;obtain ⟨c11,hC⟩:=hC;obtain ⟨c12,hC⟩:=hC;obtain ⟨c13,hC⟩:=hC;obtain ⟨c14,hC⟩:=hC
  obtain ⟨c15,hC⟩:=hC;have cb:=hC;clear hC
  match i,hi,hd,hk with
  | 0, _, hd, hk =>
    apply wpOp_at
    case ho=>rfl
    intro K hK;simp only [putAll,Act.put,qA,qB,qC];go_simp;refine hK _ _ ⟨(.pointer (some ⟨g,0,none⟩)),e1,e2,e3,e4,e5,e6,e7,e8,e9,e10,e11,e12,e13,e14,?_,hB,fun _=>rfl,c1,c2,c3,c4,c5,c6,c7,c8,c9,c10,c11,c12,c13,c14,c15,cb⟩
    simp only [putAll,Act.put,qA,qB,qC]
  | 1, _, hd, hk =>
    apply wpOp_at
    case ho=>rfl
    intro K hK;simp only [putAll,Act.put,qA,qB,qC];go_simp;refine hK _ _ ⟨e0,(.pointer (some ⟨g,0,none⟩)),e2,e3,e4,e5,e6,e7,e8,e9,e10,e11,e12,e13,e14,?_,hB,c0,fun _=>rfl,c2,c3,c4,c5,c6,c7,c8,c9,c10,c11,c12,c13,c14,c15,cb⟩
    simp only [putAll,Act.put,qA,qB,qC]
  | 2, _, hd, hk =>
    have h1:=hk 1 (by decide +kernel)
    obtain rfl:=c1 h1;apply wpOp_at
    case ho=>rfl
    intro K hK;simp only [putAll,Act.put,qA,qB,qC];go_simp;refine hK _ _ ⟨e0,(.pointer (some ⟨g,0,none⟩)),(.pointer (some ⟨g,0,none⟩)),e3,e4,e5,e6,e7,e8,e9,e10,e11,e12,e13,e14,?_,hB,c0,c1,fun _=>rfl,c3,c4,c5,c6,c7,c8,c9,c10,c11,c12,c13,c14,c15,cb⟩
    simp only [putAll,Act.put,qA,qB,qC]
  | 3, _, hd, hk =>
    have h2:=hk 2 (by decide +kernel)
    obtain rfl:=c2 h2;apply wpOp_at
    case ho=>rfl
    intro K hK;simp only [putAll,Act.put,qA,qB,qC];go_simp;refine hK _ _ ⟨e0,e1,(.pointer (some ⟨g,0,none⟩)),(.pointer (some ⟨g,0,none⟩)),e4,e5,e6,e7,e8,e9,e10,e11,e12,e13,e14,?_,hB,c0,c1,c2,fun _=>rfl,c4,c5,c6,c7,c8,c9,c10,c11,c12,c13,c14,c15,cb⟩
    simp only [putAll,Act.put,qA,qB,qC]
  | 4, _, hd, hk =>
    have h3:=hk 3 (by decide +kernel)
    obtain rfl:=c3 h3;apply wpOp_at
    case ho=>rfl
    intro K hK;simp only [putAll,Act.put,qA,qB,qC];go_simp;refine hK _ _ ⟨e0,e1,e2,(.pointer (some ⟨g,0,none⟩)),(.pointer (some ⟨g,3,none⟩)),e5,e6,e7,e8,e9,e10,e11,e12,e13,e14,?_,hB,c0,c1,c2,c3,fun _=>rfl,c5,c6,c7,c8,c9,c10,c11,c12,c13,c14,c15,cb⟩
    simp only [putAll,Act.put,qA,qB,qC]
  | 5, _, hd, hk =>
    have h4:=hk 4 (by decide +kernel)
    obtain rfl:=c4 h4;have hd11:d 11=false:=by cases h:d 11 with | false=>rfl | true=>exact Bool.noConfusion (hd.symm.trans (c11 h).1)
    have hb9:=cb hd11;have z3:w'.cell? ⟨g,3,none⟩=some (.slice p.bl.a3 p.bl.m3 p.bl.c3):=(HS1.out.later hb9).ob.cell 3;apply wpOp_at
    case ho=>rfl
    intro K hK;simp only [putAll,Act.put,qA,qB,qC];go_simp;refine hK _ _ ⟨e0,e1,e2,e3,(.pointer (some ⟨g,3,none⟩)),(.slice p.bl.a3 p.bl.m3 p.bl.c3),e6,e7,e8,e9,e10,e11,e12,e13,e14,?_,hB,c0,c1,c2,c3,c4,fun _=>rfl,c6,c7,c8,c9,c10,fun h=>Bool.noConfusion (hd.symm.trans (c11 h).1),c12,c13,c14,c15,cb⟩
    simp only [putAll,Act.put,qA,qB,qC]
  | 6, _, hd, hk =>
    apply wpOp_at
    case ho=>rfl
    intro K hK;simp only [putAll,Act.put,qA,qB,qC];go_simp;refine hK _ _ ⟨e0,e1,e2,e3,e4,e5,(.pointer (some ⟨hx,0,none⟩)),e7,e8,e9,e10,e11,e12,e13,e14,?_,hB,c0,c1,c2,c3,c4,c5,fun _=>rfl,c7,c8,c9,c10,c11,c12,c13,c14,c15,cb⟩
    simp only [putAll,Act.put,qA,qB,qC]
  | 7, _, hd, hk =>
    have h6:=hk 6 (by decide +kernel)
    obtain rfl:=c6 h6;have hd11:d 11=false:=by cases h:d 11 with | false=>rfl | true=>exact Bool.noConfusion (hd.symm.trans (c11 h).2.1)
    have hb9:=cb hd11;obtain ⟨q0,q1,q2⟩:=rq_cells (HX1.out.later hb9 HX1.out.lt);simp only at q0 q1 q2;apply wpOp_at
    case ho=>rfl
    intro K hK;simp only [putAll,Act.put,qA,qB,qC];go_simp;refine hK _ _ ⟨e0,e1,e2,e3,e4,e5,(.pointer (some ⟨hx,0,none⟩)),(.agg #[.int .i64 t,.int .i64 a]),e8,e9,e10,e11,e12,e13,e14,?_,hB,c0,c1,c2,c3,c4,c5,c6,fun _=>rfl,c8,fun h=>Bool.noConfusion (hd.symm.trans (c9 h).1),fun h=>Bool.noConfusion (hd.symm.trans (c10 h).1),fun h=>Bool.noConfusion (hd.symm.trans (c11 h).2.1),c12,c13,c14,c15,cb⟩
    simp only [putAll,Act.put,qA,qB,qC]
  | 8, _, hd, hk =>
    apply wpOp_at
    case ho=>rfl
    intro K hK;simp only [putAll,Act.put,qA,qB,qC];go_simp;refine hK _ _ ⟨e0,e1,e2,e3,e4,e5,e6,e7,(.int .i64 cd),e9,e10,e11,e12,e13,e14,?_,hB,c0,c1,c2,c3,c4,c5,c6,c7,fun _=>rfl,c9,c10,c11,c12,c13,c14,c15,cb⟩
    simp only [putAll,Act.put,qA,qB,qC]
  | 9, _, hd, hk =>
    have h7:=hk 7 (by decide +kernel)
    have h8:=hk 8 (by decide +kernel)
    obtain rfl:=c7 h7;obtain rfl:=c8 h8;apply wpOp_at
    case ho=>rfl
    intro K hK;simp only [putAll,Act.put,qA,qB,qC];go_simp;refine hK _ _ ⟨e0,e1,e2,e3,e4,e5,e6,(.agg #[.int .i64 t,.int .i64 a]),(.int .i64 cd),(.agg #[.int .i64 t,.int .i64 a,.int .i64 cd]),e10,e11,e12,e13,e14,?_,hB,c0,c1,c2,c3,c4,c5,c6,c7,c8,fun _=>⟨h7,rfl⟩,c10,c11,c12,c13,c14,c15,cb⟩
    simp only [putAll,Act.put,qA,qB,qC]
  | 10, _, hd, hk =>
    have h9:=hk 9 (by decide +kernel)
    obtain ⟨d7,rfl⟩:=c9 h9;obtain rfl:=c7 d7;have hd11:d 11=false:=by cases h:d 11 with | false=>rfl | true=>exact Bool.noConfusion (hd.symm.trans (c11 h).2.2.1)
    have hb:=below_box w' (.cells (rqCells ⟨t,a,cd⟩) 85);apply wpOp_at
    case ho=>rfl
    intro K hK;simp only [putAll,Act.put,qA,qB,qC];go_simp;refine hK _ _ ⟨e0,e1,e2,e3,e4,e5,e6,.agg #[.int .i64 t,.int .i64 a],e8,.agg #[.int .i64 t,.int .i64 a,.int .i64 cd],.slice (some ⟨w'.heap.size,0,none⟩) 1 1,e11,e12,e13,e14,?_,(hB.trans (hb.mono (Nat.le_trans hn0 (cb hd11).size))),c0,c1,c2,c3,c4,c5,c6,c7,c8,c9,fun _=>⟨d7,_,rfl,fun _=>Whole.made w' _ _⟩,fun h=>Bool.noConfusion (hd.symm.trans (c11 h).2.2.1),c12,c13,c14,fun h=>Bool.noConfusion (hd.symm.trans (c11 (c15 h).1).2.2.1),fun h=>held_next (cb h) hb⟩
    simp only [putAll,Act.put,qA,qB,qC]
  | 11, _, hd, hk =>
    have h5:=hk 5 (by decide +kernel)
    have h10:=hk 10 (by decide +kernel)
    obtain rfl:=c5 h5
    skip
    have hd15:d 15=false:=by cases h:d 15 with | false=>rfl | true=>exact Bool.noConfusion (hd.symm.trans (c15 h).1)
    have hb9:=cb hd;obtain ⟨d7,gb,rfl,hwb⟩:=c10 h10;obtain rfl:=c7 d7;obtain ⟨v9,w9,hrun9,q9,b9,g9⟩:=run_append_outs (own_later HS1.out.outs hb9) (one_outc (hwb hd)) rfl (by have:=Hol.out; simp only [List.length_singleton]; omega) (Nat.le_trans hn0 hb9.size)
    obtain ⟨hf9,hv9,hw9⟩:=fine_of hrun9;clear hrun9;apply wpOp_at
    case ho=>rfl
    intro K hK;simp only [putAll,Act.put,qA,qB,qC];go_simp;refine hK _ _ ⟨e0,e1,e2,e3,e4,(.slice p.bl.a3 p.bl.m3 p.bl.c3),e6,.agg #[.int .i64 t,.int .i64 a],e8,e9,.slice (some ⟨gb,0,none⟩) 1 1,v9,e12,e13,e14,?_,hB.trans b9,c0,c1,c2,c3,c4,c5,c6,c7,c8,c9,fun _=>⟨d7,gb,rfl,fun h=>Bool.noConfusion (show true=false from h)⟩,fun _=>⟨h5,d7,h10,fun _=>⟨q9,g9.next hb9⟩⟩,c12,c13,c14,fun h=>absurd ((c15 h).1.symm.trans hd) (by decide),fun h=>Bool.noConfusion (show true=false from h)⟩
    simp only [putAll,Act.put,qA,qB,qC]
  | 12, _, hd, hk =>
    have h0:=hk 0 (by decide +kernel)
    obtain rfl:=c0 h0;apply wpOp_at
    case ho=>rfl
    intro K hK;simp only [putAll,Act.put,qA,qB,qC];go_simp;refine hK _ _ ⟨(.pointer (some ⟨g,0,none⟩)),e1,e2,e3,e4,e5,e6,e7,e8,e9,e10,e11,(.pointer (some ⟨g,0,none⟩)),e13,e14,?_,hB,c0,c1,c2,c3,c4,c5,c6,c7,c8,c9,c10,c11,fun _=>rfl,c13,c14,c15,cb⟩
    simp only [putAll,Act.put,qA,qB,qC]
  | 13, _, hd, hk =>
    have h12:=hk 12 (by decide +kernel)
    obtain rfl:=c12 h12;apply wpOp_at
    case ho=>rfl
    intro K hK;simp only [putAll,Act.put,qA,qB,qC];go_simp;refine hK _ _ ⟨e0,e1,e2,e3,e4,e5,e6,e7,e8,e9,e10,e11,(.pointer (some ⟨g,0,none⟩)),(.pointer (some ⟨g,0,none⟩)),e14,?_,hB,c0,c1,c2,c3,c4,c5,c6,c7,c8,c9,c10,c11,c12,fun _=>rfl,c14,c15,cb⟩
    simp only [putAll,Act.put,qA,qB,qC]
  | 14, _, hd, hk =>
    have h13:=hk 13 (by decide +kernel)
    obtain rfl:=c13 h13;apply wpOp_at
    case ho=>rfl
    intro K hK;simp only [putAll,Act.put,qA,qB,qC];go_simp;refine hK _ _ ⟨e0,e1,e2,e3,e4,e5,e6,e7,e8,e9,e10,e11,e12,(.pointer (some ⟨g,0,none⟩)),(.pointer (some ⟨g,3,none⟩)),?_,hB,c0,c1,c2,c3,c4,c5,c6,c7,c8,c9,c10,c11,c12,c13,fun _=>rfl,c15,cb⟩
    simp only [putAll,Act.put,qA,qB,qC]
  | 15, _, hd, hk =>
    have h11:=hk 11 (by decide +kernel)
    have h14:=hk 14 (by decide +kernel)
    obtain rfl:=c14 h14;obtain ⟨f5,f7,f10,hO⟩:=c11 h11;obtain rfl:=c5 f5;obtain rfl:=c7 f7;obtain ⟨hO,hG⟩:=hO hd;obtain ⟨A9,C9,hv9,_⟩:=OwnOc.line hO (by have:=Hol.out; rw [List.length_append,List.length_singleton]; omega)
    obtain ⟨n9,Hn9⟩:∃ z,Hid ((x.bk.outs ++ [(⟨t,a,cd⟩:Rq)]).length=z):=⟨_,rfl⟩;rw [Hn9.out] at hv9;subst hv9;have hob9:Whole w' g 99 (stC c who x p code):=(hG.1 g HS1.out.lt HS1.out.own_ne).trans HS1.out.ob;have z3:=hob9.cell 3;have y3:=hob9.free 3;have hM:=HS1.out.more Hn9.out.symm hO hB hG;apply wpOp_at
    case ho=>rfl
    intro K hK;simp only [putAll,Act.put,qA,qB,qC];go_simp;refine hK _ _ ⟨e0,e1,e2,e3,e4,(.slice p.bl.a3 p.bl.m3 p.bl.c3),e6,(.agg #[.int .i64 t,.int .i64 a]),e8,e9,e10,.slice A9 n9 C9,e12,e13,(.pointer (some ⟨g,3,none⟩)),?_,hB.setCell (p:=⟨g,3,none⟩) HS1.out.le _,c0,c1,c2,c3,c4,c5,c6,c7,c8,c9,fun h=>let ⟨d7,gb,e,_⟩:=c10 h; ⟨d7,gb,e,fun k=>absurd (h11.symm.trans k) (by decide)⟩,fun _=>⟨f5,f7,f10,fun h=>Bool.noConfusion (show true=false from h)⟩,c12,c13,c14,fun _=>⟨h11,_,hM⟩,fun h=>absurd (h11.symm.trans h) (by decide)⟩
    simp only [putAll,Act.put,qA,qB,qC]
  | k + 16,hi,_,_=>exact absurd hi (by simp)
 case ends =>
  intro d a' w' hJ hall;obtain ⟨e0,e1,e2,e3,e4,e5,e6,e7,e8,e9,e10,e11,e12,e13,e14,rfl,hC⟩:=hJ;obtain ⟨hB,hC⟩:=hC;obtain ⟨c0,hC⟩:=hC;obtain ⟨c1,hC⟩:=hC;obtain ⟨c2,hC⟩:=hC;obtain ⟨c3,hC⟩:=hC;obtain ⟨c4,hC⟩:=hC;obtain ⟨c5,hC⟩:=hC;obtain ⟨c6,hC⟩:=hC;obtain ⟨c7,hC⟩:=hC;obtain ⟨c8,hC⟩:=hC;obtain ⟨c9,hC⟩:=hC;obtain ⟨c10,hC⟩:=hC;obtain ⟨c11,hC⟩:=hC;obtain ⟨c12,hC⟩:=hC;obtain ⟨c13,hC⟩:=hC;obtain ⟨c14,hC⟩:=hC
  obtain ⟨c15,hC⟩:=hC;have cb:=hC;clear hC;have HT:=qH (c15 (hall 15 (by decide +kernel))).2
  obtain rfl:=c0 (hall 0 (by decide +kernel))
  obtain rfl:=c1 (hall 1 (by decide +kernel))
  obtain rfl:=c2 (hall 2 (by decide +kernel))
  obtain rfl:=c3 (hall 3 (by decide +kernel))
  obtain rfl:=c4 (hall 4 (by decide +kernel))
  obtain rfl:=c5 (hall 5 (by decide +kernel))
  obtain rfl:=c6 (hall 6 (by decide +kernel))
  obtain rfl:=c7 (hall 7 (by decide +kernel))
  obtain rfl:=c8 (hall 8 (by decide +kernel))
  obtain rfl:=c12 (hall 12 (by decide +kernel))
  obtain rfl:=c13 (hall 13 (by decide +kernel))
  obtain rfl:=c14 (hall 14 (by decide +kernel))
  obtain ⟨_,rfl⟩:=c9 (hall 9 (by decide +kernel))
  obtain ⟨_,gb,rfl,_⟩:=c10 (hall 10 (by decide +kernel))
  clear c11 c15 cb hall hB;simp only [putAll,Act.put,qA,qB,qC];obtain ⟨p2,hS2,hK2⟩:=HT.out;clear HT;have hl2:Stay (Mine n0 E g p2) w' (fun V=>Line V (.slice A x.bk.line.tail.length C) x.bk.line.tail):=by rw [List.length_tail,HL1.out]; exact HS.out.keep hK2 HT1.out
  have h1:=hS2.line hl2;have h2:=h1.1.asks 0;have h3:=h2.1.au0;rw [List.length_tail,HL1.out] at h1 h2 h3;have HE:=qH (And.intro h3.1 (((Kept.of Hb1.out).trans hK2).trans ((h1.2.trans h2.2).trans h3.2)));clear h1 h2 h3 hl2;have z2:=hS2.ob.cell 2;have z4:=hS2.ob.cell 4;have z6:=hS2.ob.cell 6;have z7:=hS2.ob.cell 7;have z8:=hS2.ob.cell 8;have z9:=hS2.ob.cell 9;have z10:=hS2.ob.cell 10;have z11:=hS2.ob.cell 11
  have y2:=hS2.ob.free 2;have y4:=hS2.ob.free 4;have y6:=hS2.ob.free 6;have y7:=hS2.ob.free 7;have y8:=hS2.ob.free 8;have y9:=hS2.ob.free 9;have y10:=hS2.ob.free 10;have y11:=hS2.ob.free 11;have hlt2:=hS2.lt;have HS2:=qH hS2;clear hS2 hK2
  go_wp2_with fail
  exact bodyPost_end (v:=.tuple #[]) (by simp [results,Tryz.results141,go_sem]) rfl ⟨rfl,_,HE.out⟩
end Go.Proofs.YtecjnkokdnmhlaaGreat
