/- Parts, as far as NodeAtOnceCards reaches them, of: NodeTick, RangeMethod, NodeNoise, NodeOthers, NodeWrite1. No law is proved here. -/
import Derived.Test.YtecjnkokdnmhlaaGreatTa35
namespace Go.Proofs.YtecjnkokdnmhlaaGreat
open Go.RowKit
def HasT (P:MlP) (w:World) (r:Nd × List Ml × Int) (e:Ending) (w':World):Prop :=
 ∃ (Q:Nl) (A:Option Addr) (m C:Nat),e=.returned (.tuple #[ndAt r.1 Q,.slice A m C,.int .i64 r.2.2])∧m=r.2.1.length∧Below w.heap.size w w'∧Stay (fun b=>b < w.heap.size) w' (fun V=>NdIn V Q r.1)∧Stay (fun b=>b < w.heap.size) w' (fun V=>P V A m C r.2.1)
def WriteC (P:MlP) (c:Cf) (who:Int):Prop:=∀ (n0 g:Nat) (y:Nd) (q:Nl) (cd:Int) (V:World),St n0 (fun _=>False) V g c who y q cd→(cd=0→IK c who y.bk)→Calls Tryz.prog 125 #[.pointer (some ⟨g,0,none⟩)] V (WroteTo P n0 (fun _=>False) g c who q V y cd)
theorem tick_no {c:Cf} {who:Int} {x:Nd} (draw:Nat) (h:¬ nodeOk c who x):tickNd c who x draw=(x,[],1):=by unfold tickNd; exact if_neg h
theorem tick_same {c:Cf} {who:Int} {x:Nd} (draw:Nat) (h:(tickNd c who x draw).2.2 ≠ 0):(tickNd c who x draw).1=x:=by
 by_cases hk:nodeOk c who x
 · exact (tick_stays draw hk).2.2.1 h
 · rw [tick_no draw hk]
set_option maxRecDepth 100000 in
set_option maxHeartbeats 8000000 in
theorem ndTick_calls (P:MlP) (hP:∀ V A C,P V A 0 C []) (c:Cf) (who:Int) (x:Nd) (p:Nl) (draw:Nat) (hdr:draw < 4294967296) (hwr:WriteC P c who) (hf:FewK x.bk) (ha:x.asked.length≤1000) (w:World) (hK:NdIn w p x) :
 Calls Tryz.prog 25 #[cfV c,.int .i64 who,ndAt x p,.int .u32 draw] w (HasT P w (tickNd c who x draw)):=by
 have HI:=qH hK;have Hf:=qH hf;have HA:=qH ha;have HP:=qH hP;have HWr:=qH hwr;have Hdr:=qH hdr;clear hK hf ha hP hwr hdr;obtain ⟨x1,Hx1⟩:∃ z,Hid (x1N c who x=z):=⟨_,rfl⟩;obtain ⟨k1,Hk1⟩:∃ z,Hid (k1N c who x=z):=⟨_,rfl⟩;obtain ⟨⟨y,ly,ky⟩,Hy⟩:∃ z,Hid (tickNd c who x draw=z):=⟨_,rfl⟩;rw [Hy.out]
 have hok:k1=0→nodeOk c who x1:=fun h=>by
  rw [← Hk1.out] at h
  unfold k1N at h
  by_cases hn:nodeOk c who x
  · rw [← Hx1.out]; unfold x1N; rw [if_pos hn]; exact hn
  · rw [if_neg hn] at h; exact absurd h (by decide)
 have htk:0≤x1.tk∧x1.tk≤1125899906842624:=by
  rw [← Hx1.out]; unfold x1N; split
  · rename_i hn; exact hn.2.1
  · exact ⟨by decide,by decide⟩
 have hx1a:x1.asked.length≤1000:=by
  rw [← Hx1.out]; unfold x1N; split
  · exact HA.out
  · exact Nat.zero_le _
 -- what pass tells is what the tick is
 have hfin:∀ (x2:Nd) (k2:Int) (m:Nat) (Q:List Ml→Prop),(k1 ≠ 0→k2=k1∧m=0)→(m=0→Q [])→(k1=0→k2=(tickNd c who x1 draw).2.2∧(k2=0→x2=(tickNd c who x1 draw).1)∧m=(tickNd c who x1 draw).2.1.length∧Q (tickNd c who x1 draw).2.1) →
  (if k2=0 then x2 else x)=y∧k2=ky∧m=ly.length∧Q ly∧(k2=0→x2.bk.outs.length≤1000):=fun x2 k2 m Q h1 hq h2=>by
  by_cases hn:nodeOk c who x
  · have e1:x1=x:=by rw [← Hx1.out]; unfold x1N; exact if_pos hn
    have e0:k1=0:=by rw [← Hk1.out]; unfold k1N; exact if_pos hn
    obtain ⟨g1,g2,g3,g4⟩:=h2 e0;rw [e1] at g1 g2 g3 g4;have hs:=tick_same (c:=c) (who:=who) (x:=x) draw;have ho:=(tick_stays draw hn).1;rw [Hy.out] at g1 g2 g3 g4 hs ho;simp only at g1 g2 g3 g4 hs ho;refine ⟨?_,g1,g3,g4,fun h=>?_⟩
    · by_cases hk:k2=0
      · rw [if_pos hk]; exact g2 hk
      · rw [if_neg hk]; exact (hs (by rw [← g1]; exact hk)).symm
    · rw [g2 h]; exact ho.few.1.2.2.1
  · have e0:k1=1:=by rw [← Hk1.out]; unfold k1N; exact if_neg hn
    have hy:=Hy.out;rw [tick_no draw hn] at hy
    cases hy
    obtain ⟨g1,g2⟩:=h1 (by rw [e0]; decide)
    exact ⟨by rw [if_neg (by rw [g1,e0]; decide)],g1.trans e0,g2,hq g2,fun h=>absurd (g1.symm.trans h) (by rw [e0]; decide)⟩
 have Hfin:=qH hfin;have Hpre:=qH (And.intro hok (And.intro htk hx1a));clear hfin hok htk hx1a;have HC0:=qH (((Whole.made w 23 (cfCells c)).alloc (.cells (ndAtC x p) 39)).alloc (.cells zeroN 39));have HN0:Hid (Whole (((w.alloc (.cells (cfCells c) 23)).alloc (.cells (ndAtC x p) 39)).alloc (.cells zeroN 39)) (w.heap.size + 1) 39 (ndAtC x p)):=qH ((Whole.made2 w _ _ _).alloc _);have HR0:Hid (Whole (((w.alloc (.cells (cfCells c) 23)).alloc (.cells (ndAtC x p) 39)).alloc (.cells zeroN 39)) (w.heap.size + 1 + 1) 39 zeroN):=qH (Whole.madeAt _ _ _ _ (by simp))
 have HB0:Hid (Below w.heap.size w (((w.alloc (.cells (cfCells c) 23)).alloc (.cells (ndAtC x p) 39)).alloc (.cells zeroN 39))):=qH ((below_two w _ _).alloc (by simp; omega) _)
 obtain ⟨W0,HW⟩:∃ z,Hid ((((w.alloc (.cells (cfCells c) 23)).alloc (.cells (ndAtC x p) 39)).alloc (.cells zeroN 39))=z):=⟨_,rfl⟩;rw [HW.out] at HC0 HN0 HR0 HB0;have OB:=qH (begin18_calls c who x p Hf.out HA.out W0 (HI.out.later HB0.out));have hlt:=HR0.out.lt
 go_enter Tryz.func25,Tryz.ntmps25
 go_wp2_with fail
 try rw [HW.out]
 refine OB.out.mono ?_;rintro e W1 ⟨g,p1,rfl,hb,hS⟩;rw [show (if nodeOk c who x then x else nd0)=x1 from Hx1.out,show (if nodeOk c who x then (0:Int) else 1)=k1 from Hk1.out] at hS
 have HS1:=qH hS;have HB1:=qH hb;have OP:=qH (pass18_calls hS P HP.out draw Hdr.out Hpre.out.1 Hpre.out.2.1 Hpre.out.2.2 (fun y q cd V h1 h2=>HWr.out _ g y q cd V h1 h2))
 clear hS hb OB hlt
 go_wp2_with fail
 refine OP.out.mono ?_;rintro e W2 ⟨A,m,C,x2,p2,k2,rfl,hS2,hK2,h1,h2⟩;have HS4:=qH hS2;have HB4:=qH (HB1.out.trans (HS1.out.low hK2));have hfn:=Hfin.out x2 k2 m (fun l=>Stay (Mine W0.heap.size (fun _=>False) g p2) W2 (fun V=>P V A m C l)) h1 (fun h V _=>by rw [h]; exact HP.out V A C) h2
 have Hfn:=qH hfn;have HN4:=qH (HN0.out.later HB4.out HN0.out.lt);clear hS2 hK2 h1 h2 hfn OP;have OE:=qH (end18_calls HS4.out x p (HI.out.later (held_next HB0.out HB4.out)) Hf.out HA.out);obtain ⟨⟨q0,q1,q2,q3⟩,⟨q4,q5,q6,q7⟩,⟨q8,q9,q10,q11⟩,q12,q13,q14⟩:=nd_cells HN4.out;have hlt4:=HN4.out.lt
 go_wp2_with fail
 refine OE.out.mono ?_;rintro e W5 hE;obtain ⟨PP,he,hb5,hst⟩:=hE.one HS4.out Hfn.out.2.2.2.2 Hf.out HA.out;rw [Hfn.out.1,Hfn.out.2.1] at he;rw [Hfn.out.1] at hst;subst he;have HB5:=qH (held_next HB0.out (HB4.out.trans (hb5.mono HB4.out.size)));have HR5:=qH (HR0.out.later (HB4.out.trans (hb5.mono HB4.out.size)) HR0.out.lt);have HST5:=qH hst;have HPL:=qH (show Stay (fun b=>b < W0.heap.size) W5 (fun V=>P V A m C ly) from fun V hV=>Hfn.out.2.2.2.1 V ((ButS.of hb5).trans (hV.wide fun b hb=>Or.inl hb)))
 have Hm:=qH Hfn.out.2.2.1;have hz5:W0.heap.size≤W5.heap.size:=(HB4.out.trans (hb5.mono HB4.out.size)).size;have Hz5:=qH hz5;clear hE hb5 hst OE hz5 q0 q1 q2 q3 q4 q5 q6 q7 q8 q9 q10 q11 q12 q13 q14 hlt4;obtain ⟨⟨z0,z1,z2,z3⟩,⟨z4,z5,z6,z7⟩,⟨z8,z9,z10,z11⟩,z12,z13,z14⟩:=nd_cells HR5.out;have y0:=HR5.out.free 0;have y1:=HR5.out.free 1;have y2:=HR5.out.free 2;have y3:=HR5.out.free 3;have y4:=HR5.out.free 4
 have y5:=HR5.out.free 5;have y6:=HR5.out.free 6;have y7:=HR5.out.free 7;have y8:=HR5.out.free 8;have y9:=HR5.out.free 9;have y10:=HR5.out.free 10;have y11:=HR5.out.free 11;have y12:=HR5.out.free 12;have y13:=HR5.out.free 13;have y14:=HR5.out.free 14;have hlt5:=HR5.out.lt;have hw0:w.heap.size + 1 + 1 < W0.heap.size:=HR0.out.lt;have hU0:ButS (fun b=>b=w.heap.size + 1 + 1) W5 (nd15p W5 (w.heap.size + 1 + 1) y PP):=nd15_buts (ButS.refl _ _) rfl
 have hU:ButS (fun b=>b=w.heap.size + 1 + 1) W5 ((nd15p W5 (w.heap.size + 1 + 1) y PP).alloc (.cells (ndAtC y PP) 39)):=hU0.trans (ButS.of (below_box _ _))
 have HU:=qH hU;have HE:Hid (Whole ((nd15p W5 (w.heap.size + 1 + 1) y PP).alloc (.cells (ndAtC y PP) 39)) (w.heap.size + 1 + 1) 39 (ndAtC y PP)):=qH ((nd15_whole HR5.out).alloc _);have hNB:Below w.heap.size w (nd15p W5 (w.heap.size + 1 + 1) y PP):=nd15_below HB5.out (by omega)
 have HBE:Hid (Below w.heap.size w ((nd15p W5 (w.heap.size + 1 + 1) y PP).alloc (.cells (ndAtC y PP) 39))):=qH (hNB.alloc hNB.size _);have HSE:Hid (Stay (fun b=>b < w.heap.size) ((nd15p W5 (w.heap.size + 1 + 1) y PP).alloc (.cells (ndAtC y PP) 39)) (fun V=>NdIn V PP y)):=qH fun V hV=>HST5.out V ((HU.out.wide fun b e=>by omega).trans (hV.wide fun b e=>by omega))
 have HPE:Hid (Stay (fun b=>b < w.heap.size) ((nd15p W5 (w.heap.size + 1 + 1) y PP).alloc (.cells (ndAtC y PP) 39)) (fun V=>P V A m C ly)):=qH fun V hV=>HPL.out V ((HU.out.wide fun b e=>by omega).trans (hV.wide fun b e=>by omega))
 clear hU hU0 hNB
 go_wp2_with fail
 obtain ⟨⟨k0,k1',k2',k3⟩,⟨k4,k5,k6,k7⟩,⟨k8,k9,k10,k11⟩,k12,k13,k14⟩:=nd_cells HE.out;simp only [nd15p,nd15] at k0 k1' k2' k3 k4 k5 k6 k7 k8 k9 k10 k11 k12 k13 k14;refine bodyPost_ret (v:=.tuple #[ndAt y PP,.slice A m C,.int .i64 ky]) (by simp [results,Tryz.results25,go_sem,k0,k1',k2',k3,k4,k5,k6,k7,k8,k9,k10,k11,k12,k13,k14]) rfl ⟨PP,A,m,C,rfl,Hm.out,HBE.out,HSE.out,HPE.out⟩
end Go.Proofs.YtecjnkokdnmhlaaGreat
namespace Go.Proofs.YtecjnkokdnmhlaaGreat
open Go Go.RowKit
def SeqM (n:Nat) (P:Program) (gf:Nat) (recv:Value) (who:Int) (N:Nat) (R:World→Prop):Prop :=
 ∀ (l : Nat) (J : Nat → World → Prop) (Jx : World → Prop) (W : World), (∀ k V, J k V → R V) → (∀ k V V', J k V → V.grownBy V' none → J k V') →
   (∀ k V,J k V→k < N→(k:Int)=who→J (k + 1) V) →
   (∀ k V,J k V→k < N→(k:Int) ≠ who→YieldAt Fence.wide (n - 1) P l #[.int .i64 k] V (fun e V'=>(e=.returned (.bool true)∧J (k + 1) V')∨(e=.returned (.bool false)∧Jx V'))) →
   J 0 W→CallsIn Fence.wide n P gf #[recv,.func (.yield l) #[] #[]] W (fun e V=>(∃ v,e=.returned v)∧(J N V∨Jx V))
def endM (I:Nat→World→Prop) (Ix:World→Prop) (B k:Nat) (W:World):Exit→Act→World→Prop
 | .normal,_,V=>KeepsFrom B W V∧I (k + 1) V
 | .ret,_,V=>KeepsFrom B W V∧Ix V
 | _,_,_=>False
theorem range_method {P:Program} {n gf:Nat} {g:Operand} {ps:Array Tmp} {assign body:Code} {Q:Exit→Act→World→Prop} {a:Act} {w:World} {recv:Value} {who:Int} {N:Nat} {R:World→Prop}
 (hg:a.eval g=.func (.func gf) #[recv] #[]) (eg:∀ args V,(callFunc gf args).run P V=.ok (.enter gf args) V) (hseq:SeqM (n - 1) P gf recv who N R) (hps:ps.size=1)
 (I:Nat→World→Prop) (Ix:World→Prop) (hI:OwnFrom w.heap.size I) (hIx:OwnFrom w.heap.size (fun (_:Unit) V=>Ix V)) (hIR:∀ k V,I k V→R V)
 (hIs:∀ k V,I k V→k < N→(k:Int)=who→I (k + 1) V) (h0:I 0 w) (a1:Nat→Act)
 (hassign:∀ (l k:Nat) (V:World) (K:Act→World→Prop),K (a1 k) V →
  assign.wpIn (Fence.wide.inRound l) (n - 1 - 1) P (Exit.then K (fun _ _ _=>False)) { tmps:=(ps.zip #[.int .i64 (k:Int)]).foldl (fun t (p,v)=>t.setIfInBounds p v) a.tmps,defers:=[] } V)
 (hbody:∀ (l k:Nat) (V:World),I k V→k < N→(k:Int) ≠ who→body.wpIn (Fence.wide.inRound l) (n - 1 - 1) P (endM I Ix w.heap.size k V) (a1 k) V)
 (hdone:∀ (D:Nat) (V:World),w.heap.size≤D→I N V→V.heap[D]?=some (.deferred (some []))→Q .normal { a with defers:={ target:=.collected D,args:=#[] } :: a.defers } V)
 (hstop:∀ (D:Nat) (V:World),w.heap.size≤D→Ix V→V.heap[D]?=some (.deferred (some []))→Code.ret.wpIn Fence.wide n P Q { a with defers:={ target:=.collected D,args:=#[] } :: a.defers } V) :
 (Code.rangeFunc g ps assign body).wpIn Fence.wide n P Q a w:=by
 refine wpIn_rangeFunc fun fn hfn=>?_
 obtain ⟨B,hB⟩:∃ B,w.heap.size=B:=⟨_,rfl⟩;obtain ⟨rec,hrec⟩:∃ rec:LoopState→Option Code→Loop,rec=fun st pe=>{ state:=st,pending:=pe,fn,tmps:=a.tmps,params:=ps,assign,body,defers:=w.heap.size }:=⟨_,rfl⟩
 obtain ⟨V0,hV0⟩:∃ z,(w.alloc (.deferred (some []))).alloc (.loop (rec .ready none))=z:=⟨_,rfl⟩
 have hl0:V0.heap[B + 1]?=some (.loop (rec .ready none)):=by
  have h1:=World.alloc_heap_new (w.alloc (.deferred (some []))) (.loop (rec .ready none));rw [hV0,World.size_alloc,hB] at h1
  exact h1
 have hd0:V0.heap[B]?=some (.deferred (some [])):=by
  have h1:=World.alloc_heap_new w (.deferred (some []));rw [hB] at h1;rw [← hV0]
  exact (Below.heap_alloc _ _ _ (by simp [hB])).trans h1
 have hi0:I 0 V0:=by rw [← hV0]; exact hI.alloc _ (hI.alloc _ h0)
 refine ⟨B + 1,[{ target:=.collected B,args:=#[] }],V0,{ target:=.fn (.func gf) #[],args:=#[recv,.func (.yield (B + 1)) #[] #[]] },V0,gf,#[recv,.func (.yield (B + 1)) #[] #[]],V0,?_,?_,?_,?_,(fun h=>by cases h),?_⟩
 · rw [← hB,← hV0,hrec]; exact run_enterLoop_outer _ _ _ _ _
 · simp only [resolve,hg]
   simp [go_sem]
 · intro f' _; trivial
 · simp [invoke,go_sem,eg]
 -- the two blocks of the loop's own lie as they lay
 have hlay:∀ {V V':World} {st:LoopState} {pe:Option Code},V.heap[B + 1]?=some (.loop (rec st pe))→V.heap[B]?=some (.deferred (some []))→KeepsFrom B V V'→V'.heap[B + 1]?=some (.loop (rec st pe))∧V'.heap[B]?=some (.deferred (some [])) :=
  fun h1 h2 hk=>⟨hk.same _ _ (Nat.le_succ B) h1 rfl,hk.same _ _ (Nat.le_refl B) h2 rfl⟩
 have hput:∀ {V:World} {st st':LoopState} {pe pe':Option Code},V.heap[B + 1]?=some (.loop (rec st pe))→V.heap[B]?=some (.deferred (some [])) →
  (V.putObj (B + 1) (.loop (rec st' pe'))).heap[B + 1]?=some (.loop (rec st' pe'))∧(V.putObj (B + 1) (.loop (rec st' pe'))).heap[B]?=some (.deferred (some [])) :=
  fun h1 h2=>⟨World.putObj_heap_same (Array.getElem?_eq_some_iff.1 h1).1,(World.putObj_heap_other (by omega)).trans h2⟩
 refine (hseq (B + 1) (fun k V=>I k V∧V.heap[B + 1]?=some (.loop (rec .ready none))∧V.heap[B]?=some (.deferred (some [])))
  (fun V=>Ix V∧V.heap[B + 1]?=some (.loop (rec .done (some .ret)))∧V.heap[B]?=some (.deferred (some []))) V0 (fun k V h=>hIR k V h.1) ?_ (fun k V h hk he=>⟨hIs k V h.1 hk he,h.2⟩) ?_ ⟨hi0,hl0,hd0⟩).mono ?_
 · rintro k V V' ⟨h1,h2,h3⟩ hgr
   exact ⟨hI k V V' none h1 hgr (fun r e=>by cases e),(hgr.block _ (Array.getElem?_eq_some_iff.1 h2).1 (by simp)).trans h2,(hgr.block _ (Array.getElem?_eq_some_iff.1 h3).1 (by simp)).trans h3⟩
 · -- a round
   rintro k V ⟨h1,h2,h3⟩ hk hne;have hy:=run_yield (P:=P) (args:=#[.int .i64 (k:Int)]) h2 (by rw [hrec]; exact hps.symm)
   have hbr:=run_beginRound (P:=P) h2 (by rw [hrec])
   obtain ⟨h4,h5⟩:=hput (st':=.busy) (pe':=none) h2 h3;have hi2:I k (V.putObj (B + 1) (.loop (rec .busy none))):=hI.putObj _ h1 (by omega) h2 rfl
   refine ⟨_,_,_,_,hy,?_⟩;rw [hrec];refine roundIn_of_wpIn hfn (hassign _ k V _ ⟨_,by rw [hrec] at hbr; exact hbr,?_⟩)
   have hi3:=hi2;rw [hrec] at hi3;refine wpIn_mono (hbody _ k _ hi3 hk hne) ?_;rintro e a3 V3 hp
   cases e with
   | normal =>
     obtain ⟨hk3,hi4⟩:=hp;have hk4:KeepsFrom B (V.putObj (B + 1) (.loop (rec .busy none))) V3:=by rw [hrec]; rw [hB] at hk3 ⊢; exact hk3
     have h6:=hlay (V:=V.putObj (B + 1) (.loop (rec .busy none))) h4 h5 hk4;have hr:=run_endRound (P:=P) none h6.1;obtain ⟨h7,h8⟩:=hput (st':=.ready) (pe':=none) h6.1 h6.2;refine ⟨_,_,hr,Or.inl ⟨rfl,?_⟩⟩;rw [hrec] at h7 h8 ⊢
     exact ⟨hI.putObj _ hi4 (by omega) h6.1 rfl,h7,h8⟩
   | ret =>
     obtain ⟨hk3,hi4⟩:=hp;have hk4:KeepsFrom B (V.putObj (B + 1) (.loop (rec .busy none))) V3:=by rw [hrec]; rw [hB] at hk3 ⊢; exact hk3
     have h6:=hlay (V:=V.putObj (B + 1) (.loop (rec .busy none))) h4 h5 hk4;have hr:=run_endRound (P:=P) (some .ret) h6.1;obtain ⟨h7,h8⟩:=hput (st':=.done) (pe':=some .ret) h6.1 h6.2;refine ⟨_,_,hr,Or.inr ⟨rfl,?_⟩⟩;rw [hrec] at h7 h8 ⊢
     exact ⟨hIx.putObj (s:=()) _ hi4 (by omega) h6.1 rfl,h7,h8⟩
   | exit id=>exact hp.elim
   | goto t=>exact hp.elim
   | panic ch=>exact hp.elim
   | outgrown=>exact hp.elim
 · -- behind the iterator
   rintro e V2 ⟨⟨v,rfl⟩,(⟨hi,hl,hd⟩ | ⟨hi,hl,hd⟩)⟩
   · obtain ⟨h7,h8⟩:=hput (st':=.done) (pe':=none) hl hd
     exact ⟨none,_,by have:=run_endLoop (P:=P) hl (by rw [hrec]; simp); rw [hrec] at this; exact this,hdone B _ (by omega) (hI.putObj _ hi (by omega) hl rfl) ((World.putObj_heap_other (by omega)).trans hd)⟩
   · exact ⟨some .ret,_,by have:=run_endLoop (P:=P) hl (by rw [hrec]; simp); rw [hrec] at this; exact this,hstop B _ (by omega) (hIx.putObj (s:=()) _ hi (by omega) hl rfl) ((World.putObj_heap_other (by omega)).trans hd)⟩
end Go.Proofs.YtecjnkokdnmhlaaGreat
namespace Go.Proofs.YtecjnkokdnmhlaaGreat
open Go.RowKit
def EN (E:Nat→Prop) (B:Nat) (V:World) (b:Nat):Prop:=E b∨(B≤b∧b < V.heap.size)
theorem grown_buts {B:Nat} {V V':World} {row:Option Nat} (hg:V.grownBy V' row) (hr:∀ r,row=some r→B≤r):ButS (fun b=>B≤b) V V' :=
 ⟨(Below.refl 0 V).grown hg (Nat.zero_le _) (fun _ _=>Nat.zero_le _),fun b hb hn=>hg.block b hb (fun e=>hn (hr b e.symm))⟩
theorem put_buts {B:Nat} {V:World} {l:Nat} (o:Obj) (h:B≤l):ButS (fun b=>B≤b) V (V.putObj l o) :=
 grown_buts (grownBy_putObj' V l o) (fun r e=>by cases e; exact h)
section
variable {n0 g B:Nat} {E:Nat→Prop} {W V V':World} {c:Cf} {who:Int} {x:Nd} {p p1:Nl} {code:Int}
theorem St.start (h:St n0 E W g c who x p code) (B:Nat) (hB:W.heap.size≤B):St n0 (EN E B W) W g c who x p code :=
 h.wider (Below.refl _ _) fun b e=>e.elim Or.inl fun e=>absurd e.2 (by omega)
theorem St.over (h:St n0 (EN E B V) V g c who x p code):St n0 E V g c who x p code:=h.fewer fun _ e=>Or.inl e
theorem St.goes (h:St n0 (EN E B V) V g c who x p code) (hb:Below V.heap.size V V'):St n0 (EN E B V') V' g c who x p code :=
 h.wider hb fun b e=>e.elim (fun e=>Or.inl (Or.inl e)) fun e=>by
  by_cases h2:b < V.heap.size
  · exact Or.inl (Or.inr ⟨e.1,h2⟩)
  · exact Or.inr ⟨by omega,e.2⟩
theorem St.noise (h:St n0 (EN E B V) V g c who x p code) (hb:ButS (fun b=>B≤b) V V') (hg:g < B) (ho:∀ b,(outV p).ownBlock=some b→b < B):St n0 (EN E B V') V' g c who x p code:=by
 have hs:=hb.size;have hm:∀ b,b < V.heap.size→¬ Mine n0 (EN E B V) g p b→¬ B≤b:=fun b h1 h2 h3=>h2 (Or.inr (Or.inr (Or.inr (Or.inr ⟨h3,h1⟩))))
 refine ⟨h.le,(hb.2 g h.lt (by omega)).trans h.ob,fun U hU=>h.rest U ⟨hb.1.trans hU.1,fun b hl hn=>(hU.2 b (Nat.lt_of_lt_of_le hl hs) (fun e=>?_)).trans (hb.2 b hl (hm b hl hn))⟩,h.len,?_,?_⟩
 · refine hn ?_
   rcases e with e | e | e | e | e
   · exact Or.inl e
   · exact Or.inr (Or.inl e)
   · exact Or.inr (Or.inr (Or.inl e))
   · exact Or.inr (Or.inr (Or.inr (Or.inl e)))
   · exact absurd e.1 (hm b hl hn)
 · obtain ⟨h1,h2 | ⟨b,cap,cur,hv,hb2,hh,h4⟩⟩:=h.outs
   · exact ⟨h1,Or.inl h2⟩
   · exact ⟨h1,Or.inr ⟨b,cap,cur,hv,hb2,(hb.2 b (Array.getElem?_eq_some_iff.1 hh).1 (by have:=ho b (by rw [hv]; rfl); omega)).trans hh,h4⟩⟩
 · rintro b (e | e)
   · exact Nat.lt_of_lt_of_le (h.ext b (Or.inl e)) hs
   · exact e.2
theorem Kept.blur (h:Kept g p p1 W V) (hb:ButS (fun b=>B≤b) V V') (hB:W.heap.size≤B):Kept g p p1 W V' :=
 ⟨⟨h.but.1.trans hb.1,fun b hl hn=>(hb.2 b (Nat.lt_of_lt_of_le hl h.size) (by omega)).trans (h.but.2 b hl hn)⟩,h.own⟩
end
end Go.Proofs.YtecjnkokdnmhlaaGreat
namespace Go.Proofs.YtecjnkokdnmhlaaGreat
open Go.RowKit Go.Shelf
attribute [local go_sem] Oper.semAt_some
def OthersR (g:Nat) (N:Nat) (who:Int) (V:World):Prop:=V.cell? ⟨g,15,none⟩=some (.int .i64 (N:Int))∧V.cell? ⟨g,21,none⟩=some (.int .i64 who)
set_option maxRecDepth 100000 in
set_option maxHeartbeats 2000000 in
theorem others_seq (n g N:Nat) (who:Int) (hn:1≤n) (hN:N≤1000):SeqM n Tryz.prog 175 (.pointer (some ⟨g,0,none⟩)) who N (OthersR g N who):=by
 intro l J Jx W hR hG hS hY h0;have HR:=qH hR;have HG:=qH hG;have HS:=qH hS;have HY:=qH hY;have c15:=(hR 0 W h0).1;clear hR hG hS hY;refine callsIn_of_wp Tryz.func175 rfl trivial ?_ rfl;simp only [Tryz.ntmps175,List.size_toArray,List.length_cons,List.length_nil,Nat.reduceAdd,Nat.reduceSub,Array.replicate_succ,Array.replicate_zero,List.push_toArray,List.append_toArray,List.nil_append,List.cons_append]
 gi_wp2
 gi_loopw [10] (fun i wr=>∃ k:Nat,k≤N∧i=.int .i64 (k:Int)∧J k wr) (fun i _=>N - (intOf i).toNat)
 case atStart=>exact ⟨0,Nat.zero_le _,rfl,h0⟩
 case round =>
  clear c15 h0;obtain ⟨k,hk,rfl,hJ⟩:=hrel
  by_cases hlt:k < N
  · have c21:=(HR.out k wr hJ).2
    by_cases hw:(k:Int)=who
    · have hJ2:=HS.out k wr hJ hlt hw
      have hd:((k:Int) == who)=true:=by simpa using hw
      gi_wp2
      refine ⟨fun f hf=>(by cases hf),?_⟩
      gi_wp2
      go_roundw
      case rel=>exact ⟨k + 1,by omega,by simp; omega,hJ2⟩
      case measure=>simp [intOf]; omega
    · obtain ⟨fn,tmps,assign,body,hy,hRd⟩:=HY.out k wr hJ hlt hw
      have hd:((k:Int) == who)=false:=by simpa using hw
      gi_wp2
      refine hRd.mono ?_;rintro e W3 (⟨rfl,hJ3⟩ | ⟨rfl,hJx3⟩)
      · gi_wp2
        go_roundw
        case rel=>exact ⟨k + 1,by omega,by simp,hJ3⟩
        case measure=>simp [intOf]; omega
      · gi_wp2
        refine bodyPost_ret (results_none rfl _ _ _) rfl ?_
        exact ⟨⟨_,rfl⟩,.inr hJx3⟩
  · have hkm:k=N:=by omega
    subst hkm
    gi_wp2
    go_end0
    exact ⟨⟨_,rfl⟩,.inl hJ⟩
end Go.Proofs.YtecjnkokdnmhlaaGreat
namespace Go.Proofs.YtecjnkokdnmhlaaGreat
open Go.RowKit Go.Shelf
attribute [local go_sem] Oper.semAt_some
set_option maxRecDepth 100000 in
set_option maxHeartbeats 4000000 in
theorem write1_calls {n0 g:Nat} {E:Nat→Prop} {c:Cf} {who:Int} {x:Nd} {p:Nl} {code:Int} {W:World} (P:MlP) (hP:∀ V A C,P V A 0 C []) (h:St n0 E W g c who x p code) (hN:c.n=1) (hw:who=0) :
 Calls Tryz.prog 125 #[.pointer (some ⟨g,0,none⟩)] W (WroteTo P n0 E g c who p W x code):=by
 have hwr:writeK who x.bk c.n.toNat=some (x.bk,[]):=by rw [hN,hw]; rfl
 have Hwr:=qH hwr;have HP:=qH hP;have hg:g < W.heap.size:=h.lt;have Hg:=qH hg;have Hown:Hid (∀ b,(outV p).ownBlock=some b→b < W.heap.size):=qH fun b e=>(h.own_lt e).2
 have b1:=Boxed.new W 93 (.pointer (some ⟨g,0,none⟩));have b2:=Boxed.new (W.alloc (.cells #[.pointer (some ⟨g,0,none⟩)] 93)) 69 (.slice none 0 0);have b1:=b1.alloc (.cells #[.slice none 0 0] 69);have hb1:=below_two W (.cells #[.pointer (some ⟨g,0,none⟩)] 93) (.cells #[.slice none 0 0] 69);rw [World.size_alloc] at b2;have cb1:=b1.cell;obtain ⟨W1,hW1⟩:∃ z,Hid ((W.alloc (.cells #[.pointer (some ⟨g,0,none⟩)] 93)).alloc (.cells #[.slice none 0 0] 69)=z):=⟨_,rfl⟩
 rw [hW1.out] at b1 b2 hb1;have HS1:Hid (St n0 (EN E W.heap.size W1) W1 g c who x p code):=qH ((h.start W.heap.size (Nat.le_refl _)).goes hb1);have HK1:Hid (Kept g p p W W1):=qH (Kept.of hb1);have hz:W.heap.size≤W1.heap.size:=hb1.size;have HNo:=qH hN;have HWo:=qH hw;have HB2:=qH b2;have HZ:=qH hz;clear h hP hwr hb1 hN hw b1 b2 hg hz;refine (callsIn_wide (n:=9)).1 ?_;refine callsIn_of_wp_marks Tryz.func125 rfl trivial ?_ rfl
 simp only [Tryz.ntmps125,List.size_toArray,List.length_cons,List.length_nil,Nat.reduceAdd,Nat.reduceSub,Array.replicate_succ,Array.replicate_zero,List.push_toArray,List.append_toArray,List.nil_append,List.cons_append]
 gi_wp2_with fail
 clear cb1;rw [hW1.out]
 refine range_method (n:=9) (gf:=175) (recv:=.pointer (some ⟨g,0,none⟩)) (who:=who) (N:=1) (R:=OthersR g 1 who) ?hg (enters_of Tryz.func175 (by kernel_rfl) rfl) (others_seq 8 g 1 who (by decide) (by decide)) ?hps
  (fun _ V=>Hid (St n0 (EN E W.heap.size V) V g c who x p code)∧Hid (Kept g p p W V)∧Boxed V (W.heap.size + 1) 69 (.slice none 0 0)) (fun _=>False) ?hI ?hIx ?hIR ?hIs ?h0 ?a1 ?assign ?body ?done ?stop
 case hg=>rfl
 case hps=>rfl
 case assign =>
  intro l k V K hK
  gi_wp2
  exact hK
 case hI =>
  rintro k V V' row ⟨h1,h2,h3⟩ hgr hrow;have hbs:=grown_buts (B:=W.heap.size) hgr (fun r e=>by have h1:=(hrow r e).1; have h2:=HZ.out; omega)
  exact ⟨qH (h1.out.noise hbs Hg.out Hown.out),qH (h2.out.blur hbs (Nat.le_refl _)),h3.kept hgr (fun e=>by obtain ⟨o,ho,hc⟩:=(hrow _ e.symm).2; rw [show V.heap[_]?=_ from h3] at ho; cases ho; cases hc)⟩
 case hIx=>intro _ _ _ _ h; exact h.elim
 case hIR =>
  rintro k V ⟨h1,_,_⟩;have z15:=h1.out.ob.cell 15;have z21:=h1.out.ob.cell 21
  exact ⟨by have h9:((1:Nat):Int)=c.n:=HNo.out.symm; rw [h9]; exact z15,z21⟩
 case hIs=>intro k V h _ _; exact h
 case h0=>exact ⟨HS1,HK1,HB2.out⟩
 case body =>
  intro l k V _ hk hne
  exact absurd (by have:=HWo.out; omega) hne
 case stop=>intro D V _ h; exact h.elim
 case done =>
  rintro D V hD ⟨hS,hK,hr⟩ hdef;have hc:=hr.cell;have hfz:=hr.frozen
  gi_wp2
  have hdef':=(KeepsOthers.setCell V ⟨W.heap.size + 1,0,none⟩ (.slice none 0 0)).same D _ hdef rfl;refine ⟨by simp,.inl ⟨_,_,rfl,run_takeDeferred hdef',?_⟩⟩
  have hc5:=cell_kept (hr.set (.slice none 0 0)).cell (grownBy_putObj' _ D (.deferred none)) (fun r e=>by cases e; exact ⟨_,hdef',rfl⟩)
  have hbs:ButS (fun b=>W.heap.size≤b) V ((V.setCell ⟨W.heap.size + 1,0,none⟩ (.slice none 0 0)).putObj D (.deferred none)) :=
   ((ButS.refl _ V).set (p:=⟨W.heap.size + 1,0,none⟩) (Nat.le_succ _) _).trans (put_buts _ (by have:=HZ.out; omega))
  refine ⟨.slice none 0 0,?_,none,0,0,x.bk,p,code,rfl,(hS.out.noise hbs Hg.out Hown.out).over,hK.out.blur hbs (Nat.le_refl _),fun _=>rfl,fun _=>rfl,fun h0=>⟨fun h=>(by rw [Hwr.out] at h; cases h),fun k1 l h=>?_⟩⟩
  · simp [results,Tryz.f125,go_sem,hc5]
  · rw [Hwr.out] at h
    cases h
    exact ⟨h0,rfl,rfl,fun V _=>HP.out V none 0⟩
end Go.Proofs.YtecjnkokdnmhlaaGreat
