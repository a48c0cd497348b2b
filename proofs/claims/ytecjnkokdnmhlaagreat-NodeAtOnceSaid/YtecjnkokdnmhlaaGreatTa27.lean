/- Parts, as far as NodeAtOnceCards reaches them, of: RightsNet, RightsValue, NodeMay, NodeBegin. No law is proved here. -/
import Derived.Test.YtecjnkokdnmhlaaGreatTa26
import Derived.Test.YtecjnkokdnmhlaaGreatTa25
namespace Go.Proofs.YtecjnkokdnmhlaaGreat
open Go.RowKit
theorem net_calls (i u:Int) (v:Value) (h:0≤i∧i≤1099511627776∧0≤u∧u≤1099511627776) (w:World) :
 Calls Tryz.prog 100 #[rowV i u v] w (Num w (i - u)):=by
 obtain ⟨h0,h1,h2,h3⟩:=h
 go_enter Tryz.func100,Tryz.ntmps100
 go_wp2
 go_ret
 exact ⟨by rfl,below_box _ _⟩
set_option maxRecDepth 100000 in
set_option maxHeartbeats 4000000 in
theorem sums_net (a:Option Addr) (m d:Nat) (l:List Rw) (hm:m=l.length) (h16:m≤16) (hF:Fits l) (bs:Nat) (w:World) (hB:Books w (.slice a m d) l)
 (hs:w.cell? ⟨bs,0,none⟩=some (.slice a m d)) :
 Calls Tryz.prog 159 #[.func (.func 100) #[] #[],.pointer (some ⟨bs,0,none⟩)] w (Num w (sumN (fun i=>(at_ l i).inc - (at_ l i).use) m)):=by
 have HB:=qH hB; clear hB;have Hm:=qH hm; clear hm;have HF:=qH hF; clear hF;have hbsl:bs < w.heap.size:=World.block_lt_of_cell? w _ hs
 skip
 obtain ⟨G,HG⟩:∃ G,Hid ((fun i=>(at_ l i).inc - (at_ l i).use)=G):=⟨_,rfl⟩
 rw [HG.out]
 have hGb:Hid (∀ k,k < m→-1125899906842624≤G k∧G k≤1125899906842624):=by
  rw [← HG.out];intro k hk;have:=HF.out k (by have:=Hm.out; omega)
  show -1125899906842624≤(at_ l k).inc - (at_ l k).use∧(at_ l k).inc - (at_ l k).use≤1125899906842624
  omega
 go_enter Tryz.func159,Tryz.ntmps159
 go_wp2_with fail
 clear hs
 go_loopw [3,8] (fun t i wr=>∃ (k:Nat) (T:Int),k≤m∧i=.int .i64 k∧t=.int .i64 T∧Hid (T=sumN G k)∧Hid (Below w.heap.size w wr)) (fun _ i _=>m - (intOf i).toNat)
 case atStart=>exact ⟨0,0,Nat.zero_le _,rfl,rfl,show _=_ by rfl,Below.refl _ _⟩
 case round =>
  obtain ⟨k,T,hk,rfl,rfl,HT,Hb⟩:=hrel;have hbm:m≤9223372036854775807:=by omega
  by_cases hlt:k < m
  · obtain ⟨b,off,A,C,rfl,hbw,c0,c1,c2,hN⟩:=HB.out.at (k:=k) (by have:=Hm.out; omega)
    have hfb:=sumN_bound hGb.out k (by omega)
    rw [← HT.out] at hfb;have hgk:=hGb.out k hlt;have hT0:-(1125899906842624 * 16)≤T:=by omega
    have hT1:T≤1125899906842624 * 16:=by omega
    clear hfb;have hff:=HF.out k (by have:=Hm.out; omega)
    rw [← Hm.out] at hff;obtain ⟨r,Hr⟩:∃ z,Hid (at_ l k=z):=⟨_,rfl⟩;rw [Hr.out] at c0 c1 c2 hN hff;rw [hff.1] at c2 hN;have Hru:Hid (0≤r.inc∧r.inc≤1099511627776∧0≤r.use∧r.use≤1099511627776):=⟨hff.2.1,hff.2.2.1,hff.2.2.2.1,hff.2.2.2.2.1⟩;have Hx:Hid (r.inc - r.use=G k):=by rw [← HG.out,← Hr.out]; exact rfl
    obtain ⟨y,Hy⟩:∃ z,Hid (G k=z):=⟨_,rfl⟩;rw [Hy.out] at hgk Hx;obtain ⟨hy0,hy1⟩:=hgk;have HS:Hid (sumN G (k + 1)=T + y):=by rw [HT.out,← Hy.out]; exact rfl
    have Hout:=qH hff.1.symm; clear hff;have HN:=qH hN; clear hN;have d0:=cell_later Hb.out c0;have d1:=cell_later Hb.out c1;have d2:=cell_later Hb.out c2;clear c0 c1 c2;have hbr:b < wr.heap.size:=by have:=Hb.out.size; omega
    have k0:(0:Int)≤(k:Int):=by omega
    have k1:(k:Int) < (m:Int):=by omega
    go_wp2_with fail
    have HA:=held_next Hb.out (below_box wr (.cells #[.int .i64 r.inc,.int .i64 r.use,.slice A m C] 77));refine (net_calls r.inc r.use (.slice A m C) Hru.out _).mono ?_;rintro e w2 ⟨rfl,hb⟩;rw [Hx.out];have Hb2:=qH (held_next HA hb);clear HA hb d0 d1 d2
    go_wp2_with fail
    go_roundw
    case rel=>exact ⟨k + 1,T + y,by omega,by go_num,rfl,HS.out.symm,Hb2.out⟩
    case measure=>simp [intOf]; omega
  · have hkm:k=m:=by omega
    have HT2:Hid (sumN G m=T):=by rw [← hkm]; exact HT.out.symm
    have Hkm:=qH hkm; clear hkm
    go_wp2
    go_ret
    exact ⟨by rw [HT2.out]; rfl,Hb.out⟩
end Go.Proofs.YtecjnkokdnmhlaaGreat
namespace Go.Proofs.YtecjnkokdnmhlaaGreat
open Go.RowKit
set_option maxRecDepth 100000 in
set_option maxHeartbeats 4000000 in
theorem rValue_calls (c:Cf) (a:Option Addr) (m d:Nat) (l:List Rw) (hm:m=l.length) (w:World) (hB:Books w (.slice a m d) l):Calls Tryz.prog 48 #[cfV c,.slice a m d] w (Num w (valueV c l)):=by
 have HW:=qH (Whole.made w 23 (cfCells c));have Hb0:=qH (below_box w (.cells (cfCells c) 23));have HB:=qH hB; clear hB;have Hm:=qH hm; clear hm;obtain ⟨n,q,r,p,kk,cc⟩:=c;obtain ⟨v,Hv⟩:∃ z,Hid (valueV ⟨n,q,r,p,kk,cc⟩ l=z):=⟨_,rfl⟩;rw [Hv.out];obtain ⟨ok,Hok⟩:∃ z,Hid (rightB ⟨n,q,r,p,kk,cc⟩ l=z):=⟨_,rfl⟩
 go_enter Tryz.func48,Tryz.ntmps48
 go_wp2_with fail
 refine (rRight_calls ⟨n,q,r,p,kk,cc⟩ a m d l Hm.out _ (HB.out.later Hb0.out)).mono ?_;rintro e w1 ⟨rfl,hb⟩;rw [Hok.out];have Hb1:=qH (held_next Hb0.out hb);have HW1:=qH (HW.out.later hb HW.out.lt);clear hb
 cases ok with
 | false =>
   obtain rfl:v=0:=Hv.out.symm.trans (if_neg fun h=>by
    have:=decide_eq_true h;rw [show decide (rightOk ⟨n,q,r,p,kk,cc⟩ l)=false from Hok.out] at this
    cases this)
   go_wp2_with fail
   go_ret
   exact ⟨by rfl,Hb1.out⟩
 | true =>
 have hR:=rightB_ok Hok.out;have h16:=hR.len;have HF:=qH hR.fits;have h16':m≤16:=by have:=Hm.out; omega
 have hkk:0≤kk∧kk≤1099511627776:=by
  obtain ⟨g1,g2,_,_,_,_,_,_,g9,g10,g11⟩:=hR.1;simp only at g1 g9 g10 g11;have:=Int.mul_nonneg (show 0≤n by omega) g10
  omega
 obtain ⟨T,HT⟩:∃ T,Hid (sumN (fun i=>(at_ l i).inc - (at_ l i).use) m=T):=⟨_,rfl⟩
 have hbT:-18014398509481984≤T∧T≤18014398509481984:=by
  have:=sumN_bound (g:=fun i=>(at_ l i).inc - (at_ l i).use) (b:=1125899906842624) (n:=m) (fun k hk=>by
   have:=HF.out k (by have:=Hm.out; omega)
   show -1125899906842624≤(at_ l k).inc - (at_ l k).use∧(at_ l k).inc - (at_ l k).use≤1125899906842624
   omega) m (Nat.le_refl _)
  rw [HT.out] at this
  omega
 have Hv':Hid (v=kk + T):=by
  rw [← Hv.out,← HT.out,Hm.out]
  exact value_is hR
 obtain ⟨hk0,hk1⟩:=hkk;obtain ⟨hT0,hT1⟩:=hbT;clear hR h16;have d4:w1.cell? ⟨w.heap.size,4,none⟩=some (.int .i64 kk):=HW1.out.cell 4;have HB1:=qH (HB.out.later Hb1.out);have KP:Hid (∀ w',Below w1.heap.size w1 w'→Below w1.heap.size w1 w'∧w'.cell? ⟨w.heap.size,4,none⟩=some (.int .i64 kk)):=fun w' h=>⟨h,(HW1.out.later h HW1.out.lt).cell 4⟩
 have e1:IntKind.i64.wrap (kk + T)=kk + T:=IntWalk.i64_in _ (by omega)
 go_wp2_with fail
 go_region_held3 (fun w'=>Below w1.heap.size w1 w'∧w'.cell? ⟨w.heap.size,4,none⟩=some (.int .i64 kk))
  (first | exact KP.out _ (Below.refl _ _).drew | (refine KP.out _ ?_; assumption))
  (first | (go_at_call 99; have hcur:=(‹Below w1.heap.size w1 _∧_›).1; refine (sums_calls a m d _).mono ?_; rintro e w4 ⟨rfl,hw4⟩; have HQ:Hid (Whole w4 w1.heap.size 24 #[.slice a m d]):=(by rw [hw4]; exact Whole.made w1.drew _ _); have hS1:Below w1.heap.size w1 w4:=(by rw [hw4]; exact hcur.alloc hcur.size _); clear hw4 hcur) | (go_at_call 159; have hcur:=(‹Below w1.heap.size w1 _∧_›).1; refine (sums_net a m d l Hm.out h16' HF.out w1.heap.size _ (HB1.out.later hcur) (HQ.out.cell 0)).mono ?_; rw [HT.out]; rintro e w5 ⟨rfl,hb1⟩; have hS1:=held_next hcur hb1; clear hb1 hcur))
 all_goals go_wp2_with fail
 all_goals go_ret
 all_goals exact ⟨by rw [Hv'.out]; rfl,held_next Hb1.out (by assumption)⟩
end Go.Proofs.YtecjnkokdnmhlaaGreat
namespace Go.Proofs.YtecjnkokdnmhlaaGreat
open Go.RowKit
set_option maxRecDepth 100000 in
set_option maxHeartbeats 8000000 in
theorem ndMay_calls (c:Cf) (who:Int) (x:Nd) (p:Nl) (w:World) (hK:NdIn w p x):Calls Tryz.prog 15 #[cfV c,.int .i64 who,ndAt x p] w (Says w (nodeB c who x)):=by
 obtain ⟨xb,tk,nx,asked⟩:=x;obtain ⟨bl,pa,m,pc⟩:=p;have HI:=qH hK;have HW0:=qH ((Whole.made w 23 (cfCells c)).alloc (.cells (ndAtC ⟨xb,tk,nx,asked⟩ ⟨bl,pa,m,pc⟩) 39));have HX0:=qH (Whole.made2 w (.cells (cfCells c) 23) 39 (ndAtC ⟨xb,tk,nx,asked⟩ ⟨bl,pa,m,pc⟩));have Hb0:=qH (below_two w (.cells (cfCells c) 23) (.cells (ndAtC ⟨xb,tk,nx,asked⟩ ⟨bl,pa,m,pc⟩) 39));obtain ⟨W0,HW⟩:∃ z,Hid ((w.alloc (.cells (cfCells c) 23)).alloc (.cells (ndAtC ⟨xb,tk,nx,asked⟩ ⟨bl,pa,m,pc⟩) 39)=z):=⟨_,rfl⟩
 rw [HW.out] at HW0 HX0 Hb0;have OM:=qH (kMay_calls c who xb bl W0 (HI.out.1.later Hb0.out));obtain ⟨bk,Hbk⟩:∃ z,Hid (bookB c who xb=z):=⟨_,rfl⟩;rw [Hbk.out] at OM;obtain ⟨res,Hres⟩:∃ z,Hid (nodeB c who ⟨xb,tk,nx,asked⟩=z):=⟨_,rfl⟩;rw [Hres.out];have hm:=HI.out.2.1;have No:Hid (¬ nodeOk c who ⟨xb,tk,nx,asked⟩→res=false):=qH fun h=>Hres.out.symm.trans (decide_eq_false h)
 obtain ⟨⟨q0,q1,q2,q3⟩,⟨q4,q5,q6,q7⟩,⟨q8,q9,q10,q11⟩,q12,q13,q14⟩:=nd_cells HX0.out;obtain ⟨d0,d1,d2,d3,d4,d5⟩:=config_cells HW0.out;have Hlen:=qH hm;clear hm q0 q1 q2 q3 q4 q5 q6 q7 q8 q9 q10 q11 q12 q13 q14 d0 d1 d2 d3 d4 d5;have hlt:=HX0.out.lt
 by_cases h1:tk < 0
 · obtain rfl:res=false:=No.out fun h=>by have:=h.2.1.1; simp only at this; omega
   go_enter Tryz.func15,Tryz.ntmps15
   go_wp2_with fail
   try rw [HW.out]
   go_ret
   exact ⟨by first | rfl | (simp; done),Hb0.out⟩
 by_cases h2:1125899906842624 < tk
 · obtain rfl:res=false:=No.out fun h=>by have:=h.2.1.2; simp only at this; omega
   go_enter Tryz.func15,Tryz.ntmps15
   go_wp2_with fail
   try rw [HW.out]
   go_ret
   exact ⟨by first | rfl | (simp; done),Hb0.out⟩
 have h2':tk≤1125899906842624:=by omega
 have h1':0≤tk:=by omega
 by_cases h3:nx < 0
 · obtain rfl:res=false:=No.out fun h=>by have:=h.2.2.1.1; simp only at this; omega
   go_enter Tryz.func15,Tryz.ntmps15
   go_wp2_with fail
   try rw [HW.out]
   go_ret
   exact ⟨by first | rfl | (simp; done),Hb0.out⟩
 by_cases h4:tk + 16 < nx
 · obtain rfl:res=false:=No.out fun h=>by have:=h.2.2.1.2; simp only at this; omega
   go_enter Tryz.func15,Tryz.ntmps15
   go_wp2_with fail
   try rw [HW.out]
   go_ret
   exact ⟨by first | rfl | (simp; done),Hb0.out⟩
 by_cases h5:m≤64
 rotate_left 1
 · obtain rfl:res=false:=No.out fun h=>by have:=h.2.2.2; have:=Hlen.out; simp only at *; omega
   have h5':¬ (m:Int)≤64:=by omega
   go_enter Tryz.func15,Tryz.ntmps15
   go_wp2_with fail
   try rw [HW.out]
   go_ret
   exact ⟨by first | rfl | (simp; done),Hb0.out⟩
 have h5':(m:Int)≤64:=by omega
 obtain rfl:res=bk:=Hres.out.symm.trans (by
  rw [← Hbk.out]
  unfold nodeB bookB
  exact decide_eq_decide.2 ⟨fun h=>h.1,fun h=>⟨h,⟨⟨h1',h2'⟩,by show 0≤nx∧nx≤tk + 16; omega,by have:=Hlen.out; simp only at *; omega⟩⟩⟩)
 go_enter Tryz.func15,Tryz.ntmps15
 go_wp2_with fail
 try rw [HW.out]
 refine OM.out.mono ?_;rintro e w1 ⟨rfl,hb⟩;have Hb1:=qH (held_next Hb0.out hb);clear hb
 go_wp2_with fail
 go_ret
 exact ⟨by first | rfl | (simp; done),Hb1.out⟩
set_option maxRecDepth 100000 in
set_option maxHeartbeats 8000000 in
theorem ndRead_calls (c:Cf) (who:Int) (x:Nd) (p:Nl) (w:World) (hK:NdIn w p x):Calls Tryz.prog 17 #[cfV c,.int .i64 who,ndAt x p] w (Num w (readNd c who x)):=by
 have HI:=qH hK;have HW0:=qH ((Whole.made w 23 (cfCells c)).alloc (.cells (ndAtC x p) 39));have HX0:=qH (Whole.made2 w (.cells (cfCells c) 23) 39 (ndAtC x p));have Hb0:=qH (below_two w (.cells (cfCells c) 23) (.cells (ndAtC x p) 39));obtain ⟨W0,HW⟩:∃ z,Hid ((w.alloc (.cells (cfCells c) 23)).alloc (.cells (ndAtC x p) 39)=z):=⟨_,rfl⟩;rw [HW.out] at HW0 HX0 Hb0;have OM:=qH (ndMay_calls c who x p W0 (HI.out.later Hb0.out))
 obtain ⟨ok,Hok⟩:∃ z,Hid (nodeB c who x=z):=⟨_,rfl⟩;rw [Hok.out] at OM;obtain ⟨res,Hres⟩:∃ z,Hid (readNd c who x=z):=⟨_,rfl⟩;rw [Hres.out];obtain ⟨⟨q0,q1,q2,q3⟩,⟨q4,q5,q6,q7⟩,⟨q8,q9,q10,q11⟩,q12,q13,q14⟩:=nd_cells HX0.out;obtain ⟨d0,d1,d2,d3,d4,d5⟩:=config_cells HW0.out;have hlt:=HX0.out.lt
 go_enter Tryz.func17,Tryz.ntmps17
 go_wp2_with fail
 rw [HW.out];refine OM.out.mono ?_;rintro e w1 ⟨rfl,hb⟩;have Hb1:=qH (held_next Hb0.out hb);have HW1:=qH (HW0.out.later hb HW0.out.lt);have HX1:=qH (HX0.out.later hb HX0.out.lt);clear hb q0 q1 q2 q3 q4 q5 q6 q7 q8 q9 q10 q11 q12 q13 q14 d0 d1 d2 d3 d4 d5 hlt
 cases ok with
 | false =>
   obtain rfl:res=0:=Hres.out.symm.trans (if_neg (of_decide_eq_false Hok.out))
   go_wp2_with fail
   go_ret
   exact ⟨by rfl,Hb1.out⟩
 | true =>
   obtain rfl:res=valueV c x.bk.rows:=Hres.out.symm.trans (if_pos (of_decide_eq_true Hok.out));have OV:=qH (rValue_calls c p.bl.a1 p.bl.m1 p.bl.c1 x.bk.rows HI.out.1.1.1 w1 (HI.out.1.1.2.later Hb1.out));obtain ⟨v,Hv⟩:∃ z,Hid (valueV c x.bk.rows=z):=⟨_,rfl⟩;rw [Hv.out] at OV;obtain ⟨⟨q0,q1,q2,q3⟩,_,_,_,_,_⟩:=nd_cells HX1.out;obtain ⟨d0,d1,d2,d3,d4,d5⟩:=config_cells HW1.out
   go_wp2_with fail
   refine OV.out.mono ?_;rintro e w2 ⟨rfl,hb⟩;have Hb2:=qH (held_next Hb1.out hb);clear hb
   go_wp2_with fail
   go_ret
   exact ⟨by first | rfl | (rw [Hv.out]; rfl) | (simp; done),Hb2.out⟩
end Go.Proofs.YtecjnkokdnmhlaaGreat
namespace Go.Proofs.YtecjnkokdnmhlaaGreat
open Go.RowKit
abbrev p00:Nl:=⟨⟨none,0,0,none,0,0,none,0,0,none,0,0,al0⟩,none,0,0⟩
theorem rest00 (W:World):RestIn W p00 nd0:=⟨⟨rfl,books_nil _ _ _ (fun _=>rfl)⟩,⟨rfl,Line.nil _ _ _ (fun _=>rfl)⟩,⟨rfl,Notes.nil _ _ _ (fun _=>rfl)⟩,au_in_none _,rfl,elems_nil _ _ _ _ _ (fun _=>rfl)⟩
section
variable {n0 g B:Nat} {E:Nat→Prop} {W V:World} {c:Cf} {who:Int} {x:Nd} {p:Nl} {code:Int}
theorem row_butM {base:Nat} {e:TypeId} {s n:Nat} {v:Value} {xs:List Value} {l:List Rq} (h:W.ownsRow base e s v n xs) (ho:OwnOc W B (outV p) l) (he:e ≠ 85) (hg:g < base) (hn:n0≤base) (hE:∀ b,base≤b→¬ E b) (k:ButS (Mine n0 E g p) W V):V.ownsRow base e s v n xs:=by
 have hx:=h;obtain ⟨h1,h2 | ⟨q,cap,cur,hv,hb,hh,h4⟩⟩:=h
 · exact ⟨h1,Or.inl h2⟩
 · refine ⟨h1,Or.inr ⟨q,cap,cur,hv,hb,(k.2 q (Array.getElem?_eq_some_iff.1 hh).1 (fun hm=>?_)).trans hh,h4⟩⟩
   rcases hm with hm | hm | hm | hm
   · omega
   · omega
   · exact own_apart hx ho he (b:=q) (by rw [hv]; rfl) hm
   · exact absurd hm (hE q (Nat.le_trans (Nat.le_refl _) hb))
theorem OwnBooks.butM {base:Nat} {v:Value} {l:List Rw} {lo:List Rq} (h:OwnBooks W base v l) (ho:OwnOc W B (outV p) lo) (hg:g < base) (hn:n0≤base) (hE:∀ b,base≤b→¬ E b) (k:ButS (Mine n0 E g p) W V):OwnBooks V base v l:=by
 obtain ⟨f,h1,h2,h3⟩:=h
 exact ⟨f,row_butM h1 ho (by decide) hg hn hE k,fun i hi=>⟨(h2 i hi).1,row_butM (h2 i hi).2 ho (by decide) hg hn hE k⟩,h3⟩
theorem OwnNd.rest (h:OwnNd W B p x) (hf:FewK x.bk) (ha:x.asked.length≤1000) (hg:g < B) (hn:n0≤B) (hE:∀ b,B≤b→¬ E b):Stay (Mine n0 E g p) W (fun V=>RestIn V p x):=fun V k=>by
 obtain ⟨⟨⟨e1,o1⟩,⟨e2,o2⟩,⟨e3,o3⟩,⟨e4,o4⟩,⟨e5,o5⟩,⟨e6,o6⟩,⟨e7,o7⟩,_⟩,e8,o8⟩:=h;obtain ⟨⟨f1,f1'⟩,f2,f3,f4,f5,f6,f7⟩:=hf;refine ⟨⟨e1,?_⟩,⟨e2,?_⟩,⟨e4,?_⟩,⟨⟨e5,?_⟩,⟨e6,?_⟩,e7,?_⟩,e8,?_⟩
 · obtain ⟨A,C,hv,hb⟩:=(o1.butM o3 hg hn hE k).books (by omega) (fun q hq=>by have:=f1' q hq; omega)
   rw [hv]; exact hb
 · obtain ⟨A,C,hv,hb⟩:=OwnQ.line (row_butM o2 o3 (by decide) hg hn hE k) (by omega)
   rw [hv]; exact hb
 · obtain ⟨A,C,hv,hb⟩:=OwnNt.notes (row_butM o4 o3 (by decide) hg hn hE k) (by omega)
   rw [hv]; exact hb
 · obtain ⟨A,C,hv,hb⟩:=OwnT.bools (row_butM o5 o3 (by decide) hg hn hE k) (by omega)
   rw [hv]; exact hb
 · obtain ⟨A,C,hv,hb⟩:=OwnN.nums (row_butM o6 o3 (by decide) hg hn hE k) (by omega)
   rw [hv]; exact hb
 · obtain ⟨A,C,hv,hb⟩:=OwnN.nums (row_butM o7 o3 (by decide) hg hn hE k) (by omega)
   rw [hv]; exact hb
 · obtain ⟨A,C,hv,hb⟩:=OwnN.nums (row_butM o8 o3 (by decide) hg hn hE k) (by omega)
   rw [hv]; exact hb
theorem OwnNd.stay (h:OwnNd W B p x) (hf:FewK x.bk) (ha:x.asked.length≤1000):Stay (fun b=>b < B) W (fun V=>NdIn V p x):=fun V k=>by
 obtain ⟨⟨⟨e1,o1⟩,⟨e2,o2⟩,⟨e3,o3⟩,⟨e4,o4⟩,⟨e5,o5⟩,⟨e6,o6⟩,⟨e7,o7⟩,_⟩,e8,o8⟩:=h.butS (fun _ hb=>hb) k
 obtain ⟨⟨f1,f1'⟩,f2,f3,f4,f5,f6,f7⟩:=hf;refine ⟨⟨⟨e1,?_⟩,⟨e2,?_⟩,⟨e3,?_⟩,⟨e4,?_⟩,⟨e5,?_⟩,⟨e6,?_⟩,e7,?_⟩,e8,?_⟩
 · obtain ⟨A,C,hv,hb⟩:=o1.books (by omega) (fun q hq=>by have:=f1' q hq; omega)
   rw [hv]; exact hb
 · obtain ⟨A,C,hv,hb⟩:=OwnQ.line o2 (by omega)
   rw [hv]; exact hb
 · obtain ⟨A,C,hv,hb⟩:=OwnOc.line o3 (by omega)
   rw [hv]; exact hb
 · obtain ⟨A,C,hv,hb⟩:=OwnNt.notes o4 (by omega)
   rw [hv]; exact hb
 · obtain ⟨A,C,hv,hb⟩:=OwnT.bools o5 (by omega)
   rw [hv]; exact hb
 · obtain ⟨A,C,hv,hb⟩:=OwnN.nums o6 (by omega)
   rw [hv]; exact hb
 · obtain ⟨A,C,hv,hb⟩:=OwnN.nums o7 (by omega)
   rw [hv]; exact hb
 · obtain ⟨A,C,hv,hb⟩:=OwnN.nums o8 (by omega)
   rw [hv]; exact hb
theorem St.answer (h:St n0 E W g c who x p code) (ho:x.bk.outs.length≤1000000):Stay (fun b=>b < n0) W (fun V=>NdIn V p x):=fun V k=>by
 obtain ⟨r1,r2,r3,r4,r5,r6⟩:=h.rest V (k.wide fun b hb=>Or.inl hb)
 obtain ⟨A,C,hv,hb⟩:=OwnOc.line (row_butS h.outs (fun _ hb=>hb) k) (by omega)
 exact ⟨⟨r1,r2,⟨h.len,by show Line V (outV p) _; rw [hv]; exact hb⟩,r3,r4⟩,r5,r6⟩
theorem st12_whole {y:Nd} {q:Nl} {k:Bk} {b:Bl} (h:Whole W g 99 (stC c who y q code)):Whole (bk12p W g k b) g 99 (stC c who ⟨k,y.tk,y.nx,y.asked⟩ ⟨b,q.a,q.m,q.c⟩ code):=by
 have h1:=(((((((((((h.set 0 (.int .i64 k.clk)).set 1 (.slice b.a1 b.m1 b.c1)).set 2 (.slice b.a2 b.m2 b.c2)).set 3 (.slice b.a3 b.m3 b.c3)).set 4 (.int .i64 k.asks)).set 5 (.slice b.a4 b.m4 b.c4)).set 6 (.int .i64 k.au.try_)).set 7 (.int .i64 k.au.ph)).set 8 (.slice b.al.a1 b.al.m1 b.al.c1)).set 9 (.slice b.al.a2 b.al.m2 b.al.c2)).set 10 (.slice b.al.a3 b.al.m3 b.al.c3)).set 11 (.bool k.au.moved)
 simp only [List.setIfInBounds_toArray,List.set_cons_zero,List.set_cons_succ] at h1
 exact h1
end
theorem held_next_base {B:Nat} {w W W':World} (h:Below B w W) (h':Below B W W'):Below B w W':=h.trans h'
def BeginTo (w:World) (c:Cf) (who:Int) (x:Nd) (e:Ending) (w':World):Prop :=
 ∃ (g:Nat) (p:Nl),e=.returned (.pointer (some ⟨g,0,none⟩))∧Below w.heap.size w w'∧St w.heap.size (fun _=>False) w' g c who (if nodeOk c who x then x else nd0) p (if nodeOk c who x then 0 else 1)
set_option maxRecDepth 100000 in
set_option maxHeartbeats 8000000 in
theorem begin18_calls (c:Cf) (who:Int) (x:Nd) (p:Nl) (hf:FewK x.bk) (ha:x.asked.length≤1000) (w:World) (hK:NdIn w p x):Calls Tryz.prog 37 #[cfV c,.int .i64 who,ndAt x p] w (BeginTo w c who x):=by
 have HI:=qH hK;have Hf:=qH hf;have HA:=qH ha;clear hK hf ha;have HW0:=qH (((Whole.made w 23 (cfCells c)).alloc (.cells (ndAtC x p) 39)).alloc (.cells (stC c who nd0 p00 0) 99));have HX0:=qH ((Whole.made2 w (.cells (cfCells c) 23) 39 (ndAtC x p)).alloc (.cells (stC c who nd0 p00 0) 99));have HS0:Hid (Whole (((w.alloc (.cells (cfCells c) 23)).alloc (.cells (ndAtC x p) 39)).alloc (.cells (stC c who nd0 p00 0) 99)) (w.heap.size + 1 + 1) 99 (stC c who nd0 p00 0)):=qH (Whole.madeAt _ _ _ _ (by simp))
 have Hb0:Hid (Below w.heap.size w (((w.alloc (.cells (cfCells c) 23)).alloc (.cells (ndAtC x p) 39)).alloc (.cells (stC c who nd0 p00 0) 99))):=qH ((below_two w _ _).alloc (by simp; omega) _)
 obtain ⟨W0,HW⟩:∃ z,Hid (((w.alloc (.cells (cfCells c) 23)).alloc (.cells (ndAtC x p) 39)).alloc (.cells (stC c who nd0 p00 0) 99)=z):=⟨_,rfl⟩;rw [HW.out] at HW0 HX0 Hb0 HS0;have OM:=qH (ndMay_calls c who x p W0 (HI.out.later Hb0.out));obtain ⟨ok,Hok⟩:∃ z,Hid (nodeB c who x=z):=⟨_,rfl⟩;rw [Hok.out] at OM;have hlt:=HX0.out.lt;have hlts:=HS0.out.lt
 go_enter Tryz.func37,Tryz.ntmps37
 go_wp2_with fail
 try rw [HW.out]
 refine OM.out.mono ?_;rintro e w1 ⟨rfl,hb⟩;have Hb1:=qH (held_next Hb0.out hb);have HX1:=qH (HX0.out.later hb HX0.out.lt);have HS1:=qH (HS0.out.later hb HS0.out.lt);clear hb hlt hlts OM HW0 HX0 HS0;have hlt1:=HX1.out.lt;have hlts1:=HS1.out.lt
 cases ok with
 | false =>
   have hno:¬ nodeOk c who x:=of_decide_eq_false Hok.out;have hS:St w.heap.size (fun _=>False) w1 (w.heap.size + 1 + 1) c who nd0 p00 0:=⟨by omega,HS1.out,fun V _=>rest00 V,rfl,World.ownsRow_nil _ _ _ _,fun _ e=>e.elim⟩
   have hE:=hS.cod 1;have HE:=qH hE;have Hno:=qH hno;have z22:w1.cell? ⟨w.heap.size + 1 + 1,22,none⟩=some (.int .i64 0):=HS1.out.cell 22;have y22:=HS1.out.free 22;have HBE:Hid (Below w.heap.size w (w1.setCell ⟨w.heap.size + 1 + 1,22,none⟩ (.int .i64 1))):=qH (Hb1.out.setCell (p:=⟨w.heap.size + 1 + 1,22,none⟩) (show w.heap.size≤w.heap.size + 1 + 1 by omega) _)
   clear hno hS hE
   go_wp2_with fail
   go_ret
   exact ⟨_,p00,by rfl,HBE.out,by rw [if_neg Hno.out,if_neg Hno.out]; exact HE.out.1⟩
 | true =>
   have hyes:nodeOk c who x:=of_decide_eq_true Hok.out;have Hyes:=qH hyes;clear hyes;have OO:=qH (own18_calls x p Hf.out HA.out w1 (HI.out.later Hb1.out));obtain ⟨⟨q0,q1,q2,q3⟩,⟨q4,q5,q6,q7⟩,⟨q8,q9,q10,q11⟩,q12,q13,q14⟩:=nd_cells HX1.out
   go_wp2_with fail
   refine OO.out.mono ?_;rintro e w2 ⟨P,rfl,hO,hb⟩;have Hb2:=qH (held_next Hb1.out hb);have HX2:=qH (HX1.out.later hb HX1.out.lt);have HS2:=qH (HS1.out.later hb HS1.out.lt);have HO2:=qH hO;clear hO hb q0 q1 q2 q3 q4 q5 q6 q7 q8 q9 q10 q11 q12 q13 q14 OO HX1 HS1;obtain ⟨⟨q0,q1,q2,q3⟩,⟨q4,q5,q6,q7⟩,⟨q8,q9,q10,q11⟩,q12,q13,q14⟩:=nd_cells HX2.out;have y0:=HX2.out.free 0;have y1:=HX2.out.free 1;have y2:=HX2.out.free 2
   have y3:=HX2.out.free 3;have y4:=HX2.out.free 4;have y5:=HX2.out.free 5;have y6:=HX2.out.free 6;have y7:=HX2.out.free 7;have y8:=HX2.out.free 8;have y9:=HX2.out.free 9;have y10:=HX2.out.free 10;have y11:=HX2.out.free 11;have y12:=HX2.out.free 12;have y13:=HX2.out.free 13;have y14:=HX2.out.free 14;have hX3:Whole (nd15p w2 (w.heap.size + 1) x P) (w.heap.size + 1) 39 (ndAtC x P):=nd15_whole HX2.out
   have hbt:ButS (fun b=>b=w.heap.size + 1) w2 (nd15p w2 (w.heap.size + 1) x P):=nd15_buts (ButS.refl _ _) rfl
   have hO3:OwnNd (nd15p w2 (w.heap.size + 1) x P) w1.heap.size P x:=HO2.out.butS (fun b e=>by omega) hbt
   have hS3:Whole (nd15p w2 (w.heap.size + 1) x P) (w.heap.size + 1 + 1) 99 (stC c who nd0 p00 0):=(hbt.2 _ HS2.out.lt (by omega)).trans HS2.out
   have hB3:Below w.heap.size w (nd15p w2 (w.heap.size + 1) x P):=nd15_below Hb2.out (by omega)
   obtain ⟨w3,Hw3⟩:∃ z,Hid (nd15p w2 (w.heap.size + 1) x P=z):=⟨_,rfl⟩;rw [Hw3.out] at hX3 hO3 hS3 hB3;have HX3:=qH hX3;have HO3:=qH hO3;have HS3:=qH hS3;have HB3:=qH hB3;have hlt2:=HX2.out.lt;clear hX3 hbt hO3 hS3 hB3
   go_wp2_with fail
   have hw3:=Hw3.out;simp only [nd15p,nd15] at hw3;rw [hw3];clear hw3;clear q0 q1 q2 q3 q4 q5 q6 q7 q8 q9 q10 q11 q12 q13 q14 y0 y1 y2 y3 y4 y5 y6 y7 y8 y9 y10 y11 y12 y13 y14;refine wp_region_each_at ?hm ?hb (fun a0 d a' w'=>∃ (e0 e1 e2 e3 e4 e5 e6 e7 e9 e10:Value),a'=putAll a0 [(23,e0),(24,e1),(25,e2),(26,e3),(27,e4),(28,e5),(29,e6),(30,e7),(31,e9),(32,e10)]∧Below w.heap.size w3 w'∧(d 0=true→e0=(.pointer (some ⟨w.heap.size + 1 + 1,0,none⟩)))∧(d 1=true→e1=(.pointer (some ⟨w.heap.size + 1 + 1,0,none⟩)))∧(d 2=true→e2=(.pointer (some ⟨w.heap.size + 1,0,none⟩)))∧(d 3=true→e3=(bkAt x.bk P.bl))∧(d 4=true→e4=(.pointer (some ⟨w.heap.size + 1,12,none⟩)))∧(d 5=true→e5=(.agg #[.int .i64 x.tk,.int .i64 x.nx,.slice P.a P.m P.c]))∧(d 6=true→e6=(.pointer (some ⟨w.heap.size + 1 + 1,0,none⟩)))∧(d 7=true→e7=(.pointer (some ⟨w.heap.size + 1 + 1,0,none⟩)))∧(d 8=true→(d 11=false→Whole w' (w.heap.size + 1 + 1) 99 (stC c who ⟨x.bk,nd0.tk,nd0.nx,nd0.asked⟩ ⟨P.bl,p00.a,p00.m,p00.c⟩ 0)))∧(d 9=true→e9=(.pointer (some ⟨w.heap.size + 1 + 1,0,none⟩)))∧(d 10=true→e10=(.pointer (some ⟨w.heap.size + 1 + 1,12,none⟩)))∧(d 11=true→(d 8=true∧Whole w' (w.heap.size + 1 + 1) 99 (stC c who x P 0)))∧Whole w' (w.heap.size + 1) 39 (ndAtC x P)∧(d 8=false→Whole w' (w.heap.size + 1 + 1) 99 (stC c who nd0 p00 0))∧ButS (fun b=>b=w.heap.size + 1 + 1) w3 w') ?h0 ?step ?ends
   case hm=>kernel_rfl
   case hb=>kernel_rfl
   case h0 =>
    refine ⟨undef,undef,undef,undef,undef,undef,undef,undef,undef,undef,?_,(Below.refl _ _).drew,fun h=>absurd h (by decide),fun h=>absurd h (by decide),fun h=>absurd h (by decide),fun h=>absurd h (by decide),fun h=>absurd h (by decide),fun h=>absurd h (by decide),fun h=>absurd h (by decide),fun h=>absurd h (by decide),fun h=>absurd h (by decide),fun h=>absurd h (by decide),fun h=>absurd h (by decide),fun h=>absurd h (by decide),HX3.out.drew,fun _=>HS3.out.drew,ButS.of (Below.refl _ _).drew⟩
    simp only [putAll,Act.put,qA,qB,qC]
   case step =>
    intro i d a' w' hi hJ hd hk;obtain ⟨e0,e1,e2,e3,e4,e5,e6,e7,e9,e10,rfl,hC⟩:=hJ;obtain ⟨hB,hC⟩:=hC;obtain ⟨c0,hC⟩:=hC;obtain ⟨c1,hC⟩:=hC;obtain ⟨c2,hC⟩:=hC;obtain ⟨c3,hC⟩:=hC;obtain ⟨c4,hC⟩:=hC;obtain ⟨c5,hC⟩:=hC;obtain ⟨c6,hC⟩:=hC;obtain ⟨c7,hC⟩:=hC;obtain ⟨c8,hC⟩:=hC;obtain ⟨c9,hC⟩:=hC;obtain ⟨c10,hC⟩:=hC;obtain ⟨c11,hC⟩:=hC;obtain ⟨cx,hC⟩:=hC;obtain ⟨cs,hC⟩:=hC;have cu:=hC;clear hC;have Xc0:=qH c0; clear c0
    have Xc1:=qH c1; clear c1;have Xc2:=qH c2; clear c2;have Xc3:=qH c3; clear c3;have Xc4:=qH c4; clear c4;have Xc5:=qH c5; clear c5;have Xc6:=qH c6; clear c6;have Xc7:=qH c7; clear c7;have Xc8:=qH c8; clear c8;have Xc9:=qH c9; clear c9;have Xc10:=qH c10; clear c10;have Xc11:=qH c11; clear c11;have Xcx:=qH cx; clear cx;have Xcs:=qH cs; clear cs;have Xcu:=qH cu; clear cu
    match i,hi,hd,hk with
    | 0, _, hd, hk =>
      apply wpOp_at
      case ho=>rfl
      intro K hK;simp only [putAll,Act.put,qA,qB,qC];go_simp;refine hK _ _ ⟨(.pointer (some ⟨w.heap.size + 1 + 1,0,none⟩)),_,_,_,_,_,_,_,_,_,?_,hB,fun _=>rfl,Xc1,Xc2,Xc3,Xc4,Xc5,Xc6,Xc7,Xc8,Xc9,Xc10,Xc11,Xcx.out,Xcs.out,Xcu.out⟩
      simp only [putAll,Act.put,qA,qB,qC]
    | 1, _, hd, hk =>
      apply wpOp_at
      case ho=>rfl
      intro K hK;simp only [putAll,Act.put,qA,qB,qC];go_simp;refine hK _ _ ⟨_,(.pointer (some ⟨w.heap.size + 1 + 1,0,none⟩)),_,_,_,_,_,_,_,_,?_,hB,Xc0,fun _=>rfl,Xc2,Xc3,Xc4,Xc5,Xc6,Xc7,Xc8,Xc9,Xc10,Xc11,Xcx.out,Xcs.out,Xcu.out⟩
      simp only [putAll,Act.put,qA,qB,qC]
    | 2, _, hd, hk =>
      apply wpOp_at
      case ho=>rfl
      intro K hK;simp only [putAll,Act.put,qA,qB,qC];go_simp;refine hK _ _ ⟨_,_,(.pointer (some ⟨w.heap.size + 1,0,none⟩)),_,_,_,_,_,_,_,?_,hB,Xc0,Xc1,fun _=>rfl,Xc3,Xc4,Xc5,Xc6,Xc7,Xc8,Xc9,Xc10,Xc11,Xcx.out,Xcs.out,Xcu.out⟩
      simp only [putAll,Act.put,qA,qB,qC]
    | 3, _, hd, hk =>
      have h2:=hk 2 (by decide +kernel)
      have c2:=Xc2.out;have cx:=Xcx.out;obtain rfl:=c2 h2;obtain ⟨⟨q0,q1,q2,q3⟩,⟨q4,q5,q6,q7⟩,⟨q8,q9,q10,q11⟩,q12,q13,q14⟩:=nd_cells cx;clear c2 cx;apply wpOp_at
      case ho=>rfl
      intro K hK;simp only [putAll,Act.put,qA,qB,qC];go_simp;refine hK _ _ ⟨_,_,(.pointer (some ⟨w.heap.size + 1,0,none⟩)),(bkAt x.bk P.bl),_,_,_,_,_,_,?_,hB,Xc0,Xc1,Xc2,fun _=>rfl,Xc4,Xc5,Xc6,Xc7,Xc8,Xc9,Xc10,Xc11,Xcx.out,Xcs.out,Xcu.out⟩
      simp only [putAll,Act.put,qA,qB,qC]
    | 4, _, hd, hk =>
      apply wpOp_at
      case ho=>rfl
      intro K hK;simp only [putAll,Act.put,qA,qB,qC];go_simp;refine hK _ _ ⟨_,_,_,_,(.pointer (some ⟨w.heap.size + 1,12,none⟩)),_,_,_,_,_,?_,hB,Xc0,Xc1,Xc2,Xc3,fun _=>rfl,Xc5,Xc6,Xc7,Xc8,Xc9,Xc10,Xc11,Xcx.out,Xcs.out,Xcu.out⟩
      simp only [putAll,Act.put,qA,qB,qC]
    | 5, _, hd, hk =>
      have h4:=hk 4 (by decide +kernel)
      have c4:=Xc4.out;have cx:=Xcx.out;obtain rfl:=c4 h4;obtain ⟨⟨q0,q1,q2,q3⟩,⟨q4,q5,q6,q7⟩,⟨q8,q9,q10,q11⟩,q12,q13,q14⟩:=nd_cells cx;clear c4 cx;apply wpOp_at
      case ho=>rfl
      intro K hK;simp only [putAll,Act.put,qA,qB,qC];go_simp;refine hK _ _ ⟨_,_,_,_,(.pointer (some ⟨w.heap.size + 1,12,none⟩)),(.agg #[.int .i64 x.tk,.int .i64 x.nx,.slice P.a P.m P.c]),_,_,_,_,?_,hB,Xc0,Xc1,Xc2,Xc3,Xc4,fun _=>rfl,Xc6,Xc7,Xc8,Xc9,Xc10,Xc11,Xcx.out,Xcs.out,Xcu.out⟩
      simp only [putAll,Act.put,qA,qB,qC]
    | 6, _, hd, hk =>
      have h0:=hk 0 (by decide +kernel)
      have c0:=Xc0.out;obtain rfl:=c0 h0;clear c0;apply wpOp_at
      case ho=>rfl
      intro K hK;simp only [putAll,Act.put,qA,qB,qC];go_simp;refine hK _ _ ⟨(.pointer (some ⟨w.heap.size + 1 + 1,0,none⟩)),_,_,_,_,_,(.pointer (some ⟨w.heap.size + 1 + 1,0,none⟩)),_,_,_,?_,hB,Xc0,Xc1,Xc2,Xc3,Xc4,Xc5,fun _=>rfl,Xc7,Xc8,Xc9,Xc10,Xc11,Xcx.out,Xcs.out,Xcu.out⟩
      simp only [putAll,Act.put,qA,qB,qC]
    | 7, _, hd, hk =>
      have h6:=hk 6 (by decide +kernel)
      have c6:=Xc6.out;obtain rfl:=c6 h6;clear c6;apply wpOp_at
      case ho=>rfl
      intro K hK;simp only [putAll,Act.put,qA,qB,qC];go_simp;refine hK _ _ ⟨_,_,_,_,_,_,(.pointer (some ⟨w.heap.size + 1 + 1,0,none⟩)),(.pointer (some ⟨w.heap.size + 1 + 1,0,none⟩)),_,_,?_,hB,Xc0,Xc1,Xc2,Xc3,Xc4,Xc5,Xc6,fun _=>rfl,Xc8,Xc9,Xc10,Xc11,Xcx.out,Xcs.out,Xcu.out⟩
      simp only [putAll,Act.put,qA,qB,qC]
    | 8, _, hd, hk =>
      have h3:=hk 3 (by decide +kernel)
      have h7:=hk 7 (by decide +kernel)
      have c3:=Xc3.out;have c7:=Xc7.out;have cx:=Xcx.out;have cs:=Xcs.out;obtain rfl:=c3 h3;obtain rfl:=c7 h7;have hS9:=cs hd;obtain ⟨⟨z0,z1,z2,z3,z4,z5⟩,⟨z6,z7,z8,z9,z10,z11⟩,⟨z12,z13,z14⟩,-,-,-⟩:=st_cells hS9;have y0:=hS9.free 0;have y1:=hS9.free 1;have y2:=hS9.free 2;have y3:=hS9.free 3;have y4:=hS9.free 4;have y5:=hS9.free 5;have y6:=hS9.free 6;have y7:=hS9.free 7;have y8:=hS9.free 8;have y9:=hS9.free 9
      have y10:=hS9.free 10;have y11:=hS9.free 11;have y12:=hS9.free 12;have y13:=hS9.free 13;have y14:=hS9.free 14;have hW8:=st12_whole (k:=x.bk) (b:=P.bl) hS9;have cx9:Whole (bk12p w' (w.heap.size + 1 + 1) x.bk P.bl) (w.heap.size + 1) 39 (ndAtC x P):=bk12_other cx (by omega)
      clear c3 c7 cx cs;apply wpOp_at
      case ho=>rfl
      intro K hK;simp only [putAll,Act.put,qA,qB,qC];go_simp;have c11:=Xc11.out;have cu:=Xcu.out;refine hK _ _ ⟨_,_,_,(bkAt x.bk P.bl),_,_,_,(.pointer (some ⟨w.heap.size + 1 + 1,0,none⟩)),_,_,?_,bk12_below hB (by omega),Xc0,Xc1,Xc2,Xc3,Xc4,Xc5,Xc6,Xc7,fun _=>fun _=>hW8,Xc9,Xc10,fun h=>Bool.noConfusion (hd.symm.trans (c11 h).1),cx9,fun h=>Bool.noConfusion (show true=false from h),bk12_buts cu rfl⟩
      simp only [putAll,Act.put,qA,qB,qC]
    | 9, _, hd, hk =>
      have h1:=hk 1 (by decide +kernel)
      have c1:=Xc1.out;obtain rfl:=c1 h1;clear c1;apply wpOp_at
      case ho=>rfl
      intro K hK;simp only [putAll,Act.put,qA,qB,qC];go_simp;refine hK _ _ ⟨_,(.pointer (some ⟨w.heap.size + 1 + 1,0,none⟩)),_,_,_,_,_,_,(.pointer (some ⟨w.heap.size + 1 + 1,0,none⟩)),_,?_,hB,Xc0,Xc1,Xc2,Xc3,Xc4,Xc5,Xc6,Xc7,Xc8,fun _=>rfl,Xc10,Xc11,Xcx.out,Xcs.out,Xcu.out⟩
      simp only [putAll,Act.put,qA,qB,qC]
    | 10, _, hd, hk =>
      have h9:=hk 9 (by decide +kernel)
      have c9:=Xc9.out;obtain rfl:=c9 h9;clear c9;apply wpOp_at
      case ho=>rfl
      intro K hK;simp only [putAll,Act.put,qA,qB,qC];go_simp;refine hK _ _ ⟨_,_,_,_,_,_,_,_,(.pointer (some ⟨w.heap.size + 1 + 1,0,none⟩)),(.pointer (some ⟨w.heap.size + 1 + 1,12,none⟩)),?_,hB,Xc0,Xc1,Xc2,Xc3,Xc4,Xc5,Xc6,Xc7,Xc8,Xc9,fun _=>rfl,Xc11,Xcx.out,Xcs.out,Xcu.out⟩
      simp only [putAll,Act.put,qA,qB,qC]
    | 11, _, hd, hk =>
      have h5:=hk 5 (by decide +kernel)
      have h8:=hk 8 (by decide +kernel)
      have h10:=hk 10 (by decide +kernel)
      have c5:=Xc5.out;have c8:=Xc8.out;have c10:=Xc10.out;obtain rfl:=c5 h5;obtain rfl:=c10 h10;have hS9:=c8 h8 hd;obtain ⟨⟨z0,z1,z2,z3,z4,z5⟩,⟨z6,z7,z8,z9,z10,z11⟩,⟨z12,z13,z14⟩,-,-,-⟩:=st_cells hS9;have y0:=hS9.free 0;have y1:=hS9.free 1;have y2:=hS9.free 2;have y3:=hS9.free 3;have y4:=hS9.free 4;have y5:=hS9.free 5;have y6:=hS9.free 6;have y7:=hS9.free 7;have y8:=hS9.free 8;have y9:=hS9.free 9
      have y10:=hS9.free 10;have y11:=hS9.free 11;have y12:=hS9.free 12;have y13:=hS9.free 13;have y14:=hS9.free 14;have hW8:=((hS9.set 12 (.int .i64 x.tk)).set 13 (.int .i64 x.nx)).set 14 (.slice P.a P.m P.c);simp only [List.setIfInBounds_toArray,List.set_cons_zero,List.set_cons_succ] at hW8;have hn:w.heap.size + 1 ≠ w.heap.size + 1 + 1:=by omega
      clear c5 c8 c10;apply wpOp_at
      case ho=>rfl
      intro K hK;simp only [putAll,Act.put,qA,qB,qC];go_simp;have cx:=Xcx.out;have cu:=Xcu.out;refine hK _ _ ⟨_,_,_,_,_,(.agg #[.int .i64 x.tk,.int .i64 x.nx,.slice P.a P.m P.c]),_,_,_,(.pointer (some ⟨w.heap.size + 1 + 1,12,none⟩)),?_,((hB.setCell (p:=⟨w.heap.size + 1 + 1,12,none⟩) (show w.heap.size≤w.heap.size + 1 + 1 by omega) _).setCell (p:=⟨w.heap.size + 1 + 1,13,none⟩) (show w.heap.size≤w.heap.size + 1 + 1 by omega) _).setCell (p:=⟨w.heap.size + 1 + 1,14,none⟩) (show w.heap.size≤w.heap.size + 1 + 1 by omega) _,Xc0,Xc1,Xc2,Xc3,Xc4,Xc5,Xc6,Xc7,fun _ k=>Bool.noConfusion (show true=false from k),Xc9,Xc10,fun _=>⟨h8,hW8⟩,((cx.other (p:=⟨w.heap.size + 1 + 1,12,none⟩) hn _).other (p:=⟨w.heap.size + 1 + 1,13,none⟩) hn _).other (p:=⟨w.heap.size + 1 + 1,14,none⟩) hn _,fun h=>absurd (h8.symm.trans h) (by decide),((cu.set (p:=⟨w.heap.size + 1 + 1,12,none⟩) rfl _).set (p:=⟨w.heap.size + 1 + 1,13,none⟩) rfl _).set (p:=⟨w.heap.size + 1 + 1,14,none⟩) rfl _⟩
      simp only [putAll,Act.put,qA,qB,qC]
    | k + 12,hi,_,_=>exact absurd hi (by simp)
   case ends =>
    intro d a' w' hJ hall;obtain ⟨e0,e1,e2,e3,e4,e5,e6,e7,e9,e10,rfl,hC⟩:=hJ;obtain ⟨hB,hC⟩:=hC;obtain ⟨c0,hC⟩:=hC;obtain ⟨c1,hC⟩:=hC;obtain ⟨c2,hC⟩:=hC;obtain ⟨c3,hC⟩:=hC;obtain ⟨c4,hC⟩:=hC;obtain ⟨c5,hC⟩:=hC;obtain ⟨c6,hC⟩:=hC;obtain ⟨c7,hC⟩:=hC;obtain ⟨c8,hC⟩:=hC;obtain ⟨c9,hC⟩:=hC;obtain ⟨c10,hC⟩:=hC;obtain ⟨c11,hC⟩:=hC;obtain ⟨cx,hC⟩:=hC;obtain ⟨cs,hC⟩:=hC;have cu:=hC;clear hC;have HE:=qH (c11 (hall 11 (by decide +kernel))).2
    have HU:=qH cu;have HBe:=qH hB;obtain rfl:=c0 (hall 0 (by decide +kernel))
    obtain rfl:=c1 (hall 1 (by decide +kernel))
    obtain rfl:=c2 (hall 2 (by decide +kernel))
    obtain rfl:=c3 (hall 3 (by decide +kernel))
    obtain rfl:=c4 (hall 4 (by decide +kernel))
    obtain rfl:=c5 (hall 5 (by decide +kernel))
    obtain rfl:=c6 (hall 6 (by decide +kernel))
    obtain rfl:=c7 (hall 7 (by decide +kernel))
    obtain rfl:=c9 (hall 9 (by decide +kernel))
    obtain rfl:=c10 (hall 10 (by decide +kernel))
    clear c8 c11 cx cs cu hall hB;simp only [putAll,Act.put,qA,qB,qC];have hO4:OwnNd w' w1.heap.size P x:=HO3.out.butS (fun b e=>by omega) HU.out
    have hS4:St w.heap.size (fun _=>False) w' (w.heap.size + 1 + 1) c who x P 0:=⟨by omega,HE.out,hO4.rest Hf.out HA.out hlts1 Hb1.out.size (fun _ _ e=>e),hO4.1.2.2.1.1,own_mono hO4.1.2.2.1.2 Hb1.out.size,fun _ e=>e.elim⟩
    have HS4:=qH hS4;clear hO4 hS4
    go_wp2_with fail
    go_ret
    exact ⟨_,P,by rfl,held_next_base HB3.out HBe.out,by rw [if_pos Hyes.out,if_pos Hyes.out]; exact HS4.out⟩
end Go.Proofs.YtecjnkokdnmhlaaGreat
