/- Parts, as far as NodeAtOnceCards reaches them, of: RefStampOldest, RefClaimOn, RefClaimHeld, RefClaimOldest. No law is proved here. -/
import Derived.Test.YtecjnkokdnmhlaaGreatTa41
namespace Go.Proofs.YtecjnkokdnmhlaaGreat
open Go.ChangeShapes Go.WideShapes Go.ChangeAt Go.RowKit
set_option maxRecDepth 100000 in
set_option maxHeartbeats 1000000 in
theorem refoldest_calls (a:Option Addr) (n c:Nat) (l:List (Int × Int)) (hn:n=l.length) (w:World) (hS:Stamps w (.slice a n c) l) :
 Calls Tryz.prog 68 #[.slice a n c] w (Found w l):=by
 have hbig:n≤9223372036854775807:=by rw [hn]; exact hS.1
 by_cases h0:n=0
 · obtain rfl:l=[]:=List.eq_nil_of_length_eq_zero (by omega)
   have hz:((n:Int) == 0)=true:=beq_iff_eq.2 (by omega)
   clear hS hn h0
   go_enter Tryz.func68,Tryz.ntmps68
   go_wp2_with fail
   refine bodyPost_ret (v:=.tuple #[.agg #[.int .i64 0,.int .i64 0],.bool false]) (by simp [results,Tryz.results68,go_sem]) rfl ⟨rfl,?_⟩
   exact below_box _ _
 · have hz:((n:Int) == 0)=false:=beq_eq_false_iff_ne.2 (by omega)
   have hn0:0 < n:=by omega
   obtain ⟨b,off,rfl,hcc⟩:=Elems.at hS (i:=0) (by omega)
   have c0:=hcc 0 (by omega)
   have c1:=hcc 1 (by omega)
   clear hcc;obtain ⟨xt,xw,Hx⟩:∃ xt xw,Hid (l.getD 0 (0,0)=(xt,xw)):=⟨_,_,rfl⟩;rw [Hx.out] at c0 c1;have d0:w.cell? ⟨b,off,none⟩=some (.int .i64 xt):=by simpa [sc] using c0
   have d1:w.cell? ⟨b,off + 1,none⟩=some (.int .i64 xw):=by simpa [sc] using c1
   have ea:b < w.heap.size:=World.block_lt_of_cell? w _ d0
   have hb1:best (l.take 1)=(xt,xw):=by
    have:=take_snoc' l 0 (by omega)
    rw [List.take_zero,List.nil_append] at this;rw [this,Hx.out]; rfl
   have Hb1:=qH hb1;have HZ:=qH (below_two w (.cells #[.int .i64 0,.int .i64 0] 48) (.cells #[.int .i64 xt,.int .i64 xw] 48));have HW0:=qH ((Whole.made w 48 #[.int .i64 0,.int .i64 0]).alloc (.cells #[.int .i64 xt,.int .i64 xw] 48));have HW1:=qH (Whole.made2 w (.cells #[.int .i64 0,.int .i64 0] 48) 48 #[.int .i64 xt,.int .i64 xw]);clear c0 c1 h0 hb1;have HS:=qH hS; clear hS;have Hn:=qH hn; clear hn
   go_enter Tryz.func68,Tryz.ntmps68
   go_wp2_with fail
   go_loopw [5] (fun i wr=>∃ k:Nat,1≤k∧k≤n∧i=.int .i64 k∧Hid (Below w.heap.size w wr)∧Hid (Whole wr w.heap.size 48 #[.int .i64 0,.int .i64 0])∧Hid (Whole wr (w.heap.size + 1) 48 #[.int .i64 (best (l.take k)).1,.int .i64 (best (l.take k)).2])) (fun i _=>n - (intOf i).toNat)
   case atStart=>exact ⟨1,Nat.le_refl _,hn0,rfl,HZ.out,HW0.out,by rw [Hb1.out]; exact HW1.out⟩
   case round =>
    obtain ⟨k,hk1,hk,rfl,Hb,HW0,HW⟩:=hrel;clear d0 d1 ea
    by_cases hlt:k < n
    · obtain ⟨b',off',hbo,hcc⟩:=Elems.at HS.out (i:=k) (by have:=Hn.out; omega)
      simp only [Option.some.injEq,Addr.mk.injEq,and_true] at hbo;obtain ⟨rfl,rfl⟩:=hbo;have c0:=hcc 0 (by omega)
      have c1:=hcc 1 (by omega)
      clear hcc;obtain ⟨vt,vw,Hv⟩:∃ vt vw,Hid (l.getD k (0,0)=(vt,vw)):=⟨_,_,rfl⟩;obtain ⟨yt,yw,Hy⟩:∃ yt yw,Hid (best (l.take k)=(yt,yw)):=⟨_,_,rfl⟩;rw [Hv.out] at c0 c1;have d0:wr.cell? ⟨b,off + k * 2,none⟩=some (.int .i64 vt):=cell_later Hb.out c0;have d1:wr.cell? ⟨b,off + k * 2 + 1,none⟩=some (.int .i64 vw):=cell_later Hb.out c1;have HW':=HW;rw [Hy.out] at HW';have hts:=take_snoc' l k (by have:=Hn.out; omega)
      have hbs:=best_snoc (l.take k) (vt,vw);rw [Hv.out] at hts;rw [← hts,Hy.out] at hbs;have Ho:=qH (fun w=>refolder_calls vt vw yt yw w)
      obtain ⟨z,Hz⟩:∃ z,Hid (olderB vt vw yt yw=z):=⟨_,rfl⟩;have hne:l.take k ≠ []:=fun e=>by have h:=congrArg List.length e; have h':=Hn.out; rw [List.length_take,List.length_nil] at h; omega
      rw [if_neg hne,Hz.out] at hbs;rw [Hz.out] at Ho;have Hbs2:=qH hbs
      have KP:Hid (∀ w',Below wr.heap.size wr w'→(Below wr.heap.size wr w'∧w'.cell? ⟨b,off + k * 2,none⟩=some (.int .i64 vt)∧w'.cell? ⟨b,off + k * 2 + 1,none⟩=some (.int .i64 vw)∧w'.cell? ⟨w.heap.size + 1,0,none⟩=some (.int .i64 yt)∧w'.cell? ⟨w.heap.size + 1,1,none⟩=some (.int .i64 yw))) :=
       fun w' h=>⟨h,cell_later h d0,cell_later h d1,(HW'.out.later h HW'.out.lt).cell 0,(HW'.out.later h HW'.out.lt).cell 1⟩
      clear c0 c1 d0 d1 hts hbs hne
      go_wp2_with fail
      go_region_held (fun w'=>Below wr.heap.size wr w'∧w'.cell? ⟨b,off + k * 2,none⟩=some (.int .i64 vt)∧w'.cell? ⟨b,off + k * 2 + 1,none⟩=some (.int .i64 vw)∧w'.cell? ⟨w.heap.size + 1,0,none⟩=some (.int .i64 yt)∧w'.cell? ⟨w.heap.size + 1,1,none⟩=some (.int .i64 yw))
       (first | exact KP.out _ (Below.refl _ _).drew | (refine KP.out _ ?_; assumption))
       (first
        | (go_at_call 129; ((with_reducible refine (Ho.out _).mono ?_); rintro e w2 ⟨rfl,hb2⟩; have hS2:Below wr.heap.size wr w2:=held_next ((Below.refl _ _).drew) hb2)))
      have HX2:=qH (HW'.out.later hS2 HW'.out.lt);have HZ2:=qH (HW0.out.later hS2 HW0.out.lt);have Hb3:=qH (below_next Hb.out Hb.out.size hS2);obtain ⟨_,d0,d1,e0,e1⟩:=KP.out _ hS2;have f0:=HX2.out.free 0;have f1:=HX2.out.free 1;clear hb2 hS2
      cases z with
      | true =>
        go_wp2_with fail
        go_roundw
        case rel=>exact ⟨k + 1,by omega,hlt,by go_num,(Hb3.out.setCell (p:=⟨w.heap.size + 1,0,none⟩) (by simp) _).setCell (p:=⟨w.heap.size + 1,1,none⟩) (by simp) _,(HZ2.out.other (by simp) _).other (by simp) _,by rw [Hbs2.out]; exact (HX2.out.set 0 _).set 1 _⟩
        case measure=>simp [intOf]; omega
      | false =>
        go_wp2_with fail
        go_roundw
        case rel=>exact ⟨k + 1,by omega,hlt,by go_num,Hb3,HZ2,by rw [Hbs2.out]; exact HX2⟩
        case measure=>simp [intOf]; omega
    · have hkn:k=n:=by omega
      have HW':=HW;obtain ⟨yt,yw,Hy⟩:∃ yt yw,Hid (best (l.take k)=(yt,yw)):=⟨_,_,rfl⟩;rw [Hy.out] at HW';have e0:wr.cell? ⟨w.heap.size + 1,0,none⟩=some (.int .i64 yt):=HW'.out.cell 0;have e1:wr.cell? ⟨w.heap.size + 1,1,none⟩=some (.int .i64 yw):=HW'.out.cell 1;have g0:wr.cell? ⟨w.heap.size,0,none⟩=some (.int .i64 0):=HW0.out.cell 0;have g1:wr.cell? ⟨w.heap.size,1,none⟩=some (.int .i64 0):=HW0.out.cell 1
      have f0:=HW0.out.free 0;have f1:=HW0.out.free 1;have Hkn:=qH hkn; clear hkn
      go_wp2_with fail
      refine bodyPost_ret (v:=.tuple #[.agg #[.int .i64 yt,.int .i64 yw],.bool true]) (by simp [results,Tryz.results68,go_sem,g0,g1]) rfl ⟨?_,?_⟩
      · rw [Hkn.out,Hn.out,List.take_length] at Hy
        rw [Hy.out,← Hn.out,decide_eq_true hn0]
      · exact (Hb.out.setCell (p:=⟨w.heap.size,0,none⟩) (Nat.le_refl _) _).setCell (p:=⟨w.heap.size,1,none⟩) (Nat.le_refl _) _
end Go.Proofs.YtecjnkokdnmhlaaGreat
namespace Go.Proofs.YtecjnkokdnmhlaaGreat
open Go.RowKit
theorem nt_cells7 {w:World} {g:Nat} {x:Nt} (h:Whole w g 113 (ntCells x)) :
 w.cell? ⟨g,0,none⟩=some (.int .i64 x.clk)∧w.cell? ⟨g,1,none⟩=some (.int .i64 x.t)∧w.cell? ⟨g,2,none⟩=some (.int .i64 x.a)∧w.cell? ⟨g,3,none⟩=some (.int .i64 x.m)∧w.cell? ⟨g,4,none⟩=some (.int .i64 x.asks)∧w.cell? ⟨g,5,none⟩=some (.int .i64 x.try_)∧w.cell? ⟨g,6,none⟩=some (.int .i64 x.ph) :=
 ⟨h.cell 0,h.cell 1,h.cell 2,h.cell 3,h.cell 4,h.cell 5,h.cell 6⟩
set_option maxRecDepth 100000 in
set_option maxHeartbeats 4000000 in
theorem refon_calls (c:Cf) (x:Nt) (w:World):Calls Tryz.prog 67 #[cfV c,ntV x] w (Says w (onB c x)):=by
 have HW:=qH ((Whole.made w 23 (cfCells c)).alloc (.cells (ntCells x) 113));have HX:=qH (Whole.made2 w (.cells (cfCells c) 23) 113 (ntCells x));have Hb0:=qH (below_two w (.cells (cfCells c) 23) (.cells (ntCells x) 113));obtain ⟨n,q,r,p,kk,cc⟩:=c;obtain ⟨clk,t,a,m,asks,tr,ph⟩:=x;obtain ⟨ok,Hok⟩:∃ z,Hid (cfB ⟨n,q,r,p,kk,cc⟩=z):=⟨_,rfl⟩;obtain ⟨res,Hres⟩:∃ z,Hid (onB ⟨n,q,r,p,kk,cc⟩ ⟨clk,t,a,m,asks,tr,ph⟩=z):=⟨_,qH rfl⟩
 have no:¬ (cfOk ⟨n,q,r,p,kk,cc⟩∧0 < m∧r≤asks)→res=false:=fun h=>Hres.out.symm.trans (decide_eq_false h)
 have yes:cfOk ⟨n,q,r,p,kk,cc⟩∧0 < m∧r≤asks→res=true:=fun h=>Hres.out.symm.trans (decide_eq_true h)
 have No:=qH no; have Yes:=qH yes; clear no yes;rw [Hres.out];obtain ⟨d0,d1,d2,d3,d4,d5⟩:=config_cells HW.out;simp only at d0 d1 d2 d3 d4 d5
 go_enter Tryz.func67,Tryz.ntmps67
 go_wp2_with fail
 refine (refcfg_calls ⟨n,q,r,p,kk,cc⟩ _).mono ?_;rintro e w1 ⟨rfl,hb⟩;rw [Hok.out];have Hb1:=qH (held_next Hb0.out hb);have HW1:=qH (HW.out.later hb HW.out.lt);have HX1:=qH (HX.out.later hb HX.out.lt);clear hb HW HX Hb0 d0 d1 d2 d3 d4 d5;obtain ⟨d0,d1,d2,d3,d4,d5⟩:=config_cells HW1.out;obtain ⟨e0,e1,e2,e3,e4,e5,e6⟩:=nt_cells7 HX1.out;simp only at d0 d1 d2 d3 d4 d5 e0 e1 e2 e3 e4 e5 e6
 cases ok with
 | false =>
   obtain rfl:res=false:=No.out fun h=>by
    have:=cfB_yes h.1;rw [Hok.out] at this
    cases this
   go_wp2_with fail
   go_ret
   exact ⟨by rfl,Hb1.out⟩
 | true =>
   by_cases h1:0 < m
   · by_cases h2:r≤asks
     · obtain rfl:res=true:=Yes.out ⟨cfB_ok Hok.out,h1,h2⟩
       go_wp2_with fail
       go_ret
       exact ⟨by first | rfl | (simp; done) | (simp; omega),Hb1.out⟩
     · obtain rfl:res=false:=No.out fun h=>h2 h.2.2
       go_wp2_with fail
       go_ret
       exact ⟨by first | rfl | (simp; done) | (simp; omega),Hb1.out⟩
   · obtain rfl:res=false:=No.out fun h=>h1 h.2.1
     go_wp2_with fail
     go_ret
     exact ⟨by first | rfl | (simp; done) | (simp; omega),Hb1.out⟩
end Go.Proofs.YtecjnkokdnmhlaaGreat
namespace Go.Proofs.YtecjnkokdnmhlaaGreat
open Go.RowKit
theorem rq_cells3 {w:World} {g:Nat} {t a m:Int} (h:Whole w g 59 #[.int .i64 t,.int .i64 a,.int .i64 m]):w.cell? ⟨g,0,none⟩=some (.int .i64 t)∧w.cell? ⟨g,1,none⟩=some (.int .i64 a)∧w.cell? ⟨g,2,none⟩=some (.int .i64 m):=⟨h.cell 0,h.cell 1,h.cell 2⟩
attribute [local go_sem ↓] run_fine
set_option maxRecDepth 100000 in
set_option maxHeartbeats 8000000 in
theorem refoldestN_calls (c:Cf) (who:Int) (a0:Option Addr) (m cp:Nat) (l:List Nt) (hm:m=l.length) (hs:m≤1000) (w:World) (hB:Notes w (.slice a0 m cp) l) :
 Calls Tryz.prog 28 #[cfV c,.int .i64 who,.slice a0 m cp] w (TellsQ w (oldestN c who l)):=by
 have HW:=qH ((Whole.made w 23 (cfCells c)).alloc (.cells #[.int .i64 0,.int .i64 0,.int .i64 0] 59));have HZ:=qH (Whole.made2 w (.cells (cfCells c) 23) 59 #[.int .i64 0,.int .i64 0,.int .i64 0]);have Hb0:=qH (below_two w (.cells (cfCells c) 23) (.cells #[.int .i64 0,.int .i64 0,.int .i64 0] 59));have HC:=qH (fun w hB=>refclaimmay_calls c who a0 m cp l hm w hB)
 have HB:=qH hB; clear hB;have Hm:=qH hm; clear hm;obtain ⟨n,q,r,p,kk,cc⟩:=c;obtain ⟨ok,Hok⟩:∃ z,Hid (notesB ⟨n,q,r,p,kk,cc⟩ who l=z):=⟨_,qH rfl⟩;obtain ⟨res,Hres⟩:∃ z,Hid (oldestN ⟨n,q,r,p,kk,cc⟩ who l=z):=⟨_,qH rfl⟩;rw [Hres.out];have HO0:Hid (OwnS ((w.alloc (.cells (cfCells ⟨n,q,r,p,kk,cc⟩) 23)).alloc (.cells #[.int .i64 0,.int .i64 0,.int .i64 0] 59)) (w.heap.size + 1 + 1) (.slice none 0 0) []):=⟨rfl,Or.inl ⟨rfl,rfl⟩⟩
 go_enter Tryz.func28,Tryz.ntmps28
 go_wp2_with fail
 go_loopw [8,9] (fun s8 s9 wr=>∃ (k:Nat) (v:Value),k≤m∧s9=.int .i64 (k:Int)∧s8=v∧Hid (OwnS wr (w.heap.size + 1 + 1) v (stampsTo ⟨n,q,r,p,kk,cc⟩ l k))∧Hid (Below w.heap.size w wr)∧Hid (Whole wr w.heap.size 23 (cfCells ⟨n,q,r,p,kk,cc⟩))∧Hid (Whole wr (w.heap.size + 1) 59 #[.int .i64 0,.int .i64 0,.int .i64 0])∧Hid (k ≠ 0→ok=true)) (fun _ s9 _=>m - (intOf s9).toNat)
 case atStart=>exact ⟨0,_,Nat.zero_le _,rfl,rfl,HO0.out,Hb0.out,HW.out,HZ.out,fun h=>absurd rfl h⟩
 case round =>
  obtain ⟨k,v,hk,rfl,rfl,HO,Hb,HWr0,HZr0,Hk⟩:=hrel;obtain ⟨d0,d1,d2,d3,d4,d5⟩:=config_cells HWr0.out;simp only at d0 d1 d2 d3 d4 d5
  go_wp2_with fail
  refine (HC.out _ (HB.out.later Hb.out)).mono ?_;rw [Hok.out];rintro e w1 ⟨rfl,hb⟩;have Hb1:=qH (held_next Hb.out hb);have HWr:=qH (HWr0.out.later hb HWr0.out.lt);have HZr:=qH (HZr0.out.later hb HZr0.out.lt);have HO1:=qH (own_later HO.out hb);clear hb d0 d1 d2 d3 d4 d5 HWr0 HZr0 HO;have hm9:m≤1000:=hs
  cases ok with
  | false =>
    obtain rfl:k=0:=by
     by_cases h:k=0
     · exact h
     · exact absurd (Hk.out h) (by decide)
    obtain rfl:res=(⟨0,0,0⟩,false):=Hres.out.symm.trans (if_neg (of_decide_eq_false Hok.out));obtain ⟨A,C,rfl,hSt⟩:=OwnS.stamps HO1.out (by have:=stampsTo_len ⟨n,q,r,p,kk,cc⟩ l 0; omega)
    obtain ⟨Ln,HLn⟩:∃ z,Hid ((stampsTo ⟨n,q,r,p,kk,cc⟩ l 0).length=z):=⟨_,rfl⟩;have hst2:=hSt;rw [HLn.out] at hst2;have HSt:=qH hst2;rw [HLn.out];have HO2:=HO1;clear hSt hst2 HO1
    go_wp2_with fail
    refine (refoldest_calls A Ln C (stampsTo ⟨n,q,r,p,kk,cc⟩ l 0) HLn.out.symm _ HSt.out).mono ?_;rintro e w2 ⟨rfl,hb⟩;have Hb2:=qH (held_next Hb1.out hb);have HZ2:=qH (HZr.out.later hb HZr.out.lt);clear hb;have hL:stampsTo ⟨n,q,r,p,kk,cc⟩ l 0=[]:=rfl;rw [hL];simp only [best,List.length_nil,Nat.lt_irrefl,decide_false];have y0:=HZ2.out.free 0;have y1:=HZ2.out.free 1;have y2:=HZ2.out.free 2;obtain ⟨z0,z1,z2⟩:=rq_cells3 HZ2.out
    have hlt2:w.heap.size + 1 < w2.heap.size:=HZ2.out.lt
    go_wp2_with fail
    have HF:=qH ((((HZ2.out.set 0 (.int .i64 0)).set 1 (.int .i64 0)).set 2 (.int .i64 0)).alloc (.cells #[.int .i64 0,.int .i64 0] 48));obtain ⟨q0,q1,q2⟩:=rq_cells3 HF.out;refine bodyPost_ret (v:=.tuple #[rqV ⟨0,0,0⟩,.bool false]) (by simp [results,Tryz.results28,go_sem,q0,q1,q2]) rfl ⟨rfl,?_⟩
    exact (((Hb2.out.setCell (p:=⟨w.heap.size + 1,0,none⟩) (Nat.le_succ _) _).setCell (p:=⟨w.heap.size + 1,1,none⟩) (Nat.le_succ _) _).setCell (p:=⟨w.heap.size + 1,2,none⟩) (Nat.le_succ _) _).alloc (by simp; omega) _
  | true =>
  have Hno:=qH (of_decide_eq_true Hok.out)
  by_cases hlt:k < m
  rotate_left 1
  · have hkm:k=l.length:=by have:=Hm.out; omega
    have Hkm:=qH hkm;clear hkm;have Hbest:=qH (stampsTo_best ⟨n,q,r,p,kk,cc⟩ l k);obtain ⟨A,C,rfl,hSt⟩:=OwnS.stamps HO1.out (by have:=stampsTo_len ⟨n,q,r,p,kk,cc⟩ l k; omega)
    obtain ⟨Ln,HLn⟩:∃ z,Hid ((stampsTo ⟨n,q,r,p,kk,cc⟩ l k).length=z):=⟨_,rfl⟩;have hst2:=hSt;rw [HLn.out] at hst2;have HSt:=qH hst2;rw [HLn.out];have HO2:=HO1;clear hSt hst2 HO1
    go_wp2_with fail
    refine (refoldest_calls A Ln C (stampsTo ⟨n,q,r,p,kk,cc⟩ l k) HLn.out.symm _ HSt.out).mono ?_;rintro e w2 ⟨rfl,hb⟩;have Hb2:=qH (held_next Hb1.out hb);have HZ2:=qH (HZr.out.later hb HZr.out.lt);clear hb
    cases hold:oldK ⟨n,q,r,p,kk,cc⟩ l k with
    | none =>
      have hL:=Hbest.out.1 hold;obtain rfl:res=(⟨0,0,0⟩,false):=Hres.out.symm.trans ((if_pos Hno.out).trans (by rw [← Hkm.out,hold]))
      rw [hL];simp only [best,List.length_nil,Nat.lt_irrefl,decide_false];clear hold hL;have y0:=HZ2.out.free 0;have y1:=HZ2.out.free 1;have y2:=HZ2.out.free 2;obtain ⟨z0,z1,z2⟩:=rq_cells3 HZ2.out;have hlt2:w.heap.size + 1 < w2.heap.size:=HZ2.out.lt
      go_wp2_with fail
      have HF:=qH ((((HZ2.out.set 0 (.int .i64 0)).set 1 (.int .i64 0)).set 2 (.int .i64 0)).alloc (.cells #[.int .i64 0,.int .i64 0] 48));obtain ⟨q0,q1,q2⟩:=rq_cells3 HF.out;refine bodyPost_ret (v:=.tuple #[rqV ⟨0,0,0⟩,.bool false]) (by simp [results,Tryz.results28,go_sem,q0,q1,q2]) rfl ⟨rfl,?_⟩
      exact (((Hb2.out.setCell (p:=⟨w.heap.size + 1,0,none⟩) (Nat.le_succ _) _).setCell (p:=⟨w.heap.size + 1,1,none⟩) (Nat.le_succ _) _).setCell (p:=⟨w.heap.size + 1,2,none⟩) (Nat.le_succ _) _).alloc (by simp; omega) _
    | some j =>
      obtain ⟨g1,g2,g3,g4⟩:=Hbest.out.2 j hold;obtain rfl:res=(headOf (ntAt l j),true):=Hres.out.symm.trans ((if_pos Hno.out).trans (by rw [← Hkm.out,hold]))
      have hj:j < l.length:=by have:=Hkm.out; omega
      have haj:=Hno.out.own hj g4;rw [g2];have hpos:decide (0 < (stampsTo ⟨n,q,r,p,kk,cc⟩ l k).length)=true:=decide_eq_true (List.length_pos_iff.2 g1);rw [hpos];obtain ⟨b,off,rfl,hN⟩:=(HB.out.later Hb2.out).at (i:=j) hj;obtain ⟨x,Hx⟩:∃ z,Hid (ntAt l j=z):=⟨_,rfl⟩;rw [Hx.out] at hN haj ⊢;obtain ⟨x0,x1,x2,x3,x4,x5,x6⟩:=x;simp only at haj ⊢;subst haj;obtain ⟨e0,e1,e2,e3,e4,e5,e6⟩:=hN;simp only at e0 e1 e2 e3 e4 e5 e6
      have hbl:=World.block_lt_of_cell? w2 _ e0;simp only at hbl;have j0:(0:Int)≤(j:Int):=by omega
      have j1:(j:Int) < (m:Int):=by have:=Hm.out; omega
      have y0:=HZ2.out.free 0;have y1:=HZ2.out.free 1;have y2:=HZ2.out.free 2;obtain ⟨z0,z1,z2⟩:=rq_cells3 HZ2.out;have hlt2:w.heap.size + 1 < w2.heap.size:=HZ2.out.lt;clear hold g1 g2 g3 g4 hj hpos
      go_wp2_with fail
      have HF:=qH ((((HZ2.out.set 0 (.int .i64 x1)).set 1 (.int .i64 (j:Int))).set 2 (.int .i64 x3)).alloc (.cells #[.int .i64 x1,.int .i64 (j:Int)] 48));obtain ⟨q0,q1,q2⟩:=rq_cells3 HF.out;refine bodyPost_ret (v:=.tuple #[rqV ⟨x1,(j:Int),x3⟩,.bool true]) (by simp [results,Tryz.results28,go_sem,q0,q1,q2]) rfl ⟨by rw [Hx.out]; rfl,?_⟩
      exact (((Hb2.out.setCell (p:=⟨w.heap.size + 1,0,none⟩) (Nat.le_succ _) _).setCell (p:=⟨w.heap.size + 1,1,none⟩) (Nat.le_succ _) _).setCell (p:=⟨w.heap.size + 1,2,none⟩) (Nat.le_succ _) _).alloc (by simp; omega) _
  obtain ⟨b,off,rfl,hN⟩:=(HB.out.later Hb1.out).at (i:=k) (by have:=Hm.out; omega)
  obtain ⟨x,Hx⟩:∃ z,Hid (ntAt l k=z):=⟨_,rfl⟩;rw [Hx.out] at hN;obtain ⟨x0,x1,x2,x3,x4,x5,x6⟩:=x;obtain ⟨on,Hon⟩:∃ z,Hid (onB ⟨n,q,r,p,kk,cc⟩ ⟨x0,x1,x2,x3,x4,x5,x6⟩=z):=⟨_,qH rfl⟩;have k0:(0:Int)≤(k:Int):=by omega
  have k1:(k:Int) < (m:Int):=by omega
  obtain ⟨wr,hwr⟩:∃ z,z=w1:=⟨_,rfl⟩;subst hwr;have HNx:=qH hN;obtain ⟨d0,d1,d2,d3,d4,d5⟩:=config_cells HWr.out;obtain ⟨e0,e1,e2,e3,e4,e5,e6⟩:=hN;simp only at d0 d1 d2 d3 d4 d5 e0 e1 e2 e3 e4 e5 e6
  have hst:stampsTo ⟨n,q,r,p,kk,cc⟩ l (k + 1)=if on=true then stampsTo ⟨n,q,r,p,kk,cc⟩ l k ++ [(x1,x2)] else stampsTo ⟨n,q,r,p,kk,cc⟩ l k:=by
   show (if onB ⟨n,q,r,p,kk,cc⟩ (ntAt l k)=true then _ ++ [((ntAt l k).t,(ntAt l k).a)] else _)=_
   rw [Hx.out,Hon.out]
  have Hst:=qH hst;clear hst;have KP:Hid (∀ w',Below wr.heap.size wr w'→(fun w'=>Below wr.heap.size wr w'∧(w'.cell? ⟨w.heap.size,0,none⟩=some (.int .i64 n)∧w'.cell? ⟨w.heap.size,1,none⟩=some (.int .i64 q)∧w'.cell? ⟨w.heap.size,2,none⟩=some (.int .i64 r)∧w'.cell? ⟨w.heap.size,3,none⟩=some (.int .i64 p)∧w'.cell? ⟨w.heap.size,4,none⟩=some (.int .i64 kk)∧w'.cell? ⟨w.heap.size,5,none⟩=some (.int .i64 cc))∧w'.cell? ⟨b,off + k * 7,none⟩=some (.int .i64 x0)∧w'.cell? ⟨b,off + k * 7 + 1,none⟩=some (.int .i64 x1)∧w'.cell? ⟨b,off + k * 7 + 2,none⟩=some (.int .i64 x2)∧w'.cell? ⟨b,off + k * 7 + 3,none⟩=some (.int .i64 x3)∧w'.cell? ⟨b,off + k * 7 + 4,none⟩=some (.int .i64 x4)∧w'.cell? ⟨b,off + k * 7 + 5,none⟩=some (.int .i64 x5)∧w'.cell? ⟨b,off + k * 7 + 6,none⟩=some (.int .i64 x6)) w'):=fun w' h=>⟨h,config_cells (HWr.out.later h HWr.out.lt),NtIn.later HNx.out h⟩
  go_wp2_with fail
  go_cut [29] from 24 to 29 (fun s29 wx=>s29=.bool on∧Hid (Below wr.heap.size wr wx))
  case first =>
   go_region_held3 (fun w'=>Below wr.heap.size wr w'∧(w'.cell? ⟨w.heap.size,0,none⟩=some (.int .i64 n)∧w'.cell? ⟨w.heap.size,1,none⟩=some (.int .i64 q)∧w'.cell? ⟨w.heap.size,2,none⟩=some (.int .i64 r)∧w'.cell? ⟨w.heap.size,3,none⟩=some (.int .i64 p)∧w'.cell? ⟨w.heap.size,4,none⟩=some (.int .i64 kk)∧w'.cell? ⟨w.heap.size,5,none⟩=some (.int .i64 cc))∧w'.cell? ⟨b,off + k * 7,none⟩=some (.int .i64 x0)∧w'.cell? ⟨b,off + k * 7 + 1,none⟩=some (.int .i64 x1)∧w'.cell? ⟨b,off + k * 7 + 2,none⟩=some (.int .i64 x2)∧w'.cell? ⟨b,off + k * 7 + 3,none⟩=some (.int .i64 x3)∧w'.cell? ⟨b,off + k * 7 + 4,none⟩=some (.int .i64 x4)∧w'.cell? ⟨b,off + k * 7 + 5,none⟩=some (.int .i64 x5)∧w'.cell? ⟨b,off + k * 7 + 6,none⟩=some (.int .i64 x6))
    (first | exact KP.out _ (Below.refl _ _).drew | exact KP.out _ HbO.out)
    (first | (go_at_call 67; refine (refon_calls ⟨n,q,r,p,kk,cc⟩ ⟨x0,x1,x2,x3,x4,x5,x6⟩ _).mono ?_; rw [Hon.out]; rintro ee wo ⟨rfl,hb2⟩; have HbO:=qH (((Below.refl _ _).drew).trans hb2)) | fail)
   all_goals go_wp2_with fail
   all_goals go_meet
   all_goals exact ⟨by rfl,HbO.out⟩
  case rest =>
  obtain ⟨rfl,hcut2⟩:=hcut;obtain ⟨w3,hw3⟩:∃ z,z=wc:=⟨_,rfl⟩;subst hw3;have Hb3:=qH (held_next Hb1.out hcut2.out);have HW3:=qH (HWr.out.later hcut2.out HWr.out.lt);have HZ3:=qH (HZr.out.later hcut2.out HZr.out.lt);have HO3:=qH (own_later HO1.out hcut2.out);have HN3:=qH (NtIn.later HNx.out hcut2.out);have hs3:w.heap.size + 1 < wr.heap.size:=HZr.out.lt;have hs4:=hcut2.out.size;clear hcut2 d0 d1 d2 d3 d4 d5 e0 e1 e2 e3 e4 e5 e6
  cases on with
  | false =>
    go_wp2_with fail
    go_roundw
    case rel=>exact ⟨k + 1,_,by omega,by go_num,rfl,by rw [Hst.out]; exact HO3.out,Hb3.out,HW3.out,HZ3.out,qH fun _=>trivial⟩
    case measure=>simp [intOf]; omega
  | true =>
    obtain ⟨e0,e1,e2,e3,e4,e5,e6⟩:=HN3.out;simp only at e0 e1 e2 e3 e4 e5 e6;have hbx:=below_box w3 (.cells #[.int .i64 x1,.int .i64 x2] 48);obtain ⟨v',w4,hrun,h2,h3,h4⟩:=run_append_stamps (own_later HO3.out hbx) (one_stamp (Whole.made w3 48 #[.int .i64 x1,.int .i64 x2])) rfl (by have:=stampsTo_len ⟨n,q,r,p,kk,cc⟩ l k; simp; omega) (by simp; omega)
    obtain ⟨hf1,hv1,hw1'⟩:=fine_of hrun;have HO4:=qH h2;have hb4:Below (w.heap.size + 1 + 1) w3 w4:=(hbx.mono (by omega)).trans h3
    have Hb4:=qH (Hb3.out.trans (hb4.mono (by omega)))
    have HW4:=qH (HW3.out.later hb4 (by omega))
    have HZ4:=qH (HZ3.out.later hb4 (by omega))
    clear hrun h2 h3 h4 hb4 hbx
    go_wp2_with fail
    go_roundw
    case rel=>exact ⟨k + 1,_,by omega,by go_num,rfl,by rw [Hst.out]; exact HO4.out,Hb4.out,HW4.out,HZ4.out,qH fun _=>trivial⟩
    case measure=>simp [intOf]; omega
end Go.Proofs.YtecjnkokdnmhlaaGreat
