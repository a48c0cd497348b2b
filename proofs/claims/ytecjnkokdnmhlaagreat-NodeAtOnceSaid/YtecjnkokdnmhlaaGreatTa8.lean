/- Parts, as far as NodeAtOnceCards reaches them, of: ClaimOld, ClaimOldest, WantWords, RefWant. No law is proved here. -/
import Derived.Test.YtecjnkokdnmhlaaGreatTa7
import Derived.Laws.EntriesVeiled
namespace Go.Proofs.YtecjnkokdnmhlaaGreat
open Go.RowKit
set_option maxRecDepth 100000 in
set_option maxHeartbeats 8000000 in
theorem cOn_calls (c:Cf) (x:Nt) (w:World):Calls Tryz.prog 201 #[cfV c,ntV x] w (Says w (onB c x)):=by
 have HK:Hid (KeptN w w.heap.size c x ((w.alloc (.cells (cfCells c) 23)).alloc (.cells (ntCells x) 113))):=⟨below_two w _ _,(Whole.made w _ _).alloc _,Whole.made2 w _ _ _⟩;obtain ⟨n,q,r,p,kk,cc⟩:=c;obtain ⟨clk,t,a,m,asks,try_,ph⟩:=x;obtain ⟨ok,Hok⟩:∃ z,Hid (cfB ⟨n,q,r,p,kk,cc⟩=z):=⟨_,rfl⟩;obtain ⟨res,Hres⟩:∃ z,Hid (onB ⟨n,q,r,p,kk,cc⟩ ⟨clk,t,a,m,asks,try_,ph⟩=z):=⟨_,rfl⟩;have no:¬ (cfOk ⟨n,q,r,p,kk,cc⟩∧0 < m∧r≤asks)→res=false:=fun h=>Hres.out.symm.trans (decide_eq_false h)
 have No:=qH no; clear no;rw [Hres.out]
 go_enter Tryz.func201,Tryz.ntmps201
 go_wp2_with fail
 refine (rMay_calls ⟨n,q,r,p,kk,cc⟩ _).mono ?_;rintro e w1 ⟨rfl,hb⟩;rw [Hok.out];have HK1:=qH (HK.out.later hb);clear hb HK;obtain ⟨d0,d1,d2,d3,d4,d5⟩:=config_cells HK1.out.2.1;obtain ⟨e0,e1,e2,e3,e4,e5,e6⟩:=nt_cells HK1.out.2.2;simp only at d0 d1 d2 d3 d4 d5 e0 e1 e2 e3 e4 e5 e6
 cases ok with
 | false =>
   obtain rfl:res=false:=No.out fun h=>by
    have:=cfB_yes h.1;rw [Hok.out] at this
    cases this
   go_wp2_with fail
   go_ret
   exact ⟨by rfl,HK1.out.1⟩
 | true =>
 by_cases h1:0 < m
 · by_cases h2:r≤asks
   · obtain rfl:res=true:=Hres.out.symm.trans (decide_eq_true ⟨cfB_ok Hok.out,h1,h2⟩)
     go_wp2_with fail
     go_ret
     exact ⟨by first | rfl | (simp; done) | (simp; omega),HK1.out.1⟩
   · obtain rfl:res=false:=No.out fun h=>h2 h.2.2
     go_wp2_with fail
     go_ret
     exact ⟨by first | rfl | (simp; done) | (simp; omega),HK1.out.1⟩
 · obtain rfl:res=false:=No.out fun h=>h1 h.2.1
   go_wp2_with fail
   go_ret
   exact ⟨by first | rfl | (simp; done) | (simp; omega),HK1.out.1⟩
def noRq (x:Rq):Bool:=decide (x.t=0∧x.a=0∧x.m=0)
def keepR (o x:Rq):Rq:=if noRq o=true∨olderB x.t x.a o.t o.a=true then x else o
def oldR (c:Cf) (l:List Nt) (k:Nat):Rq:=match oldK c l k with
 | some j=>headOf (ntAt l j)
 | none=>⟨0,0,0⟩
theorem oldK_on {c:Cf} {l:List Nt}:∀ k j,oldK c l k=some j→onB c (ntAt l j)=true
 | 0,j,h=>by cases h
 | k + 1, j, h => by
   unfold oldK at h
   cases ho:onB c (ntAt l k) with
   | false=>rw [ho] at h; simp only [Bool.false_eq_true,if_false] at h; exact oldK_on k j h
   | true =>
     rw [ho] at h;simp only [if_true] at h
     cases hj:oldK c l k with
     | none=>rw [hj] at h; cases h; exact ho
     | some i =>
       rw [hj] at h;simp only at h
       split at h
       · cases h; exact ho
       · cases h; exact oldK_on k _ hj
theorem head_some {c:Cf} {x:Nt} (h:onB c x=true):noRq (headOf x)=false:=by
 have h1:0 < x.m:=(of_decide_eq_true h).2.1
 exact decide_eq_false fun h2=>by have:x.m=0:=h2.2.2; omega
theorem oldR_off {c:Cf} {l:List Nt} {k:Nat} (h:onB c (ntAt l k)=false):oldR c l (k + 1)=oldR c l k:=by
 have e:oldK c l (k + 1)=oldK c l k:=by simp [oldK,h]
 unfold oldR
 rw [e]
theorem oldR_on {c:Cf} {l:List Nt} {k:Nat} (h:onB c (ntAt l k)=true):oldR c l (k + 1)=keepR (oldR c l k) (headOf (ntAt l k)):=by
 unfold oldR
 cases hj:oldK c l k with
 | none =>
   have e:oldK c l (k + 1)=some k:=by simp [oldK,h,hj]
   rw [e]
   exact (if_pos (Or.inl rfl)).symm
 | some i =>
   have hn:=head_some (oldK_on k i hj);have e:oldK c l (k + 1)=if olderB (ntAt l k).t (ntAt l k).a (ntAt l i).t (ntAt l i).a then some k else some i:=by simp [oldK,h,hj]
   rw [e];simp only
   cases ho:olderB (ntAt l k).t (ntAt l k).a (ntAt l i).t (ntAt l i).a with
   | true =>
     simp only [if_true]
     exact (if_pos (Or.inr ho)).symm
   | false =>
     simp only [Bool.false_eq_true,if_false];refine (if_neg fun h=>?_).symm
     rcases h with h | h
     · rw [hn] at h; cases h
     · have h9:olderB (ntAt l k).t (ntAt l k).a (ntAt l i).t (ntAt l i).a=true:=h
       rw [ho] at h9; cases h9
theorem oldestN_R {c:Cf} {who:Int} {l:List Nt} (h:notesOk c who l):oldestN c who l=(oldR c l l.length,!noRq (oldR c l l.length)):=by
 unfold oldestN oldR
 rw [if_pos h]
 cases hj:oldK c l l.length with
 | none=>rfl
 | some i =>
   have hn:=head_some (oldK_on _ i hj);simp only;rw [hn]; rfl
def KeptR (g:Nat) (o:Rq) (w:World) (e:Ending) (w':World):Prop:=e=.returned (.tuple #[])∧Below g w w'∧Whole w' g 59 (rqCells o)
theorem rq_set3 {w:World} {g:Nat} {o:Rq} (h:Whole w g 59 (rqCells o)) (t a m:Int):Whole (((w.setCell ⟨g,0,none⟩ (.int .i64 t)).setCell ⟨g,1,none⟩ (.int .i64 a)).setCell ⟨g,2,none⟩ (.int .i64 m)) g 59 (rqCells ⟨t,a,m⟩):=by
 have h9:=((h.set 0 (.int .i64 t)).set 1 (.int .i64 a)).set 2 (.int .i64 m)
 simpa using h9
theorem below_set3 {w0 w:World} {g:Nat} (h:Below g w0 w) (x y z:Value):Below g w0 (((w.setCell ⟨g,0,none⟩ x).setCell ⟨g,1,none⟩ y).setCell ⟨g,2,none⟩ z) :=
 ((h.setCell (p:=⟨g,0,none⟩) (Nat.le_refl _) x).setCell (p:=⟨g,1,none⟩) (Nat.le_refl _) y).setCell (p:=⟨g,2,none⟩) (Nat.le_refl _) z
set_option maxRecDepth 100000 in
set_option maxHeartbeats 8000000 in
theorem keep_calls (g:Nat) (o x:Rq) (w:World) (hW:Whole w g 59 (rqCells o)):Calls Tryz.prog 199 #[rqV x,.pointer (some ⟨g,0,none⟩)] w (KeptR g (keepR o x) w):=by
 have hg:=hW.lt;have hb0:=below_box w (.cells (rqCells x) 59);have HW:=qH (hW.later hb0 hg);have HX:=qH (Whole.made w 59 (rqCells x));have Hb0:=qH hb0;clear hb0 hW;obtain ⟨t,a,m⟩:=x;obtain ⟨u,b,n⟩:=o;obtain ⟨res,Hres⟩:∃ z,Hid (keepR ⟨u,b,n⟩ ⟨t,a,m⟩=z):=⟨_,rfl⟩;rw [Hres.out];obtain ⟨z0,Hz0⟩:∃ z,Hid (decide (u=0∧b=0∧n=0)=z):=⟨_,rfl⟩;obtain ⟨z1,Hz1⟩:∃ z,Hid (olderB t a u b=z):=⟨_,rfl⟩;obtain ⟨f0,f1,f2⟩:=rq_cells HW.out
 obtain ⟨e0,e1,e2⟩:=rq_cells HX.out;simp only at f0 f1 f2 e0 e1 e2
 go_enter Tryz.func199,Tryz.ntmps199
 go_wp2_with fail
 refine (none_calls u b n _).mono ?_;rw [Hz0.out];rintro e w1 ⟨rfl,hb⟩;have HW1:=qH (HW.out.later hb HW.out.lt);have HX1:=qH (HX.out.later hb HX.out.lt);have Hb1:=qH (held_next Hb0.out hb);clear hb f0 f1 f2 e0 e1 e2 HW HX Hb0;obtain ⟨f0,f1,f2⟩:=rq_cells HW1.out;have y0:=HW1.out.free 0; have y1:=HW1.out.free 1; have y2:=HW1.out.free 2;obtain ⟨e0,e1,e2⟩:=rq_cells HX1.out;simp only at f0 f1 f2 e0 e1 e2
 cases z0 with
 | true =>
   obtain rfl:res=⟨t,a,m⟩:=Hres.out.symm.trans (if_pos (Or.inl Hz0.out))
   go_wp2_with fail
   exact bodyPost_end (v:=.tuple #[]) (by simp [results,Tryz.results199,go_sem]) rfl ⟨rfl,below_set3 (Hb1.out.mono (Nat.le_of_lt hg)) _ _ _,rq_set3 HW1.out t a m⟩
 | false =>
 go_wp2_with fail
 refine (older_calls t a u b _).mono ?_;rw [Hz1.out];rintro e w2 ⟨rfl,hb⟩;have HW2:=qH (HW1.out.later hb HW1.out.lt);have HX2:=qH (HX1.out.later hb HX1.out.lt);have Hb2:=qH (held_next Hb1.out hb);clear hb f0 f1 f2 e0 e1 e2 HW1 HX1 Hb1 y0 y1 y2;obtain ⟨f0,f1,f2⟩:=rq_cells HW2.out;have y0:=HW2.out.free 0; have y1:=HW2.out.free 1; have y2:=HW2.out.free 2;obtain ⟨e0,e1,e2⟩:=rq_cells HX2.out;simp only at f0 f1 f2 e0 e1 e2
 cases z1 with
 | true =>
   obtain rfl:res=⟨t,a,m⟩:=Hres.out.symm.trans (if_pos (Or.inr Hz1.out))
   go_wp2_with fail
   exact bodyPost_end (v:=.tuple #[]) (by simp [results,Tryz.results199,go_sem]) rfl ⟨rfl,below_set3 (Hb2.out.mono (Nat.le_of_lt hg)) _ _ _,rq_set3 HW2.out t a m⟩
 | false =>
   obtain rfl:res=⟨u,b,n⟩:=Hres.out.symm.trans (if_neg fun h=>by
    rcases h with h | h
    · have h9:=h.symm.trans Hz0.out
      cases h9
    · have h9:=h.symm.trans Hz1.out
      cases h9)
   go_wp2_with fail
   exact bodyPost_end (v:=.tuple #[]) (by simp [results,Tryz.results199,go_sem]) rfl ⟨rfl,Hb2.out.mono (Nat.le_of_lt hg),HW2.out⟩
end Go.Proofs.YtecjnkokdnmhlaaGreat
namespace Go.Proofs.YtecjnkokdnmhlaaGreat
open Go.RowKit
theorem held_all (c:Cf) (who:Int) (l:List Nt) (t a:Int):heldB c who l t a=((oldestN c who l).2 && olderB (oldestN c who l).1.t (oldestN c who l).1.a t a):=by
 by_cases h:notesOk c who l
 · exact held_is h t a
 · have e:oldestN c who l=(⟨0,0,0⟩,false):=if_neg h
   rw [e]
   exact decide_eq_false fun h2=>h h2.1
set_option maxRecDepth 100000 in
set_option maxHeartbeats 8000000 in
theorem cOldest_calls (c:Cf) (who:Int) (a:Option Addr) (m cp:Nat) (l:List Nt) (hm:m=l.length) (hs:m≤1000) (w:World) (hB:Notes w (.slice a m cp) l) :
 Calls Tryz.prog 165 #[cfV c,.int .i64 who,.slice a m cp] w (TellsQ w (oldestN c who l)):=by
 have hmf:∀ (fn:Fn) (first cap:Array Value) (w:World),(Instr.makeFunc fn first cap).run Tryz.prog w=.ok (.func fn first cap) w:=fun _ _ _ _=>rfl
 have HW:=qH ((Whole.made w 23 (cfCells c)).alloc (.cells (rqCells ⟨0,0,0⟩) 59));have HR:=qH (Whole.made2 w (.cells (cfCells c) 23) 59 (rqCells ⟨0,0,0⟩));have Hb0:=qH (below_two w (.cells (cfCells c) 23) (.cells (rqCells ⟨0,0,0⟩) 59));have HB:=qH hB; clear hB;have Hm:=qH hm;have HC:=qH (fun w hw=>cMay_calls c who a m cp l hm hs w hw)
 clear hm;obtain ⟨ok,Hok⟩:∃ z,Hid (notesB c who l=z):=⟨_,rfl⟩;obtain ⟨res,Hres⟩:∃ z,Hid (oldestN c who l=z):=⟨_,rfl⟩;rw [Hres.out];obtain ⟨n,q,r,p,kk,cc⟩:=c
 go_enter Tryz.func165,Tryz.ntmps165
 go_wp2_with fail
 refine (HC.out _ (HB.out.later Hb0.out)).mono ?_;rw [Hok.out];rintro e w1 ⟨rfl,hb⟩;have HW1:=qH (HW.out.later hb HW.out.lt);have HR1:=qH (HR.out.later hb HR.out.lt);have Hb1:=qH (held_next Hb0.out hb);clear hb HW HR Hb0 HC;have y0:=HR1.out.free 0; have y1:=HR1.out.free 1; have y2:=HR1.out.free 2;have hlt:=HR1.out.lt
 cases ok with
 | false =>
   obtain rfl:res=(⟨0,0,0⟩,false):=Hres.out.symm.trans (if_neg (of_decide_eq_false Hok.out));obtain ⟨f0,f1,f2⟩:=rq_cells HR1.out;simp only at f0 f1 f2
   go_wp2_with fail
   have hL:=rq_set3 HR1.out 0 0 0;obtain ⟨k0,k1,k2⟩:=rq_cells hL;simp only at k0 k1 k2;refine bodyPost_ret (v:=.tuple #[rqV ⟨0,0,0⟩,.bool false]) (by simp [results,Tryz.results165,go_sem,k0,k1,k2]) rfl ⟨rfl,?_⟩
   exact ((Hb1.out.setCell (p:=⟨w.heap.size + 1,0,none⟩) (Nat.le_succ _) _).setCell (p:=⟨w.heap.size + 1,1,none⟩) (Nat.le_succ _) _).setCell (p:=⟨w.heap.size + 1,2,none⟩) (Nat.le_succ _) _
 | true =>
 have Hno:=qH (of_decide_eq_true Hok.out);have HG:=qH (Whole.made w1 59 (rqCells ⟨0,0,0⟩));have Hbg:=qH (below_box w1 (.cells (rqCells ⟨0,0,0⟩) 59));clear y0 y1 y2
 go_wp2_with fail
 obtain ⟨g,Hg⟩:∃ g,Hid (w1.heap.size=g):=⟨_,rfl⟩;rw [Hg.out] at HG Hbg hlt ⊢
 go_loopw [21] (fun s21 wr=>∃ (k:Nat) (o:Rq),k≤m∧s21=.int .i64 k∧Hid (oldR ⟨n,q,r,p,kk,cc⟩ l k=o)∧Hid (Whole wr g 59 (rqCells o))∧Hid (Below g w1 wr)) (fun s21 _=>m - (intOf s21).toNat)
 case atStart=>exact ⟨0,⟨0,0,0⟩,Nat.zero_le _,rfl,rfl,HG.out,Hbg.out⟩
 case round =>
  obtain ⟨k,o,hk,rfl,Ho,HGr,Hb⟩:=hrel;have hgl:=HGr.out.lt;have Hbo:=qH (held_next Hb1.out (by rw [Hg.out]; exact Hb.out))
  have HWr:=qH (HW1.out.later Hb.out (Nat.lt_of_succ_lt hlt));have HRr:=qH (HR1.out.later Hb.out hlt);obtain ⟨d0,d1,d2,d3,d4,d5⟩:=config_cells HWr.out;simp only at d0 d1 d2 d3 d4 d5
  by_cases hkm:k < m
  · obtain ⟨b,off,rfl,hN⟩:=HB.out.at (i:=k) (by have:=Hm.out; omega)
    obtain ⟨x,Hx⟩:∃ z,Hid (ntAt l k=z):=⟨_,rfl⟩;rw [Hx.out] at hN;obtain ⟨e0,e1,e2,e3,e4,e5,e6⟩:=NtIn.later hN Hbo.out;clear hN;obtain ⟨v,Hv⟩:∃ z,Hid (onB ⟨n,q,r,p,kk,cc⟩ x=z):=⟨_,rfl⟩;have hbx:=below_box wr (.cells (ntCells x) 113);have HX:=qH (Whole.made wr 113 (ntCells x));have HGx:=qH (HGr.out.later hbx hgl);have Hbx:=qH (Hb.out.trans (hbx.mono (Nat.le_of_lt hgl)));have hwl:=HWr.out.lt;clear hbx
    obtain ⟨x0,x1,x2,x3,x4,x5,x6⟩:=x;simp only at e0 e1 e2 e3 e4 e5 e6;have k0:(0:Int)≤(k:Int):=by omega
    have k1:(k:Int) < (m:Int):=by omega
    go_wp2_with fail
    refine (cOn_calls ⟨n,q,r,p,kk,cc⟩ ⟨x0,x1,x2,x3,x4,x5,x6⟩ _).mono ?_;rw [Hv.out];rintro e w3 ⟨rfl,hb⟩;have HX3:=qH (HX.out.later hb HX.out.lt);have HG3:=qH (HGx.out.later hb HGx.out.lt);have Hb3:=qH (Hbx.out.trans (hb.mono (Nat.le_of_lt HGx.out.lt)));clear hb e0 e1 e2 e3 e4 e5 e6 d0 d1 d2 d3 d4 d5 HX HGx Hbx;obtain ⟨e0,e1,e2,e3,e4,e5,e6⟩:=nt_cells HX3.out;simp only at e0 e1 e2 e3 e4 e5 e6
    cases v with
    | false =>
      go_wp2_with fail
      go_roundw
      case rel=>exact ⟨k + 1,o,by omega,by go_num,(oldR_off (by rw [Hx.out]; exact Hv.out)).trans Ho.out,HG3.out,Hb3.out⟩
      case measure=>simp [intOf]; omega
    | true =>
      go_wp2_with fail
      refine (keep_calls g o ⟨x1,x2,x3⟩ w3 HG3.out).mono ?_;rintro e w4 ⟨rfl,hb,hw⟩;have HG4:=qH hw;have Hb4:=qH (Hb3.out.trans hb);clear hb hw
      go_wp2_with fail
      go_roundw
      case rel=>exact ⟨k + 1,keepR o ⟨x1,x2,x3⟩,by omega,by go_num,(oldR_on (by rw [Hx.out]; exact Hv.out)).trans (by rw [Ho.out,Hx.out]; rfl),HG4.out,Hb4.out⟩
      case measure=>simp [intOf]; omega
  · obtain rfl:k=m:=by omega
    obtain ⟨z,Hz⟩:∃ z,Hid (noRq o=z):=⟨_,rfl⟩;obtain rfl:res=(o,!z):=Hres.out.symm.trans ((oldestN_R Hno.out).trans (by rw [← Hm.out,Ho.out,Hz.out]))
    have hgo:Hid (g ≠ w.heap.size + 1):=by show g ≠ w.heap.size + 1; omega
    obtain ⟨o0,o1,o2⟩:=o;have y0:=HRr.out.free 0; have y1:=HRr.out.free 1; have y2:=HRr.out.free 2;obtain ⟨f0,f1,f2⟩:=rq_cells HGr.out;obtain ⟨h0,h1,h2⟩:=rq_cells HRr.out;simp only at f0 f1 f2 h0 h1 h2;have hrl:=HRr.out.lt;have hnone:=none_calls o0 o1 o2 wr.drew;rw [show decide (o0=0∧o1=0∧o2=0)=z from Hz.out] at hnone
    have OC:=qH hnone; clear hnone
    go_wp2_with fail
    go_region_held3 (fun w'=>w'.cell? ⟨g,0,none⟩=some (.int .i64 o0)∧w'.cell? ⟨g,1,none⟩=some (.int .i64 o1)∧w'.cell? ⟨g,2,none⟩=some (.int .i64 o2))
     (first | exact rq_cells HGr.out.drew | exact rq_cells HG5.out | exact rq_cells (((HG5.out.other hgo.out _).other hgo.out _).other hgo.out _))
     (first | (go_at_call 200; refine (OC.out).mono ?_; rintro e w5 ⟨rfl,hb0⟩; have hb:Below wr.heap.size wr w5:=(Below.refl _ _).drew.trans hb0; clear hb0; have HG5:=qH (HGr.out.later hb HGr.out.lt); have HR5:=qH (HRr.out.later hb HRr.out.lt); have Hb5:=qH (held_next Hbo.out hb); have y5:=HR5.out.free 0; have y6:=HR5.out.free 1; have y7:=HR5.out.free 2; obtain ⟨q0,q1,q2⟩:=rq_cells HR5.out; simp only at q0 q1 q2; clear hb))
    all_goals go_wp2_with fail
    all_goals (have hL:=rq_set3 HR5.out o0 o1 o2; obtain ⟨k0,k1,k2⟩:=rq_cells hL; simp only at k0 k1 k2; refine bodyPost_ret (v:=.tuple #[rqV ⟨o0,o1,o2⟩,.bool (!z)]) (by simp [results,Tryz.results165,go_sem,k0,k1,k2]) rfl ⟨rfl,?_⟩; exact ((Hb5.out.setCell (p:=⟨w.heap.size + 1,0,none⟩) (Nat.le_succ _) _).setCell (p:=⟨w.heap.size + 1,1,none⟩) (Nat.le_succ _) _).setCell (p:=⟨w.heap.size + 1,2,none⟩) (Nat.le_succ _) _)
set_option maxRecDepth 100000 in
set_option maxHeartbeats 8000000 in
theorem cHeld_calls (c:Cf) (who:Int) (a:Option Addr) (m cp:Nat) (l:List Nt) (t u:Int) (hm:m=l.length) (hs:m≤1000) (w:World) (hB:Notes w (.slice a m cp) l) :
 Calls Tryz.prog 185 #[cfV c,.int .i64 who,.slice a m cp,stampV t u] w (Says w (heldB c who l t u)):=by
 have Hb0:=qH (below_two w (.cells (cfCells c) 23) (.cells #[.int .i64 t,.int .i64 u] 48));have HT:=qH (Whole.made2 w (.cells (cfCells c) 23) 48 #[.int .i64 t,.int .i64 u]);have HC:=qH (fun w hw=>cOldest_calls c who a m cp l hm hs w hw)
 have HB:=qH hB; clear hB hm;obtain ⟨⟨⟨x0,x1,x2⟩,ok⟩,Ho⟩:∃ z,Hid (oldestN c who l=z):=⟨_,rfl⟩;have hres:=held_all c who l t u;rw [Ho.out] at hres;simp only at hres;obtain ⟨z,Hz⟩:∃ z,Hid (olderB x0 x1 t u=z):=⟨_,rfl⟩;rw [Hz.out] at hres;rw [hres];clear hres;obtain ⟨n,q,r,p,kk,cc⟩:=c
 go_enter Tryz.func185,Tryz.ntmps185
 go_wp2_with fail
 refine (HC.out _ (HB.out.later Hb0.out)).mono ?_;rw [Ho.out];rintro e w1 ⟨rfl,hb⟩;have hbx:=below_box w1 (.cells (rqCells ⟨x0,x1,x2⟩) 59);have HT1:=qH ((HT.out.later hb HT.out.lt).later hbx (HT.out.later hb HT.out.lt).lt);have Hb1:=qH (held_next (held_next Hb0.out hb) hbx);have hl1:=(HT.out.later hb HT.out.lt).lt;have e0:=(HT.out.later hb HT.out.lt).cell 0;have e1:=(HT.out.later hb HT.out.lt).cell 1
 simp at e0 e1
 clear hb hbx
 cases ok with
 | false =>
   go_wp2_with fail
   go_ret
   exact ⟨by rfl,Hb1.out⟩
 | true =>
 go_wp2_with fail
 refine (older_calls x0 x1 t u _).mono ?_;rw [Hz.out];rintro e w2 ⟨rfl,hb⟩;have Hb2:=qH (held_next Hb1.out hb);clear hb
 go_wp2_with fail
 go_ret
 exact ⟨by rfl,Hb2.out⟩
set_option maxRecDepth 100000 in
set_option maxHeartbeats 8000000 in
theorem cCalls_calls (c:Cf) (who:Int) (a:Option Addr) (m cp:Nat) (l:List Nt) (h:Rq) (hm:m=l.length) (hs:m≤1000) (w:World) (hB:Notes w (.slice a m cp) l) :
 Calls Tryz.prog 144 #[cfV c,.int .i64 who,.slice a m cp,rqV h] w (TellsI w (callsN c who l h)):=by
 have Hb0:=qH (below_two w (.cells (cfCells c) 23) (.cells (rqCells h) 59));have HH:=qH (Whole.made2 w (.cells (cfCells c) 23) 59 (rqCells h));have HC:=qH (fun w hw=>cOldest_calls c who a m cp l hm hs w hw)
 have HB:=qH hB; clear hB hm;obtain ⟨⟨⟨x0,x1,x2⟩,ok⟩,Ho⟩:∃ z,Hid (oldestN c who l=z):=⟨_,rfl⟩;obtain ⟨res,Hres⟩:∃ z,Hid (callsN c who l h=z):=⟨_,rfl⟩;have hres:=Hres.out
 unfold callsN at hres
 rw [Ho.out] at hres;rw [Hres.out];clear Hres;obtain ⟨t,u,v⟩:=h;obtain ⟨z,Hz⟩:∃ z,Hid (olderB t u x0 x1=z):=⟨_,rfl⟩;simp only [Hz.out] at hres;have Hr:=qH hres; clear hres;obtain ⟨n,q,r,p,kk,cc⟩:=c
 go_enter Tryz.func144,Tryz.ntmps144
 go_wp2_with fail
 refine (HC.out _ (HB.out.later Hb0.out)).mono ?_;rw [Ho.out];rintro e w1 ⟨rfl,hb⟩;have hbx:=below_box w1 (.cells (rqCells ⟨x0,x1,x2⟩) 59);have HX1:=qH (Whole.made w1 59 (rqCells ⟨x0,x1,x2⟩));have Hb1:=qH (held_next (held_next Hb0.out hb) hbx);have hl1:=(HH.out.later hb HH.out.lt).lt;obtain ⟨e0,e1,e2⟩:=rq_cells (HH.out.later hb HH.out.lt);simp only at e0 e1 e2;clear hb hbx
 cases ok with
 | false =>
   obtain rfl:res=(0,false):=Hr.out.symm.trans (if_neg fun h=>by cases h.1)
   go_wp2_with fail
   go_ret2
   exact ⟨by rfl,Hb1.out⟩
 | true =>
 by_cases hv:v=0
 · subst hv
   obtain rfl:res=(x1,true):=Hr.out.symm.trans (if_pos ⟨rfl,fun h=>h.1 rfl⟩)
   go_wp2_with fail
   go_ret2
   exact ⟨by rfl,Hb1.out⟩
 have hv':(v != 0)=true:=bne_iff_ne.2 hv;have Hv:=qH hv; clear hv
 go_wp2_with fail
 refine (older_calls t u x0 x1 _).mono ?_;rw [Hz.out];rintro e w2 ⟨rfl,hb⟩;have Hb2:=qH (held_next Hb1.out hb);have HX2:=qH (HX1.out.later hb HX1.out.lt);obtain ⟨f0,f1,f2⟩:=rq_cells HX2.out;simp only at f0 f1 f2;clear hb
 cases z with
 | true =>
   obtain rfl:res=(0,false):=Hr.out.symm.trans (if_neg fun h=>h.2 ⟨Hv.out,by trivial⟩)
   go_wp2_with fail
   go_ret2
   exact ⟨by rfl,Hb2.out⟩
 | false =>
   obtain rfl:res=(x1,true):=Hr.out.symm.trans (if_pos ⟨by trivial,fun h=>by cases h.2⟩)
   go_wp2_with fail
   go_ret2
   exact ⟨by rfl,Hb2.out⟩
end Go.Proofs.YtecjnkokdnmhlaaGreat
namespace Go.Proofs.YtecjnkokdnmhlaaGreat
open Go.RowKit
def Told2 (w:World) (x:Nat × Nat) (e:Ending) (w':World):Prop:=e=.returned (.tuple #[.int .i64 (x.1:Nat),.int .i64 (x.2:Nat)])∧Below w.heap.size w w'
end Go.Proofs.YtecjnkokdnmhlaaGreat
