/- Parts, as far as NodeAtOnceCards reaches them, of: RightsCfg, ClaimMay, ClaimMath, RefStampMay, RefClaimNote. No law is proved here. -/
import Derived.Test.YtecjnkokdnmhlaaGreatTa6
namespace Go.Proofs.YtecjnkokdnmhlaaGreat
open Go.RowKit
theorem within_int (v lo hi:Int) (w:World):Calls Tryz.prog 178 #[.int .i64 v,.int .i64 lo,.int .i64 hi] w (fun e w'=>e=.returned (.bool (withinB v lo hi))∧w=w'):=by
 by_cases h1:lo≤v
 · by_cases h2:v≤hi
   · rw [withinB_yes ⟨h1,h2⟩]
     go_enter Tryz.func178,Tryz.ntmps178
     go_wp2
     go_ret
     exact ⟨by simp,rfl⟩
   · rw [withinB_no (fun h=>h2 h.2)]
     go_enter Tryz.func178,Tryz.ntmps178
     go_wp2
     go_ret
     exact ⟨by simp,rfl⟩
 · rw [withinB_no (fun h=>h1 h.1)]
   go_enter Tryz.func178,Tryz.ntmps178
   go_wp2
   go_ret
   exact ⟨by simp,rfl⟩
theorem within_int64 (v lo hi:Int) (w:World):Calls Tryz.prog 82 #[.int .i64 v,.int .i64 lo,.int .i64 hi] w (fun e w'=>e=.returned (.bool (withinB v lo hi))∧w=w'):=by
 by_cases h1:lo≤v
 · by_cases h2:v≤hi
   · rw [withinB_yes ⟨h1,h2⟩]
     go_enter Tryz.func82,Tryz.ntmps82
     go_wp2
     go_ret
     exact ⟨by simp,rfl⟩
   · rw [withinB_no (fun h=>h2 h.2)]
     go_enter Tryz.func82,Tryz.ntmps82
     go_wp2
     go_ret
     exact ⟨by simp,rfl⟩
 · rw [withinB_no (fun h=>h1 h.1)]
   go_enter Tryz.func82,Tryz.ntmps82
   go_wp2
   go_ret
   exact ⟨by simp,rfl⟩
set_option maxRecDepth 100000 in
set_option maxHeartbeats 4000000 in
theorem rMay_calls (c:Cf) (w:World):Calls Tryz.prog 134 #[cfV c] w (Says w (cfB c)):=by
 obtain ⟨n,q,r,p,k,c⟩:=c;obtain ⟨b,Hbb⟩:∃ b,Hid (cfB ⟨n,q,r,p,k,c⟩=b):=⟨_,rfl⟩;rw [Hbb.out]
 go_enter Tryz.func134,Tryz.ntmps134
 go_wp2_with fail
 refine (within_int n 1 16 _).mono ?_;rintro e w' ⟨rfl,rfl⟩
 by_cases h0:1≤n∧n≤16
 rotate_left 1
 · rw [withinB_no h0]
   obtain rfl:b=false:=Hbb.out.symm.trans (cfB_no fun h=>by
    unfold cfOk at h
    simp only at h
    omega)
   go_wp2_with fail
   go_ret
   exact ⟨by simp,below_box _ _⟩
 rw [withinB_yes h0]
 go_wp2_with fail
 refine (within_int q 1 8 _).mono ?_;rintro e w' ⟨rfl,rfl⟩
 by_cases h1:1≤q∧q≤8
 rotate_left 1
 · rw [withinB_no h1]
   obtain rfl:b=false:=Hbb.out.symm.trans (cfB_no fun h=>by
    unfold cfOk at h
    simp only at h
    omega)
   go_wp2_with fail
   go_ret
   exact ⟨by simp,below_box _ _⟩
 rw [withinB_yes h1]
 go_wp2_with fail
 refine (within_int r 0 8 _).mono ?_;rintro e w' ⟨rfl,rfl⟩
 by_cases h2:0≤r∧r≤8
 rotate_left 1
 · rw [withinB_no h2]
   obtain rfl:b=false:=Hbb.out.symm.trans (cfB_no fun h=>by
    unfold cfOk at h
    simp only at h
    omega)
   go_wp2_with fail
   go_ret
   exact ⟨by simp,below_box _ _⟩
 rw [withinB_yes h2]
 go_wp2_with fail
 refine (within_int p 1 16 _).mono ?_;rintro e w' ⟨rfl,rfl⟩
 by_cases h3:1≤p∧p≤16
 rotate_left 1
 · rw [withinB_no h3]
   obtain rfl:b=false:=Hbb.out.symm.trans (cfB_no fun h=>by
    unfold cfOk at h
    simp only at h
    omega)
   go_wp2_with fail
   go_ret
   exact ⟨by simp,below_box _ _⟩
 rw [withinB_yes h3]
 go_wp2_with fail
 refine (within_int64 k 0 1099511627776 _).mono ?_;rintro e w' ⟨rfl,rfl⟩
 by_cases h4:0≤k∧k≤1099511627776
 rotate_left 1
 · rw [withinB_no h4]
   obtain rfl:b=false:=Hbb.out.symm.trans (cfB_no fun h=>by
    unfold cfOk at h
    simp only at h;have h12:=Int.mul_nonneg (show 0≤n by omega) (show 0≤c by omega)
    have h13:=Int.mul_le_mul_of_nonneg_right (show 1≤n by omega) (show 0≤c by omega)
    omega)
   go_wp2_with fail
   go_ret
   exact ⟨by simp,below_box _ _⟩
 rw [withinB_yes h4]
 go_wp2_with fail
 refine (within_int64 c 0 1099511627776 _).mono ?_;rintro e w' ⟨rfl,rfl⟩
 by_cases h5:0≤c∧c≤1099511627776
 rotate_left 1
 · rw [withinB_no h5]
   obtain rfl:b=false:=Hbb.out.symm.trans (cfB_no fun h=>by
    unfold cfOk at h
    simp only at h;have h12:=Int.mul_nonneg (show 0≤n by omega) (show 0≤c by omega)
    have h13:=Int.mul_le_mul_of_nonneg_right (show 1≤n by omega) (show 0≤c by omega)
    omega)
   go_wp2_with fail
   go_ret
   exact ⟨by simp,below_box _ _⟩
 rw [withinB_yes h5];have h12:=Int.mul_nonneg (show 0≤n by omega) (show 0≤c by omega)
 have h13:=Int.mul_le_mul_of_nonneg_right (show n≤16 by omega) (show 0≤c by omega)
 have e1:IntKind.i64.wrap (n * c)=n * c:=IntWalk.i64_in _ (by omega)
 have e2:IntKind.i64.wrap (k + n * c)=k + n * c:=IntWalk.i64_in _ (by omega)
 by_cases hk:k + n * c≤1099511627776
 · obtain rfl:b=true:=Hbb.out.symm.trans (cfB_yes ⟨by show 1≤n; omega,by show n≤16; omega,by show 1≤q; omega,by show q≤8; omega,by show 0≤r; omega,by show r≤8; omega,by show 1≤p; omega,by show p≤16; omega,by show 0≤k; omega,by show 0≤c; omega,hk⟩)
   clear h12 h13
   go_wp2_with fail
   go_ret
   exact ⟨by simp,below_box _ _⟩
 · obtain rfl:b=false:=Hbb.out.symm.trans (cfB_no fun h=>hk h.2.2.2.2.2.2.2.2.2.2)
   clear h12 h13
   go_wp2_with fail
   go_ret
   exact ⟨by simp; omega,below_box _ _⟩
end Go.Proofs.YtecjnkokdnmhlaaGreat
namespace Go.Proofs.YtecjnkokdnmhlaaGreat
open Go.RowKit
theorem nt_small {l:List Nt} {m:Nat} (hm:m=l.length) {who:Int} (h1:0≤who) (h2:who < (m:Int)):who.toNat < l.length:=by omega
set_option maxRecDepth 100000 in
set_option maxHeartbeats 8000000 in
theorem cMay_wide (c:Cf) (who:Int) (a:Option Addr) (m cp:Nat) (l:List Nt) (hm:m=l.length) (hs:m≤9223372036854775807) (w:World) (hB:Notes w (.slice a m cp) l) :
 Calls Tryz.prog 95 #[cfV c,.int .i64 who,.slice a m cp] w (Says w (notesB c who l)):=by
 have HW:=qH (Whole.made w 23 (cfCells c));have Hb0:=qH (below_box w (.cells (cfCells c) 23));have HB:=qH hB; clear hB;have Hm:=qH hm; clear hm;obtain ⟨n,q,r,p,kk,cc⟩:=c;obtain ⟨res,Hres⟩:∃ z,Hid (notesB ⟨n,q,r,p,kk,cc⟩ who l=z):=⟨_,rfl⟩;have no:¬ notesOk ⟨n,q,r,p,kk,cc⟩ who l→res=false:=fun h=>Hres.out.symm.trans (notesB_no h)
 have No:=qH no; clear no;rw [Hres.out];obtain ⟨ok,Hok⟩:∃ z,Hid (cfB ⟨n,q,r,p,kk,cc⟩=z):=⟨_,rfl⟩;obtain ⟨amo,Hamo⟩:∃ z,Hid (decide (0≤who∧who < n)=z):=⟨_,rfl⟩
 go_enter Tryz.func95,Tryz.ntmps95
 go_wp2_with fail
 refine (rMay_calls ⟨n,q,r,p,kk,cc⟩ _).mono ?_;rintro e w1 ⟨rfl,hb⟩;rw [Hok.out];have Hb1:=qH (held_next Hb0.out hb);have HW1:=qH (HW.out.later hb HW.out.lt);clear hb HW Hb0;obtain ⟨d0,d1,d2,d3,d4,d5⟩:=config_cells HW1.out;simp only at d0 d1 d2 d3 d4 d5
 cases ok with
 | false =>
   obtain rfl:res=false:=No.out fun h=>by
    have:=cfB_yes h.1;rw [Hok.out] at this
    cases this
   go_wp2_with fail
   go_ret
   exact ⟨by rfl,Hb1.out⟩
 | true =>
 go_wp2_with fail
 refine (amongc_calls ⟨n,q,r,p,kk,cc⟩ who _).mono ?_;rintro e w2 ⟨rfl,hb⟩;rw [show decide (0≤who∧who < (Cf.mk n q r p kk cc).n)=amo from Hamo.out]
 have Hb2:=qH (held_next Hb1.out hb);have HW2:=qH (HW1.out.later hb HW1.out.lt);clear hb HW1 Hb1 d0 d1 d2 d3 d4 d5;obtain ⟨d0,d1,d2,d3,d4,d5⟩:=config_cells HW2.out;simp only at d0 d1 d2 d3 d4 d5
 cases amo with
 | false =>
   obtain rfl:res=false:=No.out fun h=>(of_decide_eq_false Hamo.out) h.2.1
   go_wp2_with fail
   go_ret
   exact ⟨by rfl,Hb2.out⟩
 | true =>
 have Hwho:=qH (of_decide_eq_true Hamo.out)
 by_cases h3:(m:Int)=n
 rotate_left 1
 · obtain rfl:res=false:=No.out fun h=>h3 (by have:=h.2.2.1; rw [Hm.out]; exact this)
   have h3':((m:Int) != n)=true:=bne_iff_ne.2 h3;clear h3
   go_wp2_with fail
   go_ret
   exact ⟨by rfl,Hb2.out⟩
 have hok:=cfB_ok Hok.out;have hn16:n≤16:=hok.2.1;subst h3;have hw1:0≤who:=Hwho.out.1;have hw2:who < (m:Int):=Hwho.out.2;obtain ⟨b,off,rfl,hN⟩:=HB.out.at (i:=who.toNat) (nt_small Hm.out hw1 hw2);obtain ⟨y,Hy⟩:∃ z,Hid (ntAt l who.toNat=z):=⟨_,rfl⟩;rw [Hy.out] at hN;have HN:=qH (NtIn.later hN Hb2.out); clear hN hok;obtain ⟨z,Hz⟩:∃ z,Hid ((!decide (y=nt0))=z):=⟨_,rfl⟩;obtain ⟨y0,y1,y2,y3,y4,y5,y6⟩:=y
 obtain ⟨e0,e1,e2,e3,e4,e5,e6⟩:=HN.out;simp only at e0 e1 e2 e3 e4 e5 e6;have heq:∀ w:World,(binOp .neq 113 (.agg #[.int .i64 y0,.int .i64 y1,.int .i64 y2,.int .i64 y3,.int .i64 y4,.int .i64 y5,.int .i64 y6]) (.agg #[.int .i64 0,.int .i64 0,.int .i64 0,.int .i64 0,.int .i64 0,.int .i64 0,.int .i64 0])).run Tryz.prog w=.ok (.bool z) w:=fun w=>(run_neq_nt w ⟨y0,y1,y2,y3,y4,y5,y6⟩ nt0).trans (by rw [← Hz.out])
 cases z with
 | true =>
   obtain rfl:res=false:=No.out fun h=>by
    have h9:=(h.2.2.2 who.toNat (nt_small Hm.out hw1 hw2)).2 (Int.toNat_of_nonneg hw1);rw [Hy.out] at h9;have:=Hz.out;rw [h9] at this
    simp at this
   go_wp2_with fail
   go_ret
   exact ⟨by rfl,Hb2.out⟩
 | false =>
 have Hown:Hid (∀ i:Nat,(i:Int)=who→ntAt l i=nt0):=fun i hi=>by
  have e:who.toNat=i:=by omega
  have h9:=Hy.out;rw [e] at h9;rw [h9]
  simpa using Hz.out
 go_wp2_with fail
 clear d0 d1 d2 d3 d4 d5 e0 e1 e2 e3 e4 e5 e6 heq HN
 go_loopw [35] (fun s7 wr=>∃ k:Nat,k≤m∧s7=.int .i64 k∧Hid (∀ i,i < k→noteB ⟨m,q,r,p,kk,cc⟩ i (ntAt l i)=true)∧Hid (Below w.heap.size w wr)∧Hid (Whole wr w.heap.size 23 (cfCells ⟨m,q,r,p,kk,cc⟩))) (fun s7 _=>m - (intOf s7).toNat)
 case atStart=>exact ⟨0,Nat.zero_le _,rfl,fun z hz=>absurd hz (Nat.not_lt_zero _),Hb2.out,HW2.out⟩
 case round =>
  obtain ⟨k,hk,rfl,Hl,Hb,HWr⟩:=hrel;obtain ⟨d0,d1,d2,d3,d4,d5⟩:=config_cells HWr.out;simp only at d0 d1 d2 d3 d4 d5
  by_cases hlt:k < m
  · obtain ⟨b9,off9,hsame,hN⟩:=HB.out.at (i:=k) (by have:=Hm.out; omega)
    simp only [Option.some.injEq,Addr.mk.injEq] at hsame;obtain ⟨rfl,rfl,_⟩:=hsame;obtain ⟨x,Hx⟩:∃ z,Hid (ntAt l k=z):=⟨_,rfl⟩;rw [Hx.out] at hN;obtain ⟨e0,e1,e2,e3,e4,e5,e6⟩:=NtIn.later hN Hb.out;obtain ⟨v,Hv⟩:∃ z,Hid (noteB ⟨m,q,r,p,kk,cc⟩ k x=z):=⟨_,rfl⟩;clear hN;have hbx:=below_box wr (.cells (ntCells x) 113);have Hbx:=qH (held_next Hb.out hbx);have HWx:=qH (HWr.out.later hbx HWr.out.lt);have hwl:=HWr.out.lt
    clear hbx;obtain ⟨x0,x1,x2,x3,x4,x5,x6⟩:=x;simp only at e0 e1 e2 e3 e4 e5 e6;have k0:(0:Int)≤(k:Int):=by omega
    have k1:(k:Int) < (m:Int):=by omega
    go_wp2_with fail
    refine (fits_calls ⟨m,q,r,p,kk,cc⟩ k ⟨x0,x1,x2,x3,x4,x5,x6⟩ _).mono ?_;rw [Hv.out];rintro e w3 ⟨rfl,hb⟩;have Hb3:=qH (held_next Hbx.out hb);have HW3:=qH (HWx.out.later hb HWx.out.lt);clear hb
    cases v with
    | false =>
      obtain rfl:res=false:=No.out fun h=>by
       have h9:=(h.2.2.2 k (by have:=Hm.out; omega)).1
       rw [Hx.out,Hv.out] at h9
       cases h9
      go_wp2_with fail
      go_ret
      exact ⟨by rfl,Hb3.out⟩
    | true =>
      go_wp2_with fail
      go_roundw
      case rel=>exact ⟨k + 1,by omega,by go_num,(fun z hz=>by
       by_cases e:z=k
       · subst e; rw [Hx.out]; exact Hv.out
       · exact Hl.out z (by omega)),Hb3.out,HW3.out⟩
      case measure=>simp [intOf]; omega
  · obtain rfl:res=true:=Hres.out.symm.trans (decide_eq_true ⟨cfB_ok Hok.out,⟨hw1,hw2⟩,by rw [← Hm.out],fun i hi=>⟨Hl.out i (by have:=Hm.out; omega),Hown.out i⟩⟩)
    go_wp2_with fail
    go_ret
    exact ⟨by rfl,Hb.out⟩
theorem cMay_calls (c:Cf) (who:Int) (a:Option Addr) (m cp:Nat) (l:List Nt) (hm:m=l.length) (hs:m≤1000) (w:World) (hB:Notes w (.slice a m cp) l) :
 Calls Tryz.prog 95 #[cfV c,.int .i64 who,.slice a m cp] w (Says w (notesB c who l)):=cMay_wide c who a m cp l hm (by omega) w hB
end Go.Proofs.YtecjnkokdnmhlaaGreat
namespace Go.Proofs.YtecjnkokdnmhlaaGreat
open Go.RowKit
def ntOld (x y:Nt):Bool:=olderB x.t x.a y.t y.a
theorem ntOld_iff {x y:Nt}:ntOld x y=true ↔ (x.t < y.t∨(x.t=y.t∧x.a < y.a)):=olderB_iff
theorem on_has {c:Cf} {who:Int} {x:Nt} (h:noteB c who x=true) (ho:onB c x=true):x.a=who∧mayB x.t x.a c.n=true:=by
 have h1:0 < x.m:=(of_decide_eq_true ho).2.1
 unfold noteB at h
 simp only [Bool.and_eq_true,Bool.or_eq_true] at h;obtain ⟨_,h2,_⟩:=h
 rcases h2 with h2 | h2
 · have:=(of_decide_eq_true h2).2.2
   omega
 · unfold hasHead at h2
   rw [Bool.and_eq_true] at h2
   exact ⟨(of_decide_eq_true h2.2).1,h2.1⟩
theorem notesOk.own {c:Cf} {who:Int} {l:List Nt} (h:notesOk c who l) {i:Nat} (hi:i < l.length) (ho:onB c (ntAt l i)=true):(ntAt l i).a=(i:Int):=(on_has (h.2.2.2 i hi).1 ho).1
theorem notesOk.other {c:Cf} {who:Int} {l:List Nt} (h:notesOk c who l) {i:Nat} (hi:i < l.length) (ho:onB c (ntAt l i)=true):(i:Int) ≠ who:=fun e=>by
 have h1:=(h.2.2.2 i hi).2 e;rw [h1] at ho;have:(0:Int) < nt0.m:=(of_decide_eq_true ho).2.1
 exact absurd this (by decide)
theorem oldK_is {c:Cf} {who:Int} {l:List Nt} (h:notesOk c who l):∀ k,k≤l.length →
 (oldK c l k=none∧∀ i,i < k→onB c (ntAt l i)=false)∨∃ j,oldK c l k=some j∧j < k∧onB c (ntAt l j)=true∧∀ i,i < k→onB c (ntAt l i)=true→i=j∨ntOld (ntAt l j) (ntAt l i)=true
 | 0,_=>Or.inl ⟨rfl,fun i hi=>absurd hi (Nat.not_lt_zero _)⟩
 | k + 1, hk => by
   have ih:=oldK_is h k (by omega)
   unfold oldK
   cases ho:onB c (ntAt l k) with
   | false =>
     simp only [Bool.false_eq_true,if_false]
     rcases ih with ⟨h1,h2⟩ | ⟨j,h1,h2,h3,h4⟩
     · exact Or.inl ⟨h1,fun i hi=>if e:i=k then by rw [e]; exact ho else h2 i (by omega)⟩
     · refine Or.inr ⟨j,h1,by omega,h3,fun i hi hon=>?_⟩
       by_cases e:i=k
       · subst e; rw [ho] at hon; cases hon
       · exact h4 i (by omega) hon
   | true =>
     simp only [if_true]
     rcases ih with ⟨h1,h2⟩ | ⟨j,h1,h2,h3,h4⟩
     · rw [h1]
       refine Or.inr ⟨k,rfl,by omega,ho,fun i hi hon=>?_⟩
       by_cases e:i=k
       · exact Or.inl e
       · rw [h2 i (by omega)] at hon; cases hon
     · rw [h1]
       have ek:=h.own (by omega:k < l.length) ho
       have ej:=h.own (by omega:j < l.length) h3
       cases hkj:olderB (ntAt l k).t (ntAt l k).a (ntAt l j).t (ntAt l j).a with
       | true =>
         refine Or.inr ⟨k,by simp [hkj],by omega,ho,fun i hi hon=>?_⟩
         by_cases e:i=k
         · exact Or.inl e
         · right
           rcases h4 i (by omega) hon with e2 | h5
           · subst e2; exact hkj
           · rw [ntOld_iff] at h5 ⊢
             rw [olderB_iff] at hkj
             omega
       | false =>
         refine Or.inr ⟨j,by simp [hkj],by omega,h3,fun i hi hon=>?_⟩
         by_cases e:i=k
         · right
           subst e;have h6:¬ ((ntAt l i).t < (ntAt l j).t∨((ntAt l i).t=(ntAt l j).t∧(ntAt l i).a < (ntAt l j).a)):=fun h7=>by rw [olderB_yes h7] at hkj; cases hkj
           rw [ntOld_iff]
           omega
         · exact h4 i (by omega) hon
theorem oldest_is {c:Cf} {who:Int} {l:List Nt} (h:notesOk c who l) :
 (oldestN c who l=(⟨0,0,0⟩,false)∧∀ i,i < l.length→onB c (ntAt l i)=false) ∨
 ∃ j,j < l.length∧oldestN c who l=(headOf (ntAt l j),true)∧onB c (ntAt l j)=true∧∀ i,i < l.length→onB c (ntAt l i)=true→i=j∨ntOld (ntAt l j) (ntAt l i)=true:=by
 unfold oldestN
 rw [if_pos h]
 rcases oldK_is h l.length (Nat.le_refl _) with ⟨h1,h2⟩ | ⟨j,h1,h2,h3,h4⟩
 · rw [h1]; exact Or.inl ⟨rfl,h2⟩
 · rw [h1]; exact Or.inr ⟨j,h2,rfl,h3,h4⟩
theorem held_is {c:Cf} {who:Int} {l:List Nt} (h:notesOk c who l) (t a:Int):heldB c who l t a=((oldestN c who l).2 && olderB (oldestN c who l).1.t (oldestN c who l).1.a t a):=by
 rcases oldest_is h with ⟨h1,h2⟩ | ⟨j,hj,h1,h3,h4⟩
 · rw [h1]
   refine decide_eq_false fun ⟨_,i,hi,ho,_⟩=>?_
   rw [h2 i hi] at ho
   cases ho
 · rw [h1]
   simp only [Bool.true_and]
   cases hh:olderB (headOf (ntAt l j)).t (headOf (ntAt l j)).a t a with
   | true=>exact decide_eq_true ⟨h,j,hj,h3,hh⟩
   | false =>
     refine decide_eq_false fun ⟨_,i,hi,ho,ht⟩=>?_
     rcases h4 i hi ho with e | h5
     · subst e
       have:olderB (ntAt l i).t (ntAt l i).a t a=false:=hh;rw [this] at ht
       cases ht
     · have h6:olderB (ntAt l j).t (ntAt l j).a t a=true:=by
        rw [ntOld_iff] at h5;rw [olderB_iff] at ht ⊢
        omega
       have:olderB (ntAt l j).t (ntAt l j).a t a=false:=hh;rw [this] at h6
       cases h6
theorem held_none {c:Cf} {who:Int} {l:List Nt} (h:notesOk c who l) (t a:Int) (ho:(oldestN c who l).2=false):heldB c who l t a=false:=by
 rw [held_is h,ho]; rfl
theorem calls_none {c:Cf} {who:Int} {l:List Nt} (hr:(oldestN c who l).2=false) (x:Rq):callsN c who l x=(0,false):=by
 unfold callsN
 rw [hr]
 exact if_neg (fun h=>by cases h.1)
def TellsQ (w:World) (x:Rq × Bool) (e:Ending) (w':World):Prop:=e=.returned (.tuple #[rqV x.1,.bool x.2])∧Below w.heap.size w w'
def TellsI (w:World) (x:Int × Bool) (e:Ending) (w':World):Prop:=e=.returned (.tuple #[.int .i64 x.1,.bool x.2])∧Below w.heap.size w w'
end Go.Proofs.YtecjnkokdnmhlaaGreat
namespace Go.Proofs.YtecjnkokdnmhlaaGreat
open Go.RowKit
set_option maxHeartbeats 400000 in
theorem refstampmay_calls (t a n:Int) (w:World) :
 Calls Tryz.prog 72 #[stampV t a,.int .i64 n] w (Says w (mayB t a n)):=by
 by_cases h:1≤t∧t≤1125899906842624∧0≤a∧a < n
 · rw [mayB_yes h]
   obtain ⟨h1,h2,h3,h4⟩:=h;have h0:0 < t:=by omega
   go_enter Tryz.func72,Tryz.ntmps72
   go_wp2_with fail
   go_ret
   exact ⟨by simp_all,below_box _ _⟩
 · rw [mayB_no h]
   by_cases h1:0 < t
   · by_cases h2:t≤1125899906842624
     · by_cases h3:0≤a
       · have h4:¬ a < n:=by omega
         clear h
         go_enter Tryz.func72,Tryz.ntmps72
         go_wp2_with fail
         go_ret
         exact ⟨by simp_all,below_box _ _⟩
       · clear h
         go_enter Tryz.func72,Tryz.ntmps72
         go_wp2_with fail
         go_ret
         exact ⟨by simp_all,below_box _ _⟩
     · clear h
       go_enter Tryz.func72,Tryz.ntmps72
       go_wp2_with fail
       go_ret
       exact ⟨by simp_all,below_box _ _⟩
   · clear h
     go_enter Tryz.func72,Tryz.ntmps72
     go_wp2_with fail
     go_ret
     exact ⟨by simp_all,below_box _ _⟩
end Go.Proofs.YtecjnkokdnmhlaaGreat
namespace Go.Proofs.YtecjnkokdnmhlaaGreat
open Go.RowKit
set_option maxRecDepth 100000 in
set_option maxHeartbeats 4000000 in
theorem reflook_calls (t p:Int) (w:World):Calls Tryz.prog 63 #[.agg #[.int .i64 t,.int .i64 p]] w (Says w (lookB t p)):=by
 obtain ⟨res,Hres⟩:∃ z,Hid (lookB t p=z):=⟨_,rfl⟩;rw [Hres.out];have yes:lookOk t p→res=true:=fun h=>Hres.out.symm.trans (decide_eq_true h)
 have no:¬ lookOk t p→res=false:=fun h=>Hres.out.symm.trans (decide_eq_false h)
 have Yes:=qH yes; have No:=qH no; clear yes no;have Hb0:=qH (below_box w (.cells #[.int .i64 t,.int .i64 p] 29))
 by_cases h1:t=0
 · subst h1
   by_cases h2:p=0
   · subst h2
     obtain rfl:=Yes.out (Or.inl ⟨rfl,rfl⟩)
     go_enter Tryz.func63,Tryz.ntmps63
     go_wp2_with fail
     go_ret
     exact ⟨by rfl,Hb0.out⟩
   · obtain rfl:=No.out (fun h=>by rcases h with h | h <;> omega)
     have h2':(p == 0)=false:=beq_eq_false_iff_ne.2 h2;clear h2
     go_enter Tryz.func63,Tryz.ntmps63
     go_wp2_with fail
     go_ret
     exact ⟨by rfl,Hb0.out⟩
 · have h1':(t == 0)=false:=beq_eq_false_iff_ne.2 h1
   have H1:=qH h1; clear h1
   by_cases h3:0 < t
   · by_cases h4:t≤1125899906842624
     · by_cases h5:0 < p
       · by_cases h6:p < 3
         · obtain rfl:=Yes.out (Or.inr ⟨h3,h4,h5,h6⟩)
           go_enter Tryz.func63,Tryz.ntmps63
           go_wp2_with fail
           go_ret
           exact ⟨by simp,Hb0.out⟩
         · obtain rfl:=No.out (fun h=>by rcases h with h | h <;> omega)
           go_enter Tryz.func63,Tryz.ntmps63
           go_wp2_with fail
           go_ret
           exact ⟨by simp,Hb0.out⟩
       · obtain rfl:=No.out (fun h=>by have:=H1.out; rcases h with h | h <;> omega)
         go_enter Tryz.func63,Tryz.ntmps63
         go_wp2_with fail
         go_ret
         exact ⟨by simp,Hb0.out⟩
     · obtain rfl:=No.out (fun h=>by have:=H1.out; rcases h with h | h <;> omega)
       go_enter Tryz.func63,Tryz.ntmps63
       go_wp2_with fail
       go_ret
       exact ⟨by simp,Hb0.out⟩
   · obtain rfl:=No.out (fun h=>by have:=H1.out; rcases h with h | h <;> omega)
     go_enter Tryz.func63,Tryz.ntmps63
     go_wp2_with fail
     go_ret
     exact ⟨by simp,Hb0.out⟩
def KeptN (w:World) (g:Nat) (c:Cf) (x:Nt) (wx:World):Prop:=Below w.heap.size w wx∧Whole wx g 23 (cfCells c)∧Whole wx (g + 1) 113 (ntCells x)
theorem KeptN.later {w:World} {g:Nat} {c:Cf} {x:Nt} {wx wy:World} (h:KeptN w g c x wx) (hb:Below wx.heap.size wx wy):KeptN w g c x wy:=⟨held_next h.1 hb,h.2.1.later hb h.2.1.lt,h.2.2.later hb h.2.2.lt⟩
set_option maxRecDepth 100000 in
set_option maxHeartbeats 8000000 in
theorem refnote_calls (c:Cf) (who:Int) (x:Nt) (w:World):Calls Tryz.prog 64 #[cfV c,.int .i64 who,ntV x] w (Says w (noteB c who x)):=by
 have HW:=qH ((Whole.made w 23 (cfCells c)).alloc (.cells (ntCells x) 113));have HX:=qH (Whole.made2 w (.cells (cfCells c) 23) 113 (ntCells x));have Hb0:=qH (below_two w (.cells (cfCells c) 23) (.cells (ntCells x) 113));obtain ⟨n,q,r,p,kk,cc⟩:=c;obtain ⟨clk,t,a,m,asks,try_,ph⟩:=x;obtain ⟨z0,Hz0⟩:∃ z,Hid (noHead ⟨clk,t,a,m,asks,try_,ph⟩=z):=⟨_,rfl⟩;obtain ⟨z1,Hz1⟩:∃ z,Hid (hasHead ⟨n,q,r,p,kk,cc⟩ who ⟨clk,t,a,m,asks,try_,ph⟩=z):=⟨_,rfl⟩
 obtain ⟨z2,Hz2⟩:∃ z,Hid (lookB try_ ph=z):=⟨_,rfl⟩;obtain ⟨res,Hres⟩:∃ z,Hid (noteB ⟨n,q,r,p,kk,cc⟩ who ⟨clk,t,a,m,asks,try_,ph⟩=z):=⟨_,rfl⟩
 have hres:res=(decide (0≤clk∧clk≤1125899906842624) && ((z0 || z1) && (decide (0≤asks∧asks≤r) && z2))):=by
  rw [← Hres.out,← Hz0.out,← Hz1.out,← Hz2.out]; rfl
 rw [Hres.out];have HR:=qH hres; clear hres;have HK:Hid (KeptN w w.heap.size ⟨n,q,r,p,kk,cc⟩ ⟨clk,t,a,m,asks,try_,ph⟩ ((w.alloc (.cells (cfCells ⟨n,q,r,p,kk,cc⟩) 23)).alloc (.cells (ntCells ⟨clk,t,a,m,asks,try_,ph⟩) 113))):=⟨Hb0.out,HW.out,HX.out⟩;clear HW HX Hb0
 go_enter Tryz.func64,Tryz.ntmps64
 go_upto_region 1 with fail
 have hz0:z0=decide (t=0∧a=0∧m=0):=Hz0.out.symm
 go_cut [7] from 9 to 26 (fun s7 wx=>s7=.bool z0∧Hid (KeptN w w.heap.size ⟨n,q,r,p,kk,cc⟩ ⟨clk,t,a,m,asks,try_,ph⟩ wx))
 case first =>
  obtain ⟨e0,e1,e2,e3,e4,e5,e6⟩:=nt_cells HK.out.2.2;simp only at e0 e1 e2 e3 e4 e5 e6
  by_cases h1:t=0
  · by_cases h2:a=0
    · by_cases h3:m=0
      · rw [decide_eq_true ⟨h1,h2,h3⟩] at hz0
        subst hz0 h1 h2 h3
        go_wp2_with fail
        go_meet
        exact ⟨by rfl,HK.out⟩
      · rw [decide_eq_false (fun h=>h3 h.2.2)] at hz0
        subst hz0 h1 h2;have h3':(m == 0)=false:=beq_eq_false_iff_ne.2 h3;clear h3
        go_wp2_with fail
        go_meet
        exact ⟨by rfl,HK.out⟩
    · rw [decide_eq_false (fun h=>h2 h.2.1)] at hz0
      subst hz0 h1;have h2':(a == 0)=false:=beq_eq_false_iff_ne.2 h2;clear h2
      go_wp2_with fail
      go_meet
      exact ⟨by rfl,HK.out⟩
  · rw [decide_eq_false (fun h=>h1 h.1)] at hz0
    subst hz0;have h1':(t == 0)=false:=beq_eq_false_iff_ne.2 h1;clear h1
    go_wp2_with fail
    go_meet
    exact ⟨by rfl,HK.out⟩
 case rest =>
 obtain ⟨rfl,HK⟩:=hcut;clear hz0;obtain ⟨mv,Hmv⟩:∃ z,Hid (mayB t a n=z):=⟨_,rfl⟩;have hz1:z1=(mv && decide (a=who∧0 < m∧m≤1099511627776)):=by rw [← Hz1.out,← Hmv.out]; rfl
 have Hz1':=qH hz1; clear hz1
 go_upto_region 2 with fail
 go_cut [8] from 27 to 52 (fun s8 wx=>s8=.bool z1∧Hid (KeptN w w.heap.size ⟨n,q,r,p,kk,cc⟩ ⟨clk,t,a,m,asks,try_,ph⟩ wx))
 case first =>
  obtain ⟨e0,e1,e2,e3,e4,e5,e6⟩:=nt_cells HK.out.2.2;obtain ⟨d0,d1,d2,d3,d4,d5⟩:=config_cells HK.out.2.1;simp only at e0 e1 e2 e3 e4 e5 e6 d0 d1 d2 d3 d4 d5
  go_wp2_with fail
  refine (refstampmay_calls t a n _).mono ?_;rintro e w1 ⟨rfl,hb⟩;rw [Hmv.out];have HK1:=qH (HK.out.later hb);clear hb e0 e1 e2 e3 e4 e5 e6 d0 d1 d2 d3 d4 d5;obtain ⟨e0,e1,e2,e3,e4,e5,e6⟩:=nt_cells HK1.out.2.2;simp only at e0 e1 e2 e3 e4 e5 e6;have hz1:=Hz1'.out
  cases mv with
  | false =>
    obtain rfl:z1=false:=hz1
    go_wp2_with fail
    go_meet
    exact ⟨by rfl,HK1.out⟩
  | true =>
    rw [Bool.true_and] at hz1
    by_cases h1:a=who
    · by_cases h2:0 < m
      · by_cases h3:m≤1099511627776
        · rw [decide_eq_true ⟨h1,h2,h3⟩] at hz1
          subst hz1 h1
          go_wp2_with fail
          go_meet
          exact ⟨by simp,HK1.out⟩
        · rw [decide_eq_false (fun h=>h3 h.2.2)] at hz1
          subst hz1 h1
          go_wp2_with fail
          go_meet
          exact ⟨by simp; omega,HK1.out⟩
      · rw [decide_eq_false (fun h=>h2 h.2.1)] at hz1
        subst hz1 h1
        go_wp2_with fail
        go_meet
        exact ⟨by simp,HK1.out⟩
    · rw [decide_eq_false (fun h=>h1 h.1)] at hz1
      subst hz1;have h1':(a == who)=false:=beq_eq_false_iff_ne.2 h1;clear h1
      go_wp2_with fail
      go_meet
      exact ⟨by rfl,HK1.out⟩
 case rest =>
 obtain ⟨rfl,HK⟩:=hcut;obtain ⟨e0,e1,e2,e3,e4,e5,e6⟩:=nt_cells HK.out.2.2;obtain ⟨d0,d1,d2,d3,d4,d5⟩:=config_cells HK.out.2.1;simp only at e0 e1 e2 e3 e4 e5 e6 d0 d1 d2 d3 d4 d5
 by_cases h1:0≤clk
 · by_cases h2:clk≤1125899906842624
   · cases z0 with
     | true =>
       by_cases h3:0≤asks
       · by_cases h4:asks≤r
         · have hr2:res=z2:=by rw [HR.out,decide_eq_true ⟨h1,h2⟩,decide_eq_true ⟨h3,h4⟩]; rfl
           have Hr2:=qH hr2; clear hr2
           go_wp2_with fail
           refine (reflook_calls try_ ph _).mono ?_;rintro e w1 ⟨rfl,hb⟩;rw [Hz2.out];have HK1:=qH (HK.out.later hb);clear hb;obtain rfl:=Hr2.out
           go_wp2_with fail
           go_ret
           exact ⟨by simp,HK1.out.1⟩
         · obtain rfl:res=false:=by rw [HR.out]; rw [decide_eq_false (p:=0≤asks∧asks≤r) (fun h=>h4 h.2)]; simp
           go_wp2_with fail
           go_ret
           exact ⟨by first | (simp; done) | (simp; omega),HK.out.1⟩
       · obtain rfl:res=false:=by rw [HR.out]; rw [decide_eq_false (p:=0≤asks∧asks≤r) (fun h=>h3 h.1)]; simp
         go_wp2_with fail
         go_ret
         exact ⟨by first | (simp; done) | (simp; omega),HK.out.1⟩
     | false =>
       cases z1 with
       | true =>
         by_cases h3:0≤asks
         · by_cases h4:asks≤r
           · have hr2:res=z2:=by rw [HR.out,decide_eq_true ⟨h1,h2⟩,decide_eq_true ⟨h3,h4⟩]; rfl
             have Hr2:=qH hr2; clear hr2
             go_wp2_with fail
             refine (reflook_calls try_ ph _).mono ?_;rintro e w1 ⟨rfl,hb⟩;rw [Hz2.out];have HK1:=qH (HK.out.later hb);clear hb;obtain rfl:=Hr2.out
             go_wp2_with fail
             go_ret
             exact ⟨by simp,HK1.out.1⟩
           · obtain rfl:res=false:=by rw [HR.out]; rw [decide_eq_false (p:=0≤asks∧asks≤r) (fun h=>h4 h.2)]; simp
             go_wp2_with fail
             go_ret
             exact ⟨by first | (simp; done) | (simp; omega),HK.out.1⟩
         · obtain rfl:res=false:=by rw [HR.out]; rw [decide_eq_false (p:=0≤asks∧asks≤r) (fun h=>h3 h.1)]; simp
           go_wp2_with fail
           go_ret
           exact ⟨by first | (simp; done) | (simp; omega),HK.out.1⟩
       | false =>
         obtain rfl:res=false:=by rw [HR.out]; simp
         go_wp2_with fail
         go_ret
         exact ⟨by first | (simp; done) | (simp; omega),HK.out.1⟩
   · obtain rfl:res=false:=by rw [HR.out]; rw [decide_eq_false (p:=0≤clk∧clk≤1125899906842624) (fun h=>h2 h.2)]; rfl
     go_wp2_with fail
     go_ret
     exact ⟨by first | (simp; done) | (simp; omega),HK.out.1⟩
 · obtain rfl:res=false:=by rw [HR.out]; rw [decide_eq_false (p:=0≤clk∧clk≤1125899906842624) (fun h=>h1 h.1)]; rfl
   go_wp2_with fail
   go_ret
   exact ⟨by first | (simp; done) | (simp; omega),HK.out.1⟩
end Go.Proofs.YtecjnkokdnmhlaaGreat
