/- Parts, as far as NodeAtOnceCards reaches them, of: RightsCopied, Goto, RightsMove, NodeRead, LineFar, LineFault. No law is proved here. -/
import Derived.Test.YtecjnkokdnmhlaaGreatTa11
import Derived.ScopeJumps
import Derived.WalkMore
import Derived.Lib.MinMax
import Derived.Test.YtecjnkokdnmhlaaGreatTa9
namespace Go.Proofs.YtecjnkokdnmhlaaGreat
open Go.RowKit
attribute [local go_sem ↓] run_fine
def Cloned (w:World) (n:Nat) (la:List Int) (e:Ending) (w':World):Prop:=∃ A C,e=.returned (.slice A n C)∧w'.ownsRow w.heap.size 2 1 (.slice A n C) n (la.map (Value.int .i64))∧Below w.heap.size w w'
set_option maxRecDepth 100000 in
set_option maxHeartbeats 4000000 in
theorem clone_calls (A:Option Addr) (n C:Nat) (la:List Int) (hn:n=la.length) (hpos:0 < n) (hle:n≤1000) (w:World) (hN:Nums w (.slice A n C) la):Calls Tryz.prog 109 #[.slice A n C] w (Cloned w n la):=by
 obtain ⟨b,off,rfl,hbl,_⟩:=hN.at (i:=0) (by omega)
 obtain ⟨i0,hi,hz0,hz1,hz2⟩:=info_parts info_int64;have hb1:Below w.heap.size w (w.alloc (.cells #[] 2)):=below_box w _
 obtain ⟨v1,w1,hrun1,q1,q2,q3⟩:=run_append_elems (P:=Tryz.prog) (w:=w.alloc (.cells #[] 2)) 31 31 w.heap.size 2 i0 _ 1 8 Tryz.underlying31 hi hz0 hz1 hz2 rfl (by decide)
  (.slice (some ⟨w.heap.size,0,none⟩) 0 0) 0 (fun _ _=>.bool false) (own_whole (cs:=#[]) (Whole.madeAt _ _ _ _ rfl) (Nat.le_refl _) rfl (by decide)) (some ⟨b,off,none⟩) la.length C (fun q _=>.int .i64 (la[q]?.getD 0)) (by have h:=hN.later hb1; unfold Nums at h; rw [← hn] at h ⊢; exact h)
  (fun _ _ _ _=>rfl) (by unfold maxLen; omega) (by omega) hb1.size
 simp only [Nat.zero_add,Nat.not_lt_zero,if_false,Nat.sub_zero] at q1;rw [← flat_one] at q1;obtain ⟨A1,C1,rfl,_⟩:=nums_of_own q1 rfl (by omega)
 rw [← hn] at hrun1 q1;have hf1:Fine Tryz.prog (w.alloc (.cells #[] 2)) #[31,31] 31 #[.slice (some ⟨w.heap.size,0,none⟩) 0 0,.slice (some ⟨b,off,none⟩) n C]:=⟨_,_,hrun1⟩;have hv1:appV Tryz.prog (w.alloc (.cells #[] 2)) #[31,31] 31 #[.slice (some ⟨w.heap.size,0,none⟩) 0 0,.slice (some ⟨b,off,none⟩) n C]=.slice A1 n C1:=by unfold appV; rw [hrun1]; rfl
 have hw1:appW Tryz.prog (w.alloc (.cells #[] 2)) #[31,31] 31 #[.slice (some ⟨w.heap.size,0,none⟩) 0 0,.slice (some ⟨b,off,none⟩) n C]=w1:=by unfold appW; rw [hrun1]; rfl
 have Q1:=qH q1;have Hb:=qH (hb1.trans q2);clear hrun1 q1 q2 q3 hb1 hN hi hz0 hz1 hz2 hn
 go_enter Tryz.func109,Tryz.ntmps109
 have heq:∀ w:World,(binOp .eql 31 (.slice (some ⟨b,off,none⟩) n C) (.slice none 0 0)).run Tryz.prog w=.ok (.bool false) w:=by
  intro w;simp only [binOp]
  simp [run_equal_slice_nil w 31 2 (some ⟨b,off,none⟩) n C Tryz.underlying31]
 go_wp2
 go_ret
 exact ⟨A1,C1,by rfl,Q1.out,Hb.out⟩
set_option maxRecDepth 100000 in
set_option maxHeartbeats 8000000 in
theorem copied_calls (a:Option Addr) (m d:Nat) (l:List Rw) (hm:m=l.length) (h4:m≤1000) (hlen:∀ k,k < l.length→0 < (at_ l k).out.length∧(at_ l k).out.length≤1000) (w:World) (hA:Books w (.slice a m d) l) :
 Calls Tryz.prog 83 #[.slice a m d] w (Copied w l):=by
 have HA:=qH hA; clear hA;have Hm:=qH hm; clear hm;have HL:=qH hlen; clear hlen;have hbm:m≤9223372036854775807:=by omega
 have hmk1:∀ w:World,(Instr.makeSlice 24 (.int .i64 (m:Int)) (.int .i64 (m:Int))).run Tryz.prog w=.ok (.slice (some ⟨w.heap.size,0,none⟩) m m) (w.alloc (.cells (madeCells #[.int .i64 0,.int .i64 0,.slice none 0 0] (m * 3)) 77)):=by
  intro w;obtain ⟨i0,hi,hz0,hz1,hz2⟩:=info_parts info_row;have:=run_make (P:=Tryz.prog) w 24 77 i0 (.agg #[.int .i64 0,.int .i64 0,.slice none 0 0]) Tryz.underlying24 hi hz0 .i64 .i64 (m:Int) (m:Int) (by omega) (by omega) (by rw [hz2]; omega) (by omega)
  simpa [hz1,show (Value.agg #[.int .i64 0,.int .i64 0,.slice none 0 0]).cells=#[.int .i64 0,.int .i64 0,.slice none 0 0] from rfl] using this
 have HO1:Hid (OwnBooks (w.alloc (.cells (madeCells #[.int .i64 0,.int .i64 0,.slice none 0 0] (m * 3)) 77)) w.heap.size (.slice (some ⟨w.heap.size,0,none⟩) m m) (part l 0)):=by
  rw [part_zero,← Hm.out]; exact own_bare w m (by unfold maxLen; omega)
 have Hb1:Hid (Below w.heap.size w (w.alloc (.cells (madeCells #[.int .i64 0,.int .i64 0,.slice none 0 0] (m * 3)) 77))):=below_box _ _
 go_enter Tryz.func83,Tryz.ntmps83
 go_wp2_with fail
 clear hmk1
 go_loopw [11] (fun x wr=>∃ k:Nat,k≤m∧x=.int .i64 k∧Hid (OwnBooks wr w.heap.size (.slice (some ⟨w.heap.size,0,none⟩) m m) (part l k))∧Hid (Below w.heap.size w wr)) (fun x _=>m - (intOf x).toNat)
 case atStart=>exact ⟨0,Nat.zero_le _,rfl,HO1.out,Hb1.out⟩
 case round =>
  clear HO1 Hb1;obtain ⟨k,hk,rfl,HO,Hb⟩:=hrel
  by_cases hlt:k < m
  · have hkl:k < l.length:=by have:=Hm.out; omega
    obtain ⟨b,off,A,C,rfl,hbw,c0,c1,c2,hN⟩:=HA.out.at (k:=k) hkl;have hout:=HL.out k hkl;obtain ⟨r,Hr⟩:∃ z,Hid (at_ l k=z):=⟨_,rfl⟩;obtain ⟨lm,Hlm⟩:∃ z,Hid (z=r.out.length):=⟨_,rfl⟩;rw [Hr.out] at c0 c1 c2 hN hout;rw [← Hlm.out] at c2 hN hout;have HN:=qH (hN.later Hb.out); clear hN;have e0:=cell_later Hb.out c0;have e1:=cell_later Hb.out c1;have e2:=cell_later Hb.out c2;clear c0 c1 c2;have k0:(0:Int)≤(k:Int):=by omega
    have k1:(k:Int) < (m:Int):=by omega
    have hbsz:=Hb.out.size;have hbr:b < wr.heap.size:=by omega
    have HWb:=qH (Whole.made wr 77 #[.int .i64 r.inc,.int .i64 r.use,.slice A lm C])
    have KP:Hid (∀ w',Whole w' wr.heap.size 77 #[.int .i64 r.inc,.int .i64 r.use,.slice A lm C]→w'.cell? ⟨wr.heap.size,0,none⟩=some (.int .i64 r.inc)∧w'.cell? ⟨wr.heap.size,1,none⟩=some (.int .i64 r.use)∧w'.cell? ⟨wr.heap.size,2,none⟩=some (.slice A lm C)) :=
     fun w' h=>row_cells h
    have hbx:=below_box wr (.cells #[.int .i64 r.inc,.int .i64 r.use,.slice A lm C] 77)
    have OC:Hid (Calls Tryz.prog 109 #[.slice A lm C] (wr.alloc (.cells #[.int .i64 r.inc,.int .i64 r.use,.slice A lm C] 77)).drew (Cloned (wr.alloc (.cells #[.int .i64 r.inc,.int .i64 r.use,.slice A lm C] 77)).drew lm r.out)) :=
     clone_calls A lm C r.out Hlm.out hout.1 hout.2 _ (HN.out.later hbx.drew)
    have Hbx:=qH hbx.drew;clear hbx
    go_wp2_with fail
    go_region_held3 (fun w'=>w'.cell? ⟨wr.heap.size,0,none⟩=some (.int .i64 r.inc)∧w'.cell? ⟨wr.heap.size,1,none⟩=some (.int .i64 r.use)∧w'.cell? ⟨wr.heap.size,2,none⟩=some (.slice A lm C))
     (first | exact KP.out _ HWb.out.drew | exact KP.out _ HW2.out | exact KP.out _ (((HW2.out.other hneB _).other hneB _).other hneB _))
     (first | (go_at_call 109; refine (OC.out).mono ?_; rintro e w2 ⟨A3,C3,rfl,hO3,hb⟩; have HW2:=qH (HWb.out.drew.later hb HWb.out.lt); have hb2:=held_next Hbx.out hb; obtain ⟨hB0,hB1,⟨y0,y1,y2⟩,⟨x0,x1,x2,z0,z1,z2⟩,hO4⟩:=part_row (u:=.slice A3 lm C3) HO.out hb2 hbsz hkl Hbx.out.size (by rw [Hr.out,← Hlm.out]; exact hO3) ⟨A3,C3,by rw [Hr.out,← Hlm.out]⟩; rw [Hr.out] at hO4; have HO4:=qH hO4; have Hb2:=qH (Hb.out.trans (hb2.mono hbsz)); have hneB:wr.heap.size ≠ w.heap.size:=(by omega); have hlt2:w.heap.size < w2.heap.size:=(by have:=hb2.size; omega); clear hO3 hb hb2 hO4) | fail)
    all_goals go_wp2_with fail
    all_goals go_roundw
    case rel=>exact ⟨k + 1,by omega,by go_num,HO4.out,((Hb2.out.setCell (p:=⟨w.heap.size,k * 3,none⟩) (Nat.le_refl _) _).setCell (p:=⟨w.heap.size,k * 3 + 1,none⟩) (Nat.le_refl _) _).setCell (p:=⟨w.heap.size,k * 3 + 2,none⟩) (Nat.le_refl _) _⟩
    case measure=>simp [intOf]; omega
  · have hkm:k=m:=by omega
    have hO:=HO.out;rw [hkm,Hm.out,part_all] at hO;obtain ⟨A,C,hv,hBk⟩:=hO.books (by have:=Hm.out; omega) (fun q hq=>by have:=(HL.out q hq).2; omega)
    simp only [Value.slice.injEq] at hv;obtain ⟨rfl,_,rfl⟩:=hv;have HO2:=qH hO;have Hkm:=qH hkm;clear hkm hO hBk
    go_wp2
    go_ret
    exact ⟨_,_,by rw [Hm.out]; rfl,HO2.out,Hb.out⟩
end Go.Proofs.YtecjnkokdnmhlaaGreat
namespace Go.Proofs.YtecjnkokdnmhlaaGreat
open Go.RowKit
theorem jump_ret {l:Nat} {J:Act→World→Prop} {Q:Exit→Act→World→Prop} {a:Act} {w:World}:Exit.jump l J Q .ret a w=Q .ret a w:=rfl
theorem wp_scope_ahead {P:Program} {a:Act} {w:World} {Q:Exit→Act→World→Prop} {c rest:Code} (l:Nat) (hf:findLabel c l=some rest)
 (first:∀ J:Act→World→Prop,Hid (∀ a w,rest.wp P (Exit.jump l (fun _ _=>False) Q) a w→J a w)→c.wp P (Exit.jump l J Q) a w):(Code.scope c).wp P Q a w:=by
 refine wp_scope_jumps l (fun a w=>rest.wp P (Exit.jump l (fun _ _=>False) Q) a w) (fun _ _=>0) hf (first _ (fun _ _ h=>h)) ?_
 intro a w h b k cs;obtain ⟨e,a',w',hq,harr⟩:=h b k cs;refine ⟨e,a',w',?_,harr⟩
 cases e with
 | goto l'=>exact hq.2.elim
 | normal=>exact hq
 | exit id=>exact hq
 | ret=>exact hq
 | panic ch=>exact hq
 | outgrown=>exact hq
end Go.Proofs.YtecjnkokdnmhlaaGreat
namespace Go.Proofs.YtecjnkokdnmhlaaGreat
open Go.RowKit
set_option maxRecDepth 100000 in
set_option maxHeartbeats 8000000 in
theorem rMove_far (c:Cf) (a:Option Addr) (m d:Nat) (l:List Rw) (who tg amount:Int) (hm:m=l.length) (w:World) (hB:Books w (.slice a m d) l) :
 Calls Tryz.prog 166 #[cfV c,.slice a m d,.int .i64 who,.int .i64 tg,.int .i64 amount] w (BooksO w (moveR c l who tg amount)):=by
 have HW:=qH (Whole.made w 23 (cfCells c));have Hb0:=qH (below_box w (.cells (cfCells c) 23));have HB:=qH hB; clear hB;have Hm:=qH hm; clear hm;obtain ⟨n,q,r,p,kk,cc⟩:=c;obtain ⟨res,Hres⟩:∃ z,Hid (moveR ⟨n,q,r,p,kk,cc⟩ l who tg amount=z):=⟨_,rfl⟩;rw [Hres.out];obtain ⟨ok,Hok⟩:∃ z,Hid (rightB ⟨n,q,r,p,kk,cc⟩ l=z):=⟨_,rfl⟩
 go_enter Tryz.func166,Tryz.ntmps166
 go_wp2_with fail
 refine wp_scope_ahead 0 rfl ?_;intro J HJ
 go_wp2_with fail
 refine (rRight_calls ⟨n,q,r,p,kk,cc⟩ a m d l Hm.out _ (HB.out.later Hb0.out)).mono ?_;rintro e w1 ⟨rfl,hb⟩;rw [Hok.out];have Hb1:=qH (held_next Hb0.out hb);have HW1:=qH (HW.out.later hb HW.out.lt);clear hb;obtain ⟨d0,d1,d2,d3,d4,d5⟩:=config_cells HW1.out;simp only at d0 d1 d2 d3 d4 d5
 cases ok with
 | false =>
   obtain rfl:res=([],1):=Hres.out.symm.trans (rMove_one (fun h=>by
    have:=decide_eq_true h.1;rw [show decide (rightOk ⟨n,q,r,p,kk,cc⟩ l)=false from Hok.out] at this
    cases this))
   go_wp2_with fail
   go_step3
   refine And.intro rfl (HJ.out _ _ ?_)
   go_wp2_with fail
   rw [jump_ret]
   go_ret2
   exact ⟨none,0,by rfl,books_nil _ _ _ (fun _=>rfl),Hb1.out,ownBooks_nil _ _⟩
 | true =>
 have hok:=rightB_ok Hok.out;have HR:=qH hok; clear hok
 go_wp2_with fail
 refine (among_calls ⟨n,q,r,p,kk,cc⟩ who _).mono ?_;rintro e w2 ⟨rfl,hb⟩;have Hb2:=qH (held_next Hb1.out hb);have HW2:=qH (HW1.out.later hb HW1.out.lt);clear hb d0 d1 d2 d3 d4 d5;obtain ⟨d0,d1,d2,d3,d4,d5⟩:=config_cells HW2.out;simp only at d0 d1 d2 d3 d4 d5
 by_cases ha2:0≤who∧who < n
 rotate_left 1
 · rw [amongB_no ha2]
   obtain rfl:res=([],1):=Hres.out.symm.trans (rMove_one (fun h=>ha2 h.2.1))
   go_wp2_with fail
   go_step3
   refine And.intro rfl (HJ.out _ _ ?_)
   go_wp2_with fail
   rw [jump_ret]
   go_ret2
   exact ⟨none,0,by rfl,books_nil _ _ _ (fun _=>rfl),Hb2.out,ownBooks_nil _ _⟩
 rw [amongB_yes ha2]
 go_wp2_with fail
 refine (among_calls ⟨n,q,r,p,kk,cc⟩ tg _).mono ?_;rintro e w3 ⟨rfl,hb⟩;have Hb3:=qH (held_next Hb2.out hb);have HW3:=qH (HW2.out.later hb HW2.out.lt);clear hb d0 d1 d2 d3 d4 d5;obtain ⟨d0,d1,d2,d3,d4,d5⟩:=config_cells HW3.out;simp only at d0 d1 d2 d3 d4 d5
 by_cases ha3:0≤tg∧tg < n
 rotate_left 1
 · rw [amongB_no ha3]
   obtain rfl:res=([],1):=Hres.out.symm.trans (rMove_one (fun h=>ha3 h.2.2.1))
   go_wp2_with fail
   go_step3
   refine And.intro rfl (HJ.out _ _ ?_)
   go_wp2_with fail
   rw [jump_ret]
   go_ret2
   exact ⟨none,0,by rfl,books_nil _ _ _ (fun _=>rfl),Hb3.out,ownBooks_nil _ _⟩
 rw [amongB_yes ha3]
 by_cases t2:who=tg
 · have t3:((who:Int) == tg)=true:=beq_iff_eq.2 t2
   obtain rfl:res=([],1):=Hres.out.symm.trans (rMove_one (fun h=>h.2.2.2 t2.symm))
   have T2:=qH t2; clear t2
   go_wp2_with fail
   go_step3
   refine And.intro rfl (HJ.out _ _ ?_)
   go_wp2_with fail
   rw [jump_ret]
   go_ret2
   exact ⟨none,0,by rfl,books_nil _ _ _ (fun _=>rfl),Hb3.out,ownBooks_nil _ _⟩
 have t3:((who:Int) == tg)=false:=beq_eq_false_iff_ne.2 t2;have t2':=Ne.symm t2
 go_wp2_with fail
 refine (within_int64 amount 1 1099511627776 _).mono ?_;rintro e w' ⟨rfl,rfl⟩
 by_cases hw:1≤amount∧amount≤1099511627776
 rotate_left 1
 · rw [withinB_no hw]
   obtain rfl:res=([],2):=Hres.out.symm.trans (rMove_two ⟨HR.out,ha2,ha3,t2'⟩ hw)
   go_wp2_with fail
   go_step3
   refine And.intro rfl (HJ.out _ _ ?_)
   go_wp2_with fail
   rw [jump_ret]
   go_ret2
   exact ⟨none,0,by rfl,books_nil _ _ _ (fun _=>rfl),Hb3.out,ownBooks_nil _ _⟩
 rw [withinB_yes hw];have HX:=qH (Hres.out.symm.trans (rMove_three ⟨HR.out,ha2,ha3,t2'⟩ hw));obtain ⟨hw0,hw1⟩:=hw;obtain ⟨h0,h1⟩:=ha2;obtain ⟨h2,h3⟩:=ha3;have hmost:=cf_most HR.out.1;simp only at hmost;obtain ⟨hm0,hm1⟩:=hmost;have h16:=HR.out.len;have hlen:=HR.out.2.1;simp only at hlen;have HF:=qH HR.out.fits;obtain ⟨k,rfl⟩:∃ k:Nat,who=(k:Int):=⟨who.toNat,by omega⟩
 obtain ⟨j,rfl⟩:∃ j:Nat,tg=(j:Int):=⟨tg.toNat,by omega⟩
 have hkl:k < l.length:=by omega
 have hkm:k < m:=by have:=Hm.out; omega
 have h16':m≤16:=by have:=Hm.out; omega
 have hjl:j < l.length:=by omega
 have hjm:j < m:=by have:=Hm.out; omega
 obtain ⟨ro,Hro⟩:∃ z,Hid (at_ l k=z):=⟨_,rfl⟩;have hff:=HF.out k hkl;rw [Hro.out,← Hm.out] at hff;have HN1:=qH (HB.out.later Hb3.out);obtain ⟨z,Hz⟩:∃ z,Hid (rightsV ⟨n,q,r,p,kk,cc⟩ l k=z):=⟨_,rfl⟩
 go_wp2_with fail
 refine (rights_calls ⟨n,q,r,p,kk,cc⟩ a m d _).mono ?_;rintro e w4 ⟨cv,rfl,⟨bl,ba,bc,bs,rfl,q1,q2,q3,q4⟩,hb⟩;have Hb4:=qH (held_next Hb3.out hb);have Q1:=qH q1; clear q1;have Q2:=qH q2; clear q2;have Q3:=qH q3; clear q3;have Q4:=qH q4; clear q4;clear hb d0 d1 d2 d3 d4 d5
 go_wp2_with fail
 refine (clos_calls ⟨n,q,r,p,kk,cc⟩ a m d l k Hm.out h16' hkm HF.out bl ba bc bs _ (HB.out.later Hb4.out) Q1.out Q2.out Q3.out Q4.out).mono ?_;rintro e w5 ⟨rfl,hb⟩;rw [Hz.out];have Hb5:=qH (held_next Hb4.out hb);clear hb;simp only [Int.toNat_natCast] at HX;rw [Hro.out,Hz.out] at HX;obtain ⟨b,off,A,C,rfl,hbw,c0,c1,c2,hN⟩:=(HB.out.later Hb5.out).at (k:=k) hkl;obtain ⟨b2,o2,rfl,hbw2,g0⟩:=hN.at (i:=j) (by rw [Hro.out]; omega)
 clear hN c0 c1;rw [Hro.out] at c2 g0;obtain ⟨x,Hx⟩:∃ z,Hid (ro.out[j]?.getD 0=z):=⟨_,rfl⟩;have hfx:=hff.2.2.2.2.2 j hjm;rw [Hx.out] at g0 HX hfx;rw [hff.1] at c2;obtain ⟨hf0,hf1,hf2,hf3,hf4,_⟩:=hff;obtain ⟨hfx0,hfx1⟩:=hfx;have k1:(k:Int) < (m:Int):=by omega
 have k0:(0:Int)≤(k:Int):=by omega
 have j1:(j:Int) < (m:Int):=by omega
 have j0:(0:Int)≤(j:Int):=by omega
 by_cases hgt:amount > z
 · obtain rfl:res=([],7):=HX.out.trans (if_neg (by omega))
   go_wp2_with fail
   go_step3
   refine And.intro rfl (HJ.out _ _ ?_)
   go_wp2_with fail
   rw [jump_ret]
   go_ret2
   exact ⟨none,0,by rfl,books_nil _ _ _ (fun _=>rfl),Hb5.out,ownBooks_nil _ _⟩
 by_cases hgt2:x + amount > 1125899906842624
 · obtain rfl:res=([],6):=HX.out.trans ((if_pos (by omega)).trans (if_neg (by omega)))
   go_wp2_with fail
   go_step3
   refine And.intro rfl (HJ.out _ _ ?_)
   go_wp2_with fail
   rw [jump_ret]
   go_ret2
   exact ⟨none,0,by rfl,books_nil _ _ _ (fun _=>rfl),Hb5.out,ownBooks_nil _ _⟩
 · obtain rfl:res=(l.set k ⟨ro.inc,ro.use,ro.out.set j (x + amount)⟩,0):=HX.out.trans ((if_pos (by omega)).trans (if_pos (by omega)))
   go_wp2_with fail
   refine (copied_calls (some ⟨b,off,none⟩) m d l Hm.out (by omega) (fun q hq=>by have:=(HF.out q hq).1; have:=Hm.out; omega) _ (HB.out.later Hb5.out)).mono ?_
   rintro e w6 ⟨A2,C2,rfl,hO,hb⟩;have Hb6:=qH (held_next Hb5.out hb);have hsz:=Hb5.out.size;obtain ⟨g,hG⟩:=hO;obtain ⟨bb,cap,b3,c3,hv,hgk,hbb,hblt,hbl2,hfz,hcs,hcell,hG2⟩:=ownG_out (j:=j) hG hkl (by rw [Hro.out]; omega) (x + amount)
   simp only [Value.slice.injEq] at hv;obtain ⟨rfl,_,rfl⟩:=hv;rw [Hro.out] at hgk hcell hG2;rw [Hx.out] at hcell;rw [hf0] at hgk;have e2:=hcs k 2 hkl (by decide)
   rw [show rowCell l g k 2=.slice (some ⟨b3,0,none⟩) m c3 from hgk] at e2
   have y0:=hfz j
   obtain ⟨A3,C3,hv3,hBk⟩:=OwnBooks.books ⟨g,hG2⟩ (by rw [List.length_set]; omega) (fun q hq=>by
    rw [List.length_set] at hq;rw [at_set hkl]
    by_cases hqk:q=k
    · rw [if_pos hqk]; show (ro.out.set j (x + amount)).length≤_; rw [List.length_set]; omega
    · rw [if_neg hqk]; have:=(HF.out q hq).1; omega)
   have HO3:=qH (show OwnBooks _ w.heap.size _ _ from OwnBooks.mono ⟨g,hG2⟩ (by omega))
   rw [hv3] at HO3;have Hv3:=qH hv3;have HBk:=qH hBk;have HbE:Hid (Below w.heap.size w (w6.setCell ⟨b3,j,none⟩ (.int .i64 (x + amount)))):=Hb6.out.setCell (p:=⟨b3,j,none⟩) (by show w.heap.size≤b3; omega) _
   have k2:(k:Int) < (l.length:Int):=by omega
   clear hb hG hcs hfz hG2 hv3 hBk c2 g0 hlen hgk
   go_wp2_with fail
   rw [jump_ret]
   go_ret2
   exact ⟨A3,C3,by rw [← Hv3.out]; rfl,HBk.out,HbE.out,HO3.out⟩
end Go.Proofs.YtecjnkokdnmhlaaGreat
namespace Go.Proofs.YtecjnkokdnmhlaaGreat
open Go.RowKit
set_option maxRecDepth 100000 in
set_option maxHeartbeats 8000000 in
theorem stepheld_calls {n0 g:Nat} {E:Nat→Prop} {c:Cf} {who:Int} {x:Nd} {p:Nl} {code:Int} {W:World} (h:St n0 E W g c who x p code) (hs:x.bk.notes.length≤1000) :
 Calls Tryz.prog 138 #[.pointer (some ⟨g,0,none⟩)] W (Says W (heldB c who x.bk.notes (headQ x.bk).t (headQ x.bk).a)):=by
 have hlt:=h.lt;have HS:=qH h;clear h;obtain ⟨⟨ht,ha,hq⟩,Hh⟩:∃ z,Hid (headQ x.bk=z):=⟨_,rfl⟩
 have O1:Hid (∀ w',Below W.heap.size W w'→Calls Tryz.prog 140 #[.pointer (some ⟨g,0,none⟩)] w' (fun e w2=>e=.returned (rqV ⟨ht,ha,hq⟩)∧Below w'.heap.size w' w2)):=fun w' hb=>by
  have h1:=head18_calls (HS.out.later hb);rw [Hh.out] at h1
  exact h1
 rw [Hh.out]
 have O2:Hid (∀ w',Below W.heap.size W w'→Calls Tryz.prog 185 #[cfV c,.int .i64 who,.slice p.bl.a4 p.bl.m4 p.bl.c4,stampV ht ha] w' (Says w' (heldB c who x.bk.notes ht ha))):=fun w' hb =>
  cHeld_calls c who _ _ _ _ ht ha (HS.out.inn.2.2.1.1) (by have:=HS.out.inn.2.2.1.1; omega) _ (HS.out.inn.2.2.1.2.later hb)
 obtain ⟨z,Hz⟩:∃ z,Hid (heldB c who x.bk.notes ht ha=z):=⟨_,rfl⟩;rw [Hz.out] at O2
 show Calls _ _ _ _ (Says W (heldB c who x.bk.notes ht ha))
 rw [Hz.out];have KP:Hid (∀ w',Below W.heap.size W w'→(Below W.heap.size W w'∧w'.cell? ⟨g,15,none⟩=some (.int .i64 c.n)∧w'.cell? ⟨g,16,none⟩=some (.int .i64 c.q)∧w'.cell? ⟨g,17,none⟩=some (.int .i64 c.r)∧w'.cell? ⟨g,18,none⟩=some (.int .i64 c.p)∧w'.cell? ⟨g,19,none⟩=some (.int .i64 c.k)∧w'.cell? ⟨g,20,none⟩=some (.int .i64 c.c)∧w'.cell? ⟨g,21,none⟩=some (.int .i64 who)∧w'.cell? ⟨g,5,none⟩=some (.slice p.bl.a4 p.bl.m4 p.bl.c4))):=fun w' hb=>⟨hb,(HS.out.later hb).ob.cell 15,(HS.out.later hb).ob.cell 16,(HS.out.later hb).ob.cell 17,(HS.out.later hb).ob.cell 18,(HS.out.later hb).ob.cell 19,(HS.out.later hb).ob.cell 20,(HS.out.later hb).ob.cell 21,(HS.out.later hb).ob.cell 5⟩
 have z15:W.cell? ⟨g,15,none⟩=some (.int .i64 c.n):=HS.out.ob.cell 15;have z16:W.cell? ⟨g,16,none⟩=some (.int .i64 c.q):=HS.out.ob.cell 16;have z17:W.cell? ⟨g,17,none⟩=some (.int .i64 c.r):=HS.out.ob.cell 17;have z18:W.cell? ⟨g,18,none⟩=some (.int .i64 c.p):=HS.out.ob.cell 18;have z19:W.cell? ⟨g,19,none⟩=some (.int .i64 c.k):=HS.out.ob.cell 19;have z20:W.cell? ⟨g,20,none⟩=some (.int .i64 c.c):=HS.out.ob.cell 20
 have z21:W.cell? ⟨g,21,none⟩=some (.int .i64 who):=HS.out.ob.cell 21;have z5:W.cell? ⟨g,5,none⟩=some (.slice p.bl.a4 p.bl.m4 p.bl.c4):=HS.out.ob.cell 5;have hfd:∀ w:World,(Instr.field 59 (.agg #[.int .i64 ht,.int .i64 ha,.int .i64 hq]) 0).run Tryz.prog w=.ok (.agg #[.int .i64 ht,.int .i64 ha]) w:=fun _=>rfl
 go_enter Tryz.func138,Tryz.ntmps138
 go_wp2_with fail
 go_region_held3 (fun w'=>Below W.heap.size W w'∧w'.cell? ⟨g,15,none⟩=some (.int .i64 c.n)∧w'.cell? ⟨g,16,none⟩=some (.int .i64 c.q)∧w'.cell? ⟨g,17,none⟩=some (.int .i64 c.r)∧w'.cell? ⟨g,18,none⟩=some (.int .i64 c.p)∧w'.cell? ⟨g,19,none⟩=some (.int .i64 c.k)∧w'.cell? ⟨g,20,none⟩=some (.int .i64 c.c)∧w'.cell? ⟨g,21,none⟩=some (.int .i64 who)∧w'.cell? ⟨g,5,none⟩=some (.slice p.bl.a4 p.bl.m4 p.bl.c4))
  (first | exact KP.out _ (Below.refl _ _).drew | (refine KP.out _ ?_; assumption))
  (first | (go_at_call 140; have hcur:=(‹Below W.heap.size W _∧_∧_›).1; (with_reducible refine (O1.out _ hcur).mono ?_); rintro ee wn ⟨rfl,hb⟩; have hS:=held_next hcur hb; clear hb) | (go_at_call 185; have hcur:=(‹Below W.heap.size W _∧_∧_›).1; (with_reducible refine (O2.out _ hcur).mono ?_); rintro ee wn ⟨rfl,hb⟩; have hS:=held_next hcur hb; clear hb))
 all_goals go_wp2_with fail
 all_goals go_ret
 all_goals exact ⟨by rfl,(‹Below W.heap.size W _∧_∧_›).1⟩
set_option maxRecDepth 100000 in
set_option maxHeartbeats 8000000 in
theorem keep18_calls {n0 g:Nat} {E:Nat→Prop} {c:Cf} {who:Int} {x:Nd} {p:Nl} {code:Int} {W:World} (h:St n0 E W g c who x p code) (hs:x.asked.length≤1000) :
 Calls Tryz.prog 117 #[.pointer (some ⟨g,0,none⟩)] W (Num W ((estE x.asked).1:Nat)):=by
 have hlt:=h.lt;have hm:=h.inn.2.2.2.2.1;have HC:=qH (nEst_calls p.a p.m p.c x.asked hm (by omega) W h.inn.2.2.2.2.2)
 obtain ⟨⟨e1,e2⟩,He⟩:∃ z,Hid (estE x.asked=z):=⟨_,rfl⟩;rw [He.out] at HC ⊢;have z14:W.cell? ⟨g,14,none⟩=some (.slice p.a p.m p.c):=h.ob.cell 14;clear h hm
 go_enter Tryz.func117,Tryz.ntmps117
 go_wp2_with fail
 refine HC.out.mono ?_;rintro e w1 ⟨rfl,hb⟩;have Hb:=qH hb;clear hb
 go_wp2_with fail
 go_ret
 exact ⟨by rfl,Hb.out⟩
set_option maxRecDepth 100000 in
set_option maxHeartbeats 8000000 in
theorem move18_calls {n0 g:Nat} {E:Nat→Prop} {c:Cf} {who:Int} {x:Nd} {p:Nl} {code:Int} {W:World} (h:St n0 E W g c who x p code) (tg amount:Int) :
 Calls Tryz.prog 115 #[.pointer (some ⟨g,0,none⟩),.int .i64 tg,.int .i64 amount] W (fun e w'=>e=.returned (.tuple #[])∧StepTo n0 E g c who p W (bkN x (moveK c who x.bk tg amount)) code w'):=by
 have hlt:=h.lt;have HS:=qH h;clear h;obtain ⟨⟨l,cd⟩,Hm⟩:∃ z,Hid (moveR c x.bk.rows who tg amount=z):=⟨_,rfl⟩;obtain ⟨kr,Hkr⟩:∃ z,Hid (moveK c who x.bk tg amount=z):=⟨_,rfl⟩;rw [Hkr.out]
 have O1:Hid (∀ w',Below W.heap.size W w'→Calls Tryz.prog 166 #[cfV c,.slice p.bl.a1 p.bl.m1 p.bl.c1,.int .i64 who,.int .i64 tg,.int .i64 amount] w' (BooksO w' (l,cd))):=fun w' hb=>by
  have h1:=rMove_far c p.bl.a1 p.bl.m1 p.bl.c1 x.bk.rows who tg amount HS.out.inn.1.1 w' (HS.out.inn.1.2.later hb);rw [Hm.out] at h1
  exact h1
 obtain ⟨L,HL⟩:∃ z,Hid (l.length=z):=⟨_,rfl⟩;have KP:Hid (∀ w',Below W.heap.size W w'→(Below W.heap.size W w'∧w'.cell? ⟨g,15,none⟩=some (.int .i64 c.n)∧w'.cell? ⟨g,16,none⟩=some (.int .i64 c.q)∧w'.cell? ⟨g,17,none⟩=some (.int .i64 c.r)∧w'.cell? ⟨g,18,none⟩=some (.int .i64 c.p)∧w'.cell? ⟨g,19,none⟩=some (.int .i64 c.k)∧w'.cell? ⟨g,20,none⟩=some (.int .i64 c.c)∧w'.cell? ⟨g,21,none⟩=some (.int .i64 who)∧w'.cell? ⟨g,1,none⟩=some (.slice p.bl.a1 p.bl.m1 p.bl.c1))):=fun w' hb=>⟨hb,(HS.out.later hb).ob.cell 15,(HS.out.later hb).ob.cell 16,(HS.out.later hb).ob.cell 17,(HS.out.later hb).ob.cell 18,(HS.out.later hb).ob.cell 19,(HS.out.later hb).ob.cell 20,(HS.out.later hb).ob.cell 21,(HS.out.later hb).ob.cell 1⟩
 have z15:W.cell? ⟨g,15,none⟩=some (.int .i64 c.n):=HS.out.ob.cell 15;have z16:W.cell? ⟨g,16,none⟩=some (.int .i64 c.q):=HS.out.ob.cell 16;have z17:W.cell? ⟨g,17,none⟩=some (.int .i64 c.r):=HS.out.ob.cell 17;have z18:W.cell? ⟨g,18,none⟩=some (.int .i64 c.p):=HS.out.ob.cell 18;have z19:W.cell? ⟨g,19,none⟩=some (.int .i64 c.k):=HS.out.ob.cell 19;have z20:W.cell? ⟨g,20,none⟩=some (.int .i64 c.c):=HS.out.ob.cell 20
 have z21:W.cell? ⟨g,21,none⟩=some (.int .i64 who):=HS.out.ob.cell 21;have z1:W.cell? ⟨g,1,none⟩=some (.slice p.bl.a1 p.bl.m1 p.bl.c1):=HS.out.ob.cell 1
 go_enter Tryz.func115,Tryz.ntmps115
 go_wp2_with fail
 go_region_held3 (fun w'=>Below W.heap.size W w'∧w'.cell? ⟨g,15,none⟩=some (.int .i64 c.n)∧w'.cell? ⟨g,16,none⟩=some (.int .i64 c.q)∧w'.cell? ⟨g,17,none⟩=some (.int .i64 c.r)∧w'.cell? ⟨g,18,none⟩=some (.int .i64 c.p)∧w'.cell? ⟨g,19,none⟩=some (.int .i64 c.k)∧w'.cell? ⟨g,20,none⟩=some (.int .i64 c.c)∧w'.cell? ⟨g,21,none⟩=some (.int .i64 who)∧w'.cell? ⟨g,1,none⟩=some (.slice p.bl.a1 p.bl.m1 p.bl.c1))
  (first | exact KP.out _ (Below.refl _ _).drew | (refine KP.out _ ?_; assumption))
  (first | (go_at_call 166; have hcur:=(‹Below W.heap.size W _∧_∧_›).1; (with_reducible refine (O1.out _ hcur).mono ?_); rintro ee wn ⟨A,C,rfl,hB,hb,hO⟩; have HSn:=qH (HS.out.later (held_next hcur hb)); have HBn:=qH (booksO_stay (B:=W.heap.size) hO hB hcur.size); rw [HL.out] at HBn; try rw [HL.out]; have hz1:=HSn.out.ob.cell 1; have hy1:=HSn.out.ob.free 1; clear hO hB; have hS:=held_next hcur hb; clear hb))
 all_goals (
  by_cases hc:cd=0
  · subst hc
    obtain rfl:kr=rowsK x.bk l:=Hkr.out.symm.trans (by unfold moveK; rw [Hm.out]; exact if_pos rfl)
    have hE:=HSn.out.rows (l:=l) (A:=A) (C:=C) (by rw [HL.out]; exact HS.out.stay HBn.out)
    rw [HL.out] at hE;have HE:=qH hE;clear hE
    go_wp2_with fail
    exact bodyPost_end (v:=.tuple #[]) (by simp [results,Tryz.results115,go_sem]) rfl ⟨rfl,_,HE.out.1,(Kept.of hS).trans HE.out.2⟩
  · obtain rfl:kr=x.bk:=Hkr.out.symm.trans (by unfold moveK; rw [Hm.out]; exact if_neg hc)
    go_wp2_with fail
    exact bodyPost_end (v:=.tuple #[]) (by simp [results,Tryz.results115,go_sem]) rfl ⟨rfl,_,HSn.out,Kept.of hS⟩)
end Go.Proofs.YtecjnkokdnmhlaaGreat
namespace Go.Proofs.YtecjnkokdnmhlaaGreat
open Go.RowKit
def JoinedQF (w:World) (x:List Rq × Int) (e:Ending) (w':World):Prop :=
 ∃ A C,e=.returned (.tuple #[.slice A x.1.length C,.int .i64 x.2])∧Line w' (.slice A x.1.length C) x.1∧Below w.heap.size w w'∧Stay (fun b=>b < w.heap.size) w' (fun W=>Line W (.slice A x.1.length C) x.1)
def LeftQF (w:World) (l:List Rq) (e:Ending) (w':World):Prop :=
 ∃ A C,l.length - 1≤C∧e=.returned (.tuple #[rqV (rqAt l 0),.slice A (l.length - 1) C,.bool (decide (0 < l.length))])∧Line w' (.slice A (l.length - 1) C) l.tail∧Below w.heap.size w w'∧Stay (fun b=>b < w.heap.size) w' (fun W=>Line W (.slice A (l.length - 1) C) l.tail)
theorem line_none (S:Nat→Prop) (w:World):Stay S w (fun W=>Line W (.slice none 0 0) []):=fun _ _=>Line.nil _ _ _ (fun _=>rfl)
theorem line_stay {B n:Nat} {w:World} {A:Option Addr} {C:Nat} {l:List Rq} (hn:n=l.length) (h:Line w (.slice A n C) l) (hne:0 < n→∀ ad,A=some ad→B≤ad.block):Stay (fun b=>b < B) w (fun W=>Line W (.slice A n C) l):=by
 subst hn; exact elems_stay h hne
end Go.Proofs.YtecjnkokdnmhlaaGreat
namespace Go.Proofs.YtecjnkokdnmhlaaGreat
open Go.RowKit
def faultV (c:Cf) (who:Int) (l:List Rq) (k:Nat) (x:Rq):Int :=
 if x.m < 1∨1099511627776 < x.m then 2 else if c.q≤(k:Int) then 3 else if mayB x.t x.a c.n=true∧x.a=who then (if 0 < k∧rqOld (rqAt l (k - 1)) x=false then 1 else 0) else 1
theorem fault_two {c:Cf} {who:Int} {l:List Rq} {k:Nat} {x:Rq} (h:x.m < 1∨1099511627776 < x.m):faultV c who l k x=2:=if_pos h
theorem fault_three {c:Cf} {who:Int} {l:List Rq} {k:Nat} {x:Rq} (h:¬ (x.m < 1∨1099511627776 < x.m)) (h2:c.q≤(k:Int)):faultV c who l k x=3:=by unfold faultV; rw [if_neg h,if_pos h2]
theorem fault_one {c:Cf} {who:Int} {l:List Rq} {k:Nat} {x:Rq} (h:¬ (x.m < 1∨1099511627776 < x.m)) (h2:(k:Int) < c.q) (h3:¬ (mayB x.t x.a c.n=true∧x.a=who)):faultV c who l k x=1:=by unfold faultV; rw [if_neg h,if_neg (by omega),if_neg h3]
theorem fault_last {c:Cf} {who:Int} {l:List Rq} {k:Nat} {x:Rq} (h:¬ (x.m < 1∨1099511627776 < x.m)) (h2:(k:Int) < c.q) (h3:mayB x.t x.a c.n=true∧x.a=who):faultV c who l k x=if 0 < k∧rqOld (rqAt l (k - 1)) x=false then 1 else 0:=by unfold faultV; rw [if_neg h,if_neg (by omega),if_pos h3]
def CodeQ (w:World) (z:Int) (e:Ending) (w':World):Prop:=e=.returned (.int .i64 z)∧Below w.heap.size w w'
def ClosQ (w:World) (v:Value) (c:Cf) (who:Int) (sl:Value):Prop :=
 ∃ bc bw bl:Nat,v=.func (.func 189) #[] #[.pointer (some ⟨bc,0,none⟩),.pointer (some ⟨bw,0,none⟩),.pointer (some ⟨bl,0,none⟩)]∧Whole w bc 23 (cfCells c)∧w.cell? ⟨bw,0,none⟩=some (.int .i64 who)∧w.cell? ⟨bl,0,none⟩=some sl
theorem faults_calls (c:Cf) (who:Int) (a:Option Addr) (m d:Nat) (w:World) :
 Calls Tryz.prog 149 #[cfV c,.int .i64 who,.slice a m d] w (fun e w'=>∃ v,e=.returned v∧ClosQ w' v c who (.slice a m d)∧Below w.heap.size w w'):=by
 have hmf:∀ (fn:Fn) (first cap:Array Value) (w:World),(Instr.makeFunc fn first cap).run Tryz.prog w=.ok (.func fn first cap) w:=fun _ _ _ _=>rfl
 obtain ⟨n,q,r,p,kk,cc⟩:=c
 go_enter Tryz.func149,Tryz.ntmps149
 go_wp2_with fail
 go_ret
 refine ⟨_,rfl,⟨w.heap.size,w.heap.size + 1,w.heap.size + 1 + 1,rfl,((Whole.made w _ _).alloc _).alloc _,?_,?_⟩,(below_two w _ _).alloc (by simp; omega) _⟩
 · have B:Whole (((w.alloc (.cells (cfCells ⟨n,q,r,p,kk,cc⟩) 23)).alloc (.cells #[.int .i64 who] 3)).alloc (.cells #[.slice a m d] 25)) (w.heap.size + 1) 3 #[.int .i64 who]:=(Whole.madeAt _ _ _ _ (by simp)).alloc _
   exact B.cell 0
 · have B:Whole (((w.alloc (.cells (cfCells ⟨n,q,r,p,kk,cc⟩) 23)).alloc (.cells #[.int .i64 who] 3)).alloc (.cells #[.slice a m d] 25)) (w.heap.size + 1 + 1) 25 #[.slice a m d]:=Whole.madeAt _ _ _ _ (by simp)
   exact B.cell 0
set_option maxRecDepth 100000 in
set_option maxHeartbeats 8000000 in
theorem fault_calls (c:Cf) (who:Int) (a:Option Addr) (m d:Nat) (l:List Rq) (k:Nat) (x:Rq) (hm:m=l.length) (hk:k≤m) (bc bw bl:Nat) (w:World) (hB:Line w (.slice a m d) l)
 (q1:Whole w bc 23 (cfCells c)) (q2:w.cell? ⟨bw,0,none⟩=some (.int .i64 who)) (q3:w.cell? ⟨bl,0,none⟩=some (.slice a m d)) :
 Calls Tryz.prog 189 #[.int .i64 (k:Int),rqV x,.pointer (some ⟨bc,0,none⟩),.pointer (some ⟨bw,0,none⟩),.pointer (some ⟨bl,0,none⟩)] w (CodeQ w (faultV c who l k x)):=by
 have hbig:m≤9223372036854775807:=by rw [hm]; exact hB.big
 have hbw:bw < w.heap.size:=World.block_lt_of_cell? w _ q2;have hbl:bl < w.heap.size:=World.block_lt_of_cell? w _ q3;have hbc:=q1.lt;have HB:=qH hB; clear hB;have Hm:=qH hm; clear hm;have HC:=qH q1; clear q1;have HW:=qH q2; clear q2;have HL:=qH q3; clear q3;obtain ⟨n,q,r,p,kk,cc⟩:=c;obtain ⟨t,u,v⟩:=x;have HX:=qH (Whole.made w 59 (rqCells ⟨t,u,v⟩));have Hb0:=qH (below_box w (.cells (rqCells ⟨t,u,v⟩) 59))
 have HC0:=qH (HC.out.later Hb0.out hbc);obtain ⟨res,Hres⟩:∃ z,Hid (faultV ⟨n,q,r,p,kk,cc⟩ who l k ⟨t,u,v⟩=z):=⟨_,rfl⟩;rw [Hres.out];obtain ⟨d0,d1,_⟩:=config_cells HC0.out;simp only at d0 d1
 by_cases hv1:v < 1
 · obtain rfl:res=2:=Hres.out.symm.trans (fault_two (Or.inl hv1))
   go_enter Tryz.func189,Tryz.ntmps189
   go_wp2_with fail
   go_ret
   exact ⟨by rfl,Hb0.out⟩
 by_cases hv2:1099511627776 < v
 · obtain rfl:res=2:=Hres.out.symm.trans (fault_two (Or.inr hv2))
   go_enter Tryz.func189,Tryz.ntmps189
   go_wp2_with fail
   go_ret
   exact ⟨by rfl,Hb0.out⟩
 have Hv:Hid (¬ (v < 1∨1099511627776 < v)):=by show ¬ _; omega
 by_cases hq:q≤(k:Int)
 · obtain rfl:res=3:=Hres.out.symm.trans (fault_three Hv.out hq)
   go_enter Tryz.func189,Tryz.ntmps189
   go_wp2_with fail
   go_ret
   exact ⟨by rfl,Hb0.out⟩
 have Hq:Hid ((k:Int) < q):=by show _ < _; omega
 obtain ⟨may,Hmay⟩:∃ z,Hid (mayB t u n=z):=⟨_,rfl⟩
 go_enter Tryz.func189,Tryz.ntmps189
 go_wp2_with fail
 refine (stampmay_calls t u n _).mono ?_;rw [Hmay.out];rintro e w1 ⟨rfl,hb⟩;have Hb1:=qH (held_next Hb0.out hb);have HX1:=qH (HX.out.later hb HX.out.lt);clear hb d0 d1;have e0:w1.cell? ⟨bw,0,none⟩=some (.int .i64 who):=cell_later Hb1.out HW.out;have e1:w1.cell? ⟨bl,0,none⟩=some (.slice a m d):=cell_later Hb1.out HL.out;obtain ⟨f0,f1,f2⟩:=rq_cells HX1.out;simp only at f0 f1 f2
 cases may with
 | false =>
   obtain rfl:res=1:=Hres.out.symm.trans (fault_one Hv.out Hq.out (by rw [Hmay.out]; simp))
   go_wp2_with fail
   go_ret
   exact ⟨by rfl,Hb1.out⟩
 | true =>
 by_cases hu:u=who
 rotate_left 1
 · obtain rfl:res=1:=Hres.out.symm.trans (fault_one Hv.out Hq.out (fun h=>hu h.2))
   have hun:(u != who)=true:=bne_iff_ne.2 hu
   go_wp2_with fail
   go_ret
   exact ⟨by rfl,Hb1.out⟩
 have hlast:=Hres.out.symm.trans (fault_last Hv.out Hq.out ⟨Hmay.out,hu⟩);subst hu
 by_cases hk0:k=0
 · obtain rfl:res=0:=by rw [hlast,if_neg (by omega)]
   have s5:decide ((0:Int) < (k:Int))=false:=decide_eq_false (by omega)
   have s6:decide (0 < k)=false:=decide_eq_false (by omega)
   clear hlast;have Hk0:=qH hk0; clear hk0
   go_wp2_with fail
   refine wp_region_held_drew (S:=(fun w'=>Below w1.heap.size w1 w')) (by kernel_rfl) ((Below.refl _ _).drew) (fun hHeld=>?_)
   refine qT 0 37 ?_ rfl ?_ ?_
   rotate_left 1
   · intro w hSw
     try dsimp only at hSw
     go_simp
     try with_reducible rfl
   simp only [Act.put,qA,qB,qC];refine qT 1 38 ?_ rfl ?_ ?_
   rotate_left 1
   · intro w hSw
     try dsimp only at hSw
     go_simp
     try simp only [s5,s6]
     try with_reducible rfl
   simp only [Act.put,qA,qB,qC];refine qT 2 39 ?_ rfl ?_ ?_
   rotate_left 1
   · intro w hSw
     try dsimp only at hSw
     go_simp
     try with_reducible rfl
   simp only [Act.put,qA,qB,qC];refine qS 3 40 rfl ?_;simp only [Act.put,qA,qB,qC];refine qS 4 41 rfl ?_;simp only [Act.put,qA,qB,qC];refine qS 5 42 rfl ?_;simp only [Act.put,qA,qB,qC];refine qS 6 43 rfl ?_;simp only [Act.put,qA,qB,qC];refine qS 7 44 rfl ?_;simp only [Act.put,qA,qB,qC];refine qS 8 45 rfl ?_;simp only [Act.put,qA,qB,qC];refine qS 9 46 rfl ?_;simp only [Act.put,qA,qB,qC];refine qS 10 47 rfl ?_
   simp only [Act.put,qA,qB,qC];refine qS 11 48 rfl ?_;simp only [Act.put,qA,qB,qC];refine qS 12 49 rfl ?_;simp only [Act.put,qA,qB,qC];refine qT 13 50 ?_ rfl ?_ ?_
   rotate_left 1
   · intro w hSw
     try dsimp only at hSw
     go_simp
     try with_reducible rfl
   simp only [Act.put,qA,qB,qC];refine qT 14 36 ?_ rfl ?_ ?_
   rotate_left 1
   · intro w hSw
     try dsimp only at hSw
     go_simp
     try with_reducible rfl
   simp only [Act.put,qA,qB,qC];refine wpAnyH_done (by kernel_rfl) ?_ _
   have HbN:=qH (held_next Hb1.out hHeld);clear hHeld
   go_wp2_with fail
   go_ret
   exact ⟨by rfl,HbN.out⟩
 · obtain ⟨j,Hj⟩:∃ j,Hid (k=j + 1):=⟨k - 1,show _=_ by omega⟩
   have hj:=Hj.out;obtain ⟨b,off,rfl,g0,g1,_⟩:=HB.out.at (i:=j) (by have:=Hm.out; omega)
   obtain ⟨y,Hy⟩:∃ z,Hid (rqAt l j=z):=⟨_,rfl⟩;obtain ⟨o,Ho⟩:∃ z,Hid (olderB y.t y.a t u=z):=⟨_,rfl⟩;rw [Hy.out] at g0 g1
   have hres:res=if o=false then 1 else 0:=by
    rw [hlast,show k - 1=j by omega,Hy.out]
    have e:rqOld y ⟨t,u,v⟩=o:=Ho.out;rw [e]
    by_cases h:o=false
    · rw [if_pos ⟨by omega,h⟩,if_pos h]
    · rw [if_neg (fun h2=>h h2.2),if_neg h]
   have Hr:=qH hres; clear hres hlast;have s1:IntKind.i64.wrap ((k:Int) - 1)=(j:Int):=by rw [IntWalk.i64_in _ (by omega)]; omega
   have s1':(k:Int) - 1=(j:Int):=by omega
   have s1'':IntKind.i64.wrap (j:Int)=(j:Int):=IntWalk.i64_in _ (by omega)
   have s2:(0:Int)≤(j:Int):=by omega
   have s3:(j:Int) < (m:Int):=by omega
   have s5:decide ((0:Int) < (k:Int))=true:=decide_eq_true (by omega)
   have s6:decide (0 < k)=true:=decide_eq_true (by omega)
   have Hk0:=qH hk0; clear hk0;clear hj
   have KP:Hid (∀ w',Below w1.heap.size w1 w'→(fun w'=>Below w1.heap.size w1 w'∧w'.cell? ⟨bl,0,none⟩=some (.slice (some ⟨b,off,none⟩) m d)∧(w'.cell? ⟨w.heap.size,0,none⟩=some (.int .i64 t)∧w'.cell? ⟨w.heap.size,1,none⟩=some (.int .i64 u)∧w'.cell? ⟨w.heap.size,2,none⟩=some (.int .i64 v))∧w'.cell? ⟨b,off + j * 3,none⟩=some (.int .i64 y.t)∧w'.cell? ⟨b,off + j * 3 + 1,none⟩=some (.int .i64 y.a)) w') :=
    fun w' h=>⟨h,cell_later (held_next Hb1.out h) HL.out,rq_cells (HX1.out.later h HX1.out.lt),cell_later (held_next Hb1.out h) g0,cell_later (held_next Hb1.out h) g1⟩
   clear g0 g1
   go_wp2_with fail
   refine wp_region_held_drew (S:=(fun w'=>Below w1.heap.size w1 w'∧w'.cell? ⟨bl,0,none⟩=some (.slice (some ⟨b,off,none⟩) m d)∧(w'.cell? ⟨w.heap.size,0,none⟩=some (.int .i64 t)∧w'.cell? ⟨w.heap.size,1,none⟩=some (.int .i64 u)∧w'.cell? ⟨w.heap.size,2,none⟩=some (.int .i64 v))∧w'.cell? ⟨b,off + j * 3,none⟩=some (.int .i64 y.t)∧w'.cell? ⟨b,off + j * 3 + 1,none⟩=some (.int .i64 y.a))) (by kernel_rfl) (KP.out _ (Below.refl _ _).drew) (fun hHeld=>?_)
   refine qT 0 37 ?_ rfl ?_ ?_
   rotate_left 1
   · intro w hSw
     try dsimp only at hSw
     go_simp
     try with_reducible rfl
   simp only [Act.put,qA,qB,qC];refine qT 1 38 ?_ rfl ?_ ?_
   rotate_left 1
   · intro w hSw
     try dsimp only at hSw
     go_simp
     try simp only [s5,s6]
     try with_reducible rfl
   simp only [Act.put,qA,qB,qC];refine qT 2 39 ?_ rfl ?_ ?_
   rotate_left 1
   · intro w hSw
     try dsimp only at hSw
     go_simp
     try with_reducible rfl
   simp only [Act.put,qA,qB,qC];refine qT 3 40 ?_ rfl ?_ ?_
   rotate_left 1
   · intro w hSw
     try dsimp only at hSw
     go_simp
     try with_reducible rfl
   simp only [Act.put,qA,qB,qC];refine qT 4 41 ?_ rfl ?_ ?_
   rotate_left 1
   · intro w hSw
     try dsimp only at hSw
     go_simp
     try with_reducible rfl
   simp only [Act.put,qA,qB,qC];refine qT 5 42 ?_ rfl ?_ ?_
   rotate_left 1
   · intro w hSw
     try dsimp only at hSw
     go_simp
     try with_reducible rfl
   simp only [Act.put,qA,qB,qC];refine qT 6 43 ?_ rfl ?_ ?_
   rotate_left 1
   · intro w hSw
     try dsimp only at hSw
     go_simp
     try with_reducible rfl
   simp only [Act.put,qA,qB,qC];refine qT 7 44 ?_ rfl ?_ ?_
   rotate_left 1
   · intro w hSw
     try dsimp only at hSw
     go_simp
     try with_reducible rfl
   simp only [Act.put,qA,qB,qC];refine qT 8 45 ?_ rfl ?_ ?_
   rotate_left 1
   · intro w hSw
     try dsimp only at hSw
     go_simp
     try with_reducible rfl
   simp only [Act.put,qA,qB,qC];refine qT 9 46 ?_ rfl ?_ ?_
   rotate_left 1
   · intro w hSw
     try dsimp only at hSw
     go_simp
     try with_reducible rfl
   simp only [Act.put,qA,qB,qC];refine qT 10 47 ?_ rfl ?_ ?_
   rotate_left 1
   · intro w hSw
     try dsimp only at hSw
     go_simp
     try with_reducible rfl
   simp only [Act.put,qA,qB,qC];refine wpAnyH_ready (rs:=[11]) (by kernel_rfl) (by simp) ?_
   refine AllReadyH.cons rfl (fun K hK=>?_) AllReadyH.nil
   go_simp
   go_wp2_with (go_at_call 188; refine (older_calls y.t y.a t u _).mono ?_; rw [Ho.out]; rintro ee wo ⟨rfl,hb2⟩; have hS1:=held_next hHeld.1 hb2)
   refine hK.out _ _ (KP.out _ hS1) (fun hHeld2=>?_)
   clear hHeld hK K;have hHeld:=hHeld2;clear hHeld2;refine qT 12 49 ?_ rfl ?_ ?_
   rotate_left 1
   · intro w hSw
     try dsimp only at hSw
     go_simp
     try with_reducible rfl
   simp only [Act.put,qA,qB,qC];refine qT 13 50 ?_ rfl ?_ ?_
   rotate_left 1
   · intro w hSw
     try dsimp only at hSw
     go_simp
     try with_reducible rfl
   simp only [Act.put,qA,qB,qC];refine qT 14 36 ?_ rfl ?_ ?_
   rotate_left 1
   · intro w hSw
     try dsimp only at hSw
     go_simp
     try with_reducible rfl
   simp only [Act.put,qA,qB,qC];refine wpAnyH_done (by kernel_rfl) ?_ _
   have HbN:=qH (held_next Hb1.out hHeld.1);clear hHeld
   cases o with
   | false =>
     obtain rfl:res=1:=Hr.out.trans (by simp)
     go_wp2_with fail
     go_ret
     exact ⟨by rfl,HbN.out⟩
   | true =>
     obtain rfl:res=0:=Hr.out.trans (by simp)
     go_wp2_with fail
     go_ret
     exact ⟨by rfl,HbN.out⟩
end Go.Proofs.YtecjnkokdnmhlaaGreat
