/- Parts, as far as NodeAtOnceCards reaches them, of: RightsTake, NodeServe, NodeUp, ShareBound, NodeAns, RightsOne. No law is proved here. -/
import Derived.Test.YtecjnkokdnmhlaaGreatTa20
namespace Go.Proofs.YtecjnkokdnmhlaaGreat
open Go.RowKit
set_option maxRecDepth 100000 in
set_option maxHeartbeats 8000000 in
theorem rTake_far (c:Cf) (a:Option Addr) (m d:Nat) (l:List Rw) (who amount:Int) (hm:m=l.length) (w:World) (hB:Books w (.slice a m d) l) :
 Calls Tryz.prog 139 #[cfV c,.slice a m d,.int .i64 who,.int .i64 amount] w (BooksO w (takeR c l who amount)):=by
 have HW:=qH (Whole.made w 23 (cfCells c));have Hb0:=qH (below_box w (.cells (cfCells c) 23));have HB:=qH hB; clear hB;have Hm:=qH hm; clear hm;obtain ⟨n,q,r,p,kk,cc⟩:=c;obtain ⟨res,Hres⟩:∃ z,Hid (takeR ⟨n,q,r,p,kk,cc⟩ l who amount=z):=⟨_,rfl⟩;rw [Hres.out];obtain ⟨ok,Hok⟩:∃ z,Hid (rightB ⟨n,q,r,p,kk,cc⟩ l=z):=⟨_,rfl⟩
 go_enter Tryz.func139,Tryz.ntmps139
 go_wp2_with fail
 refine wp_scope_ahead 0 rfl ?_;intro J HJ
 go_wp2_with fail
 refine (rRight_calls ⟨n,q,r,p,kk,cc⟩ a m d l Hm.out _ (HB.out.later Hb0.out)).mono ?_;rintro e w1 ⟨rfl,hb⟩;rw [Hok.out];have Hb1:=qH (held_next Hb0.out hb);have HW1:=qH (HW.out.later hb HW.out.lt);clear hb;obtain ⟨d0,d1,d2,d3,d4,d5⟩:=config_cells HW1.out;simp only at d0 d1 d2 d3 d4 d5
 cases ok with
 | false =>
   obtain rfl:res=([],1):=Hres.out.symm.trans (rTake_one (fun h=>by
    have:=decide_eq_true h.1;rw [show decide (rightOk ⟨n,q,r,p,kk,cc⟩ l)=false from Hok.out] at this
    cases this))
   go_wp2_with fail
   go_step3
   refine And.intro rfl (HJ.out _ _ ?_)
   go_wp2_with fail
   rw [jump_ret]
   go_ret2
   exact ⟨none,0,by rfl,books_nil _ _ _ (fun _=>rfl),Hb1.out,ownBooks_nil _ _⟩
 | true =>
 have hok:=rightB_ok Hok.out;have HR:=qH hok; clear hok
 go_wp2_with fail
 refine (among_calls ⟨n,q,r,p,kk,cc⟩ who _).mono ?_;rintro e w2 ⟨rfl,hb⟩;have Hb2:=qH (held_next Hb1.out hb);have HW2:=qH (HW1.out.later hb HW1.out.lt);clear hb d0 d1 d2 d3 d4 d5;obtain ⟨d0,d1,d2,d3,d4,d5⟩:=config_cells HW2.out;simp only at d0 d1 d2 d3 d4 d5
 by_cases ha2:0≤who∧who < n
 rotate_left 1
 · rw [amongB_no ha2]
   obtain rfl:res=([],1):=Hres.out.symm.trans (rTake_one (fun h=>ha2 h.2))
   go_wp2_with fail
   go_step3
   refine And.intro rfl (HJ.out _ _ ?_)
   go_wp2_with fail
   rw [jump_ret]
   go_ret2
   exact ⟨none,0,by rfl,books_nil _ _ _ (fun _=>rfl),Hb2.out,ownBooks_nil _ _⟩
 rw [amongB_yes ha2]
 go_wp2_with fail
 refine (within_int64 amount 1 1099511627776 _).mono ?_;rintro e w' ⟨rfl,rfl⟩
 by_cases hw:1≤amount∧amount≤1099511627776
 rotate_left 1
 · rw [withinB_no hw]
   obtain rfl:res=([],2):=Hres.out.symm.trans (rTake_two ⟨HR.out,ha2.1,ha2.2⟩ hw)
   go_wp2_with fail
   go_step3
   refine And.intro rfl (HJ.out _ _ ?_)
   go_wp2_with fail
   rw [jump_ret]
   go_ret2
   exact ⟨none,0,by rfl,books_nil _ _ _ (fun _=>rfl),Hb2.out,ownBooks_nil _ _⟩
 rw [withinB_yes hw];have HX:=qH (Hres.out.symm.trans (rTake_three ⟨HR.out,ha2.1,ha2.2⟩ hw));obtain ⟨hw0,hw1⟩:=hw;obtain ⟨h0,h1⟩:=ha2;have hmost:=cf_most HR.out.1;simp only at hmost;obtain ⟨hm0,hm1⟩:=hmost;have h16:=HR.out.len;have hlen:=HR.out.2.1;simp only at hlen;have HF:=qH HR.out.fits;obtain ⟨k,rfl⟩:∃ k:Nat,who=(k:Int):=⟨who.toNat,by omega⟩
 have hkl:k < l.length:=by omega
 have hkm:k < m:=by have:=Hm.out; omega
 have h16':m≤16:=by have:=Hm.out; omega
 obtain ⟨ro,Hro⟩:∃ z,Hid (at_ l k=z):=⟨_,rfl⟩;have hff:=HF.out k hkl;rw [Hro.out,← Hm.out] at hff;have HN1:=qH (HB.out.later Hb2.out);obtain ⟨z,Hz⟩:∃ z,Hid (rightsV ⟨n,q,r,p,kk,cc⟩ l k=z):=⟨_,rfl⟩
 go_wp2_with fail
 refine (rights_calls ⟨n,q,r,p,kk,cc⟩ a m d _).mono ?_;rintro e w3 ⟨cv,rfl,⟨bl,ba,bc,bs,rfl,q1,q2,q3,q4⟩,hb⟩;have Hb3:=qH (held_next Hb2.out hb);have Q1:=qH q1; clear q1;have Q2:=qH q2; clear q2;have Q3:=qH q3; clear q3;have Q4:=qH q4; clear q4;clear hb d0 d1 d2 d3 d4 d5
 go_wp2_with fail
 refine (clos_calls ⟨n,q,r,p,kk,cc⟩ a m d l k Hm.out h16' hkm HF.out bl ba bc bs _ (HB.out.later Hb3.out) Q1.out Q2.out Q3.out Q4.out).mono ?_;rintro e w4 ⟨rfl,hb⟩;rw [Hz.out];have Hb4:=qH (held_next Hb3.out hb);clear hb;simp only [Int.toNat_natCast] at HX;rw [Hro.out,Hz.out] at HX;obtain ⟨b,off,A,C,rfl,hbw,c0,c1,c2,hN⟩:=(HB.out.later Hb4.out).at (k:=k) hkl;clear hN c0 c2;rw [Hro.out] at c1;obtain ⟨x,Hx⟩:∃ z,Hid (ro.use=z):=⟨_,rfl⟩
 rw [Hx.out] at c1 HX hff;obtain ⟨hf0,hf1,hf2,hf3,hf4,_⟩:=hff;have k1:(k:Int) < (m:Int):=by omega
 have k0:(0:Int)≤(k:Int):=by omega
 by_cases hgt:amount > z
 · obtain rfl:res=([],7):=HX.out.trans (if_neg (by omega))
   go_wp2_with fail
   go_step3
   refine And.intro rfl (HJ.out _ _ ?_)
   go_wp2_with fail
   rw [jump_ret]
   go_ret2
   exact ⟨none,0,by rfl,books_nil _ _ _ (fun _=>rfl),Hb4.out,ownBooks_nil _ _⟩
 by_cases hgt2:x + amount > 1099511627776
 · obtain rfl:res=([],6):=HX.out.trans ((if_pos (by omega)).trans (if_neg (by omega)))
   go_wp2_with fail
   go_step3
   refine And.intro rfl (HJ.out _ _ ?_)
   go_wp2_with fail
   rw [jump_ret]
   go_ret2
   exact ⟨none,0,by rfl,books_nil _ _ _ (fun _=>rfl),Hb4.out,ownBooks_nil _ _⟩
 · obtain rfl:res=(l.set k ⟨ro.inc,x + amount,ro.out⟩,0):=HX.out.trans ((if_pos (by omega)).trans (if_pos (by omega)))
   go_wp2_with fail
   refine (copied_calls (some ⟨b,off,none⟩) m d l Hm.out (by omega) (fun q hq=>by have:=(HF.out q hq).1; have:=Hm.out; omega) _ (HB.out.later Hb4.out)).mono ?_
   rintro e w5 ⟨A2,C2,rfl,hO,hb⟩;have Hb5:=qH (held_next Hb4.out hb);have hsz:=Hb4.out.size;obtain ⟨g,hG⟩:=hO;obtain ⟨bb,cap,hv,hbb,hblt,hfz,hcs,hG2⟩:=ownG_set (r:=⟨ro.inc,x + amount,ro.out⟩) (j:=1) hG hkl (by decide) (x + amount) (by rw [Hro.out]) (by rw [Hro.out]; rfl) rfl
   simp only [Value.slice.injEq] at hv;obtain ⟨rfl,_,rfl⟩:=hv;have e0:=hcs k 1 hkl (by decide)
   rw [show rowCell l g k 1=.int .i64 x by unfold rowCell; rw [if_neg (by decide),if_pos rfl,Hro.out,Hx.out]] at e0
   have y0:=hfz (k * 3 + 1)
   obtain ⟨A3,C3,hv3,hBk⟩:=OwnBooks.books ⟨g,hG2⟩ (by rw [List.length_set]; omega) (fun q hq=>by
    rw [List.length_set] at hq;rw [at_set hkl]
    by_cases hqk:q=k
    · rw [if_pos hqk]; show ro.out.length≤_; omega
    · rw [if_neg hqk]; have:=(HF.out q hq).1; omega)
   have HO3:=qH (show OwnBooks _ w.heap.size _ _ from OwnBooks.mono ⟨g,hG2⟩ (by omega))
   rw [hv3] at HO3;have Hv3:=qH hv3;have HBk:=qH hBk;have HbE:Hid (Below w.heap.size w (w5.setCell ⟨bb,k * 3 + 1,none⟩ (.int .i64 (x + amount)))):=Hb5.out.setCell (p:=⟨bb,k * 3 + 1,none⟩) (by show w.heap.size≤bb; omega) _
   have k2:(k:Int) < (l.length:Int):=by omega
   clear hb hG hcs hfz hG2 hv3 hBk c1 hlen
   go_wp2_with fail
   rw [jump_ret]
   go_ret2
   exact ⟨A3,C3,by rw [← Hv3.out]; rfl,HBk.out,HbE.out,HO3.out⟩
end Go.Proofs.YtecjnkokdnmhlaaGreat
namespace Go.Proofs.YtecjnkokdnmhlaaGreat
open Go.RowKit
set_option maxRecDepth 100000 in
set_option maxHeartbeats 8000000 in
theorem serve18_calls {n0 g:Nat} {E:Nat→Prop} {c:Cf} {who:Int} {x:Nd} {p:Nl} {code:Int} {W:World} (h:St n0 E W g c who x p code) (hI:IK c who x.bk) :
 Calls Tryz.prog 84 #[.pointer (some ⟨g,0,none⟩)] W (fun e w'=>e=.returned (.tuple #[])∧StepTo n0 E g c who p W (bkN x (serveK c who x.bk.line.length x.bk)) code w'):=by
 have HS0:=qH h;have HI0:=qH hI;clear h hI;obtain ⟨T,HT⟩:∃ z,Hid (serveK c who x.bk.line.length x.bk=z):=⟨_,rfl⟩;rw [HT.out]
 go_enter Tryz.func84,Tryz.ntmps84
 go_wp2_with fail
 go_loopg [2,3] x.bk.line.length (fun q _ _ wr=>∃ (kr:Bk) (pr:Nl),kr.line.length=q∧Hid (St n0 E wr g c who (bkN x kr) pr code)∧Hid (Kept g p pr W wr)∧Hid (IK c who kr)∧Hid (serveK c who kr.line.length kr=T))
 case atStart=>exact ⟨x.bk,p,rfl,HS0.out,Kept.refl _ _ _,HI0.out,HT.out⟩
 case round =>
  clear HS0 HI0 HT;obtain ⟨kr,pr,hq,HS,HK,HI,HT⟩:=hrel;have Hq:=qH hq;clear hq;have few:=HI.out.few;obtain ⟨w0,hw0⟩:∃ z,z=wr:=⟨_,rfl⟩;subst hw0;have hlt:=HS.out.lt;obtain ⟨bw,Hbw⟩:∃ z,Hid (decide (0 < kr.line.length)=z):=⟨_,rfl⟩;have O0:=qH (waits_calls HS.out);rw [show decide (0 < (bkN x kr).bk.line.length)=bw from Hbw.out] at O0
  go_wp2_with fail
  refine O0.out.mono ?_;rintro e w1 ⟨rfl,rfl⟩;clear O0
  cases bw with
  | false =>
    have hstop:kr=T:=by rw [← HT.out]; exact (serve_stop (fun h=>h.1 (List.eq_nil_of_length_eq_zero (by have:=of_decide_eq_false Hbw.out; omega))) _).symm
    subst hstop
    go_wp2_with fail
    exact bodyPost_end (v:=.tuple #[]) (by simp [results,Tryz.results84,go_sem]) rfl ⟨rfl,_,HS.out,HK.out⟩
  | true =>
  obtain ⟨z,Hz⟩:∃ z,Hid (heldB c who kr.notes (headQ kr).t (headQ kr).a=z):=⟨_,rfl⟩;have O1:=qH (stepheld_calls HS.out few.2.2);rw [show heldB c who (bkN x kr).bk.notes (headQ (bkN x kr).bk).t (headQ (bkN x kr).bk).a=z from Hz.out] at O1
  go_wp2_with fail
  refine O1.out.mono ?_;rintro e w1 ⟨rfl,hb1⟩;clear O1;have HS1:=qH (HS.out.later hb1);have HK1:=qH (HK.out.next hb1);clear hb1;have hlt1:=HS1.out.lt
  cases z with
  | true =>
    have hstop:kr=T:=by rw [← HT.out]; exact (serve_stop (fun h=>by have:=h.2.1; rw [Hz.out] at this; cases this) _).symm
    subst hstop
    go_wp2_with fail
    exact bodyPost_end (v:=.tuple #[]) (by simp [results,Tryz.results84,go_sem]) rfl ⟨rfl,_,HS1.out,HK1.out⟩
  | false =>
  have hne:kr.line ≠ []:=fun h=>by have:=of_decide_eq_true Hbw.out; rw [h] at this; simp at this
  have Hne:=qH hne;clear hne;obtain ⟨⟨ht,ha,hq⟩,Hh⟩:∃ z,Hid (headQ kr=z):=⟨_,rfl⟩;obtain ⟨⟨l,cd⟩,Hm⟩:∃ z,Hid (takeR c kr.rows who hq=z):=⟨_,rfl⟩;obtain ⟨L,HL⟩:∃ z,Hid (l.length=z):=⟨_,rfl⟩
  have O1:Hid (∀ w',Below w1.heap.size w1 w'→Calls Tryz.prog 140 #[.pointer (some ⟨g,0,none⟩)] w' (fun e w2=>e=.returned (rqV ⟨ht,ha,hq⟩)∧Below w'.heap.size w' w2)):=fun w' hb=>by
   have h1:=head18_calls (HS1.out.later hb);rw [show headQ (bkN x kr).bk=⟨ht,ha,hq⟩ from Hh.out] at h1
   exact h1
  have O2:Hid (∀ w',Below w1.heap.size w1 w'→Calls Tryz.prog 139 #[cfV c,.slice pr.bl.a1 pr.bl.m1 pr.bl.c1,.int .i64 who,.int .i64 hq] w' (BooksO w' (l,cd))):=fun w' hb=>by
   have h1:=rTake_far c pr.bl.a1 pr.bl.m1 pr.bl.c1 kr.rows who hq HS1.out.inn.1.1 w' (HS1.out.inn.1.2.later hb);rw [Hm.out] at h1
   exact h1
  have hfd:∀ w:World,(Instr.field 59 (.agg #[.int .i64 ht,.int .i64 ha,.int .i64 hq]) 1).run Tryz.prog w=.ok (.int .i64 hq) w:=fun _=>rfl
  have KP:Hid (∀ w',Below w1.heap.size w1 w'→(Below w1.heap.size w1 w'∧w'.cell? ⟨g,15,none⟩=some (.int .i64 c.n)∧w'.cell? ⟨g,16,none⟩=some (.int .i64 c.q)∧w'.cell? ⟨g,17,none⟩=some (.int .i64 c.r)∧w'.cell? ⟨g,18,none⟩=some (.int .i64 c.p)∧w'.cell? ⟨g,19,none⟩=some (.int .i64 c.k)∧w'.cell? ⟨g,20,none⟩=some (.int .i64 c.c)∧w'.cell? ⟨g,21,none⟩=some (.int .i64 who)∧w'.cell? ⟨g,1,none⟩=some (.slice pr.bl.a1 pr.bl.m1 pr.bl.c1))):=fun w' hb=>⟨hb,(HS1.out.later hb).ob.cell 15,(HS1.out.later hb).ob.cell 16,(HS1.out.later hb).ob.cell 17,(HS1.out.later hb).ob.cell 18,(HS1.out.later hb).ob.cell 19,(HS1.out.later hb).ob.cell 20,(HS1.out.later hb).ob.cell 21,(HS1.out.later hb).ob.cell 1⟩
  have z15:w1.cell? ⟨g,15,none⟩=some (.int .i64 c.n):=HS1.out.ob.cell 15;have z16:w1.cell? ⟨g,16,none⟩=some (.int .i64 c.q):=HS1.out.ob.cell 16;have z17:w1.cell? ⟨g,17,none⟩=some (.int .i64 c.r):=HS1.out.ob.cell 17;have z18:w1.cell? ⟨g,18,none⟩=some (.int .i64 c.p):=HS1.out.ob.cell 18;have z19:w1.cell? ⟨g,19,none⟩=some (.int .i64 c.k):=HS1.out.ob.cell 19;have z20:w1.cell? ⟨g,20,none⟩=some (.int .i64 c.c):=HS1.out.ob.cell 20
  have z21:w1.cell? ⟨g,21,none⟩=some (.int .i64 who):=HS1.out.ob.cell 21;have z1:w1.cell? ⟨g,1,none⟩=some (.slice pr.bl.a1 pr.bl.m1 pr.bl.c1):=HS1.out.ob.cell 1
  go_wp2_with fail
  go_region_held3 (fun w'=>Below w1.heap.size w1 w'∧w'.cell? ⟨g,15,none⟩=some (.int .i64 c.n)∧w'.cell? ⟨g,16,none⟩=some (.int .i64 c.q)∧w'.cell? ⟨g,17,none⟩=some (.int .i64 c.r)∧w'.cell? ⟨g,18,none⟩=some (.int .i64 c.p)∧w'.cell? ⟨g,19,none⟩=some (.int .i64 c.k)∧w'.cell? ⟨g,20,none⟩=some (.int .i64 c.c)∧w'.cell? ⟨g,21,none⟩=some (.int .i64 who)∧w'.cell? ⟨g,1,none⟩=some (.slice pr.bl.a1 pr.bl.m1 pr.bl.c1))
   (first | exact KP.out _ (Below.refl _ _).drew | (refine KP.out _ ?_; assumption))
   (first | (go_at_call 140; have hcur:=(‹Below w1.heap.size w1 _∧_∧_›).1; (with_reducible refine (O1.out _ hcur).mono ?_); rintro ee wn ⟨rfl,hb⟩; have hS:=held_next hcur hb; clear hb) | (go_at_call 139; have hcur:=(‹Below w1.heap.size w1 _∧_∧_›).1; (with_reducible refine (O2.out _ hcur).mono ?_); rintro ee wn ⟨A,C,rfl,hB,hb,hO⟩; have HSn:=qH (HS1.out.later (held_next hcur hb)); have HBn:=qH (booksO_stay (B:=w1.heap.size) hO hB hcur.size); rw [HL.out] at HBn; try rw [HL.out]; have hz1:=HSn.out.ob.cell 1; have hy1:=HSn.out.ob.free 1; clear hO hB; have hS:=held_next hcur hb; clear hb))
  all_goals (
   by_cases hc:cd=0
   · subst hc
     have hok:serveOk c who kr:=⟨Hne.out,Hz.out,by rw [Hh.out]; show (takeR c kr.rows who hq).2=0; rw [Hm.out]⟩
     have hsv:servedK c who kr=leftK (rowsK kr l) 0:=by unfold servedK; rw [Hh.out]; show leftK (rowsK kr (takeR c kr.rows who hq).1) 0=_; rw [Hm.out]
     have hE:=HSn.out.rows (l:=l) (A:=A) (C:=C) (by rw [HL.out]; exact HS1.out.stay HBn.out)
     rw [HL.out] at hE;have HE:=qH hE;have HI2:=qH (HI.out.served hok);have HT2:Hid (serveK c who (servedK c who kr).line.length (servedK c who kr)=T):=by rw [← serve_step hok]; exact HT.out
     have Hlen:Hid ((servedK c who kr).line.length < kr.line.length):=by rw [hsv]; exact left_less (k:=rowsK kr l) Hne.out 0
     rw [hsv] at HI2 HT2 Hlen;have O3:=qH (leave18_calls HE.out.1 0 few.1 few.2.1);clear hE hok hsv
     go_wp2_with fail
     refine O3.out.mono ?_;rintro e w4 ⟨rfl,p4,hS4,hK4⟩;have HS4:=qH hS4;have HK4:=qH ((HK1.out.trans (Kept.of hS)).trans (HE.out.2.trans hK4));clear hS4 hK4 O3
     go_wp2_with fail
     go_roundg (leftK (rowsK kr l) 0).line.length
     case rel=>exact ⟨leftK (rowsK kr l) 0,p4,rfl,HS4.out,HK4.out,HI2.out,HT2.out⟩
     case measure=>have h1:=Hlen.out; have h2:=Hq.out; omega
   · have hstop:kr=T:=by rw [← HT.out]; exact (serve_stop (fun h=>hc (by have:=h.2.2; rw [Hh.out] at this; simp only at this; rw [Hm.out] at this; exact this)) _).symm
     subst hstop;have hcb:(cd != 0)=true:=bne_iff_ne.2 hc
     go_wp2_with fail
     exact bodyPost_ret (v:=.tuple #[]) (by simp [results,Tryz.results84,go_sem]) rfl ⟨rfl,_,HSn.out,HK1.out.trans (Kept.of hS)⟩)
end Go.Proofs.YtecjnkokdnmhlaaGreat
namespace Go.Proofs.YtecjnkokdnmhlaaGreat
def UpR (x y:Rw):Prop:=x.inc≤y.inc∧x.use≤y.use∧x.out.length=y.out.length∧∀ k,k < x.out.length→x.out[k]?.getD 0≤y.out[k]?.getD 0
theorem UpR.refl (x:Rw):UpR x x:=⟨Int.le_refl _,Int.le_refl _,rfl,fun _ _=>Int.le_refl _⟩
theorem UpR.trans {x y z:Rw} (h:UpR x y) (g:UpR y z):UpR x z:=⟨Int.le_trans h.1 g.1,Int.le_trans h.2.1 g.2.1,h.2.2.1.trans g.2.2.1,fun k hk=>Int.le_trans (h.2.2.2 k hk) (g.2.2.2 k (by rw [← h.2.2.1]; exact hk))⟩
def UpK (who:Int) (l l':List Rw):Prop:=UpR (at_ l who.toNat) (at_ l' who.toNat)
theorem take_up {c:Cf} {l:List Rw} {who amount:Int} (h:(takeR c l who amount).2=0):UpK who l (takeR c l who amount).1:=by
 unfold takeR at h ⊢
 by_cases h1:askedV c l who amount=0
 · rw [if_pos h1] at h ⊢
   obtain ⟨hok,h3,h4,h5,h6⟩:=askedV_zero h1;have hk:who.toNat < l.length:=by have:=hok.2.1; omega
   by_cases h2:amount≤rightsV c l who.toNat
   · rw [if_pos h2] at h ⊢
     by_cases h7:(at_ l who.toNat).use + amount≤1099511627776
     · rw [if_pos h7]
       unfold UpK
       simp only;rw [at_set hk,if_pos rfl]
       exact ⟨Int.le_refl _,by simp only; omega,rfl,fun _ _=>Int.le_refl _⟩
     · rw [if_neg h7] at h; cases h
   · rw [if_neg h2] at h; cases h
 · rw [if_neg h1] at h; exact absurd h h1
theorem move_up {c:Cf} {l:List Rw} {who tg amount:Int} (h:(moveR c l who tg amount).2=0):UpK who l (moveR c l who tg amount).1:=by
 unfold moveR at h ⊢
 by_cases h0:askedV c l who amount ≠ 1∧0≤tg∧tg < c.n∧tg ≠ who
 · rw [if_pos h0] at h ⊢
   by_cases h1:askedV c l who amount=0
   · rw [if_pos h1] at h ⊢
     obtain ⟨hok,h3,h4,h5,h6⟩:=askedV_zero h1;have hk:who.toNat < l.length:=by have:=hok.2.1; omega
     by_cases h2:amount≤rightsV c l who.toNat
     · rw [if_pos h2] at h ⊢
       by_cases h7:(at_ l who.toNat).out[tg.toNat]?.getD 0 + amount≤1125899906842624
       · rw [if_pos h7]
         unfold UpK
         simp only;rw [at_set hk,if_pos rfl];refine ⟨Int.le_refl _,Int.le_refl _,List.length_set.symm,fun k hk2=>?_⟩
         simp only
         by_cases e:k=tg.toNat
         · subst e
           rw [List.getElem?_set_self hk2]
           show _≤(at_ l who.toNat).out[tg.toNat]?.getD 0 + amount
           omega
         · rw [List.getElem?_set_ne (fun h=>e h.symm)]; exact Int.le_refl _
       · rw [if_neg h7] at h; cases h
     · rw [if_neg h2] at h; cases h
   · rw [if_neg h1] at h; cases h
 · rw [if_neg h0] at h; cases h
theorem served_up {c:Cf} {who:Int} {k:Bk} (h:serveOk c who k):UpK who k.rows (servedK c who k).rows:=take_up h.2.2
theorem serve_up {c:Cf} {who:Int}:∀ (f:Nat) (k:Bk),UpK who k.rows (serveK c who f k).rows
 | 0,_=>UpR.refl _
 | f + 1, k => by
   unfold serveK
   split
   · rename_i h; exact (served_up h).trans (serve_up f _)
   · exact UpR.refl _
theorem goes_rows (c:Cf) (who:Int) (k:Bk):(goesK c who k).rows=k.rows:=by unfold goesK; split <;> rfl
theorem ends_rows (c:Cf) (who:Int) (k:Bk):(endsK c who k).rows=k.rows:=by unfold endsK; split <;> rfl
theorem once_up {c:Cf} {who:Int} (k:Bk):UpK who k.rows (onceK c who k).rows:=by
 unfold onceK
 rw [goes_rows]
 exact serve_up _ _
theorem loop_up {c:Cf} {who:Int}:∀ (f:Nat) (k:Bk),UpK who k.rows (loopK c who f k).rows
 | 0,_=>UpR.refl _
 | f + 1, k => by
   unfold loopK
   split
   · exact (once_up k).trans (loop_up f (leftK (onceK c who k) 7))
   · rw [ends_rows]; exact once_up k
theorem moveK_up {c:Cf} {who:Int} (k:Bk) (tg amount:Int):UpK who k.rows (moveK c who k tg amount).rows:=by
 unfold moveK
 split
 · rename_i h; exact move_up h
 · exact UpR.refl _
theorem yield_up {c:Cf} {who:Int} (k:Bk):UpK who k.rows (yieldK c who k).rows:=by
 unfold yieldK
 split
 · exact moveK_up _ _ _
 · exact UpR.refl _
theorem settle_up {c:Cf} {who:Int} (k:Bk):UpK who k.rows (settleK c who k).rows:=(loop_up _ k).trans (yield_up _)
theorem calls_other {c:Cf} {who:Int} {l:List Nt} (h:notesOk c who l) (x:Rq) (hc:(callsN c who l x).2=true):(0≤(callsN c who l x).1∧(callsN c who l x).1 < c.n)∧(callsN c who l x).1 ≠ who:=by
 unfold callsN at hc ⊢
 by_cases h1:(oldestN c who l).2=true∧¬ (x.m ≠ 0∧olderB x.t x.a (oldestN c who l).1.t (oldestN c who l).1.a=true)
 · rw [if_pos h1]
   rcases oldest_is h with h2 | h2
   · exact absurd h1.1 (by rw [h2.1]; decide)
   · obtain ⟨j,hj,he,ho,_⟩:=h2
     rw [he];have e1:=h.own hj ho;have e2:=h.other hj ho;have e3:(headOf (ntAt l j)).a=(ntAt l j).a:=rfl;simp only;rw [e3,e1];have:=h.2.2.1
     exact ⟨⟨by omega,by omega⟩,e2⟩
 · rw [if_neg h1] at hc; cases hc
theorem settle_at_once {c:Cf} {who:Int} {k:Bk} {r:Rq} (hl:k.line=[r]) (ho:notesOk c who k.notes) (hn:(oldestN c who k.notes).2=false) (ht:(takeR c k.rows who r.m).2=0) :
 settleK c who k=⟨k.clk,(takeR c k.rows who r.m).1,[],k.outs ++ [⟨r.t,r.a,0⟩],0,k.notes,au0⟩:=by
 have hh:headQ k=r:=by unfold headQ; rw [hl]; rfl
 have hs:serveOk c who k:=⟨by rw [hl]; exact List.cons_ne_nil _ _,held_none ho _ _ hn,by rw [hh]; exact ht⟩
 have hk1:servedK c who k=⟨k.clk,(takeR c k.rows who r.m).1,[],k.outs ++ [⟨r.t,r.a,0⟩],0,k.notes,au0⟩:=by
  unfold servedK
  rw [hh]
  unfold leftK
  show (⟨k.clk,(takeR c k.rows who r.m).1,k.line.tail,k.outs ++ [⟨(headQ k).t,(headQ k).a,0⟩],0,k.notes,au0⟩:Bk)=_
  rw [hh,hl]; rfl
 have hon:onceK c who k=servedK c who k:=by
  unfold onceK
  rw [serve_step hs];have hline:(servedK c who k).line=[]:=by rw [hk1]
  rw [serve_stop (fun h=>h.1 hline)]
  unfold goesK
  rw [if_neg];have hau:(servedK c who k).au=au0:=rfl;rw [hau]
  unfold nextA
  split
  · rw [if_neg (fun h=>absurd h.1 (by decide))]; decide
  · decide
 have hend:endsK c who (servedK c who k)=servedK c who k:=by
  unfold endsK
  rw [if_neg];have hau:(servedK c who k).au=au0:=rfl;rw [hau]
  unfold endsA
  rw [if_neg (fun h=>absurd h.2.2.1 (by decide))]; decide
 unfold settleK
 rw [loop_stop (by rw [hon]; exact fun h=>h.1 (by rw [hk1])),hon,hend]
 unfold yieldK
 rw [if_neg,hk1];rw [hk1,calls_none hn]
 decide
open Go.RowKit
set_option maxRecDepth 100000 in
set_option maxHeartbeats 4000000 in
theorem rOf_calls (c:Cf) (a:Option Addr) (m d:Nat) (l:List Rw) (who:Int) (hm:m=l.length) (w:World) (hB:Books w (.slice a m d) l):Calls Tryz.prog 145 #[cfV c,.slice a m d,.int .i64 who] w (Num w (ofV c l who)):=by
 have HW:=qH (Whole.made w 23 (cfCells c));have Hb0:=qH (below_box w (.cells (cfCells c) 23));have HB:=qH hB; clear hB;have Hm:=qH hm; clear hm;obtain ⟨n,q,r,p,kk,cc⟩:=c;obtain ⟨v,Hv⟩:∃ z,Hid (ofV ⟨n,q,r,p,kk,cc⟩ l who=z):=⟨_,rfl⟩;rw [Hv.out];obtain ⟨ok,Hok⟩:∃ z,Hid (rightB ⟨n,q,r,p,kk,cc⟩ l=z):=⟨_,rfl⟩
 go_enter Tryz.func145,Tryz.ntmps145
 go_wp2_with fail
 refine (rRight_calls ⟨n,q,r,p,kk,cc⟩ a m d l Hm.out _ (HB.out.later Hb0.out)).mono ?_;rintro e w1 ⟨rfl,hb⟩;rw [Hok.out];have Hb1:=qH (held_next Hb0.out hb);have HW1:=qH (HW.out.later hb HW.out.lt);clear hb;obtain ⟨d0,d1,d2,d3,d4,d5⟩:=config_cells HW1.out;simp only at d0 d1 d2 d3 d4 d5
 cases ok with
 | false =>
   obtain rfl:v=0:=Hv.out.symm.trans (if_neg fun h=>by
    have:=decide_eq_true h.1;rw [show decide (rightOk ⟨n,q,r,p,kk,cc⟩ l)=false from Hok.out] at this
    cases this)
   go_wp2_with fail
   go_ret
   exact ⟨by rfl,Hb1.out⟩
 | true =>
 go_wp2_with fail
 refine (among_calls ⟨n,q,r,p,kk,cc⟩ who _).mono ?_;rintro e w2 ⟨rfl,hb⟩;have Hb2:=qH (held_next Hb1.out hb);have HW2:=qH (HW1.out.later hb HW1.out.lt);clear hb d0 d1 d2 d3 d4 d5;obtain ⟨d0,d1,d2,d3,d4,d5⟩:=config_cells HW2.out;simp only at d0 d1 d2 d3 d4 d5
 by_cases ha:0≤who∧who < n
 rotate_left 1
 · rw [amongB_no ha]
   obtain rfl:v=0:=Hv.out.symm.trans (if_neg fun h=>ha h.2)
   go_wp2_with fail
   go_ret
   exact ⟨by rfl,Hb2.out⟩
 rw [amongB_yes ha];obtain ⟨h0,h1⟩:=ha;have hR:=rightB_ok Hok.out;have hlen:=hR.2.1;have h16:=hR.len;have HF:=qH hR.fits;simp only at hlen;obtain ⟨i,rfl⟩:∃ i:Nat,who=(i:Int):=⟨who.toNat,by omega⟩
 have him:i < m:=by have:=Hm.out; omega
 have h16':m≤16:=by have:=Hm.out; omega
 have Hv':Hid (v=rightsV ⟨n,q,r,p,kk,cc⟩ l i):=by
  rw [← Hv.out]
  unfold ofV
  rw [if_pos ⟨hR,h0,h1⟩]; exact rfl
 clear hR hlen h16
 go_wp2_with fail
 refine (rights_calls ⟨n,q,r,p,kk,cc⟩ a m d _).mono ?_;rintro e w3 ⟨cv,rfl,⟨bl,ba,bc,bs,rfl,q1,q2,q3,q4⟩,hb⟩;have Hb3:=qH (held_next Hb2.out hb);have Q1:=qH q1; clear q1;have Q2:=qH q2; clear q2;have Q3:=qH q3; clear q3;have Q4:=qH q4; clear q4;clear hb d0 d1 d2 d3 d4 d5
 go_wp2_with fail
 refine (clos_calls ⟨n,q,r,p,kk,cc⟩ a m d l i Hm.out h16' him HF.out bl ba bc bs _ (HB.out.later Hb3.out) Q1.out Q2.out Q3.out Q4.out).mono ?_;rintro e w4 ⟨rfl,hb⟩;rw [← Hv'.out];have Hb4:=qH (held_next Hb3.out hb);clear hb
 go_wp2_with fail
 go_ret
 exact ⟨by rfl,Hb4.out⟩
end Go.Proofs.YtecjnkokdnmhlaaGreat
