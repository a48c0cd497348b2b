/- Parts, as far as NodeAtOnceCards reaches them, of: RefRightsOne, RefRightsAsked, RefRightsCopy, RefRightsTake, Ref04Same, RefRightsSame. No law is proved here. -/
import Derived.Test.YtecjnkokdnmhlaaGreatTa40
namespace Go.Proofs.YtecjnkokdnmhlaaGreat
open Go.RowKit
set_option maxRecDepth 100000 in
set_option maxHeartbeats 4000000 in
theorem refOf_calls (c:Cf) (a:Option Addr) (m d:Nat) (l:List Rw) (who:Int) (hm:m=l.length) (w:World) (hB:Books w (.slice a m d) l) :
 Calls Tryz.prog 29 #[cfV c,.slice a m d,.int .i64 who] w (fun e w'=>e=.returned (.int .i64 (ofV c l who))∧Below w.heap.size w w'):=by
 have HW:=qH (Whole.made w 23 (cfCells c));have Hb0:=qH (below_box w (.cells (cfCells c) 23));have HB:=qH hB; clear hB;have Hm:=qH hm; clear hm;obtain ⟨v,Hv⟩:∃ z,Hid (ofV c l who=z):=⟨_,rfl⟩;rw [Hv.out];obtain ⟨ok,Hok⟩:∃ z,Hid (rightB c l=z):=⟨_,rfl⟩
 go_enter Tryz.func29,Tryz.ntmps29
 go_wp2_with fail
 refine (refright_calls c a m d l Hm.out _ (HB.out.later Hb0.out)).mono ?_;rintro e w1 ⟨rfl,hb⟩;rw [Hok.out];have Hb1:=qH (held_next Hb0.out hb);have HW1:=qH (HW.out.later hb HW.out.lt);clear hb;obtain ⟨d0,d1,d2,d3,d4,d5⟩:=config_cells HW1.out
 cases ok with
 | false =>
   obtain rfl:v=0:=Hv.out.symm.trans (if_neg fun h=>by
    have:=decide_eq_true h.1;rw [show decide (rightOk c l)=false from Hok.out] at this
    cases this)
   go_wp2_with fail
   go_ret
   exact ⟨rfl,Hb1.out⟩
 | true =>
   by_cases h0:0≤who
   · by_cases h1:who < c.n
     · have hR:=rightB_ok Hok.out
       have hlen:=hR.2.1;have h16:=hR.len;have HF:=qH hR.fits;obtain ⟨i,rfl⟩:∃ i:Nat,who=(i:Int):=⟨who.toNat,by omega⟩
       have him:i < m:=by have:=Hm.out; omega
       have h16':m≤16:=by have:=Hm.out; omega
       have Hv':Hid (v=rightsV c l i):=by
        rw [← Hv.out]
        unfold ofV
        rw [if_pos ⟨hR,h0,h1⟩]; exact rfl
       clear hR hlen h16
       go_wp2_with fail
       refine (refof_calls c a m d l i Hm.out h16' him HF.out _ (HB.out.later Hb1.out)).mono ?_;rintro e w2 ⟨rfl,hb⟩;rw [← Hv'.out];have Hb2:=qH (held_next Hb1.out hb);clear hb
       go_wp2_with fail
       go_ret
       exact ⟨by rfl,Hb2.out⟩
     · obtain rfl:v=0:=Hv.out.symm.trans (if_neg fun h=>h1 h.2.2)
       go_wp2_with fail
       go_ret
       exact ⟨by rfl,Hb1.out⟩
   · obtain rfl:v=0:=Hv.out.symm.trans (if_neg fun h=>h0 h.2.1)
     go_wp2_with fail
     go_ret
     exact ⟨by rfl,Hb1.out⟩
end Go.Proofs.YtecjnkokdnmhlaaGreat
namespace Go.Proofs.YtecjnkokdnmhlaaGreat
open Go.RowKit
set_option maxRecDepth 100000 in
set_option maxHeartbeats 4000000 in
theorem refasked_calls (c:Cf) (a:Option Addr) (m d:Nat) (l:List Rw) (who amount:Int) (hm:m=l.length) (w:World) (hB:Books w (.slice a m d) l) :
 Calls Tryz.prog 70 #[cfV c,.slice a m d,.int .i64 who,.int .i64 amount] w (fun e w'=>e=.returned (.int .i64 (askedV c l who amount))∧Below w.heap.size w w'):=by
 have HW:=qH (Whole.made w 23 (cfCells c));have Hb0:=qH (below_box w (.cells (cfCells c) 23));have HB:=qH hB; clear hB;have Hm:=qH hm; clear hm;obtain ⟨n,q,r,p,kk,cc⟩:=c;obtain ⟨res,Hres⟩:∃ z,Hid (askedV ⟨n,q,r,p,kk,cc⟩ l who amount=z):=⟨_,rfl⟩;rw [Hres.out];obtain ⟨ok,Hok⟩:∃ z,Hid (rightB ⟨n,q,r,p,kk,cc⟩ l=z):=⟨_,rfl⟩
 go_enter Tryz.func70,Tryz.ntmps70
 go_wp2_with fail
 refine (refright_calls ⟨n,q,r,p,kk,cc⟩ a m d l Hm.out _ (HB.out.later Hb0.out)).mono ?_;rintro e w1 ⟨rfl,hb⟩;rw [Hok.out];have Hb1:=qH (held_next Hb0.out hb);have HW1:=qH (HW.out.later hb HW.out.lt);clear hb;obtain ⟨d0,d1,d2,d3,d4,d5⟩:=config_cells HW1.out;simp only at d0 d1 d2 d3 d4 d5
 cases ok with
 | false =>
   obtain rfl:res=1:=Hres.out.symm.trans (askedV_no fun h=>by
    have:=decide_eq_true h.1;rw [show decide (rightOk ⟨n,q,r,p,kk,cc⟩ l)=false from Hok.out] at this
    cases this)
   go_wp2_with fail
   go_ret
   exact ⟨rfl,Hb1.out⟩
 | true =>
   by_cases h0:who < 0
   · obtain rfl:res=1:=Hres.out.symm.trans (askedV_no fun h=>by have:=h.2.1; omega)
     go_wp2_with fail
     go_ret
     exact ⟨rfl,Hb1.out⟩
   by_cases h1:n≤who
   · obtain rfl:res=1:=Hres.out.symm.trans (askedV_no fun h=>by have:=h.2.2; simp only at this; omega)
     go_wp2_with fail
     go_ret
     exact ⟨rfl,Hb1.out⟩
   have HV:Hid (res=if 1≤amount∧amount≤1099511627776 then 0 else 2):=Hres.out.symm.trans (if_pos ⟨rightB_ok Hok.out,by omega,by simp only; omega⟩)
   by_cases h2:amount < 1
   · obtain rfl:res=2:=HV.out.trans (if_neg fun h=>by omega)
     go_wp2_with fail
     go_ret
     exact ⟨rfl,Hb1.out⟩
   by_cases h3:amount > 1099511627776
   · obtain rfl:res=2:=HV.out.trans (if_neg fun h=>by omega)
     go_wp2_with fail
     go_ret
     exact ⟨rfl,Hb1.out⟩
   obtain rfl:res=0:=HV.out.trans (if_pos ⟨by omega,by omega⟩)
   go_wp2_with fail
   go_ret
   exact ⟨rfl,Hb1.out⟩
end Go.Proofs.YtecjnkokdnmhlaaGreat
namespace Go.Proofs.YtecjnkokdnmhlaaGreat
open Go.RowKit
attribute [local go_sem ↓] run_fine
set_option maxRecDepth 100000 in
set_option maxHeartbeats 8000000 in
theorem refcopy_calls (a:Option Addr) (m d:Nat) (l:List Rw) (hm:m=l.length) (h4:m≤1000) (hlen:∀ k,k < l.length→(at_ l k).out.length≤1000) (w:World) (hA:Books w (.slice a m d) l) :
 Calls Tryz.prog 24 #[.slice a m d] w (Copied w l):=by
 have HA:=qH hA; clear hA;have Hm:=qH hm; clear hm;have HL:=qH hlen; clear hlen;have hbm:m≤9223372036854775807:=by omega
 obtain ⟨i0,hi,hz0,hz1,hz2⟩:=info_parts info_int64;have Hi:=qH hi; clear hi;have Hz0:=qH hz0; clear hz0;have Hz1:=qH hz1; clear hz1;have Hz2:=qH hz2; clear hz2;obtain ⟨i5,hi,hz0,hz1,hz2⟩:=info_parts info_row;have Ki:=qH hi; clear hi;have Kz0:=qH hz0; clear hz0;have Kz1:=qH hz1; clear hz1;have Kz2:=qH hz2; clear hz2
 go_enter Tryz.func24,Tryz.ntmps24
 go_wp2_with fail
 go_loopw [3,4] (fun t x wr=>∃ (k:Nat) (tv:Value),k≤m∧t=tv∧x=.int .i64 k∧Hid (OwnBooks wr w.heap.size tv (l.take k))∧Hid (Below w.heap.size w wr)) (fun _ x _=>m - (intOf x).toNat)
 case atStart=>exact ⟨0,_,Nat.zero_le _,rfl,rfl,by rw [List.take_zero]; exact ownBooks_nil _ _,Below.refl _ _⟩
 case round =>
  obtain ⟨k,tv,hk,htv,rfl,HO,Hb⟩:=hrel;have htv':=htv.symm;subst htv';clear htv
  by_cases hlt:k < m
  · obtain ⟨g,hG⟩:=HO.out
    obtain ⟨b,off,A,C,rfl,hbw,c0,c1,c2,hN⟩:=HA.out.at (k:=k) (by have:=Hm.out; omega)
    have hout:=HL.out k (by have:=Hm.out; omega)
    obtain ⟨r,Hr⟩:∃ z,Hid (at_ l k=z):=⟨_,rfl⟩;rw [Hr.out] at c0 c1 c2 hN hout;have htl:(l.take k).length=k:=by rw [List.length_take]; have:=Hm.out; omega
    have hbsz:=Hb.out.size;have hb1:Below wr.heap.size wr (wr.alloc (.cells #[] 2)).drew:=(below_box wr _).drew;have hNr:=hN.later (Hb.out.trans (hb1.mono hbsz))
    obtain ⟨v1,w1,hrun1,q1,q2,q3⟩:=run_append_elems (P:=Tryz.prog) (w:=(wr.alloc (.cells #[] 2)).drew) 31 31 wr.heap.size 2 i0 _ 1 8 Tryz.underlying31 Hi.out Hz0.out Hz1.out Hz2.out rfl (by decide)
     (.slice (some ⟨wr.heap.size,0,none⟩) 0 0) 0 (fun _ _=>.bool false) (own_whole (cs:=#[]) (Whole.madeAt _ _ _ _ rfl).drew (Nat.le_refl _) rfl (by decide)) A r.out.length C (fun q _=>.int .i64 (r.out[q]?.getD 0)) hNr
     (fun _ _ _ _=>rfl) (by unfold maxLen; omega) (by omega) hb1.size
    simp only [Nat.zero_add,Nat.not_lt_zero,if_false,Nat.sub_zero] at q1;rw [← flat_one] at q1;obtain ⟨A1,C1,rfl,_⟩:=nums_of_own q1 rfl (by omega)
    have hb2:Below wr.heap.size wr w1:=hb1.trans q2;have hb3:Below wr.heap.size wr (w1.alloc (.cells #[.int .i64 r.inc,.int .i64 r.use,.slice A1 r.out.length C1] 77)):=hb2.alloc hb2.size _
    obtain ⟨v2,w2,hrun2,p1,p2,p3⟩:=run_append_elems (P:=Tryz.prog) (w:=w1.alloc (.cells #[.int .i64 r.inc,.int .i64 r.use,.slice A1 r.out.length C1] 77)) 24 24 w.heap.size 77 i5 _ 3 40 Tryz.underlying24 Ki.out Kz0.out Kz1.out Kz2.out rfl (by decide)
     _ _ _ (own_later hG.1 hb3) (some ⟨w1.heap.size,0,none⟩) 1 1 (fun _ j=>if j=0 then .int .i64 r.inc else if j=1 then .int .i64 r.use else .slice A1 r.out.length C1) (one_row (Whole.made w1 _ _))
     (fun i j _ hj=>by match j,hj with | 0,_=>rfl | 1,_=>rfl | 2,_=>rfl) (by rw [htl]; unfold maxLen; omega) (by rw [htl]; omega) (by have:=hb3.size; omega)
    obtain ⟨A2,C2,rfl,_⟩:=elems_of_own p1 (by rw [htl]; omega)
    have hpush:=ownG_push (r:=r) hG hb3 hbsz (own_later q1 (below_box w1 _)) ⟨_,_,rfl⟩ p1 p3.1
    have Hpush:Hid (OwnBooks w2 w.heap.size (.slice A2 ((l.take k).length + 1) C2) (l.take (k + 1))):=by
     rw [take_at (by have:=Hm.out; omega),Hr.out]; exact ⟨_,hpush⟩
    have Hbn:Hid (Below w.heap.size w w2):=(Hb.out.trans (hb3.mono hbsz)).trans p2;have hf1:Fine Tryz.prog (wr.alloc (.cells #[] 2)).drew #[31,31] 31 #[.slice (some ⟨wr.heap.size,0,none⟩) 0 0,.slice A r.out.length C]:=⟨_,_,hrun1⟩;have hv1:appV Tryz.prog (wr.alloc (.cells #[] 2)).drew #[31,31] 31 #[.slice (some ⟨wr.heap.size,0,none⟩) 0 0,.slice A r.out.length C]=.slice A1 r.out.length C1:=by unfold appV; rw [hrun1]; rfl
    have hw1:appW Tryz.prog (wr.alloc (.cells #[] 2)).drew #[31,31] 31 #[.slice (some ⟨wr.heap.size,0,none⟩) 0 0,.slice A r.out.length C]=w1:=by unfold appW; rw [hrun1]; rfl
    have d0:=cell_later Hb.out c0;have d1:=cell_later Hb.out c1;have d2:=cell_later Hb.out c2;have f0:=cell_later hb2 d0;have f1:=cell_later hb2 d1;have hbr:b < wr.heap.size:=by omega
    have hb1':b < w1.heap.size:=by have:=hb2.size; omega
    have hszl:wr.heap.size < w1.heap.size:=by have:=q2.size; simp at this; omega
    have Htl:=qH htl
    generalize hk2:(l.take k).length=kk at hrun2 Hpush
    have hf2:Fine Tryz.prog (w1.alloc (.cells #[.int .i64 r.inc,.int .i64 r.use,.slice A1 r.out.length C1] 77)) #[24,24] 24 #[tv,.slice (some ⟨w1.heap.size,0,none⟩) 1 1]:=⟨_,_,hrun2⟩;have hv2:appV Tryz.prog (w1.alloc (.cells #[.int .i64 r.inc,.int .i64 r.use,.slice A1 r.out.length C1] 77)) #[24,24] 24 #[tv,.slice (some ⟨w1.heap.size,0,none⟩) 1 1]=.slice A2 (kk + 1) C2:=by unfold appV; rw [hrun2]; rfl
    have hw2:appW Tryz.prog (w1.alloc (.cells #[.int .i64 r.inc,.int .i64 r.use,.slice A1 r.out.length C1] 77)) #[24,24] 24 #[tv,.slice (some ⟨w1.heap.size,0,none⟩) 1 1]=w2:=by unfold appW; rw [hrun2]; rfl
    have Hk2:=qH hk2;clear hk2 hrun1 hrun2 q1 q2 q3 p1 p2 p3 hpush hb1 hb2 hb3 hNr hN c0 c1 c2 htl hG;have k0:(0:Int)≤(k:Int):=by omega
    have k1:(k:Int) < (m:Int):=by omega
    go_wp2
    go_region
    go_wp2
    go_roundw
    case rel=>exact ⟨k + 1,_,by omega,rfl,by go_num,Hpush,Hbn⟩
    case measure=>simp [intOf]; omega
  · have hkm:k=m:=by omega
    have hll:l.take k=l:=by rw [hkm,Hm.out,List.take_length]
    have HO':=HO.out;rw [hll] at HO';obtain ⟨A,C,rfl,_⟩:=HO'.books (by have:=Hm.out; omega) (fun q hq=>by have:=HL.out q hq; omega)
    have HO2:=qH HO';have Hll:=qH hll;clear hll HO'
    go_wp2
    go_ret
    exact ⟨A,C,by rfl,HO2.out,Hb.out⟩
end Go.Proofs.YtecjnkokdnmhlaaGreat
namespace Go.Proofs.YtecjnkokdnmhlaaGreat
open Go.RowKit
set_option maxRecDepth 100000 in
set_option maxHeartbeats 4000000 in
theorem reftake_far (c:Cf) (a:Option Addr) (m d:Nat) (l:List Rw) (who amount:Int) (hm:m=l.length) (w:World) (hB:Books w (.slice a m d) l) :
 Calls Tryz.prog 30 #[cfV c,.slice a m d,.int .i64 who,.int .i64 amount] w (BooksO w (takeR c l who amount)):=by
 have HW:=qH (Whole.made w 23 (cfCells c));have Hb0:=qH (below_box w (.cells (cfCells c) 23));have HB:=qH hB; clear hB;have Hm:=qH hm; clear hm;obtain ⟨n,q,r,p,kk,cc⟩:=c;obtain ⟨ee,He⟩:∃ z,Hid (askedV ⟨n,q,r,p,kk,cc⟩ l who amount=z):=⟨_,rfl⟩;obtain ⟨res,Hres⟩:∃ z,Hid (takeR ⟨n,q,r,p,kk,cc⟩ l who amount=z):=⟨_,rfl⟩;rw [Hres.out]
 go_enter Tryz.func30,Tryz.ntmps30
 go_wp2_with fail
 refine (refasked_calls ⟨n,q,r,p,kk,cc⟩ a m d l who amount Hm.out _ (HB.out.later Hb0.out)).mono ?_;rintro e w1 ⟨rfl,hb⟩;rw [He.out];have Hb1:=qH (held_next Hb0.out hb);have HW1:=qH (HW.out.later hb HW.out.lt);clear hb;obtain ⟨d0,d1,d2,d3,d4,d5⟩:=config_cells HW1.out;simp only at d0 d1 d2 d3 d4 d5;have hc:=askedV_cases ⟨n,q,r,p,kk,cc⟩ l who amount;rw [He.out] at hc
 rcases hc with rfl | rfl | rfl
 · have hz:=askedV_zero He.out
   obtain ⟨hok,h0,h1,h2,h3⟩:=hz;simp only at h1;have hmost:=cf_most hok.1;simp only at hmost;have h16:=hok.len;have hlen:=hok.2.1;simp only at hlen;have hF:=hok.fits;obtain ⟨k,rfl⟩:∃ k:Nat,who=(k:Int):=⟨who.toNat,by omega⟩
   have hkl:k < l.length:=by omega
   obtain ⟨hf0,hf1,hf2,hf3,hf4,_⟩:=hF k hkl;have HF:=qH hF;obtain ⟨b,off,A,C,rfl,hbw,c0,c1,c2,hN⟩:=(HB.out.later Hb1.out).at (k:=k) hkl;have Hok:=qH hok;clear hN c0 c2 hok hF;obtain ⟨ro,Hro⟩:∃ z,Hid (at_ l k=z):=⟨_,rfl⟩;rw [Hro.out] at c1 hf0 hf1 hf2 hf3 hf4;obtain ⟨z,Hz⟩:∃ z,Hid (rightsV ⟨n,q,r,p,kk,cc⟩ l k=z):=⟨_,rfl⟩
   have HP:Hid (res=if amount≤z then (if ro.use + amount≤1099511627776 then (l.set k ⟨ro.inc,ro.use + amount,ro.out⟩,0) else ([],6)) else ([],7)):=by
    rw [← Hro.out,← Hz.out]
    exact Hres.out.symm.trans (if_pos He.out)
   have k1:(k:Int) < (m:Int):=by have:=Hm.out; omega
   have k0:(0:Int)≤(k:Int):=by omega
   obtain ⟨x,Hx⟩:∃ z,Hid (ro.use=z):=⟨_,rfl⟩;rw [Hx.out] at c1 hf3 hf4 HP
   go_wp2_with fail
   refine (refof_calls ⟨n,q,r,p,kk,cc⟩ (some ⟨b,off,none⟩) m d l k Hm.out (by have:=Hm.out; omega) (by omega) HF.out _ (HB.out.later Hb1.out)).mono ?_
   rintro e w5 ⟨rfl,hb5⟩;rw [Hz.out];have Hb5:=qH (held_next Hb1.out hb5);have f1:=cell_later hb5 c1;clear hb5 c1 d0 d1 d2 d3 d4 d5
   by_cases hgt:amount > z
   · obtain rfl:res=([],7):=HP.out.trans (if_neg (by omega))
     go_wp2_with fail
     go_ret2
     exact ⟨none,0,by rfl,books_nil _ _ _ (fun _=>rfl),Hb5.out,ownBooks_nil _ _⟩
   by_cases hgt2:x + amount > 1099511627776
   · obtain rfl:res=([],6):=HP.out.trans ((if_pos (by omega)).trans (if_neg (by omega)))
     go_wp2_with fail
     go_ret2
     exact ⟨none,0,by rfl,books_nil _ _ _ (fun _=>rfl),Hb5.out,ownBooks_nil _ _⟩
   · obtain rfl:res=(l.set k ⟨ro.inc,x + amount,ro.out⟩,0):=HP.out.trans ((if_pos (by omega)).trans (if_pos (by omega)))
     go_wp2_with fail
     refine (refcopy_calls (some ⟨b,off,none⟩) m d l Hm.out (by have:=Hm.out; omega) (fun q hq=>by have:=(HF.out q hq).1; omega) _ (HB.out.later Hb5.out)).mono ?_
     rintro e w2 ⟨A2,C2,rfl,hO,hb⟩;have Hb2:=qH (held_next Hb5.out hb);have hsz:=Hb5.out.size;obtain ⟨g,hG⟩:=hO;obtain ⟨bb,cap,hv,hbb,hblt,hfz,hcs,hG2⟩:=ownG_set (r:=⟨ro.inc,x + amount,ro.out⟩) (j:=1) hG hkl (by decide) (x + amount) (by rw [Hro.out]) (by rw [Hro.out]; rfl) rfl
     simp only [Value.slice.injEq] at hv;obtain ⟨rfl,_,rfl⟩:=hv;have e0:=hcs k 1 hkl (by decide)
     rw [show rowCell l g k 1=.int .i64 x by unfold rowCell; rw [if_neg (by decide),if_pos rfl,Hro.out,Hx.out]] at e0
     have y0:=hfz (k * 3 + 1)
     obtain ⟨A3,C3,hv3,hBk⟩:=OwnBooks.books ⟨g,hG2⟩ (by rw [List.length_set]; omega) (fun q hq=>by
      rw [List.length_set] at hq;rw [at_set hkl]
      by_cases hqk:q=k
      · rw [if_pos hqk]; show ro.out.length≤_; omega
      · rw [if_neg hqk]; have:=(HF.out q hq).1; omega)
     have HO3:=qH (show OwnBooks _ w.heap.size _ _ from OwnBooks.mono ⟨g,hG2⟩ (by omega))
     rw [hv3] at HO3;have Hv3:=qH hv3;have HBk:=qH hBk;have HbE:Hid (Below w.heap.size w (w2.setCell ⟨bb,k * 3 + 1,none⟩ (.int .i64 (x + amount)))):=Hb2.out.setCell (p:=⟨bb,k * 3 + 1,none⟩) (by show w.heap.size≤bb; omega) _
     have k2:(k:Int) < (l.length:Int):=by omega
     clear hb hG hcs hfz hG2 hv3 hBk f1 hlen
     go_wp2_with fail
     go_ret2
     exact ⟨A3,C3,by rw [← Hv3.out]; rfl,HBk.out,HbE.out,HO3.out⟩
 · obtain rfl:res=([],1):=Hres.out.symm.trans (by unfold takeR; rw [He.out]; exact if_neg (by decide))
   go_wp2_with fail
   go_ret2
   exact ⟨none,0,by rfl,books_nil _ _ _ (fun _=>rfl),Hb1.out,ownBooks_nil _ _⟩
 · obtain rfl:res=([],2):=Hres.out.symm.trans (by unfold takeR; rw [He.out]; exact if_neg (by decide))
   go_wp2_with fail
   go_ret2
   exact ⟨none,0,by rfl,books_nil _ _ _ (fun _=>rfl),Hb1.out,ownBooks_nil _ _⟩
end Go.Proofs.YtecjnkokdnmhlaaGreat
namespace Go.Proofs.YtecjnkokdnmhlaaGreat
open Go.RowKit
section
variable (a:Option Addr) (n c:Nat) (b:Option Addr) (m d:Nat) (i u j v:Int) (la lb:List Int) (hn:n=la.length) (hm:m=lb.length) (w:World) (hA:Nums w (.slice a n c) la) (hB:Nums w (.slice b m d) lb)
include hn hm hA hB
set_option maxHeartbeats 1000000 in
theorem refsame_no (h:¬ (n=m∧i=j∧u=v)):Calls Tryz.prog 65 #[rowV i u (.slice a n c),rowV j v (.slice b m d)] w (Says w false):=by
 have hbig:n≤9223372036854775807:=by rw [hn]; exact hA.1
 have hbig2:m≤9223372036854775807:=by rw [hm]; exact hB.1
 clear hn hm hA hB
 by_cases h1:n=m
 · obtain rfl:=h1
   by_cases h2:i=j
   · obtain rfl:=h2
     have h3:u ≠ v:=fun e=>h ⟨rfl,rfl,e⟩
     have h3':(u != v)=true:=bne_iff_ne.2 h3;clear h
     go_enter Tryz.func65,Tryz.ntmps65
     go_wp2
     go_ret
     exact ⟨rfl,below_two w _ _⟩
   · have h3':(i != j)=true:=bne_iff_ne.2 h2
     clear h
     go_enter Tryz.func65,Tryz.ntmps65
     go_wp2
     go_ret
     exact ⟨rfl,below_two w _ _⟩
 · clear h
   have h1':((n:Int) != (m:Int))=true:=by simp; omega
   go_enter Tryz.func65,Tryz.ntmps65
   go_wp2
   go_ret
   exact ⟨rfl,below_two w _ _⟩
end
set_option maxRecDepth 100000 in
set_option maxHeartbeats 2000000 in
theorem refsame_loop (a:Option Addr) (n c:Nat) (b:Option Addr) (d:Nat) (i u j v:Int) (la lb:List Int) (hn:n=la.length) (hm:n=lb.length) (w:World) (hA:Nums w (.slice a n c) la) (hB:Nums w (.slice b n d) lb)
 (hi:i=j) (hu:u=v):Calls Tryz.prog 65 #[rowV i u (.slice a n c),rowV j v (.slice b n d)] w (Says w (sameB i u la j v lb)):=by
 have hbig:n≤9223372036854775807:=by rw [hn]; exact hA.1
 subst hi hu;obtain ⟨r,Hr⟩:∃ r,Hid (sameB i u la i u lb=r):=⟨_,rfl⟩;rw [Hr.out];have HA:=qH hA; clear hA;have HB:=qH hB; clear hB;have Hn:=qH hn; clear hn;have Hm:=qH hm; clear hm;have Hb0:=qH (below_two w (.cells #[.int .i64 i,.int .i64 u,.slice a n c] 77) (.cells #[.int .i64 i,.int .i64 u,.slice b n d] 77));have HWA:=qH ((Whole.made w 77 #[.int .i64 i,.int .i64 u,.slice a n c]).alloc (.cells #[.int .i64 i,.int .i64 u,.slice b n d] 77))
 have HWB:=qH (Whole.made2 w (.cells #[.int .i64 i,.int .i64 u,.slice a n c] 77) 77 #[.int .i64 i,.int .i64 u,.slice b n d])
 go_enter Tryz.func65,Tryz.ntmps65
 go_wp2
 go_loopw [5] (fun x wr=>∃ k:Nat,k≤n∧x=.int .i64 k∧Hid (∀ q,q < k→la[q]?.getD 0=lb[q]?.getD 0)∧Hid (Below w.heap.size w wr)∧Hid (Whole wr w.heap.size 77 #[.int .i64 i,.int .i64 u,.slice a n c])∧Hid (Whole wr (w.heap.size + 1) 77 #[.int .i64 i,.int .i64 u,.slice b n d])) (fun x _=>n - (intOf x).toNat)
 case atStart=>exact ⟨0,Nat.zero_le _,rfl,fun q hq=>absurd hq (Nat.not_lt_zero _),Hb0.out,HWA.out,HWB.out⟩
 case round =>
  obtain ⟨k,hk,rfl,Hl,Hb,HWa,HWb⟩:=hrel;have a2:wr.cell? ⟨w.heap.size,2,none⟩=some (.slice a n c):=HWa.out.cell 2;have b2:wr.cell? ⟨w.heap.size + 1,2,none⟩=some (.slice b n d):=HWb.out.cell 2
  by_cases hlt:k < n
  · obtain ⟨ba,oa,rfl,_,c0⟩:=HA.out.at (i:=k) (by have:=Hn.out; omega)
    obtain ⟨bb,ob,rfl,_,c1⟩:=HB.out.at (i:=k) (by have:=Hm.out; omega)
    have d0:=cell_later Hb.out c0;have d1:=cell_later Hb.out c1;clear c0 c1;obtain ⟨x,Hx⟩:∃ x,Hid (la[k]?.getD 0=x):=⟨_,rfl⟩;obtain ⟨y,Hy⟩:∃ y,Hid (lb[k]?.getD 0=y):=⟨_,rfl⟩;rw [Hx.out] at d0;rw [Hy.out] at d1;have k0:(0:Int)≤(k:Int):=by omega
    have k1:(k:Int) < (n:Int):=by omega
    by_cases hxy:x ≠ y
    · obtain rfl:r=false:=by
       cases r with
       | false=>rfl
       | true =>
         have:=(of_decide_eq_true Hr.out).2.2;subst this
         exact absurd (Hx.out.symm.trans Hy.out) hxy
      have hxy1:(x != y)=true:=bne_iff_ne.2 hxy
      go_wp2
      go_quiet (fail)
      go_wp2
      go_ret
      exact ⟨rfl,below_drewN Hb.out _⟩
    · obtain rfl:x=y:=by omega
      clear hxy
      go_wp2
      go_quiet (fail)
      go_wp2
      go_roundw
      case rel=>exact ⟨k + 1,by omega,by go_num,(fun q hq=>by
       by_cases e:q=k
       · subst e; rw [Hx.out,Hy.out]
       · exact Hl.out q (by omega)),below_drewN Hb.out _,HWa.out,HWb.out⟩
      case measure=>simp [intOf]; omega
  · have hkn:k=n:=by omega
    have Hkn:=qH hkn; clear hkn;obtain rfl:r=true:=Hr.out.symm.trans (decide_eq_true ⟨rfl,rfl,list_same (by rw [← Hn.out,← Hm.out]) fun q hq=>Hl.out q (by have:=Hn.out; have:=Hkn.out; omega)⟩)
    go_wp2
    go_ret
    exact ⟨rfl,Hb.out⟩
theorem refsame_calls (a:Option Addr) (n c:Nat) (b:Option Addr) (m d:Nat) (i u j v:Int) (la lb:List Int) (hn:n=la.length) (hm:m=lb.length) (w:World) (hA:Nums w (.slice a n c) la) (hB:Nums w (.slice b m d) lb) :
 Calls Tryz.prog 65 #[rowV i u (.slice a n c),rowV j v (.slice b m d)] w (Says w (sameB i u la j v lb)):=by
 by_cases h:n=m∧i=j∧u=v
 · obtain ⟨rfl,hi,hu⟩:=h
   exact refsame_loop a n c b d i u j v la lb hn hm w hA hB hi hu
 · rw [show sameB i u la j v lb=false from decide_eq_false fun ⟨h1,h2,h3⟩=>h ⟨by rw [hn,hm,h3],h1,h2⟩]
   exact refsame_no a n c b m d i u j v la lb hn hm w hA hB h
end Go.Proofs.YtecjnkokdnmhlaaGreat
namespace Go.Proofs.YtecjnkokdnmhlaaGreat
open Go.RowKit
set_option maxRecDepth 100000 in
set_option maxHeartbeats 4000000 in
theorem refsamebooks_calls (a:Option Addr) (m d:Nat) (b:Option Addr) (n e:Nat) (la lb:List Rw) (hm:m=la.length) (hn:n=lb.length) (w:World) (hA:Books w (.slice a m d) la) (hB:Books w (.slice b n e) lb) :
 Calls Tryz.prog 27 #[.slice a m d,.slice b n e] w (Says w (sameL la lb)):=by
 have hbm:m≤9223372036854775807:=by rw [hm]; exact hA.big
 have hbn:n≤9223372036854775807:=by rw [hn]; exact hB.big
 have HA:=qH hA; clear hA;have HB:=qH hB; clear hB;have Hm:=qH hm; clear hm;have Hn:=qH hn; clear hn;obtain ⟨res,Hres⟩:∃ z,Hid (sameL la lb=z):=⟨_,rfl⟩;rw [Hres.out]
 by_cases hne:m ≠ n
 · obtain rfl:res=false:=Hres.out.symm.trans (sameL_no fun h=>hne (by rw [Hm.out,Hn.out,h.1]))
   have hne':((m:Int) != (n:Int))=true:=by simp; omega
   go_enter Tryz.func27,Tryz.ntmps27
   go_wp2
   go_ret
   exact ⟨rfl,Below.refl _ _⟩
 have hne':m=n:=by omega
 clear hne;subst hne'
 go_enter Tryz.func27,Tryz.ntmps27
 go_wp2
 go_loopw [5] (fun x wr=>∃ k:Nat,k≤m∧x=.int .i64 k∧Hid (∀ q,q < k→sameB (at_ la q).inc (at_ la q).use (at_ la q).out (at_ lb q).inc (at_ lb q).use (at_ lb q).out=true)∧Hid (Below w.heap.size w wr)) (fun x _=>m - (intOf x).toNat)
 case atStart=>exact ⟨0,Nat.zero_le _,rfl,fun q hq=>absurd hq (Nat.not_lt_zero _),Below.refl _ _⟩
 case round =>
  obtain ⟨k,hk,rfl,Hl,Hb⟩:=hrel
  by_cases hlt:k < m
  · obtain ⟨g1,o1,A1,C1,rfl,_,c0,c1,c2,hN1⟩:=HA.out.at (k:=k) (by have:=Hm.out; omega)
    obtain ⟨g2,o2,A2,C2,rfl,_,d0,d1,d2,hN2⟩:=HB.out.at (k:=k) (by have:=Hn.out; omega)
    obtain ⟨v,Hv⟩:∃ z,Hid (sameB (at_ la k).inc (at_ la k).use (at_ la k).out (at_ lb k).inc (at_ lb k).use (at_ lb k).out=z):=⟨_,rfl⟩;have HN1:=qH hN1; clear hN1;have HN2:=qH hN2; clear hN2;obtain ⟨r1,R1⟩:∃ z,Hid (at_ la k=z):=⟨_,rfl⟩;obtain ⟨r2,R2⟩:∃ z,Hid (at_ lb k=z):=⟨_,rfl⟩;rw [R1.out] at c0 c1 c2 HN1 Hv;rw [R2.out] at d0 d1 d2 HN2 Hv
    have KP:Hid (∀ w',Below wr.heap.size wr w'→(w'.cell? ⟨g1,o1 + k * 3,none⟩=some (.int .i64 r1.inc)∧w'.cell? ⟨g1,o1 + k * 3 + 1,none⟩=some (.int .i64 r1.use)∧w'.cell? ⟨g1,o1 + k * 3 + 2,none⟩=some (.slice A1 r1.out.length C1)) ∧
     (w'.cell? ⟨g2,o2 + k * 3,none⟩=some (.int .i64 r2.inc)∧w'.cell? ⟨g2,o2 + k * 3 + 1,none⟩=some (.int .i64 r2.use)∧w'.cell? ⟨g2,o2 + k * 3 + 2,none⟩=some (.slice A2 r2.out.length C2))) :=
     fun w' h=>⟨⟨cell_later (held_next Hb.out h) c0,cell_later (held_next Hb.out h) c1,cell_later (held_next Hb.out h) c2⟩,cell_later (held_next Hb.out h) d0,cell_later (held_next Hb.out h) d1,cell_later (held_next Hb.out h) d2⟩
    have OM:Hid (∀ w',Below wr.heap.size wr w'→Calls Tryz.prog 65 #[rowV r1.inc r1.use (.slice A1 r1.out.length C1),rowV r2.inc r2.use (.slice A2 r2.out.length C2)] w' (Says w' v)):=by
     rw [← Hv.out]
     exact fun w' h=>refsame_calls A1 _ C1 A2 _ C2 r1.inc r1.use r2.inc r2.use r1.out r2.out rfl rfl w' (HN1.out.later (held_next Hb.out h)) (HN2.out.later (held_next Hb.out h))
    clear c0 c1 c2 d0 d1 d2;have k0:(0:Int)≤(k:Int):=by omega
    have k1:(k:Int) < (m:Int):=by omega
    go_wp2
    go_region_held3 (fun w'=>(w'.cell? ⟨g1,o1 + k * 3,none⟩=some (.int .i64 r1.inc)∧w'.cell? ⟨g1,o1 + k * 3 + 1,none⟩=some (.int .i64 r1.use)∧w'.cell? ⟨g1,o1 + k * 3 + 2,none⟩=some (.slice A1 r1.out.length C1)) ∧
     (w'.cell? ⟨g2,o2 + k * 3,none⟩=some (.int .i64 r2.inc)∧w'.cell? ⟨g2,o2 + k * 3 + 1,none⟩=some (.int .i64 r2.use)∧w'.cell? ⟨g2,o2 + k * 3 + 2,none⟩=some (.slice A2 r2.out.length C2)))
     (first | exact KP.out _ (Below.refl _ _).drew | exact KP.out _ hS1)
     (first | (go_at_call 65; refine (OM.out _ (Below.refl _ _).drew).mono ?_; rintro ee w2 ⟨rfl,hb1⟩; have hS1:=held_next ((Below.refl _ _).drew) hb1))
    cases v with
    | true =>
      go_wp2
      go_roundw
      case rel=>exact ⟨k + 1,by omega,by go_num,(fun q hq=>by
       by_cases e:q=k
       · subst e; rw [R1.out,R2.out]; exact Hv.out
       · exact Hl.out q (by omega)),held_next Hb.out hS1⟩
      case measure=>simp [intOf]; omega
    | false =>
      obtain rfl:res=false:=Hres.out.symm.trans (sameL_no fun h=>by
       have:=h.2 k (by have:=Hm.out; omega)
       rw [R1.out,R2.out,Hv.out] at this
       cases this)
      go_wp2
      go_ret
      exact ⟨by rfl,held_next Hb.out hS1⟩
  · have hkm:k=m:=by omega
    obtain rfl:res=true:=Hres.out.symm.trans (decide_eq_true ⟨by rw [← Hm.out,← Hn.out],fun q hq=>Hl.out q (by have:=Hm.out; omega)⟩)
    have Hkm:=qH hkm; clear hkm
    go_wp2
    go_ret
    exact ⟨by rfl,Hb.out⟩
end Go.Proofs.YtecjnkokdnmhlaaGreat
