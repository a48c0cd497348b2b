/- Parts, as far as NodeAtOnceCards reaches them, of: NodeSettles, NodeCopyRows, ClaimOwn, NodeClone. No law is proved here. -/
import Derived.Test.YtecjnkokdnmhlaaGreatTa22
namespace Go.Proofs.YtecjnkokdnmhlaaGreat
open Go.RowKit
def lineM (g:Nat) (w:World):Nat:=match w.cell? ⟨g,2,none⟩ with
 | some (.slice _ m _)=>m
 | _=>0
theorem lineM_of {n0 g:Nat} {E:Nat→Prop} {c:Cf} {who:Int} {x:Nd} {p:Nl} {code:Int} {W:World} (h:St n0 E W g c who x p code):lineM g W=x.bk.line.length:=by
 have h1:W.cell? ⟨g,2,none⟩=some (.slice p.bl.a2 p.bl.m2 p.bl.c2):=h.ob.cell 2
 unfold lineM
 rw [h1]
 exact h.inn.2.1.1
set_option maxRecDepth 100000 in
set_option maxHeartbeats 8000000 in
theorem settle18_calls {n0 g:Nat} {E:Nat→Prop} {c:Cf} {who:Int} {x:Nd} {p:Nl} {code:Int} {W:World} (h:St n0 E W g c who x p code) (hI:code=0→IK c who (clearK x.bk)) :
 Calls Tryz.prog 40 #[.pointer (some ⟨g,0,none⟩)] W (fun e w'=>e=.returned (.tuple #[])∧StepTo n0 E g c who p W (if code=0 then bkN x (settleK c who (clearK x.bk)) else x) code w'):=by
 have hlt:=h.lt;have HS:=qH h;have HI:=qH hI;clear h hI;have O0:=qH (stopped_calls HS.out);obtain ⟨xr,Hxr⟩:∃ z,Hid ((if code=0 then bkN x (settleK c who (clearK x.bk)) else x)=z):=⟨_,rfl⟩
 rw [Hxr.out]
 by_cases hc:code=0
 rotate_left 1
 · obtain rfl:xr=x:=Hxr.out.symm.trans (if_neg hc)
   have hd:decide (code ≠ 0)=true:=decide_eq_true hc;rw [hd] at O0
   go_enter Tryz.func40,Tryz.ntmps40
   go_wp2_with fail
   try go_step3
   go_wp2_with fail
   refine O0.out.mono ?_;rintro e w1 ⟨rfl,rfl⟩
   go_wp2_with fail
   rw [Exit.noGoto_ret]
   exact bodyPost_ret (v:=.tuple #[]) (by simp [results,Tryz.results40,go_sem]) rfl ⟨rfl,_,HS.out,Kept.refl _ _ _⟩
 · obtain rfl:xr=bkN x (settleK c who (clearK x.bk)):=Hxr.out.symm.trans (if_pos hc)
   have hd:decide (code ≠ 0)=false:=decide_eq_false (fun k=>k hc)
   rw [hd] at O0;have HI1:=qH (HI.out hc);have hA:=HS.out.outs0;have HA:=qH hA;have z3:W.cell? ⟨g,3,none⟩=some (.slice p.bl.a3 p.bl.m3 p.bl.c3):=HS.out.ob.cell 3;have y3:=HS.out.ob.free 3;clear hA;obtain ⟨T,HT⟩:∃ z,Hid (loopK c who ((clearK x.bk).line.length + 1) (clearK x.bk)=z):=⟨_,rfl⟩;have HY:Hid (bkN x (settleK c who (clearK x.bk))=bkN x (yieldK c who T)):=qH (by unfold settleK; rw [HT.out])
   rw [HY.out];clear HI HY Hxr
   go_enter Tryz.func40,Tryz.ntmps40
   refine wp_scope_jumps 0 (fun a' w'=>∃ (u2 u3 u4 u5 u6 u7 u8 u9 u10 u11 u12 u13:Value),a'={ tmps:=#[.pointer (some ⟨g,0,none⟩),undef,u2,u3,u4,u5,u6,u7,u8,u9,u10,u11,u12,u13],defers:=[] }∧∃ (kr:Bk) (pr:Nl),Hid (St n0 E w' g c who (bkN x kr) pr code)∧Hid (Kept g p pr W w')∧Hid (IK c who kr)∧Hid (loopK c who (kr.line.length + 1) kr=T)) (fun _ w'=>lineM g w') rfl ?_ ?_
   · go_wp2_with fail
     refine O0.out.mono ?_;rintro e w1 ⟨rfl,rfl⟩
     go_wp2_with fail
     try go_step3
     obtain ⟨wr,hwr⟩:∃ z,W.setCell ⟨g,3,none⟩ (.slice none 0 0)=z:=⟨_,rfl⟩;rw [hwr] at HA ⊢;obtain ⟨kr,hkr⟩:∃ z,clearK x.bk=z:=⟨_,rfl⟩;have HSr:Hid (St n0 E wr g c who (bkN x kr) (blN p (outsP p.bl none 0 0)) code):=by rw [← hkr]; exact HA.out.1
     have HKr:Hid (Kept g p (blN p (outsP p.bl none 0 0)) W wr):=HA.out.2;rw [hkr] at HI1 HT;obtain ⟨pr,hpr⟩:∃ z,blN p (outsP p.bl none 0 0)=z:=⟨_,rfl⟩;rw [hpr] at HSr HKr;clear HA hwr hkr hpr z3 y3 O0 HS hlt;have O1:=qH (serve18_calls HSr.out HI1.out);have HI2:=qH (HI1.out.serve (f:=kr.line.length));obtain ⟨k1,Hk1⟩:∃ z,Hid (serveK c who kr.line.length kr=z):=⟨_,rfl⟩;rw [show bkN (bkN x kr) (serveK c who (bkN x kr).bk.line.length (bkN x kr).bk)=bkN x k1 by rw [← Hk1.out]] at O1
     rw [Hk1.out] at HI2;have Honce:Hid (onceK c who kr=goesK c who k1):=qH (by unfold onceK; rw [Hk1.out])
     obtain ⟨k2,Hk2⟩:∃ z,Hid (goesK c who k1=z):=⟨_,rfl⟩;rw [Hk2.out] at Honce
     go_wp2_with fail
     refine O1.out.mono ?_;rintro e w2 ⟨rfl,p2,hS2,hK2⟩;have HS2:=qH hS2;have HK2:=qH (HKr.out.trans hK2);have O2:=qH (refuse18_calls (x:=bkN x k1) hS2 HI2.out);clear hS2 hK2 O1;obtain ⟨lk,Hlk⟩:∃ z,Hid (decide (lacksK c who k2)=z):=⟨_,rfl⟩;obtain ⟨k3,Hk3⟩:∃ z,Hid ((if lacksK c who k2 then leftK k2 7 else endsK c who k2)=z):=⟨_,rfl⟩
     rw [show (bkN x k1).bk=k1 from rfl,Hk2.out,Hlk.out,Hk3.out] at O2
     have HI3:Hid (IK c who k2):=qH (by rw [← Hk2.out]; exact HI2.out.goes)
     go_wp2_with fail
     refine O2.out.mono ?_;rintro e w3 ⟨rfl,p3,hS3,hK3⟩;have HS3:=qH hS3;have HK3:=qH (HK2.out.trans hK3);clear hS3 hK3 O2
     cases lk with
     | true =>
       have hlk:lacksK c who k2:=of_decide_eq_true Hlk.out;obtain rfl:k3=leftK k2 7:=Hk3.out.symm.trans (if_pos hlk);have HI4:=qH (HI3.out.left hlk.1 (code:=7) (Or.inr rfl));have HT4:Hid (loopK c who ((leftK k2 7).line.length + 1) (leftK k2 7)=T):=qH (by rw [← Honce.out,← loop_step (by rw [Honce.out]; exact hlk)]; exact HT.out)
       have HL:Hid ((leftK k2 7).line.length < kr.line.length):=qH (Nat.lt_of_lt_of_le (left_less hlk.1 7) (by rw [← Honce.out]; exact once_less c who kr))
       have HM4:=qH (lineM_of HS3.out);clear hlk
       go_wp2_with fail
       go_step3
       exact ⟨rfl,⟨_,_,_,_,_,_,_,_,_,_,_,_,rfl,leftK k2 7,p3,HS3.out,HK3.out,HI4.out,HT4.out⟩⟩
     | false =>
       have hlk:¬ lacksK c who k2:=of_decide_eq_false Hlk.out;obtain rfl:k3=endsK c who k2:=Hk3.out.symm.trans (if_neg hlk);have HI4:=qH HI3.out.ends;have hT4:endsK c who k2=T:=by rw [← Honce.out,← loop_stop (by rw [Honce.out]; exact hlk)]; exact HT.out
       rw [hT4] at HI4 HS3;have O3:=qH (yield18_calls (x:=bkN x T) HS3.out HI4.out);clear hlk hT4
       go_wp2_with fail
       refine O3.out.mono ?_;rintro e w4 ⟨rfl,p4,hS4,hK4⟩;have HS4:=qH hS4;have HK4:=qH (HK3.out.trans hK4);clear hS4 hK4 O3
       go_wp2_with fail
       simp only [Exit.jump]
       exact bodyPost_end (v:=.tuple #[]) (by simp [results,Tryz.results40,go_sem]) rfl ⟨rfl,_,HS4.out,HK4.out⟩
   · rintro a' wr ⟨u2,u3,u4,u5,u6,u7,u8,u9,u10,u11,u12,u13,rfl,kr,pr,HSr,HKr,HI1,HT⟩
     clear HA z3 y3 O0 HS hlt;have HMr:=qH (lineM_of HSr.out);have O1:=qH (serve18_calls HSr.out HI1.out);have HI2:=qH (HI1.out.serve (f:=kr.line.length));obtain ⟨k1,Hk1⟩:∃ z,Hid (serveK c who kr.line.length kr=z):=⟨_,rfl⟩;rw [show bkN (bkN x kr) (serveK c who (bkN x kr).bk.line.length (bkN x kr).bk)=bkN x k1 by rw [← Hk1.out]] at O1
     rw [Hk1.out] at HI2;have Honce:Hid (onceK c who kr=goesK c who k1):=qH (by unfold onceK; rw [Hk1.out])
     obtain ⟨k2,Hk2⟩:∃ z,Hid (goesK c who k1=z):=⟨_,rfl⟩;rw [Hk2.out] at Honce
     go_wp2_with fail
     refine O1.out.mono ?_;rintro e w2 ⟨rfl,p2,hS2,hK2⟩;have HS2:=qH hS2;have HK2:=qH (HKr.out.trans hK2);have O2:=qH (refuse18_calls (x:=bkN x k1) hS2 HI2.out);clear hS2 hK2 O1;obtain ⟨lk,Hlk⟩:∃ z,Hid (decide (lacksK c who k2)=z):=⟨_,rfl⟩;obtain ⟨k3,Hk3⟩:∃ z,Hid ((if lacksK c who k2 then leftK k2 7 else endsK c who k2)=z):=⟨_,rfl⟩
     rw [show (bkN x k1).bk=k1 from rfl,Hk2.out,Hlk.out,Hk3.out] at O2
     have HI3:Hid (IK c who k2):=qH (by rw [← Hk2.out]; exact HI2.out.goes)
     go_wp2_with fail
     refine O2.out.mono ?_;rintro e w3 ⟨rfl,p3,hS3,hK3⟩;have HS3:=qH hS3;have HK3:=qH (HK2.out.trans hK3);clear hS3 hK3 O2
     cases lk with
     | true =>
       have hlk:lacksK c who k2:=of_decide_eq_true Hlk.out;obtain rfl:k3=leftK k2 7:=Hk3.out.symm.trans (if_pos hlk);have HI4:=qH (HI3.out.left hlk.1 (code:=7) (Or.inr rfl));have HT4:Hid (loopK c who ((leftK k2 7).line.length + 1) (leftK k2 7)=T):=qH (by rw [← Honce.out,← loop_step (by rw [Honce.out]; exact hlk)]; exact HT.out)
       have HL:Hid ((leftK k2 7).line.length < kr.line.length):=qH (Nat.lt_of_lt_of_le (left_less hlk.1 7) (by rw [← Honce.out]; exact once_less c who kr))
       have HM4:=qH (lineM_of HS3.out);clear hlk
       go_wp2_with fail
       go_step3
       exact ⟨rfl,⟨_,_,_,_,_,_,_,_,_,_,_,_,rfl,leftK k2 7,p3,HS3.out,HK3.out,HI4.out,HT4.out⟩,by have h1:=HM4.out; have h2:=HMr.out; have h3:=HL.out; rw [h1,h2]; exact h3⟩
     | false =>
       have hlk:¬ lacksK c who k2:=of_decide_eq_false Hlk.out;obtain rfl:k3=endsK c who k2:=Hk3.out.symm.trans (if_neg hlk);have HI4:=qH HI3.out.ends;have hT4:endsK c who k2=T:=by rw [← Honce.out,← loop_stop (by rw [Honce.out]; exact hlk)]; exact HT.out
       rw [hT4] at HI4 HS3;have O3:=qH (yield18_calls (x:=bkN x T) HS3.out HI4.out);clear hlk hT4
       go_wp2_with fail
       refine O3.out.mono ?_;rintro e w4 ⟨rfl,p4,hS4,hK4⟩;have HS4:=qH hS4;have HK4:=qH (HK3.out.trans hK4);clear hS4 hK4 O3
       go_wp2_with fail
       simp only [Exit.jump]
       exact bodyPost_end (v:=.tuple #[]) (by simp [results,Tryz.results40,go_sem]) rfl ⟨rfl,_,HS4.out,HK4.out⟩
end Go.Proofs.YtecjnkokdnmhlaaGreat
namespace Go.Proofs.YtecjnkokdnmhlaaGreat
open Go.RowKit
attribute [local go_sem ↓] run_fine
def ClonedR (w:World) (l:List Rw) (e:Ending) (w':World):Prop :=
 ∃ A C gr,e=.returned (.slice A l.length C)∧w'.ownsRow w.heap.size 77 3 (.slice A l.length C) l.length (flatCells 3 l.length (rowCell l gr))∧(∀ k,k < l.length→∃ a c,gr k=.slice a (at_ l k).out.length c∧Nums w (gr k) (at_ l k).out)∧Below w.heap.size w w'
set_option maxRecDepth 100000 in
set_option maxHeartbeats 8000000 in
theorem cloneR_calls (A:Option Addr) (n C:Nat) (la:List Rw) (hn:n=la.length) (hle:n≤100000) (w:World) (hN:Books w (.slice A n C) la):Calls Tryz.prog 160 #[.slice A n C] w (ClonedR w la):=by
 obtain ⟨gr,hE,hg⟩:=hN
 cases A with
 | none =>
   obtain ⟨rfl,rfl,h0⟩:=elems_none hE;obtain rfl:la=[]:=List.length_eq_zero_iff.1 h0;clear hE hn hle h0
   go_enter Tryz.func160,Tryz.ntmps160
   have heq:∀ w:World,(binOp .eql 24 (.slice none 0 0) (.slice none 0 0)).run Tryz.prog w=.ok (.bool true) w:=by
    intro w;simp only [binOp]
    simp [run_equal_slice_nil w 24 77 none 0 0 Tryz.underlying24]
   go_wp2
   go_ret
   exact ⟨none,0,gr,by rfl,World.ownsRow_nil _ _ _ _,hg,Below.refl _ _⟩
 | some ad =>
   have hb1:Below w.heap.size w (w.alloc (.cells #[] 77)):=below_box w _;obtain ⟨i5,hi,hz0,hz1,hz2⟩:=info_parts info_row;have hE1:=hE.later hb1;rw [← hn] at hE1
   obtain ⟨v1,w1,hrun1,q1,q2,_⟩:=run_append_elems (P:=Tryz.prog) (w:=w.alloc (.cells #[] 77)) 24 24 w.heap.size 77 i5 _ 3 40 Tryz.underlying24 hi hz0 hz1 hz2 rfl (by decide)
    (.slice (some ⟨w.heap.size,0,none⟩) 0 0) 0 (fun _ _=>.bool false) (own_whole (cs:=#[]) (Whole.made w _ _) (Nat.le_refl _) rfl (by decide)) (some ad) n C (rowCell la gr) hE1
    (fun i j hi hj=>by
     unfold rowCell
     split
     · rfl
     · split
       · rfl
       · obtain ⟨a,c,e,_⟩:=hg i (by omega)
         rw [e]; rfl) (by unfold maxLen; omega) (by omega) hb1.size
   simp only [Nat.zero_add,Nat.not_lt_zero,if_false,Nat.sub_zero] at q1;obtain ⟨A1,C1,rfl,_⟩:=elems_of_own q1 (by omega)
   obtain ⟨hf1,hv1,hw1⟩:=fine_of hrun1;have Q1:=qH q1;have Hb:=qH (hb1.trans q2);have Hn:=qH hn;have Hg:=qH hg;clear hrun1 q1 q2 hb1 hE hE1 hn hi hz0 hz1 hz2 hg
   go_enter Tryz.func160,Tryz.ntmps160
   have heq:∀ w:World,(binOp .eql 24 (.slice (some ad) n C) (.slice none 0 0)).run Tryz.prog w=.ok (.bool false) w:=by
    intro w;simp only [binOp]
    simp [run_equal_slice_nil w 24 77 (some ad) n C Tryz.underlying24]
   go_wp2
   go_ret
   exact ⟨A1,C1,gr,by rw [← Hn.out]; rfl,by rw [← Hn.out]; exact Q1.out,Hg.out,Hb.out⟩
set_option maxRecDepth 100000 in
set_option maxHeartbeats 8000000 in
theorem rows18_calls (a:Option Addr) (m d:Nat) (l:List Rw) (hm:m=l.length) (h4:m≤1000) (hlen:∀ k,k < l.length→(at_ l k).out.length≤1000) (w:World) (hA:Books w (.slice a m d) l) :
 Calls Tryz.prog 104 #[.slice a m d] w (Copied w l):=by
 have HC:=qH (cloneR_calls a m d l hm (by omega) w hA)
 have HL:=qH hlen;have Hm:=qH hm;clear hA hlen hm
 go_enter Tryz.func104,Tryz.ntmps104
 go_wp2_with fail
 refine HC.out.mono ?_;rintro e w1 ⟨A,C,gr,rfl,hO,hg,hb⟩;rw [← Hm.out];rw [← Hm.out] at hO hg;have HO1:Hid (CopyR w1 w.heap.size (.slice A m C) l gr 0):=qH (CopyR.start (by rw [← Hm.out]; exact hO))
 have HG:=qH hg;have Hb1:=qH hb;clear hO hg hb HC;have hbm:m≤9223372036854775807:=by omega
 go_wp2_with fail
 go_loopw [4,5,10] (fun _ _ x wr=>∃ k:Nat,k≤m∧x=.int .i64 k∧Hid (CopyR wr w.heap.size (.slice A m C) l gr k)∧Hid (Below w.heap.size w wr)) (fun _ _ x _=>m - (intOf x).toNat)
 case atStart=>exact ⟨0,Nat.zero_le _,rfl,HO1.out,Hb1.out⟩
 case round =>
  clear HO1 Hb1;obtain ⟨k,hk,rfl,HO,Hb⟩:=hrel
  by_cases hlt:k < m
  · have hkl:k < l.length:=by have:=Hm.out; omega
    obtain ⟨b,cap,hv,hbb,hbl,c0,c1,c2⟩:=HO.out.at hkl;rw [← Hm.out] at hv;simp only [Value.slice.injEq] at hv;obtain ⟨rfl,_,rfl⟩:=hv;obtain ⟨a3,c3,hgk,hN⟩:=HG.out k (by omega)
    obtain ⟨r,Hr⟩:∃ z,Hid (at_ l k=z):=⟨_,rfl⟩;obtain ⟨lm,Hlm⟩:∃ z,Hid (z=r.out.length):=⟨_,rfl⟩;have hout:=HL.out k hkl;rw [hgk,Hr.out,← Hlm.out] at hN c2;rw [Hr.out] at c0 c1;rw [Hr.out,← Hlm.out] at hgk hout;have k0:(0:Int)≤(k:Int):=by omega
    have k1:(k:Int) < (m:Int):=by omega
    have hbx:=below_box wr (.cells #[.int .i64 r.inc,.int .i64 r.use,.slice a3 lm c3] 77);have HWb:=qH (Whole.made wr 77 #[.int .i64 r.inc,.int .i64 r.use,.slice a3 lm c3])
    have OC:Hid (Calls Tryz.prog 109 #[.slice a3 lm c3] (wr.alloc (.cells #[.int .i64 r.inc,.int .i64 r.use,.slice a3 lm c3] 77)) (ClonedN (wr.alloc (.cells #[.int .i64 r.inc,.int .i64 r.use,.slice a3 lm c3] 77)) r.out)) :=
     cloneN_calls a3 lm c3 r.out Hlm.out (by omega) _ ((hN.later Hb.out).later hbx)
    have Hbx:=qH hbx;have Hgk:=qH hgk;have Hbb:=qH hbb;have Hbl:=qH hbl;have hz2:=HWb.out.cell 2;have hblt:b < wr.heap.size:=hbl;clear hbx hgk hN hbb hbl hout
    go_wp2_with fail
    refine OC.out.mono ?_;rintro e w2 ⟨A3,C3,rfl,hO3,hb2⟩;rw [← Hlm.out];rw [show r.out.length=lm from Hlm.out.symm] at hO3
    have hb3:=held_next Hbx.out hb2;obtain ⟨b',cap',hv',_,_,hfz,hcl,hnew⟩:=HO.out.step hkl Hb.out.size hb3 (u:=.slice A3 lm C3) ⟨A3,C3,by rw [Hr.out,← Hlm.out]⟩ (by rw [Hr.out,flat_one]; exact own_mono hO3 Hbx.out.size)
    rw [← Hm.out] at hv';simp only [Value.slice.injEq,Option.some.injEq,Addr.mk.injEq] at hv';obtain ⟨⟨rfl,-⟩,-,-⟩:=hv';have HO4:=qH hnew;have Hb4:=qH ((Hb.out.trans (hb3.mono Hb.out.size)).setCell (p:=⟨b,k * 3 + 2,none⟩) (by show w.heap.size≤b; exact Hbb.out) (.slice A3 lm C3))
    have hbl2:b < w2.heap.size:=by have:=hb3.size; omega
    rw [Hgk.out] at hcl;clear hO3 hb2 hb3 hnew c0 c1 c2 hz2 OC
    go_wp2_with fail
    go_roundw
    case rel=>exact ⟨k + 1,by omega,by go_num,HO4.out,Hb4.out⟩
    case measure=>simp [intOf]; omega
  · have hkm:k=m:=by omega
    have hO:=HO.out;rw [hkm,Hm.out] at hO;have HO2:=qH hO.done;have Hkm:=qH hkm;clear hO hkm
    go_wp2
    go_ret
    exact ⟨A,C,by rw [← Hm.out]; rfl,by rw [← Hm.out]; rw [← Hm.out] at HO2; exact HO2.out,Hb.out⟩
end Go.Proofs.YtecjnkokdnmhlaaGreat
namespace Go.Proofs.YtecjnkokdnmhlaaGreat
open Go.RowKit
theorem info_nt:(Tryz.prog.info? 113).map (fun i=>(i.zero,i.size,i.bytes))=some (some (.agg #[.int .i64 0,.int .i64 0,.int .i64 0,.int .i64 0,.int .i64 0,.int .i64 0,.int .i64 0]),7,56):=by kernel_rfl
theorem ntc_one (x:Nt) (j:Nat):(ntc x j).oneCell'=true:=by unfold ntc; rfl
theorem nt_both (l k:List Nt):(fun i j=>if i < l.length then ntc (ntAt l i) j else ntc (ntAt k (i - l.length)) j)=fun i j=>ntc (ntAt (l ++ k) i) j:=by
 funext i j
 by_cases h:i < l.length
 · rw [if_pos h]; unfold ntAt; rw [List.getElem?_append_left h]
 · rw [if_neg h]; unfold ntAt; rw [List.getElem?_append_right (by omega)]
abbrev OwnNt (w:World) (base:Nat) (v:Value) (l:List Nt):Prop:=w.ownsRow base 113 7 v l.length (flatCells 7 l.length fun i j=>ntc (ntAt l i) j)
theorem OwnNt.notes {w:World} {base:Nat} {v:Value} {l:List Nt} (h:OwnNt w base v l) (hb:l.length≤9223372036854775807):∃ A C,v=.slice A l.length C∧Notes w (.slice A l.length C) l:=by
 obtain ⟨A,C,hv,_,he⟩:=elems_of_own h hb
 exact ⟨A,C,hv,he⟩
theorem ownNt_nil (w:World):OwnNt (w.alloc (.cells #[] 113)) w.heap.size (.slice (some ⟨w.heap.size,0,none⟩) 0 0) [] :=
 own_whole (cs:=#[]) (Whole.made w _ _) (Nat.le_refl _) rfl (by decide)
theorem run_append_nt {w:World} {base:Nat} {v:Value} {l k:List Nt} {A:Option Addr} {m c:Nat} (hown:OwnNt w base v l) (hE:Notes w (.slice A m c) k) (hm:m=k.length) (h:l.length + k.length≤1000000) (hbase:base≤w.heap.size) :
 ∃ v' w',(Builtin.append_ #[27,27] 27 #[v,.slice A m c]).run Tryz.prog w=.ok v' w'∧OwnNt w' base v' (l ++ k)∧Below base w w'∧Grew w w' v v':=by
 subst hm;obtain ⟨i5,hi,hz0,hz1,hz2⟩:=info_parts info_nt
 obtain ⟨v',w',h1,h2,h3,h4⟩:=run_append_elems (P:=Tryz.prog) (w:=w) 27 27 base 113 i5 _ 7 56 Tryz.underlying27 hi hz0 hz1 hz2 rfl (by decide)
  v l.length _ hown A k.length c _ hE (fun i j _ _=>ntc_one _ j) (by unfold maxLen; omega) (by omega) hbase
 refine ⟨v',w',h1,?_,h3,h4⟩;rw [nt_both] at h2
 show OwnNt w' base v' (l ++ k)
 unfold OwnNt
 rw [List.length_append]
 exact h2
end Go.Proofs.YtecjnkokdnmhlaaGreat
namespace Go.Proofs.YtecjnkokdnmhlaaGreat
open Go.RowKit
attribute [local go_sem ↓] run_fine
def ClonedQ (w:World) (l:List Rq) (e:Ending) (w':World):Prop:=∃ A C,e=.returned (.slice A l.length C)∧OwnQ w' w.heap.size (.slice A l.length C) l∧Below w.heap.size w w'
set_option maxRecDepth 100000 in
set_option maxHeartbeats 4000000 in
theorem cloneQ_calls (A:Option Addr) (n C:Nat) (la:List Rq) (hn:n=la.length) (hle:n≤100000) (w:World) (hN:Line w (.slice A n C) la):Calls Tryz.prog 105 #[.slice A n C] w (ClonedQ w la):=by
 cases A with
 | none =>
   obtain ⟨rfl,rfl,h0⟩:=elems_none hN;obtain rfl:la=[]:=List.length_eq_zero_iff.1 h0;clear hN hn hle h0
   go_enter Tryz.func105,Tryz.ntmps105
   have heq:∀ w:World,(binOp .eql 25 (.slice none 0 0) (.slice none 0 0)).run Tryz.prog w=.ok (.bool true) w:=by
    intro w;simp only [binOp]
    simp [run_equal_slice_nil w 25 59 none 0 0 Tryz.underlying25]
   go_wp2
   go_ret
   exact ⟨none,0,by rfl,⟨rfl,Or.inl ⟨rfl,rfl⟩⟩,Below.refl _ _⟩
 | some ad =>
   have hb1:Below w.heap.size w (w.alloc (.cells #[] 59)):=below_box w _;obtain ⟨v1,w1,hrun1,q1,q2,_⟩:=run_append_line (ownQ_nil w) (hN.later hb1) hn (by simp; omega) hb1.size
   rw [List.nil_append] at q1;obtain ⟨A1,C1,rfl,_⟩:=OwnQ.line q1 (by omega)
   obtain ⟨hf1,hv1,hw1⟩:=fine_of hrun1;have Q1:=qH q1;have Hb:=qH (hb1.trans q2);clear hrun1 q1 q2 hb1 hN hn
   go_enter Tryz.func105,Tryz.ntmps105
   have heq:∀ w:World,(binOp .eql 25 (.slice (some ad) n C) (.slice none 0 0)).run Tryz.prog w=.ok (.bool false) w:=by
    intro w;simp only [binOp]
    simp [run_equal_slice_nil w 25 59 (some ad) n C Tryz.underlying25]
   go_wp2
   go_ret
   exact ⟨A1,C1,by rfl,Q1.out,Hb.out⟩
def ClonedOc (w:World) (l:List Rq) (e:Ending) (w':World):Prop:=∃ A C,e=.returned (.slice A l.length C)∧OwnOc w' w.heap.size (.slice A l.length C) l∧Below w.heap.size w w'
set_option maxRecDepth 100000 in
set_option maxHeartbeats 4000000 in
theorem cloneOc_calls (A:Option Addr) (n C:Nat) (la:List Rq) (hn:n=la.length) (hle:n≤100000) (w:World) (hN:Line w (.slice A n C) la):Calls Tryz.prog 106 #[.slice A n C] w (ClonedOc w la):=by
 cases A with
 | none =>
   obtain ⟨rfl,rfl,h0⟩:=elems_none hN;obtain rfl:la=[]:=List.length_eq_zero_iff.1 h0;clear hN hn hle h0
   go_enter Tryz.func106,Tryz.ntmps106
   have heq:∀ w:World,(binOp .eql 26 (.slice none 0 0) (.slice none 0 0)).run Tryz.prog w=.ok (.bool true) w:=by
    intro w;simp only [binOp]
    simp [run_equal_slice_nil w 26 85 none 0 0 Tryz.underlying26]
   go_wp2
   go_ret
   exact ⟨none,0,by rfl,⟨rfl,Or.inl ⟨rfl,rfl⟩⟩,Below.refl _ _⟩
 | some ad =>
   have hb1:Below w.heap.size w (w.alloc (.cells #[] 85)):=below_box w _;obtain ⟨v1,w1,hrun1,q1,q2,_⟩:=run_append_outs (ownOc_nil w) (hN.later hb1) hn (by simp; omega) hb1.size
   rw [List.nil_append] at q1;obtain ⟨A1,C1,rfl,_⟩:=OwnOc.line q1 (by omega)
   obtain ⟨hf1,hv1,hw1⟩:=fine_of hrun1;have Q1:=qH q1;have Hb:=qH (hb1.trans q2);clear hrun1 q1 q2 hb1 hN hn
   go_enter Tryz.func106,Tryz.ntmps106
   have heq:∀ w:World,(binOp .eql 26 (.slice (some ad) n C) (.slice none 0 0)).run Tryz.prog w=.ok (.bool false) w:=by
    intro w;simp only [binOp]
    simp [run_equal_slice_nil w 26 85 (some ad) n C Tryz.underlying26]
   go_wp2
   go_ret
   exact ⟨A1,C1,by rfl,Q1.out,Hb.out⟩
def ClonedNn (w:World) (l:List Nt) (e:Ending) (w':World):Prop:=∃ A C,e=.returned (.slice A l.length C)∧OwnNt w' w.heap.size (.slice A l.length C) l∧Below w.heap.size w w'
set_option maxRecDepth 100000 in
set_option maxHeartbeats 4000000 in
theorem cloneNn_calls (A:Option Addr) (n C:Nat) (la:List Nt) (hn:n=la.length) (hle:n≤100000) (w:World) (hN:Notes w (.slice A n C) la):Calls Tryz.prog 107 #[.slice A n C] w (ClonedNn w la):=by
 cases A with
 | none =>
   obtain ⟨rfl,rfl,h0⟩:=elems_none hN;obtain rfl:la=[]:=List.length_eq_zero_iff.1 h0;clear hN hn hle h0
   go_enter Tryz.func107,Tryz.ntmps107
   have heq:∀ w:World,(binOp .eql 27 (.slice none 0 0) (.slice none 0 0)).run Tryz.prog w=.ok (.bool true) w:=by
    intro w;simp only [binOp]
    simp [run_equal_slice_nil w 27 113 none 0 0 Tryz.underlying27]
   go_wp2
   go_ret
   exact ⟨none,0,by rfl,⟨rfl,Or.inl ⟨rfl,rfl⟩⟩,Below.refl _ _⟩
 | some ad =>
   have hb1:Below w.heap.size w (w.alloc (.cells #[] 113)):=below_box w _;obtain ⟨v1,w1,hrun1,q1,q2,_⟩:=run_append_nt (ownNt_nil w) (hN.later hb1) hn (by simp; omega) hb1.size
   rw [List.nil_append] at q1;obtain ⟨A1,C1,rfl,_⟩:=OwnNt.notes q1 (by omega)
   obtain ⟨hf1,hv1,hw1⟩:=fine_of hrun1;have Q1:=qH q1;have Hb:=qH (hb1.trans q2);clear hrun1 q1 q2 hb1 hN hn
   go_enter Tryz.func107,Tryz.ntmps107
   have heq:∀ w:World,(binOp .eql 27 (.slice (some ad) n C) (.slice none 0 0)).run Tryz.prog w=.ok (.bool false) w:=by
    intro w;simp only [binOp]
    simp [run_equal_slice_nil w 27 113 (some ad) n C Tryz.underlying27]
   go_wp2
   go_ret
   exact ⟨A1,C1,by rfl,Q1.out,Hb.out⟩
end Go.Proofs.YtecjnkokdnmhlaaGreat
