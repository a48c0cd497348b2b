/- Parts, as far as NodeAtOnceCards reaches them, of: RightsMay, RightsShareMath, RightsSumMath, RowLimits, RowSent, RightsGiven, RightsClos. No law is proved here. -/
import Derived.Test.YtecjnkokdnmhlaaGreatTa7
import Derived.RangeFuncCalls
import Derived.Shelf.Abstract
import Derived.Shelf.RegionOpen
import Derived.OwnWalkIn
import Derived.TacticsInMore
import Derived.LoopNIn
import Derived.LoopIn
import Derived.Laws.EntriesVeiled
namespace Go.Proofs.YtecjnkokdnmhlaaGreat
open Go.RowKit
theorem among_calls (c:Cf) (who:Int) (w:World):Calls Tryz.prog 81 #[cfV c,.int .i64 who] w (Says w (amongB c who)):=by
 obtain ⟨n,q,r,p,k,cc⟩:=c
 by_cases h1:0≤who
 · by_cases h2:who < n
   · rw [amongB_yes ⟨h1,h2⟩]
     go_enter Tryz.func81,Tryz.ntmps81
     go_wp2
     go_ret
     exact ⟨by simp,below_box _ _⟩
   · rw [amongB_no (fun h=>h2 h.2)]
     go_enter Tryz.func81,Tryz.ntmps81
     go_wp2
     go_ret
     exact ⟨by simp,below_box _ _⟩
 · rw [amongB_no (fun h=>h1 h.1)]
   go_enter Tryz.func81,Tryz.ntmps81
   go_wp2
   go_ret
   exact ⟨by simp,below_box _ _⟩
set_option maxRecDepth 100000 in
set_option maxHeartbeats 4000000 in
theorem rShare_calls (c:Cf) (who:Int) (w:World):Calls Tryz.prog 183 #[cfV c,.int .i64 who] w (Num w (shareV c who)):=by
 have HW:=qH (Whole.made w 23 (cfCells c));have Hb0:=qH (below_box w (.cells (cfCells c) 23));obtain ⟨n,q,r,p,k,cc⟩:=c;obtain ⟨ok,Hok⟩:∃ z,Hid (cfB ⟨n,q,r,p,k,cc⟩=z):=⟨_,rfl⟩;obtain ⟨v,Hv⟩:∃ v,Hid (shareV ⟨n,q,r,p,k,cc⟩ who=v):=⟨_,rfl⟩;rw [Hv.out]
 go_enter Tryz.func183,Tryz.ntmps183
 go_wp2_with fail
 refine (rMay_calls ⟨n,q,r,p,k,cc⟩ _).mono ?_;rintro e w1 ⟨rfl,hb⟩;rw [Hok.out];have Hb1:=qH (held_next Hb0.out hb);have HW1:=qH (HW.out.later hb HW.out.lt);clear hb;obtain ⟨d0,d1,d2,d3,d4,d5⟩:=config_cells HW1.out;simp only at d0 d1 d2 d3 d4 d5
 cases ok with
 | false =>
   obtain rfl:v=0:=Hv.out.symm.trans (shareV_no fun h=>by
    have:=cfB_yes h.1;rw [Hok.out] at this
    cases this)
   go_wp2_with fail
   go_ret
   exact ⟨by rfl,Hb1.out⟩
 | true =>
 go_wp2_with fail
 refine (among_calls ⟨n,q,r,p,k,cc⟩ who _).mono ?_;rintro e w2 ⟨rfl,hb⟩;have Hb2:=qH (held_next Hb1.out hb);have HW2:=qH (HW1.out.later hb HW1.out.lt);clear hb d0 d1 d2 d3 d4 d5;have d0:w2.cell? ⟨w.heap.size,0,none⟩=some (.int .i64 n):=HW2.out.cell 0;have d4:w2.cell? ⟨w.heap.size,4,none⟩=some (.int .i64 k):=HW2.out.cell 4
 by_cases ha:0≤who∧who < n
 rotate_left 1
 · rw [amongB_no ha]
   obtain rfl:v=0:=Hv.out.symm.trans (shareV_no fun h=>ha h.2)
   go_wp2_with fail
   go_ret
   exact ⟨by rfl,Hb2.out⟩
 rw [amongB_yes ha];have hok:=cfB_ok Hok.out;have hv:v=k / n + (if who < k - k / n * n then 1 else 0):=Hv.out.symm.trans (if_pos ⟨hok,ha⟩)
 obtain ⟨g1,g2,_,_,_,_,_,_,g9,g10,g11⟩:=hok;obtain ⟨ha0,ha1⟩:=ha;simp only at g1 g2 g9 g10 g11
 have hkk:k≤1099511627776:=by
  have:=Int.mul_nonneg (show 0≤n by omega) g10
  omega
 clear g10 g11;have hq0:0≤k / n:=Int.ediv_nonneg g9 (by omega)
 have hqs:k / n≤k:=Int.ediv_le_self n g9;rw [← rem_eq] at hv;have hr0:0≤k % n:=Int.emod_nonneg k (by omega)
 have hr1:k % n < n:=Int.emod_lt_of_pos k (by omega)
 obtain ⟨s,hs⟩:∃ s,k / n=s:=⟨_,rfl⟩;obtain ⟨m,hm⟩:∃ m,k % n=m:=⟨_,rfl⟩;rw [hs] at hq0 hqs hv;rw [hm] at hr0 hr1 hv;have Hv2:=qH hv; clear hv;have hn0:n ≠ 0:=by omega
 by_cases hw:who < m
 · have Hv1:Hid (v=s + 1):=by rw [Hv2.out,if_pos hw]; exact rfl
   go_wp2_with fail
   go_ret
   exact ⟨by rw [Hv1.out]; rfl,Hb2.out⟩
 · have Hv1:Hid (v=s):=by rw [Hv2.out,if_neg hw,Int.add_zero]; exact rfl
   go_wp2_with fail
   go_ret
   exact ⟨by rw [Hv1.out,← hs]; rfl,Hb2.out⟩
end Go.Proofs.YtecjnkokdnmhlaaGreat
namespace Go.Proofs.YtecjnkokdnmhlaaGreat
open Go.RowKit
def sumShares (c:Cf):Nat→Int
 | 0=>0
 | k + 1=>sumShares c k + shareV c k
theorem share_of {c:Cf} (h:cfOk c) {k:Nat} (hk:(k:Int) < c.n):shareV c k=c.k / c.n + (if (k:Int) < c.k - c.k / c.n * c.n then 1 else 0):=if_pos ⟨h,by omega,hk⟩
theorem rest_bound {c:Cf} (h:cfOk c):0≤c.k - c.k / c.n * c.n∧c.k - c.k / c.n * c.n < c.n:=by
 have hn:0 < c.n:=by have:=h.1; omega
 have e:=Int.emod_add_mul_ediv c.k c.n;have h1:=Int.emod_nonneg c.k (b:=c.n) (by omega)
 have h2:=Int.emod_lt_of_pos c.k hn;rw [Int.mul_comm] at e
 omega
theorem sumShares_is {c:Cf} (h:cfOk c):∀ k:Nat,(k:Int)≤c.n→sumShares c k=c.k / c.n * k + (if (k:Int) < c.k - c.k / c.n * c.n then (k:Int) else c.k - c.k / c.n * c.n)
 | 0, _ => by
   have:=rest_bound h;simp only [sumShares]
   split <;> simp_all <;> omega
 | k + 1, hk => by
   have ih:=sumShares_is h k (by omega)
   have hr:=rest_bound h;have e:c.k / c.n * ((k + 1:Nat):Int)=c.k / c.n * k + c.k / c.n:=by rw [Int.natCast_succ,Int.mul_add,Int.mul_one]
   rw [sumShares,ih,share_of h (by omega),e]
   split <;> split <;> omega
theorem sumShares_all {c:Cf} (h:cfOk c) (m:Nat) (hm:c.n=(m:Int)):sumShares c m=c.k:=by
 have hr:=rest_bound h;have e:=sumShares_is h m (by omega)
 rw [if_neg (by omega),← hm] at e
 omega
end Go.Proofs.YtecjnkokdnmhlaaGreat
namespace Go.Proofs.YtecjnkokdnmhlaaGreat
open Go.RowKit
theorem sumN_add (f g:Nat→Int):∀ n,sumN (fun i=>f i + g i) n=sumN f n + sumN g n
 | 0=>rfl
 | n + 1=>by simp only [sumN]; rw [sumN_add f g n]; omega
theorem sumN_sub (f g:Nat→Int):∀ n,sumN (fun i=>f i - g i) n=sumN f n - sumN g n
 | 0=>rfl
 | n + 1=>by simp only [sumN]; rw [sumN_sub f g n]; omega
theorem sumN_zero:∀ n,sumN (fun _=>0) n=0
 | 0=>rfl
 | n + 1=>by simp only [sumN]; rw [sumN_zero n]; rfl
theorem sumN_congr {f g:Nat→Int} {n:Nat} (h:∀ k,k < n→f k=g k):∀ k,k≤n→sumN f k=sumN g k
 | 0,_=>rfl
 | k + 1,hk=>by simp only [sumN]; rw [sumN_congr h k (by omega),h k (by omega)]
theorem sumN_swap (f:Nat→Nat→Int) (b:Nat):∀ a,sumN (fun w=>sumN (fun i=>f i w) b) a=sumN (fun i=>sumN (fun w=>f i w) a) b
 | 0=>by simp only [sumN]; rw [sumN_zero]
 | a + 1 => by
   simp only [sumN];rw [sumN_swap f b a,← sumN_add]
theorem flow_split (l:List Rw) (who:Nat):∀ k,flow l who k=sumN (fun i=>(at_ l i).out[who]?.getD 0) k - sumN (fun i=>(at_ l who).out[i]?.getD 0) k
 | 0=>rfl
 | k + 1 => by
   simp only [flow,sumN];rw [flow_split l who k]
   omega
theorem flow_none (l:List Rw) (n:Nat):sumN (fun who=>flow l who n) n=0:=by
 have e:∀ k,k≤n→sumN (fun who=>flow l who n) k=sumN (fun who=>sumN (fun i=>(at_ l i).out[who]?.getD 0) n - sumN (fun i=>(at_ l who).out[i]?.getD 0) n) k :=
  fun k hk=>sumN_congr (n:=n) (fun j _=>flow_split l j n) k hk
 rw [e n (Nat.le_refl _),sumN_sub,sumN_swap (fun i w=>(at_ l i).out[w]?.getD 0)]
 omega
theorem sumRights_is (c:Cf) (l:List Rw):∀ k,sumRights c l k=sumShares c k + sumN (fun i=>(at_ l i).inc - (at_ l i).use) k + sumN (fun who=>flow l who l.length) k
 | 0=>rfl
 | k + 1 => by
   simp only [sumRights,sumShares,sumN];rw [sumRights_is c l k]
   unfold rightsV
   omega
theorem value_is {c:Cf} {l:List Rw} (h:rightOk c l):valueV c l=c.k + sumN (fun i=>(at_ l i).inc - (at_ l i).use) l.length:=by
 unfold valueV
 rw [if_pos h,sumRights_is,flow_none,sumShares_all h.1 l.length h.2.1.symm]
 omega
theorem sumW_is {la:List Int} (h16:la.length≤16) (hb:∀ k,k < la.length→0≤la[k]?.getD 0∧la[k]?.getD 0≤1125899906842624):∀ k,k≤la.length→sumW (la.take k)=sumN (fun i=>la[i]?.getD 0) k
 | 0,_=>rfl
 | k + 1, hk => by
   have ih:=sumW_is h16 hb k (by omega)
   have hs:=sumN_bound (g:=fun i=>la[i]?.getD 0) (b:=1125899906842624) (n:=la.length) (fun j hj=>by
    have:=hb j hj
    show -1125899906842624≤la[j]?.getD 0∧la[j]?.getD 0≤1125899906842624
    omega) k (by omega)
   have h1:=hb k (by omega)
   rw [List.take_succ_eq_append_getElem (by omega),sumW_snoc,ih]
   rw [List.getElem?_eq_getElem (show k < la.length by omega)] at h1
   simp only [Option.getD_some] at h1;simp only [sumN];rw [List.getElem?_eq_getElem (show k < la.length by omega)]
   simp only [Option.getD_some]
   exact IntWalk.wrap64_in _ (by omega)
theorem sent_is {la:List Int} (h16:la.length≤16) (hb:∀ k,k < la.length→0≤la[k]?.getD 0∧la[k]?.getD 0≤1125899906842624):sentV la=sumN (fun i=>la[i]?.getD 0) la.length:=by
 have hf:fits (la.zip (mosts (-1) la.length))=true:=by
  apply fits_yes;intro x hx;obtain ⟨k,hk,rfl⟩:=List.getElem_of_mem hx;rw [List.length_zip,mosts_length] at hk;rw [zip_getElem (by rw [mosts_length]) k (by omega)]
  have h1:=hb k (by omega)
  have h2:=mosts_at (-1) la.length k (by omega)
  rw [List.getElem?_eq_getElem (show k < la.length by omega)] at h1
  rw [List.getElem?_eq_getElem (show k < (mosts (-1) la.length).length by rw [mosts_length]; omega)] at h2
  simp only [Option.getD_some] at h1 h2;refine ⟨h1.1,?_⟩
  show la[k]≤(mosts (-1) la.length)[k]'(by rw [mosts_length]; omega)
  rw [h2]
  unfold mostOf
  split
  · omega
  · exact h1.2
 unfold sentV
 rw [if_pos ⟨h16,hf⟩];have:=sumW_is h16 hb la.length (Nat.le_refl _);rwa [List.take_length] at this
theorem rights_parts {c:Cf} {l:List Rw} {m:Nat} (hm:m=l.length) (h16:m≤16) (hF:Fits l) {who:Nat} (hw:who < m) :
 rightsV c l who=shareV c who + (at_ l who).inc + sumN (fun i=>(at_ l i).out[who]?.getD 0) m - sentV (at_ l who).out - (at_ l who).use:=by
 have h1:=hF who (by omega)
 have h2:sentV (at_ l who).out=sumN (fun i=>(at_ l who).out[i]?.getD 0) m:=by
  rw [sent_is (by omega) (fun k hk=>h1.2.2.2.2.2 k (by omega)),h1.1,← hm]
 unfold rightsV
 rw [flow_split,h2,← hm]
 omega
end Go.Proofs.YtecjnkokdnmhlaaGreat
namespace Go.Proofs.YtecjnkokdnmhlaaGreat
open Go.RowKit Go.Shelf
attribute [local go_sem] Oper.semAt_some
set_option maxRecDepth 100000 in
set_option maxHeartbeats 1000000 in
theorem limits1_in (F:Fence) (n:Nat) (hF:F.fn 203) (hro:F.round=none) (hn:1≤n) (l Ba Bb:Nat) (w0:World) (a:Option Addr) (m ca:Nat) (who:Int) (la:List Int)
 (hla:m=la.length) (hA:Nums w0 (.slice a m ca) la) (J Jx:List (Int × Int)→World→Prop)
 (hY:∀ pre x W,J pre W→pre.length < m→YieldAt F (n - 1) Tryz.prog l #[.int .i64 x.1,.int .i64 x.2] W fun e W' =>
  (e=.returned (.bool true)∧J (pre ++ [x]) W'∧KeptAt w0.heap.size Bb W W')∨(e=.returned (.bool false)∧Jx (pre ++ [x]) W'))
 (W:World) (hW:Below w0.heap.size w0 W) (hBa:Boxed W Ba 31 (.slice a m ca)) (hBb:Boxed W Bb 3 (.int .i64 who)) (h0:J [] W) :
 CallsIn F n Tryz.prog 203 #[.func (.yield l) #[] #[],.pointer (some ⟨Ba,0,none⟩),.pointer (some ⟨Bb,0,none⟩)] W fun e W'=>(∃ v,e=.returned v) ∧
  ((∃ ys,ys=la.zip (mosts who m)∧J ys W')∨(∃ pre,(∃ k,k≤m∧pre=(la.zip (mosts who m)).take k)∧Jx pre W')):=by
 have hbig:m≤9223372036854775807:=by rw [hla]; exact hA.1
 have HA:=qH hA; clear hA;have Ha:=qH hla; clear hla;have HBb:=qH hBb;have cA:=hBa.cell;have HW:=qH hW;clear hBa hBb hW;refine callsIn_of_wp Tryz.func203 rfl hF ?_ hro;simp only [Tryz.ntmps203,List.size_toArray,List.length_cons,List.length_nil,Nat.reduceAdd,Nat.reduceSub,Array.replicate_succ,Array.replicate_zero,List.push_toArray,List.append_toArray,List.nil_append,List.cons_append]
 gi_wp2
 gi_loopw [9] (fun i wr=>∃ k:Nat,k≤m∧i=.int .i64 k∧J ((la.zip (mosts who m)).take k) wr∧Hid (Below w0.heap.size w0 wr)∧Hid (Boxed wr Bb 3 (.int .i64 who)))
  (fun i _=>m - (intOf i).toNat)
 case atStart=>exact ⟨0,Nat.zero_le _,rfl,by rw [List.take_zero]; exact h0,HW,HBb⟩
 case round =>
  obtain ⟨k,hk,rfl,hJs,Hw,HBr⟩:=hrel;clear cA
  by_cases hlt:k < m
  · obtain ⟨ba,oa,rfl,_,c0⟩:=HA.out.at (i:=k) (by have:=Ha.out; omega)
    have d0:=cell_later Hw.out c0;have dB:=HBr.out.cell;clear c0
    by_cases hw:(k:Int)=who
    all_goals
     obtain ⟨fn,tmps,assign,body,hy,hR⟩:=hY _ (la[k]?.getD 0,mostOf who k) wr hJs (by rw [List.length_take,List.length_zip,mosts_length,← Ha.out]; omega)
     dsimp only at hy
     rw [← mosts_at who m k hlt,← zip_take_snoc la (mosts who m) k (by have:=Ha.out; omega) (by rw [mosts_length]; exact hlt)] at hR
     first | (have hm0:mostOf who k=0:=if_pos hw) | (have hm0:mostOf who k=1125899906842624:=if_neg hw)
     rw [hm0] at hy;clear hm0
     first | (subst hw) | (have hd:((k:Int) == who)=false:=by simpa using hw)
     gi_wp2
     refine hR.mono ?_;rintro e W3 (⟨rfl,hJ3,hk3⟩ | ⟨rfl,hJx3⟩)
     · have Hw3:=qH (Hw.out.trans hk3.1)
       have HB3:=qH (show Boxed W3 Bb 3 (.int .i64 _) from hk3.2.trans HBr.out)
       clear hk3
       gi_wp2
       go_roundw
       case rel=>exact ⟨k + 1,by omega,by simp,hJ3,Hw3,HB3⟩
       case measure=>simp [intOf]; omega
     · gi_wp2
       refine bodyPost_ret (results_none rfl _ _ _) rfl ?_
       exact ⟨⟨_,rfl⟩,.inr ⟨_,⟨k + 1,by omega,rfl⟩,hJx3⟩⟩
  · have hkm:k=m:=by omega
    have Hkm:=qH hkm; clear hkm
    gi_wp2
    go_end0
    refine ⟨⟨_,rfl⟩,.inl ⟨_,?_,hJs⟩⟩;rw [Hkm.out,List.take_of_length_le (by rw [List.length_zip,mosts_length,← Ha.out]; omega)]
set_option maxHeartbeats 1000000 in
theorem limits_in (F:Fence) (n:Nat) (hF:F.fn 180) (hro:F.round=none) (a:Option Addr) (m c:Nat) (who:Int) (w:World) :
 CallsIn F n Tryz.prog 180 #[.slice a m c,.int .i64 who] w fun e w'=>e=.returned (.func (.func 203) #[] #[.pointer (some ⟨w.heap.size,0,none⟩),.pointer (some ⟨w.heap.size + 1,0,none⟩)]) ∧
  w'=(w.alloc (.cells #[.slice a m c] 31)).alloc (.cells #[.int .i64 who] 3):=by
 refine callsIn_of_wp Tryz.func180 rfl hF ?_ hro;simp only [Tryz.ntmps180,List.size_toArray,List.length_cons,List.length_nil,Nat.reduceAdd,Nat.reduceSub,Array.replicate_succ,Array.replicate_zero,List.push_toArray,List.append_toArray,List.nil_append,List.cons_append]
 gi_wp2
 go_ret
 exact ⟨rfl,rfl⟩
theorem limits_stops (F:Fence) (n:Nat) (hF:F.fn 203) (hro:F.round=none) (hn:1≤n) (Ba Bb:Nat) (w0:World) (a:Option Addr) (m ca:Nat) (who:Int) (la:List Int)
 (hla:m=la.length) (hA:Nums w0 (.slice a m ca) la) (w:World) (hb0:Below w0.heap.size w0 w)
 (hBa:Boxed w Ba 31 (.slice a m ca)) (hBb:Boxed w Bb 3 (.int .i64 who)) :
 SeqStopsK F n Tryz.prog 203 #[.pointer (some ⟨Ba,0,none⟩),.pointer (some ⟨Bb,0,none⟩)] (fun x:Int × Int=>#[Value.int .i64 x.1,Value.int .i64 x.2]) (KeptAt w0.heap.size Bb) (fun ys=>ys=la.zip (mosts who m))
  (fun pre=>∃ k,k≤m∧pre=(la.zip (mosts who m)).take k) m w:=fun l J Jx W hW _ _ hY h0 =>
 limits1_in F n hF hro hn l Ba Bb w0 a m ca who la hla hA J Jx hY W (hb0.trans (hW.mono hb0.size)) ((hW.block Ba hBa.lt).trans hBa) ((hW.block Bb hBb.lt).trans hBb) h0
end Go.Proofs.YtecjnkokdnmhlaaGreat
namespace Go.Proofs.YtecjnkokdnmhlaaGreat
open Go.RowKit Go.Shelf
attribute [local go_sem] Oper.semAt_some
set_option maxRecDepth 100000 in
set_option maxHeartbeats 2000000 in
theorem sent_loop (F:Fence) (N:Nat) (hf:∀ k,F.fn k) (hro:F.round=none) (hN:3≤N) (a:Option Addr) (n c:Nat) (i u:Int) (la:List Int) (hn:n=la.length) (w:World) (hA:Nums w (.slice a n c) la)
 (h16:n≤16):CallsIn F N Tryz.prog 184 #[rowV i u (.slice a n c)] w (fun e w'=>e=.returned (.int .i64 (sentV la))∧Below w.heap.size w w'):=by
 have h1:1≤N:=by omega
 have HA:=qH hA; clear hA;have Hn:=qH hn; clear hn;refine callsIn_of_wp_marks Tryz.func184 rfl (hf _) ?_ hro;simp only [Tryz.ntmps184,List.size_toArray,List.length_cons,List.length_nil,Nat.reduceAdd,Nat.reduceSub,Array.replicate_succ,Array.replicate_zero,List.push_toArray,List.append_toArray,List.nil_append,List.cons_append]
 gi_wp2_with (gi_at_call 180; refine (limits_in F (N - 1) (hf _) hro _ _ _ _ _).mono ?_; rintro e w' ⟨rfl,rfl⟩)
 have c2:=Boxed.new (w.alloc (.cells #[.int .i64 i,.int .i64 u,.slice a n c] 77)) 2 (.int .i64 0);obtain ⟨w3,hw3⟩:∃ w3,(w.alloc (.cells #[.int .i64 i,.int .i64 u,.slice a n c] 77)).alloc (.cells #[.int .i64 0] 2)=w3:=⟨_,rfl⟩;have hs3:w3.heap.size=w.heap.size + 1 + 1:=by rw [← hw3]; simp
 have hb3:Below w.heap.size w w3:=by rw [← hw3]; exact below_two w _ _
 simp only [World.size_alloc] at c2;rw [hw3] at c2 ⊢;clear hw3;have bA:=Boxed.new w3 31 (.slice a n c);have bB:=Boxed.new (w3.alloc (.cells #[.slice a n c] 31)) 3 (.int .i64 (-1));rw [World.size_alloc] at bB;rw [hs3] at bA bB;have hB0:Below w.heap.size w ((w3.alloc (.cells #[.slice a n c] 31)).alloc (.cells #[.int .i64 (-1)] 3)):=(hb3.alloc (by omega) _).alloc (by simp; omega) _
 refine wpIn_rangeFunc_ownG hro h1 (gf:=203) (lb:=#[.pointer (some ⟨w.heap.size + 1 + 1,0,none⟩),.pointer (some ⟨w.heap.size + 1 + 1 + 1,0,none⟩)]) rfl (hf _) (enters_of Tryz.func203 (by kernel_rfl) rfl)
  (limits_stops F (N - 1) (hf _) hro (by omega) (w.heap.size + 1 + 1) (w.heap.size + 1 + 1 + 1) w a n c (-1) la Hn.out HA.out _ hB0 (bA.alloc _) bB) kept_trans (kept_put (by simp; omega) (by simp; omega)) (Below.refl _ _) (fun _=>rfl)
  (fun pre W=>((∀ x ∈ pre,0≤x.1∧x.1≤x.2)∧Boxed W (w.heap.size + 1) 2 (.int .i64 (sumW (pre.map Prod.fst))))∧Below w.heap.size w W)
  (fun cd pre W=>(cd=.ret∧Bad pre∧Boxed W (w.heap.size + 1) 2 (.int .i64 0))∧Below w.heap.size w W)
  (OwnFrom.and (Own.from (fun s A B row hs hg hr=>⟨hs.1,box_kept hs.2 hg hr⟩) _) (ownFrom_below (Nat.le_refl _) (by simp; omega)))
  (fun cd=>OwnFrom.and (Own.from (fun s A B row hs hg hr=>⟨hs.1,hs.2.1,box_kept hs.2.2 hg hr⟩) _) (ownFrom_below (Nat.le_refl _) (by simp; omega)))
  ⟨⟨by simp,(c2.alloc _).alloc _⟩,hB0⟩
  ?a1 ?assign ?body ?done ?stop
 case assign =>
  intro l x W K hK
  gi_wp2
  exact hK
 case body =>
  rintro l pre x W ⟨⟨hp,hr⟩,hB⟩ _;obtain ⟨s,Hs⟩:∃ s,Hid (sumW (pre.map Prod.fst)=s):=⟨_,rfl⟩;rw [Hs.out] at hr
  have Hs1:Hid (sumW ((pre ++ [x]).map Prod.fst)=wrap64 (s + x.1)):=by
   rw [List.map_append,List.map_cons,List.map_nil,sumW_snoc,Hs.out]; exact rfl
  have hc:=hr.cell;have hfz:=hr.frozen
  by_cases hx0:0≤x.1
  · by_cases hx1:x.1≤x.2
    · gi_wp2
      exact ⟨(KeepsOthers.setCell _ _ _).from _,kept_set _ (by simp) (by simp; omega),⟨fun y hy=>(List.mem_append.1 hy).elim (hp y) (fun e=>by simp at e; subst e; exact ⟨hx0,hx1⟩),by rw [Hs1.out]; exact hr.set _⟩,hB.setCell (p:=⟨w.heap.size + 1,0,none⟩) (by simp) _⟩
    · gi_wp2
      exact ⟨(KeepsOthers.setCell _ _ _).from _,⟨rfl,bad_of (by omega),hr.set _⟩,hB.setCell (p:=⟨w.heap.size + 1,0,none⟩) (by simp) _⟩
  · gi_wp2
    exact ⟨(KeepsOthers.setCell _ _ _).from _,⟨rfl,bad_of (by omega),hr.set _⟩,hB.setCell (p:=⟨w.heap.size + 1,0,none⟩) (by simp) _⟩
 case done =>
  rintro D ys W hD rfl ⟨⟨hp,hr⟩,hB⟩ hK
  have hmap:(la.zip (mosts (-1) n)).map Prod.fst=la:=by
   rw [List.map_fst_zip]; rw [mosts_length,← Hn.out]; exact Nat.le_refl _
  rw [hmap] at hr
  have hv:sentV la=sumW la:=by
   unfold sentV
   rw [if_pos];rw [← Hn.out]
   exact ⟨h16,fits_yes hp⟩
  have hc:=hr.cell;have hfz:=hr.frozen;have Hmap:=qH hmap;have Hv:=qH hv;have hp':=qH hp;clear hmap hv hp;obtain ⟨s,Hs⟩:∃ s,Hid (sumW la=s):=⟨_,rfl⟩;rw [Hs.out] at hc hr
  gi_wp2
  have hK':=(KeepsOthers.setCell W ⟨w.heap.size + 1,0,none⟩ (.int .i64 s)).same D _ hK rfl;refine ⟨by simp,.inl ⟨_,_,rfl,run_takeDeferred hK',?_⟩⟩
  have hc5:=cell_kept (hr.set (.int .i64 s)).cell (grownBy_putObj' _ D (.deferred none)) (fun r e=>by cases e; exact ⟨_,hK',rfl⟩)
  refine ⟨.int .i64 s,?_,by rw [Hv.out,Hs.out],(hB.setCell (p:=⟨w.heap.size + 1,0,none⟩) (by simp) _).trans (belowK_b (w:=w) (Nat.le_refl _) _ D _ _ (by simp at hD; omega) hK' rfl rfl)⟩
  simp [results,Tryz.f184,go_sem,hc5]
 case stop =>
  rintro D cd pre W hD ⟨k,hk,rfl⟩ ⟨⟨rfl,hbad,hr⟩,hB⟩ hK
  have hv:sentV la=0:=by
   unfold sentV
   rw [if_neg];rw [← Hn.out,hbad.fits]
   simp
  have Hv:=qH hv;clear hv
  gi_wp2
  refine ⟨by simp,.inl ⟨_,_,rfl,run_takeDeferred hK,?_⟩⟩
  have hc5:=cell_kept hr.cell (grownBy_putObj' _ D (.deferred none)) (fun r e=>by cases e; exact ⟨_,hK,rfl⟩)
  refine ⟨.int .i64 0,?_,by rw [Hv.out],hB.trans (belowK_b (w:=w) (Nat.le_refl _) W D _ _ (by simp at hD; omega) hK rfl rfl)⟩
  simp [results,Tryz.f184,go_sem,hc5]
theorem sent_calls (a:Option Addr) (n c:Nat) (i u:Int) (la:List Int) (hn:n=la.length) (w:World) (hA:Nums w (.slice a n c) la) :
 Calls Tryz.prog 184 #[rowV i u (.slice a n c)] w (fun e w'=>e=.returned (.int .i64 (sentV la))∧Below w.heap.size w w'):=by
 by_cases h:n≤16
 · exact callsIn_wide.1 (sent_loop Fence.wide 9 (fun _=>trivial) rfl (by decide) a n c i u la hn w hA h)
 · have hbig:n≤9223372036854775807:=by rw [hn]; exact hA.1
   have hv:sentV la=0:=by
    unfold sentV
    rw [if_neg];rw [← hn]
    exact fun k=>h k.1
   rw [hv];have h':16 < n:=by omega
   clear hv hA hn h
   go_enter Tryz.func184,Tryz.ntmps184
   go_wp2
   exact bodyPost_ret (v:=.int .i64 0) (by simp [results,Tryz.results184,go_sem]) rfl ⟨rfl,below_two w _ _⟩
end Go.Proofs.YtecjnkokdnmhlaaGreat
namespace Go.Proofs.YtecjnkokdnmhlaaGreat
open Go.RowKit
theorem given_calls (i u:Int) (A:Option Addr) (n C:Nat) (la:List Int) (hn:n=la.length) (who:Nat) (hw:who < n) (p:Nat) (w:World) (hN:Nums w (.slice A n C) la) (hp:w.cell? ⟨p,0,none⟩=some (.int .i64 (who:Int))) :
 Calls Tryz.prog 182 #[rowV i u (.slice A n C),.pointer (some ⟨p,0,none⟩)] w (Num w (la[who]?.getD 0)):=by
 have hpl:p < w.heap.size:=World.block_lt_of_cell? w _ hp;obtain ⟨b,off,rfl,hbl,d⟩:=hN.at (i:=who) (by omega)
 have hbig:n≤9223372036854775807:=by rw [hn]; exact hN.1
 obtain ⟨x,Hx⟩:∃ z,Hid (la[who]?.getD 0=z):=⟨_,rfl⟩;rw [Hx.out] at d ⊢;clear hN hn;have k0:(0:Int)≤(who:Int):=by omega
 have k1:(who:Int) < (n:Int):=by omega
 go_enter Tryz.func182,Tryz.ntmps182
 go_wp2
 go_ret
 exact ⟨by rfl,below_box _ _⟩
set_option maxRecDepth 100000 in
set_option maxHeartbeats 4000000 in
theorem sums_given (a:Option Addr) (m d:Nat) (l:List Rw) (hm:m=l.length) (h16:m≤16) (hF:Fits l) (who:Nat) (hw:who < m) (bs p:Nat) (w:World) (hB:Books w (.slice a m d) l)
 (hs:w.cell? ⟨bs,0,none⟩=some (.slice a m d)) (hp:w.cell? ⟨p,0,none⟩=some (.int .i64 (who:Int))) :
 Calls Tryz.prog 159 #[.func (.func 182) #[] #[.pointer (some ⟨p,0,none⟩)],.pointer (some ⟨bs,0,none⟩)] w (Num w (sumN (fun i=>(at_ l i).out[who]?.getD 0) m)):=by
 have HB:=qH hB; clear hB;have Hm:=qH hm; clear hm;have HF:=qH hF; clear hF;have hbsl:bs < w.heap.size:=World.block_lt_of_cell? w _ hs;have Hp:=qH hp; clear hp;obtain ⟨G,HG⟩:∃ G,Hid ((fun i=>(at_ l i).out[who]?.getD 0)=G):=⟨_,rfl⟩
 rw [HG.out]
 have hGb:Hid (∀ k,k < m→-1125899906842624≤G k∧G k≤1125899906842624):=by
  rw [← HG.out];intro k hk;have:=(HF.out k (by have:=Hm.out; omega)).2.2.2.2.2 who (by have:=Hm.out; omega)
  show -1125899906842624≤(at_ l k).out[who]?.getD 0∧(at_ l k).out[who]?.getD 0≤1125899906842624
  omega
 go_enter Tryz.func159,Tryz.ntmps159
 go_wp2_with fail
 clear hs
 go_loopw [3,8] (fun t i wr=>∃ (k:Nat) (T:Int),k≤m∧i=.int .i64 k∧t=.int .i64 T∧Hid (T=sumN G k)∧Hid (Below w.heap.size w wr)) (fun _ i _=>m - (intOf i).toNat)
 case atStart=>exact ⟨0,0,Nat.zero_le _,rfl,rfl,show _=_ by rfl,Below.refl _ _⟩
 case round =>
  obtain ⟨k,T,hk,rfl,rfl,HT,Hb⟩:=hrel;have hbm:m≤9223372036854775807:=by omega
  by_cases hlt:k < m
  · obtain ⟨b,off,A,C,rfl,hbw,c0,c1,c2,hN⟩:=HB.out.at (k:=k) (by have:=Hm.out; omega)
    have hfb:=sumN_bound hGb.out k (by omega)
    rw [← HT.out] at hfb;have hgk:=hGb.out k hlt;have hT0:-(1125899906842624 * 16)≤T:=by omega
    have hT1:T≤1125899906842624 * 16:=by omega
    clear hfb;have hff:=HF.out k (by have:=Hm.out; omega)
    rw [← Hm.out] at hff;obtain ⟨r,Hr⟩:∃ z,Hid (at_ l k=z):=⟨_,rfl⟩;rw [Hr.out] at c0 c1 c2 hN hff;rw [hff.1] at c2 hN;have Hru:Hid (0≤r.inc∧r.inc≤1099511627776∧0≤r.use∧r.use≤1099511627776):=⟨hff.2.1,hff.2.2.1,hff.2.2.2.1,hff.2.2.2.2.1⟩;have Hx:Hid (r.out[who]?.getD 0=G k):=by rw [← HG.out,← Hr.out]; exact rfl
    obtain ⟨y,Hy⟩:∃ z,Hid (G k=z):=⟨_,rfl⟩;rw [Hy.out] at hgk Hx;obtain ⟨hy0,hy1⟩:=hgk;have HS:Hid (sumN G (k + 1)=T + y):=by rw [HT.out,← Hy.out]; exact rfl
    have Hout:=qH hff.1.symm; clear hff;have HN:=qH hN; clear hN;have d0:=cell_later Hb.out c0;have d1:=cell_later Hb.out c1;have d2:=cell_later Hb.out c2;clear c0 c1 c2;have hbr:b < wr.heap.size:=by have:=Hb.out.size; omega
    have k0:(0:Int)≤(k:Int):=by omega
    have k1:(k:Int) < (m:Int):=by omega
    go_wp2_with fail
    have HA:=held_next Hb.out (below_box wr (.cells #[.int .i64 r.inc,.int .i64 r.use,.slice A m C] 77));refine (given_calls r.inc r.use A m C r.out Hout.out who hw p _ (HN.out.later HA) (cell_later HA Hp.out)).mono ?_;rintro e w2 ⟨rfl,hb⟩;rw [Hx.out];have Hb2:=qH (held_next HA hb);clear HA hb d0 d1 d2
    go_wp2_with fail
    go_roundw
    case rel=>exact ⟨k + 1,T + y,by omega,by go_num,rfl,HS.out.symm,Hb2.out⟩
    case measure=>simp [intOf]; omega
  · have hkm:k=m:=by omega
    have HT2:Hid (sumN G m=T):=by rw [← hkm]; exact HT.out.symm
    have Hkm:=qH hkm; clear hkm
    go_wp2
    go_ret
    exact ⟨by rw [HT2.out]; rfl,Hb.out⟩
end Go.Proofs.YtecjnkokdnmhlaaGreat
namespace Go.Proofs.YtecjnkokdnmhlaaGreat
open Go.RowKit
theorem sums_calls (a:Option Addr) (m d:Nat) (w:World):Calls Tryz.prog 99 #[.slice a m d] w (fun e w'=>e=.returned (.func (.func 159) #[] #[.pointer (some ⟨w.heap.size,0,none⟩)])∧w'=w.alloc (.cells #[.slice a m d] 24)):=by
 have hmf:∀ (fn:Fn) (first cap:Array Value) (w:World),(Instr.makeFunc fn first cap).run Tryz.prog w=.ok (.func fn first cap) w:=fun _ _ _ _=>rfl
 go_enter Tryz.func99,Tryz.ntmps99
 go_wp2
 go_ret
 exact ⟨rfl,rfl⟩
def Clos (w:World) (v:Value) (c:Cf) (sl:Value):Prop :=
 ∃ bl ba bc bs : Nat, v = .func (.func 181) #[] #[.pointer (some ⟨bl, 0, none⟩), .pointer (some ⟨ba, 0, none⟩), .pointer (some ⟨bc, 0, none⟩)] ∧ w.cell? ⟨bl, 0, none⟩ = some sl ∧
   w.cell? ⟨ba,0,none⟩=some (.func (.func 159) #[] #[.pointer (some ⟨bs,0,none⟩)])∧w.cell? ⟨bs,0,none⟩=some sl∧Whole w bc 23 (cfCells c)
def Closed (c:Cf) (sl:Value) (w:World) (e:Ending) (w':World):Prop:=∃ v,e=.returned v∧Clos w' v c sl∧Below w.heap.size w w'
theorem rights_calls (c:Cf) (a:Option Addr) (m d:Nat) (w:World):Calls Tryz.prog 136 #[cfV c,.slice a m d] w (Closed c (.slice a m d) w):=by
 have hmf:∀ (fn:Fn) (first cap:Array Value) (w:World),(Instr.makeFunc fn first cap).run Tryz.prog w=.ok (.func fn first cap) w:=fun _ _ _ _=>rfl
 obtain ⟨n,q,r,p,k,cc⟩:=c
 go_enter Tryz.func136,Tryz.ntmps136
 go_wp2_with fail
 refine (sums_calls a m d _).mono ?_;rintro e w3 ⟨rfl,hw3⟩;have hs3:w3.heap.size=w.heap.size + 1 + 1 + 1:=by rw [hw3]; simp
 have Hw3:=qH hw3; clear hw3;have Hs3:=qH hs3; clear hs3
 go_wp2_with fail
 go_ret
 have B1:Whole ((((w.alloc (.cells (cfCells ⟨n,q,r,p,k,cc⟩) 23)).alloc (.cells #[.slice a m d] 24)).alloc (.cells #[.slice a m d] 24)).alloc (.cells #[.func (.func 159) #[] #[.pointer (some ⟨w.heap.size + 1 + 1,0,none⟩)]] 154)) w.heap.size 23 (cfCells ⟨n,q,r,p,k,cc⟩):=(((Whole.made w _ _).alloc _).alloc _).alloc _;have B2:Whole ((((w.alloc (.cells (cfCells ⟨n,q,r,p,k,cc⟩) 23)).alloc (.cells #[.slice a m d] 24)).alloc (.cells #[.slice a m d] 24)).alloc (.cells #[.func (.func 159) #[] #[.pointer (some ⟨w.heap.size + 1 + 1,0,none⟩)]] 154)) (w.heap.size + 1) 24 #[.slice a m d]:=((Whole.madeAt _ _ _ _ (by simp)).alloc _).alloc _
 have B3:Whole ((((w.alloc (.cells (cfCells ⟨n,q,r,p,k,cc⟩) 23)).alloc (.cells #[.slice a m d] 24)).alloc (.cells #[.slice a m d] 24)).alloc (.cells #[.func (.func 159) #[] #[.pointer (some ⟨w.heap.size + 1 + 1,0,none⟩)]] 154)) (w.heap.size + 1 + 1) 24 #[.slice a m d]:=(Whole.madeAt _ _ _ _ (by simp)).alloc _
 have B4:Whole ((((w.alloc (.cells (cfCells ⟨n,q,r,p,k,cc⟩) 23)).alloc (.cells #[.slice a m d] 24)).alloc (.cells #[.slice a m d] 24)).alloc (.cells #[.func (.func 159) #[] #[.pointer (some ⟨w.heap.size + 1 + 1,0,none⟩)]] 154)) (w.heap.size + 1 + 1 + 1) 154 #[.func (.func 159) #[] #[.pointer (some ⟨w.heap.size + 1 + 1,0,none⟩)]]:=Whole.madeAt _ _ _ _ (by simp)
 rw [Hw3.out];refine ⟨_,?_,⟨w.heap.size + 1,w.heap.size + 1 + 1 + 1,w.heap.size,w.heap.size + 1 + 1,rfl,B2.cell 0,B4.cell 0,B3.cell 0,B1⟩,((below_two w _ _).alloc (by simp; omega) _).alloc (by simp; omega) _⟩
 simp
set_option maxRecDepth 100000 in
set_option maxHeartbeats 4000000 in
theorem clos_calls (c:Cf) (a:Option Addr) (m d:Nat) (l:List Rw) (who:Nat) (hm:m=l.length) (h16:m≤16) (hw:who < m) (hF:Fits l) (bl ba bc bs:Nat) (w:World) (hB:Books w (.slice a m d) l)
 (q1:w.cell? ⟨bl,0,none⟩=some (.slice a m d)) (q2:w.cell? ⟨ba,0,none⟩=some (.func (.func 159) #[] #[.pointer (some ⟨bs,0,none⟩)])) (q3:w.cell? ⟨bs,0,none⟩=some (.slice a m d)) (q4:Whole w bc 23 (cfCells c)) :
 Calls Tryz.prog 181 #[.int .i64 (who:Int),.pointer (some ⟨bl,0,none⟩),.pointer (some ⟨ba,0,none⟩),.pointer (some ⟨bc,0,none⟩)] w (Num w (rightsV c l who)):=by
 have hmf:∀ (fn:Fn) (first cap:Array Value) (w:World),(Instr.makeFunc fn first cap).run Tryz.prog w=.ok (.func fn first cap) w:=fun _ _ _ _=>rfl
 have Hparts:=qH (rights_parts (c:=c) hm h16 hF hw);obtain ⟨b,off,A,C,rfl,hbw,c0,c1,c2,hN⟩:=hB.at (k:=who) (by omega)
 have hbl:bl < w.heap.size:=World.block_lt_of_cell? w _ q1;have hba:ba < w.heap.size:=World.block_lt_of_cell? w _ q2;have hbc:bc < w.heap.size:=q4.lt;have hbs:bs < w.heap.size:=World.block_lt_of_cell? w _ q3;have HB:=qH hB; clear hB;have Hm:=qH hm; clear hm;have HF:=qH hF; clear hF;have HQ3:=qH q3; clear q3;have HQ4:=qH q4; clear q4;obtain ⟨r,Hr⟩:∃ z,Hid (at_ l who=z):=⟨_,rfl⟩;have hff:=HF.out who (by have:=Hm.out; omega)
 rw [Hr.out,← Hm.out] at hff;rw [Hr.out] at c0 c1 c2 hN;rw [hff.1] at c2 hN;have Hlen:=qH hff.1.symm;have HN:=qH hN; clear hN;obtain ⟨x,Hx⟩:∃ x,Hid (r.inc=x):=⟨_,rfl⟩;obtain ⟨y,Hy⟩:∃ y,Hid (r.use=y):=⟨_,rfl⟩;rw [Hx.out] at c0;rw [Hy.out] at c1;have hbx:0≤x∧x≤1099511627776:=by rw [← Hx.out]; omega
 have hby:0≤y∧y≤1099511627776:=by rw [← Hy.out]; omega
 obtain ⟨s,Hs⟩:∃ s,Hid (shareV c who=s):=⟨_,rfl⟩;have hbsh:0≤s∧s≤1099511627777:=by have:=shareV_bound c who; rw [Hs.out] at this; exact this
 obtain ⟨T,HT⟩:∃ T,Hid (sumN (fun i=>(at_ l i).out[who]?.getD 0) m=T):=⟨_,rfl⟩
 have hbT:-18014398509481984≤T∧T≤18014398509481984:=by
  have:=sumN_bound (g:=fun i=>(at_ l i).out[who]?.getD 0) (b:=1125899906842624) (n:=m) (fun k hk=>by
   have:=(HF.out k (by have:=Hm.out; omega)).2.2.2.2.2 who (by have:=Hm.out; omega)
   show -1125899906842624≤(at_ l k).out[who]?.getD 0∧(at_ l k).out[who]?.getD 0≤1125899906842624
   omega) m (Nat.le_refl _)
  rw [HT.out] at this
  omega
 obtain ⟨S,HS⟩:∃ S,Hid (sentV r.out=S):=⟨_,rfl⟩
 have hbS:-18014398509481984≤S∧S≤18014398509481984:=by
  have h1:=hff.2.2.2.2.2;have h2:=sent_is (la:=r.out) (by have:=Hlen.out; omega) (fun k hk=>h1 k (by have:=Hlen.out; omega))
  have:=sumN_bound (g:=fun i=>r.out[i]?.getD 0) (b:=1125899906842624) (n:=m) (fun k hk=>by
   have:=h1 k hk
   show -1125899906842624≤r.out[k]?.getD 0∧r.out[k]?.getD 0≤1125899906842624
   omega) m (Nat.le_refl _)
  rw [← Hlen.out,HS.out] at h2;rw [← h2] at this
  omega
 clear hff
 have Hv:Hid (rightsV c l who=s + x + T - S - y):=by
  rw [Hparts.out,Hr.out,Hs.out,HT.out,HS.out,Hx.out,Hy.out]; exact rfl
 rw [Hv.out];obtain ⟨hx0,hx1⟩:=hbx;obtain ⟨hy0,hy1⟩:=hby;obtain ⟨hs0,hs1⟩:=hbsh;obtain ⟨hT0,hT1⟩:=hbT;obtain ⟨hS0,hS1'⟩:=hbS;have k0:(0:Int)≤(who:Int):=by omega
 have k1:(who:Int) < (m:Int):=by omega
 have hmb:m≤9223372036854775807:=by omega
 go_enter Tryz.func181,Tryz.ntmps181
 go_wp2_with fail
 have HWh:=qH ((Whole.made w 3 #[.int .i64 (who:Int)]).alloc (.cells #[.int .i64 x,.int .i64 y,.slice A m C] 77));have HWr:=qH (Whole.made2 w (.cells #[.int .i64 (who:Int)] 3) 77 #[.int .i64 x,.int .i64 y,.slice A m C]);have Hb0:=qH (below_two w (.cells #[.int .i64 (who:Int)] 3) (.cells #[.int .i64 x,.int .i64 y,.slice A m C] 77));refine (sums_given (some ⟨b,off,none⟩) m d l Hm.out h16 HF.out who hw bs w.heap.size _ (HB.out.later Hb0.out) (cell_later Hb0.out HQ3.out) (HWh.out.cell 0)).mono ?_
 rintro e w3 ⟨rfl,hb⟩;rw [HT.out];have Hb3:=qH (held_next Hb0.out hb);have HWh3:=qH (HWh.out.later hb HWh.out.lt);have HWr3:=qH (HWr.out.later hb HWr.out.lt);have HWc3:=qH (HQ4.out.later Hb3.out hbc);have HN3:=qH (HN.out.later Hb3.out);clear hb HWh HWr q1 q2 c0 c1 c2
 have KP:Hid (∀ w',Below w3.heap.size w3 w'→Below w3.heap.size w3 w'∧(w'.cell? ⟨bc,0,none⟩=some (.int .i64 c.n)∧w'.cell? ⟨bc,1,none⟩=some (.int .i64 c.q)∧w'.cell? ⟨bc,2,none⟩=some (.int .i64 c.r)∧w'.cell? ⟨bc,3,none⟩=some (.int .i64 c.p)∧w'.cell? ⟨bc,4,none⟩=some (.int .i64 c.k)∧w'.cell? ⟨bc,5,none⟩=some (.int .i64 c.c)) ∧
  w'.cell? ⟨w.heap.size,0,none⟩=some (.int .i64 (who:Int))∧w'.cell? ⟨w.heap.size + 1,0,none⟩=some (.int .i64 x)∧w'.cell? ⟨w.heap.size + 1,1,none⟩=some (.int .i64 y)∧w'.cell? ⟨w.heap.size + 1,2,none⟩=some (.slice A m C)) :=
  fun w' h=>⟨h,config_cells (HWc3.out.later h HWc3.out.lt),(HWh3.out.later h HWh3.out.lt).cell 0,(HWr3.out.later h HWr3.out.lt).cell 0,(HWr3.out.later h HWr3.out.lt).cell 1,(HWr3.out.later h HWr3.out.lt).cell 2⟩
 have OS:Hid (∀ w',Calls Tryz.prog 183 #[cfV c,.int .i64 (who:Int)] w' (Num w' s)):=by rw [← Hs.out]; exact fun w'=>rShare_calls c who w'
 have OT:Hid (∀ w',Below w3.heap.size w3 w'→Calls Tryz.prog 184 #[rowV x y (.slice A m C)] w' (Num w' S)):=by rw [← HS.out]; exact fun w' h=>sent_calls A m C x y r.out Hlen.out w' (HN3.out.later h)
 have e1:IntKind.i64.wrap (s + x)=s + x:=IntWalk.i64_in _ (by omega)
 have e2:IntKind.i64.wrap (s + x + T)=s + x + T:=IntWalk.i64_in _ (by omega)
 have e3:IntKind.i64.wrap (s + x + T - S)=s + x + T - S:=IntWalk.i64_in _ (by omega)
 have e4:IntKind.i64.wrap (s + x + T - S - y)=s + x + T - S - y:=IntWalk.i64_in _ (by omega)
 go_wp2_with fail
 go_region_held3 (fun w'=>Below w3.heap.size w3 w'∧(w'.cell? ⟨bc,0,none⟩=some (.int .i64 c.n)∧w'.cell? ⟨bc,1,none⟩=some (.int .i64 c.q)∧w'.cell? ⟨bc,2,none⟩=some (.int .i64 c.r)∧w'.cell? ⟨bc,3,none⟩=some (.int .i64 c.p)∧w'.cell? ⟨bc,4,none⟩=some (.int .i64 c.k)∧w'.cell? ⟨bc,5,none⟩=some (.int .i64 c.c)) ∧
  w'.cell? ⟨w.heap.size,0,none⟩=some (.int .i64 (who:Int))∧w'.cell? ⟨w.heap.size + 1,0,none⟩=some (.int .i64 x)∧w'.cell? ⟨w.heap.size + 1,1,none⟩=some (.int .i64 y)∧w'.cell? ⟨w.heap.size + 1,2,none⟩=some (.slice A m C))
  (first | exact KP.out _ (Below.refl _ _).drew | (refine KP.out _ ?_; assumption))
  (first | (go_at_call 183; have hcur:=(‹Below w3.heap.size w3 _∧_∧_›).1; refine (OS.out _).mono ?_; rintro e w4 ⟨rfl,hb1⟩; have hS1:=held_next hcur hb1; clear hb1 hcur) | (go_at_call 184; have hcur:=(‹Below w3.heap.size w3 _∧_∧_›).1; refine (OT.out _ hcur).mono ?_; rintro e w4 ⟨rfl,hb1⟩; have hS1:=held_next hcur hb1; clear hb1 hcur))
 all_goals go_wp2_with fail
 all_goals go_ret
 all_goals exact ⟨by rfl,held_next Hb3.out (by assumption)⟩
end Go.Proofs.YtecjnkokdnmhlaaGreat
