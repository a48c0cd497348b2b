/- Parts, as far as NodeAtOnceCards reaches them, of: RowMay, RightsRight, RightsOwn. No law is proved here. -/
import Derived.Test.YtecjnkokdnmhlaaGreatTa10
namespace Go.Proofs.YtecjnkokdnmhlaaGreat
open Go.RowKit Go.Shelf
attribute [local go_sem] Oper.semAt_some
theorem counts_in (F:Fence) (n:Nat) (hF:F.fn 179) (hro:F.round=none) (v:Int) (w:World):CallsIn F n Tryz.prog 179 #[.int .i64 v] w (fun e w'=>e=.returned (.bool (countB v))∧w=w'):=by
 refine callsIn_of_wp Tryz.func179 rfl hF ?_ hro;simp only [Tryz.ntmps179,List.size_toArray,List.length_cons,List.length_nil,Nat.reduceAdd,Nat.reduceSub,Array.replicate_succ,Array.replicate_zero,List.push_toArray,List.append_toArray,List.nil_append,List.cons_append]
 by_cases h1:0≤v
 · by_cases h2:v≤1099511627776
   · rw [countB_yes ⟨h1,h2⟩]
     gi_wp2
     go_ret
     exact ⟨by simp,rfl⟩
   · rw [countB_no (by omega)]
     gi_wp2
     go_ret
     exact ⟨by simp,rfl⟩
 · rw [countB_no (by omega)]
   gi_wp2
   go_ret
   exact ⟨by simp,rfl⟩
theorem counts_calls (v:Int) (w:World):Calls Tryz.prog 179 #[.int .i64 v] w (fun e w'=>e=.returned (.bool (countB v))∧w=w') :=
 callsIn_wide.1 (counts_in Fence.wide 9 trivial rfl v w)
set_option maxRecDepth 100000 in
set_option maxHeartbeats 2000000 in
theorem may_loop (F:Fence) (N:Nat) (hf:∀ k,F.fn k) (hro:F.round=none) (hN:3≤N) (a:Option Addr) (n c:Nat) (i u who:Int) (la:List Int) (hn:n=la.length) (w:World) (hA:Nums w (.slice a n c) la)
 (h0:0≤who) (hwn:who < n) (hi:countB i=true) (hu:countB u=true):CallsIn F N Tryz.prog 135 #[rowV i u (.slice a n c),.int .i64 (n:Int),.int .i64 who] w (Says w (fits (la.zip (mosts who n)))):=by
 have hbig:n≤9223372036854775807:=by rw [hn]; exact hA.1
 have h1:1≤N:=by omega
 have HA:=qH hA; clear hA;have Hn:=qH hn; clear hn;have Hi:=qH hi; clear hi;have Hu:=qH hu; clear hu;refine callsIn_of_wp_marks Tryz.func135 rfl (hf _) ?_ hro;simp only [Tryz.ntmps135,List.size_toArray,List.length_cons,List.length_nil,Nat.reduceAdd,Nat.reduceSub,Array.replicate_succ,Array.replicate_zero,List.push_toArray,List.append_toArray,List.nil_append,List.cons_append]
 gi_wp2_with fail
 refine (counts_in F (N - 1) (hf _) hro i _).mono ?_;rintro e w' ⟨rfl,rfl⟩;rw [Hi.out]
 gi_wp2_with fail
 refine (counts_in F (N - 1) (hf _) hro u _).mono ?_;rintro e w' ⟨rfl,rfl⟩;rw [Hu.out]
 gi_wp2_with (gi_at_call 180; refine (limits_in F (N - 1) (hf _) hro _ _ _ _ _).mono ?_; rintro e w' ⟨rfl,rfl⟩)
 have c2:=Boxed.new (w.alloc (.cells #[.int .i64 i,.int .i64 u,.slice a n c] 77)) 4 (.bool false);obtain ⟨w3,hw3⟩:∃ w3,(w.alloc (.cells #[.int .i64 i,.int .i64 u,.slice a n c] 77)).alloc (.cells #[.bool false] 4)=w3:=⟨_,rfl⟩;have hs3:w3.heap.size=w.heap.size + 1 + 1:=by rw [← hw3]; simp
 have hb3:Below w.heap.size w w3:=by rw [← hw3]; exact below_two w _ _
 simp only [World.size_alloc] at c2;rw [hw3] at c2 ⊢;clear hw3;have bA:=Boxed.new w3 31 (.slice a n c);have bB:=Boxed.new (w3.alloc (.cells #[.slice a n c] 31)) 3 (.int .i64 who);rw [World.size_alloc] at bB;rw [hs3] at bA bB;have hB0:Below w.heap.size w ((w3.alloc (.cells #[.slice a n c] 31)).alloc (.cells #[.int .i64 who] 3)):=(hb3.alloc (by omega) _).alloc (by simp; omega) _
 refine wpIn_rangeFunc_ownG hro h1 (gf:=203) (lb:=#[.pointer (some ⟨w.heap.size + 1 + 1,0,none⟩),.pointer (some ⟨w.heap.size + 1 + 1 + 1,0,none⟩)]) rfl (hf _) (enters_of Tryz.func203 (by kernel_rfl) rfl)
  (limits_stops F (N - 1) (hf _) hro (by omega) (w.heap.size + 1 + 1) (w.heap.size + 1 + 1 + 1) w a n c who la Hn.out HA.out _ hB0 (bA.alloc _) bB) kept_trans (kept_put (by simp; omega) (by simp; omega)) (Below.refl _ _) (fun _=>rfl)
  (fun pre W=>((∀ x ∈ pre,0≤x.1∧x.1≤x.2)∧Boxed W (w.heap.size + 1) 4 (.bool false))∧Below w.heap.size w W)
  (fun cd pre W=>(cd=.ret∧Bad pre∧Boxed W (w.heap.size + 1) 4 (.bool false))∧Below w.heap.size w W)
  (OwnFrom.and (Own.from (fun s A B row hs hg hr=>⟨hs.1,box_kept hs.2 hg hr⟩) _) (ownFrom_below (Nat.le_refl _) (by simp; omega)))
  (fun cd=>OwnFrom.and (Own.from (fun s A B row hs hg hr=>⟨hs.1,hs.2.1,box_kept hs.2.2 hg hr⟩) _) (ownFrom_below (Nat.le_refl _) (by simp; omega)))
  ⟨⟨by simp,(c2.alloc _).alloc _⟩,hB0⟩
  ?a1 ?assign ?body ?done ?stop
 case assign =>
  intro l x W K hK
  gi_wp2
  exact hK
 case body =>
  rintro l pre x W ⟨⟨hp,hr⟩,hB⟩ _;have hc:=hr.cell;have hfz:=hr.frozen
  by_cases hx0:0≤x.1
  · by_cases hx1:x.1≤x.2
    · gi_wp2
      exact ⟨KeepsFrom.refl _ _,kept_refl _ _ _,⟨fun y hy=>(List.mem_append.1 hy).elim (hp y) (fun e=>by simp at e; subst e; exact ⟨hx0,hx1⟩),hr⟩,hB⟩
    · gi_wp2
      exact ⟨(KeepsOthers.setCell _ _ _).from _,⟨rfl,bad_of (by omega),hr.set _⟩,hB.setCell (p:=⟨w.heap.size + 1,0,none⟩) (by simp) _⟩
  · gi_wp2
    exact ⟨(KeepsOthers.setCell _ _ _).from _,⟨rfl,bad_of (by omega),hr.set _⟩,hB.setCell (p:=⟨w.heap.size + 1,0,none⟩) (by simp) _⟩
 case done =>
  rintro D ys W hD rfl ⟨⟨hp,hr⟩,hB⟩ hK;have hc:=hr.cell;have hfz:=hr.frozen
  gi_wp2
  have hK':=(KeepsOthers.setCell W ⟨w.heap.size + 1,0,none⟩ (.bool true)).same D _ hK rfl;refine ⟨by simp,.inl ⟨_,_,rfl,run_takeDeferred hK',?_⟩⟩
  have hc5:=cell_kept (hr.set (.bool true)).cell (grownBy_putObj' _ D (.deferred none)) (fun r e=>by cases e; exact ⟨_,hK',rfl⟩)
  refine ⟨.bool true,?_,by rw [fits_yes hp],(hB.setCell (p:=⟨w.heap.size + 1,0,none⟩) (by simp) _).trans (belowK_b (w:=w) (Nat.le_refl _) _ D _ _ (by simp at hD; omega) hK' rfl rfl)⟩
  simp [results,Tryz.f135,go_sem,hc5]
 case stop =>
  rintro D cd pre W hD ⟨k,hk,rfl⟩ ⟨⟨rfl,hbad,hr⟩,hB⟩ hK
  gi_wp2
  refine ⟨by simp,.inl ⟨_,_,rfl,run_takeDeferred hK,?_⟩⟩
  have hc5:=cell_kept hr.cell (grownBy_putObj' _ D (.deferred none)) (fun r e=>by cases e; exact ⟨_,hK,rfl⟩)
  refine ⟨.bool false,?_,by rw [hbad.fits],hB.trans (belowK_b (w:=w) (Nat.le_refl _) W D _ _ (by simp at hD; omega) hK rfl rfl)⟩
  simp [results,Tryz.f135,go_sem,hc5]
section
variable (a:Option Addr) (n c:Nat) (i u m who:Int) (w:World)
set_option maxHeartbeats 1000000 in
theorem may_no (h:¬ (((n:Int)=m∧0≤who∧who < m)∧countB i=true∧countB u=true)):Calls Tryz.prog 135 #[rowV i u (.slice a n c),.int .i64 m,.int .i64 who] w (Says w false):=by
 by_cases h1:(n:Int)=m
 · subst h1
   by_cases h2:0≤who
   · by_cases h3:who < (n:Int)
     · cases hi:countB i with
       | false =>
         have Hi:=qH hi; clear hi h
         go_enter Tryz.func135,Tryz.ntmps135
         go_wp2_with fail
         refine (counts_calls i _).mono ?_;rintro e w' ⟨rfl,rfl⟩;rw [Hi.out]
         go_wp2
         refine bodyPost_ret (v:=.bool false) (by simp [results,Tryz.results135,go_sem]) rfl ⟨rfl,below_two w _ _⟩
       | true =>
         have hu:countB u=false:=by
          cases hu:countB u with
          | false=>rfl
          | true=>exact absurd ⟨⟨rfl,h2,h3⟩,hi,hu⟩ h
         have Hi:=qH hi; clear hi h;have Hu:=qH hu; clear hu
         go_enter Tryz.func135,Tryz.ntmps135
         go_wp2_with fail
         refine (counts_calls i _).mono ?_;rintro e w' ⟨rfl,rfl⟩;rw [Hi.out]
         go_wp2_with fail
         refine (counts_calls u _).mono ?_;rintro e w' ⟨rfl,rfl⟩;rw [Hu.out]
         go_wp2
         refine bodyPost_ret (v:=.bool false) (by simp [results,Tryz.results135,go_sem]) rfl ⟨rfl,below_two w _ _⟩
     · clear h
       go_enter Tryz.func135,Tryz.ntmps135
       go_wp2
       refine bodyPost_ret (v:=.bool false) (by simp [results,Tryz.results135,go_sem]) rfl ⟨rfl,below_two w _ _⟩
   · clear h
     go_enter Tryz.func135,Tryz.ntmps135
     go_wp2
     refine bodyPost_ret (v:=.bool false) (by simp [results,Tryz.results135,go_sem]) rfl ⟨rfl,below_two w _ _⟩
 · clear h
   have h1':((n:Int) != m)=true:=bne_iff_ne.2 h1
   go_enter Tryz.func135,Tryz.ntmps135
   go_wp2
   refine bodyPost_ret (v:=.bool false) (by simp [results,Tryz.results135,go_sem]) rfl ⟨rfl,below_two w _ _⟩
end
theorem may_calls (a:Option Addr) (n c:Nat) (i u m who:Int) (la:List Int) (hn:n=la.length) (w:World) (hA:Nums w (.slice a n c) la) :
 Calls Tryz.prog 135 #[rowV i u (.slice a n c),.int .i64 m,.int .i64 who] w (Says w (mayR i u la m who)):=by
 by_cases h:((n:Int)=m∧0≤who∧who < m)∧countB i=true∧countB u=true
 · have e:mayR i u la m who=fits (la.zip (mosts who n)):=by
    unfold mayR
    rw [← hn,decide_eq_true h.1,h.2.1,h.2.2]; rfl
   rw [e];obtain ⟨⟨rfl,h0,h1⟩,hi,hu⟩:=h
   exact callsIn_wide.1 (may_loop Fence.wide 9 (fun _=>trivial) rfl (by decide) a n c i u who la hn w hA h0 h1 hi hu)
 · have e:mayR i u la m who=false:=by
    unfold mayR
    rw [← hn]
    cases hd:decide ((n:Int)=m∧0≤who∧who < m) with
    | false=>rfl
    | true =>
      cases hi:countB i with
      | false=>rfl
      | true =>
        cases hu:countB u with
        | false=>rfl
        | true=>exact absurd ⟨of_decide_eq_true hd,hi,hu⟩ h
   rw [e]
   exact may_no a n c i u m who w h
end Go.Proofs.YtecjnkokdnmhlaaGreat
namespace Go.Proofs.YtecjnkokdnmhlaaGreat
open Go.RowKit
set_option maxRecDepth 100000 in
set_option maxHeartbeats 8000000 in
theorem rRight_calls (c:Cf) (a:Option Addr) (m d:Nat) (l:List Rw) (hm:m=l.length) (w:World) (hB:Books w (.slice a m d) l):Calls Tryz.prog 80 #[cfV c,.slice a m d] w (Says w (rightB c l)):=by
 have hbig:m≤9223372036854775807:=by rw [hm]; exact hB.big
 have HW:=qH (Whole.made w 23 (cfCells c));have Hb0:=qH (below_box w (.cells (cfCells c) 23));have HB:=qH hB; clear hB;have Hm:=qH hm; clear hm;obtain ⟨n,q,r,p,kk,cc⟩:=c;obtain ⟨res,Hres⟩:∃ z,Hid (rightB ⟨n,q,r,p,kk,cc⟩ l=z):=⟨_,rfl⟩;rw [Hres.out];obtain ⟨ok,Hok⟩:∃ z,Hid (cfB ⟨n,q,r,p,kk,cc⟩=z):=⟨_,rfl⟩
 go_enter Tryz.func80,Tryz.ntmps80
 go_wp2_with fail
 refine (rMay_calls ⟨n,q,r,p,kk,cc⟩ _).mono ?_;rintro e w1 ⟨rfl,hb⟩;rw [Hok.out];have Hb1:=qH (held_next Hb0.out hb);have HW1:=qH (HW.out.later hb HW.out.lt);clear hb;obtain ⟨d0,d1,d2,d3,d4,d5⟩:=config_cells HW1.out;simp only at d0 d1 d2 d3 d4 d5
 cases ok with
 | false =>
   obtain rfl:res=false:=Hres.out.symm.trans (rightB_no fun h=>by
    have:=cfB_yes h.1;rw [Hok.out] at this
    cases this)
   go_wp2_with fail
   go_ret
   exact ⟨by rfl,Hb1.out⟩
 | true =>
   by_cases hnm:(m:Int) ≠ n
   · obtain rfl:res=false:=Hres.out.symm.trans (rightB_no fun h=>hnm (by rw [Hm.out]; exact h.2.1))
     have hnm':((m:Int) != n)=true:=bne_iff_ne.2 hnm
     go_wp2_with fail
     go_ret
     exact ⟨by rfl,Hb1.out⟩
   have hnme:n=(m:Int):=by omega
   clear hnm;subst hnme
   go_wp2_with fail
   clear d0 d1 d2 d3 d4 d5
   go_loopw [21] (fun x wr=>∃ k:Nat,k≤m∧x=.int .i64 k∧Hid (∀ q,q < k→mayR (at_ l q).inc (at_ l q).use (at_ l q).out (m:Int) q=true∧(at_ l q).inc≤cc)∧Hid (Below w.heap.size w wr)∧Hid (Whole wr w.heap.size 23 (cfCells ⟨m,q,r,p,kk,cc⟩))) (fun x _=>m - (intOf x).toNat)
   case atStart=>exact ⟨0,Nat.zero_le _,rfl,fun q hq=>absurd hq (Nat.not_lt_zero _),Hb1.out,HW1.out⟩
   case round =>
    obtain ⟨k,hk,rfl,Hl,Hb,HWr⟩:=hrel;have d0:wr.cell? ⟨w.heap.size,0,none⟩=some (.int .i64 (m:Int)):=HWr.out.cell 0;have hszr:w.heap.size < wr.heap.size:=HWr.out.lt
    by_cases hlt:k < m
    · obtain ⟨b,off,A,C,rfl,hbw,c0,c1,c2,hN⟩:=HB.out.at (k:=k) (by have:=Hm.out; omega)
      obtain ⟨x,Hx⟩:∃ z,Hid ((at_ l k).inc=z):=⟨_,rfl⟩;obtain ⟨y,Hy⟩:∃ z,Hid ((at_ l k).use=z):=⟨_,rfl⟩;obtain ⟨lo,Hlo⟩:∃ z,Hid ((at_ l k).out=z):=⟨_,rfl⟩;obtain ⟨lm,Hlm⟩:∃ z,Hid (z=lo.length):=⟨_,rfl⟩;obtain ⟨v,Hv⟩:∃ z,Hid (mayR (at_ l k).inc (at_ l k).use (at_ l k).out (m:Int) k=z):=⟨_,rfl⟩;rw [Hx.out] at c0;rw [Hy.out] at c1;rw [Hlo.out,← Hlm.out] at c2 hN;have HN:=qH (hN.later Hb.out); clear hN
      have e0:=cell_later Hb.out c0;have e1:=cell_later Hb.out c1;have e2:=cell_later Hb.out c2;have Hv2:Hid (mayR x y lo (m:Int) k=v):=by rw [← Hv.out,Hx.out,Hy.out,Hlo.out]; exact rfl
      clear c0 c1 c2;have k0:(0:Int)≤(k:Int):=by omega
      have k1:(k:Int) < (m:Int):=by omega
      have hbr:b < wr.heap.size:=by have:=Hb.out.size; omega
      have HR:=qH (Whole.made wr 77 #[.int .i64 x,.int .i64 y,.slice A lm C]);have Hbx:=qH (below_box wr (.cells #[.int .i64 x,.int .i64 y,.slice A lm C] 77))
      go_wp2_with fail
      refine (may_calls A lm C x y m k lo Hlm.out _ (HN.out.later Hbx.out)).mono ?_;rintro e w2 ⟨rfl,hb⟩;rw [Hv2.out];have Hb2:=qH (held_next Hbx.out hb);have HR2:=qH (HR.out.later hb HR.out.lt);have HW2:=qH (HWr.out.later Hb2.out HWr.out.lt);have Hb2w:=qH (held_next Hb.out Hb2.out);clear hb d0 e0 e1 e2 hbr;have f0:w2.cell? ⟨wr.heap.size,0,none⟩=some (.int .i64 x):=HR2.out.cell 0;have f5:w2.cell? ⟨w.heap.size,5,none⟩=some (.int .i64 cc):=HW2.out.cell 5
      cases v with
      | false =>
        obtain rfl:res=false:=Hres.out.symm.trans (rightB_no fun h=>by
         have:=(h.2.2.1 k (by have:=Hm.out; omega)).1
         simp only at this;rw [Hv.out] at this
         cases this)
        go_wp2_with fail
        go_ret
        exact ⟨by rfl,Hb2w.out⟩
      | true =>
        by_cases hxc:cc < x
        · obtain rfl:res=false:=Hres.out.symm.trans (rightB_no fun h=>by
           have:=(h.2.2.1 k (by have:=Hm.out; omega)).2
           rw [Hx.out] at this;simp only at this
           omega)
          go_wp2_with fail
          go_ret
          exact ⟨by rfl,Hb2w.out⟩
        · go_wp2_with fail
          go_roundw
          case rel=>exact ⟨k + 1,by omega,by go_num,(fun z hz=>by
           by_cases e:z=k
           · subst e; exact ⟨Hv.out,by rw [Hx.out]; omega⟩
           · exact Hl.out z (by omega)),Hb2w.out,HW2.out⟩
          case measure=>simp [intOf]; omega
    · have hkm:k=m:=by omega
      have Hl':Hid (∀ i,i < l.length→mayR (at_ l i).inc (at_ l i).use (at_ l i).out (m:Int) i=true∧(at_ l i).inc≤cc):=fun i hi=>Hl.out i (by have:=Hm.out; omega)
      have HF:Hid (Fits l):=fits_of_may fun i hi=>by rw [← Hm.out]; exact (Hl'.out i hi).1
      have h16:m≤16:=by have:=(cfB_ok Hok.out).2.1; simp only at this; omega
      have Hkm:=qH hkm; clear hkm;clear Hl;obtain ⟨d0,d1,d2,d3,d4,d5⟩:=config_cells HWr.out;simp only at d0 d1 d2 d3 d4 d5
      go_wp2_with fail
      refine (rights_calls ⟨m,q,r,p,kk,cc⟩ a m d _).mono ?_;rintro e w3 ⟨cv,rfl,⟨bl,ba,bc,bs,rfl,q1,q2,q3,q4⟩,hb⟩;have Hb3:=qH (held_next Hb.out hb);have Q1:=qH q1; clear q1;have Q2:=qH q2; clear q2;have Q3:=qH q3; clear q3;have Q4:=qH q4; clear q4;have HB3:=qH (HB.out.later Hb3.out);clear hb d0 d1 d2 d3 d4 d5
      go_wp2_with fail
      go_loopw [45] (fun x wr=>∃ k:Nat,k≤m∧x=.int .i64 k∧Hid (∀ z,z < k→0≤rightsV ⟨m,q,r,p,kk,cc⟩ l z)∧Hid (Below w3.heap.size w3 wr)) (fun x _=>m - (intOf x).toNat)
      case atStart=>exact ⟨0,Nat.zero_le _,rfl,fun q hq=>absurd hq (Nat.not_lt_zero _),Below.refl _ _⟩
      case round =>
       clear Hb HWr;obtain ⟨k,hk,rfl,Hg,Hb⟩:=hrel
       by_cases hlt:k < m
       · obtain ⟨v,Hv⟩:∃ z,Hid (rightsV ⟨m,q,r,p,kk,cc⟩ l k=z):=⟨_,rfl⟩
         go_wp2_with fail
         refine (clos_calls ⟨m,q,r,p,kk,cc⟩ a m d l k Hm.out h16 hlt HF.out bl ba bc bs _ (HB3.out.later Hb.out) (cell_later Hb.out Q1.out) (cell_later Hb.out Q2.out) (cell_later Hb.out Q3.out) (Q4.out.later Hb.out Q4.out.lt)).mono ?_;rintro e w2 ⟨rfl,hb⟩;rw [Hv.out];have Hb2:=qH (held_next Hb.out hb);clear hb
         by_cases hv:v < 0
         · obtain rfl:res=false:=Hres.out.symm.trans (rightB_no fun h=>by
            have:=h.2.2.2 k (by have:=Hm.out; omega)
            rw [Hv.out] at this
            omega)
           go_wp2_with fail
           go_ret
           exact ⟨by rfl,held_next Hb3.out Hb2.out⟩
         · go_wp2_with fail
           go_roundw
           case rel=>exact ⟨k + 1,by omega,by go_num,(fun z hz=>by
            by_cases e:z=k
            · subst e; rw [Hv.out]; omega
            · exact Hg.out z (by omega)),Hb2.out⟩
           case measure=>simp [intOf]; omega
       · have hkm:k=m:=by omega
         obtain rfl:res=true:=Hres.out.symm.trans (decide_eq_true ⟨cfB_ok Hok.out,by rw [← Hm.out],Hl'.out,fun i hi=>Hg.out i (by have:=Hm.out; omega)⟩)
         have Hkm2:=qH hkm; clear hkm
         go_wp2_with fail
         go_ret
         exact ⟨by rfl,held_next Hb3.out Hb.out⟩
end Go.Proofs.YtecjnkokdnmhlaaGreat
namespace Go.Proofs.YtecjnkokdnmhlaaGreat
open Go.RowKit
theorem own_block {w:World} {base:Nat} {e:TypeId} {sz n:Nat} {v:Value} {f:Nat→Nat→Value} (h:w.ownsRow base e sz v n (flatCells sz n f)) (hn:0 < n) :
 ∃ b cap,v=.slice (some ⟨b,0,none⟩) n cap∧base≤b∧b < w.heap.size∧(∀ o,w.frozen? ⟨b,o,none⟩=false)∧∀ p q,p < n→q < sz→w.cell? ⟨b,p * sz + q,none⟩=some (f p q):=by
 obtain ⟨hl,⟨_,h0⟩ | ⟨g,cap,cur,rfl,hb,hh,h1,h2,h3,h4⟩⟩:=h
 · omega
 · refine ⟨g,cap,rfl,hb,(Array.getElem?_eq_some_iff.1 hh).1,fun o=>Whole.free (w:=w) (g:=g) (t:=e) (cs:=cur) hh o,fun p q hp hq=>?_⟩
   have hlt:p * sz + q < n * sz:=by
    have:(p + 1) * sz≤n * sz:=Nat.mul_le_mul_right sz hp;rw [Nat.succ_mul] at this
    omega
   rw [Whole.cell (w:=w) (g:=g) (t:=e) (cs:=cur) hh,← flat_at sz n f p q hp hq,← h4,List.getElem?_take_of_lt hlt,Array.getElem?_toList]
theorem ownG_core {w0 w1 w2:World} {base b:Nat} {v u:Value} {l:List Rw} {r:Rw} {g:Nat→Value} (h:OwnG w0 base v l g) (hb:Below w0.heap.size w0 w1) (hw:base≤w0.heap.size)
 (hu:w1.ownsRow w0.heap.size 2 1 u r.out.length (r.out.map (Value.int .i64))) (hus:∃ A C,u=.slice A r.out.length C) {k:Nat} (hk:k < l.length) (hv:v.ownBlock=some b)
 (hrow:w2.ownsRow base 77 3 v l.length (flatCells 3 l.length (rowCell (l.set k r) (fun i=>if i=k then u else g i))))
 (keep:∀ (b2 n2:Nat) (v2:Value) (xs2:List Value),v2.ownBlock ≠ some b→w1.ownsRow b2 2 1 v2 n2 xs2→w2.ownsRow b2 2 1 v2 n2 xs2) :
 OwnG w2 base v (l.set k r) (fun i=>if i=k then u else g i):=by
 obtain ⟨h1,h2,h3⟩:=h;have hvb:b < w0.heap.size:=(h1.lt b hv).2;have hub:u.ownBlock ≠ some b:=fun e=>by have:=(hu.lt b e).1; omega
 refine ⟨by rw [List.length_set]; exact hrow,fun p hp=>?_,fun i j b' hi hj hbi hbj=>?_⟩
 · rw [List.length_set] at hp
   rw [at_set hk]
   by_cases hpk:p=k
   · simp only [if_pos hpk]
     exact ⟨hus,keep _ _ _ _ hub (own_base hu hw)⟩
   · simp only [if_neg hpk]
     obtain ⟨e,h4⟩:=h2 p hp
     exact ⟨e,keep _ _ _ _ (own_apart h1 h4 (by decide) hv) (own_later h4 hb)⟩
 · rw [List.length_set] at hi hj
   have hlt:∀ k,k < l.length→(g k).ownBlock=some b'→b' < w0.heap.size:=fun k hk e=>((h2 k hk).2.lt b' e).2
   have hge:u.ownBlock=some b'→w0.heap.size≤b':=fun e=>(hu.lt b' e).1
   by_cases hik:i=k
   · by_cases hjk:j=k
     · omega
     · simp only [if_pos hik] at hbi
       simp only [if_neg hjk] at hbj;have:=hlt j hj hbj;have:=hge hbi
       omega
   · by_cases hjk:j=k
     · simp only [if_neg hik] at hbi
       simp only [if_pos hjk] at hbj;have:=hlt i hi hbi;have:=hge hbj
       omega
     · simp only [if_neg hik] at hbi
       simp only [if_neg hjk] at hbj
       exact h3 i j b' hi hj hbi hbj
theorem ownG_row {w0 w1:World} {base:Nat} {v u:Value} {l:List Rw} {r:Rw} {g:Nat→Value} (h:OwnG w0 base v l g) (hb:Below w0.heap.size w0 w1) (hw:base≤w0.heap.size)
 (hu:w1.ownsRow w0.heap.size 2 1 u r.out.length (r.out.map (Value.int .i64))) (hus:∃ A C,u=.slice A r.out.length C) {k:Nat} (hk:k < l.length) :
 ∃ b cap, v = .slice (some ⟨b, 0, none⟩) l.length cap ∧ base ≤ b ∧ b < w0.heap.size ∧ (∀ o, w1.frozen? ⟨b, o, none⟩ = false) ∧ (∀ p q, p < l.length → q < 3 → w1.cell? ⟨b, p * 3 + q, none⟩ = some (rowCell l g p q)) ∧
   OwnG (((w1.setCell ⟨b,k * 3,none⟩ (.int .i64 r.inc)).setCell ⟨b,k * 3 + 1,none⟩ (.int .i64 r.use)).setCell ⟨b,k * 3 + 2,none⟩ u) base v (l.set k r) (fun i=>if i=k then u else g i):=by
 have h1:=own_later h.1 hb;obtain ⟨b,cap,hv,hbb,_,hfz,hc⟩:=own_block h1 (by omega)
 have hvo:v.ownBlock=some b:=by rw [hv]; rfl
 have hvb:b < w0.heap.size:=(h.1.lt b hvo).2;obtain ⟨b1,c1,e1,_,_,_,_,s1⟩:=own_set (f':=fun p q=>if p=k∧q=0 then .int .i64 r.inc else rowCell l g p q) (x:=.int .i64 r.inc) h1 hk (j:=0) (by decide) (fun _ _ _ _=>rfl)
 obtain rfl:b1=b:=by rw [hv] at e1; simp only [Value.slice.injEq,Option.some.injEq,Addr.mk.injEq] at e1; exact e1.1.1.symm
 obtain ⟨b2,c2,e2,_,_,_,_,s2⟩:=own_set (f':=fun p q=>if p=k∧q=1 then .int .i64 r.use else if p=k∧q=0 then .int .i64 r.inc else rowCell l g p q) (x:=.int .i64 r.use) s1 hk (j:=1) (by decide) (fun _ _ _ _=>rfl)
 obtain rfl:b2=b1:=by rw [hv] at e2; simp only [Value.slice.injEq,Option.some.injEq,Addr.mk.injEq] at e2; exact e2.1.1.symm
 obtain ⟨b3,c3,e3,_,_,_,_,s3⟩:=own_set (f':=rowCell (l.set k r) (fun i=>if i=k then u else g i)) (x:=u) s2 hk (j:=2) (by decide) (fun p q hp hq=>by
  unfold rowCell
  rw [at_set hk]
  by_cases hpk:p=k
  · subst hpk
    match q,hq with
    | 0,_=>simp
    | 1,_=>simp
    | 2,_=>simp
  · simp [hpk])
 obtain rfl:b3=b2:=by rw [hv] at e3; simp only [Value.slice.injEq,Option.some.injEq,Addr.mk.injEq] at e3; exact e3.1.1.symm
 rw [Nat.add_zero] at s3;refine ⟨b3,cap,hv,hbb,hvb,hfz,hc,ownG_core h hb hw hu hus hk hvo s3 (fun bb n2 v2 xs2 hne hr=>?_)⟩
 exact ((hr.kept (grownBy_set w1 ⟨b3,k * 3,none⟩ _) (.inr hne)).kept (grownBy_set _ ⟨b3,k * 3 + 1,none⟩ _) (.inr hne)).kept (grownBy_set _ ⟨b3,k * 3 + 2,none⟩ _) (.inr hne)
theorem ownG_list {w0 w1:World} {base:Nat} {v u:Value} {l:List Rw} {r:Rw} {g:Nat→Value} (h:OwnG w0 base v l g) (hb:Below w0.heap.size w0 w1) (hw:base≤w0.heap.size)
 (hu:w1.ownsRow w0.heap.size 2 1 u r.out.length (r.out.map (Value.int .i64))) (hus:∃ A C,u=.slice A r.out.length C) {k:Nat} (hk:k < l.length) (hi:r.inc=(at_ l k).inc) (hu2:r.use=(at_ l k).use) :
 ∃ b cap, v = .slice (some ⟨b, 0, none⟩) l.length cap ∧ base ≤ b ∧ b < w0.heap.size ∧ (∀ o, w1.frozen? ⟨b, o, none⟩ = false) ∧ (∀ p q, p < l.length → q < 3 → w1.cell? ⟨b, p * 3 + q, none⟩ = some (rowCell l g p q)) ∧
   OwnG (w1.setCell ⟨b,k * 3 + 2,none⟩ u) base v (l.set k r) (fun i=>if i=k then u else g i):=by
 have h1:=own_later h.1 hb;obtain ⟨b,cap,hv,hbb,_,hfz,hc⟩:=own_block h1 (by omega)
 have hvo:v.ownBlock=some b:=by rw [hv]; rfl
 have hvb:b < w0.heap.size:=(h.1.lt b hvo).2
 obtain ⟨b3,c3,e3,_,_,_,_,s3⟩:=own_set (f':=rowCell (l.set k r) (fun i=>if i=k then u else g i)) (x:=u) h1 hk (j:=2) (by decide) (fun p q hp hq=>by
  unfold rowCell
  rw [at_set hk]
  by_cases hpk:p=k
  · subst hpk
    match q,hq with
    | 0,_=>simp [hi]
    | 1,_=>simp [hu2]
    | 2,_=>simp
  · simp [hpk])
 obtain rfl:b3=b:=by rw [hv] at e3; simp only [Value.slice.injEq,Option.some.injEq,Addr.mk.injEq] at e3; exact e3.1.1.symm
 refine ⟨b3,cap,hv,hbb,hvb,hfz,hc,ownG_core h hb hw hu hus hk hvo s3 (fun bb n2 v2 xs2 hne hr=>?_)⟩
 exact hr.kept (grownBy_set w1 ⟨b3,k * 3 + 2,none⟩ _) (.inr hne)
def bare:Rw:=⟨0,0,[]⟩
def part (L:List Rw) (k:Nat):List Rw:=L.take k ++ List.replicate (L.length - k) bare
theorem part_length {L:List Rw} {k:Nat} (h:k≤L.length):(part L k).length=L.length:=by
 unfold part; rw [List.length_append,List.length_take,List.length_replicate]; omega
theorem part_zero (L:List Rw):part L 0=List.replicate L.length bare:=by simp [part]
theorem part_all (L:List Rw):part L L.length=L:=by simp [part]
theorem part_at {L:List Rw} {k:Nat} (h:k < L.length):at_ (part L k) k=bare:=by
 unfold at_ part
 rw [List.getElem?_append_right (by rw [List.length_take]; omega),List.length_take]
 rw [show k - min k L.length=0 by omega,List.getElem?_replicate,if_pos (by omega)]
 rfl
theorem part_set {L:List Rw} {k:Nat} (h:k < L.length):(part L k).set k (at_ L k)=part L (k + 1):=by
 unfold part
 rw [List.set_append_right _ _ (by rw [List.length_take]; omega),List.length_take]
 rw [show k - min k L.length=0 by omega,show L.length - k=(L.length - (k + 1)) + 1 by omega,List.replicate_succ,List.set_cons_zero,take_at h]
 rw [List.append_assoc]; rfl
theorem made_rows (n:Nat):(madeCells #[.int .i64 0,.int .i64 0,.slice none 0 0] (n * 3)).toList=flatCells 3 n (rowCell (List.replicate n bare) (fun _=>.slice none 0 0)):=by
 apply List.ext_getElem?;intro i
 by_cases hi:i < n * 3
 · obtain ⟨p,q,hp,hq,rfl⟩:=flat_split (sz:=3) n hi
   rw [flat_at 3 n _ p q hp hq]
   unfold madeCells
   have hm:(p * 3 + q) % 3=q:=by omega
   have hat:at_ (List.replicate n bare) p=bare:=by simp [at_,hp]
   rw [Array.getElem?_toList,Array.getElem?_map];rw [show (Array.range (n * 3))[p * 3 + q]?=some (p * 3 + q) by simp [hi]]
   unfold rowCell
   rw [hat]
   match q,hq,hm with
   | 0,_,_=>simp; rfl
   | 1,_,hm=>simp [hm]; rfl
   | 2,_,hm=>simp [hm]
 · rw [List.getElem?_eq_none (by simp [madeCells]; omega),List.getElem?_eq_none (by rw [flat_length]; omega)]
theorem own_bare (w:World) (n:Nat) (hn:n≤maxLen):OwnBooks (w.alloc (.cells (madeCells #[.int .i64 0,.int .i64 0,.slice none 0 0] (n * 3)) 77)) w.heap.size (.slice (some ⟨w.heap.size,0,none⟩) n n) (List.replicate n bare):=by
 refine ⟨fun _=>.slice none 0 0,?_,fun k hk=>?_,fun i j b hi hj hbi=>?_⟩
 · have:=own_whole (w:=w.alloc (.cells (madeCells #[.int .i64 0,.int .i64 0,.slice none 0 0] (n * 3)) 77)) (base:=w.heap.size) (n:=n) (Whole.made w _ _) (Nat.le_refl _) (made_rows n) hn
   rw [List.length_replicate]; exact this
 · rw [List.length_replicate] at hk
   have hat:at_ (List.replicate n bare) k=bare:=by simp [at_,hk]
   rw [hat]
   exact ⟨⟨none,0,rfl⟩,World.ownsRow_nil _ _ _ _⟩
 · simp [Value.ownBlock] at hbi
theorem part_row {wr w2:World} {base B n b2:Nat} {L:List Rw} {k:Nat} {u:Value} (hO:OwnBooks wr base (.slice (some ⟨B,0,none⟩) n n) (part L k)) (hb:Below wr.heap.size wr w2) (hw:base≤wr.heap.size) (hkl:k < L.length)
 (hb2:wr.heap.size≤b2) (hu:w2.ownsRow b2 2 1 u (at_ L k).out.length ((at_ L k).out.map (Value.int .i64))) (hus:∃ A C,u=.slice A (at_ L k).out.length C) :
 base≤B∧B < wr.heap.size∧(w2.frozen? ⟨B,k * 3,none⟩=false∧w2.frozen? ⟨B,k * 3 + 1,none⟩=false∧w2.frozen? ⟨B,k * 3 + 2,none⟩=false) ∧
  (∃ x0 x1 x2,w2.cell? ⟨B,k * 3,none⟩=some x0∧w2.cell? ⟨B,k * 3 + 1,none⟩=some x1∧w2.cell? ⟨B,k * 3 + 2,none⟩=some x2) ∧
  OwnBooks (((w2.setCell ⟨B,k * 3,none⟩ (.int .i64 (at_ L k).inc)).setCell ⟨B,k * 3 + 1,none⟩ (.int .i64 (at_ L k).use)).setCell ⟨B,k * 3 + 2,none⟩ u) base (.slice (some ⟨B,0,none⟩) n n) (part L (k + 1)):=by
 obtain ⟨g,hG⟩:=hO;have hpl:k < (part L k).length:=by rw [part_length (by omega)]; exact hkl
 obtain ⟨bb,cap,hv,hbb,hblt,hfz,hcs,hG2⟩:=ownG_row (r:=at_ L k) hG hb hw (own_base hu hb2) hus hpl;simp only [Value.slice.injEq,Option.some.injEq,Addr.mk.injEq] at hv;have hbeq:=hv.1.1;clear hv;subst hbeq;rw [part_set hkl] at hG2
 exact ⟨hbb,hblt,⟨hfz _,hfz _,hfz _⟩,⟨_,_,_,hcs k 0 hpl (by decide),hcs k 1 hpl (by decide),hcs k 2 hpl (by decide)⟩,_,hG2⟩
end Go.Proofs.YtecjnkokdnmhlaaGreat
