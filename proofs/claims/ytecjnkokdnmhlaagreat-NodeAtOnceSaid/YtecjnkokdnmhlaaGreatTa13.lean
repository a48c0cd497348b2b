/- Parts, as far as NodeAtOnceCards reaches them, of: LineMay, AppFull, LineGrow, LineJoin, WantFar, WantKeep, Each. No law is proved here. -/
import Derived.Test.YtecjnkokdnmhlaaGreatTa12
import Derived.ArgAppend
import Derived.Orders
namespace Go.Proofs.YtecjnkokdnmhlaaGreat
open Go.RowKit
theorem fault_zero {c:Cf} {who:Int} {l:List Rq} {k:Nat} {x:Rq}:faultV c who l k x=0 ↔ (k:Int) < c.q∧oneB c who x=true∧(0 < k→rqOld (rqAt l (k - 1)) x=true):=by
 by_cases h1:x.m < 1∨1099511627776 < x.m
 · rw [fault_two h1]
   constructor
   · intro h; cases h
   · rintro ⟨_,h2,_⟩
     have:=oneB_iff.1 h2
     unfold oneOk at this
     omega
 · by_cases h2:c.q≤(k:Int)
   · rw [fault_three h1 h2]
     constructor
     · intro h; cases h
     · rintro ⟨h,_⟩; omega
   · by_cases h3:mayB x.t x.a c.n=true∧x.a=who
     · rw [fault_last h1 (by omega) h3]
       have ho:oneB c who x=true:=by unfold oneB; rw [h3.1]; simp; omega
       by_cases h4:0 < k∧rqOld (rqAt l (k - 1)) x=false
       · rw [if_pos h4]
         constructor
         · intro h; cases h
         · rintro ⟨_,_,h⟩; rw [h h4.1] at h4; cases h4.2
       · rw [if_neg h4]
         refine ⟨fun _=>⟨by omega,ho,fun h=>?_⟩,fun _=>rfl⟩
         cases h5:rqOld (rqAt l (k - 1)) x with
         | true=>rfl
         | false=>exact absurd ⟨h,h5⟩ h4
     · rw [fault_one h1 (by omega) h3]
       constructor
       · intro h; cases h
       · rintro ⟨_,h,_⟩
         have:=oneB_iff.1 h
         unfold oneOk at this
         exact absurd ⟨mayB_yes (by omega),this.2.1⟩ h3
theorem lineB_faults {c:Cf} {who:Int} {l:List Rq} (h1:cfB c=true) (h2:0≤who∧who < c.n) (h3:∀ i,i < l.length→faultV c who l i (rqAt l i)=0):lineB c who l=true:=by
 refine lineB_yes ⟨cfB_ok h1,h2,?_,fun i hi=>(fault_zero.1 (h3 i hi)).2⟩
 have hc:=cfB_ok h1
 unfold cfOk at hc
 by_cases h0:l.length=0
 · omega
 · have:=(fault_zero.1 (h3 (l.length - 1) (by omega))).1
   omega
theorem lineB_fault {c:Cf} {who:Int} {l:List Rq} {i:Nat} (hi:i < l.length) (h:faultV c who l i (rqAt l i) ≠ 0):lineB c who l=false:=lineB_no fun h2=>h (by
 obtain ⟨_,_,h3,h4⟩:=h2
 exact fault_zero.2 ⟨by omega,h4 i hi⟩)
theorem lineB_false' {c:Cf} {who:Int} {l:List Rq} {b:Bool} (hb:lineB c who l=b) (h:¬ lineOk c who l):b=false:=hb.symm.trans (lineB_no h)
set_option maxRecDepth 100000 in
set_option maxHeartbeats 8000000 in
theorem lMay_wide (c:Cf) (who:Int) (a:Option Addr) (m cp:Nat) (l:List Rq) (hm:m=l.length) (hsmall:m≤9223372036854775807) (w:World) (hB:Line w (.slice a m cp) l) :
 Calls Tryz.prog 148 #[cfV c,.int .i64 who,.slice a m cp] w (Says w (lineB c who l)):=by
 have HW:=qH (Whole.made w 23 (cfCells c));have Hb0:=qH (below_box w (.cells (cfCells c) 23));have HB:=qH hB; clear hB;have Hm:=qH hm; clear hm;obtain ⟨n,q,r,p,kk,cc⟩:=c;obtain ⟨res,Hres⟩:∃ z,Hid (lineB ⟨n,q,r,p,kk,cc⟩ who l=z):=⟨_,rfl⟩;rw [Hres.out];obtain ⟨ok,Hok⟩:∃ z,Hid (cfB ⟨n,q,r,p,kk,cc⟩=z):=⟨_,rfl⟩
 go_enter Tryz.func148,Tryz.ntmps148
 go_wp2_with fail
 refine (rMay_calls ⟨n,q,r,p,kk,cc⟩ _).mono ?_;rintro e w1 ⟨rfl,hb⟩;rw [Hok.out];have Hb1:=qH (held_next Hb0.out hb);have HW1:=qH (HW.out.later hb HW.out.lt);clear hb;obtain ⟨d0,d1,d2,d3,d4,d5⟩:=config_cells HW1.out;simp only at d0 d1 d2 d3 d4 d5
 cases ok with
 | false =>
   obtain rfl:res=false:=lineB_false' Hres.out fun h=>by
    have:=cfB_yes h.1;rw [Hok.out] at this
    cases this
   go_wp2_with fail
   go_ret
   exact ⟨rfl,Hb1.out⟩
 | true =>
   by_cases h1:who < 0
   · obtain rfl:res=false:=lineB_false' Hres.out fun h=>by have:=h.2.1.1; omega
     go_wp2_with fail
     go_ret
     exact ⟨by rfl,Hb1.out⟩
   by_cases h2:n≤who
   · obtain rfl:res=false:=lineB_false' Hres.out fun h=>by have:who < n:=h.2.1.2; omega
     go_wp2_with fail
     go_ret
     exact ⟨by rfl,Hb1.out⟩
   have Hwho:Hid (0≤who∧who < n):=by show _∧_; omega
   go_wp2_with fail
   refine (faults_calls ⟨n,q,r,p,kk,cc⟩ who a m cp _).mono ?_;rintro e w2 ⟨v,rfl,hC,hb⟩;have Hb2:=qH (held_next Hb1.out hb);have HC:=qH hC;clear hb hC d0 d1 d2 d3 d4 d5;obtain ⟨bc,bw,bl,rfl,q1,q2,q3⟩:=HC.out;have Q1:=qH q1; clear q1;have Q2:=qH q2; clear q2;have Q3:=qH q3; clear q3
   go_wp2_with fail
   go_loopw [29] (fun s wr=>∃ k:Nat,k≤m∧s=.int .i64 k∧Hid (∀ i,i < k→faultV ⟨n,q,r,p,kk,cc⟩ who l i (rqAt l i)=0)∧Hid (Below w2.heap.size w2 wr)) (fun s _=>m - (intOf s).toNat)
   case atStart=>exact ⟨0,Nat.zero_le _,rfl,fun z hz=>absurd hz (Nat.not_lt_zero _),Below.refl _ _⟩
   case round =>
    obtain ⟨k,hk,rfl,Hl,Hb⟩:=hrel
    by_cases hlt:k < m
    · obtain ⟨b,off,rfl,c0,c1,c2⟩:=(HB.out.later (held_next Hb2.out Hb.out)).at (i:=k) (by have:=Hm.out; omega)
      obtain ⟨x,Hx⟩:∃ z,Hid (rqAt l k=z):=⟨_,rfl⟩;rw [Hx.out] at c0 c1 c2;obtain ⟨f,Hf⟩:∃ z,Hid (faultV ⟨n,q,r,p,kk,cc⟩ who l k x=z):=⟨_,rfl⟩;have k0:(0:Int)≤(k:Int):=by omega
      have k1:(k:Int) < (m:Int):=by omega
      have Hbx:=qH (held_next (below_next Hb.out Hb.out.size (below_box wr (.cells (rqCells x) 59))) (Below.refl _ _));have HX:=qH (Whole.made wr 59 (rqCells x));obtain ⟨f0,f1,f2⟩:=rq_cells HX.out;obtain ⟨t,u,v⟩:=x;simp only at c0 c1 c2 f0 f1 f2
      go_wp2_with fail
      refine (fault_calls ⟨n,q,r,p,kk,cc⟩ who _ m cp l k ⟨t,u,v⟩ Hm.out hk bc bw bl _ (HB.out.later (held_next Hb2.out Hbx.out)) (Q1.out.later Hbx.out Q1.out.lt) (cell_later Hbx.out Q2.out) (cell_later Hbx.out Q3.out)).mono ?_;rw [Hf.out];rintro e w3 ⟨rfl,hb⟩;have Hb3:=qH (held_next Hbx.out hb);clear hb c0 c1 c2 f0 f1 f2
      by_cases hf:f=0
      · subst hf
        go_wp2_with fail
        go_roundw
        case rel=>exact ⟨k + 1,by omega,by go_num,(fun z hz=>by
         by_cases e:z=k
         · subst e; rw [Hx.out]; exact Hf.out
         · exact Hl.out z (by omega)),Hb3.out⟩
        case measure=>simp [intOf]; omega
      · obtain rfl:res=false:=Hres.out.symm.trans (lineB_fault (i:=k) (by have:=Hm.out; omega) (by rw [Hx.out,Hf.out]; exact hf))
        have hfn:(f != 0)=true:=bne_iff_ne.2 hf
        go_wp2_with fail
        go_ret
        exact ⟨by rfl,held_next Hb2.out Hb3.out⟩
    · obtain rfl:res=true:=Hres.out.symm.trans (lineB_faults Hok.out Hwho.out fun i hi=>Hl.out i (by have:=Hm.out; omega))
      go_wp2_with fail
      go_ret
      exact ⟨by rfl,held_next Hb2.out Hb.out⟩
theorem lMay_calls (c:Cf) (who:Int) (a:Option Addr) (m cp:Nat) (l:List Rq) (hm:m=l.length) (hsmall:m≤1000) (w:World) (hB:Line w (.slice a m cp) l) :
 Calls Tryz.prog 148 #[cfV c,.int .i64 who,.slice a m cp] w (Says w (lineB c who l)):=lMay_wide c who a m cp l hm (by omega) w hB
end Go.Proofs.YtecjnkokdnmhlaaGreat
namespace Go.Proofs.YtecjnkokdnmhlaaGreat
open Go.ChangeShapes Go.WideShapes Go.ChangeAt Go.RowKit
theorem elems_of_own' {w:World} {base:Nat} {e:TypeId} {sz n:Nat} {v:Value} {f:Nat→Nat→Value} (h:w.ownsRow base e sz v n (flatCells sz n f)) (hb:n≤9223372036854775807) :
 ∃ a c,v=.slice a n c∧n≤c∧Elems w (.slice a n c) sz n f∧∀ ad,a=some ad→base≤ad.block:=by
 obtain ⟨a,c,rfl,h1,h2⟩:=elems_of_own h hb;refine ⟨a,c,rfl,h1,h2,fun ad had=>?_⟩
 subst had
 rcases h.2 with ⟨h3,_⟩ | ⟨g,cap,cur,h3,hg,_⟩
 · cases h3
 · simp only [Value.slice.injEq,Option.some.injEq] at h3
   rw [h3.1]; exact hg
section
variable {P:Program}
theorem run_append_full {w:World} (t ty:TypeId) (e:TypeId) (i:TypeInfo) (z:Value) (sz bytes:Nat) (ht:P.underlying t=some (.slice e)) (hi:P.info? e=some i) (hz:i.zero=some z)
 (hsize:i.size=sz) (hby:i.bytes=bytes) (hzs:z.cells.size=sz) (hsz:0 < sz)
 (A:Option Addr) (n:Nat) (f:Nat→Nat→Value) (hA:Elems w (.slice A n n) sz n f) (B:Option Addr) (m c:Nat) (g:Nat→Nat→Value) (hB:Elems w (.slice B m c) sz m g)
 (h1:∀ i j,i < m→j < sz→(g i j).oneCell'=true) (h63:n + m≤maxLen) (h47:(n + m) * bytes≤140737488355328) :
 ∃ A' C w',(Builtin.append_ #[t,t] ty #[.slice A n n,.slice B m c]).run P w=.ok (.slice A' (n + m) C) w'∧n + m≤C∧Elems w' (.slice A' (n + m) C) sz (n + m) (fun i j=>if i < n then f i j else g (i - n) j)∧Below w.heap.size w w'∧(0 < m→∀ ad,A'=some ad→w.heap.size≤ad.block):=by
 have hmax:n + m≤9223372036854775807:=by simp only [maxLen] at h63; omega
 by_cases hm:m=0
 · subst hm
   refine ⟨A,n,w,?_,Nat.le_refl _,hA.congr (fun i j hi _=>by rw [if_pos (show i < n from hi)]),Below.refl _ _,fun h=>absurd h (Nat.lt_irrefl _)⟩
   subst hsize;have hB0:Elems w (.slice B 0 c) i.size 0 g:=hB
   cases A <;> cases B <;> simp [Builtin.append_,run_underlying ht,sizeOf,typeInfo,hi,Builtin.lenOf,Builtin.firstCells,loadCells,loadCellsFrom,storeCells]
 · have hnews:∃ ad,B=some ad∧∀ j u,(flatCells sz m g)[j]?=some u→w.cell? (ad.add j)=some u:=by
    obtain ⟨b,off,rfl,_⟩:=hB.at (i:=0) (by omega)
    refine ⟨_,rfl,fun k u hu=>?_⟩
    have hk:k < m * sz:=by
     have:=(List.getElem?_eq_some_iff.1 hu).1;rwa [flat_length] at this
    obtain ⟨i',j',hi',hj',rfl⟩:=flat_split m hk;rw [flat_at sz m g i' j' hi' hj'] at hu;obtain ⟨b,off,hab,hc⟩:=hB.at hi'
    injection hab with hab
    rw [hab,add_plain,hc j' hj']
    exact hu
   obtain ⟨ad,rfl,hn⟩:=hnews;have h1':∀ u ∈ flatCells sz m g,u.oneCell'=true:=fun u hu=>by obtain ⟨i',j',hi',hj',rfl⟩:=flat_mem hu; exact h1 i' j' hi' hj'
   cases A with
   | some b =>
     have holds:∀ j u,(flatCells sz n f)[j]?=some u→w.cell? (b.add j)=some u:=by
      intro k u hu
      have hk:k < n * sz:=by
       have:=(List.getElem?_eq_some_iff.1 hu).1;rwa [flat_length] at this
      obtain ⟨i',j',hi',hj',rfl⟩:=flat_split n hk;rw [flat_at sz n f i' j' hi' hj'] at hu;obtain ⟨b',off,hab,hc⟩:=hA.at hi'
      injection hab with hab
      rw [hab,add_plain,hc j' hj']
      exact hu
     obtain ⟨v',w',hr,ho,hgr⟩:=run_append_arg_grows (P:=P) w t ty e i z sz bytes ht hi hz hsize hby hzs hsz b n n (flatCells sz n f) (flat_length _ _ _) holds ad m c (flatCells sz m g) (flat_length _ _ _) hn (by omega) h63 h47
     rw [flat_append] at ho;obtain ⟨A',C,rfl,hC,hE,hat⟩:=elems_of_own' ho hmax
     exact ⟨A',C,w',hr,hC,hE,(Below.refl _ _).grown hgr (Nat.le_refl _) (fun k hk=>by cases hk),fun _=>hat⟩
   | none =>
     have hn0:n=0:=by
      obtain ⟨_,⟨a',c',hv,h0,hm⟩ | ⟨b,off,cap,hv,_⟩⟩:=hA
      · exact hm
      · simp at hv
     subst hn0;obtain ⟨v',w',hr,ho,hgr,_⟩:=run_append_own (P:=P) w w.heap.size t ty e i z sz bytes ht hi hz hsize hby hzs hsz (.slice none 0 0) 0 [] (World.ownsRow_nil w _ e sz) ad m c (flatCells sz m g) (flat_length _ _ _) hn h1' h63 h47 (Nat.le_refl _);have e0:([]:List Value)=flatCells sz 0 f:=by simp [flatCells]
     rw [e0,flat_append] at ho;obtain ⟨A',C,rfl,hC,hE,hat⟩:=elems_of_own' ho hmax
     exact ⟨A',C,w',hr,hC,hE,(Below.refl _ _).grown hgr (Nat.le_refl _) (fun k hk=>by cases hk),fun _=>hat⟩
end
end Go.Proofs.YtecjnkokdnmhlaaGreat
namespace Go.Proofs.YtecjnkokdnmhlaaGreat
open Go.RowKit
theorem info_rq':(Tryz.prog.info? 59).map (fun i=>(i.zero,i.size,i.bytes))=some (some (.agg #[.int .i64 0,.int .i64 0,.int .i64 0]),3,24):=by kernel_rfl
theorem rqc_one' (x:Rq) (j:Nat):(rqc x j).oneCell'=true:=by unfold rqc; rfl
theorem rq_both' (l k:List Rq):(fun i j=>if i < l.length then rqc (rqAt l i) j else rqc (rqAt k (i - l.length)) j)=fun i j=>rqc (rqAt (l ++ k) i) j:=by
 funext i j
 by_cases h:i < l.length
 · rw [if_pos h]; unfold rqAt; rw [List.getElem?_append_left h]
 · rw [if_neg h]; unfold rqAt; rw [List.getElem?_append_right (by omega)]
theorem one_rq' {w:World} {g:Nat} {x:Rq} (h:Whole w g 59 (rqCells x)):Line w (.slice (some ⟨g,0,none⟩) 1 1) [x]:=by
 refine ⟨show 1≤9223372036854775807 by decide,Or.inr ⟨g,0,1,rfl,Nat.le_refl _,fun i j hi hj=>?_⟩⟩
 have hi:i < 1:=hi;obtain rfl:i=0:=by omega
 have hc:=h.cell
 match j,hj with
 | 0,_=>exact hc 0
 | 1,_=>exact hc 1
 | 2,_=>exact hc 2
theorem Line.full {w:World} {a:Option Addr} {m c:Nat} {l:List Rq} (h:Line w (.slice a m c) l) (hm:m=l.length):Line w (.slice a m m) l:=by
 subst hm;refine ⟨h.1,?_⟩;obtain ⟨_,⟨a0,c0,hv,h0,hl⟩ | ⟨b,off,c0,hv,hn,hcell⟩⟩:=h
 · exact Or.inl ⟨a,l.length,by rw [hl],fun _=>hl,hl⟩
 · simp only [Value.slice.injEq] at hv
   obtain ⟨rfl,_,rfl⟩:=hv
   exact Or.inr ⟨b,off,l.length,rfl,Nat.le_refl _,hcell⟩
theorem Line.rest {w:World} {b off:Nat} {m c:Nat} {l:List Rq} (h:Line w (.slice (some ⟨b,off,none⟩) m c) l) (hm:m=l.length) (h0:0 < m):Line w (.slice (some ⟨b,off + 3,none⟩) (m - 1) (c - 1)) l.tail:=by
 have hc:=h.cap;have hbig:=h.big;refine ⟨by rw [List.length_tail]; omega,?_⟩
 obtain ⟨_,⟨a0,c0,hv,_,hl⟩ | ⟨b',off',c0,hv,hn,hcell⟩⟩:=h
 · omega
 · simp only [Value.slice.injEq,Option.some.injEq,Addr.mk.injEq,and_true] at hv
   obtain ⟨⟨rfl,rfl⟩,_,rfl⟩:=hv;refine Or.inr ⟨b,off + 3,c - 1,by rw [List.length_tail,hm],by rw [List.length_tail]; omega,fun i j hi hj=>?_⟩
   rw [List.length_tail] at hi;have hx:=hcell (i + 1) j (by omega) hj
   rw [show off + 3 + (i * 3 + j)=off + ((i + 1) * 3 + j) by omega,hx]
   show some (rqc (rqAt l (i + 1)) j)=some (rqc (rqAt l.tail i) j)
   rw [rqAt_tail]
theorem run_append_rq {w:World} {A:Option Addr} {n:Nat} {l k:List Rq} (hA:Line w (.slice A n n) l) (hn:n=l.length) {B:Option Addr} {m c:Nat} (hB:Line w (.slice B m c) k) (hm:m=k.length) (h:l.length + k.length≤1000000) :
 ∃ A' C w',(Builtin.append_ #[25,25] 25 #[.slice A n n,.slice B m c]).run Tryz.prog w=.ok (.slice A' (n + m) C) w'∧n + m≤C∧Line w' (.slice A' (n + m) C) (l ++ k)∧Below w.heap.size w w'∧(0 < m→∀ ad,A'=some ad→w.heap.size≤ad.block):=by
 subst hn hm;obtain ⟨i5,hi,hz0,hz1,hz2⟩:=info_parts info_rq'
 obtain ⟨A',C,w',h1,h2,h3,h4,h5⟩:=run_append_full (P:=Tryz.prog) (w:=w) 25 25 59 i5 _ 3 24 Tryz.underlying25 hi hz0 hz1 hz2 rfl (by decide)
  A l.length _ hA B k.length c _ hB (fun i j _ _=>rqc_one' _ j) (by unfold maxLen; omega) (by omega)
 refine ⟨A',C,w',h1,h2,?_,h4,h5⟩;rw [rq_both'] at h3
 show Line w' _ (l ++ k)
 unfold Line
 rw [List.length_append]
 exact h3
end Go.Proofs.YtecjnkokdnmhlaaGreat
namespace Go.Proofs.YtecjnkokdnmhlaaGreat
open Go.RowKit
theorem joinQ_bad {c:Cf} {who:Int} {l:List Rq} {x:Rq} (h:lineB c who l=true) (hf:faultV c who l l.length x ≠ 0):joinQ c who l x=([],faultV c who l l.length x):=by
 unfold joinQ
 rw [if_pos (lineB_ok h)]
 by_cases h1:x.m < 1∨1099511627776 < x.m
 · rw [if_pos h1,fault_two h1]
 · rw [if_neg h1]
   by_cases h2:c.q≤(l.length:Int)
   · rw [if_pos h2,fault_three h1 h2]
   · rw [if_neg h2]
     have h3:nextB c who l x=false:=by
      cases h4:nextB c who l x with
      | false=>rfl
      | true =>
        unfold nextB at h4
        rw [Bool.and_eq_true,Bool.or_eq_true,decide_eq_true_eq] at h4
        exact absurd (fault_zero.2 ⟨by omega,h4.1,fun h0=>by rcases h4.2 with h5 | h5; omega; exact h5⟩) hf
     rw [h3]
     have h4:faultV c who l l.length x=1:=by
      by_cases h5:mayB x.t x.a c.n=true∧x.a=who
      · rw [fault_last h1 (by omega) h5] at hf ⊢
        by_cases h6:0 < l.length∧rqOld (rqAt l (l.length - 1)) x=false
        · rw [if_pos h6]
        · rw [if_neg h6] at hf; exact absurd rfl hf
      · exact fault_one h1 (by omega) h5
     rw [h4]; rfl
theorem joinQ_good {c:Cf} {who:Int} {l:List Rq} {x:Rq} (h:lineB c who l=true) (hf:faultV c who l l.length x=0):joinQ c who l x=(l ++ [x],0):=by
 obtain ⟨h1,h2,h3⟩:=fault_zero.1 hf;have h4:=oneB_iff.1 h2
 unfold oneOk at h4
 unfold joinQ
 rw [if_pos (lineB_ok h),if_neg (by omega),if_neg (by omega)]
 have h5:nextB c who l x=true:=by
  unfold nextB
  rw [h2,Bool.true_and,Bool.or_eq_true,decide_eq_true_eq]
  by_cases h0:l.length=0
  · exact Or.inl h0
  · exact Or.inr (h3 (by omega))
 rw [h5]; rfl
theorem joinQ_off {c:Cf} {who:Int} {l:List Rq} (x:Rq) (h:lineB c who l=false):joinQ c who l x=([],1):=by
 unfold joinQ; rw [if_neg (of_decide_eq_false h)]
attribute [local go_sem ↓] run_fine
set_option maxRecDepth 100000 in
set_option maxHeartbeats 8000000 in
theorem lJoin_far (c:Cf) (who:Int) (a:Option Addr) (m cp:Nat) (l:List Rq) (x:Rq) (hm:m=l.length) (hsmall:m≤1000) (w:World) (hB:Line w (.slice a m cp) l) :
 Calls Tryz.prog 93 #[cfV c,.int .i64 who,.slice a m cp,rqV x] w (JoinedQF w (joinQ c who l x)):=by
 have HW:=qH ((Whole.made w 23 (cfCells c)).alloc (.cells (rqCells x) 59));have HX:=qH (Whole.made2 w (.cells (cfCells c) 23) 59 (rqCells x));have Hb0:=qH (below_two w (.cells (cfCells c) 23) (.cells (rqCells x) 59));have hmcp:=hB.cap.1;have HB:=qH hB; clear hB;have Hm:=qH hm; clear hm;obtain ⟨n,q,r,p,kk,cc⟩:=c;obtain ⟨t,u,v⟩:=x;obtain ⟨res,Hres⟩:∃ z,Hid (joinQ ⟨n,q,r,p,kk,cc⟩ who l ⟨t,u,v⟩=z):=⟨_,rfl⟩
 rw [Hres.out];obtain ⟨ok,Hok⟩:∃ z,Hid (lineB ⟨n,q,r,p,kk,cc⟩ who l=z):=⟨_,rfl⟩;obtain ⟨f,Hf⟩:∃ z,Hid (faultV ⟨n,q,r,p,kk,cc⟩ who l m ⟨t,u,v⟩=z):=⟨_,rfl⟩;have hcall:=lMay_calls ⟨n,q,r,p,kk,cc⟩ who a m cp l Hm.out hsmall ((w.alloc (.cells (cfCells ⟨n,q,r,p,kk,cc⟩) 23)).alloc (.cells (rqCells ⟨t,u,v⟩) 59)) (HB.out.later Hb0.out)
 go_enter Tryz.func93,Tryz.ntmps93
 go_wp2_with fail
 refine hcall.mono ?_;clear hcall;rintro e w1 ⟨rfl,hb⟩;rw [Hok.out];have Hb1:=qH (held_next Hb0.out hb);have HW1:=qH (HW.out.later hb HW.out.lt);have HX1:=qH (HX.out.later hb HX.out.lt);clear hb;obtain ⟨d0,d1,d2,d3,d4,d5⟩:=config_cells HW1.out;obtain ⟨f0,f1,f2⟩:=rq_cells HX1.out;simp only at d0 d1 d2 d3 d4 d5 f0 f1 f2
 cases ok with
 | false =>
   obtain rfl:res=([],1):=Hres.out.symm.trans (joinQ_off _ Hok.out)
   go_wp2_with fail
   go_ret2
   exact ⟨none,0,by rfl,Line.nil _ _ _ (fun _=>rfl),Hb1.out,line_none _ _⟩
 | true =>
   have KP:Hid (∀ w',Below w1.heap.size w1 w'→(fun w'=>Below w1.heap.size w1 w'∧(w'.cell? ⟨w.heap.size,0,none⟩=some (.int .i64 n)∧w'.cell? ⟨w.heap.size,1,none⟩=some (.int .i64 q)∧w'.cell? ⟨w.heap.size,2,none⟩=some (.int .i64 r)∧w'.cell? ⟨w.heap.size,3,none⟩=some (.int .i64 p)∧w'.cell? ⟨w.heap.size,4,none⟩=some (.int .i64 kk)∧w'.cell? ⟨w.heap.size,5,none⟩=some (.int .i64 cc))∧(w'.cell? ⟨w.heap.size + 1,0,none⟩=some (.int .i64 t)∧w'.cell? ⟨w.heap.size + 1,1,none⟩=some (.int .i64 u)∧w'.cell? ⟨w.heap.size + 1,2,none⟩=some (.int .i64 v))) w') :=
    fun w' h=>⟨h,config_cells (HW1.out.later h HW1.out.lt),rq_cells (HX1.out.later h HX1.out.lt)⟩
   go_wp2_with fail
   refine wp_region_held_drew (S:=(fun w'=>Below w1.heap.size w1 w'∧(w'.cell? ⟨w.heap.size,0,none⟩=some (.int .i64 n)∧w'.cell? ⟨w.heap.size,1,none⟩=some (.int .i64 q)∧w'.cell? ⟨w.heap.size,2,none⟩=some (.int .i64 r)∧w'.cell? ⟨w.heap.size,3,none⟩=some (.int .i64 p)∧w'.cell? ⟨w.heap.size,4,none⟩=some (.int .i64 kk)∧w'.cell? ⟨w.heap.size,5,none⟩=some (.int .i64 cc))∧(w'.cell? ⟨w.heap.size + 1,0,none⟩=some (.int .i64 t)∧w'.cell? ⟨w.heap.size + 1,1,none⟩=some (.int .i64 u)∧w'.cell? ⟨w.heap.size + 1,2,none⟩=some (.int .i64 v)))) (by kernel_rfl) (KP.out _ (Below.refl _ _).drew) (fun hHeld=>?_)
   refine qT 0 16 ?_ rfl ?_ ?_
   rotate_left 1
   · intro w hSw
     try dsimp only at hSw
     go_simp
     try with_reducible rfl
   simp only [Act.put,qA,qB,qC];refine qT 1 17 ?_ rfl ?_ ?_
   rotate_left 1
   · intro w hSw
     try dsimp only at hSw
     go_simp
     try with_reducible rfl
   simp only [Act.put,qA,qB,qC];refine qT 2 18 ?_ rfl ?_ ?_
   rotate_left 1
   · intro w hSw
     try dsimp only at hSw
     go_simp
     try with_reducible rfl
   simp only [Act.put,qA,qB,qC];refine qT 4 20 ?_ rfl ?_ ?_
   rotate_left 1
   · intro w hSw
     try dsimp only at hSw
     go_simp
     try with_reducible rfl
   simp only [Act.put,qA,qB,qC];refine qT 5 21 ?_ rfl ?_ ?_
   rotate_left 1
   · intro w hSw
     try dsimp only at hSw
     go_simp
     try with_reducible rfl
   simp only [Act.put,qA,qB,qC];refine qT 6 22 ?_ rfl ?_ ?_
   rotate_left 1
   · intro w hSw
     try dsimp only at hSw
     go_simp
     try with_reducible rfl
   simp only [Act.put,qA,qB,qC];refine wpAnyH_ready (rs:=[3]) (by kernel_rfl) (by simp) ?_
   refine AllReadyH.cons rfl (fun K hK=>?_) AllReadyH.nil
   go_simp
   go_wp2_with (go_at_call 149; refine (faults_calls ⟨n,q,r,p,kk,cc⟩ who a m cp _).mono ?_; rintro ee wo ⟨vv,rfl,⟨bc,bw,bl,rfl,q1,q2,q3⟩,hb2⟩; have hS1:=held_next hHeld.1 hb2; have Q1:=qH q1; have Q2:=qH q2; have Q3:=qH q3; clear q1 q2 q3)
   refine hK.out _ _ (KP.out _ hS1) (fun hHeld2=>?_)
   clear hHeld hK K;have hHeld:=hHeld2;clear hHeld2;refine wpAnyH_ready (rs:=[7]) (by kernel_rfl) (by simp) ?_
   refine AllReadyH.cons rfl (fun K hK=>?_) AllReadyH.nil
   go_simp
   go_wp2_with (go_at_call 189; refine (fault_calls ⟨n,q,r,p,kk,cc⟩ who a m cp l m ⟨t,u,v⟩ Hm.out (Nat.le_refl _) bc bw bl _ (HB.out.later (held_next Hb1.out hHeld.1)) Q1.out Q2.out Q3.out).mono ?_; rw [Hf.out]; rintro ee wp ⟨rfl,hb2⟩; have hS1:=held_next hHeld.1 hb2)
   refine hK.out _ _ (KP.out _ hS1) (fun hHeld2=>?_)
   clear hHeld hK K;have hHeld:=hHeld2;clear hHeld2;refine qT 8 10 ?_ rfl ?_ ?_
   rotate_left 1
   · intro w hSw
     try dsimp only at hSw
     go_simp
     try with_reducible rfl
   simp only [Act.put,qA,qB,qC];refine wpAnyH_done (by kernel_rfl) ?_ _
   have HbN:=qH (held_next Hb1.out hHeld.1);have HXN:=qH (HX1.out.later hHeld.1 HX1.out.lt);clear hHeld d0 d1 d2 d3 d4 d5 f0 f1 f2
   by_cases hf:f=0
   · rw [Hm.out] at Hf
     obtain rfl:res=(l ++ [⟨t,u,v⟩],0):=Hres.out.symm.trans (joinQ_good Hok.out (Hf.out.trans hf));subst hf;have hlen:Hid (m + 1=(l ++ [(⟨t,u,v⟩:Rq)]).length):=by show _=_; rw [List.length_append,List.length_singleton,← Hm.out]
     obtain ⟨WN,hWN⟩:∃ z,wp=z:=⟨_,rfl⟩;rw [hWN] at HbN HXN ⊢;have g0:WN.cell? ⟨w.heap.size + 1,0,none⟩=some (.int .i64 t):=HXN.out.cell 0;have g1:WN.cell? ⟨w.heap.size + 1,1,none⟩=some (.int .i64 u):=HXN.out.cell 1;have g2:WN.cell? ⟨w.heap.size + 1,2,none⟩=some (.int .i64 v):=HXN.out.cell 2;have hall:=HXN.out.lt
     obtain ⟨A',C,w4,hrun,hC,hL4,hb4,hat4⟩:=run_append_rq (w:=(WN.alloc (.cells (rqCells ⟨t,u,v⟩) 59)).drew) (A:=a) (n:=m) (l:=l) (k:=[⟨t,u,v⟩]) ((HB.out.later ((held_next HbN.out (below_box WN _)).drew)).full Hm.out) Hm.out
      (B:=some ⟨WN.heap.size,0,none⟩) (m:=1) (c:=1) (one_rq' (Whole.made _ _ _).drew) rfl (by have:=Hm.out; show l.length + 1≤1000000; omega)
     obtain ⟨hfine,happV,happW⟩:=fine_of hrun;have HL4:=qH hL4;have Hat4:=qH (fun ad e=>Nat.le_trans HbN.out.size (Nat.le_trans ((below_box WN _).drew).size (hat4 (by decide) ad e)))
     clear hat4;have Hb4:Hid (Below WN.heap.size WN w4):=held_next ((below_box WN _).drew) hb4;clear hL4 hb4 hrun hWN;have e1:(0:Int)≤(m:Int):=by omega
     go_wp2
     go_region
     go_wp2
     go_ret2
     refine ⟨A',C,?_,?_,held_next HbN.out Hb4.out,?_⟩
     · rw [← hlen.out]; rfl
     · rw [← hlen.out]; exact HL4.out
     · rw [← hlen.out]; exact line_stay hlen.out HL4.out fun _ ad e=>Hat4.out ad e
   · rw [Hm.out] at Hf
     obtain rfl:res=([],f):=Hres.out.symm.trans ((joinQ_bad Hok.out (by rw [Hf.out]; exact hf)).trans (by rw [Hf.out]))
     have hfn:(f != 0)=true:=bne_iff_ne.2 hf
     go_wp2_with fail
     go_ret2
     exact ⟨none,0,by rfl,Line.nil _ _ _ (fun _=>rfl),HbN.out,line_none _ _⟩
end Go.Proofs.YtecjnkokdnmhlaaGreat
namespace Go.Proofs.YtecjnkokdnmhlaaGreat
open Go.RowKit
def GaveNF (w:World) (l:List Int) (e:Ending) (w':World):Prop:=∃ A C,e=.returned (.slice A l.length C)∧Nums w' (.slice A l.length C) l∧Below w.heap.size w w'∧Stay (fun b=>b < w.heap.size) w' (fun W=>Nums W (.slice A l.length C) l)
theorem ownN_stay {B base:Nat} {w:World} {A:Option Addr} {n C:Nat} {l:List Int} (hn:n=l.length) (h:OwnN w base (.slice A n C) l) (hl:n≤9223372036854775807) (hB:B≤base):Stay (fun b=>b < B) w (fun W=>Nums W (.slice A n C) l):=fun W k=>by
 obtain ⟨A',C',e,h2⟩:=OwnN.nums (w:=W) (row_butS h (fun b (hb:b < B)=>by omega) k) (by omega)
 rw [e]; exact h2
end Go.Proofs.YtecjnkokdnmhlaaGreat
namespace Go.Proofs.YtecjnkokdnmhlaaGreat
open Go.RowKit
theorem keep_is (l:List Int) (x:Int):keepN l x=l.drop (l.length - 63) ++ [x]:=by
 unfold keepN lastN
 rw [List.length_append,List.length_singleton,show l.length + 1 - 64=l.length - 63 by omega,List.drop_append_of_le_length (by omega)]
set_option maxRecDepth 100000 in
set_option maxHeartbeats 4000000 in
theorem nKeep_far (a:Option Addr) (m d:Nat) (l:List Int) (x:Int) (hm:m=l.length) (hs:m≤1000) (w:World) (hA:Nums w (.slice a m d) l) :
 Calls Tryz.prog 94 #[.slice a m d,.int .i64 x] w (GaveNF w (keepN l x)):=by
 have HL:=qH (last_calls a m d l hm (by omega) 63 (by decide) (by decide) w hA)
 rw [keep_is,← hm];have hle:(l.drop (m - 63)).length≤63:=by rw [List.length_drop]; omega
 generalize l.drop (m - 63)=k at *
 obtain ⟨n,Hn⟩:∃ z,Hid (k.length=z):=⟨_,rfl⟩;rw [Hn.out] at hle HL;clear hA hm hs
 go_enter Tryz.func94,Tryz.ntmps94
 go_wp2_with fail
 refine HL.out.mono ?_;rintro e w1 ⟨A,C,rfl,hN,rfl⟩;have hb1:=below_box w1 (.cells #[.int .i64 x] 2);have hone:=one_n64 (Whole.made w1 2 #[.int .i64 x]);obtain ⟨w2,hw2⟩:∃ z,w1.alloc (.cells #[.int .i64 x] 2)=z:=⟨_,rfl⟩;rw [hw2] at hb1 hone;have hb2:=below_box w2 (.cells #[.slice A n C,.slice (some ⟨w1.heap.size,0,none⟩) 1 1] 31);have hblock:=Whole.made w2 31 #[.slice A n C,.slice (some ⟨w1.heap.size,0,none⟩) 1 1]
 obtain ⟨w3,hw3⟩:∃ z,w2.alloc (.cells #[.slice A n C,.slice (some ⟨w1.heap.size,0,none⟩) 1 1] 31)=z:=⟨_,rfl⟩;rw [hw3] at hb2 hblock
 have hR:RowsN w3 w2.heap.size 2 (fun q=>if q=0 then (A,n,C) else (some ⟨w1.heap.size,0,none⟩,1,1)) (fun q=>if q=0 then k else [x]):=by
  intro q hq
  rcases (by omega:q=0∨q=1) with rfl | rfl
  · exact ⟨hblock.cell 0,Hn.out.symm,(hN.later hb1).later hb2⟩
  · exact ⟨hblock.cell 1,rfl,hone.later hb2⟩
 have hcat:catL (fun q=>if q=0 then k else [x]) 2=k ++ [x]:=by simp [catL]
 have hc:=concatN_calls w2.heap.size 2 _ _ w3 hR (by decide) (by rw [hcat,List.length_append,List.length_singleton,Hn.out]; omega)
 have hsz:w2.heap.size=w1.heap.size + 1:=by rw [← hw2]; simp
 rw [hcat,hsz] at hc;have HC:=qH hc;have Hb:=qH (hb1.trans (hb2.mono hb1.size));have H2:=qH hw2;have H3:=qH hw3;clear hc hcat hsz hR hblock hone hb1 hb2 hN hw2 hw3
 go_wp2_with fail
 rw [H2.out,H3.out];refine HC.out.mono ?_;rintro e w4 ⟨v,rfl,hO,hb⟩;obtain ⟨A2,C2,hv,hn2⟩:=hO.nums (by rw [List.length_append,List.length_singleton,Hn.out]; omega)
 obtain ⟨q,Hq⟩:∃ z,Hid ((k ++ [x]).length=z):=⟨_,rfl⟩;rw [Hq.out] at hv hn2;subst hv;have HO:=qH hn2;have HST:Hid (Stay (fun b=>b < w1.heap.size) w4 (fun W=>Nums W (.slice A2 q C2) (k ++ [x]))):=ownN_stay Hq.out.symm hO (by rw [← Hq.out,List.length_append,List.length_singleton,Hn.out]; omega) Hb.out.size
 have Hb4:=qH (Hb.out.trans (hb.mono Hb.out.size));clear hO hb hn2
 go_wp2_with fail
 go_ret
 exact ⟨A2,C2,by rw [Hq.out]; rfl,by rw [Hq.out]; exact HO.out,Hb4.out,by rw [Hq.out]; exact HST.out⟩
end Go.Proofs.YtecjnkokdnmhlaaGreat
namespace Go.Proofs.YtecjnkokdnmhlaaGreat
open Go
section
variable {P:Program} {ops:Array Oper} {Q:Exit→Act→World→Prop}
def backward (ops:Array Oper):Bool:=(List.range ops.size).all fun i=>match ops[i]? with
 | some o=>o.after.all fun e=>!Region.binds .any e || decide (e.on < i)
 | none=>true
def waitsFor (ops:Array Oper) (i:Nat):List Nat:=match ops[i]? with
 | some o=>(o.after.toList.filter (Region.binds .any)).map (·.on)
 | none=>[]
def oneMore (d:Nat→Bool) (i:Nat):Nat→Bool:=fun k=>k == i || d k
theorem oneMore_same (d:Nat→Bool) (i:Nat):oneMore d i i=true:=by simp [oneMore]
theorem oneMore_other {d:Nat→Bool} {i k:Nat} (h:k ≠ i):oneMore d i k=d k:=by simp [oneMore,h]
def still (n:Nat) (d:Nat→Bool):Nat:=((List.range n).filter fun k=>!d k).length
theorem still_more {n:Nat} {d:Nat→Bool} {i:Nat} (hi:i < n) (hd:d i=false):still n (oneMore d i) < still n d:=by
 unfold still
 induction n with
 | zero=>omega
 | succ n ih =>
   rw [List.range_succ,List.filter_append,List.filter_append,List.length_append,List.length_append]
   by_cases h:i=n
   · subst h
     have e1:(List.range i).filter (fun k=>!oneMore d i k)=(List.range i).filter (fun k=>!d k):=by
      apply List.filter_congr;intro k hk;rw [oneMore_other (by have:=List.mem_range.1 hk; omega)]
     rw [e1]
     simp [oneMore_same,hd]
   · have:=ih (by omega)
     have e2:[n].filter (fun k=>!oneMore d i k)=[n].filter (fun k=>!d k):=by
      apply List.filter_congr;intro k hk;rw [oneMore_other (by have:=List.mem_singleton.1 hk; omega)]
     rw [e2]
     omega
theorem wpAny_each (hb:backward ops=true) (J:(Nat→Bool)→Act→World→Prop)
 (hstep:∀ (i:Nat) (d:Nat→Bool) (a:Act) (w:World),i < ops.size→J d a w→d i=false→(∀ k ∈ waitsFor ops i,d k=true)→wpOp P ops Q i (fun a' w'=>J (oneMore d i) a' w') a w)
 (hend:∀ (d:Nat→Bool) (a:Act) (w:World),J d a w→(∀ i,i < ops.size→d i=true)→Q .normal a w) :
 ∀ (fuel:Nat) (listed:Array Bool) (d:Nat→Bool) (a:Act) (w:World),listed.size=ops.size→(∀ i,i < ops.size→listed[i]?=some (d i))→still ops.size d≤fuel→J d a w→wpAny P .any ops Q fuel listed a w:=by
 intro fuel
 induction fuel with
 | zero =>
   intro listed d a w hs hl hf hJ
   have hall:∀ i,i < ops.size→d i=true:=by
    intro i hi
    cases h:d i with
    | true=>rfl
    | false =>
      have hlen:0 < ((List.range ops.size).filter fun k=>!d k).length:=List.length_pos_of_mem (a:=i) (List.mem_filter.2 ⟨List.mem_range.2 hi,by simp [h]⟩)
      unfold still at hf
      omega
   refine ⟨?_,hend d a w hJ hall⟩
   by_cases hr:Region.ready .any ops listed=[]
   · exact hr
   · obtain ⟨j,hj⟩:=List.exists_mem_of_ne_nil _ hr
     obtain ⟨h1,o,ho,_⟩:=mem_ready.1 hj;have hjs:j < ops.size:=(Array.getElem?_eq_some_iff.1 ho).1;rw [Array.getD_eq_getD_getElem?,hl j hjs,hall j hjs] at h1
     simp at h1
 | succ fuel ih =>
   intro listed d a w hs hl hf hJ;refine ⟨fun hr=>hend d a w hJ ?_,fun i hi=>?_⟩
   · intro i
     induction i using Nat.strongRecOn with
     | ind i ihi =>
       intro hi
       cases h:d i with
       | true=>rfl
       | false =>
         have:i ∈ Region.ready .any ops listed:=by
          refine mem_ready.2 ⟨by rw [Array.getD_eq_getD_getElem?,hl i hi,h]; rfl,ops[i],Array.getElem?_eq_getElem hi,fun e he hbe=>?_⟩
          have hlt:e.on < i:=by
           have h2:=List.all_eq_true.1 hb i (List.mem_range.2 hi);simp only [Array.getElem?_eq_getElem hi] at h2;have h3:=Array.all_eq_true_iff_forall_mem.1 h2 e he;rw [hbe,Bool.not_true,Bool.false_or] at h3
           exact of_decide_eq_true h3
          have:=ihi e.on hlt (by omega)
          rw [Array.getD_eq_getD_getElem?,hl e.on (by omega),this]; rfl
         rw [hr] at this
         cases this
   · obtain ⟨h1,o,ho,hdep⟩:=mem_ready.1 hi
     have his:i < ops.size:=(Array.getElem?_eq_some_iff.1 ho).1
     have hdi:d i=false:=by
      rw [Array.getD_eq_getD_getElem?,hl i his] at h1
      simpa using h1
     refine wpOp_mono (fun a' w' hJ'=>ih (listed.setIfInBounds i true) (oneMore d i) a' w' (by simpa using hs) ?_ ?_ hJ') (hstep i d a w his hJ hdi ?_)
     · intro k hk
       by_cases e:k=i
       · subst e
         rw [oneMore_same,Array.getElem?_setIfInBounds_self_of_lt (by omega)]
       · rw [oneMore_other e,Array.getElem?_setIfInBounds_ne (fun h=>e h.symm)]
         exact hl k hk
     · have:=still_more his hdi
       omega
     · intro k hk
       unfold waitsFor at hk
       rw [ho] at hk;obtain ⟨e,he,rfl⟩:=List.mem_map.1 hk;obtain ⟨he1,he2⟩:=List.mem_filter.1 he;have h3:=hdep e (Array.mem_toList_iff.1 he1) he2
       have hes:e.on < ops.size:=by
        have h2:=List.all_eq_true.1 hb i (List.mem_range.2 his);simp only [ho] at h2;have h3:=Array.all_eq_true_iff_forall_mem.1 h2 e (Array.mem_toList_iff.1 he1);rw [he2,Bool.not_true,Bool.false_or] at h3;have:=of_decide_eq_true h3
        omega
       rw [Array.getD_eq_getD_getElem?,hl e.on hes] at h3
       simpa using h3
theorem wp_region_each {id:Nat} {a:Act} {w:World} (hm:P.follows .mixedOrders=true) (hb:backward ops=true) (J:(Nat→Bool)→Act→World→Prop) (h0:J (fun _=>false) a w.drew)
 (hstep:∀ (i:Nat) (d:Nat→Bool) (a:Act) (w:World),i < ops.size→J d a w→d i=false→(∀ k ∈ waitsFor ops i,d k=true)→wpOp P ops Q i (fun a' w'=>J (oneMore d i) a' w') a w)
 (hend:∀ (d:Nat→Bool) (a:Act) (w:World),J d a w→(∀ i,i < ops.size→d i=true)→Q .normal a w):(Code.region id ops true).wp P Q a w:=by
 refine wp_region_any hm (wpAny_each hb J hstep hend ops.size _ (fun _=>false) a _ (by simp) (fun i hi=>by simp [hi]) ?_ h0)
 exact Nat.le_trans (List.length_filter_le _ _) (by simp)
theorem wp_region_each_at {id:Nat} {a:Act} {w:World} (hm:P.follows .mixedOrders=true) (hb:backward ops=true) (J:Act→(Nat→Bool)→Act→World→Prop) (h0:J a (fun _=>false) a w.drew)
 (hstep:∀ (i:Nat) (d:Nat→Bool) (a':Act) (w':World),i < ops.size→J a d a' w'→d i=false→(∀ k ∈ waitsFor ops i,d k=true)→wpOp P ops Q i (fun a'' w''=>J a (oneMore d i) a'' w'') a' w')
 (hend:∀ (d:Nat→Bool) (a':Act) (w':World),J a d a' w'→(∀ i,i < ops.size→d i=true)→Q .normal a' w'):(Code.region id ops true).wp P Q a w :=
 wp_region_each hm hb (J a) h0 hstep hend
theorem wpOp_at {i:Nat} {o:Oper} {rest:List Oper} {K:Act→World→Prop} {a:Act} {w:World} (ho:ops.toList.drop i=o :: rest)
 (h:∀ K':Act→World→Prop,(∀ a w,K a w→K' a w)→if Region.wanted o (yielded ops a.tmps)=true then Oper.wp P o a w K' Q else K' (a.put o.dst undef) w):wpOp P ops Q i K a w:=by
 refine wpOp_step (o:=o) ?_ h;have h1:(ops.toList.drop i)[0]?=ops.toList[i]?:=by rw [List.getElem?_drop,Nat.add_zero]
 rw [ho] at h1;rw [← Array.getElem?_toList,← h1]; rfl
def putAll (a:Act):List (Nat × Value)→Act
 | []=>a
 | (k,v) :: l=>putAll (a.put (some k) v) l
end
end Go.Proofs.YtecjnkokdnmhlaaGreat
