/- Parts, as far as NodeAtOnceCards reaches them, of: RefLineMay. No law is proved here. -/
import Derived.Test.YtecjnkokdnmhlaaGreatTa37
namespace Go.Proofs.YtecjnkokdnmhlaaGreat
open Go.RowKit
set_option maxRecDepth 100000 in
set_option maxHeartbeats 4000000 in
theorem refone_calls (c:Cf) (who:Int) (x:Rq) (w:World) :
 Calls Tryz.prog 131 #[cfV c,.int .i64 who,rqV x] w (Says w (oneB c who x)):=by
 obtain ⟨n,q,r,p,kk,cc⟩:=c;obtain ⟨t,a,m⟩:=x;have hone:oneB ⟨n,q,r,p,kk,cc⟩ who ⟨t,a,m⟩=(mayB t a n && decide (a=who∧1≤m∧m≤1099511627776)):=rfl;obtain ⟨res,Hres⟩:∃ z,Hid (oneB ⟨n,q,r,p,kk,cc⟩ who ⟨t,a,m⟩=z):=⟨_,rfl⟩;rw [Hres.out] at hone ⊢;obtain ⟨v,Hv⟩:∃ z,Hid (mayB t a n=z):=⟨_,rfl⟩;rw [Hv.out] at hone;have Hone:=qH hone; clear hone;have Hb0:=qH (below_two w (.cells (cfCells ⟨n,q,r,p,kk,cc⟩) 23) (.cells (rqCells ⟨t,a,m⟩) 59))
 have HW:=qH (Whole.made2 w (.cells (cfCells ⟨n,q,r,p,kk,cc⟩) 23) 59 (rqCells ⟨t,a,m⟩))
 go_enter Tryz.func131,Tryz.ntmps131
 go_wp2_with fail
 refine (refstampmay_calls t a n _).mono ?_;rintro e w1 ⟨rfl,hb⟩;rw [Hv.out];have Hb1:=qH (held_next Hb0.out hb);have HW1:=qH (HW.out.later hb HW.out.lt);have d0:w1.cell? ⟨w.heap.size + 1,0,none⟩=some (.int .i64 t):=HW1.out.cell 0;have d1:w1.cell? ⟨w.heap.size + 1,1,none⟩=some (.int .i64 a):=HW1.out.cell 1;have d2:w1.cell? ⟨w.heap.size + 1,2,none⟩=some (.int .i64 m):=HW1.out.cell 2;clear hb
 cases v with
 | false =>
   have hr:res=false:=Hone.out;subst hr
   go_wp2_with fail
   go_ret
   exact ⟨rfl,Hb1.out⟩
 | true =>
   have hr:res=decide (a=who∧1≤m∧m≤1099511627776):=Hone.out
   by_cases ha:a=who
   · by_cases h1:1≤m
     · by_cases h2:m≤1099511627776
       · rw [decide_eq_true ⟨ha,h1,h2⟩] at hr
         subst hr ha
         go_wp2_with fail
         go_ret
         exact ⟨by simp,Hb1.out⟩
       · rw [decide_eq_false (fun h=>h2 h.2.2)] at hr
         subst hr ha
         go_wp2_with fail
         go_ret
         exact ⟨by simp; omega,Hb1.out⟩
     · rw [decide_eq_false (fun h=>h1 h.2.1)] at hr
       subst hr ha
       go_wp2_with fail
       go_ret
       exact ⟨by simp,Hb1.out⟩
   · rw [decide_eq_false (fun h=>ha h.1)] at hr
     subst hr;have ha':(a == who)=false:=beq_eq_false_iff_ne.2 ha;clear ha
     go_wp2_with fail
     go_ret
     exact ⟨by simp,Hb1.out⟩
theorem lineB_false {c:Cf} {who:Int} {l:List Rq} {b:Bool} (hb:lineB c who l=b) (h:¬ lineOk c who l):b=false:=hb.symm.trans (lineB_no h)
set_option maxRecDepth 100000 in
set_option maxHeartbeats 8000000 in
theorem reflinemay_calls (c:Cf) (who:Int) (a:Option Addr) (m d:Nat) (l:List Rq) (hm:m=l.length) (w:World) (hB:Line w (.slice a m d) l) :
 Calls Tryz.prog 71 #[cfV c,.int .i64 who,.slice a m d] w (Says w (lineB c who l)):=by
 have hbig:m≤9223372036854775807:=by rw [hm]; exact hB.big
 have HW:=qH (Whole.made w 23 (cfCells c));have Hb0:=qH (below_box w (.cells (cfCells c) 23));have HB:=qH hB; clear hB;have Hm:=qH hm; clear hm;obtain ⟨n,q,r,p,kk,cc⟩:=c;obtain ⟨res,Hres⟩:∃ z,Hid (lineB ⟨n,q,r,p,kk,cc⟩ who l=z):=⟨_,rfl⟩;rw [Hres.out];obtain ⟨ok,Hok⟩:∃ z,Hid (cfB ⟨n,q,r,p,kk,cc⟩=z):=⟨_,rfl⟩
 go_enter Tryz.func71,Tryz.ntmps71
 go_wp2_with fail
 refine (refcfg_calls ⟨n,q,r,p,kk,cc⟩ _).mono ?_;rintro e w1 ⟨rfl,hb⟩;rw [Hok.out];have Hb1:=qH (held_next Hb0.out hb);have HW1:=qH (HW.out.later hb HW.out.lt);clear hb;obtain ⟨d0,d1,d2,d3,d4,d5⟩:=config_cells HW1.out;simp only at d0 d1 d2 d3 d4 d5
 cases ok with
 | false =>
   obtain rfl:res=false:=lineB_false Hres.out fun h=>by
    have:=cfB_yes h.1;rw [Hok.out] at this
    cases this
   go_wp2_with fail
   go_ret
   exact ⟨rfl,Hb1.out⟩
 | true =>
   by_cases h1:who < 0
   · obtain rfl:res=false:=lineB_false Hres.out fun h=>by have:=h.2.1.1; omega
     go_wp2_with fail
     go_ret
     exact ⟨by rfl,Hb1.out⟩
   by_cases h2:n≤who
   · obtain rfl:res=false:=lineB_false Hres.out fun h=>by have:who < n:=h.2.1.2; omega
     go_wp2_with fail
     go_ret
     exact ⟨by rfl,Hb1.out⟩
   by_cases h3:q < (m:Int)
   · obtain rfl:res=false:=lineB_false Hres.out fun h=>by have:(l.length:Int)≤q:=h.2.2.1; have:=Hm.out; omega
     go_wp2_with fail
     go_ret
     exact ⟨by rfl,Hb1.out⟩
   go_wp2_with fail
   clear d0 d1 d2 d3 d4 d5
   go_loopw [7] (fun s7 wr=>∃ k:Nat,k≤m∧s7=.int .i64 k∧Hid (∀ i,i < k→oneB ⟨n,q,r,p,kk,cc⟩ who (rqAt l i)=true∧(0 < i→rqOld (rqAt l (i - 1)) (rqAt l i)=true))∧Hid (Below w.heap.size w wr)∧Hid (Whole wr w.heap.size 23 (cfCells ⟨n,q,r,p,kk,cc⟩))) (fun s7 _=>m - (intOf s7).toNat)
   case atStart=>exact ⟨0,Nat.zero_le _,rfl,fun z hz=>absurd hz (Nat.not_lt_zero _),Hb1.out,HW1.out⟩
   case round =>
    obtain ⟨k,hk,rfl,Hl,Hb,HWr⟩:=hrel
    by_cases hlt:k < m
    · obtain ⟨b,off,rfl,c0,c1,c2⟩:=HB.out.at (i:=k) (by have:=Hm.out; omega)
      obtain ⟨x,Hx⟩:∃ z,Hid (rqAt l k=z):=⟨_,rfl⟩;obtain ⟨v,Hv⟩:∃ z,Hid (oneB ⟨n,q,r,p,kk,cc⟩ who x=z):=⟨_,rfl⟩;rw [Hx.out] at c0 c1 c2;have k0:(0:Int)≤(k:Int):=by omega
      have k1:(k:Int) < (m:Int):=by omega
      cases v with
      | false =>
        obtain rfl:res=false:=lineB_false Hres.out fun h=>by
         have:=(h.2.2.2 k (by have:=Hm.out; omega)).1
         rw [Hx.out,Hv.out] at this
         cases this
        have KP:Hid (∀ w',Below wr.heap.size wr w'→(fun w'=>Below wr.heap.size wr w'∧(w'.cell? ⟨w.heap.size,0,none⟩=some (.int .i64 n)∧w'.cell? ⟨w.heap.size,1,none⟩=some (.int .i64 q)∧w'.cell? ⟨w.heap.size,2,none⟩=some (.int .i64 r)∧w'.cell? ⟨w.heap.size,3,none⟩=some (.int .i64 p)∧w'.cell? ⟨w.heap.size,4,none⟩=some (.int .i64 kk)∧w'.cell? ⟨w.heap.size,5,none⟩=some (.int .i64 cc))∧(w'.cell? ⟨b,off + k * 3,none⟩=some (.int .i64 x.t)∧w'.cell? ⟨b,off + k * 3 + 1,none⟩=some (.int .i64 x.a)∧w'.cell? ⟨b,off + k * 3 + 2,none⟩=some (.int .i64 x.m))) w') :=
         fun w' h=>⟨h,config_cells (HWr.out.later h HWr.out.lt),⟨cell_later (held_next Hb.out h) c0,cell_later (held_next Hb.out h) c1,cell_later (held_next Hb.out h) c2⟩⟩
        clear c0 c1 c2
        go_wp2_with fail
        refine wp_region_held_drew (S:=(fun w'=>Below wr.heap.size wr w'∧(w'.cell? ⟨w.heap.size,0,none⟩=some (.int .i64 n)∧w'.cell? ⟨w.heap.size,1,none⟩=some (.int .i64 q)∧w'.cell? ⟨w.heap.size,2,none⟩=some (.int .i64 r)∧w'.cell? ⟨w.heap.size,3,none⟩=some (.int .i64 p)∧w'.cell? ⟨w.heap.size,4,none⟩=some (.int .i64 kk)∧w'.cell? ⟨w.heap.size,5,none⟩=some (.int .i64 cc))∧(w'.cell? ⟨b,off + k * 3,none⟩=some (.int .i64 x.t)∧w'.cell? ⟨b,off + k * 3 + 1,none⟩=some (.int .i64 x.a)∧w'.cell? ⟨b,off + k * 3 + 2,none⟩=some (.int .i64 x.m)))) (by kernel_rfl) (KP.out _ (Below.refl _ _).drew) (fun hHeld=>?_)
        refine qT 0 34 ?_ rfl ?_ ?_
        rotate_left 1
        · intro w hSw
          try dsimp only at hSw
          go_simp
          try with_reducible rfl
        simp only [Act.put,qA,qB,qC];refine qT 1 35 ?_ rfl ?_ ?_
        rotate_left 1
        · intro w hSw
          try dsimp only at hSw
          go_simp
          try with_reducible rfl
        simp only [Act.put,qA,qB,qC];refine qT 2 36 ?_ rfl ?_ ?_
        rotate_left 1
        · intro w hSw
          try dsimp only at hSw
          go_simp
          try with_reducible rfl
        simp only [Act.put,qA,qB,qC];refine qT 3 37 ?_ rfl ?_ ?_
        rotate_left 1
        · intro w hSw
          try dsimp only at hSw
          go_simp
          try with_reducible rfl
        simp only [Act.put,qA,qB,qC];refine qT 4 38 ?_ rfl ?_ ?_
        rotate_left 1
        · intro w hSw
          try dsimp only at hSw
          go_simp
          try with_reducible rfl
        simp only [Act.put,qA,qB,qC];refine qT 5 39 ?_ rfl ?_ ?_
        rotate_left 1
        · intro w hSw
          try dsimp only at hSw
          go_simp
          try with_reducible rfl
        simp only [Act.put,qA,qB,qC];refine wpAnyH_ready (rs:=[6]) (by kernel_rfl) (by simp) ?_
        refine AllReadyH.cons rfl (fun K hK=>?_) AllReadyH.nil
        go_simp
        go_wp2_with (go_at_call 131; refine (refone_calls ⟨n,q,r,p,kk,cc⟩ who x _).mono ?_; rw [Hv.out]; rintro ee wo ⟨rfl,hb2⟩; have hS1:=held_next hHeld.1 hb2)
        refine hK.out _ _ (KP.out _ hS1) (fun hHeld2=>?_)
        clear hHeld hK K;have hHeld:=hHeld2;clear hHeld2 hb2 hS1;refine qT 7 41 ?_ rfl ?_ ?_
        rotate_left 1
        · intro w hSw
          try dsimp only at hSw
          go_simp
          try with_reducible rfl
        simp only [Act.put,qA,qB,qC];refine qT 8 42 ?_ rfl ?_ ?_
        rotate_left 1
        · intro w hSw
          try dsimp only at hSw
          go_simp
          try with_reducible rfl
        simp only [Act.put,qA,qB,qC];refine qS 9 43 rfl ?_;simp only [Act.put,qA,qB,qC];refine qS 10 44 rfl ?_;simp only [Act.put,qA,qB,qC];refine qS 11 45 rfl ?_;simp only [Act.put,qA,qB,qC];refine qS 12 46 rfl ?_;simp only [Act.put,qA,qB,qC];refine qS 13 47 rfl ?_;simp only [Act.put,qA,qB,qC];refine qS 14 48 rfl ?_;simp only [Act.put,qA,qB,qC];refine qS 15 49 rfl ?_;simp only [Act.put,qA,qB,qC];refine qS 16 50 rfl ?_
        simp only [Act.put,qA,qB,qC];refine qS 17 51 rfl ?_;simp only [Act.put,qA,qB,qC];refine qS 18 52 rfl ?_;simp only [Act.put,qA,qB,qC];refine qS 19 53 rfl ?_;simp only [Act.put,qA,qB,qC];refine qS 20 54 rfl ?_;simp only [Act.put,qA,qB,qC];refine qS 21 55 rfl ?_;simp only [Act.put,qA,qB,qC];refine qS 22 56 rfl ?_;simp only [Act.put,qA,qB,qC];refine qS 23 57 rfl ?_;simp only [Act.put,qA,qB,qC]
        refine qS 24 58 rfl ?_;simp only [Act.put,qA,qB,qC];refine qS 25 59 rfl ?_;simp only [Act.put,qA,qB,qC];refine qT 26 60 ?_ rfl ?_ ?_
        rotate_left 1
        · intro w hSw
          try dsimp only at hSw
          go_simp
          try with_reducible rfl
        simp only [Act.put,qA,qB,qC];refine wpAnyH_done (by kernel_rfl) ?_ _
        have HbN:=qH (held_next Hb.out hHeld.1);have HWN:=qH (HWr.out.later hHeld.1 HWr.out.lt);clear hHeld
        go_wp2_with fail
        go_ret
        exact ⟨by rfl,HbN.out⟩
      | true =>
        by_cases hk0:k=0
        · have s5:decide ((0:Int) < (k:Int))=false:=decide_eq_false (by omega)
          have s6:decide (0 < k)=false:=decide_eq_false (by omega)
          have Hk0:=qH hk0; clear hk0
          have KP:Hid (∀ w',Below wr.heap.size wr w'→(fun w'=>Below wr.heap.size wr w'∧(w'.cell? ⟨w.heap.size,0,none⟩=some (.int .i64 n)∧w'.cell? ⟨w.heap.size,1,none⟩=some (.int .i64 q)∧w'.cell? ⟨w.heap.size,2,none⟩=some (.int .i64 r)∧w'.cell? ⟨w.heap.size,3,none⟩=some (.int .i64 p)∧w'.cell? ⟨w.heap.size,4,none⟩=some (.int .i64 kk)∧w'.cell? ⟨w.heap.size,5,none⟩=some (.int .i64 cc))∧(w'.cell? ⟨b,off + k * 3,none⟩=some (.int .i64 x.t)∧w'.cell? ⟨b,off + k * 3 + 1,none⟩=some (.int .i64 x.a)∧w'.cell? ⟨b,off + k * 3 + 2,none⟩=some (.int .i64 x.m))) w') :=
           fun w' h=>⟨h,config_cells (HWr.out.later h HWr.out.lt),⟨cell_later (held_next Hb.out h) c0,cell_later (held_next Hb.out h) c1,cell_later (held_next Hb.out h) c2⟩⟩
          clear c0 c1 c2
          go_wp2_with fail
          refine wp_region_held_drew (S:=(fun w'=>Below wr.heap.size wr w'∧(w'.cell? ⟨w.heap.size,0,none⟩=some (.int .i64 n)∧w'.cell? ⟨w.heap.size,1,none⟩=some (.int .i64 q)∧w'.cell? ⟨w.heap.size,2,none⟩=some (.int .i64 r)∧w'.cell? ⟨w.heap.size,3,none⟩=some (.int .i64 p)∧w'.cell? ⟨w.heap.size,4,none⟩=some (.int .i64 kk)∧w'.cell? ⟨w.heap.size,5,none⟩=some (.int .i64 cc))∧(w'.cell? ⟨b,off + k * 3,none⟩=some (.int .i64 x.t)∧w'.cell? ⟨b,off + k * 3 + 1,none⟩=some (.int .i64 x.a)∧w'.cell? ⟨b,off + k * 3 + 2,none⟩=some (.int .i64 x.m)))) (by kernel_rfl) (KP.out _ (Below.refl _ _).drew) (fun hHeld=>?_)
          refine qT 0 34 ?_ rfl ?_ ?_
          rotate_left 1
          · intro w hSw
            try dsimp only at hSw
            go_simp
            try with_reducible rfl
          simp only [Act.put,qA,qB,qC];refine qT 1 35 ?_ rfl ?_ ?_
          rotate_left 1
          · intro w hSw
            try dsimp only at hSw
            go_simp
            try with_reducible rfl
          simp only [Act.put,qA,qB,qC];refine qT 2 36 ?_ rfl ?_ ?_
          rotate_left 1
          · intro w hSw
            try dsimp only at hSw
            go_simp
            try with_reducible rfl
          simp only [Act.put,qA,qB,qC];refine qT 3 37 ?_ rfl ?_ ?_
          rotate_left 1
          · intro w hSw
            try dsimp only at hSw
            go_simp
            try with_reducible rfl
          simp only [Act.put,qA,qB,qC];refine qT 4 38 ?_ rfl ?_ ?_
          rotate_left 1
          · intro w hSw
            try dsimp only at hSw
            go_simp
            try with_reducible rfl
          simp only [Act.put,qA,qB,qC];refine qT 5 39 ?_ rfl ?_ ?_
          rotate_left 1
          · intro w hSw
            try dsimp only at hSw
            go_simp
            try with_reducible rfl
          simp only [Act.put,qA,qB,qC];refine wpAnyH_ready (rs:=[6]) (by kernel_rfl) (by simp) ?_
          refine AllReadyH.cons rfl (fun K hK=>?_) AllReadyH.nil
          go_simp
          go_wp2_with (go_at_call 131; refine (refone_calls ⟨n,q,r,p,kk,cc⟩ who x _).mono ?_; rw [Hv.out]; rintro ee wo ⟨rfl,hb2⟩; have hS1:=held_next hHeld.1 hb2)
          refine hK.out _ _ (KP.out _ hS1) (fun hHeld2=>?_)
          clear hHeld hK K;have hHeld:=hHeld2;clear hHeld2 hb2 hS1;refine qT 7 41 ?_ rfl ?_ ?_
          rotate_left 1
          · intro w hSw
            try dsimp only at hSw
            go_simp
            try with_reducible rfl
          simp only [Act.put,qA,qB,qC];refine qT 8 42 ?_ rfl ?_ ?_
          rotate_left 1
          · intro w hSw
            try dsimp only at hSw
            go_simp
            try with_reducible rfl
          simp only [Act.put,qA,qB,qC];refine qT 9 43 ?_ rfl ?_ ?_
          rotate_left 1
          · intro w hSw
            try dsimp only at hSw
            go_simp
            try with_reducible rfl
          simp only [Act.put,qA,qB,qC];refine qT 10 44 ?_ rfl ?_ ?_
          rotate_left 1
          · intro w hSw
            try dsimp only at hSw
            go_simp
            try simp only [s5,s6]
            try with_reducible rfl
          simp only [Act.put,qA,qB,qC];refine qT 11 45 ?_ rfl ?_ ?_
          rotate_left 1
          · intro w hSw
            try dsimp only at hSw
            go_simp
            try with_reducible rfl
          simp only [Act.put,qA,qB,qC];refine qS 12 46 rfl ?_;simp only [Act.put,qA,qB,qC];refine qS 13 47 rfl ?_;simp only [Act.put,qA,qB,qC];refine qS 14 48 rfl ?_;simp only [Act.put,qA,qB,qC];refine qS 15 49 rfl ?_;simp only [Act.put,qA,qB,qC];refine qS 16 50 rfl ?_;simp only [Act.put,qA,qB,qC];refine qS 17 51 rfl ?_;simp only [Act.put,qA,qB,qC];refine qS 18 52 rfl ?_;simp only [Act.put,qA,qB,qC]
          refine qS 19 53 rfl ?_;simp only [Act.put,qA,qB,qC];refine qS 20 54 rfl ?_;simp only [Act.put,qA,qB,qC];refine qS 21 55 rfl ?_;simp only [Act.put,qA,qB,qC];refine qS 22 56 rfl ?_;simp only [Act.put,qA,qB,qC];refine qS 23 57 rfl ?_;simp only [Act.put,qA,qB,qC];refine qS 24 58 rfl ?_;simp only [Act.put,qA,qB,qC];refine qT 25 59 ?_ rfl ?_ ?_
          rotate_left 1
          · intro w hSw
            try dsimp only at hSw
            go_simp
            try with_reducible rfl
          simp only [Act.put,qA,qB,qC];refine qT 26 60 ?_ rfl ?_ ?_
          rotate_left 1
          · intro w hSw
            try dsimp only at hSw
            go_simp
            try with_reducible rfl
          simp only [Act.put,qA,qB,qC];refine wpAnyH_done (by kernel_rfl) ?_ _
          have HbN:=qH (held_next Hb.out hHeld.1);have HWN:=qH (HWr.out.later hHeld.1 HWr.out.lt);clear hHeld
          go_wp2_with fail
          go_roundw
          case rel=>exact ⟨k + 1,by omega,by go_num,(fun z hz=>by
           by_cases e:z=k
           · subst e; rw [Hx.out]; exact ⟨Hv.out,fun h0=>absurd h0 (by have:=Hk0.out; omega)⟩
           · exact Hl.out z (by omega)),HbN.out,HWN.out⟩
          case measure=>simp [intOf]; omega
        · obtain ⟨j,Hj⟩:∃ j,Hid (k=j + 1):=⟨k - 1,show _=_ by omega⟩
          have hj:=Hj.out;obtain ⟨b',off',hbo,e0,e1,_⟩:=HB.out.at (i:=j) (by have:=Hm.out; omega)
          simp only [Option.some.injEq,Addr.mk.injEq,and_true] at hbo;obtain ⟨rfl,rfl⟩:=hbo;obtain ⟨y,Hy⟩:∃ z,Hid (rqAt l j=z):=⟨_,rfl⟩;obtain ⟨o,Ho⟩:∃ z,Hid (olderB y.t y.a x.t x.a=z):=⟨_,rfl⟩;rw [Hy.out] at e0 e1;have s1:IntKind.i64.wrap ((k:Int) - 1)=(j:Int):=by rw [IntWalk.i64_in _ (by omega)]; omega
          have s1':(k:Int) - 1=(j:Int):=by omega
          have s1'':IntKind.i64.wrap (j:Int)=(j:Int):=IntWalk.i64_in _ (by omega)
          have s2:(0:Int)≤(j:Int):=by omega
          have s3:(j:Int) < (m:Int):=by omega
          have s5:decide ((0:Int) < (k:Int))=true:=decide_eq_true (by omega)
          have s6:decide (0 < k)=true:=decide_eq_true (by omega)
          have Hk0:=qH hk0; clear hk0;clear hj
          have KP:Hid (∀ w',Below wr.heap.size wr w'→(fun w'=>Below wr.heap.size wr w'∧(w'.cell? ⟨w.heap.size,0,none⟩=some (.int .i64 n)∧w'.cell? ⟨w.heap.size,1,none⟩=some (.int .i64 q)∧w'.cell? ⟨w.heap.size,2,none⟩=some (.int .i64 r)∧w'.cell? ⟨w.heap.size,3,none⟩=some (.int .i64 p)∧w'.cell? ⟨w.heap.size,4,none⟩=some (.int .i64 kk)∧w'.cell? ⟨w.heap.size,5,none⟩=some (.int .i64 cc))∧(w'.cell? ⟨b,off + k * 3,none⟩=some (.int .i64 x.t)∧w'.cell? ⟨b,off + k * 3 + 1,none⟩=some (.int .i64 x.a)∧w'.cell? ⟨b,off + k * 3 + 2,none⟩=some (.int .i64 x.m))∧(w'.cell? ⟨b,off + j * 3,none⟩=some (.int .i64 y.t)∧w'.cell? ⟨b,off + j * 3 + 1,none⟩=some (.int .i64 y.a))) w') :=
           fun w' h=>⟨h,config_cells (HWr.out.later h HWr.out.lt),⟨cell_later (held_next Hb.out h) c0,cell_later (held_next Hb.out h) c1,cell_later (held_next Hb.out h) c2⟩,cell_later (held_next Hb.out h) e0,cell_later (held_next Hb.out h) e1⟩
          clear c0 c1 c2 e0 e1
          cases o with
          | false =>
            obtain rfl:res=false:=lineB_false Hres.out fun h=>by
             have:=(h.2.2.2 k (by have:=Hm.out; omega)).2 (by have:=Hj.out; omega)
             rw [Hx.out,show k - 1=j by have:=Hj.out; omega,Hy.out] at this
             exact absurd (Ho.out.symm.trans this) (by decide)
            go_wp2_with fail
            refine wp_region_held_drew (S:=(fun w'=>Below wr.heap.size wr w'∧(w'.cell? ⟨w.heap.size,0,none⟩=some (.int .i64 n)∧w'.cell? ⟨w.heap.size,1,none⟩=some (.int .i64 q)∧w'.cell? ⟨w.heap.size,2,none⟩=some (.int .i64 r)∧w'.cell? ⟨w.heap.size,3,none⟩=some (.int .i64 p)∧w'.cell? ⟨w.heap.size,4,none⟩=some (.int .i64 kk)∧w'.cell? ⟨w.heap.size,5,none⟩=some (.int .i64 cc))∧(w'.cell? ⟨b,off + k * 3,none⟩=some (.int .i64 x.t)∧w'.cell? ⟨b,off + k * 3 + 1,none⟩=some (.int .i64 x.a)∧w'.cell? ⟨b,off + k * 3 + 2,none⟩=some (.int .i64 x.m))∧(w'.cell? ⟨b,off + j * 3,none⟩=some (.int .i64 y.t)∧w'.cell? ⟨b,off + j * 3 + 1,none⟩=some (.int .i64 y.a)))) (by kernel_rfl) (KP.out _ (Below.refl _ _).drew) (fun hHeld=>?_)
            refine qT 0 34 ?_ rfl ?_ ?_
            rotate_left 1
            · intro w hSw
              try dsimp only at hSw
              go_simp
              try with_reducible rfl
            simp only [Act.put,qA,qB,qC];refine qT 1 35 ?_ rfl ?_ ?_
            rotate_left 1
            · intro w hSw
              try dsimp only at hSw
              go_simp
              try with_reducible rfl
            simp only [Act.put,qA,qB,qC];refine qT 2 36 ?_ rfl ?_ ?_
            rotate_left 1
            · intro w hSw
              try dsimp only at hSw
              go_simp
              try with_reducible rfl
            simp only [Act.put,qA,qB,qC];refine qT 3 37 ?_ rfl ?_ ?_
            rotate_left 1
            · intro w hSw
              try dsimp only at hSw
              go_simp
              try with_reducible rfl
            simp only [Act.put,qA,qB,qC];refine qT 4 38 ?_ rfl ?_ ?_
            rotate_left 1
            · intro w hSw
              try dsimp only at hSw
              go_simp
              try with_reducible rfl
            simp only [Act.put,qA,qB,qC];refine qT 5 39 ?_ rfl ?_ ?_
            rotate_left 1
            · intro w hSw
              try dsimp only at hSw
              go_simp
              try with_reducible rfl
            simp only [Act.put,qA,qB,qC];refine wpAnyH_ready (rs:=[6]) (by kernel_rfl) (by simp) ?_
            refine AllReadyH.cons rfl (fun K hK=>?_) AllReadyH.nil
            go_simp
            go_wp2_with (go_at_call 131; refine (refone_calls ⟨n,q,r,p,kk,cc⟩ who x _).mono ?_; rw [Hv.out]; rintro ee wo ⟨rfl,hb2⟩; have hS1:=held_next hHeld.1 hb2)
            refine hK.out _ _ (KP.out _ hS1) (fun hHeld2=>?_)
            clear hHeld hK K;have hHeld:=hHeld2;clear hHeld2 hb2 hS1;refine qT 7 41 ?_ rfl ?_ ?_
            rotate_left 1
            · intro w hSw
              try dsimp only at hSw
              go_simp
              try with_reducible rfl
            simp only [Act.put,qA,qB,qC];refine qT 8 42 ?_ rfl ?_ ?_
            rotate_left 1
            · intro w hSw
              try dsimp only at hSw
              go_simp
              try with_reducible rfl
            simp only [Act.put,qA,qB,qC];refine qT 9 43 ?_ rfl ?_ ?_
            rotate_left 1
            · intro w hSw
              try dsimp only at hSw
              go_simp
              try with_reducible rfl
            simp only [Act.put,qA,qB,qC];refine qT 10 44 ?_ rfl ?_ ?_
            rotate_left 1
            · intro w hSw
              try dsimp only at hSw
              go_simp
              try simp only [s5,s6]
              try with_reducible rfl
            simp only [Act.put,qA,qB,qC];refine qT 11 45 ?_ rfl ?_ ?_
            rotate_left 1
            · intro w hSw
              try dsimp only at hSw
              go_simp
              try with_reducible rfl
            simp only [Act.put,qA,qB,qC];refine qT 12 46 ?_ rfl ?_ ?_
            rotate_left 1
            · intro w hSw
              try dsimp only at hSw
              go_simp
              try with_reducible rfl
            simp only [Act.put,qA,qB,qC];refine qT 13 47 ?_ rfl ?_ ?_
            rotate_left 1
            · intro w hSw
              try dsimp only at hSw
              go_simp
              try with_reducible rfl
            simp only [Act.put,qA,qB,qC];refine qT 14 48 ?_ rfl ?_ ?_
            rotate_left 1
            · intro w hSw
              try dsimp only at hSw
              go_simp
              try with_reducible rfl
            simp only [Act.put,qA,qB,qC];refine qT 15 49 ?_ rfl ?_ ?_
            rotate_left 1
            · intro w hSw
              try dsimp only at hSw
              go_simp
              try with_reducible rfl
            simp only [Act.put,qA,qB,qC];refine qT 16 50 ?_ rfl ?_ ?_
            rotate_left 1
            · intro w hSw
              try dsimp only at hSw
              go_simp
              try with_reducible rfl
            simp only [Act.put,qA,qB,qC];refine qT 17 51 ?_ rfl ?_ ?_
            rotate_left 1
            · intro w hSw
              try dsimp only at hSw
              go_simp
              try with_reducible rfl
            simp only [Act.put,qA,qB,qC];refine qT 18 52 ?_ rfl ?_ ?_
            rotate_left 1
            · intro w hSw
              try dsimp only at hSw
              go_simp
              try with_reducible rfl
            simp only [Act.put,qA,qB,qC];refine qT 19 53 ?_ rfl ?_ ?_
            rotate_left 1
            · intro w hSw
              try dsimp only at hSw
              go_simp
              try with_reducible rfl
            simp only [Act.put,qA,qB,qC];refine qT 20 54 ?_ rfl ?_ ?_
            rotate_left 1
            · intro w hSw
              try dsimp only at hSw
              go_simp
              try with_reducible rfl
            simp only [Act.put,qA,qB,qC];refine qT 21 55 ?_ rfl ?_ ?_
            rotate_left 1
            · intro w hSw
              try dsimp only at hSw
              go_simp
              try with_reducible rfl
            simp only [Act.put,qA,qB,qC];refine qT 22 56 ?_ rfl ?_ ?_
            rotate_left 1
            · intro w hSw
              try dsimp only at hSw
              go_simp
              try with_reducible rfl
            simp only [Act.put,qA,qB,qC];refine wpAnyH_ready (rs:=[23]) (by kernel_rfl) (by simp) ?_
            refine AllReadyH.cons rfl (fun K hK=>?_) AllReadyH.nil
            go_simp
            go_wp2_with (go_at_call 129; refine (refolder_calls y.t y.a x.t x.a _).mono ?_; rw [Ho.out]; rintro ee wp ⟨rfl,hb2⟩; have hS1:=held_next hHeld.1 hb2)
            refine hK.out _ _ (KP.out _ hS1) (fun hHeld2=>?_)
            clear hHeld hK K;have hHeld:=hHeld2;clear hHeld2 hb2 hS1;refine qT 24 58 ?_ rfl ?_ ?_
            rotate_left 1
            · intro w hSw
              try dsimp only at hSw
              go_simp
              try with_reducible rfl
            simp only [Act.put,qA,qB,qC];refine qT 25 59 ?_ rfl ?_ ?_
            rotate_left 1
            · intro w hSw
              try dsimp only at hSw
              go_simp
              try with_reducible rfl
            simp only [Act.put,qA,qB,qC];refine qT 26 60 ?_ rfl ?_ ?_
            rotate_left 1
            · intro w hSw
              try dsimp only at hSw
              go_simp
              try with_reducible rfl
            simp only [Act.put,qA,qB,qC];refine wpAnyH_done (by kernel_rfl) ?_ _
            have HbN:=qH (held_next Hb.out hHeld.1);have HWN:=qH (HWr.out.later hHeld.1 HWr.out.lt);clear hHeld
            go_wp2_with fail
            go_ret
            exact ⟨by rfl,HbN.out⟩
          | true =>
            go_wp2_with fail
            refine wp_region_held_drew (S:=(fun w'=>Below wr.heap.size wr w'∧(w'.cell? ⟨w.heap.size,0,none⟩=some (.int .i64 n)∧w'.cell? ⟨w.heap.size,1,none⟩=some (.int .i64 q)∧w'.cell? ⟨w.heap.size,2,none⟩=some (.int .i64 r)∧w'.cell? ⟨w.heap.size,3,none⟩=some (.int .i64 p)∧w'.cell? ⟨w.heap.size,4,none⟩=some (.int .i64 kk)∧w'.cell? ⟨w.heap.size,5,none⟩=some (.int .i64 cc))∧(w'.cell? ⟨b,off + k * 3,none⟩=some (.int .i64 x.t)∧w'.cell? ⟨b,off + k * 3 + 1,none⟩=some (.int .i64 x.a)∧w'.cell? ⟨b,off + k * 3 + 2,none⟩=some (.int .i64 x.m))∧(w'.cell? ⟨b,off + j * 3,none⟩=some (.int .i64 y.t)∧w'.cell? ⟨b,off + j * 3 + 1,none⟩=some (.int .i64 y.a)))) (by kernel_rfl) (KP.out _ (Below.refl _ _).drew) (fun hHeld=>?_)
            refine qT 0 34 ?_ rfl ?_ ?_
            rotate_left 1
            · intro w hSw
              try dsimp only at hSw
              go_simp
              try with_reducible rfl
            simp only [Act.put,qA,qB,qC];refine qT 1 35 ?_ rfl ?_ ?_
            rotate_left 1
            · intro w hSw
              try dsimp only at hSw
              go_simp
              try with_reducible rfl
            simp only [Act.put,qA,qB,qC];refine qT 2 36 ?_ rfl ?_ ?_
            rotate_left 1
            · intro w hSw
              try dsimp only at hSw
              go_simp
              try with_reducible rfl
            simp only [Act.put,qA,qB,qC];refine qT 3 37 ?_ rfl ?_ ?_
            rotate_left 1
            · intro w hSw
              try dsimp only at hSw
              go_simp
              try with_reducible rfl
            simp only [Act.put,qA,qB,qC];refine qT 4 38 ?_ rfl ?_ ?_
            rotate_left 1
            · intro w hSw
              try dsimp only at hSw
              go_simp
              try with_reducible rfl
            simp only [Act.put,qA,qB,qC];refine qT 5 39 ?_ rfl ?_ ?_
            rotate_left 1
            · intro w hSw
              try dsimp only at hSw
              go_simp
              try with_reducible rfl
            simp only [Act.put,qA,qB,qC];refine wpAnyH_ready (rs:=[6]) (by kernel_rfl) (by simp) ?_
            refine AllReadyH.cons rfl (fun K hK=>?_) AllReadyH.nil
            go_simp
            go_wp2_with (go_at_call 131; refine (refone_calls ⟨n,q,r,p,kk,cc⟩ who x _).mono ?_; rw [Hv.out]; rintro ee wo ⟨rfl,hb2⟩; have hS1:=held_next hHeld.1 hb2)
            refine hK.out _ _ (KP.out _ hS1) (fun hHeld2=>?_)
            clear hHeld hK K;have hHeld:=hHeld2;clear hHeld2 hb2 hS1;refine qT 7 41 ?_ rfl ?_ ?_
            rotate_left 1
            · intro w hSw
              try dsimp only at hSw
              go_simp
              try with_reducible rfl
            simp only [Act.put,qA,qB,qC];refine qT 8 42 ?_ rfl ?_ ?_
            rotate_left 1
            · intro w hSw
              try dsimp only at hSw
              go_simp
              try with_reducible rfl
            simp only [Act.put,qA,qB,qC];refine qT 9 43 ?_ rfl ?_ ?_
            rotate_left 1
            · intro w hSw
              try dsimp only at hSw
              go_simp
              try with_reducible rfl
            simp only [Act.put,qA,qB,qC];refine qT 10 44 ?_ rfl ?_ ?_
            rotate_left 1
            · intro w hSw
              try dsimp only at hSw
              go_simp
              try simp only [s5,s6]
              try with_reducible rfl
            simp only [Act.put,qA,qB,qC];refine qT 11 45 ?_ rfl ?_ ?_
            rotate_left 1
            · intro w hSw
              try dsimp only at hSw
              go_simp
              try with_reducible rfl
            simp only [Act.put,qA,qB,qC];refine qT 12 46 ?_ rfl ?_ ?_
            rotate_left 1
            · intro w hSw
              try dsimp only at hSw
              go_simp
              try with_reducible rfl
            simp only [Act.put,qA,qB,qC];refine qT 13 47 ?_ rfl ?_ ?_
            rotate_left 1
            · intro w hSw
              try dsimp only at hSw
              go_simp
              try with_reducible rfl
            simp only [Act.put,qA,qB,qC];refine qT 14 48 ?_ rfl ?_ ?_
            rotate_left 1
            · intro w hSw
              try dsimp only at hSw
              go_simp
              try with_reducible rfl
            simp only [Act.put,qA,qB,qC];refine qT 15 49 ?_ rfl ?_ ?_
            rotate_left 1
            · intro w hSw
              try dsimp only at hSw
              go_simp
              try with_reducible rfl
            simp only [Act.put,qA,qB,qC];refine qT 16 50 ?_ rfl ?_ ?_
            rotate_left 1
            · intro w hSw
              try dsimp only at hSw
              go_simp
              try with_reducible rfl
            simp only [Act.put,qA,qB,qC];refine qT 17 51 ?_ rfl ?_ ?_
            rotate_left 1
            · intro w hSw
              try dsimp only at hSw
              go_simp
              try with_reducible rfl
            simp only [Act.put,qA,qB,qC];refine qT 18 52 ?_ rfl ?_ ?_
            rotate_left 1
            · intro w hSw
              try dsimp only at hSw
              go_simp
              try with_reducible rfl
            simp only [Act.put,qA,qB,qC];refine qT 19 53 ?_ rfl ?_ ?_
            rotate_left 1
            · intro w hSw
              try dsimp only at hSw
              go_simp
              try with_reducible rfl
            simp only [Act.put,qA,qB,qC];refine qT 20 54 ?_ rfl ?_ ?_
            rotate_left 1
            · intro w hSw
              try dsimp only at hSw
              go_simp
              try with_reducible rfl
            simp only [Act.put,qA,qB,qC];refine qT 21 55 ?_ rfl ?_ ?_
            rotate_left 1
            · intro w hSw
              try dsimp only at hSw
              go_simp
              try with_reducible rfl
            simp only [Act.put,qA,qB,qC];refine qT 22 56 ?_ rfl ?_ ?_
            rotate_left 1
            · intro w hSw
              try dsimp only at hSw
              go_simp
              try with_reducible rfl
            simp only [Act.put,qA,qB,qC];refine wpAnyH_ready (rs:=[23]) (by kernel_rfl) (by simp) ?_
            refine AllReadyH.cons rfl (fun K hK=>?_) AllReadyH.nil
            go_simp
            go_wp2_with (go_at_call 129; refine (refolder_calls y.t y.a x.t x.a _).mono ?_; rw [Ho.out]; rintro ee wp ⟨rfl,hb2⟩; have hS1:=held_next hHeld.1 hb2)
            refine hK.out _ _ (KP.out _ hS1) (fun hHeld2=>?_)
            clear hHeld hK K;have hHeld:=hHeld2;clear hHeld2 hb2 hS1;refine qT 24 58 ?_ rfl ?_ ?_
            rotate_left 1
            · intro w hSw
              try dsimp only at hSw
              go_simp
              try with_reducible rfl
            simp only [Act.put,qA,qB,qC];refine qT 25 59 ?_ rfl ?_ ?_
            rotate_left 1
            · intro w hSw
              try dsimp only at hSw
              go_simp
              try with_reducible rfl
            simp only [Act.put,qA,qB,qC];refine qT 26 60 ?_ rfl ?_ ?_
            rotate_left 1
            · intro w hSw
              try dsimp only at hSw
              go_simp
              try with_reducible rfl
            simp only [Act.put,qA,qB,qC];refine wpAnyH_done (by kernel_rfl) ?_ _
            have HbN:=qH (held_next Hb.out hHeld.1);have HWN:=qH (HWr.out.later hHeld.1 HWr.out.lt);clear hHeld
            go_wp2_with fail
            go_roundw
            case rel=>exact ⟨k + 1,by omega,by go_num,(fun z hz=>by
             by_cases e:z=k
             · subst e; rw [Hx.out]; exact ⟨Hv.out,fun _=>by rw [show z - 1=j by have:=Hj.out; omega,Hy.out]; exact Ho.out⟩
             · exact Hl.out z (by omega)),HbN.out,HWN.out⟩
            case measure=>simp [intOf]; omega
    · obtain rfl:res=true:=Hres.out.symm.trans (lineB_yes ⟨cfB_ok Hok.out,⟨h1,h2⟩,by have:=Hm.out; show (l.length:Int)≤q; omega,fun i hi=>Hl.out i (by have:=Hm.out; omega)⟩)
      go_wp2_with fail
      go_ret
      exact ⟨by rfl,Hb.out⟩
end Go.Proofs.YtecjnkokdnmhlaaGreat
