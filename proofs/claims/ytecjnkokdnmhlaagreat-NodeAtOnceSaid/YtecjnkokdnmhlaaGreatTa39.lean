/- Parts, as far as NodeAtOnceCards reaches them, of: RefClaimMay. No law is proved here. -/
import Derived.Test.YtecjnkokdnmhlaaGreatTa37
namespace Go.Proofs.YtecjnkokdnmhlaaGreat
open Go.RowKit
set_option maxRecDepth 100000 in
set_option maxHeartbeats 8000000 in
theorem refclaimmay_calls (c:Cf) (who:Int) (a:Option Addr) (m cp:Nat) (l:List Nt) (hm:m=l.length) (w:World) (hB:Notes w (.slice a m cp) l) :
 Calls Tryz.prog 66 #[cfV c,.int .i64 who,.slice a m cp] w (Says w (notesB c who l)):=by
 have hbig:m≤9223372036854775807:=by rw [hm]; exact hB.big
 have HW:=qH (Whole.made w 23 (cfCells c));have Hb0:=qH (below_box w (.cells (cfCells c) 23));have HB:=qH hB; clear hB;have Hm:=qH hm; clear hm;obtain ⟨n,q,r,p,kk,cc⟩:=c;obtain ⟨res,Hres⟩:∃ z,Hid (notesB ⟨n,q,r,p,kk,cc⟩ who l=z):=⟨_,rfl⟩;have no:¬ notesOk ⟨n,q,r,p,kk,cc⟩ who l→res=false:=fun h=>Hres.out.symm.trans (notesB_no h)
 have No:=qH no; clear no;rw [Hres.out];obtain ⟨ok,Hok⟩:∃ z,Hid (cfB ⟨n,q,r,p,kk,cc⟩=z):=⟨_,rfl⟩
 go_enter Tryz.func66,Tryz.ntmps66
 go_wp2_with fail
 refine (refcfg_calls ⟨n,q,r,p,kk,cc⟩ _).mono ?_;rintro e w1 ⟨rfl,hb⟩;rw [Hok.out];have Hb1:=qH (held_next Hb0.out hb);have HW1:=qH (HW.out.later hb HW.out.lt);clear hb;obtain ⟨d0,d1,d2,d3,d4,d5⟩:=config_cells HW1.out;simp only at d0 d1 d2 d3 d4 d5
 cases ok with
 | false =>
   obtain rfl:res=false:=No.out fun h=>by
    have:=cfB_yes h.1;rw [Hok.out] at this
    cases this
   go_wp2_with fail
   go_ret
   exact ⟨rfl,Hb1.out⟩
 | true =>
   by_cases h1:who < 0
   · obtain rfl:res=false:=No.out fun h=>by have:=h.2.1.1; omega
     go_wp2_with fail
     go_ret
     exact ⟨by rfl,Hb1.out⟩
   by_cases h2:n≤who
   · obtain rfl:res=false:=No.out fun h=>by have:who < n:=h.2.1.2; omega
     go_wp2_with fail
     go_ret
     exact ⟨by rfl,Hb1.out⟩
   by_cases h3:(m:Int)=n
   · have hok:=cfB_ok Hok.out
     have hn16:n≤16:=hok.2.1;subst h3;have hwho1:0≤who:=by omega
     have hwho2:who < (m:Int):=by omega
     clear hok h1 h2
     go_wp2_with fail
     clear d0 d1 d2 d3 d4 d5
     go_loopw [7] (fun s7 wr=>∃ k:Nat,k≤m∧s7=.int .i64 k∧Hid (∀ i,i < k→noteB ⟨m,q,r,p,kk,cc⟩ i (ntAt l i)=true∧((i:Int)=who→ntAt l i=nt0))∧Hid (Below w.heap.size w wr)∧Hid (Whole wr w.heap.size 23 (cfCells ⟨m,q,r,p,kk,cc⟩))) (fun s7 _=>m - (intOf s7).toNat)
     case atStart=>exact ⟨0,Nat.zero_le _,rfl,fun z hz=>absurd hz (Nat.not_lt_zero _),Hb1.out,HW1.out⟩
     case round =>
      obtain ⟨k,hk,rfl,Hl,Hb,HWr⟩:=hrel;obtain ⟨d0,_,_,_,_,_⟩:=config_cells HWr.out;simp only at d0
      by_cases hlt:k < m
      · obtain ⟨b,off,rfl,hN⟩:=HB.out.at (i:=k) (by have:=Hm.out; omega)
        obtain ⟨x,Hx⟩:∃ z,Hid (ntAt l k=z):=⟨_,rfl⟩;rw [Hx.out] at hN;have HN:=qH hN; clear hN;obtain ⟨v,Hv⟩:∃ z,Hid (noteB ⟨m,q,r,p,kk,cc⟩ k x=z):=⟨_,rfl⟩;have k0:(0:Int)≤(k:Int):=by omega
        have k1:(k:Int) < (m:Int):=by omega
        cases v with
        | false =>
          obtain rfl:res=false:=No.out fun h=>by
           have:=(h.2.2.2 k (by have:=Hm.out; omega)).1
           rw [Hx.out,Hv.out] at this
           cases this
          have s1:True:=trivial
          have KP:Hid (∀ w',Below wr.heap.size wr w'→(fun w'=>Below wr.heap.size wr w'∧(w'.cell? ⟨w.heap.size,0,none⟩=some (.int .i64 (m:Int))∧w'.cell? ⟨w.heap.size,1,none⟩=some (.int .i64 q)∧w'.cell? ⟨w.heap.size,2,none⟩=some (.int .i64 r)∧w'.cell? ⟨w.heap.size,3,none⟩=some (.int .i64 p)∧w'.cell? ⟨w.heap.size,4,none⟩=some (.int .i64 kk)∧w'.cell? ⟨w.heap.size,5,none⟩=some (.int .i64 cc))∧(w'.cell? ⟨b,off + k * 7,none⟩=some (.int .i64 x.clk)∧w'.cell? ⟨b,off + k * 7 + 1,none⟩=some (.int .i64 x.t)∧w'.cell? ⟨b,off + k * 7 + 2,none⟩=some (.int .i64 x.a)∧w'.cell? ⟨b,off + k * 7 + 3,none⟩=some (.int .i64 x.m)∧w'.cell? ⟨b,off + k * 7 + 4,none⟩=some (.int .i64 x.asks)∧w'.cell? ⟨b,off + k * 7 + 5,none⟩=some (.int .i64 x.try_)∧w'.cell? ⟨b,off + k * 7 + 6,none⟩=some (.int .i64 x.ph))) w') :=
           fun w' h=>⟨h,config_cells (HWr.out.later h HWr.out.lt),HN.out.later (held_next Hb.out h)⟩
          go_wp2_with fail
          refine wp_region_held_drew (S:=(fun w'=>Below wr.heap.size wr w'∧(w'.cell? ⟨w.heap.size,0,none⟩=some (.int .i64 (m:Int))∧w'.cell? ⟨w.heap.size,1,none⟩=some (.int .i64 q)∧w'.cell? ⟨w.heap.size,2,none⟩=some (.int .i64 r)∧w'.cell? ⟨w.heap.size,3,none⟩=some (.int .i64 p)∧w'.cell? ⟨w.heap.size,4,none⟩=some (.int .i64 kk)∧w'.cell? ⟨w.heap.size,5,none⟩=some (.int .i64 cc))∧(w'.cell? ⟨b,off + k * 7,none⟩=some (.int .i64 x.clk)∧w'.cell? ⟨b,off + k * 7 + 1,none⟩=some (.int .i64 x.t)∧w'.cell? ⟨b,off + k * 7 + 2,none⟩=some (.int .i64 x.a)∧w'.cell? ⟨b,off + k * 7 + 3,none⟩=some (.int .i64 x.m)∧w'.cell? ⟨b,off + k * 7 + 4,none⟩=some (.int .i64 x.asks)∧w'.cell? ⟨b,off + k * 7 + 5,none⟩=some (.int .i64 x.try_)∧w'.cell? ⟨b,off + k * 7 + 6,none⟩=some (.int .i64 x.ph)))) (by kernel_rfl) (KP.out _ (Below.refl _ _).drew) (fun hHeld=>?_)
          refine qT 0 34 ?_ rfl ?_ ?_
          rotate_left 1
          · intro w hSw
            try dsimp only at hSw
            go_simp
            try with_reducible rfl
          simp only [Act.put,qA,qB,qC];refine qT 1 35 ?_ rfl ?_ ?_
          rotate_left 1
          · intro w hSw
            try dsimp only at hSw
            go_simp
            try with_reducible rfl
          simp only [Act.put,qA,qB,qC];refine qT 2 36 ?_ rfl ?_ ?_
          rotate_left 1
          · intro w hSw
            try dsimp only at hSw
            go_simp
            try with_reducible rfl
          simp only [Act.put,qA,qB,qC];refine qT 3 37 ?_ rfl ?_ ?_
          rotate_left 1
          · intro w hSw
            try dsimp only at hSw
            go_simp
            try with_reducible rfl
          simp only [Act.put,qA,qB,qC];refine qT 4 38 ?_ rfl ?_ ?_
          rotate_left 1
          · intro w hSw
            try dsimp only at hSw
            go_simp
            try with_reducible rfl
          simp only [Act.put,qA,qB,qC];refine qT 5 39 ?_ rfl ?_ ?_
          rotate_left 1
          · intro w hSw
            try dsimp only at hSw
            go_simp
            try with_reducible rfl
          simp only [Act.put,qA,qB,qC];refine wpAnyH_ready (rs:=[6]) (by kernel_rfl) (by simp) ?_
          refine AllReadyH.cons rfl (fun K hK=>?_) AllReadyH.nil
          go_simp
          go_wp2_with (go_at_call 64; refine (refnote_calls ⟨m,q,r,p,kk,cc⟩ k x _).mono ?_; rw [Hv.out]; rintro ee wo ⟨rfl,hb2⟩; have hS1:=held_next hHeld.1 hb2)
          refine hK.out _ _ (KP.out _ hS1) (fun hHeld2=>?_)
          clear hHeld hK K;have hHeld:=hHeld2;clear hHeld2;refine qT 7 41 ?_ rfl ?_ ?_
          rotate_left 1
          · intro w hSw
            try dsimp only at hSw
            go_simp
            try with_reducible rfl
          simp only [Act.put,qA,qB,qC];refine qT 8 42 ?_ rfl ?_ ?_
          rotate_left 1
          · intro w hSw
            try dsimp only at hSw
            go_simp
            try with_reducible rfl
          simp only [Act.put,qA,qB,qC];refine qS 9 43 rfl ?_;simp only [Act.put,qA,qB,qC];refine qS 10 44 rfl ?_;simp only [Act.put,qA,qB,qC];refine qS 11 45 rfl ?_;simp only [Act.put,qA,qB,qC];refine qS 12 46 rfl ?_;simp only [Act.put,qA,qB,qC];refine qS 13 47 rfl ?_;simp only [Act.put,qA,qB,qC];refine qS 14 48 rfl ?_;simp only [Act.put,qA,qB,qC];refine qS 15 49 rfl ?_;simp only [Act.put,qA,qB,qC]
          refine qS 16 50 rfl ?_;simp only [Act.put,qA,qB,qC];refine qS 17 51 rfl ?_;simp only [Act.put,qA,qB,qC];refine qS 18 52 rfl ?_;simp only [Act.put,qA,qB,qC];refine qS 19 53 rfl ?_;simp only [Act.put,qA,qB,qC];refine qT 20 54 ?_ rfl ?_ ?_
          rotate_left 1
          · intro w hSw
            try dsimp only at hSw
            go_simp
            try simp only [s1]
            try with_reducible rfl
          simp only [Act.put,qA,qB,qC];refine wpAnyH_done (by kernel_rfl) ?_ _
          have HbN:=qH (held_next Hb.out hHeld.1);have HWN:=qH (HWr.out.later hHeld.1 HWr.out.lt);clear hHeld
          go_wp2_with fail
          go_ret
          exact ⟨by rfl,HbN.out⟩
        | true =>
          by_cases hkw:(k:Int)=who
          · have s1:((k:Int) == who)=true:=beq_iff_eq.2 hkw
            have Hkw:=qH hkw; clear hkw;have hne:=fun w=>run_neq_nt w x nt0
            by_cases hx0:x=nt0
            · rw [decide_eq_true hx0] at hne
              have Hx0:=qH hx0; clear hx0
              have KP:Hid (∀ w',Below wr.heap.size wr w'→(fun w'=>Below wr.heap.size wr w'∧(w'.cell? ⟨w.heap.size,0,none⟩=some (.int .i64 (m:Int))∧w'.cell? ⟨w.heap.size,1,none⟩=some (.int .i64 q)∧w'.cell? ⟨w.heap.size,2,none⟩=some (.int .i64 r)∧w'.cell? ⟨w.heap.size,3,none⟩=some (.int .i64 p)∧w'.cell? ⟨w.heap.size,4,none⟩=some (.int .i64 kk)∧w'.cell? ⟨w.heap.size,5,none⟩=some (.int .i64 cc))∧(w'.cell? ⟨b,off + k * 7,none⟩=some (.int .i64 x.clk)∧w'.cell? ⟨b,off + k * 7 + 1,none⟩=some (.int .i64 x.t)∧w'.cell? ⟨b,off + k * 7 + 2,none⟩=some (.int .i64 x.a)∧w'.cell? ⟨b,off + k * 7 + 3,none⟩=some (.int .i64 x.m)∧w'.cell? ⟨b,off + k * 7 + 4,none⟩=some (.int .i64 x.asks)∧w'.cell? ⟨b,off + k * 7 + 5,none⟩=some (.int .i64 x.try_)∧w'.cell? ⟨b,off + k * 7 + 6,none⟩=some (.int .i64 x.ph))) w') :=
               fun w' h=>⟨h,config_cells (HWr.out.later h HWr.out.lt),HN.out.later (held_next Hb.out h)⟩
              go_wp2_with fail
              refine wp_region_held_drew (S:=(fun w'=>Below wr.heap.size wr w'∧(w'.cell? ⟨w.heap.size,0,none⟩=some (.int .i64 (m:Int))∧w'.cell? ⟨w.heap.size,1,none⟩=some (.int .i64 q)∧w'.cell? ⟨w.heap.size,2,none⟩=some (.int .i64 r)∧w'.cell? ⟨w.heap.size,3,none⟩=some (.int .i64 p)∧w'.cell? ⟨w.heap.size,4,none⟩=some (.int .i64 kk)∧w'.cell? ⟨w.heap.size,5,none⟩=some (.int .i64 cc))∧(w'.cell? ⟨b,off + k * 7,none⟩=some (.int .i64 x.clk)∧w'.cell? ⟨b,off + k * 7 + 1,none⟩=some (.int .i64 x.t)∧w'.cell? ⟨b,off + k * 7 + 2,none⟩=some (.int .i64 x.a)∧w'.cell? ⟨b,off + k * 7 + 3,none⟩=some (.int .i64 x.m)∧w'.cell? ⟨b,off + k * 7 + 4,none⟩=some (.int .i64 x.asks)∧w'.cell? ⟨b,off + k * 7 + 5,none⟩=some (.int .i64 x.try_)∧w'.cell? ⟨b,off + k * 7 + 6,none⟩=some (.int .i64 x.ph)))) (by kernel_rfl) (KP.out _ (Below.refl _ _).drew) (fun hHeld=>?_)
              refine qT 0 34 ?_ rfl ?_ ?_
              rotate_left 1
              · intro w hSw
                try dsimp only at hSw
                go_simp
                try with_reducible rfl
              simp only [Act.put,qA,qB,qC];refine qT 1 35 ?_ rfl ?_ ?_
              rotate_left 1
              · intro w hSw
                try dsimp only at hSw
                go_simp
                try with_reducible rfl
              simp only [Act.put,qA,qB,qC];refine qT 2 36 ?_ rfl ?_ ?_
              rotate_left 1
              · intro w hSw
                try dsimp only at hSw
                go_simp
                try with_reducible rfl
              simp only [Act.put,qA,qB,qC];refine qT 3 37 ?_ rfl ?_ ?_
              rotate_left 1
              · intro w hSw
                try dsimp only at hSw
                go_simp
                try with_reducible rfl
              simp only [Act.put,qA,qB,qC];refine qT 4 38 ?_ rfl ?_ ?_
              rotate_left 1
              · intro w hSw
                try dsimp only at hSw
                go_simp
                try with_reducible rfl
              simp only [Act.put,qA,qB,qC];refine qT 5 39 ?_ rfl ?_ ?_
              rotate_left 1
              · intro w hSw
                try dsimp only at hSw
                go_simp
                try with_reducible rfl
              simp only [Act.put,qA,qB,qC];refine wpAnyH_ready (rs:=[6]) (by kernel_rfl) (by simp) ?_
              refine AllReadyH.cons rfl (fun K hK=>?_) AllReadyH.nil
              go_simp
              go_wp2_with (go_at_call 64; refine (refnote_calls ⟨m,q,r,p,kk,cc⟩ k x _).mono ?_; rw [Hv.out]; rintro ee wo ⟨rfl,hb2⟩; have hS1:=held_next hHeld.1 hb2)
              refine hK.out _ _ (KP.out _ hS1) (fun hHeld2=>?_)
              clear hHeld hK K;have hHeld:=hHeld2;clear hHeld2;refine qT 7 41 ?_ rfl ?_ ?_
              rotate_left 1
              · intro w hSw
                try dsimp only at hSw
                go_simp
                try with_reducible rfl
              simp only [Act.put,qA,qB,qC];refine qT 8 42 ?_ rfl ?_ ?_
              rotate_left 1
              · intro w hSw
                try dsimp only at hSw
                go_simp
                try with_reducible rfl
              simp only [Act.put,qA,qB,qC];refine qT 9 43 ?_ rfl ?_ ?_
              rotate_left 1
              · intro w hSw
                try dsimp only at hSw
                go_simp
                try with_reducible rfl
              simp only [Act.put,qA,qB,qC];refine qT 10 44 ?_ rfl ?_ ?_
              rotate_left 1
              · intro w hSw
                try dsimp only at hSw
                go_simp
                try with_reducible rfl
              simp only [Act.put,qA,qB,qC];refine qT 11 45 ?_ rfl ?_ ?_
              rotate_left 1
              · intro w hSw
                try dsimp only at hSw
                go_simp
                try simp only [s1]
                try with_reducible rfl
              simp only [Act.put,qA,qB,qC];refine qT 12 46 ?_ rfl ?_ ?_
              rotate_left 1
              · intro w hSw
                try dsimp only at hSw
                go_simp
                try simp only [s1]
                try with_reducible rfl
              simp only [Act.put,qA,qB,qC];refine qT 13 47 ?_ rfl ?_ ?_
              rotate_left 1
              · intro w hSw
                try dsimp only at hSw
                go_simp
                try with_reducible rfl
              simp only [Act.put,qA,qB,qC];refine qT 14 48 ?_ rfl ?_ ?_
              rotate_left 1
              · intro w hSw
                try dsimp only at hSw
                go_simp
                try with_reducible rfl
              simp only [Act.put,qA,qB,qC];refine qT 15 49 ?_ rfl ?_ ?_
              rotate_left 1
              · intro w hSw
                try dsimp only at hSw
                go_simp
                try with_reducible rfl
              simp only [Act.put,qA,qB,qC];refine qT 16 50 ?_ rfl ?_ ?_
              rotate_left 1
              · intro w hSw
                try dsimp only at hSw
                go_simp
                try with_reducible rfl
              simp only [Act.put,qA,qB,qC];refine qT 17 51 ?_ rfl ?_ ?_
              rotate_left 1
              · intro w hSw
                try dsimp only at hSw
                go_simp
                try with_reducible rfl
              simp only [Act.put,qA,qB,qC];refine qT 18 52 ?_ rfl ?_ ?_
              rotate_left 1
              · intro w hSw
                try dsimp only at hSw
                go_simp
                try simp only [s1]
                try with_reducible rfl
              simp only [Act.put,qA,qB,qC];refine qT 19 53 ?_ rfl ?_ ?_
              rotate_left 1
              · intro w hSw
                try dsimp only at hSw
                go_simp
                try simp only [s1]
                try with_reducible rfl
              simp only [Act.put,qA,qB,qC];refine qT 20 54 ?_ rfl ?_ ?_
              rotate_left 1
              · intro w hSw
                try dsimp only at hSw
                go_simp
                try simp only [s1]
                try with_reducible rfl
              simp only [Act.put,qA,qB,qC];refine wpAnyH_done (by kernel_rfl) ?_ _
              have HbN:=qH (held_next Hb.out hHeld.1);have HWN:=qH (HWr.out.later hHeld.1 HWr.out.lt);clear hHeld
              go_wp2_with fail
              go_roundw
              case rel=>exact ⟨k + 1,by omega,by go_num,(fun z hz=>by
               by_cases e:z=k
               · subst e; rw [Hx.out]; exact ⟨Hv.out,fun _=>Hx0.out⟩
               · exact Hl.out z (by omega)),HbN.out,HWN.out⟩
              case measure=>simp [intOf]; omega
            · rw [decide_eq_false hx0] at hne
              obtain rfl:res=false:=No.out fun h=>hx0 (by have:=(h.2.2.2 k (by have:=Hm.out; omega)).2 Hkw.out; rwa [Hx.out] at this)
              clear hx0
              have KP:Hid (∀ w',Below wr.heap.size wr w'→(fun w'=>Below wr.heap.size wr w'∧(w'.cell? ⟨w.heap.size,0,none⟩=some (.int .i64 (m:Int))∧w'.cell? ⟨w.heap.size,1,none⟩=some (.int .i64 q)∧w'.cell? ⟨w.heap.size,2,none⟩=some (.int .i64 r)∧w'.cell? ⟨w.heap.size,3,none⟩=some (.int .i64 p)∧w'.cell? ⟨w.heap.size,4,none⟩=some (.int .i64 kk)∧w'.cell? ⟨w.heap.size,5,none⟩=some (.int .i64 cc))∧(w'.cell? ⟨b,off + k * 7,none⟩=some (.int .i64 x.clk)∧w'.cell? ⟨b,off + k * 7 + 1,none⟩=some (.int .i64 x.t)∧w'.cell? ⟨b,off + k * 7 + 2,none⟩=some (.int .i64 x.a)∧w'.cell? ⟨b,off + k * 7 + 3,none⟩=some (.int .i64 x.m)∧w'.cell? ⟨b,off + k * 7 + 4,none⟩=some (.int .i64 x.asks)∧w'.cell? ⟨b,off + k * 7 + 5,none⟩=some (.int .i64 x.try_)∧w'.cell? ⟨b,off + k * 7 + 6,none⟩=some (.int .i64 x.ph))) w') :=
               fun w' h=>⟨h,config_cells (HWr.out.later h HWr.out.lt),HN.out.later (held_next Hb.out h)⟩
              go_wp2_with fail
              refine wp_region_held_drew (S:=(fun w'=>Below wr.heap.size wr w'∧(w'.cell? ⟨w.heap.size,0,none⟩=some (.int .i64 (m:Int))∧w'.cell? ⟨w.heap.size,1,none⟩=some (.int .i64 q)∧w'.cell? ⟨w.heap.size,2,none⟩=some (.int .i64 r)∧w'.cell? ⟨w.heap.size,3,none⟩=some (.int .i64 p)∧w'.cell? ⟨w.heap.size,4,none⟩=some (.int .i64 kk)∧w'.cell? ⟨w.heap.size,5,none⟩=some (.int .i64 cc))∧(w'.cell? ⟨b,off + k * 7,none⟩=some (.int .i64 x.clk)∧w'.cell? ⟨b,off + k * 7 + 1,none⟩=some (.int .i64 x.t)∧w'.cell? ⟨b,off + k * 7 + 2,none⟩=some (.int .i64 x.a)∧w'.cell? ⟨b,off + k * 7 + 3,none⟩=some (.int .i64 x.m)∧w'.cell? ⟨b,off + k * 7 + 4,none⟩=some (.int .i64 x.asks)∧w'.cell? ⟨b,off + k * 7 + 5,none⟩=some (.int .i64 x.try_)∧w'.cell? ⟨b,off + k * 7 + 6,none⟩=some (.int .i64 x.ph)))) (by kernel_rfl) (KP.out _ (Below.refl _ _).drew) (fun hHeld=>?_)
              refine qT 0 34 ?_ rfl ?_ ?_
              rotate_left 1
              · intro w hSw
                try dsimp only at hSw
                go_simp
                try with_reducible rfl
              simp only [Act.put,qA,qB,qC];refine qT 1 35 ?_ rfl ?_ ?_
              rotate_left 1
              · intro w hSw
                try dsimp only at hSw
                go_simp
                try with_reducible rfl
              simp only [Act.put,qA,qB,qC];refine qT 2 36 ?_ rfl ?_ ?_
              rotate_left 1
              · intro w hSw
                try dsimp only at hSw
                go_simp
                try with_reducible rfl
              simp only [Act.put,qA,qB,qC];refine qT 3 37 ?_ rfl ?_ ?_
              rotate_left 1
              · intro w hSw
                try dsimp only at hSw
                go_simp
                try with_reducible rfl
              simp only [Act.put,qA,qB,qC];refine qT 4 38 ?_ rfl ?_ ?_
              rotate_left 1
              · intro w hSw
                try dsimp only at hSw
                go_simp
                try with_reducible rfl
              simp only [Act.put,qA,qB,qC];refine qT 5 39 ?_ rfl ?_ ?_
              rotate_left 1
              · intro w hSw
                try dsimp only at hSw
                go_simp
                try with_reducible rfl
              simp only [Act.put,qA,qB,qC];refine wpAnyH_ready (rs:=[6]) (by kernel_rfl) (by simp) ?_
              refine AllReadyH.cons rfl (fun K hK=>?_) AllReadyH.nil
              go_simp
              go_wp2_with (go_at_call 64; refine (refnote_calls ⟨m,q,r,p,kk,cc⟩ k x _).mono ?_; rw [Hv.out]; rintro ee wo ⟨rfl,hb2⟩; have hS1:=held_next hHeld.1 hb2)
              refine hK.out _ _ (KP.out _ hS1) (fun hHeld2=>?_)
              clear hHeld hK K;have hHeld:=hHeld2;clear hHeld2;refine qT 7 41 ?_ rfl ?_ ?_
              rotate_left 1
              · intro w hSw
                try dsimp only at hSw
                go_simp
                try with_reducible rfl
              simp only [Act.put,qA,qB,qC];refine qT 8 42 ?_ rfl ?_ ?_
              rotate_left 1
              · intro w hSw
                try dsimp only at hSw
                go_simp
                try with_reducible rfl
              simp only [Act.put,qA,qB,qC];refine qT 9 43 ?_ rfl ?_ ?_
              rotate_left 1
              · intro w hSw
                try dsimp only at hSw
                go_simp
                try with_reducible rfl
              simp only [Act.put,qA,qB,qC];refine qT 10 44 ?_ rfl ?_ ?_
              rotate_left 1
              · intro w hSw
                try dsimp only at hSw
                go_simp
                try with_reducible rfl
              simp only [Act.put,qA,qB,qC];refine qT 11 45 ?_ rfl ?_ ?_
              rotate_left 1
              · intro w hSw
                try dsimp only at hSw
                go_simp
                try simp only [s1]
                try with_reducible rfl
              simp only [Act.put,qA,qB,qC];refine qT 12 46 ?_ rfl ?_ ?_
              rotate_left 1
              · intro w hSw
                try dsimp only at hSw
                go_simp
                try simp only [s1]
                try with_reducible rfl
              simp only [Act.put,qA,qB,qC];refine qT 13 47 ?_ rfl ?_ ?_
              rotate_left 1
              · intro w hSw
                try dsimp only at hSw
                go_simp
                try with_reducible rfl
              simp only [Act.put,qA,qB,qC];refine qT 14 48 ?_ rfl ?_ ?_
              rotate_left 1
              · intro w hSw
                try dsimp only at hSw
                go_simp
                try with_reducible rfl
              simp only [Act.put,qA,qB,qC];refine qT 15 49 ?_ rfl ?_ ?_
              rotate_left 1
              · intro w hSw
                try dsimp only at hSw
                go_simp
                try with_reducible rfl
              simp only [Act.put,qA,qB,qC];refine qT 16 50 ?_ rfl ?_ ?_
              rotate_left 1
              · intro w hSw
                try dsimp only at hSw
                go_simp
                try with_reducible rfl
              simp only [Act.put,qA,qB,qC];refine qT 17 51 ?_ rfl ?_ ?_
              rotate_left 1
              · intro w hSw
                try dsimp only at hSw
                go_simp
                try with_reducible rfl
              simp only [Act.put,qA,qB,qC];refine qT 18 52 ?_ rfl ?_ ?_
              rotate_left 1
              · intro w hSw
                try dsimp only at hSw
                go_simp
                try simp only [s1]
                try with_reducible rfl
              simp only [Act.put,qA,qB,qC];refine qT 19 53 ?_ rfl ?_ ?_
              rotate_left 1
              · intro w hSw
                try dsimp only at hSw
                go_simp
                try simp only [s1]
                try with_reducible rfl
              simp only [Act.put,qA,qB,qC];refine qT 20 54 ?_ rfl ?_ ?_
              rotate_left 1
              · intro w hSw
                try dsimp only at hSw
                go_simp
                try simp only [s1]
                try with_reducible rfl
              simp only [Act.put,qA,qB,qC];refine wpAnyH_done (by kernel_rfl) ?_ _
              have HbN:=qH (held_next Hb.out hHeld.1);have HWN:=qH (HWr.out.later hHeld.1 HWr.out.lt);clear hHeld
              go_wp2_with fail
              go_ret
              exact ⟨by rfl,HbN.out⟩
          · have s1:((k:Int) == who)=false:=beq_eq_false_iff_ne.2 hkw
            have Hkw:=qH hkw; clear hkw
            have KP:Hid (∀ w',Below wr.heap.size wr w'→(fun w'=>Below wr.heap.size wr w'∧(w'.cell? ⟨w.heap.size,0,none⟩=some (.int .i64 (m:Int))∧w'.cell? ⟨w.heap.size,1,none⟩=some (.int .i64 q)∧w'.cell? ⟨w.heap.size,2,none⟩=some (.int .i64 r)∧w'.cell? ⟨w.heap.size,3,none⟩=some (.int .i64 p)∧w'.cell? ⟨w.heap.size,4,none⟩=some (.int .i64 kk)∧w'.cell? ⟨w.heap.size,5,none⟩=some (.int .i64 cc))∧(w'.cell? ⟨b,off + k * 7,none⟩=some (.int .i64 x.clk)∧w'.cell? ⟨b,off + k * 7 + 1,none⟩=some (.int .i64 x.t)∧w'.cell? ⟨b,off + k * 7 + 2,none⟩=some (.int .i64 x.a)∧w'.cell? ⟨b,off + k * 7 + 3,none⟩=some (.int .i64 x.m)∧w'.cell? ⟨b,off + k * 7 + 4,none⟩=some (.int .i64 x.asks)∧w'.cell? ⟨b,off + k * 7 + 5,none⟩=some (.int .i64 x.try_)∧w'.cell? ⟨b,off + k * 7 + 6,none⟩=some (.int .i64 x.ph))) w') :=
             fun w' h=>⟨h,config_cells (HWr.out.later h HWr.out.lt),HN.out.later (held_next Hb.out h)⟩
            go_wp2_with fail
            refine wp_region_held_drew (S:=(fun w'=>Below wr.heap.size wr w'∧(w'.cell? ⟨w.heap.size,0,none⟩=some (.int .i64 (m:Int))∧w'.cell? ⟨w.heap.size,1,none⟩=some (.int .i64 q)∧w'.cell? ⟨w.heap.size,2,none⟩=some (.int .i64 r)∧w'.cell? ⟨w.heap.size,3,none⟩=some (.int .i64 p)∧w'.cell? ⟨w.heap.size,4,none⟩=some (.int .i64 kk)∧w'.cell? ⟨w.heap.size,5,none⟩=some (.int .i64 cc))∧(w'.cell? ⟨b,off + k * 7,none⟩=some (.int .i64 x.clk)∧w'.cell? ⟨b,off + k * 7 + 1,none⟩=some (.int .i64 x.t)∧w'.cell? ⟨b,off + k * 7 + 2,none⟩=some (.int .i64 x.a)∧w'.cell? ⟨b,off + k * 7 + 3,none⟩=some (.int .i64 x.m)∧w'.cell? ⟨b,off + k * 7 + 4,none⟩=some (.int .i64 x.asks)∧w'.cell? ⟨b,off + k * 7 + 5,none⟩=some (.int .i64 x.try_)∧w'.cell? ⟨b,off + k * 7 + 6,none⟩=some (.int .i64 x.ph)))) (by kernel_rfl) (KP.out _ (Below.refl _ _).drew) (fun hHeld=>?_)
            refine qT 0 34 ?_ rfl ?_ ?_
            rotate_left 1
            · intro w hSw
              try dsimp only at hSw
              go_simp
              try with_reducible rfl
            simp only [Act.put,qA,qB,qC];refine qT 1 35 ?_ rfl ?_ ?_
            rotate_left 1
            · intro w hSw
              try dsimp only at hSw
              go_simp
              try with_reducible rfl
            simp only [Act.put,qA,qB,qC];refine qT 2 36 ?_ rfl ?_ ?_
            rotate_left 1
            · intro w hSw
              try dsimp only at hSw
              go_simp
              try with_reducible rfl
            simp only [Act.put,qA,qB,qC];refine qT 3 37 ?_ rfl ?_ ?_
            rotate_left 1
            · intro w hSw
              try dsimp only at hSw
              go_simp
              try with_reducible rfl
            simp only [Act.put,qA,qB,qC];refine qT 4 38 ?_ rfl ?_ ?_
            rotate_left 1
            · intro w hSw
              try dsimp only at hSw
              go_simp
              try with_reducible rfl
            simp only [Act.put,qA,qB,qC];refine qT 5 39 ?_ rfl ?_ ?_
            rotate_left 1
            · intro w hSw
              try dsimp only at hSw
              go_simp
              try with_reducible rfl
            simp only [Act.put,qA,qB,qC];refine wpAnyH_ready (rs:=[6]) (by kernel_rfl) (by simp) ?_
            refine AllReadyH.cons rfl (fun K hK=>?_) AllReadyH.nil
            go_simp
            go_wp2_with (go_at_call 64; refine (refnote_calls ⟨m,q,r,p,kk,cc⟩ k x _).mono ?_; rw [Hv.out]; rintro ee wo ⟨rfl,hb2⟩; have hS1:=held_next hHeld.1 hb2)
            refine hK.out _ _ (KP.out _ hS1) (fun hHeld2=>?_)
            clear hHeld hK K;have hHeld:=hHeld2;clear hHeld2;refine qT 7 41 ?_ rfl ?_ ?_
            rotate_left 1
            · intro w hSw
              try dsimp only at hSw
              go_simp
              try with_reducible rfl
            simp only [Act.put,qA,qB,qC];refine qT 8 42 ?_ rfl ?_ ?_
            rotate_left 1
            · intro w hSw
              try dsimp only at hSw
              go_simp
              try with_reducible rfl
            simp only [Act.put,qA,qB,qC];refine qT 9 43 ?_ rfl ?_ ?_
            rotate_left 1
            · intro w hSw
              try dsimp only at hSw
              go_simp
              try with_reducible rfl
            simp only [Act.put,qA,qB,qC];refine qT 10 44 ?_ rfl ?_ ?_
            rotate_left 1
            · intro w hSw
              try dsimp only at hSw
              go_simp
              try with_reducible rfl
            simp only [Act.put,qA,qB,qC];refine qT 11 45 ?_ rfl ?_ ?_
            rotate_left 1
            · intro w hSw
              try dsimp only at hSw
              go_simp
              try simp only [s1]
              try with_reducible rfl
            simp only [Act.put,qA,qB,qC];refine qT 12 46 ?_ rfl ?_ ?_
            rotate_left 1
            · intro w hSw
              try dsimp only at hSw
              go_simp
              try simp only [s1]
              try with_reducible rfl
            simp only [Act.put,qA,qB,qC];refine qS 13 47 rfl ?_;simp only [Act.put,qA,qB,qC];refine qS 14 48 rfl ?_;simp only [Act.put,qA,qB,qC];refine qS 15 49 rfl ?_;simp only [Act.put,qA,qB,qC];refine qS 16 50 rfl ?_;simp only [Act.put,qA,qB,qC];refine qS 17 51 rfl ?_;simp only [Act.put,qA,qB,qC];refine qS 18 52 rfl ?_;simp only [Act.put,qA,qB,qC];refine qT 19 53 ?_ rfl ?_ ?_
            rotate_left 1
            · intro w hSw
              try dsimp only at hSw
              go_simp
              try simp only [s1]
              try with_reducible rfl
            simp only [Act.put,qA,qB,qC];refine qT 20 54 ?_ rfl ?_ ?_
            rotate_left 1
            · intro w hSw
              try dsimp only at hSw
              go_simp
              try simp only [s1]
              try with_reducible rfl
            simp only [Act.put,qA,qB,qC];refine wpAnyH_done (by kernel_rfl) ?_ _
            have HbN:=qH (held_next Hb.out hHeld.1);have HWN:=qH (HWr.out.later hHeld.1 HWr.out.lt);clear hHeld
            go_wp2_with fail
            go_roundw
            case rel=>exact ⟨k + 1,by omega,by go_num,(fun z hz=>by
             by_cases e:z=k
             · subst e; rw [Hx.out]; exact ⟨Hv.out,fun h0=>absurd h0 (by exact Hkw.out)⟩
             · exact Hl.out z (by omega)),HbN.out,HWN.out⟩
            case measure=>simp [intOf]; omega
      · obtain rfl:res=true:=Hres.out.symm.trans (decide_eq_true ⟨cfB_ok Hok.out,⟨hwho1,hwho2⟩,by rw [← Hm.out],fun i hi=>Hl.out i (by have:=Hm.out; omega)⟩)
        go_wp2_with fail
        go_ret
        exact ⟨by rfl,Hb.out⟩
   · obtain rfl:res=false:=No.out fun h=>h3 (by have:=h.2.2.1; rw [Hm.out]; exact this)
     have h3':((m:Int) != n)=true:=bne_iff_ne.2 h3;clear h3
     go_wp2_with fail
     go_ret
     exact ⟨by rfl,Hb1.out⟩
end Go.Proofs.YtecjnkokdnmhlaaGreat
