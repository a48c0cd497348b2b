/- Parts, as far as NodeAtOnceCards reaches them, of: NodePass. No law is proved here. -/
import Derived.Test.YtecjnkokdnmhlaaGreatTa32
import Derived.Test.YtecjnkokdnmhlaaGreatTa33
import Derived.Test.YtecjnkokdnmhlaaGreatTa34
namespace Go.Proofs.YtecjnkokdnmhlaaGreat
open Go.RowKit
theorem wait_small (p t:Int) (d:Nat):waitV p t d≤1000:=by
 have h1:=waitV_le p t d;have h2:=boundW_le p t
 omega
set_option maxRecDepth 100000 in
set_option maxHeartbeats 8000000 in
theorem pass18_calls {n0 g:Nat} {E:Nat→Prop} {c:Cf} {who:Int} {x:Nd} {p:Nl} {code:Int} {W:World} (h:St n0 E W g c who x p code) (P:MlP) (hP:∀ V A C,P V A 0 C []) (draw:Nat) (hdr:draw < 4294967296) (hok:code=0→nodeOk c who x) (htk:0≤x.tk∧x.tk≤1125899906842624) (ha:x.asked.length≤1000)
 (hwr:∀ (y:Nd) (q:Nl) (cd:Int) (V:World),St n0 E V g c who y q cd→(cd=0→IK c who y.bk)→Calls Tryz.prog 125 #[.pointer (some ⟨g,0,none⟩)] V (WroteTo P n0 E g c who q V y cd)) :
 Calls Tryz.prog 61 #[.pointer (some ⟨g,0,none⟩),.int .u32 draw] W (PassTo P n0 E g c who p W x code draw):=by
 have hlt:=h.lt;have HS:=qH h;have HP:=qH hP;have Hdr:=qH hdr;have Hok0:=qH hok;have Htk:=qH htk;have Ha:=qH ha;have HWR:=qH hwr;clear h hP hdr hok htk ha hwr;have z12:W.cell? ⟨g,12,none⟩=some (.int .i64 x.tk):=HS.out.ob.cell 12
 by_cases hr:1125899906842624≤x.tk
 · go_enter Tryz.func61,Tryz.ntmps61
   go_wp2_with fail
   refine (stop_calls HS.out 6).mono ?_;rintro e W1 ⟨rfl,hS1,hK1⟩;have HS1:=qH hS1;have HK1:=qH hK1;clear hS1 hK1 z12;obtain ⟨k1,Hk1⟩:∃ z,Hid ((if code=0 then 6 else code)=z):=⟨_,rfl⟩
   rw [Hk1.out] at HS1;have hk1:k1 ≠ 0:=by rw [← Hk1.out]; split <;> omega
   have hb0:0≤x.tk:=Htk.out.1;have hb1:x.tk≤1125899906842624:=Htk.out.2;have hlt1:=HS1.out.lt;have q12:=HS1.out.ob.cell 12;have y12:=HS1.out.ob.free 12;have hM:=HS1.out.tk (x.tk + 1);have q14:(W1.setCell ⟨g,12,none⟩ (.int .i64 (x.tk + 1))).cell? ⟨g,14,none⟩=some (.slice p.a p.m p.c):=hM.1.ob.cell 14;have HS2:=qH hM.1;have HK2:=qH (HK1.out.trans hM.2);clear hM
   go_wp2_with fail
   clear q12 y12 q14 hlt1;obtain ⟨W2,HW2⟩:∃ z,Hid (W1.setCell ⟨g,12,none⟩ (.int .i64 (x.tk + 1))=z):=⟨_,rfl⟩;rw [HW2.out] at HS2 HK2;rw [HW2.out];obtain ⟨la,Hla⟩:∃ z,Hid (keepN x.asked 0=z):=⟨_,rfl⟩;obtain ⟨LA,HLA⟩:∃ z,Hid (la.length=z):=⟨_,rfl⟩
   have OK:Hid (Calls Tryz.prog 94 #[.slice p.a p.m p.c,.int .i64 0] W2 (GaveNF W2 la)):=qH (by
    have h1:=nKeep_far p.a p.m p.c x.asked 0 HS2.out.inn.2.2.2.2.1 (by have h2:p.m=x.asked.length:=HS2.out.inn.2.2.2.2.1; have:=Ha.out; omega) W2 HS2.out.inn.2.2.2.2.2
    rw [Hla.out] at h1
    exact h1)
   refine OK.out.mono ?_;rintro e W3 ⟨A3,C3,rfl,_,hb3,hs3⟩;have HS3:=qH (HS2.out.later hb3);have HK3:=qH (HK2.out.next hb3);have hM:=HS3.out.asked (A:=A3) (C:=C3) (l:=la) (HS2.out.stay hs3);rw [HLA.out] at hM ⊢;have HS4:=qH hM.1;have HK4:=qH (HK3.out.trans hM.2);have hlt3:=HS3.out.lt;have q14:=HS3.out.ob.cell 14;have y14:=HS3.out.ob.free 14;clear hM hb3 hs3 OK
   go_wp2_with fail
   clear q14 y14 hlt3;obtain ⟨W4,HW4⟩:∃ z,Hid (W3.setCell ⟨g,14,none⟩ (.slice A3 LA C3)=z):=⟨_,rfl⟩;rw [HW4.out] at HS4 HK4;rw [HW4.out];obtain ⟨b5,Hb5⟩:∃ z,Hid (decide (k1 ≠ 0)=z):=⟨_,rfl⟩
   have O5:Hid (∀ w',Below W4.heap.size W4 w'→Calls Tryz.prog 79 #[.pointer (some ⟨g,0,none⟩)] w' (Says w' b5)):=fun w' hb=>by
    have h1:=stopped_calls (HS4.out.later hb);rw [Hb5.out] at h1
    exact h1.mono fun e w2 ⟨a1,a2⟩=>⟨a1,by rw [← a2]; exact Below.refl _ _⟩
   have KP5:Hid (∀ w',Below W4.heap.size W4 w'→(Below W4.heap.size W4 w'∧w'.cell? ⟨g,12,none⟩=some (.int .i64 (x.tk + 1))∧w'.cell? ⟨g,13,none⟩=some (.int .i64 x.nx))):=fun w' hb=>⟨hb,(HS4.out.later hb).ob.cell 12,(HS4.out.later hb).ob.cell 13⟩
   obtain rfl:b5=true:=Hb5.out.symm.trans (decide_eq_true hk1);refine wp_region_held_drew (S:=(fun w'=>Below W4.heap.size W4 w'∧w'.cell? ⟨g,12,none⟩=some (.int .i64 (x.tk + 1))∧w'.cell? ⟨g,13,none⟩=some (.int .i64 x.nx))) (by kernel_rfl) (KP5.out _ (Below.refl _ _).drew) (fun hHeld=>?_)
   refine qT 0 33 ?_ rfl ?_ ?_
   rotate_left 1
   · intro w hSw
     try dsimp only at hSw
     go_simp
     try with_reducible rfl
   simp only [Act.put,qA,qB,qC];refine wpAnyH_ready (rs:=[1]) (by kernel_rfl) (by simp) ?_
   refine AllReadyH.cons rfl (fun K hK=>?_) AllReadyH.nil
   go_simp
   go_wp2_with (go_at_call 79; refine (O5.out _ hHeld.1).mono ?_; rintro ee wn ⟨rfl,hb⟩; have hS1:=held_next hHeld.1 hb)
   refine hK.out _ _ (KP5.out _ hS1) (fun hHeld2=>?_)
   clear hHeld hK K;have hHeld:=hHeld2;clear hHeld2;refine qT 2 35 ?_ rfl ?_ ?_
   rotate_left 1
   · intro w hSw
     try dsimp only at hSw
     go_simp
     try with_reducible rfl
   simp only [Act.put,qA,qB,qC];refine qS 3 36 rfl ?_;simp only [Act.put,qA,qB,qC];refine qS 4 37 rfl ?_;simp only [Act.put,qA,qB,qC];refine qS 5 38 rfl ?_;simp only [Act.put,qA,qB,qC];refine qS 6 39 rfl ?_;simp only [Act.put,qA,qB,qC];refine qS 7 40 rfl ?_;simp only [Act.put,qA,qB,qC];refine qS 8 41 rfl ?_;simp only [Act.put,qA,qB,qC];refine qS 9 42 rfl ?_;simp only [Act.put,qA,qB,qC];refine qS 10 43 rfl ?_
   simp only [Act.put,qA,qB,qC];refine qS 11 44 rfl ?_;simp only [Act.put,qA,qB,qC];refine qS 12 45 rfl ?_;simp only [Act.put,qA,qB,qC];refine qS 13 46 rfl ?_;simp only [Act.put,qA,qB,qC];refine qT 14 47 ?_ rfl ?_ ?_
   rotate_left 1
   · intro w hSw
     try dsimp only at hSw
     go_simp
     try with_reducible rfl
   simp only [Act.put,qA,qB,qC];refine wpAnyH_done (by kernel_rfl) ?_ _
   have HS5:=qH (HS4.out.later hHeld.1);have HK5:=qH (HK4.out.next hHeld.1);clear hHeld
   go_wp2_with fail
   refine bodyPost_ret (v:=.slice none 0 0) (by simp [results,Tryz.results61,go_sem]) rfl ⟨none,0,0,_,_,k1,rfl,HS5.out,HK5.out,fun h=>⟨by rw [← Hk1.out,if_neg h],rfl⟩,fun h=>?_⟩
   have ht:tickNd c who x draw=(x,[],6):=by unfold tickNd; rw [if_pos (Hok0.out h),if_pos hr]
   rw [ht];rw [if_pos h] at Hk1
   exact ⟨Hk1.out.symm,fun h6=>absurd h6 hk1,rfl,fun V _=>HP.out V none 0⟩
 · have HS1:=HS
   have HK1:Hid (Kept g p p W W):=Kept.refl _ _ _;obtain ⟨W1,HW1⟩:∃ z,z=W:=⟨_,rfl⟩;subst HW1;clear z12
   go_enter Tryz.func61,Tryz.ntmps61
   have hb0:0≤x.tk:=Htk.out.1;have hb1:x.tk≤1125899906842624:=Htk.out.2;have hlt1:=HS1.out.lt;have q12:=HS1.out.ob.cell 12;have y12:=HS1.out.ob.free 12;have hM:=HS1.out.tk (x.tk + 1);have q14:(W1.setCell ⟨g,12,none⟩ (.int .i64 (x.tk + 1))).cell? ⟨g,14,none⟩=some (.slice p.a p.m p.c):=hM.1.ob.cell 14;have HS2:=qH hM.1;have HK2:=qH (HK1.out.trans hM.2);clear hM
   go_wp2_with fail
   clear q12 y12 q14 hlt1;obtain ⟨W2,HW2⟩:∃ z,Hid (W1.setCell ⟨g,12,none⟩ (.int .i64 (x.tk + 1))=z):=⟨_,rfl⟩;rw [HW2.out] at HS2 HK2;rw [HW2.out];obtain ⟨la,Hla⟩:∃ z,Hid (keepN x.asked 0=z):=⟨_,rfl⟩;obtain ⟨LA,HLA⟩:∃ z,Hid (la.length=z):=⟨_,rfl⟩
   have OK:Hid (Calls Tryz.prog 94 #[.slice p.a p.m p.c,.int .i64 0] W2 (GaveNF W2 la)):=qH (by
    have h1:=nKeep_far p.a p.m p.c x.asked 0 HS2.out.inn.2.2.2.2.1 (by have h2:p.m=x.asked.length:=HS2.out.inn.2.2.2.2.1; have:=Ha.out; omega) W2 HS2.out.inn.2.2.2.2.2
    rw [Hla.out] at h1
    exact h1)
   refine OK.out.mono ?_;rintro e W3 ⟨A3,C3,rfl,_,hb3,hs3⟩;have HS3:=qH (HS2.out.later hb3);have HK3:=qH (HK2.out.next hb3);have hM:=HS3.out.asked (A:=A3) (C:=C3) (l:=la) (HS2.out.stay hs3);rw [HLA.out] at hM ⊢;have HS4:=qH hM.1;have HK4:=qH (HK3.out.trans hM.2);have hlt3:=HS3.out.lt;have q14:=HS3.out.ob.cell 14;have y14:=HS3.out.ob.free 14;clear hM hb3 hs3 OK
   go_wp2_with fail
   clear q14 y14 hlt3;obtain ⟨W4,HW4⟩:∃ z,Hid (W3.setCell ⟨g,14,none⟩ (.slice A3 LA C3)=z):=⟨_,rfl⟩;rw [HW4.out] at HS4 HK4;rw [HW4.out];obtain ⟨b5,Hb5⟩:∃ z,Hid (decide (code ≠ 0)=z):=⟨_,rfl⟩
   have O5:Hid (∀ w',Below W4.heap.size W4 w'→Calls Tryz.prog 79 #[.pointer (some ⟨g,0,none⟩)] w' (Says w' b5)):=fun w' hb=>by
    have h1:=stopped_calls (HS4.out.later hb);rw [Hb5.out] at h1
    exact h1.mono fun e w2 ⟨a1,a2⟩=>⟨a1,by rw [← a2]; exact Below.refl _ _⟩
   have KP5:Hid (∀ w',Below W4.heap.size W4 w'→(Below W4.heap.size W4 w'∧w'.cell? ⟨g,12,none⟩=some (.int .i64 (x.tk + 1))∧w'.cell? ⟨g,13,none⟩=some (.int .i64 x.nx))):=fun w' hb=>⟨hb,(HS4.out.later hb).ob.cell 12,(HS4.out.later hb).ob.cell 13⟩
   by_cases hc:code=0
   rotate_left 1
   · obtain rfl:b5=true:=Hb5.out.symm.trans (decide_eq_true hc)
     refine wp_region_held_drew (S:=(fun w'=>Below W4.heap.size W4 w'∧w'.cell? ⟨g,12,none⟩=some (.int .i64 (x.tk + 1))∧w'.cell? ⟨g,13,none⟩=some (.int .i64 x.nx))) (by kernel_rfl) (KP5.out _ (Below.refl _ _).drew) (fun hHeld=>?_)
     refine qT 0 33 ?_ rfl ?_ ?_
     rotate_left 1
     · intro w hSw
       try dsimp only at hSw
       go_simp
       try with_reducible rfl
     simp only [Act.put,qA,qB,qC];refine wpAnyH_ready (rs:=[1]) (by kernel_rfl) (by simp) ?_
     refine AllReadyH.cons rfl (fun K hK=>?_) AllReadyH.nil
     go_simp
     go_wp2_with (go_at_call 79; refine (O5.out _ hHeld.1).mono ?_; rintro ee wn ⟨rfl,hb⟩; have hS1:=held_next hHeld.1 hb)
     refine hK.out _ _ (KP5.out _ hS1) (fun hHeld2=>?_)
     clear hHeld hK K;have hHeld:=hHeld2;clear hHeld2;refine qT 2 35 ?_ rfl ?_ ?_
     rotate_left 1
     · intro w hSw
       try dsimp only at hSw
       go_simp
       try with_reducible rfl
     simp only [Act.put,qA,qB,qC];refine qS 3 36 rfl ?_;simp only [Act.put,qA,qB,qC];refine qS 4 37 rfl ?_;simp only [Act.put,qA,qB,qC];refine qS 5 38 rfl ?_;simp only [Act.put,qA,qB,qC];refine qS 6 39 rfl ?_;simp only [Act.put,qA,qB,qC];refine qS 7 40 rfl ?_;simp only [Act.put,qA,qB,qC];refine qS 8 41 rfl ?_;simp only [Act.put,qA,qB,qC];refine qS 9 42 rfl ?_;simp only [Act.put,qA,qB,qC];refine qS 10 43 rfl ?_
     simp only [Act.put,qA,qB,qC];refine qS 11 44 rfl ?_;simp only [Act.put,qA,qB,qC];refine qS 12 45 rfl ?_;simp only [Act.put,qA,qB,qC];refine qS 13 46 rfl ?_;simp only [Act.put,qA,qB,qC];refine qT 14 47 ?_ rfl ?_ ?_
     rotate_left 1
     · intro w hSw
       try dsimp only at hSw
       go_simp
       try with_reducible rfl
     simp only [Act.put,qA,qB,qC];refine wpAnyH_done (by kernel_rfl) ?_ _
     have HS5:=qH (HS4.out.later hHeld.1);have HK5:=qH (HK4.out.next hHeld.1);clear hHeld
     go_wp2_with fail
     exact bodyPost_ret (v:=.slice none 0 0) (by simp [results,Tryz.results61,go_sem]) rfl ⟨none,0,0,_,_,code,rfl,HS5.out,HK5.out,fun _=>⟨rfl,rfl⟩,fun h=>absurd h hc⟩
   obtain rfl:b5=false:=Hb5.out.symm.trans (decide_eq_false fun h=>h hc)
   have hok:=Hok0.out hc;have Hok:=qH hok;clear hok
   by_cases h2:x.tk + 1 < x.nx
   · have s1:decide (x.tk + 1 < x.nx)=true:=decide_eq_true h2
     refine wp_region_held_drew (S:=(fun w'=>Below W4.heap.size W4 w'∧w'.cell? ⟨g,12,none⟩=some (.int .i64 (x.tk + 1))∧w'.cell? ⟨g,13,none⟩=some (.int .i64 x.nx))) (by kernel_rfl) (KP5.out _ (Below.refl _ _).drew) (fun hHeld=>?_)
     refine qT 0 33 ?_ rfl ?_ ?_
     rotate_left 1
     · intro w hSw
       try dsimp only at hSw
       go_simp
       try with_reducible rfl
     simp only [Act.put,qA,qB,qC];refine wpAnyH_ready (rs:=[1]) (by kernel_rfl) (by simp) ?_
     refine AllReadyH.cons rfl (fun K hK=>?_) AllReadyH.nil
     go_simp
     go_wp2_with (go_at_call 79; refine (O5.out _ hHeld.1).mono ?_; rintro ee wn ⟨rfl,hb⟩; have hS1:=held_next hHeld.1 hb)
     refine hK.out _ _ (KP5.out _ hS1) (fun hHeld2=>?_)
     clear hHeld hK K;have hHeld:=hHeld2;clear hHeld2;refine qT 2 35 ?_ rfl ?_ ?_
     rotate_left 1
     · intro w hSw
       try dsimp only at hSw
       go_simp
       try with_reducible rfl
     simp only [Act.put,qA,qB,qC];refine qT 3 36 ?_ rfl ?_ ?_
     rotate_left 1
     · intro w hSw
       try dsimp only at hSw
       go_simp
       try with_reducible rfl
     simp only [Act.put,qA,qB,qC];refine qT 4 37 ?_ rfl ?_ ?_
     rotate_left 1
     · intro w hSw
       try dsimp only at hSw
       go_simp
       try with_reducible rfl
     simp only [Act.put,qA,qB,qC];refine qT 5 38 ?_ rfl ?_ ?_
     rotate_left 1
     · intro w hSw
       try dsimp only at hSw
       go_simp
       try with_reducible rfl
     simp only [Act.put,qA,qB,qC];refine qT 6 39 ?_ rfl ?_ ?_
     rotate_left 1
     · intro w hSw
       try dsimp only at hSw
       go_simp
       try with_reducible rfl
     simp only [Act.put,qA,qB,qC];refine qT 7 40 ?_ rfl ?_ ?_
     rotate_left 1
     · intro w hSw
       try dsimp only at hSw
       go_simp
       try with_reducible rfl
     simp only [Act.put,qA,qB,qC];refine qT 8 41 ?_ rfl ?_ ?_
     rotate_left 1
     · intro w hSw
       try dsimp only at hSw
       go_simp
       try with_reducible rfl
     simp only [Act.put,qA,qB,qC];refine qT 9 42 ?_ rfl ?_ ?_
     rotate_left 1
     · intro w hSw
       try dsimp only at hSw
       go_simp
       try with_reducible rfl
     simp only [Act.put,qA,qB,qC];refine qT 10 43 ?_ rfl ?_ ?_
     rotate_left 1
     · intro w hSw
       try dsimp only at hSw
       go_simp
       try with_reducible rfl
     simp only [Act.put,qA,qB,qC];refine qT 11 44 ?_ rfl ?_ ?_
     rotate_left 1
     · intro w hSw
       try dsimp only at hSw
       go_simp
       try with_reducible rfl
     simp only [Act.put,qA,qB,qC];refine qT 12 45 ?_ rfl ?_ ?_
     rotate_left 1
     · intro w hSw
       try dsimp only at hSw
       go_simp
       try with_reducible rfl
     simp only [Act.put,qA,qB,qC];refine qT 13 46 ?_ rfl ?_ ?_
     rotate_left 1
     · intro w hSw
       try dsimp only at hSw
       go_simp
       try simp only [s1]
       try with_reducible rfl
     simp only [Act.put,qA,qB,qC];refine qT 14 47 ?_ rfl ?_ ?_
     rotate_left 1
     · intro w hSw
       try dsimp only at hSw
       go_simp
       try with_reducible rfl
     simp only [Act.put,qA,qB,qC];refine wpAnyH_done (by kernel_rfl) ?_ _
     have HS5:=qH (HS4.out.later hHeld.1);have HK5:=qH (HK4.out.next hHeld.1);clear hHeld
     go_wp2_with fail
     refine bodyPost_ret (v:=.slice none 0 0) (by simp [results,Tryz.results61,go_sem]) rfl ⟨none,0,0,_,_,code,rfl,HS5.out,HK5.out,fun _=>⟨rfl,rfl⟩,fun h=>?_⟩
     have ht:tickNd c who x draw=(⟨x.bk,x.tk + 1,x.nx,keepN x.asked 0⟩,[],0):=by unfold tickNd; rw [if_pos Hok.out,if_neg (show ¬ 1125899906842624≤x.tk by omega),if_pos h2]
     rw [ht]
     exact ⟨h,fun _=>by rw [Hla.out],rfl,fun V _=>HP.out V none 0⟩
   have s1:decide (x.tk + 1 < x.nx)=false:=decide_eq_false h2;have H1:=qH hr;have H2:=qH h2;subst hc;refine wp_region_held_drew (S:=(fun w'=>Below W4.heap.size W4 w'∧w'.cell? ⟨g,12,none⟩=some (.int .i64 (x.tk + 1))∧w'.cell? ⟨g,13,none⟩=some (.int .i64 x.nx))) (by kernel_rfl) (KP5.out _ (Below.refl _ _).drew) (fun hHeld=>?_)
   refine qT 0 33 ?_ rfl ?_ ?_
   rotate_left 1
   · intro w hSw
     try dsimp only at hSw
     go_simp
     try with_reducible rfl
   simp only [Act.put,qA,qB,qC];refine wpAnyH_ready (rs:=[1]) (by kernel_rfl) (by simp) ?_
   refine AllReadyH.cons rfl (fun K hK=>?_) AllReadyH.nil
   go_simp
   go_wp2_with (go_at_call 79; refine (O5.out _ hHeld.1).mono ?_; rintro ee wn ⟨rfl,hb⟩; have hS1:=held_next hHeld.1 hb)
   refine hK.out _ _ (KP5.out _ hS1) (fun hHeld2=>?_)
   clear hHeld hK K;have hHeld:=hHeld2;clear hHeld2;refine qT 2 35 ?_ rfl ?_ ?_
   rotate_left 1
   · intro w hSw
     try dsimp only at hSw
     go_simp
     try with_reducible rfl
   simp only [Act.put,qA,qB,qC];refine qT 3 36 ?_ rfl ?_ ?_
   rotate_left 1
   · intro w hSw
     try dsimp only at hSw
     go_simp
     try with_reducible rfl
   simp only [Act.put,qA,qB,qC];refine qT 4 37 ?_ rfl ?_ ?_
   rotate_left 1
   · intro w hSw
     try dsimp only at hSw
     go_simp
     try with_reducible rfl
   simp only [Act.put,qA,qB,qC];refine qT 5 38 ?_ rfl ?_ ?_
   rotate_left 1
   · intro w hSw
     try dsimp only at hSw
     go_simp
     try with_reducible rfl
   simp only [Act.put,qA,qB,qC];refine qT 6 39 ?_ rfl ?_ ?_
   rotate_left 1
   · intro w hSw
     try dsimp only at hSw
     go_simp
     try with_reducible rfl
   simp only [Act.put,qA,qB,qC];refine qT 7 40 ?_ rfl ?_ ?_
   rotate_left 1
   · intro w hSw
     try dsimp only at hSw
     go_simp
     try with_reducible rfl
   simp only [Act.put,qA,qB,qC];refine qT 8 41 ?_ rfl ?_ ?_
   rotate_left 1
   · intro w hSw
     try dsimp only at hSw
     go_simp
     try with_reducible rfl
   simp only [Act.put,qA,qB,qC];refine qT 9 42 ?_ rfl ?_ ?_
   rotate_left 1
   · intro w hSw
     try dsimp only at hSw
     go_simp
     try with_reducible rfl
   simp only [Act.put,qA,qB,qC];refine qT 10 43 ?_ rfl ?_ ?_
   rotate_left 1
   · intro w hSw
     try dsimp only at hSw
     go_simp
     try with_reducible rfl
   simp only [Act.put,qA,qB,qC];refine qT 11 44 ?_ rfl ?_ ?_
   rotate_left 1
   · intro w hSw
     try dsimp only at hSw
     go_simp
     try with_reducible rfl
   simp only [Act.put,qA,qB,qC];refine qT 12 45 ?_ rfl ?_ ?_
   rotate_left 1
   · intro w hSw
     try dsimp only at hSw
     go_simp
     try with_reducible rfl
   simp only [Act.put,qA,qB,qC];refine qT 13 46 ?_ rfl ?_ ?_
   rotate_left 1
   · intro w hSw
     try dsimp only at hSw
     go_simp
     try simp only [s1]
     try with_reducible rfl
   simp only [Act.put,qA,qB,qC];refine qT 14 47 ?_ rfl ?_ ?_
   rotate_left 1
   · intro w hSw
     try dsimp only at hSw
     go_simp
     try with_reducible rfl
   simp only [Act.put,qA,qB,qC];refine wpAnyH_done (by kernel_rfl) ?_ _
   have HS5:=qH (HS4.out.later hHeld.1);have HK5:=qH (HK4.out.next hHeld.1);clear hHeld;clear s1 O5 KP5 HS1 HK1 HS2 HK2 HS3 HK3 HS4 HK4;have OA:=qH (ask18_calls HS5.out rfl (show IK c who (clearK x.bk) from IK.clear Hok.out.1))
   obtain ⟨code6,Hcd6⟩:∃ z,Hid ((askK c who x.bk).2=z):=⟨_,rfl⟩;obtain ⟨x6,Hx6⟩:∃ z,Hid (bkN ⟨x.bk,x.tk + 1,x.nx,la⟩ (askK c who x.bk).1=z):=⟨_,rfl⟩;rw [show bkN (⟨x.bk,x.tk + 1,x.nx,la⟩:Nd) (askK c who (⟨x.bk,x.tk + 1,x.nx,la⟩:Nd).bk).1=x6 from Hx6.out,show (askK c who (⟨x.bk,x.tk + 1,x.nx,la⟩:Nd).bk).2=code6 from Hcd6.out] at OA
   go_wp2_with fail
   refine OA.out.mono ?_;rintro e W6 ⟨rfl,p6,hS6,hK6⟩;have HS6:=qH hS6;have HK6:=qH (HK5.out.trans hK6);clear hS6 hK6 OA;have hfw:x6.bk.notes.length≤1000:=by rw [← Hx6.out]; show (askK c who x.bk).1.notes.length≤1000; rw [ask_notes]; exact (IK.of_book Hok.out.1).few.2.2
   have OF:=qH (free18_calls HS6.out hfw);obtain ⟨fr,Hq⟩:∃ z,Hid (quietB c who x6.bk=z):=⟨_,rfl⟩;rw [Hq.out] at OF
   go_wp2_with fail
   refine OF.out.mono ?_;rintro e W6' ⟨rfl,hb6⟩;have HS6':=qH (HS6.out.later hb6);have HK6':=qH (HK6.out.next hb6);clear HS6 HK6 hb6 OF hfw;have HS6:=HS6';have HK6:=HK6';clear HS6' HK6';obtain ⟨W6,HW6⟩:∃ z,z=W6':=⟨_,rfl⟩;subst HW6
   cases fr with
   | false =>
     obtain ⟨x7,Hx7⟩:∃ z,Hid (bkN ⟨x.bk,x.tk + 1,x.nx,la⟩ (givesK c who (keepN x.asked 0) (askK c who x.bk).1)=z):=⟨_,rfl⟩
     have h67:x6=x7:=by
      rw [← Hx7.out,← Hx6.out]
      unfold givesK
      rw [if_neg (show ¬ quietB c who (askK c who x.bk).1=true by have h9:=Hq.out; rw [← Hx6.out] at h9; intro h; exact Bool.noConfusion (h9.symm.trans h))]
     have HS7:=HS6;rw [h67] at HS7;have HK7:=HK6;obtain ⟨p7,Hp7⟩:∃ z,z=p6:=⟨_,rfl⟩;subst Hp7;obtain ⟨W7,HW7⟩:∃ z,z=W6:=⟨_,rfl⟩;subst HW7;clear HS6 HK6 h67
     -- from W7: x7,p7,code6
     have HD:Hid (code6=0→IK c who (clearK x7.bk)):=qH fun h=>by rw [← Hx7.out]; exact IK.due Hok.out (Hcd6.out.trans h)
     obtain ⟨x8,Hx8⟩:∃ z,Hid ((if code6=0 then bkN x7 (settleK c who (clearK x7.bk)) else x7)=z):=⟨_,rfl⟩
     have OS:=qH (settle18_calls HS7.out HD.out);rw [Hx8.out] at OS
     go_wp2_with fail
     refine OS.out.mono ?_;rintro e W8 ⟨rfl,p8,hS8,hK8⟩;have HS8:=qH hS8;have HK8:=qH (HK7.out.trans hK8);clear hS8 hK8 OS
     have hx8 : ∀ k : Bk, bkN x8 k = ⟨k, x.tk + 1, x.nx, la⟩ := fun k => by rw [← Hx8.out]; by_cases h : code6 = 0
                                                                            · rw [if_pos h,← Hx7.out]
                                                                            · rw [if_neg h,← Hx7.out]
     have Hx8b:=qH hx8;clear hx8;have Hx8d:Hid (code6=0→x8.bk=dueK c who x):=qH fun h=>by rw [← Hx8.out,if_pos h,← Hx7.out]; unfold dueK; rw [Hla.out]
     have OW:=qH (HWR.out x8 p8 code6 W8 HS8.out (fun h=>by rw [Hx8d.out h]; exact (IK.due Hok.out (Hcd6.out.trans h)).settle))
     go_wp2_with fail
     refine OW.out.mono ?_;rintro e W9 ⟨A,m,C,k9,p9,cd9,rfl,hS9,hK9,hn9,hm9,hy9⟩;rw [Hx8b.out] at hS9;have HS9:=qH hS9;have HK9:=qH (HK8.out.trans hK9);have Hn9:=qH hn9;have Hm9:=qH hm9;have Hy9:Hid (code6=0→(writeK who (dueK c who x) c.n.toNat=none→cd9=6)∧∀ k1 l,writeK who (dueK c who x) c.n.toNat=some (k1,l)→cd9=0∧k9=k1∧m=l.length∧Stay (Mine n0 E g p9) W9 (fun V=>P V A m C l)):=qH fun h=>by rw [← Hx8d.out h]; exact hy9 h
     clear hS9 hK9 hn9 hm9 hy9 OW;obtain ⟨wv,Hwv⟩:∃ z:Int,Hid (((waitV c.p k9.asks draw:Nat):Int)=z):=⟨_,rfl⟩;have hwv:0≤wv∧wv≤1000:=by rw [← Hwv.out]; have h1:waitV c.p k9.asks draw≤1000:=wait_small c.p k9.asks draw; omega
     have hwv0:=hwv.1;have hwv1:=hwv.2;clear hwv
     have HWt:Hid (∀ w',Below W9.heap.size W9 w'→Calls Tryz.prog 126 #[.int .i64 c.p,.int .i64 k9.asks,.int .u32 draw] w' (fun e w2=>e=.returned (.int .i64 wv)∧Below w'.heap.size w' w2)):=fun w' _=>by
      have h1:=wWait_calls c.p k9.asks draw Hdr.out w';rw [Hwv.out] at h1
      exact h1
     have hlt9:=HS9.out.lt;have hn0:n0≤W9.heap.size:=by have:=HS9.out.le; omega
     obtain ⟨tk1,Htk1⟩:∃ z,Hid (x.tk + 1=z):=⟨_,rfl⟩;have htk0:0≤tk1:=by have:=Htk.out.1; have:=Htk1.out; omega
     have htk1:tk1≤1125899906842625:=by have:=Htk.out.2; have:=Htk1.out; omega
     rw [Htk1.out] at HS9;have hwrap:IntKind.i64.wrap (tk1 + wv)=tk1 + wv:=IntWalk.i64_in _ (by omega)
     go_wp2_with fail
     refine wp_region_each_at ?hm ?hb (fun a0 d a' w'=>∃ (e0 e1 e2 e3 e4 e5 e6 e7 e8 e9 e10 e11 e12 e13 e14 e15 e16 e17 e18 e19 e20 e21:Value),a'=putAll a0 [(76,e0),(77,e1),(78,e2),(79,e3),(80,e4),(81,e5),(82,e6),(83,e7),(84,e8),(85,e9),(86,e10),(87,e11),(88,e12),(89,e13),(90,e14),(91,e15),(92,e16),(93,e17),(94,e18),(95,e19),(96,e20),(97,e21)]∧Below n0 W9 w'∧(d 0=true→e0=(.pointer (some ⟨g,0,none⟩)))∧(d 1=true→e1=(.pointer (some ⟨g,0,none⟩)))∧(d 2=true→e2=(.pointer (some ⟨g,0,none⟩)))∧(d 3=true→e3=(.pointer (some ⟨g,12,none⟩)))∧(d 4=true→e4=(.pointer (some ⟨g,12,none⟩)))∧(d 5=true→e5=(.int .i64 tk1))∧(d 6=true→e6=(.pointer (some ⟨g,0,none⟩)))∧(d 7=true→e7=(.pointer (some ⟨g,0,none⟩)))∧(d 8=true→e8=(.pointer (some ⟨g,15,none⟩)))∧(d 9=true→e9=(.pointer (some ⟨g,18,none⟩)))∧(d 10=true→e10=(.int .i64 c.p))∧(d 11=true→e11=(.pointer (some ⟨g,0,none⟩)))∧(d 12=true→e12=(.pointer (some ⟨g,0,none⟩)))∧(d 13=true→e13=(.pointer (some ⟨g,0,none⟩)))∧(d 14=true→e14=(.pointer (some ⟨g,4,none⟩)))∧(d 15=true→e15=(.int .i64 k9.asks))∧(d 16=true→e16=(.int .u32 draw))∧(d 17=true→(d 10=true∧d 15=true∧e17=(.int .i64 wv)))∧(d 18=true→(d 5=true∧d 17=true∧e18=(.int .i64 (tk1 + wv))))∧(d 19=true→e19=(.pointer (some ⟨g,0,none⟩)))∧(d 20=true→e20=(.pointer (some ⟨g,12,none⟩)))∧(d 21=true→e21=(.pointer (some ⟨g,13,none⟩)))∧(d 22=true→(d 18=true∧St n0 E w' g c who ⟨k9,tk1,tk1 + wv,la⟩ p9 cd9∧Kept g p9 p9 W9 w'))∧(d 22=false→Below W9.heap.size W9 w')) ?h0 ?step ?ends
     case hm=>kernel_rfl
     case hb=>kernel_rfl
     case h0 =>
      refine ⟨undef,undef,undef,undef,undef,undef,undef,undef,undef,undef,undef,undef,undef,undef,undef,undef,undef,undef,undef,undef,undef,undef,?_,(Below.refl _ _).drew,fun h=>absurd h (by decide),fun h=>absurd h (by decide),fun h=>absurd h (by decide),fun h=>absurd h (by decide),fun h=>absurd h (by decide),fun h=>absurd h (by decide),fun h=>absurd h (by decide),fun h=>absurd h (by decide),fun h=>absurd h (by decide),fun h=>absurd h (by decide),fun h=>absurd h (by decide),fun h=>absurd h (by decide),fun h=>absurd h (by decide),fun h=>absurd h (by decide),fun h=>absurd h (by decide),fun h=>absurd h (by decide),fun h=>absurd h (by decide),fun h=>absurd h (by decide),fun h=>absurd h (by decide),fun h=>absurd h (by decide),fun h=>absurd h (by decide),fun h=>absurd h (by decide),fun h=>absurd h (by decide),fun _=>(Below.refl _ _).drew⟩
      simp only [putAll,Act.put,qA,qB,qC]
     case step =>
      intro i d a' w' hi hJ hd hk;obtain ⟨e0,e1,e2,e3,e4,e5,e6,e7,e8,e9,e10,e11,e12,e13,e14,e15,e16,e17,e18,e19,e20,e21,rfl,hC⟩:=hJ;obtain ⟨hB,hC⟩:=hC;obtain ⟨c0,hC⟩:=hC;obtain ⟨c1,hC⟩:=hC;obtain ⟨c2,hC⟩:=hC;obtain ⟨c3,hC⟩:=hC;obtain ⟨c4,hC⟩:=hC;obtain ⟨c5,hC⟩:=hC;obtain ⟨c6,hC⟩:=hC;obtain ⟨c7,hC⟩:=hC;obtain ⟨c8,hC⟩:=hC;obtain ⟨c9,hC⟩:=hC;obtain ⟨c10,hC⟩:=hC;obtain ⟨c11,hC⟩:=hC;obtain ⟨c12,hC⟩:=hC
      obtain ⟨c13,hC⟩:=hC;obtain ⟨c14,hC⟩:=hC;obtain ⟨c15,hC⟩:=hC;obtain ⟨c16,hC⟩:=hC;obtain ⟨c17,hC⟩:=hC;obtain ⟨c18,hC⟩:=hC;obtain ⟨c19,hC⟩:=hC;obtain ⟨c20,hC⟩:=hC;obtain ⟨c21,hC⟩:=hC;obtain ⟨c22,hC⟩:=hC;have cb:=hC;clear hC;have Xc0:=qH c0; clear c0;have Xc1:=qH c1; clear c1;have Xc2:=qH c2; clear c2;have Xc3:=qH c3; clear c3;have Xc4:=qH c4; clear c4;have Xc5:=qH c5; clear c5;have Xc6:=qH c6; clear c6
      have Xc7:=qH c7; clear c7;have Xc8:=qH c8; clear c8;have Xc9:=qH c9; clear c9;have Xc10:=qH c10; clear c10;have Xc11:=qH c11; clear c11;have Xc12:=qH c12; clear c12;have Xc13:=qH c13; clear c13;have Xc14:=qH c14; clear c14;have Xc15:=qH c15; clear c15;have Xc16:=qH c16; clear c16;have Xc17:=qH c17; clear c17;have Xc18:=qH c18; clear c18;have Xc19:=qH c19; clear c19;have Xc20:=qH c20; clear c20
      have Xc21:=qH c21; clear c21;have Xc22:=qH c22; clear c22;have Xcb:=qH cb; clear cb
      match i,hi,hd,hk with
      | 0, _, hd, hk =>
        apply wpOp_at
        case ho=>rfl
        intro K hK;simp only [putAll,Act.put,qA,qB,qC];go_simp;refine hK _ _ ⟨(.pointer (some ⟨g,0,none⟩)),_,_,_,_,_,_,_,_,_,_,_,_,_,_,_,_,_,_,_,_,_,?_,hB,fun _=>rfl,Xc1,Xc2,Xc3,Xc4,Xc5,Xc6,Xc7,Xc8,Xc9,Xc10,Xc11,Xc12,Xc13,Xc14,Xc15,Xc16,Xc17,Xc18,Xc19,Xc20,Xc21,Xc22,Xcb⟩
        simp only [putAll,Act.put,qA,qB,qC]
      | 1, _, hd, hk =>
        apply wpOp_at
        case ho=>rfl
        intro K hK;simp only [putAll,Act.put,qA,qB,qC];go_simp;refine hK _ _ ⟨_,(.pointer (some ⟨g,0,none⟩)),_,_,_,_,_,_,_,_,_,_,_,_,_,_,_,_,_,_,_,_,?_,hB,Xc0,fun _=>rfl,Xc2,Xc3,Xc4,Xc5,Xc6,Xc7,Xc8,Xc9,Xc10,Xc11,Xc12,Xc13,Xc14,Xc15,Xc16,Xc17,Xc18,Xc19,Xc20,Xc21,Xc22,Xcb⟩
        simp only [putAll,Act.put,qA,qB,qC]
      | 2, _, hd, hk =>
        have h1:=hk 1 (by decide +kernel)
        have c1:=Xc1.out;obtain rfl:=c1 h1;clear c1;apply wpOp_at
        case ho=>rfl
        intro K hK;simp only [putAll,Act.put,qA,qB,qC];go_simp;refine hK _ _ ⟨_,(.pointer (some ⟨g,0,none⟩)),(.pointer (some ⟨g,0,none⟩)),_,_,_,_,_,_,_,_,_,_,_,_,_,_,_,_,_,_,_,?_,hB,Xc0,Xc1,fun _=>rfl,Xc3,Xc4,Xc5,Xc6,Xc7,Xc8,Xc9,Xc10,Xc11,Xc12,Xc13,Xc14,Xc15,Xc16,Xc17,Xc18,Xc19,Xc20,Xc21,Xc22,Xcb⟩
        simp only [putAll,Act.put,qA,qB,qC]
      | 3, _, hd, hk =>
        have h2:=hk 2 (by decide +kernel)
        have c2:=Xc2.out;obtain rfl:=c2 h2;clear c2;apply wpOp_at
        case ho=>rfl
        intro K hK;simp only [putAll,Act.put,qA,qB,qC];go_simp;refine hK _ _ ⟨_,_,(.pointer (some ⟨g,0,none⟩)),(.pointer (some ⟨g,12,none⟩)),_,_,_,_,_,_,_,_,_,_,_,_,_,_,_,_,_,_,?_,hB,Xc0,Xc1,Xc2,fun _=>rfl,Xc4,Xc5,Xc6,Xc7,Xc8,Xc9,Xc10,Xc11,Xc12,Xc13,Xc14,Xc15,Xc16,Xc17,Xc18,Xc19,Xc20,Xc21,Xc22,Xcb⟩
        simp only [putAll,Act.put,qA,qB,qC]
      | 4, _, hd, hk =>
        have h3:=hk 3 (by decide +kernel)
        have c3:=Xc3.out;obtain rfl:=c3 h3;clear c3;apply wpOp_at
        case ho=>rfl
        intro K hK;simp only [putAll,Act.put,qA,qB,qC];go_simp;refine hK _ _ ⟨_,_,_,(.pointer (some ⟨g,12,none⟩)),(.pointer (some ⟨g,12,none⟩)),_,_,_,_,_,_,_,_,_,_,_,_,_,_,_,_,_,?_,hB,Xc0,Xc1,Xc2,Xc3,fun _=>rfl,Xc5,Xc6,Xc7,Xc8,Xc9,Xc10,Xc11,Xc12,Xc13,Xc14,Xc15,Xc16,Xc17,Xc18,Xc19,Xc20,Xc21,Xc22,Xcb⟩
        simp only [putAll,Act.put,qA,qB,qC]
      | 5, _, hd, hk =>
        have h4:=hk 4 (by decide +kernel)
        have c4:=Xc4.out;have c18:=Xc18.out;have c22:=Xc22.out;have cb:=Xcb.out;obtain rfl:=c4 h4;have hd22:d 22=false:=by cases h:d 22 with | false=>rfl | true=>exact Bool.noConfusion (hd.symm.trans (c18 (c22 h).1).1)
        have hB9:=cb hd22;have z12:w'.cell? ⟨g,12,none⟩=some (.int .i64 tk1):=(HS9.out.later hB9).ob.cell 12;clear c4 c18 c22 cb;apply wpOp_at
        case ho=>rfl
        intro K hK;simp only [putAll,Act.put,qA,qB,qC];go_simp;have c18:=Xc18.out;refine hK _ _ ⟨_,_,_,_,(.pointer (some ⟨g,12,none⟩)),(.int .i64 tk1),_,_,_,_,_,_,_,_,_,_,_,_,e18,_,_,_,?_,hB,Xc0,Xc1,Xc2,Xc3,Xc4,fun _=>rfl,Xc6,Xc7,Xc8,Xc9,Xc10,Xc11,Xc12,Xc13,Xc14,Xc15,Xc16,Xc17,fun h=>Bool.noConfusion (hd.symm.trans (c18 h).1),Xc19,Xc20,Xc21,Xc22,Xcb⟩
        simp only [putAll,Act.put,qA,qB,qC]
      | 6, _, hd, hk =>
        apply wpOp_at
        case ho=>rfl
        intro K hK;simp only [putAll,Act.put,qA,qB,qC];go_simp;refine hK _ _ ⟨_,_,_,_,_,_,(.pointer (some ⟨g,0,none⟩)),_,_,_,_,_,_,_,_,_,_,_,_,_,_,_,?_,hB,Xc0,Xc1,Xc2,Xc3,Xc4,Xc5,fun _=>rfl,Xc7,Xc8,Xc9,Xc10,Xc11,Xc12,Xc13,Xc14,Xc15,Xc16,Xc17,Xc18,Xc19,Xc20,Xc21,Xc22,Xcb⟩
        simp only [putAll,Act.put,qA,qB,qC]
      | 7, _, hd, hk =>
        have h6:=hk 6 (by decide +kernel)
        have c6:=Xc6.out;obtain rfl:=c6 h6;clear c6;apply wpOp_at
        case ho=>rfl
        intro K hK;simp only [putAll,Act.put,qA,qB,qC];go_simp;refine hK _ _ ⟨_,_,_,_,_,_,(.pointer (some ⟨g,0,none⟩)),(.pointer (some ⟨g,0,none⟩)),_,_,_,_,_,_,_,_,_,_,_,_,_,_,?_,hB,Xc0,Xc1,Xc2,Xc3,Xc4,Xc5,Xc6,fun _=>rfl,Xc8,Xc9,Xc10,Xc11,Xc12,Xc13,Xc14,Xc15,Xc16,Xc17,Xc18,Xc19,Xc20,Xc21,Xc22,Xcb⟩
        simp only [putAll,Act.put,qA,qB,qC]
      | 8, _, hd, hk =>
        have h7:=hk 7 (by decide +kernel)
        have c7:=Xc7.out;obtain rfl:=c7 h7;clear c7;apply wpOp_at
        case ho=>rfl
        intro K hK;simp only [putAll,Act.put,qA,qB,qC];go_simp;refine hK _ _ ⟨_,_,_,_,_,_,_,(.pointer (some ⟨g,0,none⟩)),(.pointer (some ⟨g,15,none⟩)),_,_,_,_,_,_,_,_,_,_,_,_,_,?_,hB,Xc0,Xc1,Xc2,Xc3,Xc4,Xc5,Xc6,Xc7,fun _=>rfl,Xc9,Xc10,Xc11,Xc12,Xc13,Xc14,Xc15,Xc16,Xc17,Xc18,Xc19,Xc20,Xc21,Xc22,Xcb⟩
        simp only [putAll,Act.put,qA,qB,qC]
      | 9, _, hd, hk =>
        have h8:=hk 8 (by decide +kernel)
        have c8:=Xc8.out;obtain rfl:=c8 h8;clear c8;apply wpOp_at
        case ho=>rfl
        intro K hK;simp only [putAll,Act.put,qA,qB,qC];go_simp;refine hK _ _ ⟨_,_,_,_,_,_,_,_,(.pointer (some ⟨g,15,none⟩)),(.pointer (some ⟨g,18,none⟩)),_,_,_,_,_,_,_,_,_,_,_,_,?_,hB,Xc0,Xc1,Xc2,Xc3,Xc4,Xc5,Xc6,Xc7,Xc8,fun _=>rfl,Xc10,Xc11,Xc12,Xc13,Xc14,Xc15,Xc16,Xc17,Xc18,Xc19,Xc20,Xc21,Xc22,Xcb⟩
        simp only [putAll,Act.put,qA,qB,qC]
      | 10, _, hd, hk =>
        have h9:=hk 9 (by decide +kernel)
        have c9:=Xc9.out;have c17:=Xc17.out;have c18:=Xc18.out;have c22:=Xc22.out;have cb:=Xcb.out;obtain rfl:=c9 h9;have hd22:d 22=false:=by cases h:d 22 with | false=>rfl | true=>exact Bool.noConfusion (hd.symm.trans (c17 (c18 (c22 h).1).2.1).1)
        have hB9:=cb hd22;have z18:w'.cell? ⟨g,18,none⟩=some (.int .i64 c.p):=(HS9.out.later hB9).ob.cell 18;clear c9 c17 c18 c22 cb;apply wpOp_at
        case ho=>rfl
        intro K hK;simp only [putAll,Act.put,qA,qB,qC];go_simp;have c17:=Xc17.out;refine hK _ _ ⟨_,_,_,_,_,_,_,_,_,(.pointer (some ⟨g,18,none⟩)),(.int .i64 c.p),_,_,_,_,_,_,e17,_,_,_,_,?_,hB,Xc0,Xc1,Xc2,Xc3,Xc4,Xc5,Xc6,Xc7,Xc8,Xc9,fun _=>rfl,Xc11,Xc12,Xc13,Xc14,Xc15,Xc16,fun h=>Bool.noConfusion (hd.symm.trans (c17 h).1),Xc18,Xc19,Xc20,Xc21,Xc22,Xcb⟩
        simp only [putAll,Act.put,qA,qB,qC]
      | 11, _, hd, hk =>
        apply wpOp_at
        case ho=>rfl
        intro K hK;simp only [putAll,Act.put,qA,qB,qC];go_simp;refine hK _ _ ⟨_,_,_,_,_,_,_,_,_,_,_,(.pointer (some ⟨g,0,none⟩)),_,_,_,_,_,_,_,_,_,_,?_,hB,Xc0,Xc1,Xc2,Xc3,Xc4,Xc5,Xc6,Xc7,Xc8,Xc9,Xc10,fun _=>rfl,Xc12,Xc13,Xc14,Xc15,Xc16,Xc17,Xc18,Xc19,Xc20,Xc21,Xc22,Xcb⟩
        simp only [putAll,Act.put,qA,qB,qC]
      | 12, _, hd, hk =>
        have h11:=hk 11 (by decide +kernel)
        have c11:=Xc11.out;obtain rfl:=c11 h11;clear c11;apply wpOp_at
        case ho=>rfl
        intro K hK;simp only [putAll,Act.put,qA,qB,qC];go_simp;refine hK _ _ ⟨_,_,_,_,_,_,_,_,_,_,_,(.pointer (some ⟨g,0,none⟩)),(.pointer (some ⟨g,0,none⟩)),_,_,_,_,_,_,_,_,_,?_,hB,Xc0,Xc1,Xc2,Xc3,Xc4,Xc5,Xc6,Xc7,Xc8,Xc9,Xc10,Xc11,fun _=>rfl,Xc13,Xc14,Xc15,Xc16,Xc17,Xc18,Xc19,Xc20,Xc21,Xc22,Xcb⟩
        simp only [putAll,Act.put,qA,qB,qC]
      | 13, _, hd, hk =>
        have h12:=hk 12 (by decide +kernel)
        have c12:=Xc12.out;obtain rfl:=c12 h12;clear c12;apply wpOp_at
        case ho=>rfl
        intro K hK;simp only [putAll,Act.put,qA,qB,qC];go_simp;refine hK _ _ ⟨_,_,_,_,_,_,_,_,_,_,_,_,(.pointer (some ⟨g,0,none⟩)),(.pointer (some ⟨g,0,none⟩)),_,_,_,_,_,_,_,_,?_,hB,Xc0,Xc1,Xc2,Xc3,Xc4,Xc5,Xc6,Xc7,Xc8,Xc9,Xc10,Xc11,Xc12,fun _=>rfl,Xc14,Xc15,Xc16,Xc17,Xc18,Xc19,Xc20,Xc21,Xc22,Xcb⟩
        simp only [putAll,Act.put,qA,qB,qC]
      | 14, _, hd, hk =>
        have h13:=hk 13 (by decide +kernel)
        have c13:=Xc13.out;obtain rfl:=c13 h13;clear c13;apply wpOp_at
        case ho=>rfl
        intro K hK;simp only [putAll,Act.put,qA,qB,qC];go_simp;refine hK _ _ ⟨_,_,_,_,_,_,_,_,_,_,_,_,_,(.pointer (some ⟨g,0,none⟩)),(.pointer (some ⟨g,4,none⟩)),_,_,_,_,_,_,_,?_,hB,Xc0,Xc1,Xc2,Xc3,Xc4,Xc5,Xc6,Xc7,Xc8,Xc9,Xc10,Xc11,Xc12,Xc13,fun _=>rfl,Xc15,Xc16,Xc17,Xc18,Xc19,Xc20,Xc21,Xc22,Xcb⟩
        simp only [putAll,Act.put,qA,qB,qC]
      | 15, _, hd, hk =>
        have h14:=hk 14 (by decide +kernel)
        have c14:=Xc14.out;have c17:=Xc17.out;have c18:=Xc18.out;have c22:=Xc22.out;have cb:=Xcb.out;obtain rfl:=c14 h14;have hd22:d 22=false:=by cases h:d 22 with | false=>rfl | true=>exact Bool.noConfusion (hd.symm.trans (c17 (c18 (c22 h).1).2.1).2.1)
        have hB9:=cb hd22;have z4:w'.cell? ⟨g,4,none⟩=some (.int .i64 k9.asks):=(HS9.out.later hB9).ob.cell 4;clear c14 c17 c18 c22 cb;apply wpOp_at
        case ho=>rfl
        intro K hK;simp only [putAll,Act.put,qA,qB,qC];go_simp;have c17:=Xc17.out;refine hK _ _ ⟨_,_,_,_,_,_,_,_,_,_,_,_,_,_,(.pointer (some ⟨g,4,none⟩)),(.int .i64 k9.asks),_,e17,_,_,_,_,?_,hB,Xc0,Xc1,Xc2,Xc3,Xc4,Xc5,Xc6,Xc7,Xc8,Xc9,Xc10,Xc11,Xc12,Xc13,Xc14,fun _=>rfl,Xc16,fun h=>Bool.noConfusion (hd.symm.trans (c17 h).2.1),Xc18,Xc19,Xc20,Xc21,Xc22,Xcb⟩
        simp only [putAll,Act.put,qA,qB,qC]
      | 16, _, hd, hk =>
        apply wpOp_at
        case ho=>rfl
        intro K hK;simp only [putAll,Act.put,qA,qB,qC];go_simp;refine hK _ _ ⟨_,_,_,_,_,_,_,_,_,_,_,_,_,_,_,_,(.int .u32 draw),_,_,_,_,_,?_,hB,Xc0,Xc1,Xc2,Xc3,Xc4,Xc5,Xc6,Xc7,Xc8,Xc9,Xc10,Xc11,Xc12,Xc13,Xc14,Xc15,fun _=>rfl,Xc17,Xc18,Xc19,Xc20,Xc21,Xc22,Xcb⟩
        simp only [putAll,Act.put,qA,qB,qC]
      | 17, _, hd, hk =>
        have h10:=hk 10 (by decide +kernel)
        have h15:=hk 15 (by decide +kernel)
        have h16:=hk 16 (by decide +kernel)
        have c10:=Xc10.out;have c15:=Xc15.out;have c16:=Xc16.out;have c18:=Xc18.out;have c22:=Xc22.out;have cb:=Xcb.out;obtain rfl:=c10 h10;obtain rfl:=c15 h15;obtain rfl:=c16 h16;have hd22:d 22=false:=by cases h:d 22 with | false=>rfl | true=>exact Bool.noConfusion (hd.symm.trans (c18 (c22 h).1).2.1)
        have hB9:=cb hd22;clear c10 c15 c16 c18 c22 cb;apply wpOp_at
        case ho=>rfl
        intro K hK;simp only [putAll,Act.put,qA,qB,qC];go_simp;have c18:=Xc18.out;have c22:=Xc22.out;have cb:=Xcb.out;refine (HWt.out _ hB9).mono ?_;rintro e w'' ⟨rfl,hb⟩;refine hK _ _ ⟨_,_,_,_,_,_,_,_,_,_,(.int .i64 c.p),_,_,_,_,(.int .i64 k9.asks),(.int .u32 draw),(.int .i64 wv),e18,_,_,_,?_,hB.trans (hb.mono (Nat.le_trans hn0 hB9.size)),Xc0,Xc1,Xc2,Xc3,Xc4,Xc5,Xc6,Xc7,Xc8,Xc9,Xc10,Xc11,Xc12,Xc13,Xc14,Xc15,Xc16,fun _=>⟨h10,h15,rfl⟩,fun h=>Bool.noConfusion (hd.symm.trans (c18 h).2.1),Xc19,Xc20,Xc21,fun h=>Bool.noConfusion (hd.symm.trans (c18 (c22 h).1).2.1),fun h=>held_next (cb h) hb⟩
        simp only [putAll,Act.put,qA,qB,qC]
      | 18, _, hd, hk =>
        have h5:=hk 5 (by decide +kernel)
        have h17:=hk 17 (by decide +kernel)
        have c5:=Xc5.out;have c17:=Xc17.out;obtain rfl:=c5 h5;obtain ⟨-,-,rfl⟩:=c17 h17;clear c5 c17;apply wpOp_at
        case ho=>rfl
        intro K hK;simp only [putAll,Act.put,qA,qB,qC];go_simp;have c22:=Xc22.out;refine hK _ _ ⟨_,_,_,_,_,(.int .i64 tk1),_,_,_,_,_,_,_,_,_,_,_,(.int .i64 wv),(.int .i64 (tk1 + wv)),_,_,_,?_,hB,Xc0,Xc1,Xc2,Xc3,Xc4,Xc5,Xc6,Xc7,Xc8,Xc9,Xc10,Xc11,Xc12,Xc13,Xc14,Xc15,Xc16,Xc17,fun _=>⟨h5,h17,rfl⟩,Xc19,Xc20,Xc21,fun h=>Bool.noConfusion (hd.symm.trans (c22 h).1),Xcb⟩
        simp only [putAll,Act.put,qA,qB,qC]
      | 19, _, hd, hk =>
        have h0:=hk 0 (by decide +kernel)
        have c0:=Xc0.out;obtain rfl:=c0 h0;clear c0;apply wpOp_at
        case ho=>rfl
        intro K hK;simp only [putAll,Act.put,qA,qB,qC];go_simp;refine hK _ _ ⟨(.pointer (some ⟨g,0,none⟩)),_,_,_,_,_,_,_,_,_,_,_,_,_,_,_,_,_,_,(.pointer (some ⟨g,0,none⟩)),_,_,?_,hB,Xc0,Xc1,Xc2,Xc3,Xc4,Xc5,Xc6,Xc7,Xc8,Xc9,Xc10,Xc11,Xc12,Xc13,Xc14,Xc15,Xc16,Xc17,Xc18,fun _=>rfl,Xc20,Xc21,Xc22,Xcb⟩
        simp only [putAll,Act.put,qA,qB,qC]
      | 20, _, hd, hk =>
        have h19:=hk 19 (by decide +kernel)
        have c19:=Xc19.out;obtain rfl:=c19 h19;clear c19;apply wpOp_at
        case ho=>rfl
        intro K hK;simp only [putAll,Act.put,qA,qB,qC];go_simp;refine hK _ _ ⟨_,_,_,_,_,_,_,_,_,_,_,_,_,_,_,_,_,_,_,(.pointer (some ⟨g,0,none⟩)),(.pointer (some ⟨g,12,none⟩)),_,?_,hB,Xc0,Xc1,Xc2,Xc3,Xc4,Xc5,Xc6,Xc7,Xc8,Xc9,Xc10,Xc11,Xc12,Xc13,Xc14,Xc15,Xc16,Xc17,Xc18,Xc19,fun _=>rfl,Xc21,Xc22,Xcb⟩
        simp only [putAll,Act.put,qA,qB,qC]
      | 21, _, hd, hk =>
        have h20:=hk 20 (by decide +kernel)
        have c20:=Xc20.out;obtain rfl:=c20 h20;clear c20;apply wpOp_at
        case ho=>rfl
        intro K hK;simp only [putAll,Act.put,qA,qB,qC];go_simp;refine hK _ _ ⟨_,_,_,_,_,_,_,_,_,_,_,_,_,_,_,_,_,_,_,_,(.pointer (some ⟨g,12,none⟩)),(.pointer (some ⟨g,13,none⟩)),?_,hB,Xc0,Xc1,Xc2,Xc3,Xc4,Xc5,Xc6,Xc7,Xc8,Xc9,Xc10,Xc11,Xc12,Xc13,Xc14,Xc15,Xc16,Xc17,Xc18,Xc19,Xc20,fun _=>rfl,Xc22,Xcb⟩
        simp only [putAll,Act.put,qA,qB,qC]
      | 22, _, hd, hk =>
        have h18:=hk 18 (by decide +kernel)
        have h21:=hk 21 (by decide +kernel)
        have c18:=Xc18.out;have c21:=Xc21.out;have cb:=Xcb.out;obtain rfl:=c21 h21;obtain ⟨-,-,rfl⟩:=c18 h18;have hB9:=cb hd;have hS9:=HS9.out.later hB9;have q13:=hS9.ob.cell 13;have y13:=hS9.ob.free 13;have hM:=hS9.nx (tk1 + wv);clear c18 c21 cb;apply wpOp_at
        case ho=>rfl
        intro K hK;simp only [putAll,Act.put,qA,qB,qC];go_simp;refine hK _ _ ⟨_,_,_,_,_,_,_,_,_,_,_,_,_,_,_,_,_,_,(.int .i64 (tk1 + wv)),_,_,(.pointer (some ⟨g,13,none⟩)),?_,hB.setCell (p:=⟨g,13,none⟩) HS9.out.le _,Xc0,Xc1,Xc2,Xc3,Xc4,Xc5,Xc6,Xc7,Xc8,Xc9,Xc10,Xc11,Xc12,Xc13,Xc14,Xc15,Xc16,Xc17,Xc18,Xc19,Xc20,Xc21,fun _=>⟨h18,hM.1,(Kept.of hB9).trans hM.2⟩,fun h=>Bool.noConfusion (show true=false from h)⟩
        simp only [putAll,Act.put,qA,qB,qC]
      | k + 23,hi,_,_=>exact absurd hi (by simp)
     case ends =>
      intro d a' w' hJ hall;obtain ⟨e0,e1,e2,e3,e4,e5,e6,e7,e8,e9,e10,e11,e12,e13,e14,e15,e16,e17,e18,e19,e20,e21,rfl,hC⟩:=hJ;obtain ⟨hB,hC⟩:=hC;obtain ⟨c0,hC⟩:=hC;obtain ⟨c1,hC⟩:=hC;obtain ⟨c2,hC⟩:=hC;obtain ⟨c3,hC⟩:=hC;obtain ⟨c4,hC⟩:=hC;obtain ⟨c5,hC⟩:=hC;obtain ⟨c6,hC⟩:=hC;obtain ⟨c7,hC⟩:=hC;obtain ⟨c8,hC⟩:=hC;obtain ⟨c9,hC⟩:=hC;obtain ⟨c10,hC⟩:=hC;obtain ⟨c11,hC⟩:=hC;obtain ⟨c12,hC⟩:=hC;obtain ⟨c13,hC⟩:=hC
      obtain ⟨c14,hC⟩:=hC;obtain ⟨c15,hC⟩:=hC;obtain ⟨c16,hC⟩:=hC;obtain ⟨c17,hC⟩:=hC;obtain ⟨c18,hC⟩:=hC;obtain ⟨c19,hC⟩:=hC;obtain ⟨c20,hC⟩:=hC;obtain ⟨c21,hC⟩:=hC;obtain ⟨c22,hC⟩:=hC;have cb:=hC;clear hC;have HT:=qH (c22 (hall 22 (by decide +kernel))).2
      obtain rfl:=c0 (hall 0 (by decide +kernel))
      obtain rfl:=c1 (hall 1 (by decide +kernel))
      obtain rfl:=c2 (hall 2 (by decide +kernel))
      obtain rfl:=c3 (hall 3 (by decide +kernel))
      obtain rfl:=c4 (hall 4 (by decide +kernel))
      obtain rfl:=c5 (hall 5 (by decide +kernel))
      obtain rfl:=c6 (hall 6 (by decide +kernel))
      obtain rfl:=c7 (hall 7 (by decide +kernel))
      obtain rfl:=c8 (hall 8 (by decide +kernel))
      obtain rfl:=c9 (hall 9 (by decide +kernel))
      obtain rfl:=c10 (hall 10 (by decide +kernel))
      obtain rfl:=c11 (hall 11 (by decide +kernel))
      obtain rfl:=c12 (hall 12 (by decide +kernel))
      obtain rfl:=c13 (hall 13 (by decide +kernel))
      obtain rfl:=c14 (hall 14 (by decide +kernel))
      obtain rfl:=c15 (hall 15 (by decide +kernel))
      obtain rfl:=c16 (hall 16 (by decide +kernel))
      obtain rfl:=c19 (hall 19 (by decide +kernel))
      obtain rfl:=c20 (hall 20 (by decide +kernel))
      obtain rfl:=c21 (hall 21 (by decide +kernel))
      obtain ⟨_,_,rfl⟩:=c17 (hall 17 (by decide +kernel))
      obtain ⟨_,_,rfl⟩:=c18 (hall 18 (by decide +kernel))
      clear c17 c18 c22 cb hall hB;simp only [putAll,Act.put,qA,qB,qC];have HK10:=qH (HK9.out.trans HT.out.2)
      go_wp2_with fail
      refine bodyPost_ret (v:=.slice A m C) (by simp [results,Tryz.results61,go_sem]) rfl ⟨A,m,C,_,p9,cd9,rfl,HT.out.1,HK10.out,fun h=>absurd rfl h,fun _=>?_⟩
      have hf:=pass_fin (draw:=draw) (cd6:=code6) (cd9:=cd9) (k9:=k9) (m:=m) (Q:=fun l=>Stay (Mine n0 E g p9) w' (fun V=>P V A m C l)) Hok.out (by have:=H1.out; omega) (by have:=H2.out; omega) Hcd6.out Hn9.out Hm9.out (fun h V _=>by rw [h]; exact HP.out V A C) (fun h6=>by
       obtain ⟨y1,y2⟩:=Hy9.out h6
       exact ⟨y1,fun k1 l hw=>by
        obtain ⟨a1,a2,a3,a4⟩:=y2 k1 l hw
        exact ⟨a1,a2,a3,fun V hV=>a4 V ((HT.out.2.but.wide fun b e=>e.elim (fun e=>Or.inr (Or.inl e)) (fun e=>Or.inr (Or.inr (Or.inl e)))).trans hV)⟩⟩)
      rw [Hla.out,Hwv.out,Htk1.out] at hf
      exact hf
   | true =>
   obtain ⟨KV,HKV⟩:∃ z:Int,Hid ((((estE la).1:Nat):Int)=z):=⟨_,rfl⟩;obtain ⟨⟨ga,gb⟩,Hg⟩:∃ z,Hid (giveV c x6.bk.rows who KV=z):=⟨_,rfl⟩;have hal:x6.asked=la:=by rw [← Hx6.out]
   have HKeep:Hid (∀ w',Below W6.heap.size W6 w'→Calls Tryz.prog 117 #[.pointer (some ⟨g,0,none⟩)] w' (fun e w2=>e=.returned (.int .i64 KV)∧Below w'.heap.size w' w2)):=fun w' hb=>by
    have h1:=keep18_calls (HS6.out.later hb) (by rw [hal,← Hla.out]; have:=keepN_le x.asked 0; omega)
    rw [hal,HKV.out] at h1
    exact h1
   have HGive:Hid (∀ w',Below W6.heap.size W6 w'→Calls Tryz.prog 124 #[cfV c,.slice p6.bl.a1 p6.bl.m1 p6.bl.c1,.int .i64 who,.int .i64 KV] w' (fun e w2=>e=.returned (.tuple #[.int .i64 ga,.int .i64 gb])∧Below w'.heap.size w' w2)):=fun w' hb=>by
    have h1:=sGive_calls c p6.bl.a1 p6.bl.m1 p6.bl.c1 x6.bk.rows who KV HS6.out.inn.1.1 (by rw [← HKV.out]; have:=estE_bound la; omega) w' (HS6.out.inn.1.2.later hb)
    rw [Hg.out] at h1
    exact h1
   have hn0:n0≤W6.heap.size:=by have:=HS6.out.le; have:=HS6.out.lt; omega
   have hlt6:=HS6.out.lt
   go_wp2_with fail
   refine wp_region_each_at ?hm ?hb (fun a0 d a' w'=>∃ (e0 e1 e2 e3 e4 e5 e6 e7 e8 e9 e10 e11 e12 e13 e14 e15 e16 e17 e18 e19:Value),a'=putAll a0 [(52,e0),(53,e1),(54,e2),(55,e3),(56,e4),(57,e5),(58,e6),(59,e7),(60,e8),(61,e9),(62,e10),(63,e11),(64,e12),(65,e13),(66,e14),(67,e15),(68,e16),(69,e17),(70,e18),(71,e19)]∧Below n0 W6 w'∧(d 0=true→e0=(.pointer (some ⟨g,0,none⟩)))∧(d 1=true→e1=(.pointer (some ⟨g,0,none⟩)))∧(d 2=true→e2=(.pointer (some ⟨g,0,none⟩)))∧(d 3=true→e3=(.pointer (some ⟨g,15,none⟩)))∧(d 4=true→e4=(cfV c))∧(d 5=true→e5=(.pointer (some ⟨g,0,none⟩)))∧(d 6=true→e6=(.pointer (some ⟨g,0,none⟩)))∧(d 7=true→e7=(.pointer (some ⟨g,0,none⟩)))∧(d 8=true→e8=(.pointer (some ⟨g,1,none⟩)))∧(d 9=true→e9=(.slice p6.bl.a1 p6.bl.m1 p6.bl.c1))∧(d 10=true→e10=(.pointer (some ⟨g,0,none⟩)))∧(d 11=true→e11=(.pointer (some ⟨g,0,none⟩)))∧(d 12=true→e12=(.pointer (some ⟨g,21,none⟩)))∧(d 13=true→e13=(.int .i64 who))∧(d 14=true→e14=(.pointer (some ⟨g,0,none⟩)))∧(d 15=true→e15=(.int .i64 KV))∧(d 16=true→(d 4=true∧d 9=true∧d 13=true∧d 15=true∧e16=(.tuple #[.int .i64 ga,.int .i64 gb])))∧(d 17=true→(d 16=true∧e17=(.int .i64 ga)))∧(d 18=true→(d 16=true∧e18=(.int .i64 gb)))∧(d 19=true→(d 16=true∧StepTo n0 E g c who p6 W6 (bkN x6 (moveK c who x6.bk ga gb)) code6 w'))∧(d 19=false→Below W6.heap.size W6 w')) ?h0 ?step ?ends
   case hm=>kernel_rfl
   case hb=>kernel_rfl
   case h0 =>
    refine ⟨undef,undef,undef,undef,undef,undef,undef,undef,undef,undef,undef,undef,undef,undef,undef,undef,undef,undef,undef,undef,?_,(Below.refl _ _).drew,fun h=>absurd h (by decide),fun h=>absurd h (by decide),fun h=>absurd h (by decide),fun h=>absurd h (by decide),fun h=>absurd h (by decide),fun h=>absurd h (by decide),fun h=>absurd h (by decide),fun h=>absurd h (by decide),fun h=>absurd h (by decide),fun h=>absurd h (by decide),fun h=>absurd h (by decide),fun h=>absurd h (by decide),fun h=>absurd h (by decide),fun h=>absurd h (by decide),fun h=>absurd h (by decide),fun h=>absurd h (by decide),fun h=>absurd h (by decide),fun h=>absurd h (by decide),fun h=>absurd h (by decide),fun h=>absurd h (by decide),fun _=>(Below.refl _ _).drew⟩
    simp only [putAll,Act.put,qA,qB,qC]
   case step =>
    intro i d a' w' hi hJ hd hk;obtain ⟨e0,e1,e2,e3,e4,e5,e6,e7,e8,e9,e10,e11,e12,e13,e14,e15,e16,e17,e18,e19,rfl,hC⟩:=hJ;obtain ⟨hB,hC⟩:=hC;obtain ⟨c0,hC⟩:=hC;obtain ⟨c1,hC⟩:=hC;obtain ⟨c2,hC⟩:=hC;obtain ⟨c3,hC⟩:=hC;obtain ⟨c4,hC⟩:=hC;obtain ⟨c5,hC⟩:=hC;obtain ⟨c6,hC⟩:=hC;obtain ⟨c7,hC⟩:=hC;obtain ⟨c8,hC⟩:=hC;obtain ⟨c9,hC⟩:=hC;obtain ⟨c10,hC⟩:=hC;obtain ⟨c11,hC⟩:=hC;obtain ⟨c12,hC⟩:=hC;obtain ⟨c13,hC⟩:=hC
    obtain ⟨c14,hC⟩:=hC;obtain ⟨c15,hC⟩:=hC;obtain ⟨c16,hC⟩:=hC;obtain ⟨c17,hC⟩:=hC;obtain ⟨c18,hC⟩:=hC;obtain ⟨c19,hC⟩:=hC;have cb:=hC;clear hC;have Xc0:=qH c0; clear c0;have Xc1:=qH c1; clear c1;have Xc2:=qH c2; clear c2;have Xc3:=qH c3; clear c3;have Xc4:=qH c4; clear c4;have Xc5:=qH c5; clear c5;have Xc6:=qH c6; clear c6;have Xc7:=qH c7; clear c7;have Xc8:=qH c8; clear c8;have Xc9:=qH c9; clear c9
    have Xc10:=qH c10; clear c10;have Xc11:=qH c11; clear c11;have Xc12:=qH c12; clear c12;have Xc13:=qH c13; clear c13;have Xc14:=qH c14; clear c14;have Xc15:=qH c15; clear c15;have Xc16:=qH c16; clear c16;have Xc17:=qH c17; clear c17;have Xc18:=qH c18; clear c18;have Xc19:=qH c19; clear c19;have Xcb:=qH cb; clear cb
    match i,hi,hd,hk with
    | 0, _, hd, hk =>
      apply wpOp_at
      case ho=>rfl
      intro K hK;simp only [putAll,Act.put,qA,qB,qC];go_simp;refine hK _ _ ⟨(.pointer (some ⟨g,0,none⟩)),_,_,_,_,_,_,_,_,_,_,_,_,_,_,_,_,_,_,e19,?_,hB,fun _=>rfl,Xc1,Xc2,Xc3,Xc4,Xc5,Xc6,Xc7,Xc8,Xc9,Xc10,Xc11,Xc12,Xc13,Xc14,Xc15,Xc16,Xc17,Xc18,Xc19,Xcb⟩
      simp only [putAll,Act.put,qA,qB,qC]
    | 1, _, hd, hk =>
      apply wpOp_at
      case ho=>rfl
      intro K hK;simp only [putAll,Act.put,qA,qB,qC];go_simp;refine hK _ _ ⟨_,(.pointer (some ⟨g,0,none⟩)),_,_,_,_,_,_,_,_,_,_,_,_,_,_,_,_,_,e19,?_,hB,Xc0,fun _=>rfl,Xc2,Xc3,Xc4,Xc5,Xc6,Xc7,Xc8,Xc9,Xc10,Xc11,Xc12,Xc13,Xc14,Xc15,Xc16,Xc17,Xc18,Xc19,Xcb⟩
      simp only [putAll,Act.put,qA,qB,qC]
    | 2, _, hd, hk =>
      have h1:=hk 1 (by decide +kernel)
      have c1:=Xc1.out;obtain rfl:=c1 h1;clear c1;apply wpOp_at
      case ho=>rfl
      intro K hK;simp only [putAll,Act.put,qA,qB,qC];go_simp;refine hK _ _ ⟨_,(.pointer (some ⟨g,0,none⟩)),(.pointer (some ⟨g,0,none⟩)),_,_,_,_,_,_,_,_,_,_,_,_,_,_,_,_,e19,?_,hB,Xc0,Xc1,fun _=>rfl,Xc3,Xc4,Xc5,Xc6,Xc7,Xc8,Xc9,Xc10,Xc11,Xc12,Xc13,Xc14,Xc15,Xc16,Xc17,Xc18,Xc19,Xcb⟩
      simp only [putAll,Act.put,qA,qB,qC]
    | 3, _, hd, hk =>
      have h2:=hk 2 (by decide +kernel)
      have c2:=Xc2.out;obtain rfl:=c2 h2;clear c2;apply wpOp_at
      case ho=>rfl
      intro K hK;simp only [putAll,Act.put,qA,qB,qC];go_simp;refine hK _ _ ⟨_,_,(.pointer (some ⟨g,0,none⟩)),(.pointer (some ⟨g,15,none⟩)),_,_,_,_,_,_,_,_,_,_,_,_,_,_,_,e19,?_,hB,Xc0,Xc1,Xc2,fun _=>rfl,Xc4,Xc5,Xc6,Xc7,Xc8,Xc9,Xc10,Xc11,Xc12,Xc13,Xc14,Xc15,Xc16,Xc17,Xc18,Xc19,Xcb⟩
      simp only [putAll,Act.put,qA,qB,qC]
    | 4, _, hd, hk =>
      have h3:=hk 3 (by decide +kernel)
      have c3:=Xc3.out;have c16:=Xc16.out;have c19:=Xc19.out;have cb:=Xcb.out;obtain rfl:=c3 h3;have hdM:d 19=false:=by cases h:d 19 with | false=>rfl | true=>exact Bool.noConfusion (hd.symm.trans (c16 (c19 h).1).1)
      have hB9:=cb hdM;have z15:w'.cell? ⟨g,15,none⟩=some (.int .i64 c.n):=(HS6.out.later hB9).ob.cell 15;have z16:w'.cell? ⟨g,16,none⟩=some (.int .i64 c.q):=(HS6.out.later hB9).ob.cell 16;have z17:w'.cell? ⟨g,17,none⟩=some (.int .i64 c.r):=(HS6.out.later hB9).ob.cell 17;have z18:w'.cell? ⟨g,18,none⟩=some (.int .i64 c.p):=(HS6.out.later hB9).ob.cell 18;have z19:w'.cell? ⟨g,19,none⟩=some (.int .i64 c.k):=(HS6.out.later hB9).ob.cell 19
      have z20:w'.cell? ⟨g,20,none⟩=some (.int .i64 c.c):=(HS6.out.later hB9).ob.cell 20;clear c3 c16 c19 cb;apply wpOp_at
      case ho=>rfl
      intro K hK;simp only [putAll,Act.put,qA,qB,qC];go_simp;have c16:=Xc16.out;refine hK _ _ ⟨_,_,_,(.pointer (some ⟨g,15,none⟩)),(cfV c),_,_,_,_,_,_,_,_,_,_,_,e16,_,_,e19,?_,hB,Xc0,Xc1,Xc2,Xc3,fun _=>rfl,Xc5,Xc6,Xc7,Xc8,Xc9,Xc10,Xc11,Xc12,Xc13,Xc14,Xc15,fun h=>Bool.noConfusion (hd.symm.trans (c16 h).1),Xc17,Xc18,Xc19,Xcb⟩
      simp only [putAll,Act.put,qA,qB,qC]
    | 5, _, hd, hk =>
      apply wpOp_at
      case ho=>rfl
      intro K hK;simp only [putAll,Act.put,qA,qB,qC];go_simp;refine hK _ _ ⟨_,_,_,_,_,(.pointer (some ⟨g,0,none⟩)),_,_,_,_,_,_,_,_,_,_,_,_,_,e19,?_,hB,Xc0,Xc1,Xc2,Xc3,Xc4,fun _=>rfl,Xc6,Xc7,Xc8,Xc9,Xc10,Xc11,Xc12,Xc13,Xc14,Xc15,Xc16,Xc17,Xc18,Xc19,Xcb⟩
      simp only [putAll,Act.put,qA,qB,qC]
    | 6, _, hd, hk =>
      have h5:=hk 5 (by decide +kernel)
      have c5:=Xc5.out;obtain rfl:=c5 h5;clear c5;apply wpOp_at
      case ho=>rfl
      intro K hK;simp only [putAll,Act.put,qA,qB,qC];go_simp;refine hK _ _ ⟨_,_,_,_,_,(.pointer (some ⟨g,0,none⟩)),(.pointer (some ⟨g,0,none⟩)),_,_,_,_,_,_,_,_,_,_,_,_,e19,?_,hB,Xc0,Xc1,Xc2,Xc3,Xc4,Xc5,fun _=>rfl,Xc7,Xc8,Xc9,Xc10,Xc11,Xc12,Xc13,Xc14,Xc15,Xc16,Xc17,Xc18,Xc19,Xcb⟩
      simp only [putAll,Act.put,qA,qB,qC]
    | 7, _, hd, hk =>
      have h6:=hk 6 (by decide +kernel)
      have c6:=Xc6.out;obtain rfl:=c6 h6;clear c6;apply wpOp_at
      case ho=>rfl
      intro K hK;simp only [putAll,Act.put,qA,qB,qC];go_simp;refine hK _ _ ⟨_,_,_,_,_,_,(.pointer (some ⟨g,0,none⟩)),(.pointer (some ⟨g,0,none⟩)),_,_,_,_,_,_,_,_,_,_,_,e19,?_,hB,Xc0,Xc1,Xc2,Xc3,Xc4,Xc5,Xc6,fun _=>rfl,Xc8,Xc9,Xc10,Xc11,Xc12,Xc13,Xc14,Xc15,Xc16,Xc17,Xc18,Xc19,Xcb⟩
      simp only [putAll,Act.put,qA,qB,qC]
    | 8, _, hd, hk =>
      have h7:=hk 7 (by decide +kernel)
      have c7:=Xc7.out;obtain rfl:=c7 h7;clear c7;apply wpOp_at
      case ho=>rfl
      intro K hK;simp only [putAll,Act.put,qA,qB,qC];go_simp;refine hK _ _ ⟨_,_,_,_,_,_,_,(.pointer (some ⟨g,0,none⟩)),(.pointer (some ⟨g,1,none⟩)),_,_,_,_,_,_,_,_,_,_,e19,?_,hB,Xc0,Xc1,Xc2,Xc3,Xc4,Xc5,Xc6,Xc7,fun _=>rfl,Xc9,Xc10,Xc11,Xc12,Xc13,Xc14,Xc15,Xc16,Xc17,Xc18,Xc19,Xcb⟩
      simp only [putAll,Act.put,qA,qB,qC]
    | 9, _, hd, hk =>
      have h8:=hk 8 (by decide +kernel)
      have c8:=Xc8.out;have c16:=Xc16.out;have c19:=Xc19.out;have cb:=Xcb.out;obtain rfl:=c8 h8;have hdM:d 19=false:=by cases h:d 19 with | false=>rfl | true=>exact Bool.noConfusion (hd.symm.trans (c16 (c19 h).1).2.1)
      have hB9:=cb hdM;have z1:w'.cell? ⟨g,1,none⟩=some (.slice p6.bl.a1 p6.bl.m1 p6.bl.c1):=(HS6.out.later hB9).ob.cell 1;clear c8 c16 c19 cb;apply wpOp_at
      case ho=>rfl
      intro K hK;simp only [putAll,Act.put,qA,qB,qC];go_simp;have c16:=Xc16.out;refine hK _ _ ⟨_,_,_,_,_,_,_,_,(.pointer (some ⟨g,1,none⟩)),(.slice p6.bl.a1 p6.bl.m1 p6.bl.c1),_,_,_,_,_,_,e16,_,_,e19,?_,hB,Xc0,Xc1,Xc2,Xc3,Xc4,Xc5,Xc6,Xc7,Xc8,fun _=>rfl,Xc10,Xc11,Xc12,Xc13,Xc14,Xc15,fun h=>Bool.noConfusion (hd.symm.trans (c16 h).2.1),Xc17,Xc18,Xc19,Xcb⟩
      simp only [putAll,Act.put,qA,qB,qC]
    | 10, _, hd, hk =>
      apply wpOp_at
      case ho=>rfl
      intro K hK;simp only [putAll,Act.put,qA,qB,qC];go_simp;refine hK _ _ ⟨_,_,_,_,_,_,_,_,_,_,(.pointer (some ⟨g,0,none⟩)),_,_,_,_,_,_,_,_,e19,?_,hB,Xc0,Xc1,Xc2,Xc3,Xc4,Xc5,Xc6,Xc7,Xc8,Xc9,fun _=>rfl,Xc11,Xc12,Xc13,Xc14,Xc15,Xc16,Xc17,Xc18,Xc19,Xcb⟩
      simp only [putAll,Act.put,qA,qB,qC]
    | 11, _, hd, hk =>
      have h10:=hk 10 (by decide +kernel)
      have c10:=Xc10.out;obtain rfl:=c10 h10;clear c10;apply wpOp_at
      case ho=>rfl
      intro K hK;simp only [putAll,Act.put,qA,qB,qC];go_simp;refine hK _ _ ⟨_,_,_,_,_,_,_,_,_,_,(.pointer (some ⟨g,0,none⟩)),(.pointer (some ⟨g,0,none⟩)),_,_,_,_,_,_,_,e19,?_,hB,Xc0,Xc1,Xc2,Xc3,Xc4,Xc5,Xc6,Xc7,Xc8,Xc9,Xc10,fun _=>rfl,Xc12,Xc13,Xc14,Xc15,Xc16,Xc17,Xc18,Xc19,Xcb⟩
      simp only [putAll,Act.put,qA,qB,qC]
    | 12, _, hd, hk =>
      have h11:=hk 11 (by decide +kernel)
      have c11:=Xc11.out;obtain rfl:=c11 h11;clear c11;apply wpOp_at
      case ho=>rfl
      intro K hK;simp only [putAll,Act.put,qA,qB,qC];go_simp;refine hK _ _ ⟨_,_,_,_,_,_,_,_,_,_,_,(.pointer (some ⟨g,0,none⟩)),(.pointer (some ⟨g,21,none⟩)),_,_,_,_,_,_,e19,?_,hB,Xc0,Xc1,Xc2,Xc3,Xc4,Xc5,Xc6,Xc7,Xc8,Xc9,Xc10,Xc11,fun _=>rfl,Xc13,Xc14,Xc15,Xc16,Xc17,Xc18,Xc19,Xcb⟩
      simp only [putAll,Act.put,qA,qB,qC]
    | 13, _, hd, hk =>
      have h12:=hk 12 (by decide +kernel)
      have c12:=Xc12.out;have c16:=Xc16.out;have c19:=Xc19.out;have cb:=Xcb.out;obtain rfl:=c12 h12;have hdM:d 19=false:=by cases h:d 19 with | false=>rfl | true=>exact Bool.noConfusion (hd.symm.trans (c16 (c19 h).1).2.2.1)
      have hB9:=cb hdM;have z21:w'.cell? ⟨g,21,none⟩=some (.int .i64 who):=(HS6.out.later hB9).ob.cell 21;clear c12 c16 c19 cb;apply wpOp_at
      case ho=>rfl
      intro K hK;simp only [putAll,Act.put,qA,qB,qC];go_simp;have c16:=Xc16.out;refine hK _ _ ⟨_,_,_,_,_,_,_,_,_,_,_,_,(.pointer (some ⟨g,21,none⟩)),(.int .i64 who),_,_,e16,_,_,e19,?_,hB,Xc0,Xc1,Xc2,Xc3,Xc4,Xc5,Xc6,Xc7,Xc8,Xc9,Xc10,Xc11,Xc12,fun _=>rfl,Xc14,Xc15,fun h=>Bool.noConfusion (hd.symm.trans (c16 h).2.2.1),Xc17,Xc18,Xc19,Xcb⟩
      simp only [putAll,Act.put,qA,qB,qC]
    | 14, _, hd, hk =>
      apply wpOp_at
      case ho=>rfl
      intro K hK;simp only [putAll,Act.put,qA,qB,qC];go_simp;refine hK _ _ ⟨_,_,_,_,_,_,_,_,_,_,_,_,_,_,(.pointer (some ⟨g,0,none⟩)),_,_,_,_,e19,?_,hB,Xc0,Xc1,Xc2,Xc3,Xc4,Xc5,Xc6,Xc7,Xc8,Xc9,Xc10,Xc11,Xc12,Xc13,fun _=>rfl,Xc15,Xc16,Xc17,Xc18,Xc19,Xcb⟩
      simp only [putAll,Act.put,qA,qB,qC]
    | 15, _, hd, hk =>
      have h14:=hk 14 (by decide +kernel)
      have c14:=Xc14.out;have c16:=Xc16.out;have c19:=Xc19.out;have cb:=Xcb.out;obtain rfl:=c14 h14;have hdM:d 19=false:=by cases h:d 19 with | false=>rfl | true=>exact Bool.noConfusion (hd.symm.trans (c16 (c19 h).1).2.2.2.1)
      have hB9:=cb hdM;clear c14 c16 c19 cb;apply wpOp_at
      case ho=>rfl
      intro K hK;simp only [putAll,Act.put,qA,qB,qC];go_simp;have c16:=Xc16.out;have cb:=Xcb.out;refine (HKeep.out _ hB9).mono ?_;rintro e w'' ⟨rfl,hb⟩;refine hK _ _ ⟨_,_,_,_,_,_,_,_,_,_,_,_,_,_,(.pointer (some ⟨g,0,none⟩)),(.int .i64 KV),e16,_,_,e19,?_,hB.trans (hb.mono (Nat.le_trans hn0 hB9.size)),Xc0,Xc1,Xc2,Xc3,Xc4,Xc5,Xc6,Xc7,Xc8,Xc9,Xc10,Xc11,Xc12,Xc13,Xc14,fun _=>rfl,fun h=>Bool.noConfusion (hd.symm.trans (c16 h).2.2.2.1),Xc17,Xc18,fun h=>Bool.noConfusion (hdM.symm.trans h),fun h=>held_next (cb h) hb⟩
      simp only [putAll,Act.put,qA,qB,qC]
    | 16, _, hd, hk =>
      have h4:=hk 4 (by decide +kernel)
      have h9:=hk 9 (by decide +kernel)
      have h13:=hk 13 (by decide +kernel)
      have h15:=hk 15 (by decide +kernel)
      have c4:=Xc4.out;have c9:=Xc9.out;have c13:=Xc13.out;have c15:=Xc15.out;have c19:=Xc19.out;have cb:=Xcb.out;obtain rfl:=c4 h4;obtain rfl:=c9 h9;obtain rfl:=c13 h13;obtain rfl:=c15 h15;have hdM:d 19=false:=by cases h:d 19 with | false=>rfl | true=>exact Bool.noConfusion (hd.symm.trans (c19 h).1)
      have hB9:=cb hdM;clear c4 c9 c13 c15 c19 cb;apply wpOp_at
      case ho=>rfl
      intro K hK;simp only [putAll,Act.put,qA,qB,qC];go_simp;have c17:=Xc17.out;have c18:=Xc18.out;have c19:=Xc19.out;have cb:=Xcb.out;refine (HGive.out _ hB9).mono ?_;rintro e w'' ⟨rfl,hb⟩;refine hK _ _ ⟨_,_,_,_,(cfV c),_,_,_,_,(.slice p6.bl.a1 p6.bl.m1 p6.bl.c1),_,_,_,(.int .i64 who),_,(.int .i64 KV),(.tuple #[.int .i64 ga,.int .i64 gb]),e17,e18,e19,?_,hB.trans (hb.mono (Nat.le_trans hn0 hB9.size)),Xc0,Xc1,Xc2,Xc3,Xc4,Xc5,Xc6,Xc7,Xc8,Xc9,Xc10,Xc11,Xc12,Xc13,Xc14,Xc15,fun _=>⟨h4,h9,h13,h15,rfl⟩,fun h=>Bool.noConfusion (hd.symm.trans (c17 h).1),fun h=>Bool.noConfusion (hd.symm.trans (c18 h).1),fun h=>Bool.noConfusion (hd.symm.trans (c19 h).1),fun h=>held_next (cb h) hb⟩
      simp only [putAll,Act.put,qA,qB,qC]
    | 17, _, hd, hk =>
      have h16:=hk 16 (by decide +kernel)
      have c16:=Xc16.out;obtain ⟨-,-,-,-,rfl⟩:=c16 h16;clear c16;apply wpOp_at
      case ho=>rfl
      intro K hK;simp only [putAll,Act.put,qA,qB,qC];go_simp;refine hK _ _ ⟨_,_,_,_,_,_,_,_,_,_,_,_,_,_,_,_,(.tuple #[.int .i64 ga,.int .i64 gb]),(.int .i64 ga),_,e19,?_,hB,Xc0,Xc1,Xc2,Xc3,Xc4,Xc5,Xc6,Xc7,Xc8,Xc9,Xc10,Xc11,Xc12,Xc13,Xc14,Xc15,Xc16,fun _=>⟨h16,rfl⟩,Xc18,Xc19,Xcb⟩
      simp only [putAll,Act.put,qA,qB,qC]
    | 18, _, hd, hk =>
      have h16:=hk 16 (by decide +kernel)
      have c16:=Xc16.out;obtain ⟨-,-,-,-,rfl⟩:=c16 h16;clear c16;apply wpOp_at
      case ho=>rfl
      intro K hK;simp only [putAll,Act.put,qA,qB,qC];go_simp;refine hK _ _ ⟨_,_,_,_,_,_,_,_,_,_,_,_,_,_,_,_,(.tuple #[.int .i64 ga,.int .i64 gb]),_,(.int .i64 gb),e19,?_,hB,Xc0,Xc1,Xc2,Xc3,Xc4,Xc5,Xc6,Xc7,Xc8,Xc9,Xc10,Xc11,Xc12,Xc13,Xc14,Xc15,Xc16,Xc17,fun _=>⟨h16,rfl⟩,Xc19,Xcb⟩
      simp only [putAll,Act.put,qA,qB,qC]
    | 19, _, hd, hk =>
      have h0:=hk 0 (by decide +kernel)
      have h17:=hk 17 (by decide +kernel)
      have h18:=hk 18 (by decide +kernel)
      have c0:=Xc0.out;have c17:=Xc17.out;have c18:=Xc18.out;have cb:=Xcb.out;obtain rfl:=c0 h0;obtain ⟨k16,rfl⟩:=c17 h17;obtain ⟨-,rfl⟩:=c18 h18;have hB9:=cb hd;have hS9:=HS6.out.later hB9;clear c0 c17 c18 cb;apply wpOp_at
      case ho=>rfl
      intro K hK;simp only [putAll,Act.put,qA,qB,qC];go_simp;refine (move18_calls hS9 ga gb).mono ?_;rintro e w'' ⟨rfl,p2,hS2,hK2⟩;refine hK _ _ ⟨(.pointer (some ⟨g,0,none⟩)),_,_,_,_,_,_,_,_,_,_,_,_,_,_,_,_,(.int .i64 ga),(.int .i64 gb),.tuple #[],?_,hB.trans (hS9.low hK2),Xc0,Xc1,Xc2,Xc3,Xc4,Xc5,Xc6,Xc7,Xc8,Xc9,Xc10,Xc11,Xc12,Xc13,Xc14,Xc15,Xc16,Xc17,Xc18,fun _=>⟨k16,p2,hS2,(Kept.of hB9).trans hK2⟩,fun h=>Bool.noConfusion (show true=false from h)⟩
      simp only [putAll,Act.put,qA,qB,qC]
    | k + 20,hi,_,_=>exact absurd hi (by simp)
   case ends =>
    intro d a' w' hJ hall;obtain ⟨e0,e1,e2,e3,e4,e5,e6,e7,e8,e9,e10,e11,e12,e13,e14,e15,e16,e17,e18,e19,rfl,hC⟩:=hJ;obtain ⟨hB,hC⟩:=hC;obtain ⟨c0,hC⟩:=hC;obtain ⟨c1,hC⟩:=hC;obtain ⟨c2,hC⟩:=hC;obtain ⟨c3,hC⟩:=hC;obtain ⟨c4,hC⟩:=hC;obtain ⟨c5,hC⟩:=hC;obtain ⟨c6,hC⟩:=hC;obtain ⟨c7,hC⟩:=hC;obtain ⟨c8,hC⟩:=hC;obtain ⟨c9,hC⟩:=hC;obtain ⟨c10,hC⟩:=hC;obtain ⟨c11,hC⟩:=hC;obtain ⟨c12,hC⟩:=hC;obtain ⟨c13,hC⟩:=hC
    obtain ⟨c14,hC⟩:=hC;obtain ⟨c15,hC⟩:=hC;obtain ⟨c16,hC⟩:=hC;obtain ⟨c17,hC⟩:=hC;obtain ⟨c18,hC⟩:=hC;obtain ⟨c19,hC⟩:=hC;have cb:=hC;clear hC;have HT:=qH (c19 (hall 19 (by decide +kernel))).2
    obtain rfl:=c0 (hall 0 (by decide +kernel))
    obtain rfl:=c1 (hall 1 (by decide +kernel))
    obtain rfl:=c2 (hall 2 (by decide +kernel))
    obtain rfl:=c3 (hall 3 (by decide +kernel))
    obtain rfl:=c4 (hall 4 (by decide +kernel))
    obtain rfl:=c5 (hall 5 (by decide +kernel))
    obtain rfl:=c6 (hall 6 (by decide +kernel))
    obtain rfl:=c7 (hall 7 (by decide +kernel))
    obtain rfl:=c8 (hall 8 (by decide +kernel))
    obtain rfl:=c9 (hall 9 (by decide +kernel))
    obtain rfl:=c10 (hall 10 (by decide +kernel))
    obtain rfl:=c11 (hall 11 (by decide +kernel))
    obtain rfl:=c12 (hall 12 (by decide +kernel))
    obtain rfl:=c13 (hall 13 (by decide +kernel))
    obtain rfl:=c14 (hall 14 (by decide +kernel))
    obtain rfl:=c15 (hall 15 (by decide +kernel))
    obtain ⟨_,_,_,_,rfl⟩:=c16 (hall 16 (by decide +kernel))
    obtain ⟨_,rfl⟩:=c17 (hall 17 (by decide +kernel))
    obtain ⟨_,rfl⟩:=c18 (hall 18 (by decide +kernel))
    clear c16 c17 c18 c19 cb hall hB;simp only [putAll,Act.put,qA,qB,qC];obtain ⟨p7,hS7,hK7⟩:=HT.out;clear HT
    have hg7:bkN x6 (moveK c who x6.bk ga gb)=bkN ⟨x.bk,x.tk + 1,x.nx,la⟩ (givesK c who (keepN x.asked 0) (askK c who x.bk).1):=by
     rw [← Hx6.out]
     unfold givesK
     rw [Hla.out,HKV.out,show (giveV c (askK c who x.bk).1.rows who KV)=(ga,gb) by rw [← Hg.out,← Hx6.out]]
     rw [if_pos (show quietB c who (askK c who x.bk).1=true by rw [← Hq.out,← Hx6.out])]
    obtain ⟨x7,Hx7⟩:∃ z,Hid (bkN ⟨x.bk,x.tk + 1,x.nx,la⟩ (givesK c who (keepN x.asked 0) (askK c who x.bk).1)=z):=⟨_,rfl⟩;rw [hg7,Hx7.out] at hS7;obtain ⟨W7,HW7⟩:∃ z,z=w':=⟨_,rfl⟩;subst HW7;have HS7:=qH hS7;have HK7:=qH (HK6.out.trans hK7);clear hS7 hK7 hg7
    -- from W7: x7,p7,code6
    have HD:Hid (code6=0→IK c who (clearK x7.bk)):=qH fun h=>by rw [← Hx7.out]; exact IK.due Hok.out (Hcd6.out.trans h)
    obtain ⟨x8,Hx8⟩:∃ z,Hid ((if code6=0 then bkN x7 (settleK c who (clearK x7.bk)) else x7)=z):=⟨_,rfl⟩
    have OS:=qH (settle18_calls HS7.out HD.out);rw [Hx8.out] at OS
    go_wp2_with fail
    refine OS.out.mono ?_;rintro e W8 ⟨rfl,p8,hS8,hK8⟩;have HS8:=qH hS8;have HK8:=qH (HK7.out.trans hK8);clear hS8 hK8 OS
    have hx8 : ∀ k : Bk, bkN x8 k = ⟨k, x.tk + 1, x.nx, la⟩ := fun k => by rw [← Hx8.out]; by_cases h : code6 = 0
                                                                           · rw [if_pos h,← Hx7.out]
                                                                           · rw [if_neg h,← Hx7.out]
    have Hx8b:=qH hx8;clear hx8;have Hx8d:Hid (code6=0→x8.bk=dueK c who x):=qH fun h=>by rw [← Hx8.out,if_pos h,← Hx7.out]; unfold dueK; rw [Hla.out]
    have OW:=qH (HWR.out x8 p8 code6 W8 HS8.out (fun h=>by rw [Hx8d.out h]; exact (IK.due Hok.out (Hcd6.out.trans h)).settle))
    go_wp2_with fail
    refine OW.out.mono ?_;rintro e W9 ⟨A,m,C,k9,p9,cd9,rfl,hS9,hK9,hn9,hm9,hy9⟩;rw [Hx8b.out] at hS9;have HS9:=qH hS9;have HK9:=qH (HK8.out.trans hK9);have Hn9:=qH hn9;have Hm9:=qH hm9;have Hy9:Hid (code6=0→(writeK who (dueK c who x) c.n.toNat=none→cd9=6)∧∀ k1 l,writeK who (dueK c who x) c.n.toNat=some (k1,l)→cd9=0∧k9=k1∧m=l.length∧Stay (Mine n0 E g p9) W9 (fun V=>P V A m C l)):=qH fun h=>by rw [← Hx8d.out h]; exact hy9 h
    clear hS9 hK9 hn9 hm9 hy9 OW;obtain ⟨wv,Hwv⟩:∃ z:Int,Hid (((waitV c.p k9.asks draw:Nat):Int)=z):=⟨_,rfl⟩;have hwv:0≤wv∧wv≤1000:=by rw [← Hwv.out]; have h1:waitV c.p k9.asks draw≤1000:=wait_small c.p k9.asks draw; omega
    have hwv0:=hwv.1;have hwv1:=hwv.2;clear hwv
    have HWt:Hid (∀ w',Below W9.heap.size W9 w'→Calls Tryz.prog 126 #[.int .i64 c.p,.int .i64 k9.asks,.int .u32 draw] w' (fun e w2=>e=.returned (.int .i64 wv)∧Below w'.heap.size w' w2)):=fun w' _=>by
     have h1:=wWait_calls c.p k9.asks draw Hdr.out w';rw [Hwv.out] at h1
     exact h1
    have hlt9:=HS9.out.lt;have hn0:n0≤W9.heap.size:=by have:=HS9.out.le; omega
    obtain ⟨tk1,Htk1⟩:∃ z,Hid (x.tk + 1=z):=⟨_,rfl⟩;have htk0:0≤tk1:=by have:=Htk.out.1; have:=Htk1.out; omega
    have htk1:tk1≤1125899906842625:=by have:=Htk.out.2; have:=Htk1.out; omega
    rw [Htk1.out] at HS9;have hwrap:IntKind.i64.wrap (tk1 + wv)=tk1 + wv:=IntWalk.i64_in _ (by omega)
    go_wp2_with fail
    refine wp_region_each_at ?hm ?hb (fun a0 d a' w'=>∃ (e0 e1 e2 e3 e4 e5 e6 e7 e8 e9 e10 e11 e12 e13 e14 e15 e16 e17 e18 e19 e20 e21:Value),a'=putAll a0 [(76,e0),(77,e1),(78,e2),(79,e3),(80,e4),(81,e5),(82,e6),(83,e7),(84,e8),(85,e9),(86,e10),(87,e11),(88,e12),(89,e13),(90,e14),(91,e15),(92,e16),(93,e17),(94,e18),(95,e19),(96,e20),(97,e21)]∧Below n0 W9 w'∧(d 0=true→e0=(.pointer (some ⟨g,0,none⟩)))∧(d 1=true→e1=(.pointer (some ⟨g,0,none⟩)))∧(d 2=true→e2=(.pointer (some ⟨g,0,none⟩)))∧(d 3=true→e3=(.pointer (some ⟨g,12,none⟩)))∧(d 4=true→e4=(.pointer (some ⟨g,12,none⟩)))∧(d 5=true→e5=(.int .i64 tk1))∧(d 6=true→e6=(.pointer (some ⟨g,0,none⟩)))∧(d 7=true→e7=(.pointer (some ⟨g,0,none⟩)))∧(d 8=true→e8=(.pointer (some ⟨g,15,none⟩)))∧(d 9=true→e9=(.pointer (some ⟨g,18,none⟩)))∧(d 10=true→e10=(.int .i64 c.p))∧(d 11=true→e11=(.pointer (some ⟨g,0,none⟩)))∧(d 12=true→e12=(.pointer (some ⟨g,0,none⟩)))∧(d 13=true→e13=(.pointer (some ⟨g,0,none⟩)))∧(d 14=true→e14=(.pointer (some ⟨g,4,none⟩)))∧(d 15=true→e15=(.int .i64 k9.asks))∧(d 16=true→e16=(.int .u32 draw))∧(d 17=true→(d 10=true∧d 15=true∧e17=(.int .i64 wv)))∧(d 18=true→(d 5=true∧d 17=true∧e18=(.int .i64 (tk1 + wv))))∧(d 19=true→e19=(.pointer (some ⟨g,0,none⟩)))∧(d 20=true→e20=(.pointer (some ⟨g,12,none⟩)))∧(d 21=true→e21=(.pointer (some ⟨g,13,none⟩)))∧(d 22=true→(d 18=true∧St n0 E w' g c who ⟨k9,tk1,tk1 + wv,la⟩ p9 cd9∧Kept g p9 p9 W9 w'))∧(d 22=false→Below W9.heap.size W9 w')) ?h0 ?step ?ends
    case hm=>kernel_rfl
    case hb=>kernel_rfl
    case h0 =>
     refine ⟨undef,undef,undef,undef,undef,undef,undef,undef,undef,undef,undef,undef,undef,undef,undef,undef,undef,undef,undef,undef,undef,undef,?_,(Below.refl _ _).drew,fun h=>absurd h (by decide),fun h=>absurd h (by decide),fun h=>absurd h (by decide),fun h=>absurd h (by decide),fun h=>absurd h (by decide),fun h=>absurd h (by decide),fun h=>absurd h (by decide),fun h=>absurd h (by decide),fun h=>absurd h (by decide),fun h=>absurd h (by decide),fun h=>absurd h (by decide),fun h=>absurd h (by decide),fun h=>absurd h (by decide),fun h=>absurd h (by decide),fun h=>absurd h (by decide),fun h=>absurd h (by decide),fun h=>absurd h (by decide),fun h=>absurd h (by decide),fun h=>absurd h (by decide),fun h=>absurd h (by decide),fun h=>absurd h (by decide),fun h=>absurd h (by decide),fun h=>absurd h (by decide),fun _=>(Below.refl _ _).drew⟩
     simp only [putAll,Act.put,qA,qB,qC]
    case step =>
     intro i d a' w' hi hJ hd hk;obtain ⟨e0,e1,e2,e3,e4,e5,e6,e7,e8,e9,e10,e11,e12,e13,e14,e15,e16,e17,e18,e19,e20,e21,rfl,hC⟩:=hJ;obtain ⟨hB,hC⟩:=hC;obtain ⟨c0,hC⟩:=hC;obtain ⟨c1,hC⟩:=hC;obtain ⟨c2,hC⟩:=hC;obtain ⟨c3,hC⟩:=hC;obtain ⟨c4,hC⟩:=hC;obtain ⟨c5,hC⟩:=hC;obtain ⟨c6,hC⟩:=hC;obtain ⟨c7,hC⟩:=hC;obtain ⟨c8,hC⟩:=hC;obtain ⟨c9,hC⟩:=hC;obtain ⟨c10,hC⟩:=hC;obtain ⟨c11,hC⟩:=hC;obtain ⟨c12,hC⟩:=hC;obtain ⟨c13,hC⟩:=hC
     obtain ⟨c14,hC⟩:=hC;obtain ⟨c15,hC⟩:=hC;obtain ⟨c16,hC⟩:=hC;obtain ⟨c17,hC⟩:=hC;obtain ⟨c18,hC⟩:=hC;obtain ⟨c19,hC⟩:=hC;obtain ⟨c20,hC⟩:=hC;obtain ⟨c21,hC⟩:=hC;obtain ⟨c22,hC⟩:=hC;have cb:=hC;clear hC;have Xc0:=qH c0; clear c0;have Xc1:=qH c1; clear c1;have Xc2:=qH c2; clear c2;have Xc3:=qH c3; clear c3;have Xc4:=qH c4; clear c4;have Xc5:=qH c5; clear c5;have Xc6:=qH c6; clear c6;have Xc7:=qH c7; clear c7
     have Xc8:=qH c8; clear c8;have Xc9:=qH c9; clear c9;have Xc10:=qH c10; clear c10;have Xc11:=qH c11; clear c11;have Xc12:=qH c12; clear c12;have Xc13:=qH c13; clear c13;have Xc14:=qH c14; clear c14;have Xc15:=qH c15; clear c15;have Xc16:=qH c16; clear c16;have Xc17:=qH c17; clear c17;have Xc18:=qH c18; clear c18;have Xc19:=qH c19; clear c19;have Xc20:=qH c20; clear c20;have Xc21:=qH c21; clear c21
     have Xc22:=qH c22; clear c22;have Xcb:=qH cb; clear cb
     match i,hi,hd,hk with
     | 0, _, hd, hk =>
       apply wpOp_at
       case ho=>rfl
       intro K hK;simp only [putAll,Act.put,qA,qB,qC];go_simp;refine hK _ _ ⟨(.pointer (some ⟨g,0,none⟩)),_,_,_,_,_,_,_,_,_,_,_,_,_,_,_,_,_,_,_,_,_,?_,hB,fun _=>rfl,Xc1,Xc2,Xc3,Xc4,Xc5,Xc6,Xc7,Xc8,Xc9,Xc10,Xc11,Xc12,Xc13,Xc14,Xc15,Xc16,Xc17,Xc18,Xc19,Xc20,Xc21,Xc22,Xcb⟩
       simp only [putAll,Act.put,qA,qB,qC]
     | 1, _, hd, hk =>
       apply wpOp_at
       case ho=>rfl
       intro K hK;simp only [putAll,Act.put,qA,qB,qC];go_simp;refine hK _ _ ⟨_,(.pointer (some ⟨g,0,none⟩)),_,_,_,_,_,_,_,_,_,_,_,_,_,_,_,_,_,_,_,_,?_,hB,Xc0,fun _=>rfl,Xc2,Xc3,Xc4,Xc5,Xc6,Xc7,Xc8,Xc9,Xc10,Xc11,Xc12,Xc13,Xc14,Xc15,Xc16,Xc17,Xc18,Xc19,Xc20,Xc21,Xc22,Xcb⟩
       simp only [putAll,Act.put,qA,qB,qC]
     | 2, _, hd, hk =>
       have h1:=hk 1 (by decide +kernel)
       have c1:=Xc1.out;obtain rfl:=c1 h1;clear c1;apply wpOp_at
       case ho=>rfl
       intro K hK;simp only [putAll,Act.put,qA,qB,qC];go_simp;refine hK _ _ ⟨_,(.pointer (some ⟨g,0,none⟩)),(.pointer (some ⟨g,0,none⟩)),_,_,_,_,_,_,_,_,_,_,_,_,_,_,_,_,_,_,_,?_,hB,Xc0,Xc1,fun _=>rfl,Xc3,Xc4,Xc5,Xc6,Xc7,Xc8,Xc9,Xc10,Xc11,Xc12,Xc13,Xc14,Xc15,Xc16,Xc17,Xc18,Xc19,Xc20,Xc21,Xc22,Xcb⟩
       simp only [putAll,Act.put,qA,qB,qC]
     | 3, _, hd, hk =>
       have h2:=hk 2 (by decide +kernel)
       have c2:=Xc2.out;obtain rfl:=c2 h2;clear c2;apply wpOp_at
       case ho=>rfl
       intro K hK;simp only [putAll,Act.put,qA,qB,qC];go_simp;refine hK _ _ ⟨_,_,(.pointer (some ⟨g,0,none⟩)),(.pointer (some ⟨g,12,none⟩)),_,_,_,_,_,_,_,_,_,_,_,_,_,_,_,_,_,_,?_,hB,Xc0,Xc1,Xc2,fun _=>rfl,Xc4,Xc5,Xc6,Xc7,Xc8,Xc9,Xc10,Xc11,Xc12,Xc13,Xc14,Xc15,Xc16,Xc17,Xc18,Xc19,Xc20,Xc21,Xc22,Xcb⟩
       simp only [putAll,Act.put,qA,qB,qC]
     | 4, _, hd, hk =>
       have h3:=hk 3 (by decide +kernel)
       have c3:=Xc3.out;obtain rfl:=c3 h3;clear c3;apply wpOp_at
       case ho=>rfl
       intro K hK;simp only [putAll,Act.put,qA,qB,qC];go_simp;refine hK _ _ ⟨_,_,_,(.pointer (some ⟨g,12,none⟩)),(.pointer (some ⟨g,12,none⟩)),_,_,_,_,_,_,_,_,_,_,_,_,_,_,_,_,_,?_,hB,Xc0,Xc1,Xc2,Xc3,fun _=>rfl,Xc5,Xc6,Xc7,Xc8,Xc9,Xc10,Xc11,Xc12,Xc13,Xc14,Xc15,Xc16,Xc17,Xc18,Xc19,Xc20,Xc21,Xc22,Xcb⟩
       simp only [putAll,Act.put,qA,qB,qC]
     | 5, _, hd, hk =>
       have h4:=hk 4 (by decide +kernel)
       have c4:=Xc4.out;have c18:=Xc18.out;have c22:=Xc22.out;have cb:=Xcb.out;obtain rfl:=c4 h4;have hd22:d 22=false:=by cases h:d 22 with | false=>rfl | true=>exact Bool.noConfusion (hd.symm.trans (c18 (c22 h).1).1)
       have hB9:=cb hd22;have z12:w'.cell? ⟨g,12,none⟩=some (.int .i64 tk1):=(HS9.out.later hB9).ob.cell 12;clear c4 c18 c22 cb;apply wpOp_at
       case ho=>rfl
       intro K hK;simp only [putAll,Act.put,qA,qB,qC];go_simp;have c18:=Xc18.out;refine hK _ _ ⟨_,_,_,_,(.pointer (some ⟨g,12,none⟩)),(.int .i64 tk1),_,_,_,_,_,_,_,_,_,_,_,_,e18,_,_,_,?_,hB,Xc0,Xc1,Xc2,Xc3,Xc4,fun _=>rfl,Xc6,Xc7,Xc8,Xc9,Xc10,Xc11,Xc12,Xc13,Xc14,Xc15,Xc16,Xc17,fun h=>Bool.noConfusion (hd.symm.trans (c18 h).1),Xc19,Xc20,Xc21,Xc22,Xcb⟩
       simp only [putAll,Act.put,qA,qB,qC]
     | 6, _, hd, hk =>
       apply wpOp_at
       case ho=>rfl
       intro K hK;simp only [putAll,Act.put,qA,qB,qC];go_simp;refine hK _ _ ⟨_,_,_,_,_,_,(.pointer (some ⟨g,0,none⟩)),_,_,_,_,_,_,_,_,_,_,_,_,_,_,_,?_,hB,Xc0,Xc1,Xc2,Xc3,Xc4,Xc5,fun _=>rfl,Xc7,Xc8,Xc9,Xc10,Xc11,Xc12,Xc13,Xc14,Xc15,Xc16,Xc17,Xc18,Xc19,Xc20,Xc21,Xc22,Xcb⟩
       simp only [putAll,Act.put,qA,qB,qC]
     | 7, _, hd, hk =>
       have h6:=hk 6 (by decide +kernel)
       have c6:=Xc6.out;obtain rfl:=c6 h6;clear c6;apply wpOp_at
       case ho=>rfl
       intro K hK;simp only [putAll,Act.put,qA,qB,qC];go_simp;refine hK _ _ ⟨_,_,_,_,_,_,(.pointer (some ⟨g,0,none⟩)),(.pointer (some ⟨g,0,none⟩)),_,_,_,_,_,_,_,_,_,_,_,_,_,_,?_,hB,Xc0,Xc1,Xc2,Xc3,Xc4,Xc5,Xc6,fun _=>rfl,Xc8,Xc9,Xc10,Xc11,Xc12,Xc13,Xc14,Xc15,Xc16,Xc17,Xc18,Xc19,Xc20,Xc21,Xc22,Xcb⟩
       simp only [putAll,Act.put,qA,qB,qC]
     | 8, _, hd, hk =>
       have h7:=hk 7 (by decide +kernel)
       have c7:=Xc7.out;obtain rfl:=c7 h7;clear c7;apply wpOp_at
       case ho=>rfl
       intro K hK;simp only [putAll,Act.put,qA,qB,qC];go_simp;refine hK _ _ ⟨_,_,_,_,_,_,_,(.pointer (some ⟨g,0,none⟩)),(.pointer (some ⟨g,15,none⟩)),_,_,_,_,_,_,_,_,_,_,_,_,_,?_,hB,Xc0,Xc1,Xc2,Xc3,Xc4,Xc5,Xc6,Xc7,fun _=>rfl,Xc9,Xc10,Xc11,Xc12,Xc13,Xc14,Xc15,Xc16,Xc17,Xc18,Xc19,Xc20,Xc21,Xc22,Xcb⟩
       simp only [putAll,Act.put,qA,qB,qC]
     | 9, _, hd, hk =>
       have h8:=hk 8 (by decide +kernel)
       have c8:=Xc8.out;obtain rfl:=c8 h8;clear c8;apply wpOp_at
       case ho=>rfl
       intro K hK;simp only [putAll,Act.put,qA,qB,qC];go_simp;refine hK _ _ ⟨_,_,_,_,_,_,_,_,(.pointer (some ⟨g,15,none⟩)),(.pointer (some ⟨g,18,none⟩)),_,_,_,_,_,_,_,_,_,_,_,_,?_,hB,Xc0,Xc1,Xc2,Xc3,Xc4,Xc5,Xc6,Xc7,Xc8,fun _=>rfl,Xc10,Xc11,Xc12,Xc13,Xc14,Xc15,Xc16,Xc17,Xc18,Xc19,Xc20,Xc21,Xc22,Xcb⟩
       simp only [putAll,Act.put,qA,qB,qC]
     | 10, _, hd, hk =>
       have h9:=hk 9 (by decide +kernel)
       have c9:=Xc9.out;have c17:=Xc17.out;have c18:=Xc18.out;have c22:=Xc22.out;have cb:=Xcb.out;obtain rfl:=c9 h9;have hd22:d 22=false:=by cases h:d 22 with | false=>rfl | true=>exact Bool.noConfusion (hd.symm.trans (c17 (c18 (c22 h).1).2.1).1)
       have hB9:=cb hd22;have z18:w'.cell? ⟨g,18,none⟩=some (.int .i64 c.p):=(HS9.out.later hB9).ob.cell 18;clear c9 c17 c18 c22 cb;apply wpOp_at
       case ho=>rfl
       intro K hK;simp only [putAll,Act.put,qA,qB,qC];go_simp;have c17:=Xc17.out;refine hK _ _ ⟨_,_,_,_,_,_,_,_,_,(.pointer (some ⟨g,18,none⟩)),(.int .i64 c.p),_,_,_,_,_,_,e17,_,_,_,_,?_,hB,Xc0,Xc1,Xc2,Xc3,Xc4,Xc5,Xc6,Xc7,Xc8,Xc9,fun _=>rfl,Xc11,Xc12,Xc13,Xc14,Xc15,Xc16,fun h=>Bool.noConfusion (hd.symm.trans (c17 h).1),Xc18,Xc19,Xc20,Xc21,Xc22,Xcb⟩
       simp only [putAll,Act.put,qA,qB,qC]
     | 11, _, hd, hk =>
       apply wpOp_at
       case ho=>rfl
       intro K hK;simp only [putAll,Act.put,qA,qB,qC];go_simp;refine hK _ _ ⟨_,_,_,_,_,_,_,_,_,_,_,(.pointer (some ⟨g,0,none⟩)),_,_,_,_,_,_,_,_,_,_,?_,hB,Xc0,Xc1,Xc2,Xc3,Xc4,Xc5,Xc6,Xc7,Xc8,Xc9,Xc10,fun _=>rfl,Xc12,Xc13,Xc14,Xc15,Xc16,Xc17,Xc18,Xc19,Xc20,Xc21,Xc22,Xcb⟩
       simp only [putAll,Act.put,qA,qB,qC]
     | 12, _, hd, hk =>
       have h11:=hk 11 (by decide +kernel)
       have c11:=Xc11.out;obtain rfl:=c11 h11;clear c11;apply wpOp_at
       case ho=>rfl
       intro K hK;simp only [putAll,Act.put,qA,qB,qC];go_simp;refine hK _ _ ⟨_,_,_,_,_,_,_,_,_,_,_,(.pointer (some ⟨g,0,none⟩)),(.pointer (some ⟨g,0,none⟩)),_,_,_,_,_,_,_,_,_,?_,hB,Xc0,Xc1,Xc2,Xc3,Xc4,Xc5,Xc6,Xc7,Xc8,Xc9,Xc10,Xc11,fun _=>rfl,Xc13,Xc14,Xc15,Xc16,Xc17,Xc18,Xc19,Xc20,Xc21,Xc22,Xcb⟩
       simp only [putAll,Act.put,qA,qB,qC]
     | 13, _, hd, hk =>
       have h12:=hk 12 (by decide +kernel)
       have c12:=Xc12.out;obtain rfl:=c12 h12;clear c12;apply wpOp_at
       case ho=>rfl
       intro K hK;simp only [putAll,Act.put,qA,qB,qC];go_simp;refine hK _ _ ⟨_,_,_,_,_,_,_,_,_,_,_,_,(.pointer (some ⟨g,0,none⟩)),(.pointer (some ⟨g,0,none⟩)),_,_,_,_,_,_,_,_,?_,hB,Xc0,Xc1,Xc2,Xc3,Xc4,Xc5,Xc6,Xc7,Xc8,Xc9,Xc10,Xc11,Xc12,fun _=>rfl,Xc14,Xc15,Xc16,Xc17,Xc18,Xc19,Xc20,Xc21,Xc22,Xcb⟩
       simp only [putAll,Act.put,qA,qB,qC]
     | 14, _, hd, hk =>
       have h13:=hk 13 (by decide +kernel)
       have c13:=Xc13.out;obtain rfl:=c13 h13;clear c13;apply wpOp_at
       case ho=>rfl
       intro K hK;simp only [putAll,Act.put,qA,qB,qC];go_simp;refine hK _ _ ⟨_,_,_,_,_,_,_,_,_,_,_,_,_,(.pointer (some ⟨g,0,none⟩)),(.pointer (some ⟨g,4,none⟩)),_,_,_,_,_,_,_,?_,hB,Xc0,Xc1,Xc2,Xc3,Xc4,Xc5,Xc6,Xc7,Xc8,Xc9,Xc10,Xc11,Xc12,Xc13,fun _=>rfl,Xc15,Xc16,Xc17,Xc18,Xc19,Xc20,Xc21,Xc22,Xcb⟩
       simp only [putAll,Act.put,qA,qB,qC]
     | 15, _, hd, hk =>
       have h14:=hk 14 (by decide +kernel)
       have c14:=Xc14.out;have c17:=Xc17.out;have c18:=Xc18.out;have c22:=Xc22.out;have cb:=Xcb.out;obtain rfl:=c14 h14;have hd22:d 22=false:=by cases h:d 22 with | false=>rfl | true=>exact Bool.noConfusion (hd.symm.trans (c17 (c18 (c22 h).1).2.1).2.1)
       have hB9:=cb hd22;have z4:w'.cell? ⟨g,4,none⟩=some (.int .i64 k9.asks):=(HS9.out.later hB9).ob.cell 4;clear c14 c17 c18 c22 cb;apply wpOp_at
       case ho=>rfl
       intro K hK;simp only [putAll,Act.put,qA,qB,qC];go_simp;have c17:=Xc17.out;refine hK _ _ ⟨_,_,_,_,_,_,_,_,_,_,_,_,_,_,(.pointer (some ⟨g,4,none⟩)),(.int .i64 k9.asks),_,e17,_,_,_,_,?_,hB,Xc0,Xc1,Xc2,Xc3,Xc4,Xc5,Xc6,Xc7,Xc8,Xc9,Xc10,Xc11,Xc12,Xc13,Xc14,fun _=>rfl,Xc16,fun h=>Bool.noConfusion (hd.symm.trans (c17 h).2.1),Xc18,Xc19,Xc20,Xc21,Xc22,Xcb⟩
       simp only [putAll,Act.put,qA,qB,qC]
     | 16, _, hd, hk =>
       apply wpOp_at
       case ho=>rfl
       intro K hK;simp only [putAll,Act.put,qA,qB,qC];go_simp;refine hK _ _ ⟨_,_,_,_,_,_,_,_,_,_,_,_,_,_,_,_,(.int .u32 draw),_,_,_,_,_,?_,hB,Xc0,Xc1,Xc2,Xc3,Xc4,Xc5,Xc6,Xc7,Xc8,Xc9,Xc10,Xc11,Xc12,Xc13,Xc14,Xc15,fun _=>rfl,Xc17,Xc18,Xc19,Xc20,Xc21,Xc22,Xcb⟩
       simp only [putAll,Act.put,qA,qB,qC]
     | 17, _, hd, hk =>
       have h10:=hk 10 (by decide +kernel)
       have h15:=hk 15 (by decide +kernel)
       have h16:=hk 16 (by decide +kernel)
       have c10:=Xc10.out;have c15:=Xc15.out;have c16:=Xc16.out;have c18:=Xc18.out;have c22:=Xc22.out;have cb:=Xcb.out;obtain rfl:=c10 h10;obtain rfl:=c15 h15;obtain rfl:=c16 h16;have hd22:d 22=false:=by cases h:d 22 with | false=>rfl | true=>exact Bool.noConfusion (hd.symm.trans (c18 (c22 h).1).2.1)
       have hB9:=cb hd22;clear c10 c15 c16 c18 c22 cb;apply wpOp_at
       case ho=>rfl
       intro K hK;simp only [putAll,Act.put,qA,qB,qC];go_simp;have c18:=Xc18.out;have c22:=Xc22.out;have cb:=Xcb.out;refine (HWt.out _ hB9).mono ?_;rintro e w'' ⟨rfl,hb⟩;refine hK _ _ ⟨_,_,_,_,_,_,_,_,_,_,(.int .i64 c.p),_,_,_,_,(.int .i64 k9.asks),(.int .u32 draw),(.int .i64 wv),e18,_,_,_,?_,hB.trans (hb.mono (Nat.le_trans hn0 hB9.size)),Xc0,Xc1,Xc2,Xc3,Xc4,Xc5,Xc6,Xc7,Xc8,Xc9,Xc10,Xc11,Xc12,Xc13,Xc14,Xc15,Xc16,fun _=>⟨h10,h15,rfl⟩,fun h=>Bool.noConfusion (hd.symm.trans (c18 h).2.1),Xc19,Xc20,Xc21,fun h=>Bool.noConfusion (hd.symm.trans (c18 (c22 h).1).2.1),fun h=>held_next (cb h) hb⟩
       simp only [putAll,Act.put,qA,qB,qC]
     | 18, _, hd, hk =>
       have h5:=hk 5 (by decide +kernel)
       have h17:=hk 17 (by decide +kernel)
       have c5:=Xc5.out;have c17:=Xc17.out;obtain rfl:=c5 h5;obtain ⟨-,-,rfl⟩:=c17 h17;clear c5 c17;apply wpOp_at
       case ho=>rfl
       intro K hK;simp only [putAll,Act.put,qA,qB,qC];go_simp;have c22:=Xc22.out;refine hK _ _ ⟨_,_,_,_,_,(.int .i64 tk1),_,_,_,_,_,_,_,_,_,_,_,(.int .i64 wv),(.int .i64 (tk1 + wv)),_,_,_,?_,hB,Xc0,Xc1,Xc2,Xc3,Xc4,Xc5,Xc6,Xc7,Xc8,Xc9,Xc10,Xc11,Xc12,Xc13,Xc14,Xc15,Xc16,Xc17,fun _=>⟨h5,h17,rfl⟩,Xc19,Xc20,Xc21,fun h=>Bool.noConfusion (hd.symm.trans (c22 h).1),Xcb⟩
       simp only [putAll,Act.put,qA,qB,qC]
     | 19, _, hd, hk =>
       have h0:=hk 0 (by decide +kernel)
       have c0:=Xc0.out;obtain rfl:=c0 h0;clear c0;apply wpOp_at
       case ho=>rfl
       intro K hK;simp only [putAll,Act.put,qA,qB,qC];go_simp;refine hK _ _ ⟨(.pointer (some ⟨g,0,none⟩)),_,_,_,_,_,_,_,_,_,_,_,_,_,_,_,_,_,_,(.pointer (some ⟨g,0,none⟩)),_,_,?_,hB,Xc0,Xc1,Xc2,Xc3,Xc4,Xc5,Xc6,Xc7,Xc8,Xc9,Xc10,Xc11,Xc12,Xc13,Xc14,Xc15,Xc16,Xc17,Xc18,fun _=>rfl,Xc20,Xc21,Xc22,Xcb⟩
       simp only [putAll,Act.put,qA,qB,qC]
     | 20, _, hd, hk =>
       have h19:=hk 19 (by decide +kernel)
       have c19:=Xc19.out;obtain rfl:=c19 h19;clear c19;apply wpOp_at
       case ho=>rfl
       intro K hK;simp only [putAll,Act.put,qA,qB,qC];go_simp;refine hK _ _ ⟨_,_,_,_,_,_,_,_,_,_,_,_,_,_,_,_,_,_,_,(.pointer (some ⟨g,0,none⟩)),(.pointer (some ⟨g,12,none⟩)),_,?_,hB,Xc0,Xc1,Xc2,Xc3,Xc4,Xc5,Xc6,Xc7,Xc8,Xc9,Xc10,Xc11,Xc12,Xc13,Xc14,Xc15,Xc16,Xc17,Xc18,Xc19,fun _=>rfl,Xc21,Xc22,Xcb⟩
       simp only [putAll,Act.put,qA,qB,qC]
     | 21, _, hd, hk =>
       have h20:=hk 20 (by decide +kernel)
       have c20:=Xc20.out;obtain rfl:=c20 h20;clear c20;apply wpOp_at
       case ho=>rfl
       intro K hK;simp only [putAll,Act.put,qA,qB,qC];go_simp;refine hK _ _ ⟨_,_,_,_,_,_,_,_,_,_,_,_,_,_,_,_,_,_,_,_,(.pointer (some ⟨g,12,none⟩)),(.pointer (some ⟨g,13,none⟩)),?_,hB,Xc0,Xc1,Xc2,Xc3,Xc4,Xc5,Xc6,Xc7,Xc8,Xc9,Xc10,Xc11,Xc12,Xc13,Xc14,Xc15,Xc16,Xc17,Xc18,Xc19,Xc20,fun _=>rfl,Xc22,Xcb⟩
       simp only [putAll,Act.put,qA,qB,qC]
     | 22, _, hd, hk =>
       have h18:=hk 18 (by decide +kernel)
       have h21:=hk 21 (by decide +kernel)
       have c18:=Xc18.out;have c21:=Xc21.out;have cb:=Xcb.out;obtain rfl:=c21 h21;obtain ⟨-,-,rfl⟩:=c18 h18;have hB9:=cb hd;have hS9:=HS9.out.later hB9;have q13:=hS9.ob.cell 13;have y13:=hS9.ob.free 13;have hM:=hS9.nx (tk1 + wv);clear c18 c21 cb;apply wpOp_at
       case ho=>rfl
       intro K hK;simp only [putAll,Act.put,qA,qB,qC];go_simp;refine hK _ _ ⟨_,_,_,_,_,_,_,_,_,_,_,_,_,_,_,_,_,_,(.int .i64 (tk1 + wv)),_,_,(.pointer (some ⟨g,13,none⟩)),?_,hB.setCell (p:=⟨g,13,none⟩) HS9.out.le _,Xc0,Xc1,Xc2,Xc3,Xc4,Xc5,Xc6,Xc7,Xc8,Xc9,Xc10,Xc11,Xc12,Xc13,Xc14,Xc15,Xc16,Xc17,Xc18,Xc19,Xc20,Xc21,fun _=>⟨h18,hM.1,(Kept.of hB9).trans hM.2⟩,fun h=>Bool.noConfusion (show true=false from h)⟩
       simp only [putAll,Act.put,qA,qB,qC]
     | k + 23,hi,_,_=>exact absurd hi (by simp)
    case ends =>
     intro d a' w' hJ hall;obtain ⟨e0,e1,e2,e3,e4,e5,e6,e7,e8,e9,e10,e11,e12,e13,e14,e15,e16,e17,e18,e19,e20,e21,rfl,hC⟩:=hJ;obtain ⟨hB,hC⟩:=hC;obtain ⟨c0,hC⟩:=hC;obtain ⟨c1,hC⟩:=hC;obtain ⟨c2,hC⟩:=hC;obtain ⟨c3,hC⟩:=hC;obtain ⟨c4,hC⟩:=hC;obtain ⟨c5,hC⟩:=hC;obtain ⟨c6,hC⟩:=hC;obtain ⟨c7,hC⟩:=hC;obtain ⟨c8,hC⟩:=hC;obtain ⟨c9,hC⟩:=hC;obtain ⟨c10,hC⟩:=hC;obtain ⟨c11,hC⟩:=hC;obtain ⟨c12,hC⟩:=hC;obtain ⟨c13,hC⟩:=hC
     obtain ⟨c14,hC⟩:=hC;obtain ⟨c15,hC⟩:=hC;obtain ⟨c16,hC⟩:=hC;obtain ⟨c17,hC⟩:=hC;obtain ⟨c18,hC⟩:=hC;obtain ⟨c19,hC⟩:=hC;obtain ⟨c20,hC⟩:=hC;obtain ⟨c21,hC⟩:=hC;obtain ⟨c22,hC⟩:=hC;have cb:=hC;clear hC;have HT:=qH (c22 (hall 22 (by decide +kernel))).2
     obtain rfl:=c0 (hall 0 (by decide +kernel))
     obtain rfl:=c1 (hall 1 (by decide +kernel))
     obtain rfl:=c2 (hall 2 (by decide +kernel))
     obtain rfl:=c3 (hall 3 (by decide +kernel))
     obtain rfl:=c4 (hall 4 (by decide +kernel))
     obtain rfl:=c5 (hall 5 (by decide +kernel))
     obtain rfl:=c6 (hall 6 (by decide +kernel))
     obtain rfl:=c7 (hall 7 (by decide +kernel))
     obtain rfl:=c8 (hall 8 (by decide +kernel))
     obtain rfl:=c9 (hall 9 (by decide +kernel))
     obtain rfl:=c10 (hall 10 (by decide +kernel))
     obtain rfl:=c11 (hall 11 (by decide +kernel))
     obtain rfl:=c12 (hall 12 (by decide +kernel))
     obtain rfl:=c13 (hall 13 (by decide +kernel))
     obtain rfl:=c14 (hall 14 (by decide +kernel))
     obtain rfl:=c15 (hall 15 (by decide +kernel))
     obtain rfl:=c16 (hall 16 (by decide +kernel))
     obtain rfl:=c19 (hall 19 (by decide +kernel))
     obtain rfl:=c20 (hall 20 (by decide +kernel))
     obtain rfl:=c21 (hall 21 (by decide +kernel))
     obtain ⟨_,_,rfl⟩:=c17 (hall 17 (by decide +kernel))
     obtain ⟨_,_,rfl⟩:=c18 (hall 18 (by decide +kernel))
     clear c17 c18 c22 cb hall hB;simp only [putAll,Act.put,qA,qB,qC];have HK10:=qH (HK9.out.trans HT.out.2)
     go_wp2_with fail
     refine bodyPost_ret (v:=.slice A m C) (by simp [results,Tryz.results61,go_sem]) rfl ⟨A,m,C,_,p9,cd9,rfl,HT.out.1,HK10.out,fun h=>absurd rfl h,fun _=>?_⟩
     have hf:=pass_fin (draw:=draw) (cd6:=code6) (cd9:=cd9) (k9:=k9) (m:=m) (Q:=fun l=>Stay (Mine n0 E g p9) w' (fun V=>P V A m C l)) Hok.out (by have:=H1.out; omega) (by have:=H2.out; omega) Hcd6.out Hn9.out Hm9.out (fun h V _=>by rw [h]; exact HP.out V A C) (fun h6=>by
      obtain ⟨y1,y2⟩:=Hy9.out h6
      exact ⟨y1,fun k1 l hw=>by
       obtain ⟨a1,a2,a3,a4⟩:=y2 k1 l hw
       exact ⟨a1,a2,a3,fun V hV=>a4 V ((HT.out.2.but.wide fun b e=>e.elim (fun e=>Or.inr (Or.inl e)) (fun e=>Or.inr (Or.inr (Or.inl e)))).trans hV)⟩⟩)
     rw [Hla.out,Hwv.out,Htk1.out] at hf
     exact hf
end Go.Proofs.YtecjnkokdnmhlaaGreat
