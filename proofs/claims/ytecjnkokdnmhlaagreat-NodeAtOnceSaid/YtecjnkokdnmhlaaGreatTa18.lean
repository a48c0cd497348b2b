/- Parts, as far as NodeAtOnceCards reaches them, of: AuditClear, AuditNext. No law is proved here. -/
import Derived.Lib.SliceRun
import Derived.Test.YtecjnkokdnmhlaaGreatTa17
namespace Go.Proofs.YtecjnkokdnmhlaaGreat
open Go.RowKit
theorem below_cells {B:Nat} {w0:World} {b:Nat} (hb:B≤b):∀ (vs:List Value) (o:Nat) (w:World),Below B w0 w→Below B w0 (w.setCells b o vs)
 | [],_,_,h=>h
 | v :: r,o,_,h=>below_cells hb r (o + 1) _ (h.setCell (p:=⟨b,o,none⟩) hb v)
theorem whole_cells {g:Nat} {t:TypeId} {cs:Array Value} {b:Nat} (hne:g ≠ b):∀ (vs:List Value) (o:Nat) (w:World),Whole w g t cs→Whole (w.setCells b o vs) g t cs
 | [],_,_,h=>h
 | v :: r,o,_,h=>whole_cells hne r (o + 1) _ (h.other (p:=⟨b,o,none⟩) hne v)
theorem own_cells {base:Nat} {e:TypeId} {s n:Nat} {v:Value} {xs:List Value} {b:Nat} (hne:v.ownBlock ≠ some b):∀ (vs:List Value) (o:Nat) (w:World),w.ownsRow base e s v n xs→(w.setCells b o vs).ownsRow base e s v n xs
 | [],_,_,h=>h
 | u :: r,o,_,h=>own_cells hne r (o + 1) _ (own_other (q:=⟨b,o,none⟩) h hne u)
def clr (l:List Bool) (o:Nat):Nat→List Bool
 | 0=>l
 | k + 1=>clr (l.set o false) (o + 1) k
theorem clr_length:∀ (k o:Nat) (l:List Bool),(clr l o k).length=l.length
 | 0,_,_=>rfl
 | k + 1,o,l=>by rw [clr,clr_length k (o + 1),List.length_set]
theorem clr_at:∀ (k o i:Nat) (l:List Bool),o≤i→i < o + k→i < l.length→(clr l o k)[i]?=some false
 | 0,o,i,l,h1,h2,_=>by omega
 | k + 1, o, i, l, h1, h2, h3 => by
   rw [clr]
   by_cases e:i=o
   · subst e
     exact clr_low k (i + 1) i _ (by omega) (List.getElem?_set_self h3)
   · exact clr_at k (o + 1) i _ (by omega) (by omega) (by rw [List.length_set]; exact h3)
where
 clr_low:∀ (k o i:Nat) (l:List Bool),i < o→l[i]?=some false→(clr l o k)[i]?=some false
  | 0,_,_,_,_,h=>h
  | k + 1, o, i, l, h1, h => by
    rw [clr]
    exact clr_low k (o + 1) i _ (by omega) (by rw [List.getElem?_set_ne (by omega)]; exact h)
theorem clr_all (l:List Bool):clr l 0 l.length=List.replicate l.length false:=by
 apply List.ext_getElem?;intro i
 by_cases hi:i < l.length
 · rw [clr_at l.length 0 i l (Nat.zero_le _) (by omega) hi,List.getElem?_replicate,if_pos hi]
 · rw [List.getElem?_eq_none (by rw [clr_length]; omega),List.getElem?_eq_none (by rw [List.length_replicate]; omega)]
theorem own_clear {base b n c:Nat}:∀ (k o:Nat) (l:List Bool) (w:World),OwnT w base (.slice (some ⟨b,0,none⟩) n c) l→o + k≤l.length→OwnT (w.setCells b o (List.replicate k (.bool false))) base (.slice (some ⟨b,0,none⟩) n c) (clr l o k)
 | 0,_,_,_,h,_=>h
 | k + 1, o, l, w, h, ho => by
   obtain ⟨b',cap,hv,_,_,_,_,h2⟩:=own_t_set h (i:=o) (by omega) false
   simp only [Value.slice.injEq,Option.some.injEq,Addr.mk.injEq] at hv;obtain ⟨⟨rfl,_⟩,_⟩:=hv;rw [List.replicate_succ]
   show OwnT ((w.setCell ⟨b,o,none⟩ (.bool false)).setCells b (o + 1) (List.replicate k (.bool false))) base _ (clr (l.set o false) (o + 1) k)
   exact own_clear k (o + 1) (l.set o false) _ h2 (by rw [List.length_set]; omega)
theorem run_clear_bools {w:World} {base b n c:Nat} {l:List Bool} (h:OwnT w base (.slice (some ⟨b,0,none⟩) n c) l) (hn:n=l.length) (hpos:0 < n) :
 (∀ ty,(Builtin.clear_ #[30] ty #[.slice (some ⟨b,0,none⟩) n c]).run Tryz.prog w=.ok (.tuple #[]) (w.setCells b 0 (List.replicate n (.bool false))))∧OwnT (w.setCells b 0 (List.replicate n (.bool false))) base (.slice (some ⟨b,0,none⟩) n c) (List.replicate l.length false):=by
 subst hn;obtain ⟨i0,hi,hz0,hz1,hz2⟩:=info_parts info_bool;refine ⟨fun ty=>Lib.run_clear_slice w _ _ ty (.bool false) Tryz.underlying30 (fun w=>by simp [zeroValue,typeInfo,hi,hz0]) rfl rfl b 0 _ _ hpos (fun j hj=>?_) (fun j hj=>?_),?_⟩
 · obtain ⟨b',cap,hv,_,_,_,hc,_⟩:=own_t_set h (i:=j) hj false
   simp only [Value.slice.injEq,Option.some.injEq,Addr.mk.injEq] at hv;obtain ⟨⟨rfl,_⟩,_⟩:=hv;rw [Nat.zero_add,hc]; rfl
 · obtain ⟨b',cap,hv,_,_,hf,_,_⟩:=own_t_set h (i:=j) hj false
   simp only [Value.slice.injEq,Option.some.injEq,Addr.mk.injEq] at hv;obtain ⟨⟨rfl,_⟩,_⟩:=hv;rw [Nat.zero_add,hf]
 · rw [← clr_all l]
   exact own_clear l.length 0 l w h (by omega)
end Go.Proofs.YtecjnkokdnmhlaaGreat
namespace Go.Proofs.YtecjnkokdnmhlaaGreat
open Go.RowKit
theorem next_is {c:Cf} {who:Int} {x:Au} {l:List Rw} (h:auOk c who x) (hr:rightOk c l) :
 nextA c who x l=if alB who x 1=true then (⟨x.try_,2,List.replicate x.told.length false,x.use.set who.toNat (at_ l who.toNat).use,x.inc,x.moved⟩,true) else (x,false):=by
 unfold nextA
 rw [if_pos ⟨h,hr⟩,alB_all h (by decide)]
 by_cases h2:x.ph=1∧allA who x
 · rw [if_pos h2,if_pos (decide_eq_true h2)]
 · rw [if_neg h2,if_neg (by rw [decide_eq_false h2]; decide)]
theorem al_runs {c:Cf} {who:Int} {x:Au} (h:auOk c who x) (ha:alB who x 1=true):runsOk c who x:=by
 rcases h.2.2 with h2 | h2
 · rw [h2] at ha; exact absurd (of_decide_eq_true ha).1 (by decide)
 · exact h2
set_option maxRecDepth 100000 in
set_option maxHeartbeats 8000000 in
theorem aNextF_calls (c:Cf) (who:Int) (x:Au) (p:Al) (a:Option Addr) (m cp:Nat) (l:List Rw) (hm:m=l.length) (w:World) (hA:AuIn w p x) (hB:Books w (.slice a m cp) l) :
 Calls Tryz.prog 142 #[cfV c,.int .i64 who,auAt x p,.slice a m cp] w (GoesAO w (fun _=>True) (nextA c who x l)):=by
 have HK:Hid (KeptAR w c x p (((w.alloc (.cells (cfCells c) 23)).alloc (.cells (auCells x (.slice p.a1 p.m1 p.c1) (.slice p.a2 p.m2 p.c2) (.slice p.a3 p.m3 p.c3)) 33)).alloc (.cells (auCells au0 (.slice none 0 0) (.slice none 0 0) (.slice none 0 0)) 33))) :=
  ⟨⟨below_three w _ _ _,((Whole.made w _ _).alloc _).alloc _,(Whole.made2 w _ _ _).alloc _⟩,whole3 w _ _ _ _⟩
 have HC1:=qH (fun w hA=>aMay_calls c who x p w hA)
 have HC2:=qH (fun w hB=>rRight_calls c a m cp l hm w hB)
 have HC3:=qH (fun hs w hA=>aucopied_calls x p hs w hA)
 have HC4:=qH (fun w hA=>auall_calls who x p 1 w hA)
 have hlen:auOk c who x→p.m1≤100000∧p.m2≤100000∧p.m3≤100000:=fun h=>by
  have:=au_small h;have h1:=hA.1.1;have h2:=hA.2.1.1;have h3:=hA.2.2.1
  omega
 have Hlen:=qH hlen; clear hlen;have HA:=qH hA; clear hA;have HB:=qH hB; clear hB;have Hm:=qH hm; clear hm;obtain ⟨a1,m1,k1,a2,m2,k2,a3,m3,k3⟩:=p;obtain ⟨n,q,r,p,kk,cc⟩:=c;obtain ⟨tr,ph,told,use,inc,moved⟩:=x;obtain ⟨res,Hres⟩:∃ z,Hid (nextA ⟨n,q,r,p,kk,cc⟩ who ⟨tr,ph,told,use,inc,moved⟩ l=z):=⟨_,qH rfl⟩;rw [Hres.out];obtain ⟨ok,Hok⟩:∃ z,Hid (auB ⟨n,q,r,p,kk,cc⟩ who ⟨tr,ph,told,use,inc,moved⟩=z):=⟨_,qH rfl⟩
 obtain ⟨rt,Hrt⟩:∃ z,Hid (rightB ⟨n,q,r,p,kk,cc⟩ l=z):=⟨_,qH rfl⟩;obtain ⟨al,Hal⟩:∃ z,Hid (alB who ⟨tr,ph,told,use,inc,moved⟩ 1=z):=⟨_,qH rfl⟩;have no:¬ (ok=true∧rt=true)→res=(au0,false):=fun h=>Hres.out.symm.trans (if_neg fun h2=>h ⟨Hok.out.symm.trans (decide_eq_true h2.1),Hrt.out.symm.trans (decide_eq_true h2.2)⟩)
 have No:=qH no; clear no;have hend:∀ W0 W,W=au6 W0 (w.heap.size + 1 + 1) au0 ⟨none,0,0,none,0,0,none,0,0⟩→Below w.heap.size w W0→Below w.heap.size w W:=fun W0 W e h=>by rw [e]; exact au6_below h (by omega)
 have Hend:=qH hend; clear hend
 go_enter Tryz.func142,Tryz.ntmps142
 obtain ⟨d0,d1,d2,d3,d4,d5⟩:=config_cells HK.out.1.2.1;obtain ⟨e0,e1,e2,e3,e4,e5⟩:=au_cells HK.out.1.2.2;simp only at d0 d1 d2 d3 d4 d5 e0 e1 e2 e3 e4 e5
 go_wp2_with fail
 refine (HC1.out _ (HA.out.later HK.out.1.1)).mono ?_;rw [Hok.out];rintro e w1 ⟨rfl,hb⟩;have HK1:=qH (HK.out.later hb);clear hb HK d0 d1 d2 d3 d4 d5 e0 e1 e2 e3 e4 e5
 cases ok with
 | false =>
   obtain rfl:=No.out (fun h=>by cases h.1)
   have y0:=HK1.out.2.free 0;have y1:=HK1.out.2.free 1;have y2:=HK1.out.2.free 2;have y3:=HK1.out.2.free 3;have y4:=HK1.out.2.free 4;have y5:=HK1.out.2.free 5;obtain ⟨z0,z1,z2,z3,z4,z5⟩:=au_cells HK1.out.2;simp only at z0 z1 z2 z3 z4 z5;have HZn:=qH (au6_whole (y:=au0) (p:=⟨none,0,0,none,0,0,none,0,0⟩) HK1.out.2)
   go_wp2_with fail
   obtain ⟨q0,q1,q2,q3,q4,q5⟩:=au_cells HZn.out;simp only [au6] at q0 q1 q2 q3 q4 q5;refine bodyPost_ret (v:=.tuple #[auAt au0 ⟨none,0,0,none,0,0,none,0,0⟩,.bool false]) (by simp [results,Tryz.results142,go_sem,q0,q1,q2,q3,q4,q5]) rfl ⟨⟨none,0,0,none,0,0,none,0,0⟩,rfl,au_in_none _,Hend.out w1 _ rfl HK1.out.1.1,fun _ _ _=>off_none _⟩
 | true =>
 obtain ⟨d0,d1,d2,d3,d4,d5⟩:=config_cells HK1.out.1.2.1;simp only at d0 d1 d2 d3 d4 d5
 go_wp2_with fail
 refine (HC2.out _ (HB.out.later HK1.out.1.1)).mono ?_;rw [Hrt.out];rintro e w2 ⟨rfl,hb⟩;have HK2:=qH (HK1.out.later hb);clear hb HK1 d0 d1 d2 d3 d4 d5;have y0:=HK2.out.2.free 0;have y1:=HK2.out.2.free 1;have y2:=HK2.out.2.free 2;have y3:=HK2.out.2.free 3;have y4:=HK2.out.2.free 4;have y5:=HK2.out.2.free 5;obtain ⟨z0,z1,z2,z3,z4,z5⟩:=au_cells HK2.out.2;simp only at z0 z1 z2 z3 z4 z5
 cases rt with
 | false =>
   obtain rfl:=No.out (fun h=>by cases h.2)
   have HZn:=qH (au6_whole (y:=au0) (p:=⟨none,0,0,none,0,0,none,0,0⟩) HK2.out.2)
   go_wp2_with fail
   obtain ⟨q0,q1,q2,q3,q4,q5⟩:=au_cells HZn.out;simp only [au6] at q0 q1 q2 q3 q4 q5;refine bodyPost_ret (v:=.tuple #[auAt au0 ⟨none,0,0,none,0,0,none,0,0⟩,.bool false]) (by simp [results,Tryz.results142,go_sem,q0,q1,q2,q3,q4,q5]) rfl ⟨⟨none,0,0,none,0,0,none,0,0⟩,rfl,au_in_none _,Hend.out w2 _ rfl HK2.out.1.1,fun _ _ _=>off_none _⟩
 | true =>
 clear z0 z1 z2 z3 z4 z5 y0 y1 y2 y3 y4 y5 No Hend;have Hau:=qH (of_decide_eq_true Hok.out);have Hri:=qH (of_decide_eq_true Hrt.out);obtain ⟨e0,e1,e2,e3,e4,e5⟩:=au_cells HK2.out.1.2.2;simp only at e0 e1 e2 e3 e4 e5
 go_wp2_with fail
 refine (HC3.out (Hlen.out Hau.out) _ (HA.out.later HK2.out.1.1)).mono ?_;rintro e w3 ⟨⟨A1,M1,K1,A2,M2,K2,A3,M3,K3⟩,rfl,hO,hb⟩;have HK3:=qH (HK2.out.later hb);have hB3:w.heap.size + 1 + 1 < w2.heap.size:=HK2.out.2.lt;have HB3:=qH hB3;have HO3:=qH hO;have hs23:=hb.size;clear hb hO e0 e1 e2 e3 e4 e5 hB3;have hnew:=below_box w3 (.cells (auCells ⟨tr,ph,told,use,inc,moved⟩ (.slice A1 M1 K1) (.slice A2 M2 K2) (.slice A3 M3 K3)) 33)
 have HK4:=qH (HK3.out.later hnew);have HO4:=qH (HO3.out.later hnew);have HX4:=qH (Whole.made w3 33 (auCells ⟨tr,ph,told,use,inc,moved⟩ (.slice A1 M1 K1) (.slice A2 M2 K2) (.slice A3 M3 K3)));clear hnew HK2;obtain ⟨e0,e1,e2,e3,e4,e5⟩:=au_cells HK4.out.1.2.2;simp only at e0 e1 e2 e3 e4 e5
 go_wp2_with fail
 refine (HC4.out _ (HA.out.later HK4.out.1.1)).mono ?_;rw [Hal.out];rintro e w5 ⟨rfl,hb⟩;have HK5:=qH (HK4.out.later hb);have HO5:=qH (HO4.out.later hb);have HX5:=qH (HX4.out.later hb HX4.out.lt);have HN5:=qH (next_is Hau.out Hri.out);clear hb HK4 HO4 HX4 HK3 e0 e1 e2 e3 e4 e5;have hsm:=au_small Hau.out;have Hsm:Hid (told.length≤16∧use.length≤16∧inc.length≤16):=hsm;clear hsm;have hg10:w.heap.size + 1 + 1 < w3.heap.size:=Nat.lt_of_lt_of_le HB3.out hs23
 cases al with
 | false =>
   obtain rfl:res=(⟨tr,ph,told,use,inc,moved⟩,false):=Hres.out.symm.trans (HN5.out.trans (by rw [Hal.out]; rfl))
   have y0:=HK5.out.2.free 0;have y1:=HK5.out.2.free 1;have y2:=HK5.out.2.free 2;have y3:=HK5.out.2.free 3;have y4:=HK5.out.2.free 4;have y5:=HK5.out.2.free 5;obtain ⟨z0,z1,z2,z3,z4,z5⟩:=au_cells HK5.out.2;simp only at z0 z1 z2 z3 z4 z5;obtain ⟨x0,x1,x2,x3,x4,x5⟩:=au_cells HX5.out;simp only at x0 x1 x2 x3 x4 x5;have HZn:=qH (au6_whole (y:=⟨tr,ph,told,use,inc,moved⟩) (p:=⟨A1,M1,K1,A2,M2,K2,A3,M3,K3⟩) HK5.out.2)
   have HOn:=qH (HO5.out.six HB3.out ⟨tr,ph,told,use,inc,moved⟩ ⟨A1,M1,K1,A2,M2,K2,A3,M3,K3⟩);have hbn:=au6_below (g:=w.heap.size + 1 + 1) (y:=⟨tr,ph,told,use,inc,moved⟩) (p:=⟨A1,M1,K1,A2,M2,K2,A3,M3,K3⟩) HK5.out.1.1 (by omega)
   have Hbn:=qH hbn;clear hbn
   go_wp2_with fail
   obtain ⟨q0,q1,q2,q3,q4,q5⟩:=au_cells HZn.out;simp only [au6] at q0 q1 q2 q3 q4 q5;refine bodyPost_ret (v:=.tuple #[auAt ⟨tr,ph,told,use,inc,moved⟩ ⟨A1,M1,K1,A2,M2,K2,A3,M3,K3⟩,.bool false]) (by simp [results,Tryz.results142,go_sem,q0,q1,q2,q3,q4,q5]) rfl ⟨⟨A1,M1,K1,A2,M2,K2,A3,M3,K3⟩,rfl,?_,?_,?_⟩
   · exact HOn.out.in (by have:=Hsm.out; show told.length≤1000000∧use.length≤1000000∧inc.length≤1000000; omega)
   · exact Hbn.out
   · intro g _ hg
     exact HOn.out.off (hg.imp (fun h=>by have:=HB3.out; omega) id)
 | true =>
   obtain ⟨v,Hv⟩:∃ z,Hid ((at_ l who.toNat).use=z):=⟨_,rfl⟩;obtain rfl:res=(⟨tr,2,List.replicate told.length false,use.set who.toNat v,inc,moved⟩,true):=Hres.out.symm.trans (HN5.out.trans (by rw [Hal.out,← Hv.out]; rfl))
   clear Hres HN5;have hrun:=al_runs Hau.out Hal.out;have hw0:0≤who:=Hau.out.2.1.1;have hwn:who < n:=Hau.out.2.1.2;have hlen3:(told.length:Int)=n∧(use.length:Int)=n∧(inc.length:Int)=n:=⟨hrun.2.2.1,hrun.2.2.2.1,hrun.2.2.2.2.1⟩;have hln:(l.length:Int)=n:=Hri.out.2.1;have hm1:M1=told.length:=HO5.out.1.1;have hm2:M2=use.length:=HO5.out.2.1.1;have hm3:M3=inc.length:=HO5.out.2.2.1.1;obtain ⟨b1,C1,hv1,hlo1,hlt1,-,-,-⟩:=own_t_set HO5.out.1.2 (i:=0) (show 0 < told.length by omega) false
   simp only [Value.slice.injEq] at hv1;obtain ⟨rfl,-,rfl⟩:=hv1;obtain ⟨b2,C2,hv2,hlo2,hlt2,-,-,-⟩:=own_n_set HO5.out.2.1.2 (i:=who.toNat) (show who.toNat < use.length by omega) 0
   simp only [Value.slice.injEq] at hv2;obtain ⟨rfl,-,rfl⟩:=hv2;have n1:(Value.slice (some ⟨b1,0,none⟩) M1 K1).ownBlock ≠ some w3.heap.size:=own_past HO3.out.1.2 (Nat.le_refl _);have n2:(Value.slice (some ⟨b2,0,none⟩) M2 K2).ownBlock ≠ some w3.heap.size:=own_past HO3.out.2.1.2 (Nat.le_refl _);have n3:(Value.slice A3 M3 K3).ownBlock ≠ some w3.heap.size:=own_past HO3.out.2.2.1.2 (Nat.le_refl _);have g21:(Value.slice (some ⟨b2,0,none⟩) M2 K2).ownBlock ≠ some b1:=own_apart HO5.out.1.2 HO5.out.2.1.2 (by decide) rfl
   have g31:(Value.slice A3 M3 K3).ownBlock ≠ some b1:=own_apart HO5.out.1.2 HO5.out.2.2.1.2 (by decide) rfl
   have g32:(Value.slice A3 M3 K3).ownBlock ≠ some b2:=HO5.out.2.2.2 b2 rfl;have hB3:=HB3.out;have hb13:w3.heap.size ≠ b1:=fun e=>n1 (by rw [e]; rfl)
   have hb23:w3.heap.size ≠ b2:=fun e=>n2 (by rw [e]; rfl)
   have hb12:b1 ≠ b2:=fun e=>g21 (by rw [e]; rfl)
   obtain ⟨W6,hW6⟩:∃ z,w5.setCell ⟨w3.heap.size,1,none⟩ (.int .i64 2)=z:=⟨_,rfl⟩;have hX6:Whole W6 w3.heap.size 33 (auCells ⟨tr,2,told,use,inc,moved⟩ (.slice (some ⟨b1,0,none⟩) M1 K1) (.slice (some ⟨b2,0,none⟩) M2 K2) (.slice A3 M3 K3)):=by rw [← hW6]; exact HX5.out.set 1 _
   have hR6:Whole W6 (w.heap.size + 1 + 1) 33 (auCells au0 (.slice none 0 0) (.slice none 0 0) (.slice none 0 0)):=by rw [← hW6]; exact HK5.out.2.other (p:=⟨w3.heap.size,1,none⟩) (by show w.heap.size + 1 + 1 ≠ w3.heap.size; omega) _
   have hB6:Below w.heap.size w W6:=by rw [← hW6]; exact HK5.out.1.1.setCell (p:=⟨w3.heap.size,1,none⟩) (by show w.heap.size≤w3.heap.size; omega) _
   have hT6:OwnT W6 w2.heap.size (.slice (some ⟨b1,0,none⟩) M1 K1) told:=by rw [← hW6]; exact own_other (q:=⟨w3.heap.size,1,none⟩) HO5.out.1.2 n1 _
   have hU6:OwnN W6 w2.heap.size (.slice (some ⟨b2,0,none⟩) M2 K2) use:=by rw [← hW6]; exact own_other (q:=⟨w3.heap.size,1,none⟩) HO5.out.2.1.2 n2 _
   have hI6:OwnN W6 w2.heap.size (.slice A3 M3 K3) inc:=by rw [← hW6]; exact own_other (q:=⟨w3.heap.size,1,none⟩) HO5.out.2.2.1.2 n3 _
   obtain ⟨hcl,hT7⟩:=run_clear_bools hT6 hm1 (show 0 < M1 by omega)
   obtain ⟨W7,hW7⟩:∃ z,W6.setCells b1 0 (List.replicate M1 (.bool false))=z:=⟨_,rfl⟩;rw [hW7] at hT7;have hX7:=whole_cells hb13 (List.replicate M1 (.bool false)) 0 W6 hX6;have hR7:=whole_cells (b:=b1) (by omega) (List.replicate M1 (.bool false)) 0 W6 hR6
   have hB7:=below_cells (b:=b1) (by omega) (List.replicate M1 (.bool false)) 0 W6 hB6
   have hU7:=own_cells g21 (List.replicate M1 (.bool false)) 0 W6 hU6;have hI7:=own_cells g31 (List.replicate M1 (.bool false)) 0 W6 hI6;rw [hW7] at hX7 hR7 hB7 hU7 hI7;have y1:=HX5.out.free 1;obtain ⟨x0,x1,x2,x3,x4,x5⟩:=au_cells HX5.out;simp only at x0 x1 x2 x3 x4 x5;have HX6:=qH hX6;have HX7:=qH hX7; have HR7:=qH hR7; have HB7:=qH hB7; have HT7:=qH hT7; have HU7:=qH hU7; have HI7:=qH hI7;obtain ⟨u0,u1,u2,u3,u4,u5⟩:=au_cells hX6
   simp only at u0 u1 u2 u3 u4 u5;have HW6:=qH hW6; have HW7:=qH hW7;clear hX6 hR6 hB6 hT6 hU6 hI6 hX7 hR7 hB7 hT7 hU7 hI7;rw [← HW6.out] at hcl u0 u1 u2 u3 u4 u5;clear hW6 hW7 hB3;have HM:=qH (And.intro hm1 (And.intro hm2 hm3));have Hlen3:=qH hlen3;have Hrun:=qH hrun;have hlm:who < (m:Int):=by have:=Hm.out; omega
   have hl2:who < (M2:Int):=by omega
   have Hln:=qH hln;clear hm1 hm2 hm3 hlen3 hrun hln hwn
   go_wp2_with fail
   rw [HW6.out,HW7.out];obtain ⟨b9,off9,A9,C9,rfl,hbw9,r0,r1,r2,hN9⟩:=(HB.out.later HB7.out).at (k:=who.toNat) (by have:=Hm.out; omega)
   clear hN9 r0 r2;rw [Hv.out] at r1;obtain ⟨b2',C2',hv2,-,-,f2,s2,hU8⟩:=own_n_set HU7.out (i:=who.toNat) (show who.toNat < use.length by have:=HM.out.2.1; omega) v
   simp only [Value.slice.injEq,Option.some.injEq,Addr.mk.injEq,and_true] at hv2;obtain ⟨rfl,-,rfl⟩:=hv2;obtain ⟨x0,x1,x2,x3,x4,x5⟩:=au_cells HX7.out;simp only at x0 x1 x2 x3 x4 x5;have hlb2:w.heap.size + 1 + 1 < b2:=Nat.lt_of_lt_of_le HB3.out hlo2;have hX8:Whole (W7.drew.setCell ⟨b2,who.toNat,none⟩ (.int .i64 v)) w3.heap.size 33 (auCells ⟨tr,2,told,use,inc,moved⟩ (.slice (some ⟨b1,0,none⟩) M1 K1) (.slice (some ⟨b2,0,none⟩) M2 K2) (.slice A3 M3 K3)):=HX7.out.drew.other (p:=⟨b2,who.toNat,none⟩) hb23 _
   have hR8:Whole (W7.drew.setCell ⟨b2,who.toNat,none⟩ (.int .i64 v)) (w.heap.size + 1 + 1) 33 (auCells au0 (.slice none 0 0) (.slice none 0 0) (.slice none 0 0)):=HR7.out.drew.other (p:=⟨b2,who.toNat,none⟩) (by show w.heap.size + 1 + 1 ≠ b2; omega) _
   have hB8:Below w.heap.size w (W7.drew.setCell ⟨b2,who.toNat,none⟩ (.int .i64 v)):=HB7.out.drew.setCell (p:=⟨b2,who.toNat,none⟩) (by show w.heap.size≤b2; omega) _
   have hT8:OwnT (W7.drew.setCell ⟨b2,who.toNat,none⟩ (.int .i64 v)) w2.heap.size (.slice (some ⟨b1,0,none⟩) M1 K1) (List.replicate told.length false):=own_other (q:=⟨b2,who.toNat,none⟩) (w:=W7.drew) HT7.out (by simpa [Value.ownBlock] using hb12) _
   have hI8:OwnN (W7.drew.setCell ⟨b2,who.toNat,none⟩ (.int .i64 v)) w2.heap.size (.slice A3 M3 K3) inc:=own_other (q:=⟨b2,who.toNat,none⟩) (w:=W7.drew) HI7.out g32 _;have hU8':OwnN (W7.drew.setCell ⟨b2,who.toNat,none⟩ (.int .i64 v)) w2.heap.size (.slice (some ⟨b2,0,none⟩) M2 K2) (use.set who.toNat v):=hU8;have HA8:Hid ((Whole (W7.drew.setCell ⟨b2,who.toNat,none⟩ (.int .i64 v)) w3.heap.size 33 (auCells ⟨tr,2,told,use,inc,moved⟩ (.slice (some ⟨b1,0,none⟩) M1 K1) (.slice (some ⟨b2,0,none⟩) M2 K2) (.slice A3 M3 K3))∧Whole (W7.drew.setCell ⟨b2,who.toNat,none⟩ (.int .i64 v)) (w.heap.size + 1 + 1) 33 (auCells au0 (.slice none 0 0) (.slice none 0 0) (.slice none 0 0))∧Below w.heap.size w (W7.drew.setCell ⟨b2,who.toNat,none⟩ (.int .i64 v))∧OwnT (W7.drew.setCell ⟨b2,who.toNat,none⟩ (.int .i64 v)) w2.heap.size (.slice (some ⟨b1,0,none⟩) M1 K1) (List.replicate told.length false)∧OwnN (W7.drew.setCell ⟨b2,who.toNat,none⟩ (.int .i64 v)) w2.heap.size (.slice (some ⟨b2,0,none⟩) M2 K2) (use.set who.toNat v)∧OwnN (W7.drew.setCell ⟨b2,who.toNat,none⟩ (.int .i64 v)) w2.heap.size (.slice A3 M3 K3) inc)):=⟨hX8,hR8,hB8,hT8,hU8',hI8⟩
   clear hX8 hR8 hB8 hT8 hU8 hU8' hI8 HX7 HR7 HT7 HU7 HI7 hcl u0 u1 u2 u3 u4 u5
   go_cut [42] from 34 to 42 (fun s42 wx=>Hid (Whole wx w3.heap.size 33 (auCells ⟨tr,2,told,use,inc,moved⟩ (.slice (some ⟨b1,0,none⟩) M1 K1) (.slice (some ⟨b2,0,none⟩) M2 K2) (.slice A3 M3 K3))∧Whole wx (w.heap.size + 1 + 1) 33 (auCells au0 (.slice none 0 0) (.slice none 0 0) (.slice none 0 0))∧Below w.heap.size w wx∧OwnT wx w2.heap.size (.slice (some ⟨b1,0,none⟩) M1 K1) (List.replicate told.length false)∧OwnN wx w2.heap.size (.slice (some ⟨b2,0,none⟩) M2 K2) (use.set who.toNat v)∧OwnN wx w2.heap.size (.slice A3 M3 K3) inc))
   case first =>
    go_region
    all_goals go_wp2_with fail
    all_goals go_meet
    all_goals exact HA8.out
   case rest =>
   obtain ⟨hX8,hR8,hB8,hT8,hU8,hI8⟩:=hcut.out;have y0:=hR8.free 0;have y1:=hR8.free 1;have y2:=hR8.free 2;have y3:=hR8.free 3;have y4:=hR8.free 4;have y5:=hR8.free 5;obtain ⟨z0,z1,z2,z3,z4,z5⟩:=au_cells hR8;simp only at z0 z1 z2 z3 z4 z5;obtain ⟨x0,x1,x2,x3,x4,x5⟩:=au_cells hX8;simp only at x0 x1 x2 x3 x4 x5;have HZn:=qH (au6_whole (y:=⟨tr,2,List.replicate told.length false,use.set who.toNat v,inc,moved⟩) (p:=⟨some ⟨b1,0,none⟩,M1,K1,some ⟨b2,0,none⟩,M2,K2,A3,M3,K3⟩) hR8)
   have hO8:OwnAu wc w2.heap.size ⟨some ⟨b1,0,none⟩,M1,K1,some ⟨b2,0,none⟩,M2,K2,A3,M3,K3⟩ ⟨tr,2,List.replicate told.length false,use.set who.toNat v,inc,moved⟩ :=
    ⟨⟨by have := HM.out.1; rw [List.length_replicate]; exact this, hT8⟩, ⟨by have := HM.out.2.1; rw [List.length_set]; exact this, hU8⟩, ⟨HM.out.2.2, hI8⟩, fun b hb => by
      have e:b2=b:=by simpa [Value.ownBlock] using hb
      subst e; exact g32⟩
   have HOn:=qH (hO8.six HB3.out ⟨tr,2,List.replicate told.length false,use.set who.toNat v,inc,moved⟩ ⟨some ⟨b1,0,none⟩,M1,K1,some ⟨b2,0,none⟩,M2,K2,A3,M3,K3⟩);have hbn:=au6_below (g:=w.heap.size + 1 + 1) (y:=⟨tr,2,List.replicate told.length false,use.set who.toNat v,inc,moved⟩) (p:=⟨some ⟨b1,0,none⟩,M1,K1,some ⟨b2,0,none⟩,M2,K2,A3,M3,K3⟩) hB8 (by omega)
   have Hbn:=qH hbn;clear hbn hX8 hR8 hB8 hT8 hU8 hI8 hO8 hcut
   go_wp2_with fail
   obtain ⟨q0,q1,q2,q3,q4,q5⟩:=au_cells HZn.out;simp only [au6] at q0 q1 q2 q3 q4 q5;refine bodyPost_ret (v:=.tuple #[auAt ⟨tr,2,List.replicate told.length false,use.set who.toNat v,inc,moved⟩ ⟨some ⟨b1,0,none⟩,M1,K1,some ⟨b2,0,none⟩,M2,K2,A3,M3,K3⟩,.bool true]) (by simp [results,Tryz.results142,go_sem,q0,q1,q2,q3,q4,q5]) rfl ⟨⟨some ⟨b1,0,none⟩,M1,K1,some ⟨b2,0,none⟩,M2,K2,A3,M3,K3⟩,rfl,?_,?_,?_⟩
   · exact HOn.out.in (by have:=Hsm.out; show (List.replicate told.length false).length≤1000000∧(use.set who.toNat v).length≤1000000∧inc.length≤1000000; rw [List.length_replicate,List.length_set]; omega)
   · exact Hbn.out
   · intro g _ hg
     exact HOn.out.off (hg.imp (fun h=>by have:=HB3.out; omega) id)
end Go.Proofs.YtecjnkokdnmhlaaGreat
