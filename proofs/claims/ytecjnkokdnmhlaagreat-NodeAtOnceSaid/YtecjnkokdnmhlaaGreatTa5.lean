/- Parts, as far as NodeAtOnceCards reaches them, of: NodeSet, StampTickOne, NodeSmall, StampMay, StampBase, RqEql, RefClaimNeq. No law is proved here. -/
import Derived.Test.YtecjnkokdnmhlaaGreatTa4
import Derived.Deep.RegionHeld
import Derived.BigRegion
import Derived.WalkSmall
import Derived.Deep.RegionHeld3
import Derived.Laws.Cover3
import Derived.Deep.DeepCutAuto
namespace Go.Proofs.YtecjnkokdnmhlaaGreat
open Go.RowKit
abbrev bkN (x:Nd) (k:Bk):Nd:=⟨k,x.tk,x.nx,x.asked⟩
abbrev blN (p:Nl) (q:Bl):Nl:=⟨q,p.a,p.m,p.c⟩
abbrev lineK (k:Bk) (l:List Rq):Bk:=⟨k.clk,k.rows,l,k.outs,k.asks,k.notes,k.au⟩
abbrev outsK (k:Bk) (l:List Rq):Bk:=⟨k.clk,k.rows,k.line,l,k.asks,k.notes,k.au⟩
abbrev asksN (k:Bk) (a:Int):Bk:=⟨k.clk,k.rows,k.line,k.outs,a,k.notes,k.au⟩
abbrev clksK (k:Bk) (t:Int):Bk:=⟨t,k.rows,k.line,k.outs,k.asks,k.notes,k.au⟩
abbrev lineP (p:Bl) (A:Option Addr) (m C:Nat):Bl:=⟨p.a1,p.m1,p.c1,A,m,C,p.a3,p.m3,p.c3,p.a4,p.m4,p.c4,p.al⟩
abbrev outsP (p:Bl) (A:Option Addr) (m C:Nat):Bl:=⟨p.a1,p.m1,p.c1,p.a2,p.m2,p.c2,A,m,C,p.a4,p.m4,p.c4,p.al⟩
theorem booksO_stay {B base:Nat} {W:World} {A:Option Addr} {C:Nat} {l:List Rw} (hO:OwnBooks W base (.slice A l.length C) l) (hB:Books W (.slice A l.length C) l) (hb:B≤base):Stay (fun b=>b < B) W (fun V=>Books V (.slice A l.length C) l) :=
 fun _ hV=>(hO.butS (fun _ h=>Nat.lt_of_lt_of_le h hb) hV).here hB.long
section
variable {n0 g:Nat} {E:Nat→Prop} {W W' W1:World} {c:Cf} {who:Int} {x:Nd} {p:Nl} {code:Int}
theorem St.cod (h:St n0 E W g c who x p code) (t:Int):St n0 E (W.setCell ⟨g,22,none⟩ (.int .i64 t)) g c who (x) p (t)∧Kept g p p W (W.setCell ⟨g,22,none⟩ (.int .i64 t)) :=
 h.put ((ButS.refl (fun b=>b=g) W).set (p:=⟨g,22,none⟩) rfl _) (by have h1:=h.ob.set 22 (.int .i64 t); simp only [List.setIfInBounds_toArray,List.set_cons_zero,List.set_cons_succ] at h1; exact h1) rfl rfl (fun _ _ hr=>hr)
theorem St.clk (h:St n0 E W g c who x p code) (t:Int):St n0 E (W.setCell ⟨g,0,none⟩ (.int .i64 t)) g c who (bkN x (clksK x.bk t)) p (code)∧Kept g p p W (W.setCell ⟨g,0,none⟩ (.int .i64 t)) :=
 h.put ((ButS.refl (fun b=>b=g) W).set (p:=⟨g,0,none⟩) rfl _) (by have h1:=h.ob.set 0 (.int .i64 t); simp only [List.setIfInBounds_toArray,List.set_cons_zero] at h1; exact h1) rfl rfl (fun _ _ hr=>hr)
theorem St.asks (h:St n0 E W g c who x p code) (t:Int):St n0 E (W.setCell ⟨g,4,none⟩ (.int .i64 t)) g c who (bkN x (asksN x.bk t)) p (code)∧Kept g p p W (W.setCell ⟨g,4,none⟩ (.int .i64 t)) :=
 h.put ((ButS.refl (fun b=>b=g) W).set (p:=⟨g,4,none⟩) rfl _) (by have h1:=h.ob.set 4 (.int .i64 t); simp only [List.setIfInBounds_toArray,List.set_cons_zero,List.set_cons_succ] at h1; exact h1) rfl rfl (fun _ _ hr=>hr)
theorem St.tk (h:St n0 E W g c who x p code) (t:Int):St n0 E (W.setCell ⟨g,12,none⟩ (.int .i64 t)) g c who (⟨x.bk,t,x.nx,x.asked⟩) p (code)∧Kept g p p W (W.setCell ⟨g,12,none⟩ (.int .i64 t)) :=
 h.put ((ButS.refl (fun b=>b=g) W).set (p:=⟨g,12,none⟩) rfl _) (by have h1:=h.ob.set 12 (.int .i64 t); simp only [List.setIfInBounds_toArray,List.set_cons_zero,List.set_cons_succ] at h1; exact h1) rfl rfl (fun _ _ hr=>hr)
theorem St.nx (h:St n0 E W g c who x p code) (t:Int):St n0 E (W.setCell ⟨g,13,none⟩ (.int .i64 t)) g c who (⟨x.bk,x.tk,t,x.asked⟩) p (code)∧Kept g p p W (W.setCell ⟨g,13,none⟩ (.int .i64 t)) :=
 h.put ((ButS.refl (fun b=>b=g) W).set (p:=⟨g,13,none⟩) rfl _) (by have h1:=h.ob.set 13 (.int .i64 t); simp only [List.setIfInBounds_toArray,List.set_cons_zero,List.set_cons_succ] at h1; exact h1) rfl rfl (fun _ _ hr=>hr)
theorem St.rows (h:St n0 E W g c who x p code) {A:Option Addr} {C:Nat} {l:List Rw} (hl:Stay (Mine n0 E g p) W (fun V=>Books V (.slice A l.length C) l)) :
 St n0 E (W.setCell ⟨g,1,none⟩ (.slice A l.length C)) g c who (bkN x (rowsK x.bk l)) (blN p (rowsP p.bl A l.length C)) code∧Kept g p (blN p (rowsP p.bl A l.length C)) W (W.setCell ⟨g,1,none⟩ (.slice A l.length C)) :=
 h.put ((ButS.refl (fun b=>b=g) W).set (p:=⟨g,1,none⟩) rfl _) (by have h1:=h.ob.set 1 (.slice A l.length C); simp only [List.setIfInBounds_toArray,List.set_cons_zero,List.set_cons_succ] at h1; exact h1) rfl rfl
  (fun V hV hr=>by
   have hq:=hl V (((ButS.refl (Mine n0 E g p) W).set (p:=⟨g,1,none⟩) (Or.inr (Or.inl rfl)) _).trans hV)
   exact ⟨⟨rfl,hq⟩,hr.2⟩)
theorem St.line (h:St n0 E W g c who x p code) {A:Option Addr} {C:Nat} {l:List Rq} (hl:Stay (Mine n0 E g p) W (fun V=>Line V (.slice A l.length C) l)) :
 St n0 E (W.setCell ⟨g,2,none⟩ (.slice A l.length C)) g c who (bkN x (lineK x.bk l)) (blN p (lineP p.bl A l.length C)) code∧Kept g p (blN p (lineP p.bl A l.length C)) W (W.setCell ⟨g,2,none⟩ (.slice A l.length C)) :=
 h.put ((ButS.refl (fun b=>b=g) W).set (p:=⟨g,2,none⟩) rfl _) (by have h1:=h.ob.set 2 (.slice A l.length C); simp only [List.setIfInBounds_toArray,List.set_cons_zero,List.set_cons_succ] at h1; exact h1) rfl rfl
  (fun V hV hr=>by
   have hq:=hl V (((ButS.refl (Mine n0 E g p) W).set (p:=⟨g,2,none⟩) (Or.inr (Or.inl rfl)) _).trans hV)
   exact ⟨hr.1,⟨rfl,hq⟩,hr.2.2⟩)
theorem St.asked (h:St n0 E W g c who x p code) {A:Option Addr} {C:Nat} {l:List Int} (hl:Stay (Mine n0 E g p) W (fun V=>Nums V (.slice A l.length C) l)) :
 St n0 E (W.setCell ⟨g,14,none⟩ (.slice A l.length C)) g c who (⟨x.bk,x.tk,x.nx,l⟩) (⟨p.bl,A,l.length,C⟩) code∧Kept g p (⟨p.bl,A,l.length,C⟩) W (W.setCell ⟨g,14,none⟩ (.slice A l.length C)) :=
 h.put ((ButS.refl (fun b=>b=g) W).set (p:=⟨g,14,none⟩) rfl _) (by have h1:=h.ob.set 14 (.slice A l.length C); simp only [List.setIfInBounds_toArray,List.set_cons_zero,List.set_cons_succ] at h1; exact h1) rfl rfl
  (fun V hV hr=>by
   have hq:=hl V (((ButS.refl (Mine n0 E g p) W).set (p:=⟨g,14,none⟩) (Or.inr (Or.inl rfl)) _).trans hV)
   exact ⟨hr.1,hr.2.1,hr.2.2.1,hr.2.2.2.1,rfl,hq⟩)
theorem St.au (h:St n0 E W g c who x p code) {a:Au} {pa:Al} (hl:Stay (Mine n0 E g p) W (fun V=>AuIn V pa a)) :
 St n0 E (st6 W g a pa) g c who (bkN x (auK x.bk a)) (blN p (auP p.bl pa)) code∧Kept g p (blN p (auP p.bl pa)) W (st6 W g a pa) :=
 h.put (st6_buts (ButS.refl (fun b=>b=g) W) rfl) (by
  have h1:=(((((h.ob.set 6 (.int .i64 a.try_)).set 7 (.int .i64 a.ph)).set 8 (.slice pa.a1 pa.m1 pa.c1)).set 9 (.slice pa.a2 pa.m2 pa.c2)).set 10 (.slice pa.a3 pa.m3 pa.c3)).set 11 (.bool a.moved);simp only [List.setIfInBounds_toArray,List.set_cons_zero,List.set_cons_succ] at h1
  exact h1) rfl rfl
  (fun V hV hr=>⟨hr.1,hr.2.1,hr.2.2.1,hl V ((st6_buts (ButS.refl (Mine n0 E g p) W) (Or.inr (Or.inl rfl))).trans hV),hr.2.2.2.2⟩)
theorem St.au0 (h:St n0 E W g c who x p code):St n0 E (st6 W g au0 al0) g c who (bkN x (auK x.bk au0)) (blN p (auP p.bl al0)) code∧Kept g p (blN p (auP p.bl al0)) W (st6 W g au0 al0) :=
 h.au fun _ _=>au_in_none _
theorem St.outs0 (h:St n0 E W g c who x p code):St n0 E (W.setCell ⟨g,3,none⟩ (.slice none 0 0)) g c who (bkN x (outsK x.bk [])) (blN p (outsP p.bl none 0 0)) code∧Kept g p (blN p (outsP p.bl none 0 0)) W (W.setCell ⟨g,3,none⟩ (.slice none 0 0)):=by
 have hm:∀ b,Mine n0 E g (blN p (outsP p.bl none 0 0)) b→Mine n0 E g p b:=fun b e=>e.elim Or.inl fun e=>e.elim (fun e=>Or.inr (Or.inl e)) fun e=>e.elim (fun e=>by simp [Value.ownBlock] at e) fun e=>Or.inr (Or.inr (Or.inr e))
 refine ⟨⟨h.le,?_,fun V hV=>h.rest V (((ButS.refl _ _).set (p:=⟨g,3,none⟩) (Or.inr (Or.inl rfl)) _).trans (hV.wide hm)),rfl,⟨rfl,Or.inl ⟨rfl,rfl⟩⟩,fun b e=>by have:=h.ext b e; simpa using this⟩,(ButS.refl _ _).set (p:=⟨g,3,none⟩) (Or.inl rfl) _,fun b _ e=>by simp [Value.ownBlock] at e⟩
 have h1:=h.ob.set 3 (.slice none 0 0);simp only [List.setIfInBounds_toArray,List.set_cons_zero,List.set_cons_succ] at h1
 exact h1
def GrewTo (W W1:World) (v v':Value):Prop:=(∀ b,b < W.heap.size→v.ownBlock ≠ some b→W1.heap[b]?=W.heap[b]?)∧∀ b,b < W.heap.size→v'.ownBlock=some b→v.ownBlock=some b
theorem Grew.next {W W0 W1:World} {v v':Value} (hb:Below W.heap.size W W0) (h:Grew W0 W1 v v'):GrewTo W W1 v v' :=
 ⟨fun b hl hn=>(h.1.block b (Nat.lt_of_lt_of_le hl hb.size) (fun e=>hn e.symm)).trans (hb.block b hl),fun b hl e=>by
  rcases h.2 with h2 | h2
  · rw [← h2]; exact e
  · rw [h2] at e
    have:W0.heap.size=b:=by simpa using e
    have:=hb.size
    omega⟩
theorem St.more (h:St n0 E W g c who x p code) {A:Option Addr} {m C:Nat} {l:List Rq} (hm:m=l.length) (hO:OwnOc W1 n0 (.slice A m C) l) (hb:Below n0 W W1) (hg:GrewTo W W1 (outV p) (.slice A m C)) :
 St n0 E (W1.setCell ⟨g,3,none⟩ (.slice A m C)) g c who (bkN x (outsK x.bk l)) (blN p (outsP p.bl A m C)) code∧Kept g p (blN p (outsP p.bl A m C)) W (W1.setCell ⟨g,3,none⟩ (.slice A m C)):=by
 have hob:Whole W1 g 99 (stC c who x p code):=(hg.1 g h.lt h.own_ne).trans h.ob;have hne:(Value.slice A m C).ownBlock ≠ some g:=fun e=>h.own_ne (hg.2 g h.lt e)
 have hk:ButS (fun b=>b=g∨(outV p).ownBlock=some b) W W1:=⟨hb.mono (Nat.zero_le _),fun b hl hn=>hg.1 b hl (fun e=>hn (Or.inr e))⟩
 have hms:∀ b,b < W.heap.size→Mine n0 E g (blN p (outsP p.bl A m C)) b→Mine n0 E g p b:=fun b hl e=>e.elim Or.inl fun e=>e.elim (fun e=>Or.inr (Or.inl e)) fun e=>e.elim (fun e=>Or.inr (Or.inr (Or.inl (hg.2 b hl e)))) fun e=>Or.inr (Or.inr (Or.inr e))
 refine ⟨⟨h.le,?_,fun V hV=>h.rest V ?_,hm,outs_set (x:=bkN x (outsK x.bk l)) (p:=blN p (outsP p.bl A m C)) hO hne ((ButS.refl (fun b=>b=g) W1).set (p:=⟨g,3,none⟩) rfl _),fun b e=>Nat.lt_of_lt_of_le (h.ext b e) (hk.set (p:=⟨g,3,none⟩) (Or.inl rfl) _).size⟩,hk.set (p:=⟨g,3,none⟩) (Or.inl rfl) _,hg.2⟩
 · have h1:=hob.set 3 (.slice A m C)
   simp only [List.setIfInBounds_toArray,List.set_cons_zero,List.set_cons_succ] at h1
   exact h1
 · have h2:ButS (Mine n0 E g p) W (W1.setCell ⟨g,3,none⟩ (.slice A m C)):=(hk.wide (R:=Mine n0 E g p) fun b e=>Or.inr (e.elim Or.inl fun e=>Or.inr (Or.inl e))).set (p:=⟨g,3,none⟩) (Or.inr (Or.inl rfl)) _
   exact ⟨h2.1.trans hV.1,fun b hl hn=>(hV.2 b (Nat.lt_of_lt_of_le hl h2.size) (fun e=>hn (hms b hl e))).trans (h2.2 b hl hn)⟩
theorem St.keep (h:St n0 E W g c who x p code) {p':Nl} (k:Kept g p p' W1 W') {P:World→Prop} (hP:Stay (fun b=>b < W.heap.size) W1 P):Stay (Mine n0 E g p') W' P:=fun V hV =>
 hP V ⟨k.but.1.trans hV.1,fun b hb hn=>(hV.2 b (Nat.lt_of_lt_of_le hb k.size) (fun e=>hn (e.elim (fun e=>by have:=h.le; have:=h.lt; show b < W.heap.size; omega) fun e=>e.elim (fun e=>by rw [e]; exact h.lt) fun e=>e.elim (fun e=>(h.own_lt (k.own b hb e)).2) fun e=>h.ext b e))).trans
  (k.but.2 b hb (fun e=>hn (e.elim (fun e=>by rw [e]; exact h.lt) fun e=>(h.own_lt e).2)))⟩
end
end Go.Proofs.YtecjnkokdnmhlaaGreat
namespace Go.Proofs.YtecjnkokdnmhlaaGreat
open Go.RowKit
set_option maxHeartbeats 400000 in
theorem tick_calls (a b:Int) (w:World):Calls Tryz.prog 147 #[.int .i64 a,.int .i64 b] w (Ticks w a b):=by
 by_cases h1:a < 0
 · have H:=qH (tick_arg (Or.inl h1:a < 0∨b < 0))
   go_enter Tryz.func147,Tryz.ntmps147
   go_wp2_with fail
   go_ret2
   exact Ticks.mk H.out
 · by_cases h2:b < 0
   · have H:=qH (tick_arg (Or.inr h2:a < 0∨b < 0))
     go_enter Tryz.func147,Tryz.ntmps147
     go_wp2_with fail
     go_ret2
     exact Ticks.mk H.out
   · by_cases h3:a < b
     · by_cases h4:1125899906842624≤b
       · have H:=qH (tick_range (by omega:¬ (a < 0∨b < 0)) (Or.inr h4))
         go_enter Tryz.func147,Tryz.ntmps147
         go_wp2_with fail
         go_ret2
         exact Ticks.mk H.out
       · have H:=qH (tick_b (by omega:¬ (a < 0∨b < 0)) (by omega) h3)
         go_enter Tryz.func147,Tryz.ntmps147
         go_wp2_with fail
         go_ret2
         exact Ticks.mk H.out
     · by_cases h4:1125899906842624≤a
       · have H:=qH (tick_range (by omega:¬ (a < 0∨b < 0)) (Or.inl h4))
         go_enter Tryz.func147,Tryz.ntmps147
         go_wp2_with fail
         go_ret2
         exact Ticks.mk H.out
       · have H:=qH (tick_a (by omega:¬ (a < 0∨b < 0)) (by omega) h3)
         go_enter Tryz.func147,Tryz.ntmps147
         go_wp2_with fail
         go_ret2
         exact Ticks.mk H.out
end Go.Proofs.YtecjnkokdnmhlaaGreat
namespace Go.Proofs.YtecjnkokdnmhlaaGreat
open Go.RowKit
set_option maxRecDepth 100000 in
set_option maxHeartbeats 4000000 in
theorem stopped_calls {n0 g:Nat} {E:Nat→Prop} {c:Cf} {who:Int} {x:Nd} {p:Nl} {code:Int} {W:World} (h:St n0 E W g c who x p code) :
 Calls Tryz.prog 79 #[.pointer (some ⟨g,0,none⟩)] W (fun e w'=>e=.returned (.bool (decide (code ≠ 0)))∧W=w'):=by
 have z22:W.cell? ⟨g,22,none⟩=some (.int .i64 code):=h.ob.cell 22;have hlt:=h.lt
 by_cases hc:code=0
 · have hd:decide (code ≠ 0)=false:=decide_eq_false (fun k=>k hc)
   rw [hd];subst hc;clear h hd
   go_enter Tryz.func79,Tryz.ntmps79
   go_wp2
   go_ret
   exact ⟨by rfl,rfl⟩
 · have hd:decide (code ≠ 0)=true:=decide_eq_true hc
   have hb:(code != 0)=true:=bne_iff_ne.2 hc;rw [hd];clear h hd
   go_enter Tryz.func79,Tryz.ntmps79
   go_wp2
   go_ret
   exact ⟨by first | rfl | (simp; done) | (simp [hc]; done),rfl⟩
set_option maxRecDepth 100000 in
set_option maxHeartbeats 4000000 in
theorem waits_calls {n0 g:Nat} {E:Nat→Prop} {c:Cf} {who:Int} {x:Nd} {p:Nl} {code:Int} {W:World} (h:St n0 E W g c who x p code) :
 Calls Tryz.prog 137 #[.pointer (some ⟨g,0,none⟩)] W (fun e w'=>e=.returned (.bool (decide (0 < x.bk.line.length)))∧W=w'):=by
 have z2:W.cell? ⟨g,2,none⟩=some (.slice p.bl.a2 p.bl.m2 p.bl.c2):=h.ob.cell 2;have hm:=h.inn.2.1.1;have hlt:=h.lt;rw [← hm];clear h hm
 generalize p.bl.m2=m at z2 ⊢
 by_cases hc:0 < m
 · have hd:decide (0 < m)=true:=decide_eq_true hc
   have hi:(0:Int) < (m:Int):=by omega
   rw [hd];clear hd
   go_enter Tryz.func137,Tryz.ntmps137
   go_wp2
   go_ret
   exact ⟨by first | rfl | (simp; done) | (simp [hc]; done),rfl⟩
 · obtain rfl:m=0:=by omega
   go_enter Tryz.func137,Tryz.ntmps137
   go_wp2
   go_ret
   exact ⟨by first | rfl | (simp; done),rfl⟩
set_option maxRecDepth 100000 in
set_option maxHeartbeats 4000000 in
theorem stop_calls {n0 g:Nat} {E:Nat→Prop} {c:Cf} {who:Int} {x:Nd} {p:Nl} {code:Int} {W:World} (h:St n0 E W g c who x p code) (k:Int) :
 Calls Tryz.prog 78 #[.pointer (some ⟨g,0,none⟩),.int .i64 k] W (fun e w'=>e=.returned (.tuple #[])∧St n0 E w' g c who x p (if code=0 then k else code)∧Kept g p p W w'):=by
 have y22:=h.ob.free 22;have z22:W.cell? ⟨g,22,none⟩=some (.int .i64 code):=h.ob.cell 22;have hlt:=h.lt;have HS:=qH h;have HE:=qH (h.cod k);clear h
 by_cases hc:code=0
 · rw [if_pos hc]
   have hd:decide (code ≠ 0)=false:=decide_eq_false (fun k=>k hc)
   go_enter Tryz.func78,Tryz.ntmps78
   go_wp2_with fail
   refine (stopped_calls HS.out).mono ?_;rw [hd];rintro e w1 ⟨rfl,rfl⟩
   go_wp2_with fail
   exact bodyPost_end (v:=.tuple #[]) (by simp [results,Tryz.results78,go_sem]) rfl ⟨rfl,HE.out⟩
 · rw [if_neg hc]
   have hd:decide (code ≠ 0)=true:=decide_eq_true hc
   go_enter Tryz.func78,Tryz.ntmps78
   go_wp2_with fail
   refine (stopped_calls HS.out).mono ?_;rw [hd];rintro e w1 ⟨rfl,rfl⟩
   go_wp2_with fail
   exact bodyPost_end (v:=.tuple #[]) (by simp [results,Tryz.results78,go_sem]) rfl ⟨rfl,HS.out,Kept.refl _ _ _⟩
set_option maxRecDepth 100000 in
set_option maxHeartbeats 4000000 in
theorem steptick_calls {n0 g:Nat} {E:Nat→Prop} {c:Cf} {who:Int} {x:Nd} {p:Nl} {code:Int} {W:World} (h:St n0 E W g c who x p code) (seen:Int) :
 Calls Tryz.prog 92 #[.pointer (some ⟨g,0,none⟩),.int .i64 seen] W (fun e w'=>e=.returned (.tuple #[])∧St n0 E w' g c who (if code=0 then bkN x (clksK x.bk (tickT x.bk.clk seen)) else x) p (if code=0 then tickC x.bk.clk seen else code)∧Kept g p p W w'):=by
 have hlt:=h.lt;have HS:=qH h;clear h
 by_cases hc:code=0
 · rw [if_pos hc,if_pos hc]
   have hd:decide (code ≠ 0)=false:=decide_eq_false (fun k=>k hc)
   have y0:=HS.out.ob.free 0;have y22:=HS.out.ob.free 22;have z0:W.cell? ⟨g,0,none⟩=some (.int .i64 x.bk.clk):=HS.out.ob.cell 0;have z22:W.cell? ⟨g,22,none⟩=some (.int .i64 code):=HS.out.ob.cell 22;obtain ⟨T,HT⟩:∃ z,Hid (tickT x.bk.clk seen=z):=⟨_,rfl⟩;obtain ⟨C,HC⟩:∃ z,Hid (tickC x.bk.clk seen=z):=⟨_,rfl⟩;rw [HT.out,HC.out];have h1:=HS.out.clk T;have h2:=h1.1.cod C;have HE:=qH (And.intro h2.1 (h1.2.trans h2.2))
   clear h1 h2
   go_enter Tryz.func92,Tryz.ntmps92
   go_wp2_with fail
   refine (stopped_calls HS.out).mono ?_;rw [hd];rintro e w1 ⟨rfl,rfl⟩
   go_wp2_with fail
   refine (tick_calls x.bk.clk seen _).mono ?_
   unfold Ticks
   rw [HT.out,HC.out];rintro e w1 ⟨rfl,rfl⟩
   go_wp2_with fail
   exact bodyPost_end (v:=.tuple #[]) (by simp [results,Tryz.results92,go_sem]) rfl ⟨rfl,HE.out⟩
 · rw [if_neg hc,if_neg hc]
   have hd:decide (code ≠ 0)=true:=decide_eq_true hc
   go_enter Tryz.func92,Tryz.ntmps92
   go_wp2_with fail
   refine (stopped_calls HS.out).mono ?_;rw [hd];rintro e w1 ⟨rfl,rfl⟩
   go_wp2_with fail
   exact bodyPost_ret (v:=.tuple #[]) (by simp [results,Tryz.results92,go_sem]) rfl ⟨rfl,HS.out,Kept.refl _ _ _⟩
set_option maxRecDepth 100000 in
set_option maxHeartbeats 4000000 in
theorem head18_calls {n0 g:Nat} {E:Nat→Prop} {c:Cf} {who:Int} {x:Nd} {p:Nl} {code:Int} {W:World} (h:St n0 E W g c who x p code) :
 Calls Tryz.prog 140 #[.pointer (some ⟨g,0,none⟩)] W (fun e w'=>e=.returned (rqV (headQ x.bk))∧Below W.heap.size W w'):=by
 have hlt:=h.lt;have z2:W.cell? ⟨g,2,none⟩=some (.slice p.bl.a2 p.bl.m2 p.bl.c2):=h.ob.cell 2;have HS:=qH h;have HL:=qH h.inn.2.1;clear h;have Hb0:=qH (below_box W (.cells (rqCells ⟨0,0,0⟩) 59));have HZ:=qH (Whole.made W 59 (rqCells ⟨0,0,0⟩));have HS0:=qH (HS.out.later Hb0.out);obtain ⟨W0,HW0⟩:∃ z,Hid (W.alloc (.cells (rqCells ⟨0,0,0⟩) 59)=z):=⟨_,rfl⟩;rw [HW0.out] at Hb0 HZ HS0;have y0:=HZ.out.free 0
 have y1:=HZ.out.free 1;have y2:=HZ.out.free 2;have z0:=HZ.out.cell 0;have z1:=HZ.out.cell 1;have z3:=HZ.out.cell 2;have hlt0:=HZ.out.lt;have x2:W0.cell? ⟨g,2,none⟩=some (.slice p.bl.a2 p.bl.m2 p.bl.c2):=HS0.out.ob.cell 2
 try simp only at z0 z1 z3
 by_cases hc:0 < x.bk.line.length
 · have hd:decide (0 < x.bk.line.length)=true:=decide_eq_true hc
   obtain ⟨b,off,ha,c0,c1,c2⟩:=HL.out.2.at (i:=0) hc;obtain ⟨⟨t,u,v⟩,Hx⟩:∃ z,Hid (rqAt x.bk.line 0=z):=⟨_,rfl⟩;have hres:headQ x.bk=⟨t,u,v⟩:=Hx.out;rw [Hx.out,Nat.zero_mul,Nat.add_zero] at c0 c1 c2;simp only at c0 c1 c2;rw [hres];have d0:=cell_later Hb0.out c0;have d1:=cell_later Hb0.out c1;have d2:=cell_later Hb0.out c2;have hm:=HL.out.1;obtain ⟨m,Hm⟩:∃ z,Hid (p.bl.m2=z):=⟨_,rfl⟩;rw [ha,Hm.out] at z2 x2
   rw [Hm.out] at hm;have k2:(0:Int) < (m:Int):=by omega
   have HE:=qH (((Hb0.out.setCell (p:=⟨W.heap.size,0,none⟩) (Nat.le_refl _) (.int .i64 t)).setCell (p:=⟨W.heap.size,1,none⟩) (Nat.le_refl _) (.int .i64 u)).setCell (p:=⟨W.heap.size,2,none⟩) (Nat.le_refl _) (.int .i64 v));clear c0 c1 c2 hres hm ha z2 hc
   go_enter Tryz.func140,Tryz.ntmps140
   go_wp2_with fail
   rw [HW0.out];refine (waits_calls HS0.out).mono ?_;rw [hd];rintro e w1 ⟨rfl,rfl⟩
   go_wp2_with fail
   refine bodyPost_ret (v:=rqV ⟨t,u,v⟩) (by simp [results,Tryz.results140,go_sem,z0,z1,z3]) rfl ⟨by rfl,HE.out⟩
 · have hd:decide (0 < x.bk.line.length)=false:=decide_eq_false hc
   have hres:headQ x.bk=⟨0,0,0⟩:=by
    have:x.bk.line=[]:=List.eq_nil_of_length_eq_zero (by omega)
    show rqAt x.bk.line 0=_
    rw [this]; rfl
   rw [hres];have HE:=qH (((Hb0.out.setCell (p:=⟨W.heap.size,0,none⟩) (Nat.le_refl _) (.int .i64 0)).setCell (p:=⟨W.heap.size,1,none⟩) (Nat.le_refl _) (.int .i64 0)).setCell (p:=⟨W.heap.size,2,none⟩) (Nat.le_refl _) (.int .i64 0));clear hres
   go_enter Tryz.func140,Tryz.ntmps140
   go_wp2_with fail
   rw [HW0.out];refine (waits_calls HS0.out).mono ?_;rw [hd];rintro e w1 ⟨rfl,rfl⟩
   go_wp2_with fail
   refine bodyPost_ret (v:=rqV ⟨0,0,0⟩) (by simp [results,Tryz.results140,go_sem,z0,z1,z3]) rfl ⟨by rfl,HE.out⟩
end Go.Proofs.YtecjnkokdnmhlaaGreat
namespace Go.Proofs.YtecjnkokdnmhlaaGreat
open Go.RowKit
set_option maxHeartbeats 400000 in
theorem stampmay_calls (t a n:Int) (w:World) :
 Calls Tryz.prog 158 #[stampV t a,.int .i64 n] w (Says w (mayB t a n)):=by
 by_cases h:1≤t∧t≤1125899906842624∧0≤a∧a < n
 · rw [mayB_yes h]
   obtain ⟨h1,h2,h3,h4⟩:=h
   go_enter Tryz.func158,Tryz.ntmps158
   go_wp2_with fail
   go_ret
   exact ⟨by simp_all,below_box _ _⟩
 · rw [mayB_no h]
   by_cases h1:1≤t
   · by_cases h2:t≤1125899906842624
     · by_cases h3:0≤a
       · have h4:¬ a < n:=by omega
         clear h
         go_enter Tryz.func158,Tryz.ntmps158
         go_wp2_with fail
         go_ret
         exact ⟨by simp_all,below_box _ _⟩
       · clear h
         go_enter Tryz.func158,Tryz.ntmps158
         go_wp2_with fail
         go_ret
         exact ⟨by simp_all,below_box _ _⟩
     · clear h
       go_enter Tryz.func158,Tryz.ntmps158
       go_wp2_with fail
       go_ret
       exact ⟨by simp_all,below_box _ _⟩
   · clear h
     go_enter Tryz.func158,Tryz.ntmps158
     go_wp2_with fail
     go_ret
     exact ⟨by simp_all,below_box _ _⟩
end Go.Proofs.YtecjnkokdnmhlaaGreat
namespace Go.Proofs.YtecjnkokdnmhlaaGreat
open Go.RowKit
set_option maxHeartbeats 400000 in
theorem before_calls (t a u b:Int) (w:World) :
 Calls Tryz.prog 204 #[stampV t a,stampV u b] w (Says w (olderB t a u b)):=by
 by_cases h1:t=u
 · subst h1
   by_cases h2:a < b
   · rw [olderB_yes (Or.inr ⟨rfl,h2⟩)]
     go_enter Tryz.func204,Tryz.ntmps204
     go_wp2_with fail
     go_ret
     exact ⟨by simp_all,below_two _ _ _⟩
   · rw [olderB_no (by omega)]
     go_enter Tryz.func204,Tryz.ntmps204
     go_wp2_with fail
     go_ret
     exact ⟨by simp_all,below_two _ _ _⟩
 · by_cases h2:t < u
   · rw [olderB_yes (Or.inl h2)]
     have hn:(t != u)=true:=bne_iff_ne.2 h1
     go_enter Tryz.func204,Tryz.ntmps204
     go_wp2_with fail
     go_ret
     exact ⟨by simp_all,below_two _ _ _⟩
   · rw [olderB_no (by omega)]
     have hn:(t != u)=true:=bne_iff_ne.2 h1
     go_enter Tryz.func204,Tryz.ntmps204
     go_wp2_with fail
     go_ret
     exact ⟨by simp_all,below_two _ _ _⟩
set_option maxHeartbeats 400000 in
theorem older_calls (t a u b:Int) (w:World) :
 Calls Tryz.prog 188 #[stampV t a,stampV u b] w (Says w (olderB t a u b)):=by
 go_enter Tryz.func188,Tryz.ntmps188
 go_wp2_with fail
 refine (before_calls t a u b _).mono ?_;rintro e w' ⟨rfl,hb⟩;have Hb:=qH ((below_two w _ _).trans (hb.mono (below_two w _ _).size)); clear hb
 go_wp2_with fail
 go_ret
 exact ⟨rfl,Hb.out⟩
end Go.Proofs.YtecjnkokdnmhlaaGreat
namespace Go.Proofs.YtecjnkokdnmhlaaGreat
open Go.RowKit
theorem run_eql_rqs (w:World) (x y:Rq):(binOp .eql 59 (rqV x) (rqV y)).run Tryz.prog w=.ok (.bool (decide (x=y))) w:=by
 obtain ⟨t,a,m⟩:=x;obtain ⟨u,b,n⟩:=y
 by_cases h1:t=u
 · subst h1
   by_cases h2:a=b
   · subst h2
     by_cases h3:m=n
     · subst h3; simp [go_sem,Tryz.underlying59,Tryz.underlying48]
     · simp [go_sem,Tryz.underlying59,Tryz.underlying48,h3]
   · simp [go_sem,Tryz.underlying59,Tryz.underlying48,h2]
 · simp [go_sem,Tryz.underlying59,Tryz.underlying48,h1]
end Go.Proofs.YtecjnkokdnmhlaaGreat
namespace Go.Proofs.YtecjnkokdnmhlaaGreat
open Go.RowKit
set_option maxHeartbeats 4000000 in
theorem run_neq_nt (w:World) (x y:Nt):(binOp .neq 113 (ntV x) (ntV y)).run Tryz.prog w=.ok (.bool (!decide ((x:Nt)=y))) w:=by
 obtain ⟨x0,x1,x2,x3,x4,x5,x6⟩:=x;obtain ⟨y0,y1,y2,y3,y4,y5,y6⟩:=y
 by_cases h0:x0=y0
 · subst h0
   by_cases h1:x1=y1
   · subst h1
     by_cases h2:x2=y2
     · subst h2
       by_cases h3:x3=y3
       · subst h3
         by_cases h4:x4=y4
         · subst h4
           by_cases h5:x5=y5
           · subst h5
             by_cases h6:x6=y6
             · subst h6
               simp [go_sem,Tryz.underlying113,Tryz.underlying59,Tryz.underlying48,Tryz.underlying29]
             · have g6:(x6 == y6)=false:=beq_eq_false_iff_ne.2 h6
               simp [go_sem,Tryz.underlying113,Tryz.underlying59,Tryz.underlying48,Tryz.underlying29,h6]
           · have g5:(x5 == y5)=false:=beq_eq_false_iff_ne.2 h5
             simp [go_sem,Tryz.underlying113,Tryz.underlying59,Tryz.underlying48,Tryz.underlying29,h5]
         · have g4:(x4 == y4)=false:=beq_eq_false_iff_ne.2 h4
           simp [go_sem,Tryz.underlying113,Tryz.underlying59,Tryz.underlying48,Tryz.underlying29,h4]
       · have g3:(x3 == y3)=false:=beq_eq_false_iff_ne.2 h3
         simp [go_sem,Tryz.underlying113,Tryz.underlying59,Tryz.underlying48,Tryz.underlying29,h3]
     · have g2:(x2 == y2)=false:=beq_eq_false_iff_ne.2 h2
       simp [go_sem,Tryz.underlying113,Tryz.underlying59,Tryz.underlying48,Tryz.underlying29,h2]
   · have g1:(x1 == y1)=false:=beq_eq_false_iff_ne.2 h1
     simp [go_sem,Tryz.underlying113,Tryz.underlying59,Tryz.underlying48,Tryz.underlying29,h1]
 · have g0:(x0 == y0)=false:=beq_eq_false_iff_ne.2 h0
   simp [go_sem,Tryz.underlying113,Tryz.underlying59,Tryz.underlying48,Tryz.underlying29,h0]
end Go.Proofs.YtecjnkokdnmhlaaGreat
