/- Parts, as far as NodeAtOnceCards reaches them, of: Stays, OwnLow, ElemsOff, BookBox, NumsPlain, NumsPush, BookKeep, BooksOwned, NodeWords, NodeStay, NodeCells, NodeOpen, TickMath, ShareMath, WantMath. No law is proved here. -/
import Derived.Test.YtecjnkokdnmhlaaGreatTa2
import Derived.Test.YtecjnkokdnmhlaaGreatTaQ
import Derived.OwnWalk
namespace Go.Proofs.YtecjnkokdnmhlaaGreat
open Go.RowKit
def ButS (S:Nat→Prop) (w0 wr:World):Prop:=Below 0 w0 wr∧∀ b,b < w0.heap.size→¬ S b→wr.heap[b]?=w0.heap[b]?
theorem ButS.refl (S:Nat→Prop) (w:World):ButS S w w:=⟨Below.refl _ _,fun _ _ _=>rfl⟩
theorem ButS.size {S:Nat→Prop} {w0 wr:World} (h:ButS S w0 wr):w0.heap.size≤wr.heap.size:=h.1.size
theorem ButS.trans {S:Nat→Prop} {a b c:World} (h:ButS S a b) (k:ButS S b c):ButS S a c:=⟨h.1.trans k.1,fun q hq hne=>(k.2 q (Nat.lt_of_lt_of_le hq h.size) hne).trans (h.2 q hq hne)⟩
theorem ButS.of {S:Nat→Prop} {w0 wr:World} (hb:Below w0.heap.size w0 wr):ButS S w0 wr:=⟨hb.mono (Nat.zero_le _),fun q hq _=>hb.block q hq⟩
theorem ButS.set {S:Nat→Prop} {w0 wr:World} (h:ButS S w0 wr) {p:Addr} (hp:S p.block) (u:Value):ButS S w0 (wr.setCell p u):=⟨h.1.setCell (Nat.zero_le _) u,fun q hq hne=>(Below.heap_setCell wr p u q (fun e=>hne (e ▸ hp))).trans (h.2 q hq hne)⟩
theorem ButS.wide {S R:Nat→Prop} {w0 wr:World} (h:ButS S w0 wr) (hS:∀ b,S b→R b):ButS R w0 wr:=⟨h.1,fun q hq hne=>h.2 q hq fun e=>hne (hS q e)⟩
def Stay (S:Nat→Prop) (w:World) (P:World→Prop):Prop:=∀ W,ButS S w W→P W
theorem Stay.inn {S:Nat→Prop} {w:World} {P:World→Prop} (h:Stay S w P):P w:=h w (ButS.refl _ _)
theorem Stay.later {S:Nat→Prop} {w w':World} {P:World→Prop} (h:Stay S w P) (hb:Below w.heap.size w w'):Stay S w' P:=fun W hW=>h W ((ButS.of hb).trans hW)
theorem Stay.set {S:Nat→Prop} {w:World} {P:World→Prop} (h:Stay S w P) {p:Addr} (hp:S p.block) (u:Value):Stay S (w.setCell p u) P:=fun W hW=>h W (((ButS.refl _ _).set hp u).trans hW)
theorem row_butS {w W:World} {base:Nat} {S:Nat→Prop} {e:TypeId} {s n:Nat} {v:Value} {xs:List Value} (h:w.ownsRow base e s v n xs) (hS:∀ b,S b→b < base) (k:ButS S w W):W.ownsRow base e s v n xs:=by
 obtain ⟨h1,h2 | ⟨g,cap,cur,hv,hb,hh,h4⟩⟩:=h
 · exact ⟨h1,Or.inl h2⟩
 · exact ⟨h1,Or.inr ⟨g,cap,cur,hv,hb,(k.2 g (Array.getElem?_eq_some_iff.1 hh).1 (fun e=>by have:=hS g e; omega)).trans hh,h4⟩⟩
theorem Elems.butS {S:Nat→Prop} {w0 wr:World} {A:Option Addr} {n c sz m:Nat} {f:Nat→Nat→Value} (h:Elems w0 (.slice A n c) sz m f) (k:ButS S w0 wr) (hne:∀ ad,A=some ad→¬ S ad.block):Elems wr (.slice A n c) sz m f:=by
 obtain ⟨h1,h2⟩:=h;refine ⟨h1,?_⟩
 rcases h2 with h2 | ⟨b,off,cap,hv,hn,hc⟩
 · exact Or.inl h2
 · simp only [Value.slice.injEq] at hv
   have hb:=hne ⟨b,off,none⟩ hv.1;refine Or.inr ⟨b,off,cap,by rw [hv.1,hv.2.1,hv.2.2],hn,fun i j hi hj=>?_⟩
   have hx:=hc i j hi hj;have hl:=World.block_lt_of_cell? w0 _ hx;rw [World.cell?_of_block (k.2 b hl hb)]
   exact hx
theorem elems_stay {B:Nat} {w:World} {A:Option Addr} {n c sz:Nat} {f:Nat→Nat→Value} (h:Elems w (.slice A n c) sz n f) (hne:0 < n→∀ ad,A=some ad→B≤ad.block):Stay (fun b=>b < B) w (fun W=>Elems W (.slice A n c) sz n f):=fun W k=>by
 by_cases h0:n=0
 · subst h0
   obtain ⟨h1,h2 | ⟨b,off,cap,hv,hn,hc⟩⟩:=h
   · exact ⟨h1,Or.inl h2⟩
   · exact ⟨h1,Or.inr ⟨b,off,cap,hv,hn,fun i j hi _=>absurd hi (Nat.not_lt_zero _)⟩⟩
 · exact Elems.butS h k fun ad e hs=>by have:=hne (by omega) ad e; have hs:ad.block < B:=hs; omega
end Go.Proofs.YtecjnkokdnmhlaaGreat
namespace Go.Proofs.YtecjnkokdnmhlaaGreat
open Go.RowKit
theorem own_low {w:World} {base:Nat} {e:TypeId} {s n:Nat} {v:Value} {xs:List Value} (h:w.ownsRow base e s v n xs) {p:Addr} (hp:p.block < base) (u:Value):(w.setCell p u).ownsRow base e s v n xs :=
 h.kept (grownBy_set w p u) (.inr fun e=>by have:=(h.lt _ e).1; omega)
end Go.Proofs.YtecjnkokdnmhlaaGreat
namespace Go.Proofs.YtecjnkokdnmhlaaGreat
open Go.ChangeShapes Go.WideShapes Go.ChangeAt Go.RowKit
theorem Elems.other {w:World} {A:Option Addr} {c sz n:Nat} {f:Nat→Nat→Value} (h:Elems w (.slice A n c) sz n f) {p:Addr} (hp:∀ ad,A=some ad→ad.block ≠ p.block) (u:Value):Elems (w.setCell p u) (.slice A n c) sz n f:=by
 refine ⟨h.1,?_⟩;obtain ⟨_,h2 | ⟨b,off,cap,hv,hn,hcell⟩⟩:=h
 · exact Or.inl h2
 · refine Or.inr ⟨b,off,cap,hv,hn,fun i j hi hj=>?_⟩
   simp only [Value.slice.injEq] at hv;have hb:b ≠ p.block:=hp _ hv.1;rw [← hcell i j hi hj]
   unfold World.cell?
   rw [Below.heap_setCell w p u b hb]
end Go.Proofs.YtecjnkokdnmhlaaGreat
namespace Go.Proofs.YtecjnkokdnmhlaaGreat
open Go.RowKit
def bk12 (wx:World) (g:Nat) (x:Bk) (rv lv ov nv tv uv iv:Value):World:=(((((((((((wx.setCell ⟨g,0,none⟩ (.int .i64 x.clk)).setCell ⟨g,1,none⟩ rv).setCell ⟨g,2,none⟩ lv).setCell ⟨g,3,none⟩ ov).setCell ⟨g,4,none⟩ (.int .i64 x.asks)).setCell ⟨g,5,none⟩ nv).setCell ⟨g,6,none⟩ (.int .i64 x.au.try_)).setCell ⟨g,7,none⟩ (.int .i64 x.au.ph)).setCell ⟨g,8,none⟩ tv).setCell ⟨g,9,none⟩ uv).setCell ⟨g,10,none⟩ iv).setCell ⟨g,11,none⟩ (.bool x.au.moved)
theorem bk12_below {B:Nat} {w0 wx:World} {g:Nat} {x:Bk} {rv lv ov nv tv uv iv:Value} (h:Below B w0 wx) (hg:B≤g):Below B w0 (bk12 wx g x rv lv ov nv tv uv iv):=(((((((((((h.setCell (p:=⟨g,0,none⟩) hg _).setCell (p:=⟨g,1,none⟩) hg _).setCell (p:=⟨g,2,none⟩) hg _).setCell (p:=⟨g,3,none⟩) hg _).setCell (p:=⟨g,4,none⟩) hg _).setCell (p:=⟨g,5,none⟩) hg _).setCell (p:=⟨g,6,none⟩) hg _).setCell (p:=⟨g,7,none⟩) hg _).setCell (p:=⟨g,8,none⟩) hg _).setCell (p:=⟨g,9,none⟩) hg _).setCell (p:=⟨g,10,none⟩) hg _).setCell (p:=⟨g,11,none⟩) hg _
theorem bk12_cells (x y:Bk) (rv lv ov nv tv uv iv rv' lv' ov' nv' tv' uv' iv':Value):((((((((((((bkCells y rv' lv' ov' nv' tv' uv' iv').setIfInBounds 0 (.int .i64 x.clk)).setIfInBounds 1 rv).setIfInBounds 2 lv).setIfInBounds 3 ov).setIfInBounds 4 (.int .i64 x.asks)).setIfInBounds 5 nv).setIfInBounds 6 (.int .i64 x.au.try_)).setIfInBounds 7 (.int .i64 x.au.ph)).setIfInBounds 8 tv).setIfInBounds 9 uv).setIfInBounds 10 iv).setIfInBounds 11 (.bool x.au.moved)=bkCells x rv lv ov nv tv uv iv:=by
 simp only [bkCells,qA,qB,qC]
theorem bk12_whole {wx:World} {g:Nat} {x y:Bk} {rv lv ov nv tv uv iv rv' lv' ov' nv' tv' uv' iv':Value} (h:Whole wx g 35 (bkCells y rv' lv' ov' nv' tv' uv' iv')):Whole (bk12 wx g x rv lv ov nv tv uv iv) g 35 (bkCells x rv lv ov nv tv uv iv):=by
 have h1:=(((((((((((h.set 0 (.int .i64 x.clk)).set 1 rv).set 2 lv).set 3 ov).set 4 (.int .i64 x.asks)).set 5 nv).set 6 (.int .i64 x.au.try_)).set 7 (.int .i64 x.au.ph)).set 8 tv).set 9 uv).set 10 iv).set 11 (.bool x.au.moved);rw [bk12_cells] at h1
 exact h1
theorem bk12_elems {wx:World} {g sz n c:Nat} {A:Option Addr} {f:Nat→Nat→Value} {x:Bk} {rv lv ov nv tv uv iv:Value} (h:Elems wx (.slice A n c) sz n f) (hg:∀ ad,A=some ad→ad.block ≠ g):Elems (bk12 wx g x rv lv ov nv tv uv iv) (.slice A n c) sz n f:=(((((((((((h.other (p:=⟨g,0,none⟩) hg _).other (p:=⟨g,1,none⟩) hg _).other (p:=⟨g,2,none⟩) hg _).other (p:=⟨g,3,none⟩) hg _).other (p:=⟨g,4,none⟩) hg _).other (p:=⟨g,5,none⟩) hg _).other (p:=⟨g,6,none⟩) hg _).other (p:=⟨g,7,none⟩) hg _).other (p:=⟨g,8,none⟩) hg _).other (p:=⟨g,9,none⟩) hg _).other (p:=⟨g,10,none⟩) hg _).other (p:=⟨g,11,none⟩) hg _
theorem bk12_notes {wx:World} {g n c:Nat} {A:Option Addr} {l:List Nt} {x:Bk} {rv lv ov nv tv uv iv:Value} (h:Notes wx (.slice A n c) l) (hn:n=l.length) (hg:∀ ad,A=some ad→ad.block ≠ g):Notes (bk12 wx g x rv lv ov nv tv uv iv) (.slice A n c) l:=by
 subst hn
 exact bk12_elems h hg
theorem OwnBooks.low {w:World} {base:Nat} {v:Value} {l:List Rw} (h:OwnBooks w base v l) {p:Addr} (hp:p.block < base) (u:Value):OwnBooks (w.setCell p u) base v l:=by
 obtain ⟨g,h1,h2,h3⟩:=h
 exact ⟨g,h1.kept (grownBy_set w p u) (.inr fun e=>by have:=(h1.lt _ e).1; omega),fun k hk=>⟨(h2 k hk).1,(h2 k hk).2.kept (grownBy_set w p u) (.inr fun e=>by have:=((h2 k hk).2.lt _ e).1; omega)⟩,h3⟩
theorem bk12_own {w:World} {base g:Nat} {v:Value} {l:List Rw} {x:Bk} {rv lv ov nv tv uv iv:Value} (h:OwnBooks w base v l) (hg:g < base):OwnBooks (bk12 w g x rv lv ov nv tv uv iv) base v l:=(((((((((((h.low (p:=⟨g,0,none⟩) hg _).low (p:=⟨g,1,none⟩) hg _).low (p:=⟨g,2,none⟩) hg _).low (p:=⟨g,3,none⟩) hg _).low (p:=⟨g,4,none⟩) hg _).low (p:=⟨g,5,none⟩) hg _).low (p:=⟨g,6,none⟩) hg _).low (p:=⟨g,7,none⟩) hg _).low (p:=⟨g,8,none⟩) hg _).low (p:=⟨g,9,none⟩) hg _).low (p:=⟨g,10,none⟩) hg _).low (p:=⟨g,11,none⟩) hg _
theorem info_note17:(Tryz.prog.info? 113).map (fun i=>(i.zero,i.size,i.bytes))=some (some (.agg #[.int .i64 0,.int .i64 0,.int .i64 0,.int .i64 0,.int .i64 0,.int .i64 0,.int .i64 0]),7,56):=by kernel_rfl
abbrev zero7:Array Value:=#[.int .i64 0,.int .i64 0,.int .i64 0,.int .i64 0,.int .i64 0,.int .i64 0,.int .i64 0]
theorem made_note {m j:Nat} (h:j < m * 7):(madeCells zero7 (m * 7))[j]?=some (.int .i64 0):=by
 unfold madeCells
 rw [Array.getElem?_map,Array.getElem?_range,if_pos h]
 show some (zero7[j % 7]!)=_
 have hj:j % 7 < 7:=Nat.mod_lt _ (by decide)
 generalize j % 7=k at hj
 match k,hj with
 | 0,_=>rfl
 | 1,_=>rfl
 | 2,_=>rfl
 | 3,_=>rfl
 | 4,_=>rfl
 | 5,_=>rfl
 | 6,_=>rfl
theorem run_make_notes {w:World} {m:Nat} (h16:m≤1000):(Instr.makeSlice 27 (.int .i64 (m:Int)) (.int .i64 (m:Int))).run Tryz.prog w=.ok (.slice (some ⟨w.heap.size,0,none⟩) m m) (w.alloc (.cells (madeCells zero7 (m * 7)) 113)):=by
 obtain ⟨i0,hi,hz0,hz1,hz2⟩:=info_parts info_note17;have:=run_make (P:=Tryz.prog) w 27 113 i0 (.agg zero7) Tryz.underlying27 hi hz0 .i64 .i64 (m:Int) (m:Int) (by omega) (by omega) (by rw [hz2]; omega) (by omega)
 simpa [hz1,show (Value.agg zero7).cells=zero7 from rfl] using this
theorem notes_zero {w:World} {m g:Nat} (hm:m≤1000) (h:Whole w g 113 (madeCells zero7 (m * 7))):Notes w (.slice (some ⟨g,0,none⟩) m m) (List.replicate m nt0):=by
 refine ⟨by rw [List.length_replicate]; omega,Or.inr ⟨g,0,m,by rw [List.length_replicate],by rw [List.length_replicate]; exact Nat.le_refl _,fun i j hi hj=>?_⟩⟩
 rw [List.length_replicate] at hi;rw [h.cell,Nat.zero_add,made_note (by omega)]
 have e:ntAt (List.replicate m nt0) i=nt0:=by unfold ntAt; rw [List.getElem?_replicate,if_pos hi]; rfl
 show _=some (ntc (ntAt (List.replicate m nt0) i) j)
 rw [e]
 unfold ntc
 simp only [ite_self]
end Go.Proofs.YtecjnkokdnmhlaaGreat
namespace Go.Proofs.YtecjnkokdnmhlaaGreat
open Go.ChangeShapes Go.WideShapes Go.ChangeAt Go.RowKit Go.Joins Go.Deep
theorem info_n64:(Tryz.prog.info? 2).map (fun i=>(i.zero,i.size,i.bytes))=some (some (.int .i64 0),1,8):=by kernel_rfl
theorem one_n64 {w:World} {g:Nat} {x:Int} (h:Whole w g 2 #[.int .i64 x]):Nums w (.slice (some ⟨g,0,none⟩) 1 1) [x]:=by
 refine ⟨show 1≤9223372036854775807 by decide,Or.inr ⟨g,0,1,rfl,Nat.le_refl _,fun i j hi hj=>?_⟩⟩
 have hi:i < 1:=hi;obtain rfl:i=0:=by omega
 obtain rfl:j=0:=by omega
 exact h.cell 0
theorem nums_both (l k:List Int):(fun i (_:Nat)=>if i < l.length then Value.int .i64 (l[i]?.getD 0) else Value.int .i64 (k[i - l.length]?.getD 0))=fun i _=>Value.int .i64 ((l ++ k)[i]?.getD 0):=by
 funext i _
 by_cases h:i < l.length
 · rw [if_pos h,List.getElem?_append_left h]
 · rw [if_neg h,List.getElem?_append_right (by omega)]
abbrev OwnN (w:World) (base:Nat) (v:Value) (l:List Int):Prop:=w.ownsRow base 2 1 v l.length (flatCells 1 l.length fun i _=>.int .i64 (l[i]?.getD 0))
theorem OwnN.nums {w:World} {base:Nat} {v:Value} {l:List Int} (h:OwnN w base v l) (hb:l.length≤9223372036854775807):∃ A C,v=.slice A l.length C∧Nums w (.slice A l.length C) l:=by
 obtain ⟨A,C,hv,_,he⟩:=elems_of_own h hb
 exact ⟨A,C,hv,he⟩
theorem ownN_nil (w:World):OwnN (w.alloc (.cells #[] 2)) w.heap.size (.slice (some ⟨w.heap.size,0,none⟩) 0 0) [] :=
 own_whole (cs:=#[]) (Whole.made w _ _) (Nat.le_refl _) rfl (by decide)
theorem run_append_nums {w:World} {base:Nat} {v:Value} {l k:List Int} {A:Option Addr} {m c:Nat} (hown:OwnN w base v l) (hE:Nums w (.slice A m c) k) (hm:m=k.length) (h:l.length + k.length≤1000000) (hbase:base≤w.heap.size) :
 ∃ v' w',(Builtin.append_ #[31,31] 31 #[v,.slice A m c]).run Tryz.prog w=.ok v' w'∧OwnN w' base v' (l ++ k)∧Below base w w'∧Grew w w' v v':=by
 subst hm;obtain ⟨i5,hi,hz0,hz1,hz2⟩:=info_parts info_n64
 obtain ⟨v',w',h1,h2,h3,h4⟩:=run_append_elems (P:=Tryz.prog) (w:=w) 31 31 base 2 i5 _ 1 8 Tryz.underlying31 hi hz0 hz1 hz2 rfl (by decide)
  v l.length _ hown A k.length c _ hE (fun i j _ _=>rfl) (by unfold maxLen; omega) (by omega) hbase
 refine ⟨v',w',h1,?_,h3,h4⟩;rw [nums_both] at h2
 show OwnN w' base v' (l ++ k)
 unfold OwnN
 rw [List.length_append]
 exact h2
theorem Nums.cap {w:World} {a:Option Addr} {m c:Nat} {l:List Int} (h:Nums w (.slice a m c) l):m≤c∧m=l.length:=by
 obtain ⟨_,⟨_,_,hv,_,h0⟩ | ⟨_,_,_,hv,hn,_⟩⟩:=h
 · simp only [Value.slice.injEq] at hv
   omega
 · simp only [Value.slice.injEq] at hv
   omega
theorem Nums.from {w:World} {b off m c j:Nat} {l:List Int} (h:Nums w (.slice (some ⟨b,off,none⟩) m c) l) (hj:j≤m):Nums w (.slice (some ⟨b,off + j,none⟩) (m - j) (c - j)) (l.drop j):=by
 have hc:=h.cap;have hb:=h.1
 unfold Nums
 rw [List.length_drop];refine ⟨by omega,?_⟩
 by_cases h0:l.length - j=0
 · exact Or.inl ⟨_,c - j,by rw [show m - j=0 by omega],(fun h=>by cases h),h0⟩
 · refine Or.inr ⟨b,off + j,c - j,by rw [← hc.2],by omega,fun i k hi hk=>?_⟩
   obtain rfl:k=0:=by omega
   obtain ⟨b',off',e,_,hcell⟩:=h.at (i:=j + i) (by omega)
   simp only [Option.some.injEq,Addr.mk.injEq,and_true] at e;obtain ⟨rfl,rfl⟩:=e;rw [Nat.mul_one,Nat.add_zero,Nat.add_assoc,hcell]
   show _=some (Value.int .i64 ((l.drop j)[i]?.getD 0))
   rw [List.getElem?_drop]
end Go.Proofs.YtecjnkokdnmhlaaGreat
namespace Go.Proofs.YtecjnkokdnmhlaaGreat
open Go.RowKit
section
variable {G:Nat} {a b w0 wr w2 w3:World}
end
theorem flat_ext3 {sz n:Nat} {f g:Nat→Nat→Value} (h:∀ i j,i < n→j < sz→f i j=g i j):flatCells sz n f=flatCells sz n g:=by
 unfold flatCells
 rw [List.flatMap_def,List.flatMap_def]
 congr 1
 refine List.map_congr_left fun i hi=>List.map_congr_left fun j hj=>h i j (List.mem_range.1 hi) (List.mem_range.1 hj)
end Go.Proofs.YtecjnkokdnmhlaaGreat
namespace Go.Proofs.YtecjnkokdnmhlaaGreat
open Go.RowKit
theorem row_mono {w:World} {base B:Nat} {e:TypeId} {s n:Nat} {v:Value} {xs:List Value} (h:w.ownsRow base e s v n xs) (hB:B≤base):w.ownsRow B e s v n xs:=by
 obtain ⟨h1,h2 | ⟨g,cap,cur,hv,hb,h3⟩⟩:=h
 · exact ⟨h1,Or.inl h2⟩
 · exact ⟨h1,Or.inr ⟨g,cap,cur,hv,Nat.le_trans hB hb,h3⟩⟩
theorem OwnG.mono {w:World} {base B:Nat} {v:Value} {l:List Rw} {g:Nat→Value} (h:OwnG w base v l g) (hB:B≤base):OwnG w B v l g:=⟨row_mono h.1 hB,fun k hk=>⟨(h.2.1 k hk).1,row_mono (h.2.1 k hk).2 hB⟩,h.2.2⟩
theorem OwnBooks.mono {w:World} {base B:Nat} {v:Value} {l:List Rw} (h:OwnBooks w base v l) (hB:B≤base):OwnBooks w B v l:=⟨h.choose,h.choose_spec.mono hB⟩
def BooksO (w:World) (x:List Rw × Int) (e:Ending) (w':World):Prop :=
 ∃ A C,e=.returned (.tuple #[.slice A x.1.length C,.int .i64 x.2])∧Books w' (.slice A x.1.length C) x.1∧Below w.heap.size w w'∧OwnBooks w' w.heap.size (.slice A x.1.length C) x.1
end Go.Proofs.YtecjnkokdnmhlaaGreat
namespace Go.Proofs.YtecjnkokdnmhlaaGreat
structure Nd where
 bk:Bk
 tk:Int
 nx:Int
 asked:List Int
def nodeOk (c:Cf) (who:Int) (x:Nd):Prop:=bookOk c who x.bk∧(0≤x.tk∧x.tk≤1125899906842624)∧(0≤x.nx∧x.nx≤x.tk + 16)∧x.asked.length≤64
instance (c:Cf) (who:Int) (x:Nd):Decidable (nodeOk c who x):=by unfold nodeOk; exact inferInstance
def nodeB (c:Cf) (who:Int) (x:Nd):Bool:=decide (nodeOk c who x)
def headQ (k:Bk):Rq:=rqAt k.line 0
def rowsK (k:Bk) (l:List Rw):Bk:=⟨k.clk,l,k.line,k.outs,k.asks,k.notes,k.au⟩
def auK (k:Bk) (a:Au):Bk:=⟨k.clk,k.rows,k.line,k.outs,k.asks,k.notes,a⟩
def leftK (k:Bk) (code:Int):Bk:=⟨k.clk,k.rows,k.line.tail,k.outs ++ [⟨(headQ k).t,(headQ k).a,code⟩],0,k.notes,au0⟩
def serveOk (c:Cf) (who:Int) (k:Bk):Prop:=k.line ≠ []∧heldB c who k.notes (headQ k).t (headQ k).a=false∧(takeR c k.rows who (headQ k).m).2=0
instance (c:Cf) (who:Int) (k:Bk):Decidable (serveOk c who k):=by unfold serveOk; exact inferInstance
def servedK (c:Cf) (who:Int) (k:Bk):Bk:=leftK (rowsK k (takeR c k.rows who (headQ k).m).1) 0
def serveK (c:Cf) (who:Int):Nat→Bk→Bk
 | 0,k=>k
 | f + 1,k=>if serveOk c who k then serveK c who f (servedK c who k) else k
def goesK (c:Cf) (who:Int) (k:Bk):Bk:=if (nextA c who k.au k.rows).2=true then auK k (nextA c who k.au k.rows).1 else k
def endsK (c:Cf) (who:Int) (k:Bk):Bk:=if (endsA c who k.au k.rows).2.2=true then auK k au0 else k
def lacksK (c:Cf) (who:Int) (k:Bk):Prop:=k.line ≠ []∧(endsA c who k.au k.rows).2.2=true∧(endsA c who k.au k.rows).2.1=true∧(endsA c who k.au k.rows).1 < (headQ k).m
instance (c:Cf) (who:Int) (k:Bk):Decidable (lacksK c who k):=by unfold lacksK; exact inferInstance
def onceK (c:Cf) (who:Int) (k:Bk):Bk:=goesK c who (serveK c who k.line.length k)
def loopK (c:Cf) (who:Int):Nat→Bk→Bk
 | 0,k=>k
 | f + 1,k=>if lacksK c who (onceK c who k) then loopK c who f (leftK (onceK c who k) 7) else endsK c who (onceK c who k)
def moveK (c:Cf) (who:Int) (k:Bk) (tg amount:Int):Bk:=if (moveR c k.rows who tg amount).2=0 then rowsK k (moveR c k.rows who tg amount).1 else k
def roomV (c:Cf) (who:Int) (k:Bk) (tg:Int):Int:=min (ofV c k.rows who) (1125899906842624 - (at_ k.rows who.toNat).out[tg.toNat]?.getD 0)
def yieldK (c:Cf) (who:Int) (k:Bk):Bk:=if (callsN c who k.notes (headQ k)).2=true then moveK c who k (callsN c who k.notes (headQ k)).1 (roomV c who k (callsN c who k.notes (headQ k)).1) else k
def settleK (c:Cf) (who:Int) (k:Bk):Bk:=yieldK c who (loopK c who (k.line.length + 1) k)
def IK (c:Cf) (who:Int) (k:Bk):Prop :=
 rightOk c k.rows∧(0≤who∧who < c.n)∧(0≤k.clk∧k.clk≤1125899906842624)∧lineOk c who k.line∧((k.outs.length:Int) + k.line.length≤c.q∧0≤k.asks∧k.asks≤c.r) ∧
 (∀ i,i < k.line.length→(rqAt k.line i).t≤k.clk)∧(∀ i,i < k.outs.length→outB c who k.clk (rqAt k.outs i)=true) ∧
 (k.line=[]→k.asks=0∧k.au=au0)∧notesOk c who k.notes∧auOk c who k.au
open Go.RowKit
theorem OwnBooks.butS {w W:World} {base:Nat} {S:Nat→Prop} {v:Value} {l:List Rw} (h:OwnBooks w base v l) (hS:∀ b,S b→b < base) (k:ButS S w W):OwnBooks W base v l:=by
 obtain ⟨g,h1,h2,h3⟩:=h
 exact ⟨g,row_butS h1 hS k,fun i hi=>⟨(h2 i hi).1,row_butS (h2 i hi).2 hS k⟩,h3⟩
theorem Books.long {w:World} {v:Value} {l:List Rw} (h:Books w v l):l.length≤9223372036854775807∧∀ k,k < l.length→(at_ l k).out.length≤9223372036854775807:=by
 obtain ⟨g,h1,h2⟩:=h;refine ⟨h1.1,fun k hk=>?_⟩
 obtain ⟨A,C,_,h3⟩:=h2 k hk
 exact h3.1
theorem OwnBooks.here {w:World} {base:Nat} {A:Option Addr} {C:Nat} {l:List Rw} (h:OwnBooks w base (.slice A l.length C) l) (hl:l.length≤9223372036854775807∧∀ k,k < l.length→(at_ l k).out.length≤9223372036854775807):Books w (.slice A l.length C) l:=by
 obtain ⟨A',C',e,hB⟩:=h.books hl.1 hl.2;rw [e]
 exact hB
abbrev zeroK:Array Value:=bkCells bk0 (.slice none 0 0) (.slice none 0 0) (.slice none 0 0) (.slice none 0 0) (.slice none 0 0) (.slice none 0 0) (.slice none 0 0)
abbrev rowsP (p:Bl) (A:Option Addr) (m C:Nat):Bl:=⟨A,m,C,p.a2,p.m2,p.c2,p.a3,p.m3,p.c3,p.a4,p.m4,p.c4,p.al⟩
end Go.Proofs.YtecjnkokdnmhlaaGreat
namespace Go.Proofs.YtecjnkokdnmhlaaGreat
open Go.RowKit
structure Nl where
 bl:Bl
 a:Option Addr
 m:Nat
 c:Nat
abbrev ndCells (x:Nd) (rv lv ov nv tv uv iv sv:Value):Array Value :=
 #[.int .i64 x.bk.clk,rv,lv,ov,.int .i64 x.bk.asks,nv,.int .i64 x.bk.au.try_,.int .i64 x.bk.au.ph,tv,uv,iv,.bool x.bk.au.moved,.int .i64 x.tk,.int .i64 x.nx,sv]
abbrev ndAtC (x:Nd) (p:Nl):Array Value:=ndCells x (.slice p.bl.a1 p.bl.m1 p.bl.c1) (.slice p.bl.a2 p.bl.m2 p.bl.c2) (.slice p.bl.a3 p.bl.m3 p.bl.c3) (.slice p.bl.a4 p.bl.m4 p.bl.c4) (.slice p.bl.al.a1 p.bl.al.m1 p.bl.al.c1) (.slice p.bl.al.a2 p.bl.al.m2 p.bl.al.c2) (.slice p.bl.al.a3 p.bl.al.m3 p.bl.al.c3) (.slice p.a p.m p.c)
abbrev ndAt (x:Nd) (p:Nl):Value:=.agg (ndAtC x p)
def NdIn (w:World) (p:Nl) (x:Nd):Prop:=BkIn w p.bl x.bk∧p.m=x.asked.length∧Nums w (.slice p.a p.m p.c) x.asked
theorem NdIn.later {w w':World} {p:Nl} {x:Nd} (h:NdIn w p x) (hb:Below w.heap.size w w'):NdIn w' p x:=⟨h.1.later hb,h.2.1,h.2.2.later hb⟩
theorem nd_cells {w:World} {g:Nat} {x:Nd} {rv lv ov nv tv uv iv sv:Value} (h:Whole w g 39 (ndCells x rv lv ov nv tv uv iv sv)) :
 (w.cell? ⟨g,0,none⟩=some (.int .i64 x.bk.clk)∧w.cell? ⟨g,1,none⟩=some rv∧w.cell? ⟨g,2,none⟩=some lv∧w.cell? ⟨g,3,none⟩=some ov) ∧
 (w.cell? ⟨g,4,none⟩=some (.int .i64 x.bk.asks)∧w.cell? ⟨g,5,none⟩=some nv∧w.cell? ⟨g,6,none⟩=some (.int .i64 x.bk.au.try_)∧w.cell? ⟨g,7,none⟩=some (.int .i64 x.bk.au.ph)) ∧
 (w.cell? ⟨g,8,none⟩=some tv∧w.cell? ⟨g,9,none⟩=some uv∧w.cell? ⟨g,10,none⟩=some iv∧w.cell? ⟨g,11,none⟩=some (.bool x.bk.au.moved)) ∧
 (w.cell? ⟨g,12,none⟩=some (.int .i64 x.tk)∧w.cell? ⟨g,13,none⟩=some (.int .i64 x.nx)∧w.cell? ⟨g,14,none⟩=some sv) :=
 ⟨⟨h.cell 0,h.cell 1,h.cell 2,h.cell 3⟩,⟨h.cell 4,h.cell 5,h.cell 6,h.cell 7⟩,⟨h.cell 8,h.cell 9,h.cell 10,h.cell 11⟩,h.cell 12,h.cell 13,h.cell 14⟩
end Go.Proofs.YtecjnkokdnmhlaaGreat
namespace Go.Proofs.YtecjnkokdnmhlaaGreat
open Go.ChangeShapes Go.WideShapes Go.ChangeAt Go.RowKit Go.Joins Go.Deep
theorem cells_node:Tryz.prog.cellsOf 39=15:=by kernel_rfl
set_option maxRecDepth 100000 in
theorem open_node {H:Type} {enc:TypeId × Value→H} {W:World} {base:Nat} {v:Value} {d:DataW H} {p:List MemPlace} (hv:Value.okWide Tryz.prog W .any base 39 v)
 (h:DataW.Trod enc Tryz.prog W 0 (fun _=>true) true 39 v d p) (hw:Held 39 d) :
 ∃ (x:Nd) (pl:Nl),v=ndAt x pl∧NdIn W pl x∧Reach x.bk.rows:=by
 obtain ⟨cs,rfl,hsz⟩:=okWide_struct Tryz.underlying39 hv;obtain ⟨fuel,hf⟩:=h;obtain ⟨xs,m,_,hxe,_,hlen,hat⟩:=DataW.trod_struct Tryz.underlying39 hf;rw [cells_node] at hsz;obtain ⟨l⟩:=cs
 match l,hsz with
 | [v0, v1, v2, v3, v4, v5, v6, v7, v8, v9, v10, v11, v12, v13, v14], _ =>
   have hl2:xs.length=2:=hlen;have E:∀ j,(hj:j < 2)→xs[j]?=some (xs[j]'(by omega)):=fun j hj=>List.getElem?_eq_getElem (by omega)
   have h0:=hat 0 _ rfl;have h1:=hat 1 _ rfl;rw [E 0 (by decide)] at h0
   rw [E 1 (by decide)] at h1
   have hy:d=_:=congrArg Prod.fst hxe
   obtain ⟨k,q,e0,hK,hR⟩:=twelve_book (v0:=v0) (v1:=v1) (v2:=v2) (v3:=v3) (v4:=v4) (v5:=v5) (v6:=v6) (v7:=v7) (v8:=v8) (v9:=v9) (v10:=v10) (v11:=v11) h0 (fun n hn=>hw n (by
    rw [hy];simp only [DataW.weights,Tryz.underlying39]
    exact DataW.weights_mem_each (j:=0) rfl (by rw [List.getElem?_map,E 0 (by decide)]; rfl) n hn))
   obtain ⟨ys,m',_,_,_,hlen',hat'⟩:=DataW.trod_struct Tryz.underlying37 h1;have hl3:ys.length=3:=hlen';have E':∀ j,(hj:j < 3)→ys[j]?=some (ys[j]'(by omega)):=fun j hj=>List.getElem?_eq_getElem (by omega)
   have g0:=hat' 0 _ rfl;have g1:=hat' 1 _ rfl;have g2:=hat' 2 _ rfl;rw [E' 0 (by decide)] at g0
   rw [E' 1 (by decide)] at g1
   rw [E' 2 (by decide)] at g2
   obtain ⟨tk,rfl⟩:=one_int64 (v:=v12) g0;obtain ⟨nx,rfl⟩:=one_int64 (v:=v13) g1;obtain ⟨a,n,c,asked,rfl,hn,hA⟩:=open_nums (v:=v14) g2;simp only [Value.agg.injEq,Array.mk.injEq,List.cons.injEq,and_true] at e0;obtain ⟨rfl,rfl,rfl,rfl,rfl,rfl,rfl,rfl,rfl,rfl,rfl,rfl⟩:=e0
   exact ⟨⟨k,tk,nx,asked⟩,⟨q,a,n,c⟩,rfl,⟨hK,hn,hA⟩,hR⟩
end Go.Proofs.YtecjnkokdnmhlaaGreat
namespace Go.Proofs.YtecjnkokdnmhlaaGreat
open Go.RowKit
def tickT (a b:Int):Int:=if a < 0∨b < 0 then 0 else if 1125899906842624≤a∨1125899906842624≤b then 0 else if a < b then b + 1 else a + 1
def tickC (a b:Int):Int:=if a < 0∨b < 0 then 1 else if 1125899906842624≤a∨1125899906842624≤b then 6 else 0
def Ticks (w:World) (a b:Int) (e:Ending) (w':World):Prop:=e=.returned (.tuple #[.int .i64 (tickT a b),.int .i64 (tickC a b)])∧w=w'
theorem Ticks.mk {w:World} {a b t c:Int} (h:tickT a b=t∧tickC a b=c):Ticks w a b (.returned (.tuple #[.int .i64 t,.int .i64 c])) w:=⟨by rw [h.1,h.2],rfl⟩
theorem tick_arg {a b:Int} (h:a < 0∨b < 0):tickT a b=0∧tickC a b=1:=by simp [tickT,tickC,h]
theorem tick_range {a b:Int} (h:¬ (a < 0∨b < 0)) (g:1125899906842624≤a∨1125899906842624≤b):tickT a b=0∧tickC a b=6:=by
 unfold tickT tickC; rw [if_neg h,if_neg h,if_pos g,if_pos g]; exact ⟨rfl,rfl⟩
theorem tick_b {a b:Int} (h:¬ (a < 0∨b < 0)) (g:¬ (1125899906842624≤a∨1125899906842624≤b)) (k:a < b):tickT a b=b + 1∧tickC a b=0:=by
 unfold tickT tickC; rw [if_neg h,if_neg h,if_neg g,if_neg g,if_pos k]; exact ⟨rfl,rfl⟩
theorem tick_a {a b:Int} (h:¬ (a < 0∨b < 0)) (g:¬ (1125899906842624≤a∨1125899906842624≤b)) (k:¬ a < b):tickT a b=a + 1∧tickC a b=0:=by
 unfold tickT tickC; rw [if_neg h,if_neg h,if_neg g,if_neg g,if_neg k]; exact ⟨rfl,rfl⟩
end Go.Proofs.YtecjnkokdnmhlaaGreat
namespace Go.Proofs.YtecjnkokdnmhlaaGreat
open Go.RowKit
theorem ofV_bound (c:Cf) (l:List Rw) (who:Int):0≤ofV c l who∧ofV c l who≤19140298416324608:=by
 unfold ofV
 split
 · rename_i h
   obtain ⟨hr,h1,h2⟩:=h;have hl:=hr.2.1;have hw:who.toNat < l.length:=by omega
   have h3:=hr.2.2.2 who.toNat hw;have h4:=(rightsV_bound (c:=c) hr.fits hr.len hw).2
   omega
 · omega
def spareV (c:Cf) (l:List Rw) (who keep:Int):Int:=if 0 < keep then (if ofV c l who≤keep then 0 else ofV c l who - keep) else ofV c l who
theorem spareV_bound (c:Cf) (l:List Rw) (who keep:Int):0≤spareV c l who keep∧spareV c l who keep≤ofV c l who:=by
 have:=ofV_bound c l who
 unfold spareV
 split
 · split <;> omega
 · omega
def PoorIn (g:Int→Int) (who a b t:Int):Prop:=a≤t∧t < b∧t ≠ who∧∀ i,a≤i→i < b→i ≠ who→g t < g i∨(g t=g i∧t≤i)
def poorU (g:Int→Int) (who:Int):Nat→Int
 | 0=>-1
 | k + 1=>if (k:Int)=who then poorU g who k else if poorU g who k < 0 then (k:Int) else if g (k:Int) < g (poorU g who k) then (k:Int) else poorU g who k
def Best (g:Int→Int) (who a b t:Int):Prop:=(t=-1∧∀ i,a≤i→i < b→i=who)∨PoorIn g who a b t
theorem Best.up_who {g:Int→Int} {who a b t:Int} (h:Best g who a b t) (hb:b=who):Best g who a (b + 1) t:=by
 rcases h with ⟨h1,h2⟩ | ⟨h1,h2,h3,h4⟩
 · exact Or.inl ⟨h1,fun i hi hj=>if e:i=b then e.trans hb else h2 i hi (by omega)⟩
 · exact Or.inr ⟨h1,by omega,h3,fun i hi hj hw=>h4 i hi (by omega) hw⟩
theorem Best.up_new {g:Int→Int} {who a b t:Int} (h:Best g who a b t) (hab:a≤b) (hb:b ≠ who) (hn:t < 0∨g b < g t) (ha:0≤a):Best g who a (b + 1) b:=by
 rcases h with ⟨h1,h2⟩ | ⟨h1,h2,h3,h4⟩
 · refine Or.inr ⟨hab,by omega,hb,fun i hi hj hw=>?_⟩
   by_cases e:i=b
   · subst e; exact Or.inr ⟨rfl,Int.le_refl _⟩
   · exact absurd (h2 i hi (by omega)) hw
 · refine Or.inr ⟨hab,by omega,hb,fun i hi hj hw=>?_⟩
   by_cases e:i=b
   · subst e; exact Or.inr ⟨rfl,Int.le_refl _⟩
   · have:=h4 i hi (by omega) hw
     omega
theorem Best.up_old {g:Int→Int} {who a b t:Int} (h:Best g who a b t) (ht:0≤t) (hn:g t≤g b):Best g who a (b + 1) t:=by
 rcases h with ⟨h1,h2⟩ | ⟨h1,h2,h3,h4⟩
 · omega
 · refine Or.inr ⟨h1,by omega,h3,fun i hi hj hw=>?_⟩
   by_cases e:i=b
   · subst e; omega
   · exact h4 i hi (by omega) hw
theorem poorU_best (g:Int→Int) (who:Int):∀ k:Nat,Best g who 0 k (poorU g who k)
 | 0=>Or.inl ⟨rfl,fun i hi hj=>by omega⟩
 | k + 1 => by
   have ih:=poorU_best g who k
   unfold poorU
   rw [show ((k + 1:Nat):Int)=(k:Int) + 1 by omega]
   split
   · rename_i h; exact ih.up_who h
   · rename_i h
     split
     · rename_i h2; exact ih.up_new (by omega) h (Or.inl h2) (Int.le_refl _)
     · split
       · rename_i h2 h3; exact ih.up_new (by omega) h (Or.inr h3) (Int.le_refl _)
       · rename_i h2 h3; exact ih.up_old (by omega) (by omega)
theorem Best.poor {g:Int→Int} {who n t:Int} (h:Best g who 0 n t) (h2:2≤n):PoorIn g who 0 n t:=by
 rcases h with ⟨h1,h3⟩ | h
 · have a:=h3 0 (by omega) (by omega)
   have b:=h3 1 (by omega) (by omega)
   omega
 · exact h
def giveV (c:Cf) (l:List Rw) (who keep:Int):Int × Int :=
 if rightOk c l∧0≤who∧who < c.n∧c.n ≠ 1 then
  (if spareV c l who keep - ofV c l (poorU (ofV c l) who c.n.toNat) < 2 then (0,0) else (poorU (ofV c l) who c.n.toNat,(spareV c l who keep - ofV c l (poorU (ofV c l) who c.n.toNat)) / 2))
 else (0,0)
theorem giveV_no {c:Cf} {l:List Rw} {who keep:Int} (h:¬ (rightOk c l∧0≤who∧who < c.n∧c.n ≠ 1)):giveV c l who keep=(0,0):=if_neg h
def Two (w:World) (x:Int × Int) (e:Ending) (w':World):Prop:=e=.returned (.tuple #[.int .i64 x.1,.int .i64 x.2])∧Below w.heap.size w w'
end Go.Proofs.YtecjnkokdnmhlaaGreat
namespace Go.Proofs.YtecjnkokdnmhlaaGreat
def lastN (l:List Int):List Int:=l.drop (l.length - 64)
def stepE (e:Nat × Nat) (x:Int):Nat × Nat:=if x=0 then (e.1 / 2,e.2 / 2) else if 1≤x∧x≤1099511627776 then (e.1 + x.toNat,e.2 + 1) else e
def runE (l:List Int):Nat × Nat:=l.foldl stepE (0,0)
def estE (l:List Int):Nat × Nat:=runE (lastN l)
def keepN (l:List Int) (x:Int):List Int:=lastN (l ++ [x])
theorem runE_snoc (l:List Int) (x:Int):runE (l ++ [x])=stepE (runE l) x:=by unfold runE; rw [List.foldl_append]; rfl
theorem stepE_zero (e:Nat × Nat):stepE e 0=(e.1 / 2,e.2 / 2):=if_pos rfl
theorem stepE_in (e:Nat × Nat) {x:Int} (h1:1≤x) (h2:x≤1099511627776):stepE e x=(e.1 + x.toNat,e.2 + 1):=by unfold stepE; rw [if_neg (by omega),if_pos ⟨h1,h2⟩]
theorem stepE_out (e:Nat × Nat) {x:Int} (h0:x ≠ 0) (h:¬ (1≤x∧x≤1099511627776)):stepE e x=e:=by unfold stepE; rw [if_neg h0,if_neg h]
theorem step_bound {e:Nat × Nat} {k:Nat} (x:Int) (h:e.1≤k * 1099511627776∧e.2≤k∧e.1≤(e.2 + 1) * 1099511627776) :
 (stepE e x).1≤(k + 1) * 1099511627776∧(stepE e x).2≤k + 1∧(stepE e x).1≤((stepE e x).2 + 1) * 1099511627776:=by
 obtain ⟨h1,h2,h3⟩:=h
 by_cases hx:x=0
 · subst hx
   rw [stepE_zero];simp only
   omega
 · by_cases hx2:1≤x∧x≤1099511627776
   · rw [stepE_in e hx2.1 hx2.2]
     simp only
     omega
   · rw [stepE_out e hx hx2]
     omega
theorem runE_bound (l:List Int):(runE l).1≤l.length * 1099511627776∧(runE l).2≤l.length∧(runE l).1≤((runE l).2 + 1) * 1099511627776:=by
 have key:∀ (l:List Int) (e:Nat × Nat) (k:Nat),(e.1≤k * 1099511627776∧e.2≤k∧e.1≤(e.2 + 1) * 1099511627776) →
  (l.foldl stepE e).1≤(k + l.length) * 1099511627776∧(l.foldl stepE e).2≤k + l.length∧(l.foldl stepE e).1≤((l.foldl stepE e).2 + 1) * 1099511627776:=by
  intro l
  induction l with
  | nil=>intro e k h; simpa using h
  | cons x l ih =>
    intro e k h;have:=ih (stepE e x) (k + 1) (step_bound x h);rw [List.foldl_cons,List.length_cons];rwa [show k + 1 + l.length=k + (l.length + 1) by omega] at this
 have:=key l (0,0) 0 (by simp)
 rwa [Nat.zero_add] at this
theorem lastN_length (l:List Int):(lastN l).length=l.length - (l.length - 64):=by unfold lastN; rw [List.length_drop]
theorem lastN_le (l:List Int):(lastN l).length≤64:=by rw [lastN_length]; omega
theorem estE_bound (l:List Int):(estE l).1≤70368744177664∧(estE l).2≤64∧(estE l).1≤((estE l).2 + 1) * 1099511627776:=by
 have h:=runE_bound (lastN l);have:=lastN_le l
 unfold estE
 omega
theorem keepN_le (l:List Int) (x:Int):(keepN l x).length≤64:=lastN_le _
theorem run_part {l:List Int} {j k:Nat} (hj:j≤k) (hk:k < l.length):runE ((l.take (k + 1)).drop j)=stepE (runE ((l.take k).drop j)) (l[k]?.getD 0):=by
 rw [List.take_add_one,List.getElem?_eq_getElem hk,List.drop_append_of_le_length (by rw [List.length_take]; omega)]
 exact runE_snoc _ _
theorem run_part_bound {l:List Int} {j k:Nat} (hk:k≤j + 64):(runE ((l.take k).drop j)).1≤70368744177664∧(runE ((l.take k).drop j)).2≤64:=by
 have h:=runE_bound ((l.take k).drop j);have:((l.take k).drop j).length≤64:=by rw [List.length_drop,List.length_take]; omega
 omega
end Go.Proofs.YtecjnkokdnmhlaaGreat
