/- Parts, as far as NodeAtOnceCards reaches them, of: WaitMath, NodeSteps, AuditOff, AuditOwn, NodeCopyMath, NodeWake, AuditEnd, PackMath, PaintMath, MailMath, BookMath, BookCells, NodeSettle, RqCells, LineOwn, OutOwn, NodeSt. No law is proved here. -/
import Derived.Test.YtecjnkokdnmhlaaGreatTa3
namespace Go.Proofs.YtecjnkokdnmhlaaGreat
def heldN (t:Int):Nat:=min t.toNat 10
def boundW (p t:Int):Nat:=if 1≤p∧p≤16 then min (2 ^ heldN t) p.toNat else 0
def waitV (p t:Int) (d:Nat):Nat:=if boundW p t=0 then 0 else d % boundW p t + 1
theorem two_next (k:Nat):2 ^ (k + 1)=2 * 2 ^ k:=by rw [Nat.pow_succ,Nat.mul_comm]
theorem boundW_out {p:Int} (t:Int) (h:p < 1∨16 < p):boundW p t=0:=by unfold boundW; rw [if_neg (by omega)]
theorem boundW_in {p:Int} (t:Int) (h1:1≤p) (h2:p≤16):boundW p t=min (2 ^ heldN t) p.toNat:=by unfold boundW; rw [if_pos ⟨h1,h2⟩]
theorem boundW_le (p t:Int):boundW p t≤16:=by
 by_cases h:p < 1∨16 < p
 · rw [boundW_out t h]; omega
 · rw [boundW_in t (by omega) (by omega)]; omega
theorem waitV_le (p t:Int) (d:Nat):waitV p t d≤boundW p t:=by
 unfold waitV
 by_cases h:boundW p t=0
 · rw [if_pos h]; omega
 · rw [if_neg h]; have:=Nat.mod_lt d (Nat.pos_of_ne_zero h); omega
def clearK (k:Bk):Bk:=⟨k.clk,k.rows,k.line,[],k.asks,k.notes,k.au⟩
def quietB (c:Cf) (who:Int) (k:Bk):Bool:=decide (k.line=[]) && !(oldestN c who k.notes).2
def joinsK (k:Bk) (t who m:Int):Bk:=⟨t,k.rows,k.line ++ [⟨t,who,m⟩],[],k.asks,k.notes,k.au⟩
def decNd (c:Cf) (who:Int) (x:Nd) (m:Int):Nd × (Int × Int) × Int :=
 if nodeOk c who x then
  (if m < 1 ∨ 1099511627776 < m then (x, (0, 0), 2) else if c.q ≤ (x.bk.line.length : Int) then (x, (0, 0), 3)
   else if tickC x.bk.clk 0=0 then (⟨settleK c who (joinsK x.bk (tickT x.bk.clk 0) who m),x.tk,x.nx,keepN x.asked m⟩,(tickT x.bk.clk 0,who),0) else (x,(0,0),tickC x.bk.clk 0))
 else (x,(0,0),1)
def readNd (c:Cf) (who:Int) (x:Nd):Int:=if nodeOk c who x then valueV c x.bk.rows else 0
def asksK (c:Cf) (k:Bk):Bk:=if k.line ≠ []∧k.asks < c.r then ⟨k.clk,k.rows,k.line,k.outs,k.asks + 1,k.notes,k.au⟩ else k
def looksK (c:Cf) (who:Int) (k:Bk):Option Bk :=
 if k.line ≠ []∧k.asks=c.r∧noneA k.au=true∧heldB c who k.notes (headQ k).t (headQ k).a=false then
  (if tickC k.clk 0=0 then some ⟨tickT k.clk 0,k.rows,k.line,k.outs,k.asks,k.notes,(beginA c who (tickT k.clk 0)).1⟩ else none)
 else some k
def givesK (c:Cf) (who:Int) (asked:List Int) (k:Bk):Bk :=
 if quietB c who k=true then moveK c who k (giveV c k.rows who ((estE asked).1:Nat)).1 (giveV c k.rows who ((estE asked).1:Nat)).2 else k
def letterK (who:Int) (k:Bk) (tg:Int):Ml:=⟨who,tg,k.clk,k.rows,(headQ k).t,(headQ k).a,(headQ k).m,k.asks,k.au.try_,k.au.ph,k.notes.map fun x=>(x.try_,x.ph)⟩
def clkK (k:Bk) (t:Int):Bk:=⟨t,k.rows,k.line,k.outs,k.asks,k.notes,k.au⟩
def writeK (who:Int) (k:Bk):Nat→Option (Bk × List Ml)
 | 0=>some (k,[])
 | i + 1 => match writeK who k i with
   | none=>none
   | some (k',l)=>if (i:Int)=who then some (k',l) else if tickC k'.clk 0=0 then some (clkK k' (tickT k'.clk 0),l ++ [letterK who (clkK k' (tickT k'.clk 0)) (i:Int)]) else none
def tickNd (c:Cf) (who:Int) (x:Nd) (draw:Nat):Nd × List Ml × Int :=
 if nodeOk c who x then
  (if 1125899906842624 ≤ x.tk then (x, [], 6) else if x.tk + 1 < x.nx then (⟨x.bk, x.tk + 1, x.nx, keepN x.asked 0⟩, [], 0)
   else match looksK c who (asksK c (clearK x.bk)) with
    | none=>(x,[],6)
    | some k => match writeK who (settleK c who (givesK c who (keepN x.asked 0) k)) c.n.toNat with
      | none=>(x,[],6)
      | some (k',l)=>(⟨k',x.tk + 1,x.tk + 1 + (waitV c.p k'.asks draw:Nat),keepN x.asked 0⟩,l,0))
 else (x,[],1)
open Go.RowKit
def OffAl (g:Nat) (p:Al):Prop:=(∀ ad,p.a1=some ad→ad.block ≠ g)∧(∀ ad,p.a2=some ad→ad.block ≠ g)∧∀ ad,p.a3=some ad→ad.block ≠ g
def GaveAO (w:World) (F:Nat→Prop) (x:Au × Int) (e:Ending) (w':World):Prop:=∃ p:Al,e=.returned (.tuple #[auAt x.1 p,.int .i64 x.2])∧AuIn w' p x.1∧Below w.heap.size w w'∧∀ g,F g→(g < w.heap.size∨w'.heap.size≤g)→OffAl g p
def GoesAO (w:World) (F:Nat→Prop) (x:Au × Bool) (e:Ending) (w':World):Prop:=∃ p:Al,e=.returned (.tuple #[auAt x.1 p,.bool x.2])∧AuIn w' p x.1∧Below w.heap.size w w'∧∀ g,F g→(g < w.heap.size∨w'.heap.size≤g)→OffAl g p
def au6 (wx:World) (g:Nat) (y:Au) (p:Al):World:=(((((wx.setCell ⟨g,0,none⟩ (.int .i64 y.try_)).setCell ⟨g,1,none⟩ (.int .i64 y.ph)).setCell ⟨g,2,none⟩ (.slice p.a1 p.m1 p.c1)).setCell ⟨g,3,none⟩ (.slice p.a2 p.m2 p.c2)).setCell ⟨g,4,none⟩ (.slice p.a3 p.m3 p.c3)).setCell ⟨g,5,none⟩ (.bool y.moved)
theorem au6_whole {wx:World} {g:Nat} {x y:Au} {v1 v2 v3:Value} {p:Al} (h:Whole wx g 33 (auCells x v1 v2 v3)):Whole (au6 wx g y p) g 33 (auCells y (.slice p.a1 p.m1 p.c1) (.slice p.a2 p.m2 p.c2) (.slice p.a3 p.m3 p.c3)) :=
 (((((h.set 0 (.int .i64 y.try_)).set 1 (.int .i64 y.ph)).set 2 (.slice p.a1 p.m1 p.c1)).set 3 (.slice p.a2 p.m2 p.c2)).set 4 (.slice p.a3 p.m3 p.c3)).set 5 (.bool y.moved)
theorem au6_below {B:Nat} {w0 wx:World} {g:Nat} {y:Au} {p:Al} (hb:Below B w0 wx) (hg:B≤g):Below B w0 (au6 wx g y p) :=
 (((((hb.setCell (p:=⟨g,0,none⟩) hg _).setCell (p:=⟨g,1,none⟩) hg _).setCell (p:=⟨g,2,none⟩) hg _).setCell (p:=⟨g,3,none⟩) hg _).setCell (p:=⟨g,4,none⟩) hg _).setCell (p:=⟨g,5,none⟩) hg _
end Go.Proofs.YtecjnkokdnmhlaaGreat
namespace Go.Proofs.YtecjnkokdnmhlaaGreat
open Go.ChangeShapes Go.WideShapes Go.ChangeAt Go.RowKit Go.Joins Go.Deep
theorem info_bool:(Tryz.prog.info? 4).map (fun i=>(i.zero,i.size,i.bytes))=some (some (.bool false),1,1):=by kernel_rfl
abbrev OwnT (w:World) (base:Nat) (v:Value) (l:List Bool):Prop:=w.ownsRow base 4 1 v l.length (flatCells 1 l.length fun i _=>.bool (l[i]?.getD false))
theorem OwnT.bools {w:World} {base:Nat} {v:Value} {l:List Bool} (h:OwnT w base v l) (hb:l.length≤9223372036854775807):∃ A C,v=.slice A l.length C∧Bools w (.slice A l.length C) l:=by
 obtain ⟨A,C,hv,_,he⟩:=elems_of_own h hb
 exact ⟨A,C,hv,he⟩
theorem ownT_nil (w:World):OwnT (w.alloc (.cells #[] 4)) w.heap.size (.slice (some ⟨w.heap.size,0,none⟩) 0 0) [] :=
 own_whole (cs:=#[]) (Whole.made w _ _) (Nat.le_refl _) rfl (by decide)
theorem run_append_bools {w:World} {base:Nat} {v:Value} {k:List Bool} {A:Option Addr} {m c:Nat} (hown:OwnT w base v []) (hE:Bools w (.slice A m c) k) (hm:m=k.length) (h:k.length≤1000000) (hbase:base≤w.heap.size) :
 ∃ v' w',(Builtin.append_ #[30,30] 30 #[v,.slice A m c]).run Tryz.prog w=.ok v' w'∧OwnT w' base v' k∧Below base w w'∧Grew w w' v v':=by
 subst hm;obtain ⟨i5,hi,hz0,hz1,hz2⟩:=info_parts info_bool
 obtain ⟨v',w',h1,h2,h3,h4⟩:=run_append_elems (P:=Tryz.prog) (w:=w) 30 30 base 4 i5 _ 1 1 Tryz.underlying30 hi hz0 hz1 hz2 rfl (by decide)
  v 0 _ hown A k.length c _ hE (fun i j _ _=>rfl) (by unfold maxLen; omega) (by omega) hbase
 refine ⟨v',w',h1,?_,h3,h4⟩;rw [Nat.zero_add] at h2
 exact h2
theorem own_mono {w:World} {base B:Nat} {e:TypeId} {s n:Nat} {v:Value} {xs:List Value} (h:w.ownsRow base e s v n xs) (hB:B≤base):w.ownsRow B e s v n xs:=by
 obtain ⟨h1,h2 | ⟨g,cap,cur,hv,hb,h3⟩⟩:=h
 · exact ⟨h1,Or.inl h2⟩
 · exact ⟨h1,Or.inr ⟨g,cap,cur,hv,Nat.le_trans hB hb,h3⟩⟩
theorem own_at {w:World} {base:Nat} {e:TypeId} {sz n m c:Nat} {A:Option Addr} {xs:List Value} (h:w.ownsRow base e sz (.slice A m c) n xs):∀ ad,A=some ad→base≤ad.block∧ad.block < w.heap.size:=fun ad had=>by
 subst had
 exact h.lt _ rfl
def OwnAu (w:World) (B:Nat) (p:Al) (x:Au):Prop :=
 (p.m1=x.told.length∧OwnT w B (.slice p.a1 p.m1 p.c1) x.told)∧(p.m2=x.use.length∧OwnN w B (.slice p.a2 p.m2 p.c2) x.use)∧(p.m3=x.inc.length∧OwnN w B (.slice p.a3 p.m3 p.c3) x.inc)∧∀ b,(Value.slice p.a2 p.m2 p.c2).ownBlock=some b→(Value.slice p.a3 p.m3 p.c3).ownBlock ≠ some b
theorem OwnAu.later {w w':World} {B:Nat} {p:Al} {x:Au} (h:OwnAu w B p x) (hb:Below w.heap.size w w'):OwnAu w' B p x:=⟨⟨h.1.1,own_later h.1.2 hb⟩,⟨h.2.1.1,own_later h.2.1.2 hb⟩,⟨h.2.2.1.1,own_later h.2.2.1.2 hb⟩,h.2.2.2⟩
theorem OwnAu.mono {w:World} {B B':Nat} {p:Al} {x:Au} (h:OwnAu w B p x) (hB:B'≤B):OwnAu w B' p x:=⟨⟨h.1.1,own_mono h.1.2 hB⟩,⟨h.2.1.1,own_mono h.2.1.2 hB⟩,⟨h.2.2.1.1,own_mono h.2.2.1.2 hB⟩,h.2.2.2⟩
theorem OwnAu.low {w:World} {B:Nat} {p:Al} {x:Au} (h:OwnAu w B p x) {q:Addr} (hq:q.block < B) (u:Value):OwnAu (w.setCell q u) B p x:=⟨⟨h.1.1,own_low h.1.2 hq u⟩,⟨h.2.1.1,own_low h.2.1.2 hq u⟩,⟨h.2.2.1.1,own_low h.2.2.1.2 hq u⟩,h.2.2.2⟩
theorem OwnAu.in {w:World} {B:Nat} {p:Al} {x:Au} (h:OwnAu w B p x) (hb:x.told.length≤1000000∧x.use.length≤1000000∧x.inc.length≤1000000):AuIn w p x:=by
 obtain ⟨⟨h1,o1⟩,⟨h2,o2⟩,⟨h3,o3⟩,_⟩:=h;refine ⟨⟨h1,?_⟩,⟨h2,?_⟩,h3,?_⟩
 · obtain ⟨A,C,hv,he⟩:=OwnT.bools o1 (by omega); rw [hv]; exact he
 · obtain ⟨A,C,hv,he⟩:=OwnN.nums o2 (by omega); rw [hv]; exact he
 · obtain ⟨A,C,hv,he⟩:=OwnN.nums o3 (by omega); rw [hv]; exact he
theorem OwnAu.off {w:World} {B:Nat} {p:Al} {x:Au} (h:OwnAu w B p x) {g:Nat} (hg:g < B∨w.heap.size≤g):OffAl g p :=
 ⟨fun ad had=>by have:=own_at h.1.2 ad had; omega,fun ad had=>by have:=own_at h.2.1.2 ad had; omega,fun ad had=>by have:=own_at h.2.2.1.2 ad had; omega⟩
theorem own_n_set {w:World} {base:Nat} {v:Value} {l:List Int} (h:OwnN w base v l) {i:Nat} (hi:i < l.length) (x:Int) :
 ∃ b cap,v=.slice (some ⟨b,0,none⟩) l.length cap∧base≤b∧b < w.heap.size∧w.frozen? ⟨b,i,none⟩=false∧w.cell? ⟨b,i,none⟩=some (.int .i64 (l[i]?.getD 0))∧OwnN (w.setCell ⟨b,i,none⟩ (.int .i64 x)) base v (l.set i x):=by
 obtain ⟨b,cap,hv,hb,hl,hf,hc,ho⟩:=own_set (f':=fun p _=>.int .i64 ((l.set i x)[p]?.getD 0)) (x:=.int .i64 x) h hi (j:=0) (by decide) (fun p q hp hq=>by
  obtain rfl:q=0:=by omega
  by_cases e:p=i
  · subst e; rw [if_pos ⟨rfl,rfl⟩,List.getElem?_set_self hi]; rfl
  · rw [if_neg (fun h=>e h.1),List.getElem?_set_ne (fun h=>e h.symm)])
 have hc0:=hc i 0 hi (by decide)
 rw [Nat.mul_one,Nat.add_zero] at hc0 ho;refine ⟨b,cap,hv,hb,hl,hf i,hc0,?_⟩
 show World.ownsRow _ _ _ _ _ _ _
 rw [List.length_set]
 exact ho
theorem own_t_set {w:World} {base:Nat} {v:Value} {l:List Bool} (h:OwnT w base v l) {i:Nat} (hi:i < l.length) (x:Bool) :
 ∃ b cap,v=.slice (some ⟨b,0,none⟩) l.length cap∧base≤b∧b < w.heap.size∧w.frozen? ⟨b,i,none⟩=false∧w.cell? ⟨b,i,none⟩=some (.bool (l[i]?.getD false))∧OwnT (w.setCell ⟨b,i,none⟩ (.bool x)) base v (l.set i x):=by
 obtain ⟨b,cap,hv,hb,hl,hf,hc,ho⟩:=own_set (f':=fun p _=>.bool ((l.set i x)[p]?.getD false)) (x:=.bool x) h hi (j:=0) (by decide) (fun p q hp hq=>by
  obtain rfl:q=0:=by omega
  by_cases e:p=i
  · subst e; rw [if_pos ⟨rfl,rfl⟩,List.getElem?_set_self hi]; rfl
  · rw [if_neg (fun h=>e h.1),List.getElem?_set_ne (fun h=>e h.symm)])
 have hc0:=hc i 0 hi (by decide)
 rw [Nat.mul_one,Nat.add_zero] at hc0 ho;refine ⟨b,cap,hv,hb,hl,hf i,hc0,?_⟩
 show World.ownsRow _ _ _ _ _ _ _
 rw [List.length_set]
 exact ho
theorem own_other {w:World} {base:Nat} {e:TypeId} {s n:Nat} {v:Value} {xs:List Value} (h:w.ownsRow base e s v n xs) {q:Addr} (hq:v.ownBlock ≠ some q.block) (u:Value):(w.setCell q u).ownsRow base e s v n xs :=
 h.kept (grownBy_set w q u) (.inr hq)
end Go.Proofs.YtecjnkokdnmhlaaGreat
namespace Go.Proofs.YtecjnkokdnmhlaaGreat
open Go.RowKit
def CopyR (w:World) (base:Nat) (v:Value) (l:List Rw) (gr:Nat→Value) (k:Nat):Prop :=
 ∃ h : Nat → Value, w.ownsRow base 77 3 v l.length (flatCells 3 l.length (rowCell l fun i => if i < k then h i else gr i)) ∧
   (∀ i,i < k→(∃ A C,h i=.slice A (at_ l i).out.length C)∧w.ownsRow base 2 1 (h i) (at_ l i).out.length ((at_ l i).out.map (Value.int .i64))) ∧
   ∀ i j b,i < k→j < k→(h i).ownBlock=some b→(h j).ownBlock=some b→i=j
theorem CopyR.start {w:World} {base:Nat} {v:Value} {l:List Rw} {gr:Nat→Value} (h:w.ownsRow base 77 3 v l.length (flatCells 3 l.length (rowCell l gr))):CopyR w base v l gr 0 :=
 ⟨gr,by simpa only [ite_self] using h,fun _ hi=>absurd hi (Nat.not_lt_zero _),fun _ _ _ hi=>absurd hi (Nat.not_lt_zero _)⟩
theorem CopyR.done {w:World} {base:Nat} {v:Value} {l:List Rw} {gr:Nat→Value} (h:CopyR w base v l gr l.length):OwnBooks w base v l:=by
 obtain ⟨f,h1,h2,h3⟩:=h;refine ⟨f,?_,h2,h3⟩;rw [flat_ext3 (g:=rowCell l fun i=>if i < l.length then f i else gr i) (fun i j hi _=>by unfold rowCell; simp only [if_pos hi])]
 exact h1
theorem CopyR.at {w:World} {base k:Nat} {v:Value} {l:List Rw} {gr:Nat→Value} (h:CopyR w base v l gr k) (hk:k < l.length) :
 ∃ b cap,v=.slice (some ⟨b,0,none⟩) l.length cap∧base≤b∧b < w.heap.size∧w.cell? ⟨b,k * 3,none⟩=some (.int .i64 (at_ l k).inc)∧w.cell? ⟨b,k * 3 + 1,none⟩=some (.int .i64 (at_ l k).use)∧w.cell? ⟨b,k * 3 + 2,none⟩=some (gr k):=by
 obtain ⟨f,h1,h2,h3⟩:=h;obtain ⟨b,cap,hv,hbb,hbl,_,hc,_⟩:=own_set (f':=fun p q=>if p=k∧q=2 then .bool false else rowCell l (fun i=>if i < k then f i else gr i) p q) (x:=.bool false) h1 hk (j:=2) (by decide) (fun _ _ _ _=>rfl)
 refine ⟨b,cap,hv,hbb,hbl,?_,?_,?_⟩
 · exact hc k 0 hk (by decide)
 · exact hc k 1 hk (by decide)
 · have:=hc k 2 hk (by decide)
   rw [this]
   unfold rowCell
   simp
theorem CopyR.step {w w2:World} {base k:Nat} {v u:Value} {l:List Rw} {gr:Nat→Value} (h:CopyR w base v l gr k) (hk:k < l.length) (hw:base≤w.heap.size) (hb:Below w.heap.size w w2)
 (hu:∃ A C,u=.slice A (at_ l k).out.length C) (ho:w2.ownsRow w.heap.size 2 1 u (at_ l k).out.length ((at_ l k).out.map (Value.int .i64))) :
 ∃ b cap,v=.slice (some ⟨b,0,none⟩) l.length cap∧base≤b∧b < w.heap.size∧w2.frozen? ⟨b,k * 3 + 2,none⟩=false∧w2.cell? ⟨b,k * 3 + 2,none⟩=some (gr k)∧CopyR (w2.setCell ⟨b,k * 3 + 2,none⟩ u) base v l gr (k + 1):=by
 obtain ⟨f,h1,h2,h3⟩:=h;have h1':=own_later h1 hb
 obtain ⟨b,cap,hv,hbb,hbl,hfz,hc,hown⟩:=own_set (f':=rowCell l fun i=>if i < k + 1 then (if i=k then u else f i) else gr i) (x:=u) h1' hk (j:=2) (by decide) (fun p q _ hq=>by
  unfold rowCell
  by_cases hp:p=k
  · subst hp
    match q,hq with
    | 0,_=>simp
    | 1,_=>simp
    | 2,_=>simp
  · rw [if_neg (show ¬ (p=k∧q=2) from fun h=>hp h.1)]
    by_cases hpk:p < k
    · simp [hpk,hp,Nat.lt_succ_of_lt hpk]
    · simp [hpk,show ¬ p < k + 1 by omega])
 have hbw:b < w.heap.size:=by
  have h5:=h1.lt;rw [hv] at h5
  exact (h5 b rfl).2
 have hc2:=hc k 2 hk (by decide)
 have e2:rowCell l (fun i=>if i < k then f i else gr i) k 2=gr k:=by unfold rowCell; simp
 rw [e2] at hc2;refine ⟨b,cap,hv,hbb,hbw,hfz _,hc2,fun i=>if i=k then u else f i,?_,fun i hi=>?_,fun i j q hi hj e1 e2=>?_⟩
 · exact hown
 · by_cases e:i=k
   · subst e
     simp only [if_true];refine ⟨hu,own_mono (ho.kept (grownBy_set w2 _ u) (.inr fun e=>by have:=(ho.lt _ e).1; have e3:b=b:=rfl; simp only at this; omega)) hw⟩
   · have hik:i < k:=by omega
     simp only [if_neg e];refine ⟨(h2 i hik).1,?_⟩
     exact (own_later (h2 i hik).2 hb).kept (grownBy_set w2 _ u) (.inr fun e9=>own_apart (own_later (h2 i hik).2 hb) h1' (by decide) e9 (by rw [hv]; rfl))
 · by_cases a1:i=k
   · by_cases a2:j=k
     · rw [a1,a2]
     · simp only [if_pos a1,if_neg a2] at e1 e2
       have h6:=(ho.lt _ e1).1;have h7:=((h2 j (by omega)).2.lt _ e2).2
       omega
   · by_cases a2:j=k
     · simp only [if_neg a1,if_pos a2] at e1 e2
       have h6:=(ho.lt _ e2).1;have h7:=((h2 i (by omega)).2.lt _ e1).2
       omega
     · simp only [if_neg a1,if_neg a2] at e1 e2
       exact h3 i j q (by omega) (by omega) e1 e2
end Go.Proofs.YtecjnkokdnmhlaaGreat
namespace Go.Proofs.YtecjnkokdnmhlaaGreat
abbrev wakeC18:Cf:=⟨1,1,0,1,5,0⟩
abbrev wk1:Nd:=⟨⟨0,[⟨0,0,[0]⟩],[],[],0,[nt0],au0⟩,0,0,[]⟩
abbrev wk2:Nd:=⟨⟨1,[⟨0,3,[0]⟩],[],[⟨1,0,0⟩],0,[nt0],au0⟩,0,0,[3]⟩
abbrev wk3:Nd:=⟨⟨2,[⟨0,3,[0]⟩],[⟨2,0,3⟩],[],0,[nt0],au0⟩,0,0,[3,3]⟩
theorem wake_dec1:decNd wakeC18 0 wk1 3=(wk2,(1,0),0):=by rfl
theorem wake_read:readNd wakeC18 0 wk2=2:=by rfl
theorem wake_dec2:decNd wakeC18 0 wk2 3=(wk3,(2,0),0):=by rfl
theorem wake_tick:(tickNd wakeC18 0 wk3 0).2=([],0):=by rfl
theorem wake_outs:(tickNd wakeC18 0 wk3 0).1.bk.outs=[⟨2,0,7⟩]:=by rfl
open Go.ChangeShapes Go.WideShapes Go.ChangeAt Go.RowKit Go.Joins Go.Deep
theorem made_at {v:Value} {m j:Nat} (h:j < m):(madeCells #[v] m)[j]?=some v:=by
 unfold madeCells
 rw [Array.getElem?_map,Array.getElem?_range,if_pos h]
 show some ((#[v])[j % 1]!)=_
 rw [Nat.mod_one]; rfl
theorem made_flat1 {v:Value} {m:Nat} {f:Nat→Nat→Value} (hf:∀ i,i < m→f i 0=v):(madeCells #[v] m).toList=flatCells 1 m f:=by
 apply List.ext_getElem?;intro n
 by_cases hn:n < m
 · have h:=flat_at 1 m f n 0 hn (by decide)
   rw [Nat.mul_one,Nat.add_zero] at h;rw [h,hf n hn,Array.getElem?_toList]
   exact made_at hn
 · rw [List.getElem?_eq_none (by rw [Array.length_toList,size_madeCells]; omega),List.getElem?_eq_none (by rw [flat_length]; omega)]
theorem run_make_bools {w:World} {m:Nat} (h16:m≤1000):(Instr.makeSlice 30 (.int .i64 (m:Int)) (.int .i64 (m:Int))).run Tryz.prog w=.ok (.slice (some ⟨w.heap.size,0,none⟩) m m) (w.alloc (.cells (madeCells #[.bool false] m) 4)):=by
 obtain ⟨i0,hi,hz0,hz1,hz2⟩:=info_parts info_bool;have:=run_make (P:=Tryz.prog) w 30 4 i0 (.bool false) Tryz.underlying30 hi hz0 .i64 .i64 (m:Int) (m:Int) (by omega) (by omega) (by rw [hz2]; omega) (by omega)
 simpa [hz1,show (Value.bool false).cells=#[.bool false] from rfl] using this
theorem run_make_n64 {w:World} {m:Nat} (h16:m≤1000):(Instr.makeSlice 31 (.int .i64 (m:Int)) (.int .i64 (m:Int))).run Tryz.prog w=.ok (.slice (some ⟨w.heap.size,0,none⟩) m m) (w.alloc (.cells (madeCells #[.int .i64 0] m) 2)):=by
 obtain ⟨i0,hi,hz0,hz1,hz2⟩:=info_parts info_n64;have:=run_make (P:=Tryz.prog) w 31 2 i0 (.int .i64 0) Tryz.underlying31 hi hz0 .i64 .i64 (m:Int) (m:Int) (by omega) (by omega) (by rw [hz2]; omega) (by omega)
 simpa [hz1,show (Value.int .i64 0).cells=#[.int .i64 0] from rfl] using this
theorem own_made_t {w:World} {N B:Nat} (h:N≤1000) (hB:B≤w.heap.size):OwnT (w.alloc (.cells (madeCells #[.bool false] N) 4)) B (.slice (some ⟨w.heap.size,0,none⟩) N N) (List.replicate N false):=by
 show World.ownsRow _ _ _ _ _ _ _
 rw [List.length_replicate]
 exact own_whole (Whole.made w _ _) hB (made_flat1 fun i hi=>by rw [List.getElem?_replicate,if_pos hi]; rfl) (by unfold maxLen; omega)
theorem own_made_n {w:World} {N B:Nat} (h:N≤1000) (hB:B≤w.heap.size):OwnN (w.alloc (.cells (madeCells #[.int .i64 0] N) 2)) B (.slice (some ⟨w.heap.size,0,none⟩) N N) (List.replicate N 0):=by
 show World.ownsRow _ _ _ _ _ _ _
 rw [List.length_replicate]
 exact own_whole (Whole.made w _ _) hB (made_flat1 fun i hi=>by rw [List.getElem?_replicate,if_pos hi]; rfl) (by unfold maxLen; omega)
theorem own_six {w:World} {base:Nat} {e:TypeId} {s n:Nat} {v:Value} {xs:List Value} (h:w.ownsRow base e s v n xs) {g:Nat} (hg:g < base) (y:Au) (p:Al):(au6 w g y p).ownsRow base e s v n xs :=
 own_low (own_low (own_low (own_low (own_low (own_low h (p:=⟨g,0,none⟩) hg _) (p:=⟨g,1,none⟩) hg _) (p:=⟨g,2,none⟩) hg _) (p:=⟨g,3,none⟩) hg _) (p:=⟨g,4,none⟩) hg _) (p:=⟨g,5,none⟩) hg _
theorem whole_six {w:World} {g h:Nat} {T:TypeId} {cs:Array Value} (hw:Whole w g T cs) (hne:g ≠ h) (y:Au) (p:Al):Whole (au6 w h y p) g T cs :=
 (((((hw.other (p:=⟨h,0,none⟩) hne _).other (p:=⟨h,1,none⟩) hne _).other (p:=⟨h,2,none⟩) hne _).other (p:=⟨h,3,none⟩) hne _).other (p:=⟨h,4,none⟩) hne _).other (p:=⟨h,5,none⟩) hne _
theorem OwnAu.six {w:World} {B:Nat} {q:Al} {x:Au} (h:OwnAu w B q x) {g:Nat} (hg:g < B) (y:Au) (p:Al):OwnAu (au6 w g y p) B q x :=
 ⟨⟨h.1.1,own_six h.1.2 hg y p⟩,⟨h.2.1.1,own_six h.2.1.2 hg y p⟩,⟨h.2.2.1.1,own_six h.2.2.1.2 hg y p⟩,h.2.2.2⟩
theorem au_in_none (w:World):AuIn w ⟨none,0,0,none,0,0,none,0,0⟩ au0:=⟨⟨rfl,elems_nil w none 0 1 _ (fun _=>rfl)⟩,⟨rfl,elems_nil w none 0 1 _ (fun _=>rfl)⟩,rfl,elems_nil w none 0 1 _ (fun _=>rfl)⟩
theorem off_none (g:Nat):OffAl g ⟨none,0,0,none,0,0,none,0,0⟩:=⟨(by intro _ h; cases h),(by intro _ h; cases h),(by intro _ h; cases h)⟩
theorem own_off_low {w w0:World} {base:Nat} {e:TypeId} {s n m c:Nat} {A:Option Addr} {xs:List Value} (h:w.ownsRow base e s (.slice A m c) n xs) {g:Nat} (hg:g < w0.heap.size∨w.heap.size≤g) (hb:w0.heap.size≤base:=by omega):∀ ad,A=some ad→ad.block ≠ g:=fun ad had=>by
 have:=own_at h ad had
 omega
theorem au_in_own {w:World} {B N g4 g7 g10:Nat} {tr:Int} (h4:OwnT w B (.slice (some ⟨g4,0,none⟩) N N) (List.replicate N false)) (h7:OwnN w B (.slice (some ⟨g7,0,none⟩) N N) (List.replicate N 0)) (h10:OwnN w B (.slice (some ⟨g10,0,none⟩) N N) (List.replicate N 0)) (hN:N≤1000) :
 AuIn w ⟨some ⟨g4,0,none⟩,N,N,some ⟨g7,0,none⟩,N,N,some ⟨g10,0,none⟩,N,N⟩ ⟨tr,1,List.replicate N false,List.replicate N 0,List.replicate N 0,false⟩:=by
 refine ⟨⟨by simp,?_⟩,⟨by simp,?_⟩,by simp,?_⟩
 · obtain ⟨A,C,hv,he⟩:=OwnT.bools h4 (by rw [List.length_replicate]; omega); rw [hv]; exact he
 · obtain ⟨A,C,hv,he⟩:=OwnN.nums h7 (by rw [List.length_replicate]; omega); rw [hv]; exact he
 · obtain ⟨A,C,hv,he⟩:=OwnN.nums h10 (by rw [List.length_replicate]; omega); rw [hv]; exact he
end Go.Proofs.YtecjnkokdnmhlaaGreat
namespace Go.Proofs.YtecjnkokdnmhlaaGreat
open Go.RowKit
theorem bk_cells {w:World} {g:Nat} {x:Bk} {rv lv ov nv tv uv iv:Value} (h:Whole w g 35 (bkCells x rv lv ov nv tv uv iv)) :
 (w.cell? ⟨g,0,none⟩=some (.int .i64 x.clk)∧w.cell? ⟨g,1,none⟩=some rv∧w.cell? ⟨g,2,none⟩=some lv∧w.cell? ⟨g,3,none⟩=some ov) ∧
 (w.cell? ⟨g,4,none⟩=some (.int .i64 x.asks)∧w.cell? ⟨g,5,none⟩=some nv∧w.cell? ⟨g,6,none⟩=some (.int .i64 x.au.try_)∧w.cell? ⟨g,7,none⟩=some (.int .i64 x.au.ph)) ∧
 (w.cell? ⟨g,8,none⟩=some tv∧w.cell? ⟨g,9,none⟩=some uv∧w.cell? ⟨g,10,none⟩=some iv∧w.cell? ⟨g,11,none⟩=some (.bool x.au.moved)) :=
 ⟨⟨h.cell 0,h.cell 1,h.cell 2,h.cell 3⟩,⟨h.cell 4,h.cell 5,h.cell 6,h.cell 7⟩,h.cell 8,h.cell 9,h.cell 10,h.cell 11⟩
end Go.Proofs.YtecjnkokdnmhlaaGreat
namespace Go.Proofs.YtecjnkokdnmhlaaGreat
open Go.RowKit
theorem AuIn.butS {S:Nat→Prop} {w W:World} {p:Al} {x:Au} (h:AuIn w p x) (k:ButS S w W) (ho:∀ g,S g→OffAl g p):AuIn W p x:=by
 obtain ⟨⟨h1,b1⟩,⟨h2,b2⟩,h3,b3⟩:=h;refine ⟨⟨h1,?_⟩,⟨h2,?_⟩,h3,?_⟩
 · exact Elems.butS b1 k fun ad e hs=>(ho _ hs).1 ad e rfl
 · exact Elems.butS b2 k fun ad e hs=>(ho _ hs).2.1 ad e rfl
 · exact Elems.butS b3 k fun ad e hs=>(ho _ hs).2.2 ad e rfl
abbrev auP (q:Bl) (pa:Al):Bl:=⟨q.a1,q.m1,q.c1,q.a2,q.m2,q.c2,q.a3,q.m3,q.c3,q.a4,q.m4,q.c4,pa⟩
abbrev al0:Al:=⟨none,0,0,none,0,0,none,0,0⟩
def st6 (W:World) (g:Nat) (a:Au) (pa:Al):World:=(((((W.setCell ⟨g,6,none⟩ (.int .i64 a.try_)).setCell ⟨g,7,none⟩ (.int .i64 a.ph)).setCell ⟨g,8,none⟩ (.slice pa.a1 pa.m1 pa.c1)).setCell ⟨g,9,none⟩ (.slice pa.a2 pa.m2 pa.c2)).setCell ⟨g,10,none⟩ (.slice pa.a3 pa.m3 pa.c3)).setCell ⟨g,11,none⟩ (.bool a.moved)
section
variable {w W W':World} {c:Cf} {x y z:Bk} {p q:Bl}
theorem st6_below {B g:Nat} {a:Au} {pa:Al} (h:Below B w W) (hg:B≤g):Below B w (st6 W g a pa) :=
 (((((h.setCell (p:=⟨g,6,none⟩) hg _).setCell (p:=⟨g,7,none⟩) hg _).setCell (p:=⟨g,8,none⟩) hg _).setCell (p:=⟨g,9,none⟩) hg _).setCell (p:=⟨g,10,none⟩) hg _).setCell (p:=⟨g,11,none⟩) hg _
theorem st6_buts {S:Nat→Prop} {g:Nat} {a:Au} {pa:Al} (h:ButS S w W) (hg:S g):ButS S w (st6 W g a pa) :=
 (((((h.set (p:=⟨g,6,none⟩) hg _).set (p:=⟨g,7,none⟩) hg _).set (p:=⟨g,8,none⟩) hg _).set (p:=⟨g,9,none⟩) hg _).set (p:=⟨g,10,none⟩) hg _).set (p:=⟨g,11,none⟩) hg _
abbrev bk12p (W:World) (g:Nat) (z:Bk) (r:Bl):World:=bk12 W g z (.slice r.a1 r.m1 r.c1) (.slice r.a2 r.m2 r.c2) (.slice r.a3 r.m3 r.c3) (.slice r.a4 r.m4 r.c4) (.slice r.al.a1 r.al.m1 r.al.c1) (.slice r.al.a2 r.al.m2 r.al.c2) (.slice r.al.a3 r.al.m3 r.al.c3)
theorem bk12_other {g g':Nat} {z:Bk} {r:Bl} {T:TypeId} {cs:Array Value} (h:Whole W g' T cs) (hg:g' ≠ g):Whole (bk12p W g z r) g' T cs :=
 (((((((((((h.other (p:=⟨g,0,none⟩) hg _).other (p:=⟨g,1,none⟩) hg _).other (p:=⟨g,2,none⟩) hg _).other (p:=⟨g,3,none⟩) hg _).other (p:=⟨g,4,none⟩) hg _).other (p:=⟨g,5,none⟩) hg _).other (p:=⟨g,6,none⟩) hg _).other (p:=⟨g,7,none⟩) hg _).other (p:=⟨g,8,none⟩) hg _).other (p:=⟨g,9,none⟩) hg _).other (p:=⟨g,10,none⟩) hg _).other (p:=⟨g,11,none⟩) hg _
theorem bk12_buts {S:Nat→Prop} {g:Nat} {z:Bk} {r:Bl} (h:ButS S w W) (hg:S g):ButS S w (bk12p W g z r) :=
 (((((((((((h.set (p:=⟨g,0,none⟩) hg _).set (p:=⟨g,1,none⟩) hg _).set (p:=⟨g,2,none⟩) hg _).set (p:=⟨g,3,none⟩) hg _).set (p:=⟨g,4,none⟩) hg _).set (p:=⟨g,5,none⟩) hg _).set (p:=⟨g,6,none⟩) hg _).set (p:=⟨g,7,none⟩) hg _).set (p:=⟨g,8,none⟩) hg _).set (p:=⟨g,9,none⟩) hg _).set (p:=⟨g,10,none⟩) hg _).set (p:=⟨g,11,none⟩) hg _
end
end Go.Proofs.YtecjnkokdnmhlaaGreat
namespace Go.Proofs.YtecjnkokdnmhlaaGreat
open Go.RowKit
theorem rq_cells {wr:World} {g:Nat} {x:Rq} (h:Whole wr g 59 (rqCells x)) :
 wr.cell? ⟨g,0,none⟩=some (.int .i64 x.t)∧wr.cell? ⟨g,1,none⟩=some (.int .i64 x.a)∧wr.cell? ⟨g,2,none⟩=some (.int .i64 x.m):=⟨h.cell 0,h.cell 1,h.cell 2⟩
end Go.Proofs.YtecjnkokdnmhlaaGreat
namespace Go.Proofs.YtecjnkokdnmhlaaGreat
open Go.RowKit
theorem info_rq:(Tryz.prog.info? 59).map (fun i=>(i.zero,i.size,i.bytes))=some (some (.agg #[.int .i64 0,.int .i64 0,.int .i64 0]),3,24):=by kernel_rfl
theorem rqc_one (x:Rq) (j:Nat):(rqc x j).oneCell'=true:=by unfold rqc; rfl
theorem rq_both (l k:List Rq):(fun i j=>if i < l.length then rqc (rqAt l i) j else rqc (rqAt k (i - l.length)) j)=fun i j=>rqc (rqAt (l ++ k) i) j:=by
 funext i j
 by_cases h:i < l.length
 · rw [if_pos h]; unfold rqAt; rw [List.getElem?_append_left h]
 · rw [if_neg h]; unfold rqAt; rw [List.getElem?_append_right (by omega)]
abbrev OwnQ (w:World) (base:Nat) (v:Value) (l:List Rq):Prop:=w.ownsRow base 59 3 v l.length (flatCells 3 l.length fun i j=>rqc (rqAt l i) j)
theorem OwnQ.line {w:World} {base:Nat} {v:Value} {l:List Rq} (h:OwnQ w base v l) (hb:l.length≤9223372036854775807):∃ A C,v=.slice A l.length C∧Line w (.slice A l.length C) l:=by
 obtain ⟨A,C,hv,_,he⟩:=elems_of_own h hb
 exact ⟨A,C,hv,he⟩
theorem ownQ_nil (w:World):OwnQ (w.alloc (.cells #[] 59)) w.heap.size (.slice (some ⟨w.heap.size,0,none⟩) 0 0) [] :=
 own_whole (cs:=#[]) (Whole.made w _ _) (Nat.le_refl _) rfl (by decide)
theorem run_append_line {w:World} {base:Nat} {v:Value} {l k:List Rq} {A:Option Addr} {m c:Nat} (hown:OwnQ w base v l) (hE:Line w (.slice A m c) k) (hm:m=k.length) (h:l.length + k.length≤1000000) (hbase:base≤w.heap.size) :
 ∃ v' w',(Builtin.append_ #[25,25] 25 #[v,.slice A m c]).run Tryz.prog w=.ok v' w'∧OwnQ w' base v' (l ++ k)∧Below base w w'∧Grew w w' v v':=by
 subst hm;obtain ⟨i5,hi,hz0,hz1,hz2⟩:=info_parts info_rq
 obtain ⟨v',w',h1,h2,h3,h4⟩:=run_append_elems (P:=Tryz.prog) (w:=w) 25 25 base 59 i5 _ 3 24 Tryz.underlying25 hi hz0 hz1 hz2 rfl (by decide)
  v l.length _ hown A k.length c _ hE (fun i j _ _=>rqc_one _ j) (by unfold maxLen; omega) (by omega) hbase
 refine ⟨v',w',h1,?_,h3,h4⟩;rw [rq_both] at h2
 show OwnQ w' base v' (l ++ k)
 unfold OwnQ
 rw [List.length_append]
 exact h2
end Go.Proofs.YtecjnkokdnmhlaaGreat
namespace Go.Proofs.YtecjnkokdnmhlaaGreat
open Go.RowKit
theorem info_out18:(Tryz.prog.info? 85).map (fun i=>(i.zero,i.size,i.bytes))=some (some (.agg #[.int .i64 0,.int .i64 0,.int .i64 0]),3,24):=by kernel_rfl
theorem one_outc {w:World} {g:Nat} {x:Rq} (h:Whole w g 85 (rqCells x)):Line w (.slice (some ⟨g,0,none⟩) 1 1) [x]:=by
 refine ⟨show 1≤9223372036854775807 by decide,Or.inr ⟨g,0,1,rfl,Nat.le_refl _,fun i j hi hj=>?_⟩⟩
 have hi:i < 1:=hi;obtain rfl:i=0:=by omega
 have hc:=h.cell
 match j,hj with
 | 0,_=>exact hc 0
 | 1,_=>exact hc 1
 | 2,_=>exact hc 2
abbrev OwnOc (w:World) (base:Nat) (v:Value) (l:List Rq):Prop:=w.ownsRow base 85 3 v l.length (flatCells 3 l.length fun i j=>rqc (rqAt l i) j)
theorem OwnOc.line {w:World} {base:Nat} {v:Value} {l:List Rq} (h:OwnOc w base v l) (hb:l.length≤9223372036854775807):∃ A C,v=.slice A l.length C∧Line w (.slice A l.length C) l:=by
 obtain ⟨A,C,hv,_,he⟩:=elems_of_own h hb
 exact ⟨A,C,hv,he⟩
theorem ownOc_nil (w:World):OwnOc (w.alloc (.cells #[] 85)) w.heap.size (.slice (some ⟨w.heap.size,0,none⟩) 0 0) [] :=
 own_whole (cs:=#[]) (Whole.made w _ _) (Nat.le_refl _) rfl (by decide)
theorem run_append_outs {w:World} {base:Nat} {v:Value} {l k:List Rq} {A:Option Addr} {m c:Nat} (hown:OwnOc w base v l) (hE:Line w (.slice A m c) k) (hm:m=k.length) (h:l.length + k.length≤1000000) (hbase:base≤w.heap.size) :
 ∃ v' w',(Builtin.append_ #[26,26] 26 #[v,.slice A m c]).run Tryz.prog w=.ok v' w'∧OwnOc w' base v' (l ++ k)∧Below base w w'∧Grew w w' v v':=by
 subst hm;obtain ⟨i5,hi,hz0,hz1,hz2⟩:=info_parts info_out18
 obtain ⟨v',w',h1,h2,h3,h4⟩:=run_append_elems (P:=Tryz.prog) (w:=w) 26 26 base 85 i5 _ 3 24 Tryz.underlying26 hi hz0 hz1 hz2 rfl (by decide)
  v l.length _ hown A k.length c _ hE (fun i j _ _=>rqc_one _ j) (by unfold maxLen; omega) (by omega) hbase
 refine ⟨v',w',h1,?_,h3,h4⟩;rw [rq_both] at h2
 show OwnOc w' base v' (l ++ k)
 unfold OwnOc
 rw [List.length_append]
 exact h2
end Go.Proofs.YtecjnkokdnmhlaaGreat
namespace Go.Proofs.YtecjnkokdnmhlaaGreat
open Go.RowKit
abbrev stC (c:Cf) (who:Int) (x:Nd) (p:Nl) (code:Int):Array Value :=
 #[.int .i64 x.bk.clk,.slice p.bl.a1 p.bl.m1 p.bl.c1,.slice p.bl.a2 p.bl.m2 p.bl.c2,.slice p.bl.a3 p.bl.m3 p.bl.c3,.int .i64 x.bk.asks,.slice p.bl.a4 p.bl.m4 p.bl.c4,.int .i64 x.bk.au.try_,.int .i64 x.bk.au.ph,.slice p.bl.al.a1 p.bl.al.m1 p.bl.al.c1,.slice p.bl.al.a2 p.bl.al.m2 p.bl.al.c2,.slice p.bl.al.a3 p.bl.al.m3 p.bl.al.c3,.bool x.bk.au.moved,.int .i64 x.tk,.int .i64 x.nx,.slice p.a p.m p.c,
  .int .i64 c.n,.int .i64 c.q,.int .i64 c.r,.int .i64 c.p,.int .i64 c.k,.int .i64 c.c,.int .i64 who,.int .i64 code]
def RestIn (w:World) (p:Nl) (x:Nd):Prop :=
 (p.bl.m1=x.bk.rows.length∧Books w (.slice p.bl.a1 p.bl.m1 p.bl.c1) x.bk.rows)∧(p.bl.m2=x.bk.line.length∧Line w (.slice p.bl.a2 p.bl.m2 p.bl.c2) x.bk.line) ∧
 (p.bl.m4=x.bk.notes.length∧Notes w (.slice p.bl.a4 p.bl.m4 p.bl.c4) x.bk.notes)∧AuIn w p.bl.al x.bk.au∧p.m=x.asked.length∧Nums w (.slice p.a p.m p.c) x.asked
abbrev outV (p:Nl):Value:=.slice p.bl.a3 p.bl.m3 p.bl.c3
def Mine (n0:Nat) (E:Nat→Prop) (g:Nat) (p:Nl) (b:Nat):Prop:=b < n0∨b=g∨(outV p).ownBlock=some b∨E b
structure St (n0:Nat) (E:Nat→Prop) (W:World) (g:Nat) (c:Cf) (who:Int) (x:Nd) (p:Nl) (code:Int):Prop where
 le:n0≤g
 ob:Whole W g 99 (stC c who x p code)
 rest:Stay (Mine n0 E g p) W (fun V=>RestIn V p x)
 len:p.bl.m3=x.bk.outs.length
 outs:OwnOc W n0 (outV p) x.bk.outs
 ext:∀ b,E b→b < W.heap.size
structure Kept (g:Nat) (p p':Nl) (W W':World):Prop where
 but:ButS (fun b=>b=g∨(outV p).ownBlock=some b) W W'
 own:∀ b,b < W.heap.size→(outV p').ownBlock=some b→(outV p).ownBlock=some b
theorem Kept.size {g:Nat} {p p':Nl} {W W':World} (h:Kept g p p' W W'):W.heap.size≤W'.heap.size:=h.but.size
theorem Kept.refl (g:Nat) (p:Nl) (W:World):Kept g p p W W:=⟨ButS.refl _ _,fun _ _ h=>h⟩
theorem Kept.trans {g:Nat} {p p1 p2:Nl} {W W1 W2:World} (h:Kept g p p1 W W1) (k:Kept g p1 p2 W1 W2):Kept g p p2 W W2 :=
 ⟨⟨h.but.1.trans k.but.1, fun b hb hn => (k.but.2 b (Nat.lt_of_lt_of_le hb h.size) (fun e => hn (e.elim Or.inl fun e => Or.inr (h.own b hb e)))).trans (h.but.2 b hb hn)⟩,
  fun b hb e=>h.own b hb (k.own b (Nat.lt_of_lt_of_le hb h.size) e)⟩
theorem Kept.of {g:Nat} {p:Nl} {W W':World} (hb:Below W.heap.size W W'):Kept g p p W W':=⟨ButS.of hb,fun _ _ h=>h⟩
theorem Kept.next {g:Nat} {p p1:Nl} {W W1 W2:World} (h:Kept g p p1 W W1) (hb:Below W1.heap.size W1 W2):Kept g p p1 W W2:=h.trans (Kept.of hb)
section
variable {n0 g:Nat} {E:Nat→Prop} {W W' W1:World} {c:Cf} {who:Int} {x x':Nd} {p p':Nl} {code code':Int}
theorem St.lt (h:St n0 E W g c who x p code):g < W.heap.size:=h.ob.lt
theorem St.inn (h:St n0 E W g c who x p code):RestIn W p x:=h.rest.inn
theorem St.own_lt (h:St n0 E W g c who x p code) {b:Nat} (e:(outV p).ownBlock=some b):n0≤b∧b < W.heap.size:=h.outs.lt b e
theorem St.own_ne (h:St n0 E W g c who x p code):(outV p).ownBlock ≠ some g:=fun e=>by
 obtain ⟨_,h2 | ⟨b,cap,cur,hv,hb,hh,_⟩⟩:=h.outs
 · rw [h2.1] at e; simp [Value.ownBlock] at e
 · rw [hv] at e
   have e:b=g:=by simpa [Value.ownBlock] using e
   rw [e,h.ob] at hh;simp only [Option.some.injEq,Obj.cells.injEq] at hh
   exact absurd hh.2.1 (by decide)
theorem St.mine (h:St n0 E W g c who x p code) {b:Nat} (hb:Mine n0 E g p b):b < W.heap.size:=by
 rcases hb with hb | hb | hb | hb
 · have:=h.le; have:=h.lt; omega
 · rw [hb]; exact h.lt
 · exact (h.own_lt hb).2
 · exact h.ext _ hb
theorem St.stay (h:St n0 E W g c who x p code) {P:World→Prop} (hP:Stay (fun b=>b < W.heap.size) W' P):Stay (Mine n0 E g p) W' P:=fun V hV=>hP V (hV.wide fun _ hb=>h.mine hb)
theorem St.later (h:St n0 E W g c who x p code) (hb:Below W.heap.size W W'):St n0 E W' g c who x p code :=
 ⟨h.le,h.ob.later hb h.lt,h.rest.later hb,h.len,own_later h.outs hb,fun b e=>Nat.lt_of_lt_of_le (h.ext b e) hb.size⟩
theorem St.low (h:St n0 E W g c who x p code) (k:Kept g p p' W W'):Below n0 W W' :=
 ⟨k.but.1.os,k.but.1.tape,k.but.1.output,k.but.size,fun b hb=>k.but.2 b (by have:=h.le; have:=h.lt; omega) (fun e=>e.elim (fun e=>by have:=h.le; omega) (fun e=>by have:=(h.own_lt e).1; omega))⟩
theorem outs_set (h:OwnOc W n0 (outV p) x.bk.outs) (hne:(outV p).ownBlock ≠ some g) (hb:ButS (fun b=>b=g) W W'):OwnOc W' n0 (outV p) x.bk.outs:=by
 obtain ⟨h1,h2 | ⟨b,cap,cur,hv,hb2,hh,h4⟩⟩:=h
 · exact ⟨h1,Or.inl h2⟩
 · exact ⟨h1,Or.inr ⟨b,cap,cur,hv,hb2,(hb.2 b (Array.getElem?_eq_some_iff.1 hh).1 (fun e=>hne (by rw [hv,← e]; rfl))).trans hh,h4⟩⟩
theorem St.put (h:St n0 E W g c who x p code) (hb:ButS (fun b=>b=g) W W') (hob:Whole W' g 99 (stC c who x' p' code')) (ho:x'.bk.outs=x.bk.outs) (hv:outV p'=outV p)
 (hr:∀ V,ButS (Mine n0 E g p) W' V→RestIn V p x→RestIn V p' x'):St n0 E W' g c who x' p' code'∧Kept g p p' W W':=by
 have hl:p'.bl.m3=p.bl.m3:=by simp only [outV,Value.slice.injEq] at hv; exact hv.2.1
 have hm:∀ b,Mine n0 E g p' b→Mine n0 E g p b:=fun b e=>by unfold Mine at e ⊢; rw [hv] at e; exact e
 refine ⟨⟨h.le,hob,fun V hV=>hr V (hV.wide hm) (h.rest V ((hb.wide (R:=Mine n0 E g p) fun b e=>Or.inr (Or.inl e)).trans (hV.wide hm))),by rw [hl,ho]; exact h.len,?_,fun b e=>Nat.lt_of_lt_of_le (h.ext b e) hb.size⟩,hb.wide fun b e=>Or.inl e,fun b _ e=>by rw [← hv]; exact e⟩
 rw [hv,ho]
 exact outs_set h.outs h.own_ne hb
theorem St.wider (h:St n0 E W g c who x p code) {F:Nat→Prop} (hb:Below W.heap.size W W') (hF:∀ b,F b→E b∨(W.heap.size≤b∧b < W'.heap.size)):St n0 F W' g c who x p code:=by
 obtain ⟨h1,h2,h3,h4,h5,h6⟩:=h.later hb;refine ⟨h1,h2,fun V hV=>h.rest V ⟨(hb.mono (Nat.zero_le _)).trans hV.1,fun b hl hn=>(hV.2 b (Nat.lt_of_lt_of_le hl hb.size) (fun e=>hn ?_)).trans (hb.block b hl)⟩,h4,h5,fun b e=>(hF b e).elim (h6 b) fun e=>e.2⟩
 rcases e with e | e | e | e
 · exact Or.inl e
 · exact Or.inr (Or.inl e)
 · exact Or.inr (Or.inr (Or.inl e))
 · exact Or.inr (Or.inr (Or.inr ((hF b e).elim id fun e=>by omega)))
theorem St.fewer (h:St n0 E W g c who x p code) {F:Nat→Prop} (hF:∀ b,F b→E b):St n0 F W g c who x p code :=
 h.wider (Below.refl _ _) fun b e=>Or.inl (hF b e)
theorem St.box (h:St n0 E W g c who x p code) {b i:Nat} (hb:E b) (hg:b ≠ g) (ho:(outV p).ownBlock ≠ some b) (u:Value):St n0 E (W.setCell ⟨b,i,none⟩ u) g c who x p code :=
 ⟨h.le,h.ob.other (p:=⟨b,i,none⟩) (fun e=>hg e.symm) u,h.rest.set (p:=⟨b,i,none⟩) (Or.inr (Or.inr (Or.inr hb))) u,h.len,h.outs.kept (grownBy_set W ⟨b,i,none⟩ u) (.inr ho),fun q e=>by have:=h.ext q e; simpa using this⟩
theorem st_cells (h:Whole W g 99 (stC c who x p code)) :
 (W.cell? ⟨g,0,none⟩=some (.int .i64 x.bk.clk)∧W.cell? ⟨g,1,none⟩=some (.slice p.bl.a1 p.bl.m1 p.bl.c1)∧W.cell? ⟨g,2,none⟩=some (.slice p.bl.a2 p.bl.m2 p.bl.c2)∧W.cell? ⟨g,3,none⟩=some (.slice p.bl.a3 p.bl.m3 p.bl.c3)∧W.cell? ⟨g,4,none⟩=some (.int .i64 x.bk.asks)∧W.cell? ⟨g,5,none⟩=some (.slice p.bl.a4 p.bl.m4 p.bl.c4)) ∧
 (W.cell? ⟨g,6,none⟩=some (.int .i64 x.bk.au.try_)∧W.cell? ⟨g,7,none⟩=some (.int .i64 x.bk.au.ph)∧W.cell? ⟨g,8,none⟩=some (.slice p.bl.al.a1 p.bl.al.m1 p.bl.al.c1)∧W.cell? ⟨g,9,none⟩=some (.slice p.bl.al.a2 p.bl.al.m2 p.bl.al.c2)∧W.cell? ⟨g,10,none⟩=some (.slice p.bl.al.a3 p.bl.al.m3 p.bl.al.c3)∧W.cell? ⟨g,11,none⟩=some (.bool x.bk.au.moved)) ∧
 (W.cell? ⟨g,12,none⟩=some (.int .i64 x.tk)∧W.cell? ⟨g,13,none⟩=some (.int .i64 x.nx)∧W.cell? ⟨g,14,none⟩=some (.slice p.a p.m p.c)) ∧
 (W.cell? ⟨g,15,none⟩=some (.int .i64 c.n)∧W.cell? ⟨g,16,none⟩=some (.int .i64 c.q)∧W.cell? ⟨g,17,none⟩=some (.int .i64 c.r)∧W.cell? ⟨g,18,none⟩=some (.int .i64 c.p)∧W.cell? ⟨g,19,none⟩=some (.int .i64 c.k)∧W.cell? ⟨g,20,none⟩=some (.int .i64 c.c)) ∧
 W.cell? ⟨g,21,none⟩=some (.int .i64 who)∧W.cell? ⟨g,22,none⟩=some (.int .i64 code) :=
 ⟨⟨h.cell 0,h.cell 1,h.cell 2,h.cell 3,h.cell 4,h.cell 5⟩,⟨h.cell 6,h.cell 7,h.cell 8,h.cell 9,h.cell 10,h.cell 11⟩,⟨h.cell 12,h.cell 13,h.cell 14⟩,⟨h.cell 15,h.cell 16,h.cell 17,h.cell 18,h.cell 19,h.cell 20⟩,h.cell 21,h.cell 22⟩
end
def StepTo (n0:Nat) (E:Nat→Prop) (g:Nat) (c:Cf) (who:Int) (p:Nl) (W:World) (x':Nd) (code':Int) (W':World):Prop:=∃ p',St n0 E W' g c who x' p' code'∧Kept g p p' W W'
end Go.Proofs.YtecjnkokdnmhlaaGreat
