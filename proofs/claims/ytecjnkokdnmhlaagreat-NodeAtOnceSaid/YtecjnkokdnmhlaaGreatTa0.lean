/- Parts, as far as NodeAtOnceCards reaches them, of: Law, Kit, CfWords, Within, Elems, Append, Nums, NumsOpen, CfOpen, Books, RowMath, AppRun, RowWorld, OwnApart. No law is proved here. -/
import Derived.Test.YtecjnkokdnmhlaaGreatRows
import Derived.WalkKit
import Derived.ProofKit
import Derived.OpenShut
import Derived.WalkSpells
import Derived.Laws.AppendOwn
import Derived.Laws.AppendOwnNone
import Derived.Laws.OwnMore
import Derived.Lib.Hide
import Derived.Deep.Draws
import Derived.WalkLawsBesides
import Derived.LoopTactic
import Derived.IntWalk
import Derived.Deep.Slices
import Derived.Deep.Fields
import Derived.ChangeSame
import Derived.RegionTactic
import Derived.Maps.AppendAt
import Derived.Lib.SmallJoins
import Derived.RangeFuncNested
import Derived.RangeFuncBound
import Derived.RangeFuncLeaves
import Derived.RangeFuncBox
import Derived.Laws.MakeOwn
namespace Go.Proofs.YtecjnkokdnmhlaaGreat
open Go.ChangeShapes Go.WideShapes Go.ChangeAt Go.RowKit
theorem trodAll_below {H:Type} {enc:TypeId × Value→H} {P:Program} (hl:laidOutB P=true) {W W':World} (hb:Below W.heap.size W W') :
 ∀ (ts : List TypeId) (vs : List Value) (ds : List (DataW H)) (ps : List MemPlace), (∀ t ∈ ts, P.readableRec t = true ∧ t < P.types.size) → (∀ x ∈ ps, x.block < W.heap.size) →
   DataW.TrodAll enc P W 0 (fun _=>true) true ts vs ds ps→DataW.TrodAll enc P W' 0 (fun b=>decide (b < W.heap.size)) true ts vs ds ps
 | [],[],[],_,_,_,h=>h
 | t :: ts, v :: vs, d :: ds, ps, hr, hlt, h => by
   obtain ⟨p,q,h1,h2,rfl⟩:=h
   exact ⟨p,q,Below.trod hl (hr t (by simp)).1 (hr t (by simp)).2 h1 hb (fun x hx=>hlt x (List.mem_append.2 (.inl hx))),
    trodAll_below hl hb ts vs ds q (fun t' ht'=>hr t' (List.mem_cons_of_mem _ ht')) (fun x hx=>hlt x (List.mem_append.2 (.inr hx))) h2,rfl⟩
 | [],_ :: _,_,_,_,_,h=>h.elim
 | [],[],_ :: _,_,_,_,h=>h.elim
 | _ :: _,[],_,_,_,_,h=>h.elim
 | _ :: _,_ :: _,[],_,_,_,h=>h.elim
theorem law_post {H:Type} {enc:TypeId × Value→H} {P:Program} (hl:laidOutB P=true) {s:ChangeSpec} {f:Func} {B:TypeId} {W W':World} {args:Array Value} {ds gs:List (DataW H)} {before:List MemPlace}
 (hread:f.params.toList.all (fun t=>P.readableRec t && decide (t < P.types.size))=true) (hres:f.resultTypes=#[B]) (hB:P.underlying B=some .bool) (hv:s.vars=[])
 (hW:DataW.Whole enc P f.params.toList s.vars false W args.toList ds gs before)
 (hfn:s.fn H ds={ results:=[.lit (.bool true)],args:=ds }) (hb:Below W.heap.size W W') :
 s.post enc P f false true false false W args (.bool true) W':=by
 have hW':=hW;have hlt:=hW'.lt;obtain ⟨p,q,hA,hV,rfl,_,_⟩:=hW;rw [hv] at hV;obtain ⟨rfl,rfl⟩:=trodVars_none hV;simp only [List.append_nil] at hW' hlt
 have hr:∀ t ∈ f.params.toList,P.readableRec t=true∧t < P.types.size:=fun t ht=>by
  have:=List.all_eq_true.1 hread t ht
  simpa using this
 refine ⟨ds,[],p,[],p,[],hW',?_,?_,?_,World.keptBut_mono (fun x hx=>hx.elim) (hb.frame (fun _=>False)),fun h=>by cases h⟩
 · rw [hres,List.append_nil,hfn]
   exact trodAll_cons_mk (shut_bool hB _) trodAll_mk0
 · rw [List.append_nil,hfn]
   exact trodAll_below hl hb _ _ _ _ hr (fun x hx=>by simpa using hlt x hx) hA
 · rw [List.append_nil,hfn,hv]
   rfl
end Go.Proofs.YtecjnkokdnmhlaaGreat
namespace Go.Proofs.YtecjnkokdnmhlaaGreat
open Go.RowKit
def Says (w:World) (b:Bool) (e:Ending) (w':World):Prop:=e=.returned (.bool b)∧Below w.heap.size w w'
theorem below_box (w:World) (a:Obj):Below w.heap.size w (w.alloc a):=(Below.refl _ _).alloc (Nat.le_refl _) _
theorem below_two (w:World) (a b:Obj):Below w.heap.size w ((w.alloc a).alloc b):=((Below.refl _ _).alloc (Nat.le_refl _) _).alloc (by simp) _
theorem below_next {B:Nat} {w W W':World} (h:Below B w W) (hB:B≤W.heap.size) (h':Below W.heap.size W W'):Below B w W':=h.trans (h'.mono hB)
theorem held_next {w W W':World} (h:Below w.heap.size w W) (h':Below W.heap.size W W'):Below w.heap.size w W':=h.trans (h'.mono h.size)
def Whole (w:World) (g:Nat) (t:TypeId) (cs:Array Value):Prop:=w.heap[g]?=some (.cells cs t (0,0))
section
variable {w w':World} {g:Nat} {t:TypeId} {cs:Array Value}
theorem Whole.lt (h:Whole w g t cs):g < w.heap.size:=(Array.getElem?_eq_some_iff.1 h).1
theorem Whole.cell (h:Whole w g t cs) (i:Nat):w.cell? ⟨g,i,none⟩=cs[i]?:=cell_of_row w g i cs t (0,0) h
theorem Whole.free (h:Whole w g t cs) (i:Nat):w.frozen? ⟨g,i,none⟩=false:=by
 unfold Whole at h
 simp [World.frozen?,h]
theorem Whole.made (w:World) (t:TypeId) (cs:Array Value):Whole (w.alloc (.cells cs t)) w.heap.size t cs:=heap_alloc_new w _
theorem Whole.made2 (w:World) (a:Obj) (t:TypeId) (cs:Array Value):Whole ((w.alloc a).alloc (.cells cs t)) (w.heap.size + 1) t cs:=by
 have:=Whole.made (w.alloc a) t cs;rwa [World.size_alloc] at this
theorem Whole.madeAt (w:World) (t:TypeId) (cs:Array Value) (g:Nat) (hg:g=w.heap.size):Whole (w.alloc (.cells cs t)) g t cs:=by subst hg; exact Whole.made w t cs
theorem Whole.drew (h:Whole w g t cs):Whole w.drew g t cs:=h
theorem Whole.alloc (h:Whole w g t cs) (o:Obj):Whole (w.alloc o) g t cs:=(Below.heap_alloc w o g h.lt).trans h
theorem Whole.later {B:Nat} (h:Whole w g t cs) (hb:Below B w w') (hg:g < B):Whole w' g t cs:=(hb.block g hg).trans h
theorem Whole.set (h:Whole w g t cs) (i:Nat) (u:Value):Whole (w.setCell ⟨g,i,none⟩ u) g t (cs.setIfInBounds i u):=by
 unfold Whole at h ⊢
 simp [World.setCell,Array.getElem?_modify,h]
theorem Whole.other (h:Whole w g t cs) {p:Addr} (hp:g ≠ p.block) (u:Value):Whole (w.setCell p u) g t cs:=(Below.heap_setCell w p u g hp).trans h
end
end Go.Proofs.YtecjnkokdnmhlaaGreat
namespace Go.Proofs.YtecjnkokdnmhlaaGreat
open Go.RowKit
structure Cf where
 n:Int
 q:Int
 r:Int
 p:Int
 k:Int
 c:Int
abbrev cfV (c:Cf):Value:=.agg #[.int .i64 c.n,.int .i64 c.q,.int .i64 c.r,.int .i64 c.p,.int .i64 c.k,.int .i64 c.c]
abbrev cfCells (c:Cf):Array Value:=#[.int .i64 c.n,.int .i64 c.q,.int .i64 c.r,.int .i64 c.p,.int .i64 c.k,.int .i64 c.c]
def cfOk (c:Cf):Prop:=1≤c.n∧c.n≤16∧1≤c.q∧c.q≤8∧0≤c.r∧c.r≤8∧1≤c.p∧c.p≤16∧0≤c.k∧0≤c.c∧c.k + c.n * c.c≤1099511627776
instance (c:Cf):Decidable (cfOk c):=by unfold cfOk; exact inferInstance
def cfB (c:Cf):Bool:=decide (cfOk c)
theorem cfB_no {c:Cf} (h:¬ cfOk c):cfB c=false:=decide_eq_false h
theorem cfB_yes {c:Cf} (h:cfOk c):cfB c=true:=decide_eq_true h
theorem cfB_ok {c:Cf} (h:cfB c=true):cfOk c:=of_decide_eq_true h
theorem mul_step {k n c:Int} (h:k < n) (hc:0≤c):k * c + c≤n * c:=by
 have:=Int.mul_le_mul_of_nonneg_right (show k + 1≤n by omega) hc
 rw [Int.add_mul,Int.one_mul] at this
 exact this
theorem mul_succ' (k:Nat) (c:Int):((k + 1:Nat):Int) * c=(k:Int) * c + c:=by
 rw [Int.natCast_add,Int.add_mul]; simp
theorem config_cells {wr:World} {g:Nat} {c:Cf} (h:Whole wr g 23 (cfCells c)) :
 wr.cell? ⟨g,0,none⟩=some (.int .i64 c.n)∧wr.cell? ⟨g,1,none⟩=some (.int .i64 c.q)∧wr.cell? ⟨g,2,none⟩=some (.int .i64 c.r)∧wr.cell? ⟨g,3,none⟩=some (.int .i64 c.p) ∧
 wr.cell? ⟨g,4,none⟩=some (.int .i64 c.k)∧wr.cell? ⟨g,5,none⟩=some (.int .i64 c.c):=⟨h.cell 0,h.cell 1,h.cell 2,h.cell 3,h.cell 4,h.cell 5⟩
end Go.Proofs.YtecjnkokdnmhlaaGreat
namespace Go.Proofs.YtecjnkokdnmhlaaGreat
open Go.RowKit
def withinB (v lo hi:Int):Bool:=decide (lo≤v∧v≤hi)
theorem withinB_yes {v lo hi:Int} (h:lo≤v∧v≤hi):withinB v lo hi=true:=decide_eq_true h
theorem withinB_no {v lo hi:Int} (h:¬ (lo≤v∧v≤hi)):withinB v lo hi=false:=decide_eq_false h
end Go.Proofs.YtecjnkokdnmhlaaGreat
namespace Go.Proofs.YtecjnkokdnmhlaaGreat
open Go.ChangeShapes Go.WideShapes Go.ChangeAt Go.RowKit
def Elems (w:World) (v:Value) (sz n:Nat) (f:Nat→Nat→Value):Prop :=
 n ≤ 9223372036854775807 ∧ ((∃ a cap, v = .slice a 0 cap ∧ (a = none → cap = 0) ∧ n = 0) ∨
   ∃ b off cap,v=.slice (some ⟨b,off,none⟩) n cap∧n≤cap∧∀ i j,i < n→j < sz→w.cell? ⟨b,off + (i * sz + j),none⟩=some (f i j))
theorem Elems.later {w w':World} {v:Value} {sz n:Nat} {f:Nat→Nat→Value} (h:Elems w v sz n f) (hb:Below w.heap.size w w'):Elems w' v sz n f:=by
 obtain ⟨h1,h3⟩:=h;refine ⟨h1,?_⟩
 rcases h3 with h3 | ⟨b,off,cap,hv,hn,hc⟩
 · exact Or.inl h3
 · exact Or.inr ⟨b,off,cap,hv,hn,fun i j hi hj=>cell_later hb (hc i j hi hj)⟩
theorem Elems.congr {w:World} {v:Value} {sz n:Nat} {f g:Nat→Nat→Value} (h:Elems w v sz n f) (hfg:∀ i j,i < n→j < sz→f i j=g i j):Elems w v sz n g:=by
 obtain ⟨h1,h3⟩:=h;refine ⟨h1,?_⟩
 rcases h3 with h3 | ⟨b,off,cap,hv,hn,hc⟩
 · exact Or.inl h3
 · exact Or.inr ⟨b,off,cap,hv,hn,fun i j hi hj=>by rw [hc i j hi hj,hfg i j hi hj]⟩
theorem elems_nil (w:World) (a:Option Addr) (c sz:Nat) (f:Nat→Nat→Value) (h:a=none→c=0):Elems w (.slice a 0 c) sz 0 f:=⟨by decide,Or.inl ⟨a,c,rfl,h,rfl⟩⟩
theorem Elems.at {w:World} {a:Option Addr} {m c sz n:Nat} {f:Nat→Nat→Value} (h:Elems w (.slice a m c) sz n f) {i:Nat} (hi:i < n) :
 ∃ b off,a=some ⟨b,off,none⟩∧∀ j,j < sz→w.cell? ⟨b,off + (i * sz + j),none⟩=some (f i j):=by
 obtain ⟨_,⟨_,_,_,_,h0⟩ | ⟨b,off,cap,hv,_,hc⟩⟩:=h
 · omega
 · simp only [Value.slice.injEq] at hv
   exact ⟨b,off,hv.1,fun j hj=>hc i j hi hj⟩
theorem open_elems_in {H:Type} {enc:TypeId × Value→H} {P:Program} {t e:TypeId} {sz:Nat} (ht:P.underlying t=some (.slice e)) (hC:P.cellsOf e=sz) (hsz:0 < sz)
 {W:World} {v:Value} {d:DataW H} {ps:List MemPlace} (hval:∃ a len cap,v=.slice a len cap) (h:DataW.Trod enc P W 0 (fun _=>true) true t v d ps) :
 ∃ a n c f, v = .slice a n c ∧ n ≤ c ∧ c ≤ maxLen ∧ Elems W (.slice a n c) sz n f ∧
   ∀ i,i < n→∃ fuel x,DataW.trod enc P W 0 (fun _=>true) true fuel e ((List.range sz).map (f i))=some x:=by
 obtain ⟨a0,len,cap,rfl⟩:=hval;obtain ⟨fuel,hf⟩:=h
 rcases Go.Deep.open_slice ht hf with ⟨hcs,hx⟩ | ⟨a,len',cap',m,n,D,Pl,hcs,_,hl,hm,hmm,hx,hcell⟩
 · simp only [Value.cells,List.cons.injEq,Value.slice.injEq,and_true] at hcs
   obtain ⟨rfl,rfl,rfl⟩:=hcs
   exact ⟨none,0,0,fun _ _=>.bool false,rfl,Nat.le_refl _,by decide,elems_nil W _ _ _ _ (fun _=>rfl),fun i hi=>absurd hi (by omega)⟩
 · simp only [Value.cells,List.cons.injEq,Value.slice.injEq,and_true] at hcs
   obtain ⟨rfl,rfl,rfl⟩:=hcs;simp only [if_true] at hmm;rw [hC] at hcell
   have hspot:0 < len→a.spot=none:=fun h0=>by
    obtain ⟨cs',h1,_⟩:=hcell 0 (by omega)
    obtain ⟨_,hlen,hat⟩:=World.cells?_some h1;have h2:=hat 0 hsz;rw [List.getElem?_eq_getElem (by omega)] at h2
    simpa [Addr.add] using World.cell?_spot h2
   have hex:∀ i,∃ cs':List Value,i < len→(cs'.length=sz∧(∀ j,j < sz→W.cell? ((a.add (i * sz)).add j)=cs'[j]?)∧∃ fuel x,DataW.trod enc P W 0 (fun _=>true) true fuel e cs'=some x):=by
    intro i
    by_cases hi:i < len
    · obtain ⟨cs',h1,h2⟩:=hcell i (by omega)
      obtain ⟨_,hlen,hat⟩:=World.cells?_some h1
      exact ⟨cs',fun _=>⟨hlen,hat,n,_,h2⟩⟩
    · exact ⟨[],fun h=>absurd h hi⟩
   obtain ⟨F,hF⟩:=Classical.axiomOfChoice hex;refine ⟨some a,len,cap,fun i j=>(F i).getD j (.bool false),rfl,hl,hm,⟨by unfold maxLen at hm; omega,?_⟩,fun i hi=>?_⟩
   · by_cases h0:len=0
     · subst h0
       exact Or.inl ⟨some a,cap,rfl,(fun h=>by cases h),rfl⟩
     · have hs:=hspot (by omega)
       obtain ⟨b,off,spot⟩:=a;simp only at hs;subst hs;refine Or.inr ⟨b,off,cap,rfl,hl,fun i j hi hj=>?_⟩
       obtain ⟨h1,h2,_⟩:=hF i hi;have:=h2 j hj;rw [add_plain,add_plain] at this;rw [show off + (i * sz + j)=off + i * sz + j by omega,this,List.getElem?_eq_getElem (by omega)]
       simp [List.getD_eq_getElem?_getD,List.getElem?_eq_getElem (show j < (F i).length by omega)]
   · obtain ⟨h1,_,fu,x,h3⟩:=hF i hi
     refine ⟨fu,x,?_⟩
     have:(List.range sz).map (fun j=>(F i).getD j (.bool false))=F i:=by
      apply List.ext_getElem (by simp [h1])
      intro k hk1 hk2
      simp [List.getD_eq_getElem?_getD,List.getElem?_eq_getElem hk2]
     rw [this]; exact h3
theorem slice_of_trod {H:Type} {enc:TypeId × Value→H} {P:Program} {t e:TypeId} (ht:P.underlying t=some (.slice e)) {W:World} {fuel:Nat} {v:Value} {x:DataW H × List MemPlace}
 (h:DataW.trod enc P W 0 (fun _=>true) true fuel t [v]=some x):∃ a len cap,v=.slice a len cap:=by
 rcases Go.Deep.open_slice ht h with ⟨hcs,_⟩ | ⟨a,len,cap,m,n,D,Pl,hcs,_⟩
 · simp only [List.cons.injEq,and_true] at hcs
   exact ⟨none,0,0,hcs⟩
 · simp only [List.cons.injEq,and_true] at hcs
   exact ⟨some a,len,cap,hcs⟩
end Go.Proofs.YtecjnkokdnmhlaaGreat
namespace Go.Proofs.YtecjnkokdnmhlaaGreat
open Go.ChangeShapes Go.WideShapes Go.ChangeAt Go.RowKit
def flatCells (sz n:Nat) (f:Nat→Nat→Value):List Value:=(List.range n).flatMap fun i=>(List.range sz).map (f i)
theorem flat_succ (sz n:Nat) (f:Nat→Nat→Value):flatCells sz (n + 1) f=flatCells sz n f ++ (List.range sz).map (f n):=by
 simp [flatCells,List.range_succ]
theorem flat_length (sz n:Nat) (f:Nat→Nat→Value):(flatCells sz n f).length=n * sz:=by
 induction n with
 | zero=>simp [flatCells]
 | succ n ih=>rw [flat_succ,List.length_append,ih,List.length_map,List.length_range,Nat.succ_mul]
theorem flat_at (sz n:Nat) (f:Nat→Nat→Value) (i j:Nat) (hi:i < n) (hj:j < sz):(flatCells sz n f)[i * sz + j]?=some (f i j):=by
 induction n with
 | zero=>omega
 | succ n ih =>
   rw [flat_succ]
   by_cases h:i < n
   · have hlt:i * sz + j < (flatCells sz n f).length:=by
      rw [flat_length];have:(i + 1) * sz≤n * sz:=Nat.mul_le_mul_right sz h;rw [Nat.succ_mul] at this
      omega
     rw [List.getElem?_append_left hlt]; exact ih h
   · obtain rfl:i=n:=by omega
     rw [List.getElem?_append_right (by rw [flat_length]; omega),flat_length,Nat.add_sub_cancel_left]
     simp [hj]
theorem flat_split {sz k:Nat} (n:Nat) (h:k < n * sz):∃ i j,i < n∧j < sz∧k=i * sz + j:=by
 have h0:0 < sz:=by
  rcases Nat.eq_zero_or_pos sz with h1 | h1
  · subst h1; simp at h
  · exact h1
 refine ⟨k / sz,k % sz,(Nat.div_lt_iff_lt_mul h0).2 h,Nat.mod_lt _ h0,?_⟩;rw [Nat.mul_comm]; exact (Nat.div_add_mod k sz).symm
theorem flat_mem {sz n:Nat} {f:Nat→Nat→Value} {u:Value} (h:u ∈ flatCells sz n f):∃ i j,i < n∧j < sz∧u=f i j:=by
 simp only [flatCells,List.mem_flatMap,List.mem_range,List.mem_map] at h;obtain ⟨i,hi,j,hj,rfl⟩:=h
 exact ⟨i,j,hi,hj,rfl⟩
theorem flat_append (sz n m:Nat) (f g:Nat→Nat→Value):flatCells sz n f ++ flatCells sz m g=flatCells sz (n + m) (fun i j=>if i < n then f i j else g (i - n) j):=by
 induction m with
 | zero =>
   simp only [flatCells,List.range_zero,List.flatMap_nil,List.append_nil,Nat.add_zero];rw [List.flatMap_def,List.flatMap_def]
   congr 1
   apply List.map_congr_left;intro i hi;apply List.map_congr_left;intro j _;rw [if_pos (List.mem_range.1 hi)]
 | succ m ih =>
   rw [flat_succ,← List.append_assoc,ih,show n + (m + 1)=(n + m) + 1 by omega,flat_succ]
   congr 1
   apply List.map_congr_left;intro j _;rw [if_neg (by omega),show n + m - n=m by omega]
section
variable {P:Program}
theorem elems_of_own {w:World} {base:Nat} {e:TypeId} {sz n:Nat} {v:Value} {f:Nat→Nat→Value} (h:w.ownsRow base e sz v n (flatCells sz n f)) (hb:n≤9223372036854775807) :
 ∃ a c,v=.slice a n c∧n≤c∧Elems w (.slice a n c) sz n f:=by
 rcases h.2 with ⟨rfl,h0⟩ | ⟨g,cap,cur,rfl,hg,hh,r⟩
 · by_cases hn:n=0
   · subst hn
     exact ⟨none,0,rfl,Nat.le_refl _,elems_nil _ _ _ _ _ (fun _=>rfl)⟩
   · omega
 · refine ⟨some ⟨g,0,none⟩,cap,rfl,?_,hb,?_⟩
   · omega
   · by_cases hn:n=0
     · subst hn
       exact Or.inl ⟨_,cap,rfl,(fun h=>by cases h),rfl⟩
     · refine Or.inr ⟨g,0,cap,rfl,by omega,fun i j hi hj=>?_⟩
       rw [Nat.zero_add]
       have hlt:i * sz + j < n * sz:=by
        have:(i + 1) * sz≤n * sz:=Nat.mul_le_mul_right sz hi;rw [Nat.succ_mul] at this
        omega
       rw [h.cellAt (i * sz + j) hlt]
       exact flat_at sz n f i j hi hj
theorem own_whole {w:World} {base g:Nat} {e:TypeId} {sz n:Nat} {cs:Array Value} {f:Nat→Nat→Value} (h:Whole w g e cs) (hb:base≤g) (hcs:cs.toList=flatCells sz n f) (hm:n≤maxLen) :
 w.ownsRow base e sz (.slice (some ⟨g,0,none⟩) n n) n (flatCells sz n f):=by
 have hl:cs.size=n * sz:=by rw [← Array.length_toList,hcs,flat_length]
 refine ⟨flat_length _ _ _,Or.inr ⟨g,n,cs,rfl,hb,h,Nat.le_refl _,hm,hl,?_⟩⟩;rw [hcs,List.take_of_length_le (by rw [flat_length]; omega)]
theorem own_later {w w':World} {base:Nat} {e:TypeId} {sz n:Nat} {v:Value} {xs:List Value} (h:w.ownsRow base e sz v n xs) (hb:Below w.heap.size w w'):w'.ownsRow base e sz v n xs :=
 h.kept (row:=none) ⟨hb.os,hb.tape,hb.output,hb.size,fun k hk _=>hb.block k hk⟩ (by cases v.ownBlock <;> simp)
def Grew (w w':World) (v v':Value):Prop:=w.grownBy w' v.ownBlock∧(v'.ownBlock=v.ownBlock∨v'.ownBlock=some w.heap.size)
theorem own_past {w:World} {base g:Nat} {e:TypeId} {sz n:Nat} {v:Value} {xs:List Value} (h:w.ownsRow base e sz v n xs) (hg:w.heap.size≤g):v.ownBlock ≠ some g:=fun e=>by
 have:=(h.lt g e).2
 omega
theorem run_append_elems {w:World} (t ty:TypeId) (base:Nat) (e:TypeId) (i:TypeInfo) (z:Value) (sz bytes:Nat) (ht:P.underlying t=some (.slice e)) (hi:P.info? e=some i) (hz:i.zero=some z)
 (hsize:i.size=sz) (hby:i.bytes=bytes) (hzs:z.cells.size=sz) (hsz:0 < sz)
 (v:Value) (n:Nat) (f:Nat→Nat→Value) (hown:w.ownsRow base e sz v n (flatCells sz n f)) (A:Option Addr) (m c:Nat) (g:Nat→Nat→Value) (hE:Elems w (.slice A m c) sz m g)
 (h1:∀ i j,i < m→j < sz→(g i j).oneCell'=true) (h63:n + m≤maxLen) (h47:(n + m) * bytes≤140737488355328) (hbase:base≤w.heap.size) :
 ∃ v' w',(Builtin.append_ #[t,t] ty #[v,.slice A m c]).run P w=.ok v' w'∧w'.ownsRow base e sz v' (n + m) (flatCells sz (n + m) (fun i j=>if i < n then f i j else g (i - n) j))∧Below base w w'∧Grew w w' v v':=by
 cases A with
 | none =>
   have hm:m=0∧c=0:=by
    obtain ⟨_,⟨a',c',hv,h0,hm⟩ | ⟨b,off,cap,hv,_⟩⟩:=hE
    · simp only [Value.slice.injEq] at hv
      exact ⟨hm,by rw [hv.2.2]; exact h0 hv.1.symm⟩
    · simp at hv
   obtain ⟨rfl,rfl⟩:=hm;refine ⟨v,w,run_append_owned_none (P:=P) (w:=w) base t ty e i sz ht hi v n _ hown,?_,Below.refl _ _,World.grownBy.refl w _,Or.inl rfl⟩;have:=flat_append sz n 0 f g;rw [← this]
   simpa [flatCells] using hown
 | some ad =>
   have hnews:∀ j u,(flatCells sz m g)[j]?=some u→w.cell? (ad.add j)=some u:=by
    intro k u hu
    have hk:k < m * sz:=by
     have:=(List.getElem?_eq_some_iff.1 hu).1;rwa [flat_length] at this
    obtain ⟨i',j',hi',hj',rfl⟩:=flat_split m hk;rw [flat_at sz m g i' j' hi' hj'] at hu;obtain ⟨b,off,hab,hc⟩:=hE.at hi'
    injection hab with hab
    rw [hab,add_plain,hc j' hj']
    exact hu
   obtain ⟨v',w',hrun,h2,h3,_,h5⟩:=run_append_own_at (P:=P) w base t ty e i z sz bytes ht hi hz hsize hby hzs hsz v n _ hown ad m c (flatCells sz m g) (flat_length _ _ _) hnews
    (fun u hu=>by obtain ⟨i',j',hi',hj',rfl⟩:=flat_mem hu; exact h1 i' j' hi' hj') h63 h47 hbase
   refine ⟨v',w',hrun,?_,(Below.refl _ _).grown h3 hbase (fun k hk=>(hown.lt k hk).1),h3,h5⟩
   rw [← flat_append]; exact h2
end
end Go.Proofs.YtecjnkokdnmhlaaGreat
namespace Go.Proofs.YtecjnkokdnmhlaaGreat
open Go.RowKit
def Nums (w:World) (v:Value) (l:List Int):Prop:=Elems w v 1 l.length (fun i _=>.int .i64 (l[i]?.getD 0))
theorem Nums.later {w w':World} {v:Value} {l:List Int} (h:Nums w v l) (hb:Below w.heap.size w w'):Nums w' v l:=Elems.later h hb
theorem Nums.at {w:World} {a:Option Addr} {m c:Nat} {l:List Int} (h:Nums w (.slice a m c) l) {i:Nat} (hi:i < l.length) :
 ∃ b off,a=some ⟨b,off,none⟩∧b < w.heap.size∧w.cell? ⟨b,off + i,none⟩=some (.int .i64 (l[i]?.getD 0)):=by
 obtain ⟨b,off,e,hc⟩:=Elems.at h hi;have:=hc 0 (by omega)
 rw [Nat.mul_one,Nat.add_zero] at this
 exact ⟨b,off,e,World.block_lt_of_cell? w _ this,this⟩
end Go.Proofs.YtecjnkokdnmhlaaGreat
namespace Go.Proofs.YtecjnkokdnmhlaaGreat
open Go.ChangeShapes Go.WideShapes Go.ChangeAt Go.RowKit Go.Joins Go.Deep
theorem cells_row:Tryz.prog.cellsOf 77=3:=by kernel_rfl
theorem cells_int64:Tryz.prog.cellsOf 2=1:=by kernel_rfl
theorem open_nums {H:Type} {enc:TypeId × Value→H} {W:World} {v:Value} {n:Nat} {y:DataW H × List MemPlace} (hf:DataW.trod enc Tryz.prog W 0 (fun _=>true) true n 31 [v]=some y) :
 ∃ a m c l,v=.slice a m c∧m=l.length∧Nums W (.slice a m c) l:=by
 rcases open_ints Tryz.underlying31 Tryz.underlying2 cells_int64 hf with ⟨hcs,hx⟩ | ⟨a,len,cap,zs,hcs,_,hl,hm,hz,hx,hcell,hwz⟩
 · simp only [List.cons.injEq,and_true] at hcs
   exact ⟨none,0,0,[],hcs,rfl,elems_nil W _ _ _ _ (fun _=>rfl)⟩
 · simp only [List.cons.injEq,and_true] at hcs
   subst hcs;simp only [if_true] at hz;have hlen:(zs.take len).length=len:=by simp; omega
   refine ⟨some a,len,cap,zs.take len,rfl,hlen.symm,?_⟩
   unfold Nums
   rw [hlen];refine ⟨by unfold maxLen at hm; omega,?_⟩
   obtain ⟨b,off,spot⟩:=a
   by_cases h0:len=0
   · subst h0
     exact Or.inl ⟨_,cap,rfl,(fun h=>by cases h),rfl⟩
   · have hspot:spot=none:=by simpa [Addr.add] using World.cell?_spot (hcell 0 (by omega))
     subst hspot;refine Or.inr ⟨b,off,cap,rfl,hl,fun i j hi hj=>?_⟩
     obtain rfl:j=0:=by omega
     have:=hcell i (by omega)
     rw [Nat.mul_one,Nat.add_zero,← add_plain,this]
     simp [List.getD_eq_getElem?_getD,hi]
end Go.Proofs.YtecjnkokdnmhlaaGreat
namespace Go.Proofs.YtecjnkokdnmhlaaGreat
open Go.ChangeShapes Go.WideShapes Go.ChangeAt Go.RowKit Go.Deep
theorem cells_config:Tryz.prog.cellsOf 23=6:=by kernel_rfl
set_option maxRecDepth 100000 in
theorem open_config {H:Type} {enc:TypeId × Value→H} {W:World} {base:Nat} {v:Value} {d:DataW H} {p:List MemPlace} (hv:Value.okWide Tryz.prog W .any base 23 v)
 (h:DataW.Trod enc Tryz.prog W 0 (fun _=>true) true 23 v d p):∃ c:Cf,v=cfV c:=by
 obtain ⟨cs,rfl,hsz⟩:=okWide_struct Tryz.underlying23 hv;obtain ⟨fuel,hf⟩:=h;obtain ⟨xs,m,_,_,_,hlen,hat⟩:=DataW.trod_struct Tryz.underlying23 hf;rw [cells_config] at hsz
 have key:∀ j (hj:j < cs.size),∃ x,cs[j]=.int .i64 x:=by
  intro j hj;have hjx:j < xs.length:=by rw [hlen]; show j < 6; omega
  have hd:∀ (a:List Value),a=(Value.agg cs).cells.toList→a.length=6→∀ i,i < 6→(a.drop i).take 1=[a[i]?.getD (.bool false)]:=by
   intro a _ ha i hi;rw [List.drop_eq_getElem_cons (by omega),List.take_succ_cons,List.take_zero,List.getElem?_eq_getElem (by omega)]; rfl
  have hcl:((Value.agg cs).cells.toList).length=6:=by
   show cs.toList.length=6
   rw [Array.length_toList]; exact hsz
  have hj6:j < 6:=by omega
  have fin:∀ i t,i < 6→DataW.trod enc Tryz.prog W 0 (fun _=>true) true m t (((Value.agg cs).cells.toList.drop i).take 1)=xs[i]?→(t=3∨t=2)→∃ x,cs[i]?.getD (.bool false)=.int .i64 x:=by
   intro i t hi ht hk;rw [hd _ rfl hcl i hi,List.getElem?_eq_getElem (l:=xs) (by rw [hlen]; exact hi)] at ht
   rcases hk with rfl | rfl
   · obtain ⟨x,e,_⟩:=DataW.trod_int Tryz.underlying3 ht
     simp only [List.cons.injEq,and_true] at e
     exact ⟨x,by rw [← e]; show _=(cs.toList[i]?).getD _; rw [Array.getElem?_toList]⟩
   · obtain ⟨x,e,_⟩:=DataW.trod_int Tryz.underlying2 ht
     simp only [List.cons.injEq,and_true] at e
     exact ⟨x,by rw [← e]; show _=(cs.toList[i]?).getD _; rw [Array.getElem?_toList]⟩
  have:∃ x,cs[j]?.getD (.bool false)=.int .i64 x:=by
   match j,hj6 with
   | 0,h=>exact fin 0 _ h (hat 0 _ rfl) (Or.inl rfl)
   | 1,h=>exact fin 1 _ h (hat 1 _ rfl) (Or.inl rfl)
   | 2,h=>exact fin 2 _ h (hat 2 _ rfl) (Or.inl rfl)
   | 3,h=>exact fin 3 _ h (hat 3 _ rfl) (Or.inl rfl)
   | 4,h=>exact fin 4 _ h (hat 4 _ rfl) (Or.inr rfl)
   | 5,h=>exact fin 5 _ h (hat 5 _ rfl) (Or.inr rfl)
  obtain ⟨x,e⟩:=this;rw [Array.getElem?_eq_getElem hj] at e
  exact ⟨x,e⟩
 obtain ⟨l⟩:=cs
 match l,hsz with
 | [v0, v1, v2, v3, v4, v5], _ =>
   obtain ⟨x0,e0⟩:=key 0 (by simp)
   obtain ⟨x1,e1⟩:=key 1 (by simp)
   obtain ⟨x2,e2⟩:=key 2 (by simp)
   obtain ⟨x3,e3⟩:=key 3 (by simp)
   obtain ⟨x4,e4⟩:=key 4 (by simp)
   obtain ⟨x5,e5⟩:=key 5 (by simp)
   refine ⟨⟨x0,x1,x2,x3,x4,x5⟩,?_⟩
   simp at e0 e1 e2 e3 e4 e5
   rw [e0,e1,e2,e3,e4,e5]
end Go.Proofs.YtecjnkokdnmhlaaGreat
namespace Go.Proofs.YtecjnkokdnmhlaaGreat
open Go.ChangeShapes Go.WideShapes Go.ChangeAt Go.RowKit Go.Joins Go.Deep
structure Rw where
 inc:Int
 use:Int
 out:List Int
instance:Inhabited Rw:=⟨⟨0,0,[]⟩⟩
def at_ (l:List Rw) (k:Nat):Rw:=l[k]?.getD ⟨0,0,[]⟩
theorem at_lt {l:List Rw} {k:Nat} (h:k < l.length):at_ l k=l[k]:=by simp [at_,h]
def rowCell (l:List Rw) (g:Nat→Value) (i j:Nat):Value:=if j=0 then .int .i64 (at_ l i).inc else if j=1 then .int .i64 (at_ l i).use else g i
def Books (w:World) (v:Value) (l:List Rw):Prop :=
 ∃ g:Nat→Value,Elems w v 3 l.length (rowCell l g)∧∀ k,k < l.length→∃ a c,g k=.slice a (at_ l k).out.length c∧Nums w (g k) (at_ l k).out
theorem Books.later {w w':World} {v:Value} {l:List Rw} (h:Books w v l) (hb:Below w.heap.size w w'):Books w' v l:=by
 obtain ⟨g,hE,hg⟩:=h;refine ⟨g,hE.later hb,fun k hk=>?_⟩
 obtain ⟨a,c,e,hN⟩:=hg k hk
 exact ⟨a,c,e,hN.later hb⟩
theorem Books.big {w:World} {v:Value} {l:List Rw} (h:Books w v l):l.length≤9223372036854775807:=h.choose_spec.1.1
theorem Books.at {w:World} {a:Option Addr} {m c:Nat} {l:List Rw} (h:Books w (.slice a m c) l) {k:Nat} (hk:k < l.length) :
 ∃ b off A C, a = some ⟨b, off, none⟩ ∧ b < w.heap.size ∧ w.cell? ⟨b, off + k * 3, none⟩ = some (.int .i64 (at_ l k).inc) ∧ w.cell? ⟨b, off + k * 3 + 1, none⟩ = some (.int .i64 (at_ l k).use) ∧
   w.cell? ⟨b,off + k * 3 + 2,none⟩=some (.slice A (at_ l k).out.length C)∧Nums w (.slice A (at_ l k).out.length C) (at_ l k).out:=by
 obtain ⟨g,hE,hg⟩:=h;obtain ⟨b,off,e,hc⟩:=hE.at hk;obtain ⟨A,C,eg,hN⟩:=hg k hk;have c0:=hc 0 (by omega)
 have c1:=hc 1 (by omega)
 have c2:=hc 2 (by omega)
 rw [show rowCell l g k 2=g k from rfl,eg] at c2
 rw [eg] at hN
 exact ⟨b,off,A,C,e,World.block_lt_of_cell? w _ c0,c0,c1,c2,hN⟩
theorem books_nil (w:World) (a:Option Addr) (c:Nat) (h:a=none→c=0):Books w (.slice a 0 c) []:=⟨fun _=>.bool false,elems_nil w a c 3 _ h,fun k hk=>absurd hk (by simp)⟩
def cellInt:Value→Int
 | .int _ x=>x
 | _=>0
end Go.Proofs.YtecjnkokdnmhlaaGreat
namespace Go.Proofs.YtecjnkokdnmhlaaGreat
open Go.RowKit
theorem zip_take_snoc (la lb:List Int) (k:Nat) (ha:k < la.length) (hb:k < lb.length):(la.zip lb).take (k + 1)=(la.zip lb).take k ++ [(la[k]?.getD 0,lb[k]?.getD 0)]:=by
 rw [List.take_succ_eq_append_getElem (by rw [List.length_zip]; omega)]
 simp [List.getElem?_eq_getElem ha,List.getElem?_eq_getElem hb]
def mostOf (who:Int) (k:Nat):Int:=if (k:Int)=who then 0 else 1125899906842624
def mosts (who:Int) (m:Nat):List Int:=(List.range m).map (mostOf who)
theorem mosts_length (who:Int) (m:Nat):(mosts who m).length=m:=by simp [mosts]
theorem mosts_at (who:Int) (m k:Nat) (h:k < m):(mosts who m)[k]?.getD 0=mostOf who k:=by simp [mosts,h]
def sameB (i u:Int) (la:List Int) (j v:Int) (lb:List Int):Bool:=decide (i=j∧u=v∧la=lb)
theorem zip_getElem {la lb:List Int} (h:la.length=lb.length) (k:Nat) (hk:k < la.length):(la.zip lb)[k]'(by rw [List.length_zip]; omega)=(la[k],lb[k]'(by omega)):=by simp
theorem list_same {la lb:List Int} (h:la.length=lb.length) (hk:∀ k,k < la.length→la[k]?.getD 0=lb[k]?.getD 0):la=lb:=by
 apply List.ext_getElem h;intro k h1 h2;have:=hk k h1;rwa [List.getElem?_eq_getElem h1,List.getElem?_eq_getElem h2] at this
def countB (v:Int):Bool:=decide (0≤v∧v≤1099511627776)
theorem countB_yes {v:Int} (h:0≤v∧v≤1099511627776):countB v=true:=decide_eq_true h
theorem countB_no {v:Int} (h:¬ (0≤v∧v≤1099511627776)):countB v=false:=decide_eq_false h
def fits (l:List (Int × Int)):Bool:=l.all fun x=>decide (0≤x.1∧x.1≤x.2)
theorem fits_no {l:List (Int × Int)} (x:Int × Int) (h:x ∈ l) (hx:¬ (0≤x.1∧x.1≤x.2)):fits l=false:=by
 unfold fits
 rw [List.all_eq_false]
 exact ⟨x,h,by simpa using hx⟩
theorem fits_yes {l:List (Int × Int)} (h:∀ x ∈ l,0≤x.1∧x.1≤x.2):fits l=true:=by
 unfold fits
 rw [List.all_eq_true];intro x hx
 exact decide_eq_true (h x hx)
def Bad (l:List (Int × Int)):Prop:=∃ x ∈ l,¬ (0≤x.1∧x.1≤x.2)
theorem bad_of {l:List (Int × Int)} {x:Int × Int} (h:x.1 < 0∨x.2 < x.1):Bad (l ++ [x]):=⟨x,by simp,by omega⟩
theorem Bad.fits {l:List (Int × Int)} {k:Nat} (h:Bad (l.take k)):fits l=false:=by
 obtain ⟨x,hx,hn⟩:=h
 exact fits_no x (List.mem_of_mem_take hx) hn
def mayR (i u:Int) (l:List Int) (n who:Int):Bool:=decide ((l.length:Int)=n∧0≤who∧who < n) && (countB i && countB u) && fits (l.zip (mosts who l.length))
def sumW (l:List Int):Int:=l.foldl (fun s v=>wrap64 (s + v)) 0
theorem sumW_snoc (l:List Int) (x:Int):sumW (l ++ [x])=wrap64 (sumW l + x):=by simp [sumW]
def sentV (l:List Int):Int:=if l.length≤16∧fits (l.zip (mosts (-1) l.length))=true then sumW l else 0
end Go.Proofs.YtecjnkokdnmhlaaGreat
namespace Go.Proofs.YtecjnkokdnmhlaaGreat
open Go.RowKit
def Fine (P:Program) (w:World) (ts:Array TypeId) (ty:TypeId) (args:Array Value):Prop:=∃ v w',(Builtin.append_ ts ty args).run P w=.ok v w'
def okV:Result Value→Value
 | .ok v _=>v
 | _=>undef
def okW (w:World):Result Value→World
 | .ok _ w'=>w'
 | _=>w
noncomputable def appV (P:Program) (w:World) (ts:Array TypeId) (ty:TypeId) (args:Array Value):Value:=okV ((Builtin.append_ ts ty args).run P w)
noncomputable def appW (P:Program) (w:World) (ts:Array TypeId) (ty:TypeId) (args:Array Value):World:=okW w ((Builtin.append_ ts ty args).run P w)
theorem run_fine {P:Program} {w:World} {ρ:Operand→Value} {dst:Option Tmp} {ty t t2:TypeId} {pos:String} {after:Array Edge} {guard:Option (Nat × Bool)} {s x:Operand}
 (h:Fine P w #[t,t2] ty #[ρ s,ρ x]):(execOp ρ { dst,op:=.call { callee:=.builtin .append,args:=#[s,x],argTypes:=#[t,t2] },type:=ty,pos,after,guard }).run P w=.ok (.value (appV P w #[t,t2] ty #[ρ s,ρ x])) (appW P w #[t,t2] ty #[ρ s,ρ x]):=by
 obtain ⟨v,w',hr⟩:=h
 unfold execOp appV appW
 simp only [resolve,invoke,builtin,Sem.run_bind,Sem.run_pure,Result.andThen_ok,List.map_toArray,List.map_cons,List.map_nil,hr]
 rfl
theorem fine_of {P:Program} {w w':World} {ts:Array TypeId} {ty:TypeId} {args:Array Value} {v:Value} (h:(Builtin.append_ ts ty args).run P w=.ok v w'):Fine P w ts ty args∧appV P w ts ty args=v∧appW P w ts ty args=w' :=
 ⟨⟨_,_,h⟩,by unfold appV; rw [h]; rfl,by unfold appW; rw [h]; rfl⟩
end Go.Proofs.YtecjnkokdnmhlaaGreat
namespace Go.Proofs.YtecjnkokdnmhlaaGreat
open Go.RowKit
def KeptAt (n₀ B:Nat) (W W':World):Prop:=Below n₀ W W'∧W'.heap[B]?=W.heap[B]?
theorem kept_trans {n₀ B:Nat} {X Y Z:World} (h:KeptAt n₀ B X Y) (k:KeptAt n₀ B Y Z):KeptAt n₀ B X Z:=⟨h.1.trans k.1,k.2.trans h.2⟩
theorem kept_put {n₀ B:Nat} {w:World} (hn:n₀≤w.heap.size) (hB:B < w.heap.size):∀ (W:World) (l:Nat) (o o':Obj),w.heap.size≤l→W.heap[l]?=some o→o.isCells=false→o.isWalk=false→KeptAt n₀ B W (W.putObj l o') :=
 fun W l o o' hl ho hc hk=>⟨belowK_b (w:=w) hn W l o o' hl ho hc hk,World.putObj_heap_other (by omega)⟩
theorem kept_refl (n₀ B:Nat) (W:World):KeptAt n₀ B W W:=⟨Below.refl _ _,rfl⟩
theorem kept_set {n₀ B:Nat} {W:World} {p:Addr} (u:Value) (hn:n₀≤p.block) (hB:B ≠ p.block):KeptAt n₀ B W (W.setCell p u):=⟨(Below.refl _ _).setCell hn u,Below.heap_setCell W p u B hB⟩
abbrev rowV (i u:Int) (v:Value):Value:=.agg #[.int .i64 i,.int .i64 u,v]
theorem box_kept {W:World} {B:Nat} {t:TypeId} {v:Value} (h:Boxed W B t v) {X:World} {row:Option Nat} (hg:W.grownBy X row) (hr:∀ r,row=some r→∃ o:Obj,W.heap[r]?=some o∧o.isCells=false):Boxed X B t v :=
 h.kept hg (fun e'=>by obtain ⟨o,ho,hc⟩:=hr B e'.symm; rw [show W.heap[B]?=_ from h] at ho; cases ho; cases hc)
theorem row_cells {wr:World} {g:Nat} {i u:Int} {v:Value} (h:Whole wr g 77 #[.int .i64 i,.int .i64 u,v]) :
 wr.cell? ⟨g,0,none⟩=some (.int .i64 i)∧wr.cell? ⟨g,1,none⟩=some (.int .i64 u)∧wr.cell? ⟨g,2,none⟩=some v:=⟨h.cell 0,h.cell 1,h.cell 2⟩
theorem info_int64:(Tryz.prog.info? 2).map (fun i=>(i.zero,i.size,i.bytes))=some (some (.int .i64 0),1,8):=by kernel_rfl
theorem flat_one (l:List Int):l.map (Value.int .i64)=flatCells 1 l.length (fun i _=>.int .i64 (l[i]?.getD 0)):=by
 apply List.ext_getElem?;intro i
 by_cases hi:i < l.length
 · have:=flat_at 1 l.length (fun i _=>Value.int .i64 (l[i]?.getD 0)) i 0 hi (by decide)
   rw [Nat.mul_one,Nat.add_zero] at this;rw [this]
   simp [List.getElem?_eq_getElem hi]
 · rw [List.getElem?_eq_none (by simp; omega),List.getElem?_eq_none (by rw [flat_length]; omega)]
theorem nums_of_own {w:World} {base:Nat} {e:TypeId} {n:Nat} {v:Value} {l:List Int} (h:w.ownsRow base e 1 v n (l.map (Value.int .i64))) (hn:n=l.length) (hb:n≤9223372036854775807) :
 ∃ A C,v=.slice A n C∧Nums w (.slice A n C) l:=by
 subst hn;rw [flat_one] at h;obtain ⟨A,C,hv,_,hE⟩:=elems_of_own h hb
 exact ⟨A,C,hv,hE⟩
theorem grownBy_set (W:World) (p:Addr) (v:Value):W.grownBy (W.setCell p v) (some p.block) :=
 ⟨rfl,rfl,rfl,by simp,fun k _ hk=>Below.heap_setCell _ _ _ k (fun e=>hk (by rw [e]))⟩
theorem own_base {w:World} {base b2:Nat} {e:TypeId} {s n:Nat} {v:Value} {xs:List Value} (h:w.ownsRow base e s v n xs) (hb:b2≤base):w.ownsRow b2 e s v n xs :=
 ⟨h.1,h.2.imp id fun ⟨g',cap,cur,e,hb',hh⟩=>⟨g',cap,cur,e,Nat.le_trans hb hb',hh⟩⟩
end Go.Proofs.YtecjnkokdnmhlaaGreat
namespace Go.Proofs.YtecjnkokdnmhlaaGreat
open Go.RowKit
theorem own_apart {w:World} {base b2:Nat} {e e2:TypeId} {s s2 n n2:Nat} {v v2:Value} {xs xs2:List Value} (h:w.ownsRow base e s v n xs) (h2:w.ownsRow b2 e2 s2 v2 n2 xs2) (he:e ≠ e2) {b:Nat} (hv:v.ownBlock=some b):v2.ownBlock ≠ some b:=by
 intro hv2
 rcases h.2 with ⟨rfl,_⟩ | ⟨g,cap,cur,rfl,_,hg,_⟩
 · simp [Value.ownBlock] at hv
 · rcases h2.2 with ⟨rfl,_⟩ | ⟨g',cap',cur',rfl,_,hg',_⟩
   · simp [Value.ownBlock] at hv2
   · obtain rfl:g=b:=by simpa [Value.ownBlock] using hv
     obtain rfl:g'=g:=by simpa [Value.ownBlock] using hv2
     rw [hg] at hg'
     simp at hg'
     exact he hg'.2
theorem own_kept_apart {w w':World} {base b2:Nat} {e e2:TypeId} {s s2 n n2:Nat} {v v2:Value} {xs xs2:List Value} (h:w.ownsRow base e s v n xs) (h2:w.ownsRow b2 e2 s2 v2 n2 xs2) (he:e2 ≠ e) (hG:w.grownBy w' v2.ownBlock):w'.ownsRow base e s v n xs:=by
 cases hv2:v2.ownBlock with
 | none=>rw [hv2] at hG; exact h.kept hG (by cases v.ownBlock <;> simp)
 | some b =>
   have:=own_apart h2 h he hv2;rw [hv2] at hG
   exact h.kept hG (.inr this)
end Go.Proofs.YtecjnkokdnmhlaaGreat
