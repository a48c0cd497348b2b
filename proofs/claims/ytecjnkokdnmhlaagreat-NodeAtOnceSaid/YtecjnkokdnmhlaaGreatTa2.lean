/- Parts, as far as NodeAtOnceCards reaches them, of: StampWords, LineWords, ClaimWords, OpenData, BooksReach, LookOpen, ClaimOpen, AuditWords, BookWords, BookOpen. No law is proved here. -/
import Derived.Deep.QuietTactic
import Derived.BigQuiet
import Derived.Test.YtecjnkokdnmhlaaGreatTa1
import Derived.SizedLaws
namespace Go.Proofs.YtecjnkokdnmhlaaGreat
open Go.RowKit
abbrev stampV (t w:Int):Value:=.agg #[.int .i64 t,.int .i64 w]
def olderB (t w u v:Int):Bool:=decide (t < u∨(t=u∧w < v))
def mayB (t w n:Int):Bool:=decide (1≤t∧t≤1125899906842624∧0≤w∧w < n)
theorem olderB_yes {t w u v:Int} (h:t < u∨(t=u∧w < v)):olderB t w u v=true:=by simpa [olderB] using h
theorem olderB_no {t w u v:Int} (h:¬ (t < u∨(t=u∧w < v))):olderB t w u v=false:=by simpa [olderB] using h
theorem olderB_iff {t w u v:Int}:olderB t w u v=true ↔ (t < u∨(t=u∧w < v)):=by simp [olderB]
theorem mayB_yes {t w n:Int} (h:1≤t∧t≤1125899906842624∧0≤w∧w < n):mayB t w n=true:=by simpa [mayB] using h
theorem mayB_no {t w n:Int} (h:¬ (1≤t∧t≤1125899906842624∧0≤w∧w < n)):mayB t w n=false:=by unfold mayB; exact decide_eq_false h
end Go.Proofs.YtecjnkokdnmhlaaGreat
namespace Go.Proofs.YtecjnkokdnmhlaaGreat
open Go.RowKit
structure Rq where
 t:Int
 a:Int
 m:Int
deriving DecidableEq
abbrev rqV (x:Rq):Value:=.agg #[.int .i64 x.t,.int .i64 x.a,.int .i64 x.m]
abbrev rqCells (x:Rq):Array Value:=#[.int .i64 x.t,.int .i64 x.a,.int .i64 x.m]
def rqc (x:Rq) (j:Nat):Value:=.int .i64 (if j=0 then x.t else if j=1 then x.a else x.m)
def rqAt (l:List Rq) (i:Nat):Rq:=l[i]?.getD ⟨0,0,0⟩
def Line (w:World) (v:Value) (l:List Rq):Prop:=Elems w v 3 l.length (fun i j=>rqc (rqAt l i) j)
theorem Line.later {w w':World} {v:Value} {l:List Rq} (h:Line w v l) (hb:Below w.heap.size w w'):Line w' v l:=Elems.later h hb
theorem Line.nil (w:World) (a:Option Addr) (c:Nat) (h:a=none→c=0):Line w (.slice a 0 c) []:=elems_nil w a c 3 _ h
theorem Line.big {w:World} {v:Value} {l:List Rq} (h:Line w v l):l.length≤9223372036854775807:=h.1
theorem Line.at {w:World} {a:Option Addr} {m c:Nat} {l:List Rq} (h:Line w (.slice a m c) l) {i:Nat} (hi:i < l.length) :
 ∃ b off,a=some ⟨b,off,none⟩∧w.cell? ⟨b,off + i * 3,none⟩=some (.int .i64 (rqAt l i).t)∧w.cell? ⟨b,off + i * 3 + 1,none⟩=some (.int .i64 (rqAt l i).a)∧w.cell? ⟨b,off + i * 3 + 2,none⟩=some (.int .i64 (rqAt l i).m):=by
 obtain ⟨b,off,rfl,hc⟩:=Elems.at h hi
 exact ⟨b,off,rfl,by simpa [rqc] using hc 0 (by omega),by rw [Nat.add_assoc]; simpa [rqc] using hc 1 (by omega),by rw [Nat.add_assoc]; simpa [rqc] using hc 2 (by omega)⟩
def oneOk (c:Cf) (who:Int) (x:Rq):Prop:=(1≤x.t∧x.t≤1125899906842624∧0≤x.a∧x.a < c.n)∧x.a=who∧1≤x.m∧x.m≤1099511627776
def oneB (c:Cf) (who:Int) (x:Rq):Bool:=mayB x.t x.a c.n && decide (x.a=who∧1≤x.m∧x.m≤1099511627776)
theorem oneB_iff {c:Cf} {who:Int} {x:Rq}:oneB c who x=true ↔ oneOk c who x:=by simp [oneB,oneOk,mayB]
def rqOld (x y:Rq):Bool:=olderB x.t x.a y.t y.a
def lineOk (c:Cf) (who:Int) (l:List Rq):Prop :=
 cfOk c∧(0≤who∧who < c.n)∧(l.length:Int)≤c.q∧∀ i,i < l.length→oneB c who (rqAt l i)=true∧(0 < i→rqOld (rqAt l (i - 1)) (rqAt l i)=true)
instance (c:Cf) (who:Int) (l:List Rq):Decidable (lineOk c who l):=by unfold lineOk; exact inferInstance
def lineB (c:Cf) (who:Int) (l:List Rq):Bool:=decide (lineOk c who l)
theorem lineB_no {c:Cf} {who:Int} {l:List Rq} (h:¬ lineOk c who l):lineB c who l=false:=decide_eq_false h
theorem lineB_yes {c:Cf} {who:Int} {l:List Rq} (h:lineOk c who l):lineB c who l=true:=decide_eq_true h
theorem lineB_ok {c:Cf} {who:Int} {l:List Rq} (h:lineB c who l=true):lineOk c who l:=of_decide_eq_true h
def nextB (c:Cf) (who:Int) (l:List Rq) (r:Rq):Bool:=oneB c who r && (decide (l.length=0) || rqOld (rqAt l (l.length - 1)) r)
def joinQ (c:Cf) (who:Int) (l:List Rq) (r:Rq):List Rq × Int :=
 if lineOk c who l then (if r.m < 1∨1099511627776 < r.m then ([],2) else if c.q≤(l.length:Int) then ([],3) else if nextB c who l r then (l ++ [r],0) else ([],1)) else ([],1)
theorem rqAt_left {l:List Rq} (r:Rq) {i:Nat} (h:i < l.length):rqAt (l ++ [r]) i=rqAt l i:=by unfold rqAt; rw [List.getElem?_append_left h]
theorem rqAt_last (l:List Rq) (r:Rq):rqAt (l ++ [r]) l.length=r:=by unfold rqAt; rw [List.getElem?_append_right (Nat.le_refl _),Nat.sub_self]; rfl
theorem rqAt_tail (l:List Rq) (i:Nat):rqAt l.tail i=rqAt l (i + 1):=by unfold rqAt; rw [List.getElem?_tail]
theorem join_stays {c:Cf} {who:Int} {l:List Rq} {r:Rq} (h:lineOk c who l) (hq:(l.length:Int) < c.q) (hn:nextB c who l r=true):lineOk c who (l ++ [r]):=by
 obtain ⟨h1,h2,h3,h4⟩:=h
 unfold nextB at hn
 rw [Bool.and_eq_true,Bool.or_eq_true,decide_eq_true_eq] at hn;refine ⟨h1,h2,by rw [List.length_append,List.length_singleton]; omega,fun i hi=>?_⟩
 rw [List.length_append,List.length_singleton] at hi
 by_cases hl:i < l.length
 · rw [rqAt_left r hl]
   refine ⟨(h4 i hl).1,fun h0=>?_⟩
   rw [rqAt_left r (by omega)]
   exact (h4 i hl).2 h0
 · obtain rfl:i=l.length:=by omega
   rw [rqAt_last];refine ⟨hn.1,fun h0=>?_⟩
   rw [rqAt_left r (by omega)]
   rcases hn.2 with h5 | h5
   · omega
   · exact h5
theorem leave_stays {c:Cf} {who:Int} {l:List Rq} (h:lineOk c who l):lineOk c who l.tail:=by
 obtain ⟨h1,h2,h3,h4⟩:=h;refine ⟨h1,h2,by rw [List.length_tail]; omega,fun i hi=>?_⟩
 rw [List.length_tail] at hi;rw [rqAt_tail];refine ⟨(h4 (i + 1) (by omega)).1,fun h0=>?_⟩
 rw [rqAt_tail,show i - 1 + 1=i by omega]
 exact (h4 (i + 1) (by omega)).2 (by omega)
theorem Line.cap {w:World} {a:Option Addr} {m c:Nat} {l:List Rq} (h:Line w (.slice a m c) l):m≤c∧m=l.length:=by
 obtain ⟨_,⟨_,_,hv,_,h0⟩ | ⟨_,_,_,hv,hn,_⟩⟩:=h
 · simp only [Value.slice.injEq] at hv
   omega
 · simp only [Value.slice.injEq] at hv
   omega
end Go.Proofs.YtecjnkokdnmhlaaGreat
namespace Go.Proofs.YtecjnkokdnmhlaaGreat
open Go.RowKit
structure Nt where
 clk:Int
 t:Int
 a:Int
 m:Int
 asks:Int
 try_:Int
 ph:Int
deriving DecidableEq
abbrev ntV (x:Nt):Value:=.agg #[.int .i64 x.clk,.int .i64 x.t,.int .i64 x.a,.int .i64 x.m,.int .i64 x.asks,.int .i64 x.try_,.int .i64 x.ph]
abbrev ntCells (x:Nt):Array Value:=#[.int .i64 x.clk,.int .i64 x.t,.int .i64 x.a,.int .i64 x.m,.int .i64 x.asks,.int .i64 x.try_,.int .i64 x.ph]
def ntc (x:Nt) (j:Nat):Value:=.int .i64 (if j=0 then x.clk else if j=1 then x.t else if j=2 then x.a else if j=3 then x.m else if j=4 then x.asks else if j=5 then x.try_ else x.ph)
abbrev nt0:Nt:=⟨0,0,0,0,0,0,0⟩
def ntAt (l:List Nt) (i:Nat):Nt:=l[i]?.getD nt0
def headOf (x:Nt):Rq:=⟨x.t,x.a,x.m⟩
def Notes (w:World) (v:Value) (l:List Nt):Prop:=Elems w v 7 l.length (fun i j=>ntc (ntAt l i) j)
theorem Notes.later {w w':World} {v:Value} {l:List Nt} (h:Notes w v l) (hb:Below w.heap.size w w'):Notes w' v l:=Elems.later h hb
theorem Notes.nil (w:World) (a:Option Addr) (c:Nat) (h:a=none→c=0):Notes w (.slice a 0 c) []:=elems_nil w a c 7 _ h
theorem Notes.big {w:World} {v:Value} {l:List Nt} (h:Notes w v l):l.length≤9223372036854775807:=h.1
def NtIn (w:World) (b o:Nat) (x:Nt):Prop :=
 w.cell? ⟨b,o,none⟩=some (.int .i64 x.clk)∧w.cell? ⟨b,o + 1,none⟩=some (.int .i64 x.t)∧w.cell? ⟨b,o + 2,none⟩=some (.int .i64 x.a)∧w.cell? ⟨b,o + 3,none⟩=some (.int .i64 x.m) ∧
 w.cell? ⟨b,o + 4,none⟩=some (.int .i64 x.asks)∧w.cell? ⟨b,o + 5,none⟩=some (.int .i64 x.try_)∧w.cell? ⟨b,o + 6,none⟩=some (.int .i64 x.ph)
theorem NtIn.later {w w':World} {b o:Nat} {x:Nt} (h:NtIn w b o x) (hb:Below w.heap.size w w'):NtIn w' b o x:=by
 obtain ⟨h0,h1,h2,h3,h4,h5,h6⟩:=h
 exact ⟨cell_later hb h0,cell_later hb h1,cell_later hb h2,cell_later hb h3,cell_later hb h4,cell_later hb h5,cell_later hb h6⟩
theorem Notes.at {w:World} {a:Option Addr} {m c:Nat} {l:List Nt} (h:Notes w (.slice a m c) l) {i:Nat} (hi:i < l.length):∃ b off,a=some ⟨b,off,none⟩∧NtIn w b (off + i * 7) (ntAt l i):=by
 obtain ⟨b,off,rfl,hc⟩:=Elems.at h hi;refine ⟨b,off,rfl,?_,?_,?_,?_,?_,?_,?_⟩
 · simpa [ntc] using hc 0 (by omega)
 · rw [Nat.add_assoc]; simpa [ntc] using hc 1 (by omega)
 · rw [Nat.add_assoc]; simpa [ntc] using hc 2 (by omega)
 · rw [Nat.add_assoc]; simpa [ntc] using hc 3 (by omega)
 · rw [Nat.add_assoc]; simpa [ntc] using hc 4 (by omega)
 · rw [Nat.add_assoc]; simpa [ntc] using hc 5 (by omega)
 · rw [Nat.add_assoc]; simpa [ntc] using hc 6 (by omega)
theorem nt_cells {w:World} {g:Nat} {x:Nt} (h:Whole w g 113 (ntCells x)):NtIn w g 0 x:=⟨h.cell 0,h.cell 1,h.cell 2,h.cell 3,h.cell 4,h.cell 5,h.cell 6⟩
def lkAt (l:List (Int × Int)) (i:Nat):Int × Int:=l[i]?.getD (0,0)
structure Ml where
 fr:Int
 to:Int
 clk:Int
 rows:List Rw
 t:Int
 a:Int
 m:Int
 asks:Int
 try_:Int
 ph:Int
 echo:List (Int × Int)
def noteOf (x:Ml):Nt:=⟨x.clk,x.t,x.a,x.m,x.asks,x.try_,x.ph⟩
def lookOk (t p:Int):Prop:=(t=0∧p=0)∨(0 < t∧t≤1125899906842624∧0 < p∧p < 3)
instance (t p:Int):Decidable (lookOk t p):=by unfold lookOk; exact inferInstance
def lookB (t p:Int):Bool:=decide (lookOk t p)
def noHead (x:Nt):Bool:=decide (x.t=0∧x.a=0∧x.m=0)
def hasHead (c:Cf) (who:Int) (x:Nt):Bool:=mayB x.t x.a c.n && decide (x.a=who∧0 < x.m∧x.m≤1099511627776)
def noteB (c:Cf) (who:Int) (x:Nt):Bool:=decide (0≤x.clk∧x.clk≤1125899906842624) && ((noHead x || hasHead c who x) && (decide (0≤x.asks∧x.asks≤c.r) && lookB x.try_ x.ph))
def notesOk (c:Cf) (who:Int) (l:List Nt):Prop:=cfOk c∧(0≤who∧who < c.n)∧(l.length:Int)=c.n∧∀ i,i < l.length→noteB c i (ntAt l i)=true∧((i:Int)=who→ntAt l i=nt0)
instance (c:Cf) (who:Int) (l:List Nt):Decidable (notesOk c who l):=by unfold notesOk; exact inferInstance
def notesB (c:Cf) (who:Int) (l:List Nt):Bool:=decide (notesOk c who l)
def mailOk (c:Cf) (x:Ml):Prop :=
 rightOk c x.rows∧(0≤x.fr∧x.fr < c.n)∧(0≤x.to∧x.to < c.n)∧x.fr ≠ x.to∧x.clk ≠ 0∧(x.echo.length:Int)=c.n ∧
 (∀ i,i < x.echo.length→lookB (lkAt x.echo i).1 (lkAt x.echo i).2=true∧((i:Int)=x.fr→¬ 0 < (lkAt x.echo i).2))∧noteB c x.fr (noteOf x)=true
instance (c:Cf) (x:Ml):Decidable (mailOk c x):=by unfold mailOk; exact inferInstance
def onB (c:Cf) (x:Nt):Bool:=decide (cfOk c∧0 < x.m∧c.r≤x.asks)
def oldK (c:Cf) (l:List Nt):Nat→Option Nat
 | 0=>none
 | k + 1 => if onB c (ntAt l k) then (match oldK c l k with
     | none=>some k
     | some j=>if olderB (ntAt l k).t (ntAt l k).a (ntAt l j).t (ntAt l j).a then some k else some j) else oldK c l k
def oldestN (c:Cf) (who:Int) (l:List Nt):Rq × Bool:=if notesOk c who l then (match oldK c l l.length with
 | some j=>(headOf (ntAt l j),true)
 | none=>(⟨0,0,0⟩,false)) else (⟨0,0,0⟩,false)
def heldB (c:Cf) (who:Int) (l:List Nt) (t a:Int):Bool:=decide (notesOk c who l∧∃ i,i < l.length∧(onB c (ntAt l i)=true∧olderB (ntAt l i).t (ntAt l i).a t a=true))
def callsN (c:Cf) (who:Int) (l:List Nt) (h:Rq):Int × Bool :=
 if (oldestN c who l).2=true∧¬ (h.m ≠ 0∧olderB h.t h.a (oldestN c who l).1.t (oldestN c who l).1.a=true) then ((oldestN c who l).1.a,true) else (0,false)
theorem notesB_no {c:Cf} {who:Int} {l:List Nt} (h:¬ notesOk c who l):notesB c who l=false:=decide_eq_false h
end Go.Proofs.YtecjnkokdnmhlaaGreat
namespace Go.Proofs.YtecjnkokdnmhlaaGreat
open Go.ChangeShapes Go.WideShapes Go.ChangeAt Go.RowKit Go.Joins Go.Deep
def Held {H:Type} (t:TypeId) (d:DataW H):Prop:=∀ n ∈ d.weights Tryz.prog t,n≤reachBytes
theorem weightsAll_mem {H:Type} {P:Program} {e:TypeId}:∀ {ds:List (DataW H)} {d:DataW H},d ∈ ds→∀ n ∈ d.weights P e,n ∈ DataW.weightsAll P e ds
 | [],_,h,_,_=>by cases h
 | d' :: r, d, h, n, hn => by
   rw [DataW.weightsAll,List.mem_append]
   rcases List.mem_cons.1 h with rfl | h
   · exact Or.inl hn
   · exact Or.inr (weightsAll_mem h n hn)
theorem open_elems_data_in {H:Type} {enc:TypeId × Value→H} {P:Program} {t e:TypeId} {sz:Nat} (ht:P.underlying t=some (.slice e)) (hC:P.cellsOf e=sz) (hsz:0 < sz)
 {W:World} {v:Value} {d:DataW H} {ps:List MemPlace} (hval:∃ a len cap,v=.slice a len cap) (h:DataW.Trod enc P W 0 (fun _=>true) true t v d ps) :
 ∃ a n c f D S, v = .slice a n c ∧ n ≤ c ∧ c ≤ maxLen ∧ Elems W (.slice a n c) sz n f ∧ (0 < n → d = .slice ((List.range n).map D) S) ∧
   ∀ i,i < n→∃ fuel p,DataW.trod enc P W 0 (fun _=>true) true fuel e ((List.range sz).map (f i))=some (D i,p):=by
 obtain ⟨a0,len,cap,rfl⟩:=hval;obtain ⟨fuel,hf⟩:=h
 rcases Go.Deep.open_slice ht hf with ⟨hcs,hx⟩ | ⟨a,len',cap',m,n,D,Pl,hcs,_,hl,hm,hmm,hx,hcell⟩
 · simp only [Value.cells,List.cons.injEq,Value.slice.injEq,and_true] at hcs
   obtain ⟨rfl,rfl,rfl⟩:=hcs
   exact ⟨none,0,0,fun _ _=>.bool false,fun _=>.nil,[],rfl,Nat.le_refl _,by decide,elems_nil W _ _ _ _ (fun _=>rfl),fun h=>absurd h (by omega),fun i hi=>absurd hi (by omega)⟩
 · simp only [Value.cells,List.cons.injEq,Value.slice.injEq,and_true] at hcs
   obtain ⟨rfl,rfl,rfl⟩:=hcs;simp only [if_true] at hmm;rw [hC] at hcell;obtain ⟨hd,_⟩:=Prod.mk.inj hx
   have hspot:0 < len→a.spot=none:=fun h0=>by
    obtain ⟨cs',h1,_⟩:=hcell 0 (by omega)
    obtain ⟨_,hlen,hat⟩:=World.cells?_some h1;have h2:=hat 0 hsz;rw [List.getElem?_eq_getElem (by omega)] at h2
    simpa [Addr.add] using World.cell?_spot h2
   have hex:∀ i,∃ cs':List Value,i < len→(cs'.length=sz∧(∀ j,j < sz→W.cell? ((a.add (i * sz)).add j)=cs'[j]?)∧DataW.trod enc P W 0 (fun _=>true) true n e cs'=some (D i,Pl i)):=by
    intro i
    by_cases hi:i < len
    · obtain ⟨cs',h1,h2⟩:=hcell i (by omega)
      obtain ⟨_,hlen,hat⟩:=World.cells?_some h1
      exact ⟨cs',fun _=>⟨hlen,hat,h2⟩⟩
    · exact ⟨[],fun h=>absurd h hi⟩
   obtain ⟨F,hF⟩:=Classical.axiomOfChoice hex;refine ⟨some a,len,cap,fun i j=>(F i).getD j (.bool false),D,_,rfl,hl,hm,⟨by unfold maxLen at hm; omega,?_⟩,fun _=>hd,fun i hi=>?_⟩
   · by_cases h0:len=0
     · subst h0
       exact Or.inl ⟨some a,cap,rfl,(fun h=>by cases h),rfl⟩
     · have hs:=hspot (by omega)
       obtain ⟨b,off,spot⟩:=a;simp only at hs;subst hs;refine Or.inr ⟨b,off,cap,rfl,hl,fun i j hi hj=>?_⟩
       obtain ⟨h1,h2,_⟩:=hF i hi;have:=h2 j hj;rw [add_plain,add_plain] at this;rw [show off + (i * sz + j)=off + i * sz + j by omega,this,List.getElem?_eq_getElem (by omega)]
       simp [List.getD_eq_getElem?_getD,List.getElem?_eq_getElem (show j < (F i).length by omega)]
   · obtain ⟨h1,_,h3⟩:=hF i hi
     refine ⟨n,Pl i,?_⟩
     have:(List.range sz).map (fun j=>(F i).getD j (.bool false))=F i:=by
      apply List.ext_getElem (by simp [h1])
      intro k hk1 hk2
      simp [List.getD_eq_getElem?_getD,List.getElem?_eq_getElem hk2]
     rw [this]; exact h3
end Go.Proofs.YtecjnkokdnmhlaaGreat
namespace Go.Proofs.YtecjnkokdnmhlaaGreat
open Go.ChangeShapes Go.WideShapes Go.ChangeAt Go.RowKit Go.Joins Go.Deep
theorem open_nums_reach {H:Type} {enc:TypeId × Value→H} {W:World} {v:Value} {n:Nat} {y:DataW H × List MemPlace} (hf:DataW.trod enc Tryz.prog W 0 (fun _=>true) true n 31 [v]=some y) :
 ∃ a m c l,v=.slice a m c∧m=l.length∧Nums W (.slice a m c) l∧(Held 31 y.1→l.length≤17592186044416):=by
 obtain ⟨a',m',c',l',e1,e2,e3⟩:=open_nums hf;refine ⟨a',m',c',l',e1,e2,e3,fun hw=>?_⟩
 rcases open_ints Tryz.underlying31 Tryz.underlying2 cells_int64 hf with ⟨hcs,hx⟩ | ⟨a,len,cap,zs,hcs,_,hl,hm,hz,hx,hcell,hwz⟩
 · rw [e1] at hcs
   simp only [List.cons.injEq,Value.slice.injEq,and_true] at hcs
   omega
 · rw [e1] at hcs
   simp only [List.cons.injEq,Value.slice.injEq,and_true] at hcs;obtain ⟨_,rfl,_⟩:=hcs;simp only [if_true] at hz;have h8:Tryz.prog.bytesOf 2=8:=by kernel_rfl
   have:=hw (((lits .i64 (zs.take m'):List (DataW H)).length + (lits .i64 (zs.drop m'):List (DataW H)).length) * Tryz.prog.bytesOf 2) (by
    rw [hx];simp only [DataW.weights,Tryz.underlying31]
    exact List.mem_cons_self)
   rw [h8] at this
   have hlen:(lits .i64 (zs.take m'):List (DataW H)).length=m':=by
    simp [lits]; omega
   rw [hlen] at this;simp only [reachBytes] at this
   omega
set_option maxRecDepth 100000 in
theorem open_books_in {H:Type} {enc:TypeId × Value→H} {W:World} {v:Value} {d:DataW H} {p:List MemPlace} (hv:∃ a len cap,v=.slice a len cap)
 (h:DataW.Trod enc Tryz.prog W 0 (fun _=>true) true 24 v d p) (hw:Held 24 d):∃ a m c l,v=.slice a m c∧m=l.length∧Books W (.slice a m c) l∧Reach l:=by
 obtain ⟨a,n,c,f,D,S,rfl,_,_,hE,hd,hf⟩:=open_elems_data_in Tryz.underlying24 cells_row (by decide) hv h
 have h40:Tryz.prog.bytesOf 77=40:=by kernel_rfl
 have hn:n≤17592186044416:=by
  by_cases h0:0 < n
  · have:=hw ((((List.range n).map D).length + S.length) * Tryz.prog.bytesOf 77) (by
     rw [hd h0];simp only [DataW.weights,Tryz.underlying24]
     exact List.mem_cons_self)
    rw [h40,List.length_map,List.length_range] at this;simp only [reachBytes] at this
    omega
  · omega
 have hD:∀ i,i < n→Held 77 (D i):=fun i hi q hq=>hw q (by
  rw [hd (by omega)]
  simp only [DataW.weights,Tryz.underlying24]
  exact List.mem_cons_of_mem _ (List.mem_append_left _ (weightsAll_mem (List.mem_map.2 ⟨i,List.mem_range.2 hi,rfl⟩) q hq)))
 have hex:∀ i,∃ out:List Int,i < n→((∃ x,f i 0=.int .i64 x)∧(∃ x,f i 1=.int .i64 x)∧(∃ A C,f i 2=.slice A out.length C∧Nums W (f i 2) out)∧out.length≤17592186044416):=by
  intro i
  by_cases hi:i < n
  · obtain ⟨fu,pl,hx⟩:=hf i hi
    obtain ⟨xs,m,_,hxe,_,hlen,hat⟩:=DataW.trod_struct Tryz.underlying77 hx;obtain ⟨hDi,_⟩:=Prod.mk.inj hxe;have hr:(List.range 3).map (f i)=[f i 0,f i 1,f i 2]:=rfl;have h0:=hat 0 _ rfl;have h1:=hat 1 _ rfl;have h2:=hat 2 _ rfl;rw [hr] at h0 h1 h2;rw [List.getElem?_eq_getElem (show 0 < xs.length by rw [hlen]; decide)] at h0
    rw [List.getElem?_eq_getElem (show 1 < xs.length by rw [hlen]; decide)] at h1
    rw [List.getElem?_eq_getElem (show 2 < xs.length by rw [hlen]; decide)] at h2
    obtain ⟨t0,e0,_⟩:=DataW.trod_int Tryz.underlying2 h0;obtain ⟨t1,e1,_⟩:=DataW.trod_int Tryz.underlying2 h1;have e0':[f i 0]=[Value.int .i64 t0]:=e0;have e1':[f i 1]=[Value.int .i64 t1]:=e1;simp only [List.cons.injEq,and_true] at e0' e1';obtain ⟨A,m',C,l,e2,hm,hN,hR⟩:=open_nums_reach (v:=f i 2) h2;refine ⟨l,fun _=>⟨⟨t0,e0'⟩,⟨t1,e1'⟩,⟨A,C,by rw [e2,hm],by rw [e2]; exact hN⟩,hR fun q hq=>hD i hi q ?_⟩⟩
    rw [hDi];simp only [DataW.weights,Tryz.underlying77]
    exact DataW.weights_mem_each (j:=2) rfl (by rw [List.getElem?_map,List.getElem?_eq_getElem (show 2 < xs.length by rw [hlen]; decide)]; rfl) q hq
  · exact ⟨[],fun h=>absurd h hi⟩
 obtain ⟨G,hG⟩:=Classical.axiomOfChoice hex;have e:∀ i,i < n→at_ ((List.range n).map (fun i=>(⟨cellInt (f i 0),cellInt (f i 1),G i⟩:Rw))) i=⟨cellInt (f i 0),cellInt (f i 1),G i⟩:=fun i hi=>by simp [at_,hi]
 refine ⟨a,n,c,(List.range n).map (fun i=>⟨cellInt (f i 0),cellInt (f i 1),G i⟩),rfl,by simp,⟨fun i=>f i 2,?_,fun k hk=>?_⟩,?_,fun k hk=>?_⟩
 · rw [List.length_map,List.length_range]
   refine hE.congr fun i j hi hj=>?_
   obtain ⟨⟨x0,h0⟩,⟨x1,h1⟩,_⟩:=hG i hi
   unfold rowCell
   rw [e i hi]
   match j,hj with
   | 0,_=>rw [if_pos rfl,h0]; rfl
   | 1,_=>rw [if_neg (by decide),if_pos rfl,h1]; rfl
   | 2,_=>rw [if_neg (by decide),if_neg (by decide)]
 · rw [List.length_map,List.length_range] at hk
   rw [e k hk];obtain ⟨_,_,⟨A,C,h2,hN⟩,_⟩:=hG k hk
   exact ⟨A,C,h2,hN⟩
 · rw [List.length_map,List.length_range]; exact hn
 · rw [List.length_map,List.length_range] at hk
   rw [e k hk]
   exact (hG k hk).2.2.2
end Go.Proofs.YtecjnkokdnmhlaaGreat
namespace Go.Proofs.YtecjnkokdnmhlaaGreat
open Go.ChangeShapes Go.WideShapes Go.ChangeAt Go.RowKit Go.Joins Go.Deep
section
variable {H:Type} {enc:TypeId × Value→H} {W:World} {fuel:Nat} {x:DataW H × List MemPlace}
theorem one_int64 {v:Value} (h:DataW.trod enc Tryz.prog W 0 (fun _=>true) true fuel 2 [v]=some x):∃ t,v=.int .i64 t:=by
 obtain ⟨t,e,_⟩:=DataW.trod_int Tryz.underlying2 h;simp only [List.cons.injEq,and_true] at e
 exact ⟨t,e⟩
theorem one_int {v:Value} (h:DataW.trod enc Tryz.prog W 0 (fun _=>true) true fuel 3 [v]=some x):∃ t,v=.int .i64 t:=by
 obtain ⟨t,e,_⟩:=DataW.trod_int Tryz.underlying3 h;simp only [List.cons.injEq,and_true] at e
 exact ⟨t,e⟩
set_option maxRecDepth 100000 in
theorem two_stamp {a b:Value} (h:DataW.trod enc Tryz.prog W 0 (fun _=>true) true fuel 48 [a,b]=some x):∃ t u,a=.int .i64 t∧b=.int .i64 u:=by
 obtain ⟨y0,y1,n,_,_,h0,h1⟩:=trod_struct2 Tryz.underlying48 h;obtain ⟨t,e0⟩:=one_int64 (v:=a) h0;obtain ⟨u,e1⟩:=one_int (v:=b) h1
 exact ⟨t,u,e0,e1⟩
set_option maxRecDepth 100000 in
theorem two_look {a b:Value} (h:DataW.trod enc Tryz.prog W 0 (fun _=>true) true fuel 29 [a,b]=some x):∃ t u,a=.int .i64 t∧b=.int .i64 u:=by
 obtain ⟨y0,y1,n,_,_,h0,h1⟩:=trod_struct2 Tryz.underlying29 h;obtain ⟨t,e0⟩:=one_int64 (v:=a) h0;obtain ⟨u,e1⟩:=one_int (v:=b) h1
 exact ⟨t,u,e0,e1⟩
set_option maxRecDepth 100000 in
theorem three_request {a b c:Value} (h:DataW.trod enc Tryz.prog W 0 (fun _=>true) true fuel 59 [a,b,c]=some x):∃ t u v,a=.int .i64 t∧b=.int .i64 u∧c=.int .i64 v:=by
 obtain ⟨y0,y1,n,_,_,h0,h1⟩:=trod_struct2 Tryz.underlying59 h;obtain ⟨t,u,e0,e1⟩:=two_stamp (a:=a) (b:=b) h0;obtain ⟨v,e2⟩:=one_int64 (v:=c) h1
 exact ⟨t,u,v,e0,e1,e2⟩
end
def cellInt':Value→Int
 | .int _ x=>x
 | _=>0
end Go.Proofs.YtecjnkokdnmhlaaGreat
namespace Go.Proofs.YtecjnkokdnmhlaaGreat
open Go.ChangeShapes Go.WideShapes Go.ChangeAt Go.RowKit Go.Joins Go.Deep
theorem cells_note:Tryz.prog.cellsOf 113=7:=by kernel_rfl
section
variable {H:Type} {enc:TypeId × Value→H} {W:World} {fuel:Nat} {x:DataW H × List MemPlace}
set_option maxRecDepth 100000 in
theorem seven_note {v0 v1 v2 v3 v4 v5 v6:Value} (h:DataW.trod enc Tryz.prog W 0 (fun _=>true) true fuel 113 [v0,v1,v2,v3,v4,v5,v6]=some x) :
 ∃ q:Nt,v0=.int .i64 q.clk∧v1=.int .i64 q.t∧v2=.int .i64 q.a∧v3=.int .i64 q.m∧v4=.int .i64 q.asks∧v5=.int .i64 q.try_∧v6=.int .i64 q.ph:=by
 obtain ⟨y0,y1,y2,y3,n,_,_,h0,h1,h2,h3⟩:=trod_struct4 Tryz.underlying113 h;obtain ⟨clk,e0⟩:=one_int64 (v:=v0) h0;obtain ⟨t,a,m,e1,e2,e3⟩:=three_request (a:=v1) (b:=v2) (c:=v3) h1;obtain ⟨asks,e4⟩:=one_int (v:=v4) h2;obtain ⟨tr,ph,e5,e6⟩:=two_look (a:=v5) (b:=v6) h3
 exact ⟨⟨clk,t,a,m,asks,tr,ph⟩,e0,e1,e2,e3,e4,e5,e6⟩
end
theorem open_notes_in {H:Type} {enc:TypeId × Value→H} {W:World} {v:Value} {d:DataW H} {p:List MemPlace} (hv:∃ a len cap,v=.slice a len cap)
 (h:DataW.Trod enc Tryz.prog W 0 (fun _=>true) true 27 v d p):∃ a n c l,v=.slice a n c∧n=l.length∧n≤c∧Notes W (.slice a n c) l:=by
 obtain ⟨a,n,c,f,rfl,hnc,_,hE,hf⟩:=open_elems_in Tryz.underlying27 cells_note (by decide) hv h
 refine ⟨a,n,c,(List.range n).map (fun i=>⟨cellInt' (f i 0),cellInt' (f i 1),cellInt' (f i 2),cellInt' (f i 3),cellInt' (f i 4),cellInt' (f i 5),cellInt' (f i 6)⟩),rfl,by simp,hnc,?_⟩
 unfold Notes
 rw [List.length_map,List.length_range];refine hE.congr fun i j hi hj=>?_
 obtain ⟨fu,x,hx⟩:=hf i hi;have hr:(List.range 7).map (f i)=[f i 0,f i 1,f i 2,f i 3,f i 4,f i 5,f i 6]:=rfl;rw [hr] at hx;obtain ⟨q,e0,e1,e2,e3,e4,e5,e6⟩:=seven_note hx
 have e:ntAt ((List.range n).map (fun i=>(⟨cellInt' (f i 0),cellInt' (f i 1),cellInt' (f i 2),cellInt' (f i 3),cellInt' (f i 4),cellInt' (f i 5),cellInt' (f i 6)⟩:Nt))) i=q:=by
  unfold ntAt
  rw [List.getElem?_map,List.getElem?_range hi];simp only [Option.map_some,Option.getD_some,e0,e1,e2,e3,e4,e5,e6]
  rfl
 rw [e]
 match j,hj with
 | 0,_=>exact e0
 | 1,_=>exact e1
 | 2,_=>exact e2
 | 3,_=>exact e3
 | 4,_=>exact e4
 | 5,_=>exact e5
 | 6,_=>exact e6
end Go.Proofs.YtecjnkokdnmhlaaGreat
namespace Go.Proofs.YtecjnkokdnmhlaaGreat
open Go.RowKit
structure Au where
 try_:Int
 ph:Int
 told:List Bool
 use:List Int
 inc:List Int
 moved:Bool
deriving DecidableEq
abbrev auV (x:Au) (tv uv iv:Value):Value:=.agg #[.int .i64 x.try_,.int .i64 x.ph,tv,uv,iv,.bool x.moved]
abbrev auCells (x:Au) (tv uv iv:Value):Array Value:=#[.int .i64 x.try_,.int .i64 x.ph,tv,uv,iv,.bool x.moved]
def Bools (w:World) (v:Value) (l:List Bool):Prop:=Elems w v 1 l.length (fun i _=>.bool (l[i]?.getD false))
theorem Bools.later {w w':World} {v:Value} {l:List Bool} (h:Bools w v l) (hb:Below w.heap.size w w'):Bools w' v l:=Elems.later h hb
theorem Bools.at {w:World} {a:Option Addr} {m c:Nat} {l:List Bool} (h:Bools w (.slice a m c) l) {i:Nat} (hi:i < l.length) :
 ∃ b off,a=some ⟨b,off,none⟩∧w.cell? ⟨b,off + i,none⟩=some (.bool (l[i]?.getD false)):=by
 obtain ⟨b,off,e,hc⟩:=Elems.at h hi;have:=hc 0 (by omega)
 rw [Nat.mul_one,Nat.add_zero] at this
 exact ⟨b,off,e,this⟩
structure Al where
 a1:Option Addr
 m1:Nat
 c1:Nat
 a2:Option Addr
 m2:Nat
 c2:Nat
 a3:Option Addr
 m3:Nat
 c3:Nat
abbrev auAt (x:Au) (p:Al):Value:=auV x (.slice p.a1 p.m1 p.c1) (.slice p.a2 p.m2 p.c2) (.slice p.a3 p.m3 p.c3)
def AuIn (w:World) (p:Al) (x:Au):Prop :=
 (p.m1=x.told.length∧Bools w (.slice p.a1 p.m1 p.c1) x.told)∧(p.m2=x.use.length∧Nums w (.slice p.a2 p.m2 p.c2) x.use)∧(p.m3=x.inc.length∧Nums w (.slice p.a3 p.m3 p.c3) x.inc)
theorem AuIn.later {w w':World} {p:Al} {x:Au} (h:AuIn w p x) (hb:Below w.heap.size w w'):AuIn w' p x:=⟨⟨h.1.1,h.1.2.later hb⟩,⟨h.2.1.1,h.2.1.2.later hb⟩,h.2.2.1,h.2.2.2.later hb⟩
abbrev au0:Au:=⟨0,0,[],[],[],false⟩
def noneA (x:Au):Bool:=decide (x=au0)
def runsOk (c:Cf) (who:Int) (x:Au):Prop :=
 (0 < x.try_∧x.try_≤1125899906842624)∧(x.ph=1∨x.ph=2)∧(x.told.length:Int)=c.n∧(x.use.length:Int)=c.n∧(x.inc.length:Int)=c.n∧x.told[who.toNat]?.getD false=false ∧
 ∀ i,i < x.told.length→(0≤x.use[i]?.getD 0∧x.use[i]?.getD 0≤1099511627776)∧(0≤x.inc[i]?.getD 0∧x.inc[i]?.getD 0≤1099511627776)
instance (c:Cf) (who:Int) (x:Au):Decidable (runsOk c who x):=by unfold runsOk; exact inferInstance
def auOk (c:Cf) (who:Int) (x:Au):Prop:=cfOk c∧(0≤who∧who < c.n)∧(x=au0∨runsOk c who x)
instance (c:Cf) (who:Int) (x:Au):Decidable (auOk c who x):=by unfold auOk; exact inferInstance
def auB (c:Cf) (who:Int) (x:Au):Bool:=decide (auOk c who x)
theorem auB_no {c:Cf} {who:Int} {x:Au} (h:¬ auOk c who x):auB c who x=false:=decide_eq_false h
def beginA (c:Cf) (who tr:Int):Au × Int :=
 if cfOk c∧(0≤who∧who < c.n)∧(1≤tr∧tr≤1125899906842624) then (⟨tr,1,List.replicate c.n.toNat false,List.replicate c.n.toNat 0,List.replicate c.n.toNat 0,false⟩,0) else (au0,1)
def allA (who:Int) (x:Au):Prop:=0 < x.told.length∧∀ i,i < x.told.length→x.told[i]?.getD false=true∨(i:Int)=who
instance (who:Int) (x:Au):Decidable (allA who x):=by unfold allA; exact inferInstance
def nextA (c:Cf) (who:Int) (x:Au) (l:List Rw):Au × Bool :=
 if auOk c who x∧rightOk c l then (if x.ph=1∧allA who x then (⟨x.try_,2,List.replicate x.told.length false,x.use.set who.toNat (at_ l who.toNat).use,x.inc,x.moved⟩,true) else (x,false)) else (au0,false)
def otherA (who:Int) (x:Au):Nat→Int
 | 0=>0
 | k + 1=>otherA who x k + if (k:Int)=who then 0 else x.inc[k]?.getD 0 - x.use[k]?.getD 0
def endsA (c:Cf) (who:Int) (x:Au) (l:List Rw):Int × Bool × Bool :=
 if auOk c who x∧rightOk c l∧x.ph=2∧allA who x then
  (if x.moved=true∨(at_ l who.toNat).use ≠ x.use[who.toNat]?.getD 0 then (0,false,true) else (c.k + (at_ l who.toNat).inc - x.use[who.toNat]?.getD 0 + otherA who x x.told.length,true,true))
 else (0,false,false)
def EndsA (w:World) (x:Int × Bool × Bool) (e:Ending) (w':World):Prop:=e=.returned (.tuple #[.int .i64 x.1,.bool x.2.1,.bool x.2.2])∧Below w.heap.size w w'
end Go.Proofs.YtecjnkokdnmhlaaGreat
namespace Go.Proofs.YtecjnkokdnmhlaaGreat
open Go.RowKit
structure Bk where
 clk:Int
 rows:List Rw
 line:List Rq
 outs:List Rq
 asks:Int
 notes:List Nt
 au:Au
structure Bl where
 a1:Option Addr
 m1:Nat
 c1:Nat
 a2:Option Addr
 m2:Nat
 c2:Nat
 a3:Option Addr
 m3:Nat
 c3:Nat
 a4:Option Addr
 m4:Nat
 c4:Nat
 al:Al
abbrev bkCells (x:Bk) (rv lv ov nv tv uv iv:Value):Array Value:=#[.int .i64 x.clk,rv,lv,ov,.int .i64 x.asks,nv,.int .i64 x.au.try_,.int .i64 x.au.ph,tv,uv,iv,.bool x.au.moved]
abbrev bkAtC (x:Bk) (p:Bl):Array Value:=bkCells x (.slice p.a1 p.m1 p.c1) (.slice p.a2 p.m2 p.c2) (.slice p.a3 p.m3 p.c3) (.slice p.a4 p.m4 p.c4) (.slice p.al.a1 p.al.m1 p.al.c1) (.slice p.al.a2 p.al.m2 p.al.c2) (.slice p.al.a3 p.al.m3 p.al.c3)
abbrev bkAt (x:Bk) (p:Bl):Value:=.agg (bkAtC x p)
abbrev bk0:Bk:=⟨0,[],[],[],0,[],au0⟩
def BkIn (w:World) (p:Bl) (x:Bk):Prop :=
 (p.m1=x.rows.length∧Books w (.slice p.a1 p.m1 p.c1) x.rows)∧(p.m2=x.line.length∧Line w (.slice p.a2 p.m2 p.c2) x.line)∧(p.m3=x.outs.length∧Line w (.slice p.a3 p.m3 p.c3) x.outs) ∧
 (p.m4=x.notes.length∧Notes w (.slice p.a4 p.m4 p.c4) x.notes)∧AuIn w p.al x.au
theorem BkIn.later {w w':World} {p:Bl} {x:Bk} (h:BkIn w p x) (hb:Below w.heap.size w w'):BkIn w' p x :=
 ⟨⟨h.1.1,h.1.2.later hb⟩,⟨h.2.1.1,h.2.1.2.later hb⟩,⟨h.2.2.1.1,h.2.2.1.2.later hb⟩,⟨h.2.2.2.1.1,h.2.2.2.1.2.later hb⟩,h.2.2.2.2.later hb⟩
def outB (c:Cf) (who clk:Int) (o:Rq):Bool:=mayB o.t o.a c.n && (decide (o.a=who∧o.t≤clk) && decide (o.m=0∨o.m=7))
def bookOk (c:Cf) (who:Int) (x:Bk):Prop :=
 rightOk c x.rows∧(0≤who∧who < c.n)∧(0≤x.clk∧x.clk≤1125899906842624)∧lineOk c who x.line∧((x.outs.length:Int)≤c.q + 1∧0≤x.asks∧x.asks≤c.r) ∧
 (∀ i,i < x.line.length→(rqAt x.line i).t≤x.clk)∧(∀ i,i < x.outs.length→outB c who x.clk (rqAt x.outs i)=true) ∧
 (x.line=[]→x.asks=0∧x.au=au0)∧notesOk c who x.notes∧auOk c who x.au
instance (c:Cf) (who:Int) (x:Bk):Decidable (bookOk c who x):=by unfold bookOk; exact inferInstance
def bookB (c:Cf) (who:Int) (x:Bk):Bool:=decide (bookOk c who x)
def newK (c:Cf) (who:Int):Bk × Int:=if cfOk c∧0≤who∧who < c.n then (⟨0,newL c,[],[],0,List.replicate c.n.toNat nt0,au0⟩,0) else (bk0,1)
end Go.Proofs.YtecjnkokdnmhlaaGreat
namespace Go.Proofs.YtecjnkokdnmhlaaGreat
open Go.ChangeShapes Go.WideShapes Go.ChangeAt Go.RowKit Go.Joins Go.Deep
theorem cells_bool1:Tryz.prog.cellsOf 4=1:=by kernel_rfl
theorem cells_request3:Tryz.prog.cellsOf 59=3:=by kernel_rfl
theorem cells_outcome:Tryz.prog.cellsOf 85=3:=by kernel_rfl
section
variable {H:Type} {enc:TypeId × Value→H} {W:World} {fuel:Nat} {x:DataW H × List MemPlace}
theorem one_bool {v:Value} (h:DataW.trod enc Tryz.prog W 0 (fun _=>true) true fuel 4 [v]=some x):∃ t,v=.bool t:=by
 obtain ⟨t,e,_⟩:=DataW.trod_bool Tryz.underlying4 h;simp only [List.cons.injEq,and_true] at e
 exact ⟨t,e⟩
theorem one_code {v:Value} (h:DataW.trod enc Tryz.prog W 0 (fun _=>true) true fuel 42 [v]=some x):∃ t,v=.int .i64 t:=by
 obtain ⟨t,e,_⟩:=DataW.trod_int Tryz.underlying42 h;simp only [List.cons.injEq,and_true] at e
 exact ⟨t,e⟩
theorem three_rq {a b c:Value} (h:DataW.trod enc Tryz.prog W 0 (fun _=>true) true fuel 59 [a,b,c]=some x):∃ q:Rq,a=.int .i64 q.t∧b=.int .i64 q.a∧c=.int .i64 q.m:=by
 obtain ⟨t,u,v,e0,e1,e2⟩:=three_request (a:=a) (b:=b) (c:=c) h
 exact ⟨⟨t,u,v⟩,e0,e1,e2⟩
set_option maxRecDepth 100000 in
theorem three_outcome {a b c:Value} (h:DataW.trod enc Tryz.prog W 0 (fun _=>true) true fuel 85 [a,b,c]=some x):∃ q:Rq,a=.int .i64 q.t∧b=.int .i64 q.a∧c=.int .i64 q.m:=by
 obtain ⟨y0,y1,n,_,_,h0,h1⟩:=trod_struct2 Tryz.underlying85 h;obtain ⟨t,u,e0,e1⟩:=two_stamp (a:=a) (b:=b) h0;obtain ⟨v,e2⟩:=one_code (v:=c) h1
 exact ⟨⟨t,u,v⟩,e0,e1,e2⟩
end
def cellBool:Value→Bool
 | .bool x=>x
 | _=>false
theorem open_bools_in {H:Type} {enc:TypeId × Value→H} {W:World} {v:Value} {d:DataW H} {p:List MemPlace} (hv:∃ a len cap,v=.slice a len cap)
 (h:DataW.Trod enc Tryz.prog W 0 (fun _=>true) true 30 v d p):∃ a n c l,v=.slice a n c∧n=l.length∧Bools W (.slice a n c) l:=by
 obtain ⟨a,n,c,f,rfl,hnc,_,hE,hf⟩:=open_elems_in Tryz.underlying30 cells_bool1 (by decide) hv h
 refine ⟨a,n,c,(List.range n).map (fun i=>cellBool (f i 0)),rfl,by simp,?_⟩
 unfold Bools
 rw [List.length_map,List.length_range];refine hE.congr fun i j hi hj=>?_
 obtain ⟨fu,x,hx⟩:=hf i hi;have hr:(List.range 1).map (f i)=[f i 0]:=rfl;rw [hr] at hx;obtain ⟨t,e0⟩:=one_bool hx;rw [List.getElem?_map,List.getElem?_range hi];simp only [Option.map_some,Option.getD_some]
 match j,hj with
 | 0,_=>rw [e0]; rfl
theorem open_line_in {H:Type} {enc:TypeId × Value→H} {W:World} {v:Value} {d:DataW H} {p:List MemPlace} (hv:∃ a len cap,v=.slice a len cap)
 (h:DataW.Trod enc Tryz.prog W 0 (fun _=>true) true 25 v d p):∃ a n c l,v=.slice a n c∧n=l.length∧Line W (.slice a n c) l:=by
 obtain ⟨a,n,c,f,rfl,hnc,_,hE,hf⟩:=open_elems_in Tryz.underlying25 cells_request3 (by decide) hv h
 refine ⟨a,n,c,(List.range n).map (fun i=>⟨cellInt (f i 0),cellInt (f i 1),cellInt (f i 2)⟩),rfl,by simp,?_⟩
 unfold Line
 rw [List.length_map,List.length_range];refine hE.congr fun i j hi hj=>?_
 obtain ⟨fu,x,hx⟩:=hf i hi;have hr:(List.range 3).map (f i)=[f i 0,f i 1,f i 2]:=rfl;rw [hr] at hx;obtain ⟨q,e0,e1,e2⟩:=three_rq hx
 have e:rqAt ((List.range n).map (fun i=>(⟨cellInt (f i 0),cellInt (f i 1),cellInt (f i 2)⟩:Rq))) i=q:=by
  unfold rqAt
  rw [List.getElem?_map,List.getElem?_range hi];simp only [Option.map_some,Option.getD_some,e0,e1,e2]
  rfl
 rw [e]
 match j,hj with
 | 0,_=>exact e0
 | 1,_=>exact e1
 | 2,_=>exact e2
theorem open_outs_in {H:Type} {enc:TypeId × Value→H} {W:World} {v:Value} {d:DataW H} {p:List MemPlace} (hv:∃ a len cap,v=.slice a len cap)
 (h:DataW.Trod enc Tryz.prog W 0 (fun _=>true) true 26 v d p):∃ a n c l,v=.slice a n c∧n=l.length∧Line W (.slice a n c) l:=by
 obtain ⟨a,n,c,f,rfl,hnc,_,hE,hf⟩:=open_elems_in Tryz.underlying26 cells_outcome (by decide) hv h
 refine ⟨a,n,c,(List.range n).map (fun i=>⟨cellInt (f i 0),cellInt (f i 1),cellInt (f i 2)⟩),rfl,by simp,?_⟩
 unfold Line
 rw [List.length_map,List.length_range];refine hE.congr fun i j hi hj=>?_
 obtain ⟨fu,x,hx⟩:=hf i hi;have hr:(List.range 3).map (f i)=[f i 0,f i 1,f i 2]:=rfl;rw [hr] at hx;obtain ⟨q,e0,e1,e2⟩:=three_outcome hx
 have e:rqAt ((List.range n).map (fun i=>(⟨cellInt (f i 0),cellInt (f i 1),cellInt (f i 2)⟩:Rq))) i=q:=by
  unfold rqAt
  rw [List.getElem?_map,List.getElem?_range hi];simp only [Option.map_some,Option.getD_some,e0,e1,e2]
  rfl
 rw [e]
 match j,hj with
 | 0,_=>exact e0
 | 1,_=>exact e1
 | 2,_=>exact e2
set_option maxRecDepth 100000 in
theorem six_audit {H:Type} {enc:TypeId × Value→H} {W:World} {fuel:Nat} {y:DataW H × List MemPlace} {v0 v1 v2 v3 v4 v5:Value}
 (hf:DataW.trod enc Tryz.prog W 0 (fun _=>true) true fuel 33 [v0,v1,v2,v3,v4,v5]=some y) :
 ∃ (x:Au) (p:Al),v0=.int .i64 x.try_∧v1=.int .i64 x.ph∧v2=.slice p.a1 p.m1 p.c1∧v3=.slice p.a2 p.m2 p.c2∧v4=.slice p.a3 p.m3 p.c3∧v5=.bool x.moved∧AuIn W p x:=by
 obtain ⟨xs,m,_,hxe,_,hlen,hat⟩:=DataW.trod_struct Tryz.underlying33 hf;have hl5:xs.length=5:=hlen;have E:∀ j,(hj:j < 5)→xs[j]?=some (xs[j]'(by omega)):=fun j hj=>List.getElem?_eq_getElem (by omega)
 have h0:=hat 0 _ rfl;have h1:=hat 1 _ rfl;have h2:=hat 2 _ rfl;have h3:=hat 3 _ rfl;have h4:=hat 4 _ rfl;rw [E 0 (by decide)] at h0
 rw [E 1 (by decide)] at h1
 rw [E 2 (by decide)] at h2
 rw [E 3 (by decide)] at h3
 rw [E 4 (by decide)] at h4
 obtain ⟨tr,ph,e0,e1⟩:=two_look (a:=v0) (b:=v1) h0;obtain ⟨b1,n1,k1,rfl⟩:=slice_of_trod (v:=v2) Tryz.underlying30 h1;obtain ⟨a1,m1,c1,told,e2,hm1,hB1⟩:=open_bools_in ⟨b1,n1,k1,rfl⟩ ⟨_,h1⟩;obtain ⟨a2,m2,c2,use,e3,hm2,hB2⟩:=open_nums (v:=v3) h2;obtain ⟨a3,m3,c3,inc,e4,hm3,hB3⟩:=open_nums (v:=v4) h3;obtain ⟨mv,e5⟩:=one_bool (v:=v5) h4
 exact ⟨⟨tr,ph,told,use,inc,mv⟩,⟨a1,m1,c1,a2,m2,c2,a3,m3,c3⟩,e0,e1,e2,e3,e4,e5,⟨hm1,hB1⟩,⟨hm2,hB2⟩,hm3,hB3⟩
set_option maxRecDepth 100000 in
theorem twelve_book {H:Type} {enc:TypeId × Value→H} {W:World} {fuel:Nat} {y:DataW H × List MemPlace} {v0 v1 v2 v3 v4 v5 v6 v7 v8 v9 v10 v11:Value}
 (hf:DataW.trod enc Tryz.prog W 0 (fun _=>true) true fuel 35 [v0,v1,v2,v3,v4,v5,v6,v7,v8,v9,v10,v11]=some y) (hw:Held 35 y.1) :
 ∃ (x:Bk) (pl:Bl),(.agg #[v0,v1,v2,v3,v4,v5,v6,v7,v8,v9,v10,v11]:Value)=bkAt x pl∧BkIn W pl x∧Reach x.rows:=by
 obtain ⟨xs,m,_,hxe,_,hlen,hat⟩:=DataW.trod_struct Tryz.underlying35 hf;have hl7:xs.length=7:=hlen;have E:∀ j,(hj:j < 7)→xs[j]?=some (xs[j]'(by omega)):=fun j hj=>List.getElem?_eq_getElem (by omega)
 have h0:=hat 0 _ rfl;have h1:=hat 1 _ rfl;have h2:=hat 2 _ rfl;have h3:=hat 3 _ rfl;have h4:=hat 4 _ rfl;have h5:=hat 5 _ rfl;have h6:=hat 6 _ rfl;rw [E 0 (by decide)] at h0
 rw [E 1 (by decide)] at h1
 rw [E 2 (by decide)] at h2
 rw [E 3 (by decide)] at h3
 rw [E 4 (by decide)] at h4
 rw [E 5 (by decide)] at h5
 rw [E 6 (by decide)] at h6
 obtain ⟨clk,rfl⟩:=one_int64 (v:=v0) h0;obtain ⟨b1,n1,k1,rfl⟩:=slice_of_trod (v:=v1) Tryz.underlying24 h1;obtain ⟨b2,n2,k2,rfl⟩:=slice_of_trod (v:=v2) Tryz.underlying25 h2;obtain ⟨b3,n3,k3,rfl⟩:=slice_of_trod (v:=v3) Tryz.underlying26 h3;obtain ⟨asks,rfl⟩:=one_int (v:=v4) h4;obtain ⟨b4,n4,k4,rfl⟩:=slice_of_trod (v:=v5) Tryz.underlying27 h5;obtain ⟨au,al,rfl,rfl,rfl,rfl,rfl,rfl,hA⟩:=six_audit (v0:=v6) (v1:=v7) (v2:=v8) (v3:=v9) (v4:=v10) (v5:=v11) h6
 have hy:y.1=_:=congrArg Prod.fst hxe
 obtain ⟨a1,m1,c1,rows,e1,hm1,hB1,hR⟩:=open_books_in ⟨b1,n1,k1,rfl⟩ ⟨_,h1⟩ fun q hq=>hw q (by
  rw [hy];simp only [DataW.weights,Tryz.underlying35]
  exact DataW.weights_mem_each (j:=1) rfl (by rw [List.getElem?_map,E 1 (by decide)]; rfl) q hq)
 obtain ⟨a2,m2,c2,line,e2,hm2,hB2⟩:=open_line_in ⟨b2,n2,k2,rfl⟩ ⟨_,h2⟩;obtain ⟨a3,m3,c3,outs,e3,hm3,hB3⟩:=open_outs_in ⟨b3,n3,k3,rfl⟩ ⟨_,h3⟩;obtain ⟨a4,m4,c4,notes,e4,hm4,hcc,hB4⟩:=open_notes_in ⟨b4,n4,k4,rfl⟩ ⟨_,h5⟩;rw [e1,e2,e3,e4]
 exact ⟨⟨clk,rows,line,outs,asks,notes,au⟩,⟨a1,m1,c1,a2,m2,c2,a3,m3,c3,a4,m4,c4,al⟩,rfl,⟨⟨hm1,hB1⟩,⟨hm2,hB2⟩,⟨hm3,hB3⟩,⟨hm4,hB4⟩,hA⟩,hR⟩
end Go.Proofs.YtecjnkokdnmhlaaGreat
