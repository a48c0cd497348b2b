/- Parts, as far as NodeAtOnceCards reaches them, of: ShareSmall, ShareLeast, ShareStand, WaitStand. No law is proved here. -/
import Derived.Test.YtecjnkokdnmhlaaGreatTa21
namespace Go.Proofs.YtecjnkokdnmhlaaGreat
open Go.RowKit
abbrev shV (c:Cf) (v:Value):Value:=.agg #[.int .i64 c.n,.int .i64 c.q,.int .i64 c.r,.int .i64 c.p,.int .i64 c.k,.int .i64 c.c,v]
abbrev shCells (c:Cf) (v:Value):Array Value:=#[.int .i64 c.n,.int .i64 c.q,.int .i64 c.r,.int .i64 c.p,.int .i64 c.k,.int .i64 c.c,v]
theorem sh_cells {wr:World} {g:Nat} {c:Cf} {v:Value} (h:Whole wr g 205 (shCells c v)) :
 wr.cell? ⟨g,0,none⟩=some (.int .i64 c.n)∧wr.cell? ⟨g,1,none⟩=some (.int .i64 c.q)∧wr.cell? ⟨g,2,none⟩=some (.int .i64 c.r)∧wr.cell? ⟨g,3,none⟩=some (.int .i64 c.p) ∧
 wr.cell? ⟨g,4,none⟩=some (.int .i64 c.k)∧wr.cell? ⟨g,5,none⟩=some (.int .i64 c.c)∧wr.cell? ⟨g,6,none⟩=some v:=⟨h.cell 0,h.cell 1,h.cell 2,h.cell 3,h.cell 4,h.cell 5,h.cell 6⟩
set_option maxRecDepth 100000 in
set_option maxHeartbeats 4000000 in
theorem sRight_calls (c:Cf) (a:Option Addr) (m cp:Nat) (l:List Rw) (hm:m=l.length) (w:World) (hB:Books w (.slice a m cp) l) :
 Calls Tryz.prog 167 #[shV c (.slice a m cp)] w (Says w (rightB c l)):=by
 have HW:=qH (Whole.made w 205 (shCells c (.slice a m cp)));have Hb0:=qH (below_box w (.cells (shCells c (.slice a m cp)) 205));have hcall:=fun w hw=>rRight_calls c a m cp l hm w hw
 obtain ⟨n,q,r,p,kk,cc⟩:=c;obtain ⟨ok,Hok⟩:∃ z,Hid (rightB ⟨n,q,r,p,kk,cc⟩ l=z):=⟨_,rfl⟩;rw [Hok.out] at hcall ⊢;have Hcall:=qH hcall;have HB:=qH hB;clear hcall hB hm;obtain ⟨d0,d1,d2,d3,d4,d5,d6⟩:=sh_cells HW.out;simp only at d0 d1 d2 d3 d4 d5 d6
 go_enter Tryz.func167,Tryz.ntmps167
 go_wp2_with fail
 refine (Hcall.out _ (HB.out.later Hb0.out)).mono ?_;rintro e w1 ⟨rfl,hb⟩;have Hb1:=qH (held_next Hb0.out hb);clear hb
 go_wp2_with fail
 go_ret
 exact ⟨by rfl,Hb1.out⟩
set_option maxRecDepth 100000 in
set_option maxHeartbeats 4000000 in
theorem sRights_calls (c:Cf) (a:Option Addr) (m cp:Nat) (l:List Rw) (who:Int) (hm:m=l.length) (w:World) (hB:Books w (.slice a m cp) l) :
 Calls Tryz.prog 169 #[shV c (.slice a m cp),.int .i64 who] w (Num w (ofV c l who)):=by
 have HW:=qH (Whole.made w 205 (shCells c (.slice a m cp)));have Hb0:=qH (below_box w (.cells (shCells c (.slice a m cp)) 205));have hcall:=fun w hw=>rOf_calls c a m cp l who hm w hw
 obtain ⟨n,q,r,p,kk,cc⟩:=c;obtain ⟨o,Ho⟩:∃ z,Hid (ofV ⟨n,q,r,p,kk,cc⟩ l who=z):=⟨_,rfl⟩;rw [Ho.out] at hcall ⊢;have Hcall:=qH hcall;have HB:=qH hB;clear hcall hB hm;obtain ⟨d0,d1,d2,d3,d4,d5,d6⟩:=sh_cells HW.out;simp only at d0 d1 d2 d3 d4 d5 d6
 go_enter Tryz.func169,Tryz.ntmps169
 go_wp2_with fail
 refine (Hcall.out _ (HB.out.later Hb0.out)).mono ?_;rintro e w1 ⟨rfl,hb⟩;have Hb1:=qH (held_next Hb0.out hb);clear hb
 go_wp2_with fail
 go_ret
 exact ⟨by rfl,Hb1.out⟩
set_option maxRecDepth 100000 in
set_option maxHeartbeats 4000000 in
theorem sAmong_calls (c:Cf) (v:Value) (who:Int) (w:World) :
 Calls Tryz.prog 168 #[shV c v,.int .i64 who] w (Says w (amongB c who)):=by
 have HW:=qH (Whole.made w 205 (shCells c v));have Hb0:=qH (below_box w (.cells (shCells c v) 205));obtain ⟨n,q,r,p,kk,cc⟩:=c;obtain ⟨ok,Hok⟩:∃ z,Hid (amongB ⟨n,q,r,p,kk,cc⟩ who=z):=⟨_,rfl⟩;rw [Hok.out];obtain ⟨d0,d1,d2,d3,d4,d5,d6⟩:=sh_cells HW.out;simp only at d0 d1 d2 d3 d4 d5 d6
 go_enter Tryz.func168,Tryz.ntmps168
 by_cases h0:0≤who
 · by_cases h1:who < n
   · obtain rfl:ok=true:=Hok.out.symm.trans (amongB_yes ⟨h0,h1⟩)
     go_wp2_with fail
     go_ret
     exact ⟨by rfl,Hb0.out⟩
   · obtain rfl:ok=false:=Hok.out.symm.trans (amongB_no fun h=>h1 h.2)
     go_wp2_with fail
     go_ret
     exact ⟨by rfl,Hb0.out⟩
 · obtain rfl:ok=false:=Hok.out.symm.trans (amongB_no fun h=>h0 h.1)
   go_wp2_with fail
   go_ret
   exact ⟨by rfl,Hb0.out⟩
set_option maxRecDepth 100000 in
set_option maxHeartbeats 4000000 in
theorem sSpare_calls (c:Cf) (a:Option Addr) (m cp:Nat) (l:List Rw) (who keep:Int) (hm:m=l.length) (hkeep:keep≤9223372036854775807) (w:World) (hB:Books w (.slice a m cp) l) :
 Calls Tryz.prog 170 #[shV c (.slice a m cp),.int .i64 who,.int .i64 keep] w (Num w (spareV c l who keep)):=by
 have HW:=qH (Whole.made w 205 (shCells c (.slice a m cp)));have Hb0:=qH (below_box w (.cells (shCells c (.slice a m cp)) 205));have hbd:=ofV_bound c l who;have hsp:spareV c l who keep=if 0 < keep then (if ofV c l who≤keep then 0 else ofV c l who - keep) else ofV c l who:=rfl
 have hcall:=fun w hw=>sRights_calls c a m cp l who hm w hw
 obtain ⟨n,q,r,p,kk,cc⟩:=c;obtain ⟨S,HS⟩:∃ z,Hid (spareV ⟨n,q,r,p,kk,cc⟩ l who keep=z):=⟨_,rfl⟩;obtain ⟨o,Ho⟩:∃ z,Hid (ofV ⟨n,q,r,p,kk,cc⟩ l who=z):=⟨_,rfl⟩;rw [HS.out] at hsp ⊢;rw [Ho.out] at hsp hbd hcall;obtain ⟨hbd0,hbd1⟩:=hbd
 have HSp:Hid (S=max (o - max keep 0) 0):=by
  show S=_
  rw [hsp]
  split
  · split <;> omega
  · omega
 have Hcall:=qH hcall;have HB:=qH hB;clear hsp hcall hB hm;obtain ⟨k2,Hk2⟩:∃ z,Hid (max keep 0=z):=⟨_,rfl⟩;have hk2:0≤k2:=by rw [← Hk2.out]; omega
 have Hmax:Hid (∀ w:World,(Builtin.max_ #[2,2] 2 #[.int .i64 keep,.int .i64 0]).run Tryz.prog w=.ok (.int .i64 k2) w):=fun w=>by rw [Lib.run_max_ints,Hk2.out]
 obtain ⟨d0,d1,d2,d3,d4,d5,d6⟩:=sh_cells HW.out;simp only at d0 d1 d2 d3 d4 d5 d6
 go_enter Tryz.func170,Tryz.ntmps170
 go_wp2_with fail
 refine (Hcall.out _ (HB.out.later Hb0.out)).mono ?_;rintro e w1 ⟨rfl,hb⟩;have Hb1:=qH (held_next Hb0.out hb);clear hb;have hmx:=Hmax.out;have hkm:keep≤k2:=by rw [← Hk2.out]; omega
 by_cases hkk:keep≤0
 · obtain rfl:k2=0:=by rw [← Hk2.out]; omega
   have hS:S=o:=by rw [HSp.out,Hk2.out]; omega
   subst hS;clear hkm hk2
   go_wp2_with fail
   go_ret
   exact ⟨by rw [show max S 0=S by omega]; rfl,Hb1.out⟩
 · obtain rfl:k2=keep:=by rw [← Hk2.out]; omega
   by_cases hko:o≤k2
   · obtain rfl:S=0:=by rw [HSp.out,Hk2.out]; omega
     go_wp2_with fail
     go_ret
     exact ⟨by rw [show max (o - k2) 0=0 by omega]; rfl,Hb1.out⟩
   · obtain rfl:S=o - k2:=by rw [HSp.out,Hk2.out]; omega
     go_wp2_with fail
     go_ret
     exact ⟨by rw [show max (o - k2) 0=o - k2 by omega]; rfl,Hb1.out⟩
end Go.Proofs.YtecjnkokdnmhlaaGreat
namespace Go.Proofs.YtecjnkokdnmhlaaGreat
open Go.RowKit
def othersN (who:Int):Nat→List Int
 | 0=>[]
 | k + 1=>if (k:Int)=who then othersN who k else othersN who k ++ [(k:Int)]
theorem others_length (who:Int):∀ k,(othersN who k).length≤k
 | 0=>Nat.le_refl _
 | k + 1 => by
   have:=others_length who k
   unfold othersN
   split
   · omega
   · rw [List.length_append,List.length_singleton]; omega
def leastS (g:Int→Int) (s:Int × Bool) (x:Int):Int × Bool:=if s.2=false∨g x < g s.1 then (x,true) else s
def leastF (g:Int→Int) (l:List Int):Int × Bool:=l.foldl (leastS g) (0,false)
theorem leastF_push (g:Int→Int) (l:List Int) (x:Int):leastF g (l ++ [x])=leastS g (leastF g l) x:=by
 unfold leastF
 rw [List.foldl_append]
 rfl
theorem least_others (g:Int→Int) (who:Int):∀ k,leastF g (othersN who k)=if poorU g who k < 0 then (0,false) else (poorU g who k,true)
 | 0=>rfl
 | k + 1 => by
   have ih:=least_others g who k
   unfold othersN poorU
   by_cases h:(k:Int)=who
   · rw [if_pos h,if_pos h]; exact ih
   · rw [if_neg h,if_neg h,leastF_push,ih]
     by_cases h2:poorU g who k < 0
     · rw [if_pos h2,if_pos h2,if_neg (by omega)]
       rfl
     · rw [if_neg h2,if_neg h2]
       unfold leastS
       by_cases h3:g (k:Int) < g (poorU g who k)
       · rw [if_pos (Or.inr h3),if_pos h3,if_neg (by omega)]
       · rw [if_neg (by simp [h3]),if_neg h3,if_neg h2]
theorem poorU_of_least {g:Int→Int} {who t:Int} {b:Bool} {N:Nat} {os:List Int} (ho:othersN who N=os) (h:leastF g os=(t,b)):if b then poorU g who N=t∧0≤t else poorU g who N < 0:=by
 subst ho;rw [least_others] at h
 by_cases hp:poorU g who N < 0
 · rw [if_pos hp] at h
   cases h
   exact hp
 · rw [if_neg hp] at h
   cases h
   exact ⟨rfl,by omega⟩
theorem info_plain:(Tryz.prog.info? 3).map (fun i=>(i.zero,i.size,i.bytes))=some (some (.int .i64 0),1,8):=by kernel_rfl
theorem ints_both (l k:List Int):(fun i (_:Nat)=>if i < l.length then Value.int .i64 (l[i]?.getD 0) else Value.int .i64 (k[i - l.length]?.getD 0))=fun i _=>Value.int .i64 ((l ++ k)[i]?.getD 0):=by
 funext i _
 by_cases h:i < l.length
 · rw [if_pos h,List.getElem?_append_left h]
 · rw [if_neg h,List.getElem?_append_right (by omega)]
abbrev OwnI (w:World) (base:Nat) (v:Value) (l:List Int):Prop:=w.ownsRow base 3 1 v l.length (flatCells 1 l.length fun i _=>.int .i64 (l[i]?.getD 0))
theorem OwnI.nums {w:World} {base:Nat} {v:Value} {l:List Int} (h:OwnI w base v l) (hb:l.length≤9223372036854775807):∃ A C,v=.slice A l.length C∧Nums w (.slice A l.length C) l:=by
 obtain ⟨A,C,hv,_,he⟩:=elems_of_own h hb
 exact ⟨A,C,hv,he⟩
theorem one_int13 {w:World} {g:Nat} {x:Int} (h:Whole w g 3 #[.int .i64 x]):Nums w (.slice (some ⟨g,0,none⟩) 1 1) [x]:=by
 refine ⟨show 1≤9223372036854775807 by decide,Or.inr ⟨g,0,1,rfl,Nat.le_refl _,fun i j hi hj=>?_⟩⟩
 have hi:i < 1:=hi;obtain rfl:i=0:=by omega
 obtain rfl:j=0:=by omega
 exact h.cell 0
theorem run_append_ints {w:World} {base:Nat} {v:Value} {l k:List Int} {A:Option Addr} {m c:Nat} (hown:OwnI w base v l) (hE:Nums w (.slice A m c) k) (hm:m=k.length) (h:l.length + k.length≤1000000) (hbase:base≤w.heap.size) :
 ∃ v' w',(Builtin.append_ #[210,210] 210 #[v,.slice A m c]).run Tryz.prog w=.ok v' w'∧OwnI w' base v' (l ++ k)∧Below base w w'∧Grew w w' v v':=by
 subst hm;obtain ⟨i5,hi,hz0,hz1,hz2⟩:=info_parts info_plain
 obtain ⟨v',w',h1,h2,h3,h4⟩:=run_append_elems (P:=Tryz.prog) (w:=w) 210 210 base 3 i5 _ 1 8 Tryz.underlying210 hi hz0 hz1 hz2 rfl (by decide)
  v l.length _ hown A k.length c _ hE (fun i j _ _=>rfl) (by unfold maxLen; omega) (by omega) hbase
 refine ⟨v',w',h1,?_,h3,h4⟩;rw [ints_both] at h2
 show OwnI w' base v' (l ++ k)
 unfold OwnI
 rw [List.length_append]
 exact h2
def MadeI (w:World) (l:List Int) (e:Ending) (w':World):Prop:=∃ A C,e=.returned (.slice A l.length C)∧Nums w' (.slice A l.length C) l∧Below w.heap.size w w'
section
attribute [local go_sem ↓] run_fine
set_option maxRecDepth 100000 in
set_option maxHeartbeats 8000000 in
theorem others_calls (c:Cf) (v:Value) (who:Int) (hn0:0≤c.n) (hn:c.n≤16) (w:World) :
 Calls Tryz.prog 174 #[shV c v,.int .i64 who] w (MadeI w (othersN who c.n.toNat)):=by
 have HW:=qH (Whole.made w 205 (shCells c v));have Hb0:=qH (below_box w (.cells (shCells c v) 205));obtain ⟨n,q,r,p,kk,cc⟩:=c;simp only at hn hn0 ⊢;obtain ⟨N,rfl⟩:∃ N:Nat,n=(N:Int):=⟨n.toNat,by omega⟩
 simp only [Int.toNat_natCast];obtain ⟨d0,d1,d2,d3,d4,d5,d6⟩:=sh_cells HW.out;simp only at d0 d1 d2 d3 d4 d5 d6
 go_enter Tryz.func174,Tryz.ntmps174
 go_wp2_with fail
 clear d0 d1 d2 d3 d4 d5 d6
 go_loopw [5,10] (fun s5 s10 wr=>∃ (k:Nat) (tv:Value),k≤N∧s5=tv∧s10=.int .i64 (k:Int)∧Hid (OwnI wr w.heap.size tv (othersN who k))∧Hid (Below w.heap.size w wr)) (fun _ s10 _=>N - (intOf s10).toNat)
 case atStart=>exact ⟨0,_,Nat.zero_le _,rfl,rfl,World.ownsRow_nil _ _ _ _,Hb0.out⟩
 case round =>
  obtain ⟨k,tv,hk,htv,rfl,HO,Hb⟩:=hrel;have htv':=htv.symm;subst htv';clear htv
  by_cases hlt:k < N
  · have k0:(0:Int)≤(k:Int):=by omega
    have k1:(k:Int) < (N:Int):=by omega
    by_cases hw:(k:Int)=who
    · have s1:((k:Int) != who)=false:=by simp [hw]
      have HO2:Hid (OwnI wr w.heap.size tv (othersN who (k + 1))):=by
       show OwnI _ _ _ _
       unfold othersN
       rw [if_pos hw]; exact HO.out
      have Hw:=qH hw; clear hw
      go_wp2_with fail
      go_roundw
      case rel=>exact ⟨k + 1,_,by omega,rfl,by go_num,HO2,Hb⟩
      case measure=>simp [intOf]; omega
    · have s1:((k:Int) != who)=true:=bne_iff_ne.2 hw
      have hlen:=others_length who k;have hb1:=below_box wr (.cells #[.int .i64 (k:Int)] 3);have hone:=one_int13 (Whole.made wr 3 #[.int .i64 (k:Int)]);obtain ⟨v1,w1,hrun,q1,q2,q3⟩:=run_append_ints (own_later HO.out hb1) hone rfl (by rw [List.length_singleton]; omega) (by have:=Hb.out.size; have:=hb1.size; omega)
      have HO2:Hid (OwnI w1 w.heap.size v1 (othersN who (k + 1))):=by
       show OwnI _ _ _ _
       unfold othersN
       rw [if_neg hw]; exact q1
      have Hbn:Hid (Below w.heap.size w w1):=(Hb.out.trans (hb1.mono Hb.out.size)).trans q2;obtain ⟨hf1,hv1,hw1⟩:=fine_of hrun;have Hw:=qH hw;clear hw hrun q1 q2 q3 hone hb1 hlen
      go_wp2_with fail
      go_roundw
      case rel=>exact ⟨k + 1,_,by omega,rfl,by go_num,HO2,Hbn⟩
      case measure=>simp [intOf]; omega
  · obtain rfl:k=N:=by omega
    obtain ⟨A,C,hv,hN⟩:=HO.out.nums (by have:=others_length who k; omega)
    subst hv;have HN:=qH hN; clear hN
    go_wp2_with fail
    go_ret
    exact ⟨A,C,by rfl,HN.out,Hb.out⟩
end
def TwoB (w:World) (x:Int × Bool) (e:Ending) (w':World):Prop:=e=.returned (.tuple #[.int .i64 x.1,.bool x.2])∧Below w.heap.size w w'
set_option maxRecDepth 100000 in
set_option maxHeartbeats 8000000 in
theorem least_calls (c:Cf) (a:Option Addr) (m cp:Nat) (l:List Rw) (hm:m=l.length) (A:Option Addr) (n C:Nat) (os:List Int) (hn:n=os.length) (w:World) (hB:Books w (.slice a m cp) l) (hN:Nums w (.slice A n C) os) :
 Calls Tryz.prog 173 #[.slice A n C,.func (Fn.func 169) #[shV c (.slice a m cp)] #[]] w (TwoB w (leastF (ofV c l) os)):=by
 have hbig:n≤9223372036854775807:=by rw [hn]; exact hN.1
 have HC:=qH (fun who w hw=>sRights_calls c a m cp l who hm w hw)
 have HB:=qH hB; clear hB hm;have HN:=qH hN; clear hN;have Hn:=qH hn; clear hn;obtain ⟨q0,q1,q2,q3,q4,q5⟩:=c;obtain ⟨g,Hg⟩:∃ z,Hid (ofV ⟨q0,q1,q2,q3,q4,q5⟩ l=z):=⟨_,rfl⟩;rw [Hg.out]
 go_enter Tryz.func173,Tryz.ntmps173
 go_wp2_with fail
 go_loopw [4,5,6,12] (fun s4 s5 s6 s12 wr=>∃ (k:Nat) (t z:Int) (b:Bool),k≤n∧s4=.int .i64 t∧s5=.bool b∧s6=.int .i64 z∧s12=.int .i64 (k:Int)∧Hid (b=true→z=g t)∧Hid (leastF g (os.take k)=(t,b))∧Hid (Below w.heap.size w wr)) (fun _ _ _ s12 _=>n - (intOf s12).toNat)
 case atStart=>exact ⟨0,0,0,false,Nat.zero_le _,rfl,rfl,rfl,rfl,(fun h=>by cases h),rfl,Below.refl _ _⟩
 case round =>
  obtain ⟨k,t,z,b,hk,rfl,rfl,rfl,rfl,HZ,HF,Hb⟩:=hrel
  by_cases hlt:k < n
  · have k0:(0:Int)≤(k:Int):=by omega
    have k1:(k:Int) < (n:Int):=by omega
    have hkl:k < os.length:=by rw [← Hn.out]; exact hlt
    obtain ⟨bb,ob,rfl,hbb,g4⟩:=HN.out.at hkl;obtain ⟨x,Hx⟩:∃ z,Hid (os[k]?.getD 0=z):=⟨_,rfl⟩;rw [Hx.out] at g4;have g5:=cell_later Hb.out g4;clear g4
    have HT:Hid (leastF g (os.take (k + 1))=leastS g (t,b) x):=by
     show _=_
     rw [List.take_succ_eq_append_getElem hkl,leastF_push,HF.out,← Hx.out,List.getElem?_eq_getElem hkl]
     rfl
    clear hkl;obtain ⟨gx,Hgx⟩:∃ z,Hid (g x=z):=⟨_,rfl⟩;have hcall:=HC.out x;rw [show ofV ⟨q0,q1,q2,q3,q4,q5⟩ l x=gx from (congrFun Hg.out x).trans Hgx.out] at hcall
    have HCall:=qH hcall;clear hcall
    go_wp2_with fail
    refine (HCall.out wr (HB.out.later Hb.out)).mono ?_;rintro e w2 ⟨rfl,hb⟩;have Hb2:=qH (held_next Hb.out hb);clear hb
    cases b with
    | false =>
      have HT2:Hid (leastF g (os.take (k + 1))=(x,true)):=HT.out.trans (if_pos (Or.inl rfl))
      go_wp2_with fail
      go_roundw
      case rel=>exact ⟨k + 1,x,gx,true,by omega,rfl,rfl,rfl,by go_num,(fun _=>Hgx.out.symm),HT2,Hb2⟩
      case measure=>simp [intOf]; omega
    | true =>
      obtain rfl:z=g t:=HZ.out rfl;obtain ⟨gt,Hgt⟩:∃ z,Hid (g t=z):=⟨_,rfl⟩;rw [Hgt.out]
      by_cases hlow:gx < gt
      · have HT2:Hid (leastF g (os.take (k + 1))=(x,true)):=HT.out.trans (if_pos (Or.inr (by rw [Hgx.out,show g (t,true).1=gt from Hgt.out]; exact hlow)))
        go_wp2_with fail
        go_roundw
        case rel=>exact ⟨k + 1,x,gx,true,by omega,rfl,rfl,rfl,by go_num,(fun _=>Hgx.out.symm),HT2,Hb2⟩
        case measure=>simp [intOf]; omega
      · have HT2:Hid (leastF g (os.take (k + 1))=(t,true)):=HT.out.trans (if_neg (by rw [Hgx.out,show g (t,true).1=gt from Hgt.out]; simp [hlow]))
        go_wp2_with fail
        go_roundw
        case rel=>exact ⟨k + 1,t,gt,true,by omega,rfl,rfl,rfl,by go_num,(fun _=>Hgt.out.symm),HT2,Hb2⟩
        case measure=>simp [intOf]; omega
  · obtain rfl:k=n:=by omega
    have hF:=HF.out;rw [Hn.out,List.take_length] at hF;have HF2:=qH hF; clear hF
    skip
    cases b <;> (go_wp2_with fail; go_ret2; exact ⟨by rw [HF2.out]; rfl,Hb.out⟩)
end Go.Proofs.YtecjnkokdnmhlaaGreat
namespace Go.Proofs.YtecjnkokdnmhlaaGreat
open Go.RowKit
set_option maxRecDepth 100000 in
set_option maxHeartbeats 8000000 in
theorem sGive_calls (c:Cf) (a:Option Addr) (m cp:Nat) (l:List Rw) (who keep:Int) (hm:m=l.length) (hkeep:keep≤9223372036854775807) (w:World) (hB:Books w (.slice a m cp) l) :
 Calls Tryz.prog 124 #[cfV c,.slice a m cp,.int .i64 who,.int .i64 keep] w (Two w (giveV c l who keep)):=by
 have hmf:∀ (fn:Fn) (first cap:Array Value) (w:World),(Instr.makeFunc fn first cap).run Tryz.prog w=.ok (.func fn first cap) w:=fun _ _ _ _=>rfl
 have HW:=qH (Whole.made (w.alloc (.cells (cfCells c) 23)) 205 (shCells c (.slice a m cp)));have Hb0:=qH (below_two w (.cells (cfCells c) 23) (.cells (shCells c (.slice a m cp)) 205));have HB:=qH hB; clear hB;have Hm:=qH hm; clear hm;have hsz:(w.alloc (.cells (cfCells c) 23)).heap.size=w.heap.size + 1:=by simp
 rw [hsz] at HW;clear hsz;obtain ⟨n,q,r,p,kk,cc⟩:=c;obtain ⟨res,Hres⟩:∃ z,Hid (giveV ⟨n,q,r,p,kk,cc⟩ l who keep=z):=⟨_,rfl⟩;rw [Hres.out];obtain ⟨ok,Hok⟩:∃ z,Hid (rightB ⟨n,q,r,p,kk,cc⟩ l=z):=⟨_,rfl⟩;obtain ⟨d0,d1,d2,d3,d4,d5,d6⟩:=sh_cells HW.out;simp only at d0 d1 d2 d3 d4 d5 d6
 go_enter Tryz.func124,Tryz.ntmps124
 go_wp2_with fail
 refine (sRight_calls ⟨n,q,r,p,kk,cc⟩ a m cp l Hm.out _ (HB.out.later Hb0.out)).mono ?_;rintro e w1 ⟨rfl,hb⟩;rw [Hok.out];have Hb1:=qH (held_next Hb0.out hb);have HW1:=qH (HW.out.later hb HW.out.lt);clear hb d0 d1 d2 d3 d4 d5 d6;obtain ⟨d0,d1,d2,d3,d4,d5,d6⟩:=sh_cells HW1.out;simp only at d0 d1 d2 d3 d4 d5 d6
 cases ok with
 | false =>
   obtain rfl:res=(0,0):=Hres.out.symm.trans (giveV_no fun h=>by
    have:rightB ⟨n,q,r,p,kk,cc⟩ l=true:=decide_eq_true h.1;rw [Hok.out] at this
    cases this)
   go_wp2_with fail
   go_ret2
   exact ⟨by rfl,Hb1.out⟩
 | true =>
 have Hro:=qH (rightB_ok Hok.out)
 go_wp2_with fail
 refine (sAmong_calls ⟨n,q,r,p,kk,cc⟩ _ who _).mono ?_;rintro e w2 ⟨rfl,hb⟩;have Hb2:=qH (held_next Hb1.out hb);have HW2:=qH (HW1.out.later hb HW1.out.lt);clear hb d0 d1 d2 d3 d4 d5 d6;obtain ⟨d0,d1,d2,d3,d4,d5,d6⟩:=sh_cells HW2.out;simp only at d0 d1 d2 d3 d4 d5 d6
 by_cases hw:0≤who∧who < n
 rotate_left 1
 · rw [amongB_no hw]
   obtain rfl:res=(0,0):=Hres.out.symm.trans (giveV_no fun h=>hw ⟨h.2.1,h.2.2.1⟩)
   go_wp2_with fail
   go_ret2
   exact ⟨by rfl,Hb2.out⟩
 rw [amongB_yes hw];have hn1:1≤n:=Hro.out.1.1;have hn16:n≤16:=Hro.out.1.2.1;obtain ⟨N,rfl⟩:∃ N:Nat,n=(N:Int):=⟨n.toNat,by omega⟩
 obtain ⟨os,Hos⟩:∃ z,Hid (othersN who N=z):=⟨_,rfl⟩;obtain ⟨g,Hg⟩:∃ z,Hid (ofV ⟨(N:Int),q,r,p,kk,cc⟩ l=z):=⟨_,rfl⟩;obtain ⟨⟨t,b⟩,Htb⟩:∃ z,Hid (leastF g os=z):=⟨_,rfl⟩
 have O1:Hid (∀ w',Below w2.heap.size w2 w'→Calls Tryz.prog 174 #[shV ⟨(N:Int),q,r,p,kk,cc⟩ (.slice a m cp),.int .i64 who] w' (MadeI w' os)):=by
  intro w' h; have h2:=others_calls ⟨(N:Int),q,r,p,kk,cc⟩ (.slice a m cp) who (by simp only; omega) (by simp only; omega) w'; simp only [Int.toNat_natCast] at h2; rwa [Hos.out] at h2
 have O2:Hid (∀ A C w',Below w2.heap.size w2 w'→Nums w' (.slice A os.length C) os→Calls Tryz.prog 173 #[.slice A os.length C,.func (Fn.func 169) #[shV ⟨(N:Int),q,r,p,kk,cc⟩ (.slice a m cp)] #[]] w' (TwoB w' (t,b))):=by
  intro A C w' h hN; have h2:=least_calls ⟨(N:Int),q,r,p,kk,cc⟩ a m cp l Hm.out A os.length C os rfl w' (HB.out.later (held_next Hb2.out h)) hN; rw [Hg.out,Htb.out] at h2; exact h2
 have KP:Hid (∀ w',Below w2.heap.size w2 w'→(fun w'=>Below w2.heap.size w2 w'∧(w'.cell? ⟨w.heap.size + 1,0,none⟩=some (.int .i64 (N:Int))∧w'.cell? ⟨w.heap.size + 1,1,none⟩=some (.int .i64 q)∧w'.cell? ⟨w.heap.size + 1,2,none⟩=some (.int .i64 r)∧w'.cell? ⟨w.heap.size + 1,3,none⟩=some (.int .i64 p)∧w'.cell? ⟨w.heap.size + 1,4,none⟩=some (.int .i64 kk)∧w'.cell? ⟨w.heap.size + 1,5,none⟩=some (.int .i64 cc)∧w'.cell? ⟨w.heap.size + 1,6,none⟩=some (.slice a m cp))) w') :=
  fun w' h=>⟨h,sh_cells (HW2.out.later h HW2.out.lt)⟩
 clear d0 d1 d2 d3 d4 d5 d6
 go_wp2_with fail
 go_region_held3 (fun w'=>Below w2.heap.size w2 w'∧(w'.cell? ⟨w.heap.size + 1,0,none⟩=some (.int .i64 (N:Int))∧w'.cell? ⟨w.heap.size + 1,1,none⟩=some (.int .i64 q)∧w'.cell? ⟨w.heap.size + 1,2,none⟩=some (.int .i64 r)∧w'.cell? ⟨w.heap.size + 1,3,none⟩=some (.int .i64 p)∧w'.cell? ⟨w.heap.size + 1,4,none⟩=some (.int .i64 kk)∧w'.cell? ⟨w.heap.size + 1,5,none⟩=some (.int .i64 cc)∧w'.cell? ⟨w.heap.size + 1,6,none⟩=some (.slice a m cp)))
  (first | exact KP.out _ (Below.refl _ _).drew | (refine KP.out _ ?_; assumption))
  (first | (go_at_call 174; have hcur:=(‹Below w2.heap.size w2 _∧_›).1; have hcall:=O1.out _ hcur; (with_reducible refine hcall.mono ?_); rintro ee wn ⟨A,C,rfl,hN,hb⟩; have HNo:=qH hN; have hS:=held_next hcur hb; clear hb hcall hN) | (go_at_call 173; have hcur:=(‹Below w2.heap.size w2 _∧_›).1; have hcall:=O2.out _ _ _ hcur HNo.out; (with_reducible refine hcall.mono ?_); rintro ee wn ⟨rfl,hb⟩; have hS:=held_next hcur hb; clear hb hcall))
 all_goals (
  have hbx:=(‹Below w2.heap.size w2 _∧_›).1;have Hb3:=qH (held_next Hb2.out hbx)
  cases b with
  | false =>
    obtain rfl:res=(0,0):=Hres.out.symm.trans (giveV_no fun h=>by
     have h2:=poorU_of_least Hos.out Htb.out;rw [Hg.out.symm] at h2;have h3:=(poorU_best (ofV ⟨(N:Int),q,r,p,kk,cc⟩ l) who N).poor (by have h5:(N:Int) ≠ 1:=h.2.2.2; omega)
     have h4:=h3.1;rw [if_neg Bool.false_ne_true] at h2
     omega)
    go_wp2_with fail
    go_ret2
    exact ⟨by rfl,Hb3.out⟩
  | true =>
  have hp:=poorU_of_least Hos.out Htb.out;rw [if_pos rfl] at hp;obtain ⟨hpt,ht0⟩:=hp
  have hN2:N ≠ 1:=by
   rintro rfl;obtain rfl:who=0:=by omega
   have:poorU g 0 1=-1:=by simp [poorU]
   omega
  have hsb:=spareV_bound ⟨(N:Int),q,r,p,kk,cc⟩ l who keep;have hso:=ofV_bound ⟨(N:Int),q,r,p,kk,cc⟩ l who;have hgt:=ofV_bound ⟨(N:Int),q,r,p,kk,cc⟩ l t;obtain ⟨sp,Hsp⟩:∃ z,Hid (spareV ⟨(N:Int),q,r,p,kk,cc⟩ l who keep=z):=⟨_,rfl⟩;obtain ⟨gt,Hgt⟩:∃ z,Hid (ofV ⟨(N:Int),q,r,p,kk,cc⟩ l t=z):=⟨_,rfl⟩;rw [Hsp.out] at hsb;rw [Hgt.out] at hgt;have hs1:=hsb.1;have hs2:sp≤19140298416324608:=by omega
  obtain ⟨hg1,hg2⟩:=hgt
  have hgive:res=if sp - gt < 2 then (0,0) else (t,(sp - gt) / 2):=by
   rw [← Hres.out]
   unfold giveV
   have hro:rightOk ⟨(N:Int),q,r,p,kk,cc⟩ l∧0≤who∧who < (N:Int)∧(N:Int) ≠ 1:=⟨Hro.out,hw.1,hw.2,by omega⟩
   rw [if_pos hro,Hsp.out,Hg.out]
   show (if sp - g (poorU g who ((N:Int)).toNat) < 2 then ((0,0):Int × Int) else (poorU g who ((N:Int)).toNat,(sp - g (poorU g who ((N:Int)).toNat)) / 2))=_
   rw [Int.toNat_natCast,hpt,show g t=gt by rw [← Hg.out]; exact Hgt.out]
  have Hgive:=qH hgive;obtain ⟨D,HD⟩:∃ z,Hid ((sp - gt).tdiv 2=z):=⟨_,rfl⟩
  have hD:(if sp - gt < 2 then D < 1 else D=(sp - gt) / 2)∧-19140298416324608≤D∧D≤19140298416324608:=by
   rw [← HD.out]
   by_cases h0:0≤sp - gt
   · rw [Int.tdiv_eq_ediv_of_nonneg h0]
     refine ⟨?_,by omega,by omega⟩
     split <;> omega
   · have h1:(sp - gt).tdiv 2=-((-(sp - gt)).tdiv 2):=by rw [Int.neg_tdiv,Int.neg_neg]
     rw [h1,Int.tdiv_eq_ediv_of_nonneg (by omega),if_pos (by omega)]
     omega
  obtain ⟨hD,hD1,hD2⟩:=hD;have hwr1:IntKind.i64.wrap (sp - gt)=sp - gt:=IntWalk.i64_in _ (by omega)
  have hwr2:IntKind.i64.wrap D=D:=IntWalk.i64_in _ (by omega)
  have hwr3:(sp - gt).tdiv 2=D:=HD.out;have HDD:=qH hD;clear hgive hso hsb hD
  have O3:Hid (∀ w',Below w2.heap.size w2 w'→Calls Tryz.prog 170 #[shV ⟨(N:Int),q,r,p,kk,cc⟩ (.slice a m cp),.int .i64 who,.int .i64 keep] w' (Num w' sp)):=by
   intro w' h; have h2:=sSpare_calls ⟨(N:Int),q,r,p,kk,cc⟩ a m cp l who keep Hm.out hkeep w' (HB.out.later (held_next Hb2.out h)); rwa [Hsp.out] at h2
  have O4:Hid (∀ w',Below w2.heap.size w2 w'→Calls Tryz.prog 169 #[shV ⟨(N:Int),q,r,p,kk,cc⟩ (.slice a m cp),.int .i64 t] w' (Num w' gt)):=by
   intro w' h; have h2:=sRights_calls ⟨(N:Int),q,r,p,kk,cc⟩ a m cp l t Hm.out w' (HB.out.later (held_next Hb2.out h)); rwa [Hgt.out] at h2
  go_wp2_with fail
  go_region_held3 (fun w'=>Below w2.heap.size w2 w'∧(w'.cell? ⟨w.heap.size + 1,0,none⟩=some (.int .i64 (N:Int))∧w'.cell? ⟨w.heap.size + 1,1,none⟩=some (.int .i64 q)∧w'.cell? ⟨w.heap.size + 1,2,none⟩=some (.int .i64 r)∧w'.cell? ⟨w.heap.size + 1,3,none⟩=some (.int .i64 p)∧w'.cell? ⟨w.heap.size + 1,4,none⟩=some (.int .i64 kk)∧w'.cell? ⟨w.heap.size + 1,5,none⟩=some (.int .i64 cc)∧w'.cell? ⟨w.heap.size + 1,6,none⟩=some (.slice a m cp)))
   (first | exact KP.out _ hbx.drew | (refine KP.out _ ?_; assumption))
   (first | (go_at_call 170; have hcur:=(‹Below w2.heap.size w2 _∧_›).1; have hcall:=O3.out _ hcur; (with_reducible refine hcall.mono ?_); rintro ee wn ⟨rfl,hb⟩; have hS:=held_next hcur hb; clear hb hcall) | (go_at_call 169; have hcur:=(‹Below w2.heap.size w2 _∧_›).1; have hcall:=O4.out _ hcur; (with_reducible refine hcall.mono ?_); rintro ee wn ⟨rfl,hb⟩; have hS:=held_next hcur hb; clear hb hcall))
  clear hbx;have hbx:=(‹Below w2.heap.size w2 _∧_›).1;have Hb4:=qH (held_next Hb2.out hbx);clear hwr1 hwr2 hwr3
  by_cases hlow:D < 1
  · obtain rfl:res=(0,0):=by
     rw [Hgive.out];have:=HDD.out
     split
     · rfl
     · rename_i h; rw [if_neg h] at this; omega
    go_wp2_with fail
    go_ret2
    exact ⟨by rfl,Hb4.out⟩
  · obtain rfl:res=(t,D):=by
     rw [Hgive.out];have:=HDD.out
     split
     · rename_i h; rw [if_pos h] at this; omega
     · rename_i h; rw [if_neg h] at this; rw [this]
    go_wp2_with fail
    go_ret2
    exact ⟨by rfl,Hb4.out⟩)
end Go.Proofs.YtecjnkokdnmhlaaGreat
namespace Go.Proofs.YtecjnkokdnmhlaaGreat
open Go.RowKit
theorem wbound_out (p t:Int) (w:World) (h:p < 1∨16 < p) :
 Calls Tryz.prog 177 #[.int .i64 p,.int .i64 t] w (fun e w'=>e=.returned (.int .i64 0)∧Below w.heap.size w w'):=by
 by_cases h1:p < 1
 · clear h
   go_enter Tryz.func177,Tryz.ntmps177
   go_wp2_with fail
   go_step3
   go_wp2_with fail
   try rw [Exit.noGoto_ret]
   go_ret
   exact ⟨rfl,Below.refl _ _⟩
 · have h2:16 < p:=by omega
   clear h
   go_enter Tryz.func177,Tryz.ntmps177
   go_wp2_with fail
   go_step3
   go_wp2_with fail
   try rw [Exit.noGoto_ret]
   go_ret
   exact ⟨rfl,Below.refl _ _⟩
set_option maxRecDepth 100000 in
set_option maxHeartbeats 2000000 in
theorem wbound_in (p t:Int) (w:World) (h1:1≤p) (h2:p≤16) :
 Calls Tryz.prog 177 #[.int .i64 p,.int .i64 t] w (fun e w'=>e=.returned (.int .i64 (boundW p t:Nat))∧Below w.heap.size w w'):=by
 obtain ⟨B,HB⟩:∃ B,Hid (boundW p t=B):=⟨_,rfl⟩;rw [HB.out]
 go_enter Tryz.func177,Tryz.ntmps177
 go_wp2_with fail
 go_step3
 go_wp2_with fail
 go_step3
 go_wp2_with fail
 go_loop [5,13] (fun b i=>∃ k q:Nat,k≤10∧i=.int .i64 k∧b=.int .i64 q∧(q:Int)≤p∧Hid (q=2 ^ k)∧Hid (k≤heldN t)) (fun _ i=>10 - (intOf i).toNat)
 case atStart=>exact ⟨0,1,by omega,rfl,rfl,by omega,rfl,Nat.zero_le _⟩
 case round =>
  obtain ⟨k,q,hk,rfl,rfl,hq,Hq,Hk⟩:=hrel
  have hk10:k < 10:=by
   rcases Nat.lt_or_ge k 10 with h | h
   · exact h
   · have e:k=10:=by omega
     subst e;have:=Hq.out
     omega
  by_cases hlt:(k:Int) < t
  · by_cases hqp:p≤2 * (q:Int)
    · have hBp:(B:Int)=p:=by
       rw [← HB.out,boundW_in t h1 h2];have e1:k + 1≤heldN t:=by unfold heldN; omega
       have e2:2 ^ (k + 1)≤2 ^ heldN t:=Nat.pow_le_pow_right (by decide) e1
       have e3:2 ^ (k + 1)=2 * q:=by rw [two_next,Hq.out]
       omega
      have HBp:=qH hBp;clear hBp
      go_wp2_with fail
      go_ret
      exact ⟨by rw [HBp.out]; rfl,Below.refl _ _⟩
    · go_wp2_with fail
      go_round
      case rel=>exact ⟨k + 1,2 * q,by omega,by go_num,by go_num,by omega,show _=_ by rw [Hq.out,two_next],show _≤_ by unfold heldN; omega⟩
      case measure=>simp [intOf]; omega
  · have hBq:B=q:=by
     rw [← HB.out,boundW_in t h1 h2];have e1:heldN t=k:=by have:=Hk.out; unfold heldN at this ⊢; omega
     rw [e1,← Hq.out]
     omega
    subst hBq
    go_wp2_with fail
    go_ret
    exact ⟨rfl,Below.refl _ _⟩
theorem wBound_calls (p t:Int) (w:World) :
 Calls Tryz.prog 177 #[.int .i64 p,.int .i64 t] w (fun e w'=>e=.returned (.int .i64 (boundW p t:Nat))∧Below w.heap.size w w'):=by
 by_cases h:p < 1∨16 < p
 · rw [boundW_out t h]
   exact wbound_out p t w h
 · exact wbound_in p t w (by omega) (by omega)
set_option maxRecDepth 100000 in
set_option maxHeartbeats 2000000 in
theorem wWait_calls (p t:Int) (d:Nat) (hd:d < 4294967296) (w:World) :
 Calls Tryz.prog 126 #[.int .i64 p,.int .i64 t,.int .u32 d] w (fun e w'=>e=.returned (.int .i64 (waitV p t d:Nat))∧Below w.heap.size w w'):=by
 have hB16:=boundW_le p t;obtain ⟨V,HV⟩:∃ V,Hid (waitV p t d=V):=⟨_,rfl⟩;have hVd:V=if boundW p t=0 then 0 else d % boundW p t + 1:=HV.out.symm
 rw [HV.out];have hcall:=wBound_calls p t w;obtain ⟨B,HB⟩:∃ B,Hid (boundW p t=B):=⟨_,rfl⟩;rw [HB.out] at hB16 hVd hcall;clear HV
 go_enter Tryz.func126,Tryz.ntmps126
 go_wp2_with fail
 refine hcall.mono ?_;clear hcall;rintro e w1 ⟨rfl,hb⟩;have Hb:=qH hb; clear hb
 by_cases h0:B=0
 · subst h0
   have hV:V=0:=hVd;subst hV;clear hVd
   go_wp2_with fail
   go_ret
   exact ⟨rfl,Hb.out⟩
 · rw [if_neg h0] at hVd
   have hV17:V≤16:=by have:=Nat.mod_lt d (Nat.pos_of_ne_zero h0); omega
   obtain ⟨m,Hm⟩:∃ m,Hid (d % B=m):=⟨_,rfl⟩;rw [Hm.out] at hVd;subst hVd;have hmB:m < B:=by rw [← Hm.out]; exact Nat.mod_lt _ (by omega)
   have hmod:(d:Int) % (B:Int)=(m:Int):=by rw [← Hm.out]; rfl
   have hB0:((B:Int) == 0)=false:=beq_eq_false_iff_ne.2 (by omega)
   clear h0
   go_wp2_with fail
   go_ret
   exact ⟨by simp,Hb.out⟩
end Go.Proofs.YtecjnkokdnmhlaaGreat
