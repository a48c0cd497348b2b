/- Parts, as far as NodeAtOnceCards reaches them, of: NodeJoin. No law is proved here. -/
import Derived.Test.YtecjnkokdnmhlaaGreatTa13
namespace Go.Proofs.YtecjnkokdnmhlaaGreat
open Go.RowKit
section
variable {n0 g b:Nat} {E:Nat→Prop} {c:Cf} {who:Int} {x:Nd} {p p':Nl} {code:Int} {W W':World} {T:TypeId} {cs:Array Value}
theorem Kept.whole (k:Kept g p p' W W') (hw:Whole W b T cs) (hb:b ≠ g) (ho:(outV p).ownBlock ≠ some b):Whole W' b T cs:=(k.but.2 b hw.lt (fun e=>e.elim hb ho)).trans hw
theorem Kept.above (k:Kept g p p' W W') (hb:W.heap.size≤b) (i:Nat) (u:Value):Kept g p p' W (W'.setCell ⟨b,i,none⟩ u) :=
 ⟨⟨k.but.1.setCell (p:=⟨b,i,none⟩) (Nat.zero_le _) u,fun q hq hn=>(Below.heap_setCell W' ⟨b,i,none⟩ u q (fun e=>by have e:q=b:=e; omega)).trans (k.but.2 q hq hn)⟩,k.own⟩
theorem St.own_other (h:St n0 E W g c who x p code) (hw:Whole W b T cs) (hT:T ≠ 85):(outV p).ownBlock ≠ some b:=fun e=>by
 obtain ⟨_,h2 | ⟨q,cap,cur,hv,hb,hh,_⟩⟩:=h.outs
 · rw [h2.1] at e; simp [Value.ownBlock] at e
 · rw [hv] at e
   have e:q=b:=by simpa [Value.ownBlock] using e
   rw [e,hw] at hh;simp only [Option.some.injEq,Obj.cells.injEq] at hh
   exact absurd hh.2.1 hT
theorem St.whole_ne (h:St n0 E W g c who x p code) (hw:Whole W b T cs) (hT:T ≠ 99):b ≠ g:=fun e=>by
 have h1:=h.ob;rw [← e] at h1
 unfold Whole at h1 hw
 rw [hw] at h1;simp only [Option.some.injEq,Obj.cells.injEq] at h1
 exact absurd h1.2.1 hT
theorem StepTo.told {W0:World} {t u:Int} {o1 o2:Value} (k:Kept g p p' W W') (h:St n0 (fun q=>E q∨q=b) W' g c who x p' code) (hw:Whole W' b 48 #[o1,o2]) (hb:W.heap.size≤b) (hW:W0=W) :
 StepTo n0 E g c who p W0 x code ((W'.setCell ⟨b,0,none⟩ (.int .i64 t)).setCell ⟨b,1,none⟩ (.int .i64 u)):=by
 subst hW;have hg:=h.whole_ne hw (by decide)
 have ho:=h.own_other hw (by decide)
 exact ⟨p',((h.box (i:=0) (Or.inr rfl) hg ho (.int .i64 t)).box (i:=1) (Or.inr rfl) hg ho (.int .i64 u)).fewer fun _ e=>Or.inl e,(k.above hb 0 _).above hb 1 _⟩
end
def joinX (c:Cf) (who:Int) (x:Nd) (code m:Int):Nd × Int × Int × Int :=
 if code ≠ 0 then (x,code,0,0) else if m < 1∨1099511627776 < m then (x,2,0,0) else if c.q≤(x.bk.line.length:Int) then (x,3,0,0)
 else if tickC x.bk.clk 0 ≠ 0 then (bkN x (clksK x.bk (tickT x.bk.clk 0)),tickC x.bk.clk 0,0,0)
 else (⟨lineK (clksK x.bk (tickT x.bk.clk 0)) (joinQ c who x.bk.line ⟨tickT x.bk.clk 0,who,m⟩).1,x.tk,x.nx,keepN x.asked m⟩,(joinQ c who x.bk.line ⟨tickT x.bk.clk 0,who,m⟩).2,tickT x.bk.clk 0,who)
def JoinTo (n0:Nat) (E:Nat→Prop) (g:Nat) (c:Cf) (who:Int) (p:Nl) (W:World) (r:Nd × Int × Int × Int) (e:Ending) (w':World):Prop:=e=.returned (.agg #[.int .i64 r.2.2.1,.int .i64 r.2.2.2])∧StepTo n0 E g c who p W r.1 r.2.1 w'
set_option maxRecDepth 100000 in
set_option maxHeartbeats 8000000 in
theorem join18_calls {n0 g:Nat} {E:Nat→Prop} {c:Cf} {who:Int} {x:Nd} {p:Nl} {code:Int} {W:World} (h:St n0 E W g c who x p code) (m:Int) (hl:x.bk.line.length≤1000) (ha:x.asked.length≤1000) :
 Calls Tryz.prog 44 #[.pointer (some ⟨g,0,none⟩),.int .i64 m] W (JoinTo n0 E g c who p W (joinX c who x code m)):=by
 have hlt:=h.lt;have Hfew:=qH (And.intro hl ha);obtain ⟨F,HF⟩:∃ z,(fun q=>E q∨q=W.heap.size)=z:=⟨_,rfl⟩
 have hb0:=below_box W (.cells #[.int .i64 0,.int .i64 0] 48);have HR0:=qH (Whole.made W 48 #[.int .i64 0,.int .i64 0]);have HS0:Hid (St n0 (fun q=>E q∨q=W.heap.size) (W.alloc (.cells #[.int .i64 0,.int .i64 0] 48)) g c who x p code):=qH (h.wider hb0 (fun b e=>e.imp id fun e=>by subst e; simp))
 have HK0:Hid (Kept g p p W (W.alloc (.cells #[.int .i64 0,.int .i64 0] 48))):=qH (Kept.of hb0);obtain ⟨W0,HW⟩:∃ z,Hid (W.alloc (.cells #[.int .i64 0,.int .i64 0] 48)=z):=⟨_,rfl⟩;rw [HW.out] at HR0 HS0 HK0;clear h hb0 hl ha;obtain ⟨res,Hres⟩:∃ z,Hid (joinX c who x code m=z):=⟨_,rfl⟩;rw [Hres.out]
 by_cases h1:m < 1∨1099511627776 < m
 · by_cases h2:m < 1
   · go_enter Tryz.func44,Tryz.ntmps44
     go_wp2_with fail
     try rw [HW.out]
     have hcd:(if code=0 then 2 else code) ≠ 0:=by split <;> first | decide | assumption
     obtain ⟨ka,Hka⟩:∃ z,Hid ((if code=0 then (2:Int) else code)=z):=⟨_,rfl⟩
     have O1:=qH (stop_calls HS0.out 2);rw [Hka.out] at O1 hcd;have hka:=hcd;obtain rfl:res=(x,ka,0,0):=Hres.out.symm.trans (by unfold joinX; rw [← Hka.out]; by_cases hc:code=0 <;> simp [hc,h1])
     go_wp2_with fail
     refine O1.out.mono ?_;rintro e wa ⟨rfl,hSa,hKa⟩;have HSa:=qH hSa;have HKa:=qH (HK0.out.trans hKa);have HRa:=qH (hKa.whole HR0.out (HS0.out.whole_ne HR0.out (by decide)) (HS0.out.own_other HR0.out (by decide)))
     clear hSa hKa O1 hcd;have O8:=qH (steptick_calls HSa.out 0);rw [if_neg hka,if_neg hka] at O8
     go_wp2_with fail
     refine O8.out.mono ?_;rintro e w8 ⟨rfl,hS8,hK8⟩;have HS8:=qH hS8;have HK8:=qH (HKa.out.trans hK8);have HR8:=qH (hK8.whole HRa.out (HSa.out.whole_ne HRa.out (by decide)) (HSa.out.own_other HRa.out (by decide)))
     clear hS8 hK8 O8;have O9:=qH (stopped_calls HS8.out);rw [show decide (ka ≠ 0)=true from decide_eq_true hka] at O9
     go_wp2_with fail
     refine O9.out.mono ?_;rintro e w9 ⟨rfl,rfl⟩;have v0:=HR8.out.cell 0;have v1:=HR8.out.cell 1;have u0:=HR8.out.free 0;have u1:=HR8.out.free 1;have hl8:=HR8.out.lt;have hR9:=(HR8.out.set 0 (.int .i64 0)).set 1 (.int .i64 0);have k0:=hR9.cell 0;have k1:=hR9.cell 1
     simp at k0 k1
     have HE8:=qH (StepTo.told (t:=0) (u:=0) HK8.out HS8.out HR8.out (Nat.le_refl _) rfl);clear hR9
     go_wp2_with fail
     exact bodyPost_ret (v:=.agg #[.int .i64 0,.int .i64 0]) (by simp [results,Tryz.results44,go_sem,k0,k1]) rfl ⟨rfl,HE8.out⟩
   · have h3:1099511627776 < m:=by omega
     go_enter Tryz.func44,Tryz.ntmps44
     go_wp2_with fail
     try rw [HW.out]
     have hcd:(if code=0 then 2 else code) ≠ 0:=by split <;> first | decide | assumption
     obtain ⟨ka,Hka⟩:∃ z,Hid ((if code=0 then (2:Int) else code)=z):=⟨_,rfl⟩
     have O1:=qH (stop_calls HS0.out 2);rw [Hka.out] at O1 hcd;have hka:=hcd;obtain rfl:res=(x,ka,0,0):=Hres.out.symm.trans (by unfold joinX; rw [← Hka.out]; by_cases hc:code=0 <;> simp [hc,h1])
     go_wp2_with fail
     refine O1.out.mono ?_;rintro e wa ⟨rfl,hSa,hKa⟩;have HSa:=qH hSa;have HKa:=qH (HK0.out.trans hKa);have HRa:=qH (hKa.whole HR0.out (HS0.out.whole_ne HR0.out (by decide)) (HS0.out.own_other HR0.out (by decide)))
     clear hSa hKa O1 hcd;have O8:=qH (steptick_calls HSa.out 0);rw [if_neg hka,if_neg hka] at O8
     go_wp2_with fail
     refine O8.out.mono ?_;rintro e w8 ⟨rfl,hS8,hK8⟩;have HS8:=qH hS8;have HK8:=qH (HKa.out.trans hK8);have HR8:=qH (hK8.whole HRa.out (HSa.out.whole_ne HRa.out (by decide)) (HSa.out.own_other HRa.out (by decide)))
     clear hS8 hK8 O8;have O9:=qH (stopped_calls HS8.out);rw [show decide (ka ≠ 0)=true from decide_eq_true hka] at O9
     go_wp2_with fail
     refine O9.out.mono ?_;rintro e w9 ⟨rfl,rfl⟩;have v0:=HR8.out.cell 0;have v1:=HR8.out.cell 1;have u0:=HR8.out.free 0;have u1:=HR8.out.free 1;have hl8:=HR8.out.lt;have hR9:=(HR8.out.set 0 (.int .i64 0)).set 1 (.int .i64 0);have k0:=hR9.cell 0;have k1:=hR9.cell 1
     simp at k0 k1
     have HE8:=qH (StepTo.told (t:=0) (u:=0) HK8.out HS8.out HR8.out (Nat.le_refl _) rfl);clear hR9
     go_wp2_with fail
     exact bodyPost_ret (v:=.agg #[.int .i64 0,.int .i64 0]) (by simp [results,Tryz.results44,go_sem,k0,k1]) rfl ⟨rfl,HE8.out⟩
 have h2:¬ m < 1:=by omega
 have h3:¬ 1099511627776 < m:=by omega
 have hq1:W0.cell? ⟨g,2,none⟩=some (.slice p.bl.a2 p.bl.m2 p.bl.c2):=HS0.out.ob.cell 2;have hq2:W0.cell? ⟨g,16,none⟩=some (.int .i64 c.q):=HS0.out.ob.cell 16;have hm2:=HS0.out.inn.2.1.1;obtain ⟨ml,Hml⟩:∃ z,Hid (p.bl.m2=z):=⟨_,rfl⟩;have hlen:ml=x.bk.line.length:=by rw [← Hml.out]; exact hm2
 have Hlen:=qH hlen;clear hlen hm2;have hlt0:=HS0.out.lt
 by_cases h4:c.q≤(ml:Int)
 · have hq5:c.q≤(x.bk.line.length:Int):=by rw [← Hlen.out]; exact h4
   have Hq5:=qH hq5;clear hq5;rw [Hml.out] at hq1
   go_enter Tryz.func44,Tryz.ntmps44
   go_wp2_with fail
   try rw [HW.out]
   go_quiet (fail)
   have hqd:Below W0.heap.size W0 (W0.drewN nq):=below_drewN (Below.refl _ _) nq;have HS0:=qH (HS0.out.later hqd);have HK0:=qH (HK0.out.next hqd);have HR0:=qH (HR0.out.later hqd HR0.out.lt);clear hq1 hq2 hqd;obtain ⟨Wq,HWq⟩:∃ z,Hid (W0.drewN nq=z):=⟨_,rfl⟩;rw [HWq.out] at HS0 HK0 HR0
   go_wp2_with fail
   rw [HWq.out];have hcd:(if code=0 then 3 else code) ≠ 0:=by split <;> first | decide | assumption
   obtain ⟨ka,Hka⟩:∃ z,Hid ((if code=0 then (3:Int) else code)=z):=⟨_,rfl⟩
   have O1:=qH (stop_calls HS0.out 3);rw [Hka.out] at O1 hcd;have hka:=hcd;obtain rfl:res=(x,ka,0,0):=Hres.out.symm.trans (by unfold joinX; rw [← Hka.out]; by_cases hc:code=0 <;> simp [hc,h1,Hq5.out])
   go_wp2_with fail
   refine O1.out.mono ?_;rintro e wa ⟨rfl,hSa,hKa⟩;have HSa:=qH hSa;have HKa:=qH (HK0.out.trans hKa);have HRa:=qH (hKa.whole HR0.out (HS0.out.whole_ne HR0.out (by decide)) (HS0.out.own_other HR0.out (by decide)))
   clear hSa hKa O1 hcd;have O8:=qH (steptick_calls HSa.out 0);rw [if_neg hka,if_neg hka] at O8
   go_wp2_with fail
   refine O8.out.mono ?_;rintro e w8 ⟨rfl,hS8,hK8⟩;have HS8:=qH hS8;have HK8:=qH (HKa.out.trans hK8);have HR8:=qH (hK8.whole HRa.out (HSa.out.whole_ne HRa.out (by decide)) (HSa.out.own_other HRa.out (by decide)))
   clear hS8 hK8 O8;have O9:=qH (stopped_calls HS8.out);rw [show decide (ka ≠ 0)=true from decide_eq_true hka] at O9
   go_wp2_with fail
   refine O9.out.mono ?_;rintro e w9 ⟨rfl,rfl⟩;have v0:=HR8.out.cell 0;have v1:=HR8.out.cell 1;have u0:=HR8.out.free 0;have u1:=HR8.out.free 1;have hl8:=HR8.out.lt;have hR9:=(HR8.out.set 0 (.int .i64 0)).set 1 (.int .i64 0);have k0:=hR9.cell 0;have k1:=hR9.cell 1
   simp at k0 k1
   have HE8:=qH (StepTo.told (t:=0) (u:=0) HK8.out HS8.out HR8.out (Nat.le_refl _) rfl);clear hR9
   go_wp2_with fail
   exact bodyPost_ret (v:=.agg #[.int .i64 0,.int .i64 0]) (by simp [results,Tryz.results44,go_sem,k0,k1]) rfl ⟨rfl,HE8.out⟩
 rw [Hml.out] at hq1
 go_enter Tryz.func44,Tryz.ntmps44
 go_wp2_with fail
 try rw [HW.out]
 go_quiet (fail)
 have hqd:Below W0.heap.size W0 (W0.drewN nq):=below_drewN (Below.refl _ _) nq;have HSa:=qH (HS0.out.later hqd);have HKa:=qH (HK0.out.next hqd);have HRa:=qH (HR0.out.later hqd HR0.out.lt);clear hq1 hq2 hqd HS0 HK0 HR0 hlt0;obtain ⟨wa,HWq⟩:∃ z,Hid (W0.drewN nq=z):=⟨_,rfl⟩;rw [HWq.out] at HSa HKa HRa
 go_wp2_with fail
 rw [HWq.out]
 by_cases hka:code ≠ 0
 · obtain rfl:res=(x,code,0,0):=Hres.out.symm.trans (if_pos hka)
   have O8:=qH (steptick_calls HSa.out 0);rw [if_neg hka,if_neg hka] at O8
   go_wp2_with fail
   refine O8.out.mono ?_;rintro e w8 ⟨rfl,hS8,hK8⟩;have HS8:=qH hS8;have HK8:=qH (HKa.out.trans hK8);have HR8:=qH (hK8.whole HRa.out (HSa.out.whole_ne HRa.out (by decide)) (HSa.out.own_other HRa.out (by decide)))
   clear hS8 hK8 O8;have O9:=qH (stopped_calls HS8.out);rw [show decide (code ≠ 0)=true from decide_eq_true hka] at O9
   go_wp2_with fail
   refine O9.out.mono ?_;rintro e w9 ⟨rfl,rfl⟩;have v0:=HR8.out.cell 0;have v1:=HR8.out.cell 1;have u0:=HR8.out.free 0;have u1:=HR8.out.free 1;have hl8:=HR8.out.lt;have hR9:=(HR8.out.set 0 (.int .i64 0)).set 1 (.int .i64 0);have k0:=hR9.cell 0;have k1:=hR9.cell 1
   simp at k0 k1
   have HE8:=qH (StepTo.told (t:=0) (u:=0) HK8.out HS8.out HR8.out (Nat.le_refl _) rfl);clear hR9
   go_wp2_with fail
   exact bodyPost_ret (v:=.agg #[.int .i64 0,.int .i64 0]) (by simp [results,Tryz.results44,go_sem,k0,k1]) rfl ⟨rfl,HE8.out⟩
 · have hc0:code=0:=Decidable.not_not.1 hka
   subst hc0;clear hka;obtain ⟨T,HT⟩:∃ z,Hid (tickT x.bk.clk 0=z):=⟨_,rfl⟩;obtain ⟨k5,Hk5⟩:∃ z,Hid (tickC x.bk.clk 0=z):=⟨_,rfl⟩;have O8:=qH (steptick_calls HSa.out 0);rw [if_pos rfl,if_pos rfl,HT.out,Hk5.out] at O8;have hq4:¬ c.q≤(x.bk.line.length:Int):=by rw [← Hlen.out]; omega
   have hres2:(if k5 ≠ 0 then (bkN x (clksK x.bk T),k5,0,0) else (⟨lineK (clksK x.bk T) (joinQ c who x.bk.line ⟨T,who,m⟩).1,x.tk,x.nx,keepN x.asked m⟩,(joinQ c who x.bk.line ⟨T,who,m⟩).2,T,who))=res:=by
    rw [← Hres.out]; unfold joinX; rw [if_neg (show ¬ ((0:Int) ≠ 0) from fun h=>h rfl),if_neg h1,if_neg hq4,HT.out,Hk5.out]
   have Hres2:=qH hres2;clear hres2 Hres hq4
   go_wp2_with fail
   refine O8.out.mono ?_;rintro e W5 ⟨rfl,hS5,hK5⟩;have HS5:=qH hS5;have HK5:=qH (HKa.out.trans hK5);have HR5:=qH (hK5.whole HRa.out (HSa.out.whole_ne HRa.out (by decide)) (HSa.out.own_other HRa.out (by decide)))
   clear hS5 hK5 O8;have O9:=qH (stopped_calls HS5.out)
   by_cases hk:k5 ≠ 0
   · obtain rfl:res=(bkN x (clksK x.bk T),k5,0,0):=Hres2.out.symm.trans (if_pos hk)
     rw [show decide (k5 ≠ 0)=true from decide_eq_true hk] at O9
     go_wp2_with fail
     refine O9.out.mono ?_;rintro e w9 ⟨rfl,rfl⟩;have v0:=HR5.out.cell 0;have v1:=HR5.out.cell 1;have u0:=HR5.out.free 0;have u1:=HR5.out.free 1;have hl8:=HR5.out.lt;have hR9:=(HR5.out.set 0 (.int .i64 0)).set 1 (.int .i64 0);have k0:=hR9.cell 0;have k1:=hR9.cell 1
     simp at k0 k1
     have HE8:=qH (StepTo.told (t:=0) (u:=0) HK5.out HS5.out HR5.out (Nat.le_refl _) rfl);clear hR9
     go_wp2_with fail
     exact bodyPost_ret (v:=.agg #[.int .i64 0,.int .i64 0]) (by simp [results,Tryz.results44,go_sem,k0,k1]) rfl ⟨rfl,HE8.out⟩
   · have hk0:k5=0:=Decidable.not_not.1 hk
     subst hk0;obtain ⟨⟨l2,cd⟩,Hj⟩:∃ z,Hid (joinQ c who x.bk.line ⟨T,who,m⟩=z):=⟨_,rfl⟩;obtain ⟨L,HL⟩:∃ z,Hid (l2.length=z):=⟨_,rfl⟩;obtain rfl:res=(⟨lineK (clksK x.bk T) l2,x.tk,x.nx,keepN x.asked m⟩,cd,T,who):=Hres2.out.symm.trans (by rw [if_neg hk,Hj.out])
     rw [show decide ((0:Int) ≠ 0)=false from rfl] at O9
     go_wp2_with fail
     refine O9.out.mono ?_;rintro e w9 ⟨rfl,rfl⟩;have hlt5:=HS5.out.lt;rw [HF] at HS5
     go_wp2_with fail
     refine wp_region_each_at ?hm ?hb (fun a0 d a' w'=>∃ (e0 e1 e2 e3 e4 e5 e6 e7 e8 e9 e10:Value) (gb:Nat),a'=putAll a0 [(35,e0),(36,e1),(37,e2),(38,e3),(39,e4),(40,e5),(41,e6),(42,e7),(43,e8),(44,e9),(5,e10)]∧Below W5.heap.size W5 w'∧(d 0=true→e0=(.pointer (some ⟨g,0,none⟩)))∧(d 1=true→e1=(.pointer (some ⟨g,0,none⟩)))∧(d 2=true→e2=(.pointer (some ⟨g,0,none⟩)))∧(d 3=true→e3=(.pointer (some ⟨g,0,none⟩)))∧(d 4=true→e4=(.int .i64 T))∧(d 5=true→e5=(.pointer (some ⟨g,0,none⟩)))∧(d 6=true→e6=(.pointer (some ⟨g,0,none⟩)))∧(d 7=true→e7=(.pointer (some ⟨g,21,none⟩)))∧(d 8=true→e8=(.int .i64 who))∧(d 9=true→e9=(.agg #[.int .i64 T,.int .i64 who]))∧(d 10=true→(e10=.pointer (some ⟨gb,0,none⟩)∧W5.heap.size≤gb∧(d 11=false→Whole w' gb 48 #[.int .i64 0,.int .i64 0])))∧(d 11=true→(d 10=true∧Whole w' gb 48 #[.int .i64 T,.int .i64 who]))) ?h0 ?step ?ends
     case hm=>kernel_rfl
     case hb=>kernel_rfl
     case h0 =>
      refine ⟨undef,undef,undef,undef,undef,undef,undef,undef,undef,undef,undef,0,?_,(Below.refl _ _).drew,fun h=>absurd h (by decide),fun h=>absurd h (by decide),fun h=>absurd h (by decide),fun h=>absurd h (by decide),fun h=>absurd h (by decide),fun h=>absurd h (by decide),fun h=>absurd h (by decide),fun h=>absurd h (by decide),fun h=>absurd h (by decide),fun h=>absurd h (by decide),fun h=>absurd h (by decide),fun h=>absurd h (by decide)⟩
      simp only [putAll,Act.put,qA,qB,qC]
     case step =>
      intro i d a' w' hi hJ hd hk;obtain ⟨e0,e1,e2,e3,e4,e5,e6,e7,e8,e9,e10,gb,rfl,hC⟩:=hJ;obtain ⟨hB,hC⟩:=hC;obtain ⟨c0,hC⟩:=hC;obtain ⟨c1,hC⟩:=hC;obtain ⟨c2,hC⟩:=hC;obtain ⟨c3,hC⟩:=hC;obtain ⟨c4,hC⟩:=hC;obtain ⟨c5,hC⟩:=hC;obtain ⟨c6,hC⟩:=hC;obtain ⟨c7,hC⟩:=hC;obtain ⟨c8,hC⟩:=hC;obtain ⟨c9,hC⟩:=hC;obtain ⟨c10,hC⟩:=hC;have c11:=hC;clear hC;have Xc0:=qH c0; clear c0;have Xc1:=qH c1; clear c1;have Xc2:=qH c2; clear c2
      have Xc3:=qH c3; clear c3;have Xc4:=qH c4; clear c4;have Xc5:=qH c5; clear c5;have Xc6:=qH c6; clear c6;have Xc7:=qH c7; clear c7;have Xc8:=qH c8; clear c8;have Xc9:=qH c9; clear c9;have Xc10:=qH c10; clear c10;have Xc11:=qH c11; clear c11
      match i,hi,hd,hk with
      | 0, _, hd, hk =>
        apply wpOp_at
        case ho=>rfl
        intro K hK;simp only [putAll,Act.put,qA,qB,qC];go_simp;refine hK _ _ ⟨(.pointer (some ⟨g,0,none⟩)),_,_,_,_,_,_,_,_,_,_,gb,?_,hB,fun _=>rfl,Xc1,Xc2,Xc3,Xc4,Xc5,Xc6,Xc7,Xc8,Xc9,Xc10,Xc11⟩
        simp only [putAll,Act.put,qA,qB,qC]
      | 1, _, hd, hk =>
        have h0:=hk 0 (by decide +kernel)
        have c0:=Xc0.out;obtain rfl:=c0 h0;clear c0;apply wpOp_at
        case ho=>rfl
        intro K hK;simp only [putAll,Act.put,qA,qB,qC];go_simp;refine hK _ _ ⟨(.pointer (some ⟨g,0,none⟩)),(.pointer (some ⟨g,0,none⟩)),_,_,_,_,_,_,_,_,_,gb,?_,hB,Xc0,fun _=>rfl,Xc2,Xc3,Xc4,Xc5,Xc6,Xc7,Xc8,Xc9,Xc10,Xc11⟩
        simp only [putAll,Act.put,qA,qB,qC]
      | 2, _, hd, hk =>
        have h1:=hk 1 (by decide +kernel)
        have c1:=Xc1.out;obtain rfl:=c1 h1;clear c1;apply wpOp_at
        case ho=>rfl
        intro K hK;simp only [putAll,Act.put,qA,qB,qC];go_simp;refine hK _ _ ⟨_,(.pointer (some ⟨g,0,none⟩)),(.pointer (some ⟨g,0,none⟩)),_,_,_,_,_,_,_,_,gb,?_,hB,Xc0,Xc1,fun _=>rfl,Xc3,Xc4,Xc5,Xc6,Xc7,Xc8,Xc9,Xc10,Xc11⟩
        simp only [putAll,Act.put,qA,qB,qC]
      | 3, _, hd, hk =>
        have h2:=hk 2 (by decide +kernel)
        have c2:=Xc2.out;obtain rfl:=c2 h2;clear c2;apply wpOp_at
        case ho=>rfl
        intro K hK;simp only [putAll,Act.put,qA,qB,qC];go_simp;refine hK _ _ ⟨_,_,(.pointer (some ⟨g,0,none⟩)),(.pointer (some ⟨g,0,none⟩)),_,_,_,_,_,_,_,gb,?_,hB,Xc0,Xc1,Xc2,fun _=>rfl,Xc4,Xc5,Xc6,Xc7,Xc8,Xc9,Xc10,Xc11⟩
        simp only [putAll,Act.put,qA,qB,qC]
      | 4, _, hd, hk =>
        have h3:=hk 3 (by decide +kernel)
        have c3:=Xc3.out;obtain rfl:=c3 h3;have q0:=(HS5.out.later hB).ob.cell 0;clear c3;apply wpOp_at
        case ho=>rfl
        intro K hK;simp only [putAll,Act.put,qA,qB,qC];go_simp;refine hK _ _ ⟨_,_,_,(.pointer (some ⟨g,0,none⟩)),(.int .i64 T),_,_,_,_,_,_,gb,?_,hB,Xc0,Xc1,Xc2,Xc3,fun _=>rfl,Xc5,Xc6,Xc7,Xc8,Xc9,Xc10,Xc11⟩
        simp only [putAll,Act.put,qA,qB,qC]
      | 5, _, hd, hk =>
        apply wpOp_at
        case ho=>rfl
        intro K hK;simp only [putAll,Act.put,qA,qB,qC];go_simp;refine hK _ _ ⟨_,_,_,_,_,(.pointer (some ⟨g,0,none⟩)),_,_,_,_,_,gb,?_,hB,Xc0,Xc1,Xc2,Xc3,Xc4,fun _=>rfl,Xc6,Xc7,Xc8,Xc9,Xc10,Xc11⟩
        simp only [putAll,Act.put,qA,qB,qC]
      | 6, _, hd, hk =>
        have h5:=hk 5 (by decide +kernel)
        have c5:=Xc5.out;obtain rfl:=c5 h5;clear c5;apply wpOp_at
        case ho=>rfl
        intro K hK;simp only [putAll,Act.put,qA,qB,qC];go_simp;refine hK _ _ ⟨_,_,_,_,_,(.pointer (some ⟨g,0,none⟩)),(.pointer (some ⟨g,0,none⟩)),_,_,_,_,gb,?_,hB,Xc0,Xc1,Xc2,Xc3,Xc4,Xc5,fun _=>rfl,Xc7,Xc8,Xc9,Xc10,Xc11⟩
        simp only [putAll,Act.put,qA,qB,qC]
      | 7, _, hd, hk =>
        have h6:=hk 6 (by decide +kernel)
        have c6:=Xc6.out;obtain rfl:=c6 h6;clear c6;apply wpOp_at
        case ho=>rfl
        intro K hK;simp only [putAll,Act.put,qA,qB,qC];go_simp;refine hK _ _ ⟨_,_,_,_,_,_,(.pointer (some ⟨g,0,none⟩)),(.pointer (some ⟨g,21,none⟩)),_,_,_,gb,?_,hB,Xc0,Xc1,Xc2,Xc3,Xc4,Xc5,Xc6,fun _=>rfl,Xc8,Xc9,Xc10,Xc11⟩
        simp only [putAll,Act.put,qA,qB,qC]
      | 8, _, hd, hk =>
        have h7:=hk 7 (by decide +kernel)
        have c7:=Xc7.out;obtain rfl:=c7 h7;have q21:=(HS5.out.later hB).ob.cell 21;clear c7;apply wpOp_at
        case ho=>rfl
        intro K hK;simp only [putAll,Act.put,qA,qB,qC];go_simp;refine hK _ _ ⟨_,_,_,_,_,_,_,(.pointer (some ⟨g,21,none⟩)),(.int .i64 who),_,_,gb,?_,hB,Xc0,Xc1,Xc2,Xc3,Xc4,Xc5,Xc6,Xc7,fun _=>rfl,Xc9,Xc10,Xc11⟩
        simp only [putAll,Act.put,qA,qB,qC]
      | 9, _, hd, hk =>
        have h4:=hk 4 (by decide +kernel)
        have h8:=hk 8 (by decide +kernel)
        have c4:=Xc4.out;have c8:=Xc8.out;obtain rfl:=c4 h4;obtain rfl:=c8 h8;clear c4 c8;apply wpOp_at
        case ho=>rfl
        intro K hK;simp only [putAll,Act.put,qA,qB,qC];go_simp;refine hK _ _ ⟨_,_,_,_,(.int .i64 T),_,_,_,(.int .i64 who),(.agg #[.int .i64 T,.int .i64 who]),_,gb,?_,hB,Xc0,Xc1,Xc2,Xc3,Xc4,Xc5,Xc6,Xc7,Xc8,fun _=>rfl,Xc10,Xc11⟩
        simp only [putAll,Act.put,qA,qB,qC]
      | 10, _, hd, hk =>
        have hb:=below_box w' (.cells #[.int .i64 0,.int .i64 0] 48);apply wpOp_at
        case ho=>rfl
        intro K hK;simp only [putAll,Act.put,qA,qB,qC];go_simp;have c11:=Xc11.out;refine hK _ _ ⟨_,_,_,_,_,_,_,_,_,_,.pointer (some ⟨w'.heap.size,0,none⟩),w'.heap.size,?_,hB.trans (hb.mono hB.size),Xc0,Xc1,Xc2,Xc3,Xc4,Xc5,Xc6,Xc7,Xc8,Xc9,fun _=>⟨rfl,hB.size,fun _=>Whole.made w' _ _⟩,fun h=>Bool.noConfusion (hd.symm.trans (c11 h).1)⟩
        simp only [putAll,Act.put,qA,qB,qC]
      | 11, _, hd, hk =>
        have h9:=hk 9 (by decide +kernel)
        have h10:=hk 10 (by decide +kernel)
        have c9:=Xc9.out;have c10:=Xc10.out;obtain rfl:=c9 h9;obtain ⟨rfl,hgb,hW⟩:=c10 h10;have hW:=hW hd;have v0:=hW.cell 0;have v1:=hW.cell 1;have u0:=hW.free 0;have u1:=hW.free 1;have hW8:=(hW.set 0 (.int .i64 T)).set 1 (.int .i64 who);simp only [List.setIfInBounds_toArray,List.set_cons_zero,List.set_cons_succ] at hW8;clear c9 c10;apply wpOp_at
        case ho=>rfl
        intro K hK;simp only [putAll,Act.put,qA,qB,qC];go_simp;refine hK _ _ ⟨_,_,_,_,_,_,_,_,_,(.agg #[.int .i64 T,.int .i64 who]),.pointer (some ⟨gb,0,none⟩),gb,?_,(hB.setCell (p:=⟨gb,0,none⟩) hgb _).setCell (p:=⟨gb,1,none⟩) hgb _,Xc0,Xc1,Xc2,Xc3,Xc4,Xc5,Xc6,Xc7,Xc8,Xc9,fun _=>⟨rfl,hgb,fun k=>Bool.noConfusion (show true=false from k)⟩,fun _=>⟨h10,hW8⟩⟩
        simp only [putAll,Act.put,qA,qB,qC]
      | k + 12,hi,_,_=>exact absurd hi (by simp)
     case ends =>
      intro d a' w' hJ hall;obtain ⟨e0,e1,e2,e3,e4,e5,e6,e7,e8,e9,e10,gb,rfl,hC⟩:=hJ;obtain ⟨hB,hC⟩:=hC;obtain ⟨c0,hC⟩:=hC;obtain ⟨c1,hC⟩:=hC;obtain ⟨c2,hC⟩:=hC;obtain ⟨c3,hC⟩:=hC;obtain ⟨c4,hC⟩:=hC;obtain ⟨c5,hC⟩:=hC;obtain ⟨c6,hC⟩:=hC;obtain ⟨c7,hC⟩:=hC;obtain ⟨c8,hC⟩:=hC;obtain ⟨c9,hC⟩:=hC;obtain ⟨c10,hC⟩:=hC;have c11:=hC;clear hC;have HG:=qH (c11 (hall 11 (by decide +kernel))).2
      obtain ⟨rfl,hgb,_⟩:=c10 (hall 10 (by decide +kernel))
      have HBe:=qH hB;obtain rfl:=c0 (hall 0 (by decide +kernel))
      obtain rfl:=c1 (hall 1 (by decide +kernel))
      obtain rfl:=c2 (hall 2 (by decide +kernel))
      obtain rfl:=c3 (hall 3 (by decide +kernel))
      obtain rfl:=c4 (hall 4 (by decide +kernel))
      obtain rfl:=c5 (hall 5 (by decide +kernel))
      obtain rfl:=c6 (hall 6 (by decide +kernel))
      obtain rfl:=c7 (hall 7 (by decide +kernel))
      obtain rfl:=c8 (hall 8 (by decide +kernel))
      obtain rfl:=c9 (hall 9 (by decide +kernel))
      clear c11 hall hB;simp only [putAll,Act.put,qA,qB,qC];obtain ⟨W6,HW6⟩:∃ z,z=w':=⟨_,rfl⟩;subst HW6;have HS6:=qH (HS5.out.later HBe.out);have HK6:=qH (HK5.out.next HBe.out);have HR6:=qH (HR5.out.later HBe.out HR5.out.lt);have HG6:=qH HG.out;have hn0:n0≤W6.heap.size:=by have:=HS6.out.le; have:=HS6.out.lt; omega
      clear HG hgb;obtain ⟨x6,Hx6⟩:∃ z,bkN x (clksK x.bk T)=z:=⟨_,rfl⟩
      have HJ:Hid (∀ w',Below W6.heap.size W6 w'→Calls Tryz.prog 93 #[cfV c,.int .i64 who,.slice p.bl.a2 p.bl.m2 p.bl.c2,rqV ⟨T,who,m⟩] w' (fun e w2=>∃ A C,e=.returned (.tuple #[.slice A L C,.int .i64 cd])∧Below w'.heap.size w' w2∧Stay (fun b=>b < w'.heap.size) w2 (fun V=>Line V (.slice A L C) l2))):=fun w' hb=>by
       have h9:p.bl.m2=x.bk.line.length:=HS6.out.inn.2.1.1;have h1:=lJoin_far c who p.bl.a2 p.bl.m2 p.bl.c2 x.bk.line ⟨T,who,m⟩ h9 (by have:=Hfew.out.1; omega) w' (HS6.out.inn.2.1.2.later hb)
       rw [Hj.out] at h1;refine h1.mono ?_;rintro e w2 ⟨A,C,he,_,hb2,hs⟩;simp only at he hs;rw [HL.out] at he hs
       exact ⟨A,C,he,hb2,hs⟩
      go_wp2_with fail
      rw [Hx6] at HS6;refine wp_region_each_at ?hm ?hb (fun a0 d a' w'=>∃ (e0 e1 e2 e3 e4 e5 e6 e7 e8 e9 e10 e11 e12 e13 e14 e15 e16 e17 e18 e19 e20 e21 e22 e23 e24 e26 e27:Value) (A:Option Addr) (C:Nat),a'=putAll a0 [(46,e0),(47,e1),(48,e2),(49,e3),(50,e4),(51,e5),(52,e6),(53,e7),(54,e8),(55,e9),(56,e10),(57,e11),(58,e12),(59,e13),(60,e14),(61,e15),(62,e16),(63,e17),(64,e18),(45,e19),(65,e20),(66,e21),(67,e22),(68,e23),(69,e24),(70,e26),(71,e27)]∧Below n0 W6 w'∧(d 0=true→e0=(.pointer (some ⟨g,0,none⟩)))∧(d 1=true→e1=(.pointer (some ⟨g,0,none⟩)))∧(d 2=true→e2=(.pointer (some ⟨g,0,none⟩)))∧(d 3=true→e3=(.pointer (some ⟨g,0,none⟩)))∧(d 4=true→e4=(.pointer (some ⟨g,15,none⟩)))∧(d 5=true→e5=(cfV c))∧(d 6=true→e6=(.pointer (some ⟨g,0,none⟩)))∧(d 7=true→e7=(.pointer (some ⟨g,0,none⟩)))∧(d 8=true→e8=(.pointer (some ⟨g,21,none⟩)))∧(d 9=true→e9=(.int .i64 who))∧(d 10=true→e10=(.pointer (some ⟨g,0,none⟩)))∧(d 11=true→e11=(.pointer (some ⟨g,0,none⟩)))∧(d 12=true→e12=(.pointer (some ⟨g,0,none⟩)))∧(d 13=true→e13=(.pointer (some ⟨g,2,none⟩)))∧(d 14=true→e14=(.slice p.bl.a2 p.bl.m2 p.bl.c2))∧(d 15=true→e15=(.agg #[.int .i64 T,.int .i64 who]))∧(d 16=true→e16=(.int .i64 m))∧(d 17=true→(d 15=true∧e17=(rqV ⟨T,who,m⟩)))∧(d 18=true→(d 5=true∧d 9=true∧d 14=true∧d 15=true∧e18=(.tuple #[.slice A L C,.int .i64 cd])∧(d 25=false→Stay (fun b=>b < W6.heap.size) w' (fun V=>Line V (.slice A L C) l2))))∧(d 19=true→(d 18=true∧e19=(.tuple #[.slice A L C,.int .i64 cd])))∧(d 20=true→(d 18=true∧e20=(.slice A L C)))∧(d 21=true→e21=(.int .i64 cd))∧(d 22=true→e22=(.pointer (some ⟨g,0,none⟩)))∧(d 23=true→e23=(.pointer (some ⟨g,0,none⟩)))∧(d 24=true→e24=(.pointer (some ⟨g,2,none⟩)))∧(d 25=true→(d 18=true∧(d 28=false→StepTo n0 F g c who p W6 (bkN x6 (lineK x6.bk l2)) 0 w')))∧(d 26=true→e26=(.pointer (some ⟨g,0,none⟩)))∧(d 27=true→e27=(.pointer (some ⟨g,22,none⟩)))∧(d 28=true→(d 25=true∧StepTo n0 F g c who p W6 (bkN x6 (lineK x6.bk l2)) cd w'))∧(d 25=false→Below W6.heap.size W6 w')) ?h0 ?step ?ends
      case hm=>kernel_rfl
      case hb=>kernel_rfl
      case h0 =>
       refine ⟨undef,undef,undef,undef,undef,undef,undef,undef,undef,undef,undef,undef,undef,undef,undef,undef,undef,undef,undef,undef,undef,undef,undef,undef,undef,undef,undef,none,0,?_,(Below.refl _ _).drew,fun h=>absurd h (by decide),fun h=>absurd h (by decide),fun h=>absurd h (by decide),fun h=>absurd h (by decide),fun h=>absurd h (by decide),fun h=>absurd h (by decide),fun h=>absurd h (by decide),fun h=>absurd h (by decide),fun h=>absurd h (by decide),fun h=>absurd h (by decide),fun h=>absurd h (by decide),fun h=>absurd h (by decide),fun h=>absurd h (by decide),fun h=>absurd h (by decide),fun h=>absurd h (by decide),fun h=>absurd h (by decide),fun h=>absurd h (by decide),fun h=>absurd h (by decide),fun h=>absurd h (by decide),fun h=>absurd h (by decide),fun h=>absurd h (by decide),fun h=>absurd h (by decide),fun h=>absurd h (by decide),fun h=>absurd h (by decide),fun h=>absurd h (by decide),fun h=>absurd h (by decide),fun h=>absurd h (by decide),fun h=>absurd h (by decide),fun h=>absurd h (by decide),fun _=>(Below.refl _ _).drew⟩
       simp only [putAll,Act.put,qA,qB,qC]
      case step =>
       intro i d a' w' hi hJ hd hk;obtain ⟨e0,e1,e2,e3,e4,e5,e6,e7,e8,e9,e10,e11,e12,e13,e14,e15,e16,e17,e18,e19,e20,e21,e22,e23,e24,e26,e27,A,C,rfl,hC⟩:=hJ;obtain ⟨hB,hC⟩:=hC;obtain ⟨c0,hC⟩:=hC;obtain ⟨c1,hC⟩:=hC;obtain ⟨c2,hC⟩:=hC;obtain ⟨c3,hC⟩:=hC;obtain ⟨c4,hC⟩:=hC;obtain ⟨c5,hC⟩:=hC;obtain ⟨c6,hC⟩:=hC;obtain ⟨c7,hC⟩:=hC;obtain ⟨c8,hC⟩:=hC;obtain ⟨c9,hC⟩:=hC;obtain ⟨c10,hC⟩:=hC;obtain ⟨c11,hC⟩:=hC
       obtain ⟨c12,hC⟩:=hC;obtain ⟨c13,hC⟩:=hC;obtain ⟨c14,hC⟩:=hC;obtain ⟨c15,hC⟩:=hC;obtain ⟨c16,hC⟩:=hC;obtain ⟨c17,hC⟩:=hC;obtain ⟨c18,hC⟩:=hC;obtain ⟨c19,hC⟩:=hC;obtain ⟨c20,hC⟩:=hC;obtain ⟨c21,hC⟩:=hC;obtain ⟨c22,hC⟩:=hC;obtain ⟨c23,hC⟩:=hC;obtain ⟨c24,hC⟩:=hC;obtain ⟨c25,hC⟩:=hC;obtain ⟨c26,hC⟩:=hC;obtain ⟨c27,hC⟩:=hC;obtain ⟨c28,hC⟩:=hC;have cb:=hC;clear hC;have Xc0:=qH c0; clear c0;have Xc1:=qH c1; clear c1
       have Xc2:=qH c2; clear c2;have Xc3:=qH c3; clear c3;have Xc4:=qH c4; clear c4;have Xc5:=qH c5; clear c5;have Xc6:=qH c6; clear c6;have Xc7:=qH c7; clear c7;have Xc8:=qH c8; clear c8;have Xc9:=qH c9; clear c9;have Xc10:=qH c10; clear c10;have Xc11:=qH c11; clear c11;have Xc12:=qH c12; clear c12;have Xc13:=qH c13; clear c13;have Xc14:=qH c14; clear c14;have Xc15:=qH c15; clear c15;have Xc16:=qH c16; clear c16
       have Xc17:=qH c17; clear c17;have Xc18:=qH c18; clear c18;have Xc19:=qH c19; clear c19;have Xc20:=qH c20; clear c20;have Xc21:=qH c21; clear c21;have Xc22:=qH c22; clear c22;have Xc23:=qH c23; clear c23;have Xc24:=qH c24; clear c24;have Xc25:=qH c25; clear c25;have Xc26:=qH c26; clear c26;have Xc27:=qH c27; clear c27;have Xc28:=qH c28; clear c28;have Xcb:=qH cb; clear cb
       match i,hi,hd,hk with
       | 0, _, hd, hk =>
         apply wpOp_at
         case ho=>rfl
         intro K hK;simp only [putAll,Act.put,qA,qB,qC];go_simp;refine hK _ _ ⟨(.pointer (some ⟨g,0,none⟩)),_,_,_,_,_,_,_,_,_,_,_,_,_,_,_,_,_,_,_,_,_,_,_,_,_,_,A,C,?_,hB,fun _=>rfl,Xc1,Xc2,Xc3,Xc4,Xc5,Xc6,Xc7,Xc8,Xc9,Xc10,Xc11,Xc12,Xc13,Xc14,Xc15,Xc16,Xc17,Xc18,Xc19,Xc20,Xc21,Xc22,Xc23,Xc24,Xc25,Xc26,Xc27,Xc28,Xcb⟩
         simp only [putAll,Act.put,qA,qB,qC]
       | 1, _, hd, hk =>
         apply wpOp_at
         case ho=>rfl
         intro K hK;simp only [putAll,Act.put,qA,qB,qC];go_simp;refine hK _ _ ⟨_,(.pointer (some ⟨g,0,none⟩)),_,_,_,_,_,_,_,_,_,_,_,_,_,_,_,_,_,_,_,_,_,_,_,_,_,A,C,?_,hB,Xc0,fun _=>rfl,Xc2,Xc3,Xc4,Xc5,Xc6,Xc7,Xc8,Xc9,Xc10,Xc11,Xc12,Xc13,Xc14,Xc15,Xc16,Xc17,Xc18,Xc19,Xc20,Xc21,Xc22,Xc23,Xc24,Xc25,Xc26,Xc27,Xc28,Xcb⟩
         simp only [putAll,Act.put,qA,qB,qC]
       | 2, _, hd, hk =>
         apply wpOp_at
         case ho=>rfl
         intro K hK;simp only [putAll,Act.put,qA,qB,qC];go_simp;refine hK _ _ ⟨_,_,(.pointer (some ⟨g,0,none⟩)),_,_,_,_,_,_,_,_,_,_,_,_,_,_,_,_,_,_,_,_,_,_,_,_,A,C,?_,hB,Xc0,Xc1,fun _=>rfl,Xc3,Xc4,Xc5,Xc6,Xc7,Xc8,Xc9,Xc10,Xc11,Xc12,Xc13,Xc14,Xc15,Xc16,Xc17,Xc18,Xc19,Xc20,Xc21,Xc22,Xc23,Xc24,Xc25,Xc26,Xc27,Xc28,Xcb⟩
         simp only [putAll,Act.put,qA,qB,qC]
       | 3, _, hd, hk =>
         have h2:=hk 2 (by decide +kernel)
         have c2:=Xc2.out;obtain rfl:=c2 h2;clear c2;apply wpOp_at
         case ho=>rfl
         intro K hK;simp only [putAll,Act.put,qA,qB,qC];go_simp;refine hK _ _ ⟨_,_,(.pointer (some ⟨g,0,none⟩)),(.pointer (some ⟨g,0,none⟩)),_,_,_,_,_,_,_,_,_,_,_,_,_,_,_,_,_,_,_,_,_,_,_,A,C,?_,hB,Xc0,Xc1,Xc2,fun _=>rfl,Xc4,Xc5,Xc6,Xc7,Xc8,Xc9,Xc10,Xc11,Xc12,Xc13,Xc14,Xc15,Xc16,Xc17,Xc18,Xc19,Xc20,Xc21,Xc22,Xc23,Xc24,Xc25,Xc26,Xc27,Xc28,Xcb⟩
         simp only [putAll,Act.put,qA,qB,qC]
       | 4, _, hd, hk =>
         have h3:=hk 3 (by decide +kernel)
         have c3:=Xc3.out;obtain rfl:=c3 h3;clear c3;apply wpOp_at
         case ho=>rfl
         intro K hK;simp only [putAll,Act.put,qA,qB,qC];go_simp;refine hK _ _ ⟨_,_,_,(.pointer (some ⟨g,0,none⟩)),(.pointer (some ⟨g,15,none⟩)),_,_,_,_,_,_,_,_,_,_,_,_,_,_,_,_,_,_,_,_,_,_,A,C,?_,hB,Xc0,Xc1,Xc2,Xc3,fun _=>rfl,Xc5,Xc6,Xc7,Xc8,Xc9,Xc10,Xc11,Xc12,Xc13,Xc14,Xc15,Xc16,Xc17,Xc18,Xc19,Xc20,Xc21,Xc22,Xc23,Xc24,Xc25,Xc26,Xc27,Xc28,Xcb⟩
         simp only [putAll,Act.put,qA,qB,qC]
       | 5, _, hd, hk =>
         have h4:=hk 4 (by decide +kernel)
         have c4:=Xc4.out;have c18:=Xc18.out;have c25:=Xc25.out;have cb:=Xcb.out;obtain rfl:=c4 h4;have hd25:d 25=false:=by cases h:d 25 with | false=>rfl | true=>exact Bool.noConfusion (hd.symm.trans (c18 (c25 h).1).1)
         have hb9:=cb hd25;have q15:=(HS6.out.later hb9).ob.cell 15;have q16:=(HS6.out.later hb9).ob.cell 16;have q17:=(HS6.out.later hb9).ob.cell 17;have q18:=(HS6.out.later hb9).ob.cell 18;have q19:=(HS6.out.later hb9).ob.cell 19;have q20:=(HS6.out.later hb9).ob.cell 20;clear c4 c18 c25 cb;apply wpOp_at
         case ho=>rfl
         intro K hK;simp only [putAll,Act.put,qA,qB,qC];go_simp;have c18:=Xc18.out;refine hK _ _ ⟨_,_,_,_,(.pointer (some ⟨g,15,none⟩)),(cfV c),_,_,_,_,_,_,_,_,_,_,_,_,e18,_,_,_,_,_,_,_,_,A,C,?_,hB,Xc0,Xc1,Xc2,Xc3,Xc4,fun _=>rfl,Xc6,Xc7,Xc8,Xc9,Xc10,Xc11,Xc12,Xc13,Xc14,Xc15,Xc16,Xc17,fun h=>Bool.noConfusion (hd.symm.trans (c18 h).1),Xc19,Xc20,Xc21,Xc22,Xc23,Xc24,Xc25,Xc26,Xc27,Xc28,Xcb⟩
         simp only [putAll,Act.put,qA,qB,qC]
       | 6, _, hd, hk =>
         apply wpOp_at
         case ho=>rfl
         intro K hK;simp only [putAll,Act.put,qA,qB,qC];go_simp;refine hK _ _ ⟨_,_,_,_,_,_,(.pointer (some ⟨g,0,none⟩)),_,_,_,_,_,_,_,_,_,_,_,_,_,_,_,_,_,_,_,_,A,C,?_,hB,Xc0,Xc1,Xc2,Xc3,Xc4,Xc5,fun _=>rfl,Xc7,Xc8,Xc9,Xc10,Xc11,Xc12,Xc13,Xc14,Xc15,Xc16,Xc17,Xc18,Xc19,Xc20,Xc21,Xc22,Xc23,Xc24,Xc25,Xc26,Xc27,Xc28,Xcb⟩
         simp only [putAll,Act.put,qA,qB,qC]
       | 7, _, hd, hk =>
         have h6:=hk 6 (by decide +kernel)
         have c6:=Xc6.out;obtain rfl:=c6 h6;clear c6;apply wpOp_at
         case ho=>rfl
         intro K hK;simp only [putAll,Act.put,qA,qB,qC];go_simp;refine hK _ _ ⟨_,_,_,_,_,_,(.pointer (some ⟨g,0,none⟩)),(.pointer (some ⟨g,0,none⟩)),_,_,_,_,_,_,_,_,_,_,_,_,_,_,_,_,_,_,_,A,C,?_,hB,Xc0,Xc1,Xc2,Xc3,Xc4,Xc5,Xc6,fun _=>rfl,Xc8,Xc9,Xc10,Xc11,Xc12,Xc13,Xc14,Xc15,Xc16,Xc17,Xc18,Xc19,Xc20,Xc21,Xc22,Xc23,Xc24,Xc25,Xc26,Xc27,Xc28,Xcb⟩
         simp only [putAll,Act.put,qA,qB,qC]
       | 8, _, hd, hk =>
         have h7:=hk 7 (by decide +kernel)
         have c7:=Xc7.out;obtain rfl:=c7 h7;clear c7;apply wpOp_at
         case ho=>rfl
         intro K hK;simp only [putAll,Act.put,qA,qB,qC];go_simp;refine hK _ _ ⟨_,_,_,_,_,_,_,(.pointer (some ⟨g,0,none⟩)),(.pointer (some ⟨g,21,none⟩)),_,_,_,_,_,_,_,_,_,_,_,_,_,_,_,_,_,_,A,C,?_,hB,Xc0,Xc1,Xc2,Xc3,Xc4,Xc5,Xc6,Xc7,fun _=>rfl,Xc9,Xc10,Xc11,Xc12,Xc13,Xc14,Xc15,Xc16,Xc17,Xc18,Xc19,Xc20,Xc21,Xc22,Xc23,Xc24,Xc25,Xc26,Xc27,Xc28,Xcb⟩
         simp only [putAll,Act.put,qA,qB,qC]
       | 9, _, hd, hk =>
         have h8:=hk 8 (by decide +kernel)
         have c8:=Xc8.out;have c18:=Xc18.out;have c25:=Xc25.out;have cb:=Xcb.out;obtain rfl:=c8 h8;have hd25:d 25=false:=by cases h:d 25 with | false=>rfl | true=>exact Bool.noConfusion (hd.symm.trans (c18 (c25 h).1).2.1)
         have hb9:=cb hd25;have q21:=(HS6.out.later hb9).ob.cell 21;clear c8 c18 c25 cb;apply wpOp_at
         case ho=>rfl
         intro K hK;simp only [putAll,Act.put,qA,qB,qC];go_simp;have c18:=Xc18.out;refine hK _ _ ⟨_,_,_,_,_,_,_,_,(.pointer (some ⟨g,21,none⟩)),(.int .i64 who),_,_,_,_,_,_,_,_,e18,_,_,_,_,_,_,_,_,A,C,?_,hB,Xc0,Xc1,Xc2,Xc3,Xc4,Xc5,Xc6,Xc7,Xc8,fun _=>rfl,Xc10,Xc11,Xc12,Xc13,Xc14,Xc15,Xc16,Xc17,fun h=>Bool.noConfusion (hd.symm.trans (c18 h).2.1),Xc19,Xc20,Xc21,Xc22,Xc23,Xc24,Xc25,Xc26,Xc27,Xc28,Xcb⟩
         simp only [putAll,Act.put,qA,qB,qC]
       | 10, _, hd, hk =>
         apply wpOp_at
         case ho=>rfl
         intro K hK;simp only [putAll,Act.put,qA,qB,qC];go_simp;refine hK _ _ ⟨_,_,_,_,_,_,_,_,_,_,(.pointer (some ⟨g,0,none⟩)),_,_,_,_,_,_,_,_,_,_,_,_,_,_,_,_,A,C,?_,hB,Xc0,Xc1,Xc2,Xc3,Xc4,Xc5,Xc6,Xc7,Xc8,Xc9,fun _=>rfl,Xc11,Xc12,Xc13,Xc14,Xc15,Xc16,Xc17,Xc18,Xc19,Xc20,Xc21,Xc22,Xc23,Xc24,Xc25,Xc26,Xc27,Xc28,Xcb⟩
         simp only [putAll,Act.put,qA,qB,qC]
       | 11, _, hd, hk =>
         have h10:=hk 10 (by decide +kernel)
         have c10:=Xc10.out;obtain rfl:=c10 h10;clear c10;apply wpOp_at
         case ho=>rfl
         intro K hK;simp only [putAll,Act.put,qA,qB,qC];go_simp;refine hK _ _ ⟨_,_,_,_,_,_,_,_,_,_,(.pointer (some ⟨g,0,none⟩)),(.pointer (some ⟨g,0,none⟩)),_,_,_,_,_,_,_,_,_,_,_,_,_,_,_,A,C,?_,hB,Xc0,Xc1,Xc2,Xc3,Xc4,Xc5,Xc6,Xc7,Xc8,Xc9,Xc10,fun _=>rfl,Xc12,Xc13,Xc14,Xc15,Xc16,Xc17,Xc18,Xc19,Xc20,Xc21,Xc22,Xc23,Xc24,Xc25,Xc26,Xc27,Xc28,Xcb⟩
         simp only [putAll,Act.put,qA,qB,qC]
       | 12, _, hd, hk =>
         have h11:=hk 11 (by decide +kernel)
         have c11:=Xc11.out;obtain rfl:=c11 h11;clear c11;apply wpOp_at
         case ho=>rfl
         intro K hK;simp only [putAll,Act.put,qA,qB,qC];go_simp;refine hK _ _ ⟨_,_,_,_,_,_,_,_,_,_,_,(.pointer (some ⟨g,0,none⟩)),(.pointer (some ⟨g,0,none⟩)),_,_,_,_,_,_,_,_,_,_,_,_,_,_,A,C,?_,hB,Xc0,Xc1,Xc2,Xc3,Xc4,Xc5,Xc6,Xc7,Xc8,Xc9,Xc10,Xc11,fun _=>rfl,Xc13,Xc14,Xc15,Xc16,Xc17,Xc18,Xc19,Xc20,Xc21,Xc22,Xc23,Xc24,Xc25,Xc26,Xc27,Xc28,Xcb⟩
         simp only [putAll,Act.put,qA,qB,qC]
       | 13, _, hd, hk =>
         have h12:=hk 12 (by decide +kernel)
         have c12:=Xc12.out;obtain rfl:=c12 h12;clear c12;apply wpOp_at
         case ho=>rfl
         intro K hK;simp only [putAll,Act.put,qA,qB,qC];go_simp;refine hK _ _ ⟨_,_,_,_,_,_,_,_,_,_,_,_,(.pointer (some ⟨g,0,none⟩)),(.pointer (some ⟨g,2,none⟩)),_,_,_,_,_,_,_,_,_,_,_,_,_,A,C,?_,hB,Xc0,Xc1,Xc2,Xc3,Xc4,Xc5,Xc6,Xc7,Xc8,Xc9,Xc10,Xc11,Xc12,fun _=>rfl,Xc14,Xc15,Xc16,Xc17,Xc18,Xc19,Xc20,Xc21,Xc22,Xc23,Xc24,Xc25,Xc26,Xc27,Xc28,Xcb⟩
         simp only [putAll,Act.put,qA,qB,qC]
       | 14, _, hd, hk =>
         have h13:=hk 13 (by decide +kernel)
         have c13:=Xc13.out;have c18:=Xc18.out;have c25:=Xc25.out;have cb:=Xcb.out;obtain rfl:=c13 h13;have hd25:d 25=false:=by cases h:d 25 with | false=>rfl | true=>exact Bool.noConfusion (hd.symm.trans (c18 (c25 h).1).2.2.1)
         have hb9:=cb hd25;have q2:=(HS6.out.later hb9).ob.cell 2;clear c13 c18 c25 cb;apply wpOp_at
         case ho=>rfl
         intro K hK;simp only [putAll,Act.put,qA,qB,qC];go_simp;have c18:=Xc18.out;refine hK _ _ ⟨_,_,_,_,_,_,_,_,_,_,_,_,_,(.pointer (some ⟨g,2,none⟩)),(.slice p.bl.a2 p.bl.m2 p.bl.c2),_,_,_,e18,_,_,_,_,_,_,_,_,A,C,?_,hB,Xc0,Xc1,Xc2,Xc3,Xc4,Xc5,Xc6,Xc7,Xc8,Xc9,Xc10,Xc11,Xc12,Xc13,fun _=>rfl,Xc15,Xc16,Xc17,fun h=>Bool.noConfusion (hd.symm.trans (c18 h).2.2.1),Xc19,Xc20,Xc21,Xc22,Xc23,Xc24,Xc25,Xc26,Xc27,Xc28,Xcb⟩
         simp only [putAll,Act.put,qA,qB,qC]
       | 15, _, hd, hk =>
         have c18:=Xc18.out;have c25:=Xc25.out;have cb:=Xcb.out;have hd25:d 25=false:=by cases h:d 25 with | false=>rfl | true=>exact Bool.noConfusion (hd.symm.trans (c18 (c25 h).1).2.2.2.1)
         have hb9:=cb hd25;have hG9:=HG6.out.later hb9 HG6.out.lt;have v0:=hG9.cell 0;have v1:=hG9.cell 1;clear c18 c25 cb;apply wpOp_at
         case ho=>rfl
         intro K hK;simp only [putAll,Act.put,qA,qB,qC];go_simp;have c17:=Xc17.out;have c18:=Xc18.out;refine hK _ _ ⟨_,_,_,_,_,_,_,_,_,_,_,_,_,_,_,(.agg #[.int .i64 T,.int .i64 who]),_,e17,e18,_,_,_,_,_,_,_,_,A,C,?_,hB,Xc0,Xc1,Xc2,Xc3,Xc4,Xc5,Xc6,Xc7,Xc8,Xc9,Xc10,Xc11,Xc12,Xc13,Xc14,fun _=>rfl,Xc16,fun h=>Bool.noConfusion (hd.symm.trans (c17 h).1),fun h=>Bool.noConfusion (hd.symm.trans (c18 h).2.2.2.1),Xc19,Xc20,Xc21,Xc22,Xc23,Xc24,Xc25,Xc26,Xc27,Xc28,Xcb⟩
         simp only [putAll,Act.put,qA,qB,qC]
       | 16, _, hd, hk =>
         apply wpOp_at
         case ho=>rfl
         intro K hK;simp only [putAll,Act.put,qA,qB,qC];go_simp;refine hK _ _ ⟨_,_,_,_,_,_,_,_,_,_,_,_,_,_,_,_,(.int .i64 m),_,_,_,_,_,_,_,_,_,_,A,C,?_,hB,Xc0,Xc1,Xc2,Xc3,Xc4,Xc5,Xc6,Xc7,Xc8,Xc9,Xc10,Xc11,Xc12,Xc13,Xc14,Xc15,fun _=>rfl,Xc17,Xc18,Xc19,Xc20,Xc21,Xc22,Xc23,Xc24,Xc25,Xc26,Xc27,Xc28,Xcb⟩
         simp only [putAll,Act.put,qA,qB,qC]
       | 17, _, hd, hk =>
         have h15:=hk 15 (by decide +kernel)
         have h16:=hk 16 (by decide +kernel)
         have c15:=Xc15.out;have c16:=Xc16.out;obtain rfl:=c15 h15;obtain rfl:=c16 h16;clear c15 c16;apply wpOp_at
         case ho=>rfl
         intro K hK;simp only [putAll,Act.put,qA,qB,qC];go_simp;refine hK _ _ ⟨_,_,_,_,_,_,_,_,_,_,_,_,_,_,_,(.agg #[.int .i64 T,.int .i64 who]),(.int .i64 m),(rqV ⟨T,who,m⟩),_,_,_,_,_,_,_,_,_,A,C,?_,hB,Xc0,Xc1,Xc2,Xc3,Xc4,Xc5,Xc6,Xc7,Xc8,Xc9,Xc10,Xc11,Xc12,Xc13,Xc14,Xc15,Xc16,fun _=>⟨h15,rfl⟩,Xc18,Xc19,Xc20,Xc21,Xc22,Xc23,Xc24,Xc25,Xc26,Xc27,Xc28,Xcb⟩
         simp only [putAll,Act.put,qA,qB,qC]
       | 18, _, hd, hk =>
         have h5:=hk 5 (by decide +kernel)
         have h9:=hk 9 (by decide +kernel)
         have h14:=hk 14 (by decide +kernel)
         have h17:=hk 17 (by decide +kernel)
         have c5:=Xc5.out;have c9:=Xc9.out;have c14:=Xc14.out;have c17:=Xc17.out;have c25:=Xc25.out;have cb:=Xcb.out;obtain rfl:=c5 h5;obtain rfl:=c9 h9;obtain rfl:=c14 h14;have hd25:d 25=false:=by cases h:d 25 with | false=>rfl | true=>exact Bool.noConfusion (hd.symm.trans (c25 h).1)
         have hb9:=cb hd25;obtain ⟨k15,rfl⟩:=c17 h17;clear c5 c9 c14 c17 c25 cb;apply wpOp_at
         case ho=>rfl
         intro K hK;simp only [putAll,Act.put,qA,qB,qC];go_simp;have c19:=Xc19.out;have c20:=Xc20.out;have c25:=Xc25.out;have c28:=Xc28.out;have cb:=Xcb.out;refine (HJ.out _ hb9).mono ?_;rintro e w'' ⟨A',C',rfl,hb,hs⟩;refine hK _ _ ⟨_,_,_,_,_,(cfV c),_,_,_,(.int .i64 who),_,_,_,_,(.slice p.bl.a2 p.bl.m2 p.bl.c2),_,_,(rqV ⟨T,who,m⟩),.tuple #[.slice A' L C',.int .i64 cd],e19,e20,_,_,_,_,_,_,A',C',?_,hB.trans (hb.mono (Nat.le_trans hn0 hb9.size)),Xc0,Xc1,Xc2,Xc3,Xc4,Xc5,Xc6,Xc7,Xc8,Xc9,Xc10,Xc11,Xc12,Xc13,Xc14,Xc15,Xc16,Xc17,fun _=>⟨h5,h9,h14,k15,rfl,fun _ V hV=>hs V (hV.wide fun b (hb2:b < W6.heap.size)=>Nat.lt_of_lt_of_le hb2 hb9.size)⟩,fun h=>Bool.noConfusion (hd.symm.trans (c19 h).1),fun h=>Bool.noConfusion (hd.symm.trans (c20 h).1),Xc21,Xc22,Xc23,Xc24,fun h=>Bool.noConfusion (hd.symm.trans (c25 h).1),Xc26,Xc27,fun h=>Bool.noConfusion (hd.symm.trans (c25 (c28 h).1).1),fun h=>held_next (cb h) hb⟩
         simp only [putAll,Act.put,qA,qB,qC]
       | 19, _, hd, hk =>
         have h18:=hk 18 (by decide +kernel)
         have c18:=Xc18.out;obtain ⟨-,-,-,-,rfl,-⟩:=c18 h18;clear c18;apply wpOp_at
         case ho=>rfl
         intro K hK;simp only [putAll,Act.put,qA,qB,qC];go_simp;refine hK _ _ ⟨_,_,_,_,_,_,_,_,_,_,_,_,_,_,_,_,_,_,(.tuple #[.slice A L C,.int .i64 cd]),(.tuple #[.slice A L C,.int .i64 cd]),_,_,_,_,_,_,_,A,C,?_,hB,Xc0,Xc1,Xc2,Xc3,Xc4,Xc5,Xc6,Xc7,Xc8,Xc9,Xc10,Xc11,Xc12,Xc13,Xc14,Xc15,Xc16,Xc17,Xc18,fun _=>⟨h18,rfl⟩,Xc20,Xc21,Xc22,Xc23,Xc24,Xc25,Xc26,Xc27,Xc28,Xcb⟩
         simp only [putAll,Act.put,qA,qB,qC]
       | 20, _, hd, hk =>
         have h19:=hk 19 (by decide +kernel)
         have c19:=Xc19.out;obtain ⟨k18,rfl⟩:=c19 h19;clear c19;apply wpOp_at
         case ho=>rfl
         intro K hK;simp only [putAll,Act.put,qA,qB,qC];go_simp;refine hK _ _ ⟨_,_,_,_,_,_,_,_,_,_,_,_,_,_,_,_,_,_,_,(.tuple #[.slice A L C,.int .i64 cd]),(.slice A L C),_,_,_,_,_,_,A,C,?_,hB,Xc0,Xc1,Xc2,Xc3,Xc4,Xc5,Xc6,Xc7,Xc8,Xc9,Xc10,Xc11,Xc12,Xc13,Xc14,Xc15,Xc16,Xc17,Xc18,Xc19,fun _=>⟨k18,rfl⟩,Xc21,Xc22,Xc23,Xc24,Xc25,Xc26,Xc27,Xc28,Xcb⟩
         simp only [putAll,Act.put,qA,qB,qC]
       | 21, _, hd, hk =>
         have h19:=hk 19 (by decide +kernel)
         have c19:=Xc19.out;obtain ⟨k18,rfl⟩:=c19 h19;clear c19;apply wpOp_at
         case ho=>rfl
         intro K hK;simp only [putAll,Act.put,qA,qB,qC];go_simp;refine hK _ _ ⟨_,_,_,_,_,_,_,_,_,_,_,_,_,_,_,_,_,_,_,(.tuple #[.slice A L C,.int .i64 cd]),_,(.int .i64 cd),_,_,_,_,_,A,C,?_,hB,Xc0,Xc1,Xc2,Xc3,Xc4,Xc5,Xc6,Xc7,Xc8,Xc9,Xc10,Xc11,Xc12,Xc13,Xc14,Xc15,Xc16,Xc17,Xc18,Xc19,Xc20,fun _=>rfl,Xc22,Xc23,Xc24,Xc25,Xc26,Xc27,Xc28,Xcb⟩
         simp only [putAll,Act.put,qA,qB,qC]
       | 22, _, hd, hk =>
         have h0:=hk 0 (by decide +kernel)
         have c0:=Xc0.out;obtain rfl:=c0 h0;clear c0;apply wpOp_at
         case ho=>rfl
         intro K hK;simp only [putAll,Act.put,qA,qB,qC];go_simp;refine hK _ _ ⟨(.pointer (some ⟨g,0,none⟩)),_,_,_,_,_,_,_,_,_,_,_,_,_,_,_,_,_,_,_,_,_,(.pointer (some ⟨g,0,none⟩)),_,_,_,_,A,C,?_,hB,Xc0,Xc1,Xc2,Xc3,Xc4,Xc5,Xc6,Xc7,Xc8,Xc9,Xc10,Xc11,Xc12,Xc13,Xc14,Xc15,Xc16,Xc17,Xc18,Xc19,Xc20,Xc21,fun _=>rfl,Xc23,Xc24,Xc25,Xc26,Xc27,Xc28,Xcb⟩
         simp only [putAll,Act.put,qA,qB,qC]
       | 23, _, hd, hk =>
         have h22:=hk 22 (by decide +kernel)
         have c22:=Xc22.out;obtain rfl:=c22 h22;clear c22;apply wpOp_at
         case ho=>rfl
         intro K hK;simp only [putAll,Act.put,qA,qB,qC];go_simp;refine hK _ _ ⟨_,_,_,_,_,_,_,_,_,_,_,_,_,_,_,_,_,_,_,_,_,_,(.pointer (some ⟨g,0,none⟩)),(.pointer (some ⟨g,0,none⟩)),_,_,_,A,C,?_,hB,Xc0,Xc1,Xc2,Xc3,Xc4,Xc5,Xc6,Xc7,Xc8,Xc9,Xc10,Xc11,Xc12,Xc13,Xc14,Xc15,Xc16,Xc17,Xc18,Xc19,Xc20,Xc21,Xc22,fun _=>rfl,Xc24,Xc25,Xc26,Xc27,Xc28,Xcb⟩
         simp only [putAll,Act.put,qA,qB,qC]
       | 24, _, hd, hk =>
         have h23:=hk 23 (by decide +kernel)
         have c23:=Xc23.out;obtain rfl:=c23 h23;clear c23;apply wpOp_at
         case ho=>rfl
         intro K hK;simp only [putAll,Act.put,qA,qB,qC];go_simp;refine hK _ _ ⟨_,_,_,_,_,_,_,_,_,_,_,_,_,_,_,_,_,_,_,_,_,_,_,(.pointer (some ⟨g,0,none⟩)),(.pointer (some ⟨g,2,none⟩)),_,_,A,C,?_,hB,Xc0,Xc1,Xc2,Xc3,Xc4,Xc5,Xc6,Xc7,Xc8,Xc9,Xc10,Xc11,Xc12,Xc13,Xc14,Xc15,Xc16,Xc17,Xc18,Xc19,Xc20,Xc21,Xc22,Xc23,fun _=>rfl,Xc25,Xc26,Xc27,Xc28,Xcb⟩
         simp only [putAll,Act.put,qA,qB,qC]
       | 25, _, hd, hk =>
         have h18:=hk 18 (by decide +kernel)
         have h20:=hk 20 (by decide +kernel)
         have h24:=hk 24 (by decide +kernel)
         have c18:=Xc18.out;have c20:=Xc20.out;have c24:=Xc24.out;have cb:=Xcb.out;obtain rfl:=c24 h24;obtain ⟨k18,rfl⟩:=c20 h20;obtain ⟨-,-,-,-,-,hs⟩:=c18 h18;have hb9:=cb hd;have hS9:=HS6.out.later hb9;have hl9:=HS6.out.stay (hs hd);have q2:w'.cell? ⟨g,2,none⟩=some (.slice p.bl.a2 p.bl.m2 p.bl.c2):=hS9.ob.cell 2;have y2:=hS9.ob.free 2;have hM:=hS9.line (A:=A) (C:=C) (l:=l2) (by rw [HL.out]; exact hl9)
         rw [HL.out] at hM;clear c18 c20 c24 cb;apply wpOp_at
         case ho=>rfl
         intro K hK;simp only [putAll,Act.put,qA,qB,qC];go_simp;have c18:=Xc18.out;have c28:=Xc28.out;refine hK _ _ ⟨_,_,_,_,_,_,_,_,_,_,_,_,_,_,_,_,_,_,e18,_,(.slice A L C),_,_,_,(.pointer (some ⟨g,2,none⟩)),_,_,A,C,?_,hB.setCell (p:=⟨g,2,none⟩) HS6.out.le _,Xc0,Xc1,Xc2,Xc3,Xc4,Xc5,Xc6,Xc7,Xc8,Xc9,Xc10,Xc11,Xc12,Xc13,Xc14,Xc15,Xc16,Xc17,fun h=>⟨(c18 h).1,(c18 h).2.1,(c18 h).2.2.1,(c18 h).2.2.2.1,(c18 h).2.2.2.2.1,fun h=>Bool.noConfusion (show true=false from h)⟩,Xc19,Xc20,Xc21,Xc22,Xc23,Xc24,fun _=>⟨h18,fun _=>⟨_,hM.1,(Kept.of hb9).trans hM.2⟩⟩,Xc26,Xc27,fun h=>Bool.noConfusion (hd.symm.trans (c28 h).1),fun h=>Bool.noConfusion (show true=false from h)⟩
         simp only [putAll,Act.put,qA,qB,qC]
       | 26, _, hd, hk =>
         have h1:=hk 1 (by decide +kernel)
         have c1:=Xc1.out;obtain rfl:=c1 h1;clear c1;apply wpOp_at
         case ho=>rfl
         intro K hK;simp only [putAll,Act.put,qA,qB,qC];go_simp;refine hK _ _ ⟨_,(.pointer (some ⟨g,0,none⟩)),_,_,_,_,_,_,_,_,_,_,_,_,_,_,_,_,_,_,_,_,_,_,_,(.pointer (some ⟨g,0,none⟩)),_,A,C,?_,hB,Xc0,Xc1,Xc2,Xc3,Xc4,Xc5,Xc6,Xc7,Xc8,Xc9,Xc10,Xc11,Xc12,Xc13,Xc14,Xc15,Xc16,Xc17,Xc18,Xc19,Xc20,Xc21,Xc22,Xc23,Xc24,Xc25,fun _=>rfl,Xc27,Xc28,Xcb⟩
         simp only [putAll,Act.put,qA,qB,qC]
       | 27, _, hd, hk =>
         have h26:=hk 26 (by decide +kernel)
         have c26:=Xc26.out;obtain rfl:=c26 h26;clear c26;apply wpOp_at
         case ho=>rfl
         intro K hK;simp only [putAll,Act.put,qA,qB,qC];go_simp;refine hK _ _ ⟨_,_,_,_,_,_,_,_,_,_,_,_,_,_,_,_,_,_,_,_,_,_,_,_,_,(.pointer (some ⟨g,0,none⟩)),(.pointer (some ⟨g,22,none⟩)),A,C,?_,hB,Xc0,Xc1,Xc2,Xc3,Xc4,Xc5,Xc6,Xc7,Xc8,Xc9,Xc10,Xc11,Xc12,Xc13,Xc14,Xc15,Xc16,Xc17,Xc18,Xc19,Xc20,Xc21,Xc22,Xc23,Xc24,Xc25,Xc26,fun _=>rfl,Xc28,Xcb⟩
         simp only [putAll,Act.put,qA,qB,qC]
       | 28, _, hd, hk =>
         have h21:=hk 21 (by decide +kernel)
         have h25:=hk 25 (by decide +kernel)
         have h27:=hk 27 (by decide +kernel)
         have c21:=Xc21.out;have c25:=Xc25.out;have c27:=Xc27.out;obtain rfl:=c21 h21;obtain rfl:=c27 h27;obtain ⟨p9,hS9,hK9⟩:=(c25 h25).2 hd;have q22:w'.cell? ⟨g,22,none⟩=some (.int .i64 0):=hS9.ob.cell 22;have y22:=hS9.ob.free 22;have hM:=hS9.cod cd;clear c21 c25 c27;apply wpOp_at
         case ho=>rfl
         intro K hK;simp only [putAll,Act.put,qA,qB,qC];go_simp;have c18:=Xc18.out;have c25:=Xc25.out;refine hK _ _ ⟨_,_,_,_,_,_,_,_,_,_,_,_,_,_,_,_,_,_,e18,_,_,(.int .i64 cd),_,_,_,_,(.pointer (some ⟨g,22,none⟩)),A,C,?_,hB.setCell (p:=⟨g,22,none⟩) HS6.out.le _,Xc0,Xc1,Xc2,Xc3,Xc4,Xc5,Xc6,Xc7,Xc8,Xc9,Xc10,Xc11,Xc12,Xc13,Xc14,Xc15,Xc16,Xc17,fun h=>⟨(c18 h).1,(c18 h).2.1,(c18 h).2.2.1,(c18 h).2.2.2.1,(c18 h).2.2.2.2.1,fun k=>absurd (h25.symm.trans k) (by decide)⟩,Xc19,Xc20,Xc21,Xc22,Xc23,Xc24,fun h=>⟨(c25 h).1,fun k=>Bool.noConfusion (show true=false from k)⟩,Xc26,Xc27,fun _=>⟨h25,_,hM.1,hK9.trans hM.2⟩,fun h=>absurd (h25.symm.trans h) (by decide)⟩
         simp only [putAll,Act.put,qA,qB,qC]
       | k + 29,hi,_,_=>exact absurd hi (by simp)
      case ends =>
       intro d a' w' hJ hall;obtain ⟨e0,e1,e2,e3,e4,e5,e6,e7,e8,e9,e10,e11,e12,e13,e14,e15,e16,e17,e18,e19,e20,e21,e22,e23,e24,e26,e27,A,C,rfl,hC⟩:=hJ;obtain ⟨hB,hC⟩:=hC;obtain ⟨c0,hC⟩:=hC;obtain ⟨c1,hC⟩:=hC;obtain ⟨c2,hC⟩:=hC;obtain ⟨c3,hC⟩:=hC;obtain ⟨c4,hC⟩:=hC;obtain ⟨c5,hC⟩:=hC;obtain ⟨c6,hC⟩:=hC;obtain ⟨c7,hC⟩:=hC;obtain ⟨c8,hC⟩:=hC;obtain ⟨c9,hC⟩:=hC;obtain ⟨c10,hC⟩:=hC;obtain ⟨c11,hC⟩:=hC;obtain ⟨c12,hC⟩:=hC
       obtain ⟨c13,hC⟩:=hC;obtain ⟨c14,hC⟩:=hC;obtain ⟨c15,hC⟩:=hC;obtain ⟨c16,hC⟩:=hC;obtain ⟨c17,hC⟩:=hC;obtain ⟨c18,hC⟩:=hC;obtain ⟨c19,hC⟩:=hC;obtain ⟨c20,hC⟩:=hC;obtain ⟨c21,hC⟩:=hC;obtain ⟨c22,hC⟩:=hC;obtain ⟨c23,hC⟩:=hC;obtain ⟨c24,hC⟩:=hC;obtain ⟨c25,hC⟩:=hC;obtain ⟨c26,hC⟩:=hC;obtain ⟨c27,hC⟩:=hC;obtain ⟨c28,hC⟩:=hC;have cb:=hC;clear hC;have HT:=qH (c28 (hall 28 (by decide +kernel))).2
       obtain rfl:=c0 (hall 0 (by decide +kernel))
       obtain rfl:=c1 (hall 1 (by decide +kernel))
       obtain rfl:=c2 (hall 2 (by decide +kernel))
       obtain rfl:=c3 (hall 3 (by decide +kernel))
       obtain rfl:=c4 (hall 4 (by decide +kernel))
       obtain rfl:=c5 (hall 5 (by decide +kernel))
       obtain rfl:=c6 (hall 6 (by decide +kernel))
       obtain rfl:=c7 (hall 7 (by decide +kernel))
       obtain rfl:=c8 (hall 8 (by decide +kernel))
       obtain rfl:=c9 (hall 9 (by decide +kernel))
       obtain rfl:=c10 (hall 10 (by decide +kernel))
       obtain rfl:=c11 (hall 11 (by decide +kernel))
       obtain rfl:=c12 (hall 12 (by decide +kernel))
       obtain rfl:=c13 (hall 13 (by decide +kernel))
       obtain rfl:=c14 (hall 14 (by decide +kernel))
       obtain rfl:=c15 (hall 15 (by decide +kernel))
       obtain rfl:=c16 (hall 16 (by decide +kernel))
       obtain rfl:=c21 (hall 21 (by decide +kernel))
       obtain rfl:=c22 (hall 22 (by decide +kernel))
       obtain rfl:=c23 (hall 23 (by decide +kernel))
       obtain rfl:=c24 (hall 24 (by decide +kernel))
       obtain rfl:=c26 (hall 26 (by decide +kernel))
       obtain rfl:=c27 (hall 27 (by decide +kernel))
       obtain ⟨_,rfl⟩:=c17 (hall 17 (by decide +kernel))
       obtain ⟨_,rfl⟩:=c19 (hall 19 (by decide +kernel))
       obtain ⟨_,rfl⟩:=c20 (hall 20 (by decide +kernel))
       obtain ⟨_,_,_,_,rfl,_⟩:=c18 (hall 18 (by decide +kernel))
       clear c18 c25 c28 cb hall hB;simp only [putAll,Act.put,qA,qB,qC];subst Hx6;obtain ⟨p7,hS7,hK7⟩:=HT.out;clear HT;have HS7:=qH hS7;have HK7:=qH (HK6.out.trans hK7);have HR7:=qH (hK7.whole HR6.out (HS6.out.whole_ne HR6.out (by decide)) (HS6.out.own_other HR6.out (by decide)))
       have HG7:=qH (hK7.whole HG6.out (HS6.out.whole_ne HG6.out (by decide)) (HS6.out.own_other HG6.out (by decide)))
       clear hS7 hK7;have q14:=HS7.out.ob.cell 14;have y14:=HS7.out.ob.free 14;have hlt7:=HS7.out.lt;have ha7:p7.m=x.asked.length:=HS7.out.inn.2.2.2.2.1;have OK:=qH (nKeep_far p7.a p7.m p7.c x.asked m ha7 (by have:=Hfew.out.2; omega) w' HS7.out.inn.2.2.2.2.2)
       clear ha7;obtain ⟨la,Hla⟩:∃ z,Hid (keepN x.asked m=z):=⟨_,rfl⟩;rw [Hla.out] at OK;obtain ⟨LA,HLA⟩:∃ z,Hid (la.length=z):=⟨_,rfl⟩
       go_wp2_with fail
       refine OK.out.mono ?_;rintro e w10 ⟨A10,C10,rfl,_,hb10,hs10⟩;have HS10:=qH (HS7.out.later hb10);have HK10:=qH (HK7.out.next hb10);have HR10:=qH (HR7.out.later hb10 HR7.out.lt);have HG10:=qH (HG7.out.later hb10 HG7.out.lt);have hM:=HS10.out.asked (A:=A10) (C:=C10) (l:=la) (HS7.out.stay hs10);rw [HLA.out] at hM ⊢;have HS11:=qH hM.1;have HK11:=qH (HK10.out.trans hM.2);have HR11:=qH (hM.2.whole HR10.out (HS10.out.whole_ne HR10.out (by decide)) (HS10.out.own_other HR10.out (by decide)))
       have HG11:=qH (hM.2.whole HG10.out (HS10.out.whole_ne HG10.out (by decide)) (HS10.out.own_other HG10.out (by decide)))
       have hq14:=HS10.out.ob.cell 14;have hy14:=HS10.out.ob.free 14;have hlt10:=HS10.out.lt;have v0:=HR10.out.cell 0;have v1:=HR10.out.cell 1;have u0:=HR10.out.free 0;have u1:=HR10.out.free 1;have g0:=HG10.out.cell 0;have g1:=HG10.out.cell 1;have hl8:=HR10.out.lt;have hlg:=HG10.out.lt;have hn1:W.heap.size ≠ g:=HS10.out.whole_ne HR10.out (by decide)
       have hn2:gb ≠ g:=HS10.out.whole_ne HG10.out (by decide)
       have hn3:g ≠ W.heap.size:=fun e=>hn1 e.symm
       have hn4:g ≠ gb:=fun e=>hn2 e.symm
       clear hM hb10 hs10 q14 y14;have hR9:=(HR11.out.set 0 (.int .i64 T)).set 1 (.int .i64 who);have k0:=hR9.cell 0;have k1:=hR9.cell 1
       simp at k0 k1
       have HE8:=qH (StepTo.told (t:=T) (u:=who) HK11.out (HF.symm ▸ HS11.out) HR11.out (Nat.le_refl _) rfl);clear hR9
       go_wp2_with fail
       exact bodyPost_ret (v:=.agg #[.int .i64 T,.int .i64 who]) (by simp [results,Tryz.results44,go_sem,k0,k1]) rfl ⟨rfl,by rw [Hla.out]; exact HE8.out⟩
end Go.Proofs.YtecjnkokdnmhlaaGreat
