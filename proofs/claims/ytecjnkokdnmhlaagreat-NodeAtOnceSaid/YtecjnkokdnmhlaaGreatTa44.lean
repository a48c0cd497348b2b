/- Parts, as far as NodeAtOnceCards reaches them, of: NodeAtOnce. No law is proved here. -/
import Derived.Test.YtecjnkokdnmhlaaGreatTa42
import Derived.Test.YtecjnkokdnmhlaaGreatTa43
namespace Go.Proofs.YtecjnkokdnmhlaaGreat
open Go.RowKit
theorem dec_at_once {c:Cf} {who:Int} {x:Nd} {m:Int} (h:nodeOk c who x) (hn:(oldestN c who x.bk.notes).2=false) (hl:x.bk.line=[]) (h1:1≤m) (h2:m≤ofV c x.bk.rows who) (h3:x.bk.clk < 1125899906842624) (h4:(at_ x.bk.rows who.toNat).use + m≤1099511627776) :
 decNd c who x m=(⟨⟨x.bk.clk + 1,(takeR c x.bk.rows who m).1,[],[⟨x.bk.clk + 1,who,0⟩],0,x.bk.notes,au0⟩,x.tk,x.nx,keepN x.asked m⟩,(x.bk.clk + 1,who),0) ∧
 bookOk c who ⟨x.bk.clk + 1,(takeR c x.bk.rows who m).1,[],[⟨x.bk.clk + 1,who,0⟩],0,x.bk.notes,au0⟩:=by
 have hb:=h.1;have hc:=hb.1.1;have hcf:=hc
 unfold cfOk at hcf
 have hclk:=hb.2.2.1.1;have hu:0≤(at_ x.bk.rows who.toNat).use:=(hb.1.fits who.toNat (by have:=hb.1.2.1; have:=hb.2.1; omega)).2.2.2.1
 have e1:tickC x.bk.clk 0=0:=by unfold tickC; rw [if_neg (by omega),if_neg (by omega)]
 have e2:tickT x.bk.clk 0=x.bk.clk + 1:=by unfold tickT; rw [if_neg (by omega),if_neg (by omega),if_neg (by omega)]
 have hm2:m≤1099511627776:=by omega
 have hq:¬ c.q≤(x.bk.line.length:Int):=by rw [hl]; show ¬ c.q≤((0:Nat):Int); omega
 have hj:=IK.joins hb (t:=x.bk.clk + 1) (m:=m) (by omega) (by omega) ⟨h1,hm2⟩ (by omega)
 have htk:(takeR c x.bk.rows who m).2=0:=by
  have ha:askedV c x.bk.rows who m=0:=by unfold askedV; rw [if_pos ⟨hb.1,hb.2.1⟩,if_pos ⟨h1,hm2⟩]
  have h2':m≤rightsV c x.bk.rows who.toNat:=by unfold ofV at h2; rw [if_pos ⟨hb.1,hb.2.1⟩] at h2; exact h2
  unfold takeR
  rw [if_pos ha,if_pos h2',if_pos h4]
 have hs:=settle_at_once (c:=c) (who:=who) (k:=joinsK x.bk (x.bk.clk + 1) who m) (r:=⟨x.bk.clk + 1,who,m⟩) (by show x.bk.line ++ [_]=_; rw [hl]; rfl) hb.2.2.2.2.2.2.2.2.1 hn htk
 have hd:decNd c who x m=(⟨⟨x.bk.clk + 1,(takeR c x.bk.rows who m).1,[],[⟨x.bk.clk + 1,who,0⟩],0,x.bk.notes,au0⟩,x.tk,x.nx,keepN x.asked m⟩,(x.bk.clk + 1,who),0):=by
  unfold decNd
  rw [if_pos h,if_neg (by omega),if_neg hq,if_pos e1,e2,hs]
  rfl
 refine ⟨hd,?_⟩;have hI:=IK.book hj.settle;rw [hs] at hI
 exact hI
set_option maxRecDepth 100000 in
set_option maxHeartbeats 8000000 in
theorem nodeatonce_law (c:Cf) (who:Int) (x:Nd) (p:Nl) (amount:Int) (hR:Reach x.bk.rows) (w:World) (hK:NdIn w p x) :
 Calls Tryz.prog 6 #[cfV c,.int .i64 who,ndAt x p,.int .i64 amount] w (Says w true):=by
 have HX0:=qH (Whole.made2 w (.cells (cfCells c) 23) 39 (ndAtC x p));have HC0:=qH ((Whole.made w 23 (cfCells c)).alloc (.cells (ndAtC x p) 39));have HB0:=qH (below_two w (.cells (cfCells c) 23) (.cells (ndAtC x p) 39));have HI0:=qH (hK.later HB0.out);have HR:=qH hR;clear hK hR;obtain ⟨w0,Hw0⟩:∃ z,Hid (((w.alloc (.cells (cfCells c) 23)).alloc (.cells (ndAtC x p) 39))=z):=⟨_,rfl⟩;rw [Hw0.out] at HX0 HC0 HB0 HI0
 go_enter Tryz.func6,Tryz.ntmps6
 go_wp2_with fail
 rw [Hw0.out];refine (awake18 w0).mono ?_;rintro e w1 ⟨rfl,hb⟩;have HC1:=qH (HC0.out.later hb HC0.out.lt);have HX1:=qH (HX0.out.later hb HX0.out.lt);have HI1:=qH (HI0.out.later hb);have HB1:=qH (held_next HB0.out hb);clear hb HC0 HX0 HI0 HB0;obtain ⟨⟨z0,z1,z2,z3⟩,⟨z4,z5,z6,z7⟩,⟨z8,z9,z10,z11⟩,z12,z13,z14⟩:=nd_cells HX1.out;obtain ⟨d0,d1,d2,d3,d4,d5⟩:=config_cells HC1.out;obtain ⟨sh,Hsh⟩:∃ z,Hid (shortNd x p=z):=⟨_,rfl⟩
 have hlx:=HX1.out.lt
 go_wp2_with fail
 refine (refnshort_calls x p HR.out w1 HI1.out).mono ?_;rw [Hsh.out];rintro e w2 ⟨rfl,hb⟩;clear z0 z1 z2 z3 z4 z5 z6 z7 z8 z9 z10 z11 z12 z13 z14 d0 d1 d2 d3 d4 d5 hlx;have HC2:=qH (HC1.out.later hb HC1.out.lt);have HX2:=qH (HX1.out.later hb HX1.out.lt);have HI2:=qH (HI1.out.later hb);have HB2:=qH (held_next HB1.out hb);clear hb HC1 HX1 HI1 HB1;obtain ⟨⟨z0,z1,z2,z3⟩,⟨z4,z5,z6,z7⟩,⟨z8,z9,z10,z11⟩,z12,z13,z14⟩:=nd_cells HX2.out
 obtain ⟨d0,d1,d2,d3,d4,d5⟩:=config_cells HC2.out;obtain ⟨ok,Hok⟩:∃ z,Hid (nodeB c who x=z):=⟨_,rfl⟩
 cases sh with
 | false =>
   go_wp2_with fail
   go_ret
   exact ⟨by rfl,HB2.out⟩
 | true =>
 go_wp2_with fail
 refine (refnmay_calls c who x p w2 HI2.out).mono ?_;rw [Hok.out];rintro e w3 ⟨rfl,hb⟩;clear z0 z1 z2 z3 z4 z5 z6 z7 z8 z9 z10 z11 z12 z13 z14 d0 d1 d2 d3 d4 d5;have HC3:=qH (HC2.out.later hb HC2.out.lt);have HX3:=qH (HX2.out.later hb HX2.out.lt);have HI3:=qH (HI2.out.later hb);have HB3:=qH (held_next HB2.out hb);clear hb HC2 HX2 HI2 HB2
 cases ok with
 | false =>
   go_wp2_with fail
   go_ret
   exact ⟨by rfl,HB3.out⟩
 | true =>
 have hok:nodeOk c who x:=of_decide_eq_true Hok.out;have HOK:=qH hok;have few:=hok.few;have HF:=qH few;clear hok few;obtain ⟨⟨⟨ht,ha,hq⟩,cl⟩,Ho⟩:∃ z,Hid (oldestN c who x.bk.notes=z):=⟨_,rfl⟩;obtain ⟨⟨z0,z1,z2,z3⟩,⟨z4,z5,z6,z7⟩,⟨z8,z9,z10,z11⟩,z12,z13,z14⟩:=nd_cells HX3.out;obtain ⟨d0,d1,d2,d3,d4,d5⟩:=config_cells HC3.out
 go_wp2_with fail
 refine (refoldestN_calls c who p.bl.a4 p.bl.m4 p.bl.c4 x.bk.notes HI3.out.1.2.2.2.1.1 (by have h1:=HF.out.1.2.2.2.1; have h2:=HI3.out.1.2.2.2.1.1; omega) w3 HI3.out.1.2.2.2.1.2).mono ?_
 rw [Ho.out];rintro e w4 ⟨rfl,hb⟩;have hbx:=below_box w4 (.cells (rqCells ⟨ht,ha,hq⟩) 59);have hb4:=hb.trans (hbx.mono hb.size);clear z0 z1 z2 z3 z4 z5 z6 z7 z8 z9 z10 z11 z12 z13 z14 d0 d1 d2 d3 d4 d5;have HC4:=qH (HC3.out.later hb4 HC3.out.lt);have HX4:=qH (HX3.out.later hb4 HX3.out.lt);have HI4:=qH (HI3.out.later hb4);have HB4:=qH (held_next HB3.out hb4);clear hb hbx hb4 HC3 HX3 HI3 HB3
 cases cl with
 | true =>
   obtain ⟨⟨z0,z1,z2,z3⟩,⟨z4,z5,z6,z7⟩,⟨z8,z9,z10,z11⟩,z12,z13,z14⟩:=nd_cells HX4.out
   go_wp2_with fail
   go_ret
   exact ⟨by rfl,HB4.out⟩
 | false =>
 have hmline:=HI4.out.1.2.1.1
 by_cases hl:x.bk.line=[]
 rotate_left 1
 · have hpos:0 < x.bk.line.length:=List.length_pos_iff.2 hl
   obtain ⟨ML,HML⟩:∃ z,Hid (p.bl.m2=z):=⟨_,rfl⟩;have hml:(0:Int) < (ML:Int):=by rw [← HML.out,hmline]; omega
   obtain ⟨⟨z0,z1,z2,z3⟩,⟨z4,z5,z6,z7⟩,⟨z8,z9,z10,z11⟩,z12,z13,z14⟩:=nd_cells HX4.out;rw [HML.out] at z2;clear hmline hl hpos
   go_wp2_with fail
   go_ret
   exact ⟨by rfl,HB4.out⟩
 have hm0:p.bl.m2=0:=by rw [hmline,hl]; rfl
 clear hmline
 by_cases h1:amount < 1
 · obtain ⟨⟨z0,z1,z2,z3⟩,⟨z4,z5,z6,z7⟩,⟨z8,z9,z10,z11⟩,z12,z13,z14⟩:=nd_cells HX4.out
   rw [hm0] at z2;clear hm0 hl
   go_wp2_with fail
   go_ret
   exact ⟨by rfl,HB4.out⟩
 have Hl:=qH hl;have H1:=qH h1;have hA1:1≤amount:=by omega
 obtain ⟨V,HV⟩:∃ z,Hid (ofV c x.bk.rows who=z):=⟨_,rfl⟩;obtain ⟨⟨z0,z1,z2,z3⟩,⟨z4,z5,z6,z7⟩,⟨z8,z9,z10,z11⟩,z12,z13,z14⟩:=nd_cells HX4.out;obtain ⟨d0,d1,d2,d3,d4,d5⟩:=config_cells HC4.out;rw [hm0] at z2;have Hm0:=qH hm0;clear hm0 hl h1
 go_wp2_with fail
 obtain ⟨w4',Hw4'⟩:∃ z,Hid (w4.alloc (.cells (rqCells ⟨ht,ha,hq⟩) 59)=z):=⟨_,rfl⟩;rw [Hw4'.out] at HC4 HX4 HI4 HB4;have hw4:=Hw4'.out
 try simp only at hw4
 rw [hw4];clear hw4;refine (refOf_calls c p.bl.a1 p.bl.m1 p.bl.c1 x.bk.rows who HI4.out.1.1.1 w4' HI4.out.1.1.2).mono ?_;rw [HV.out];rintro e w5 ⟨rfl,hb⟩;clear z0 z1 z2 z3 z4 z5 z6 z7 z8 z9 z10 z11 z12 z13 z14 d0 d1 d2 d3 d4 d5;have HC5:=qH (HC4.out.later hb HC4.out.lt);have HX5:=qH (HX4.out.later hb HX4.out.lt);have HI5:=qH (HI4.out.later hb);have HB5:=qH (held_next HB4.out hb);clear hb HC4 HX4 HI4 HB4
 by_cases h2:V < amount
 · obtain ⟨⟨z0,z1,z2,z3⟩,⟨z4,z5,z6,z7⟩,⟨z8,z9,z10,z11⟩,z12,z13,z14⟩:=nd_cells HX5.out
   go_wp2_with fail
   go_ret
   exact ⟨by rfl,HB5.out⟩
 by_cases h3:1125899906842624≤x.bk.clk
 · obtain ⟨⟨z0,z1,z2,z3⟩,⟨z4,z5,z6,z7⟩,⟨z8,z9,z10,z11⟩,z12,z13,z14⟩:=nd_cells HX5.out
   go_wp2_with fail
   go_ret
   exact ⟨by rfl,HB5.out⟩
 have hb5:=HOK.out.1;have hcf:=hb5.1.1
 unfold cfOk at hcf
 have hwh:=hb5.2.1;have hrl:=hb5.1.2.1;obtain ⟨k,rfl⟩:∃ k:Nat,who=(k:Int):=⟨who.toNat,by omega⟩
 have hkl:k < x.bk.rows.length:=by omega
 have hfits:=hb5.1.fits k hkl;obtain ⟨b1,off1,A1,C1,ha1,hbw1,r0,r1,r2,hN1⟩:=HI5.out.1.1.2.at (k:=k) hkl;obtain ⟨us,Hus⟩:∃ z,Hid ((at_ x.bk.rows k).use=z):=⟨_,rfl⟩;have hub:0≤us∧us≤1099511627776:=by rw [← Hus.out]; exact ⟨hfits.2.2.2.1,hfits.2.2.2.2.1⟩
 rw [Hus.out] at r1;obtain ⟨T,HT⟩:∃ z,Hid (x.bk.clk + 1=z):=⟨_,rfl⟩;obtain ⟨⟨l,cdt⟩,Htk⟩:∃ z,Hid (takeR c x.bk.rows (k:Int) amount=z):=⟨_,rfl⟩;obtain ⟨la,Hla⟩:∃ z,Hid (keepN x.asked amount=z):=⟨_,rfl⟩;have hVb:=ofV_bound c x.bk.rows (k:Int);rw [HV.out] at hVb;have hwr:IntKind.i64.wrap (us + amount)=us + amount:=IntWalk.i64_in _ (by omega)
 have hm1:p.bl.m1=x.bk.rows.length:=HI5.out.1.1.1;have g0:(0:Int)≤(k:Int):=by omega
 have g1:(k:Int) < (p.bl.m1:Int):=by omega
 obtain ⟨⟨z0,z1,z2,z3⟩,⟨z4,z5,z6,z7⟩,⟨z8,z9,z10,z11⟩,z12,z13,z14⟩:=nd_cells HX5.out;rw [ha1] at z1;have hlx:=HX5.out.lt
 by_cases h4:1099511627776 < us + amount
 · clear hb5 hcf hwh hrl hkl hfits hN1 hm1 ha1 hbw1
   go_wp2_with fail
   go_ret
   exact ⟨by rfl,HB5.out⟩
 have hat:=dec_at_once (m:=amount) HOK.out (by rw [Ho.out]) Hl.out hA1 (by rw [HV.out]; omega) (by omega) (by show (at_ x.bk.rows k).use + amount≤_; rw [Hus.out]; omega)
 rw [HT.out,Htk.out,Hla.out] at hat
 try simp only at hat
 obtain ⟨Y,HY⟩:∃ z,Hid ((⟨⟨T,l,[],[⟨T,(k:Int),0⟩],0,x.bk.notes,au0⟩,x.tk,x.nx,la⟩:Nd)=z):=⟨_,rfl⟩;have hat2:decNd c (k:Int) x amount=(Y,(T,(k:Int)),0):=by rw [← HY.out]; exact hat.1
 have HYb:Hid (bookB c (k:Int) Y.bk=true):=qH (decide_eq_true (by rw [← HY.out]; exact hat.2))
 have HYr:Hid (Y.bk.rows=l):=qH (by rw [← HY.out])
 have HYo:Hid (Y.bk.outs=[⟨T,(k:Int),0⟩]):=qH (by rw [← HY.out])
 have HYl:Hid (Y.bk.line=[]):=qH (by rw [← HY.out])
 have HAT:=qH hat2;clear hat2;have Ha1:=qH ha1;clear hat hb5 hcf hwh hrl hkl hfits hN1 hm1 ha1 hbw1;obtain ⟨d0,d1,d2,d3,d4,d5⟩:=config_cells HC5.out
 go_wp2_with fail
 clear z0 z1 z2 z3 z4 z5 z6 z7 z8 z9 z10 z11 z12 z13 z14 d0 d1 d2 d3 d4 d5 r0 r1 r2 g0 g1 hwr;rw [← Ha1.out];refine (ndDec_calls c (k:Int) x p amount HF.out.1 HF.out.2 w5 HI5.out).mono ?_;rw [HAT.out];rintro e w6 ⟨p4,rfl,hb,hs⟩;simp only at hs;obtain ⟨⟨a1,m1,c1,a2,m2,c2,a3,m3,c3,a4,m4,c4,al⟩,pa,pm,pc⟩:=p4;have hI6:=hs.inn;obtain ⟨hn2,_⟩:=hI6.1.2.1;obtain ⟨hn3,hl3⟩:=hI6.1.2.2.1;rw [HYl.out] at hn2;rw [HYo.out] at hn3 hl3
 obtain ⟨b,off,ha3,k0,k1,k2⟩:=hl3.at (i:=0) (by simp)
 have hm2:m2=0:=hn2;have hm3:m3=1:=hn3;have hA3:a3=some ⟨b,off,none⟩:=ha3;have Q6:Hid (w6.cell? ⟨b,off,none⟩=some (.int .i64 T)∧w6.cell? ⟨b,off + 1,none⟩=some (.int .i64 (k:Int))∧w6.cell? ⟨b,off + 2,none⟩=some (.int .i64 0)):=⟨k0,k1,k2⟩;clear hn2 hn3 hl3 ha3 k0 k1 k2;subst hm2;subst hm3;subst hA3;have HI6':=qH hI6;have hbx:=below_two w6 (.cells (ndAtC Y ⟨⟨a1,m1,c1,a2,0,c2,some ⟨b,off,none⟩,1,c3,a4,m4,c4,al⟩,pa,pm,pc⟩) 39) (.cells #[.int .i64 T,.int .i64 (k:Int)] 48)
 have hb7:=hb.trans (hbx.mono hb.size);have HC7:=qH (HC5.out.later hb7 HC5.out.lt);have HX7:=qH (HX5.out.later hb7 HX5.out.lt);have HI7:=qH (HI5.out.later hb7);have HB7:=qH (held_next HB5.out hb7);have HY7:=qH ((Whole.made w6 39 (ndAtC Y ⟨⟨a1,m1,c1,a2,0,c2,some ⟨b,off,none⟩,1,c3,a4,m4,c4,al⟩,pa,pm,pc⟩)).alloc (.cells #[.int .i64 T,.int .i64 (k:Int)] 48));have HT7:=qH (Whole.made2 w6 (.cells (ndAtC Y ⟨⟨a1,m1,c1,a2,0,c2,some ⟨b,off,none⟩,1,c3,a4,m4,c4,al⟩,pa,pm,pc⟩) 39) 48 #[.int .i64 T,.int .i64 (k:Int)])
 have HN7:=qH (HI6'.out.later hbx);have HQ7:Hid (((w6.alloc (.cells (ndAtC Y ⟨⟨a1,m1,c1,a2,0,c2,some ⟨b,off,none⟩,1,c3,a4,m4,c4,al⟩,pa,pm,pc⟩) 39)).alloc (.cells #[.int .i64 T,.int .i64 (k:Int)] 48)).cell? ⟨b,off,none⟩=some (.int .i64 T)∧((w6.alloc (.cells (ndAtC Y ⟨⟨a1,m1,c1,a2,0,c2,some ⟨b,off,none⟩,1,c3,a4,m4,c4,al⟩,pa,pm,pc⟩) 39)).alloc (.cells #[.int .i64 T,.int .i64 (k:Int)] 48)).cell? ⟨b,off + 1,none⟩=some (.int .i64 (k:Int))∧((w6.alloc (.cells (ndAtC Y ⟨⟨a1,m1,c1,a2,0,c2,some ⟨b,off,none⟩,1,c3,a4,m4,c4,al⟩,pa,pm,pc⟩) 39)).alloc (.cells #[.int .i64 T,.int .i64 (k:Int)] 48)).cell? ⟨b,off + 2,none⟩=some (.int .i64 0)):=⟨cell_later hbx Q6.out.1,cell_later hbx Q6.out.2.1,cell_later hbx Q6.out.2.2⟩
 obtain ⟨d0,d1,d2,d3,d4,d5⟩:=config_cells HC7.out;have z1:((w6.alloc (.cells (ndAtC Y ⟨⟨a1,m1,c1,a2,0,c2,some ⟨b,off,none⟩,1,c3,a4,m4,c4,al⟩,pa,pm,pc⟩) 39)).alloc (.cells #[.int .i64 T,.int .i64 (k:Int)] 48)).cell? ⟨w.heap.size + 1,1,none⟩=some (.slice p.bl.a1 p.bl.m1 p.bl.c1):=HX7.out.cell 1;clear hb hs hI6 hbx hb7 HC5 HX5 HI5 HB5
 go_wp2_with fail
 clear d0 d1 d2 d3 d4 d5 z1;obtain ⟨w7,Hw7⟩:∃ z,Hid (((w6.alloc (.cells (ndAtC Y ⟨⟨a1,m1,c1,a2,0,c2,some ⟨b,off,none⟩,1,c3,a4,m4,c4,al⟩,pa,pm,pc⟩) 39)).alloc (.cells #[.int .i64 T,.int .i64 (k:Int)] 48))=z):=⟨_,rfl⟩;obtain ⟨g11,Hg11⟩:∃ z,Hid (w6.heap.size=z):=⟨_,rfl⟩;rw [Hw7.out] at HC7 HX7 HI7 HB7 HY7 HT7 HN7 HQ7;rw [Hg11.out] at HY7 HT7 ⊢;have hw7:=Hw7.out
 try simp only at hw7
 rw [hw7];clear hw7;refine (reftake_far c p.bl.a1 p.bl.m1 p.bl.c1 x.bk.rows (k:Int) amount HI7.out.1.1.1 w7 HI7.out.1.1.2).mono ?_;rw [Htk.out];rintro e w9 ⟨A,C,rfl,hB,hb,_⟩;simp only at hB;have HC9:=qH (HC7.out.later hb HC7.out.lt);have HB9:=qH (held_next HB7.out hb);have HY9:=qH (HY7.out.later hb HY7.out.lt);have HT9:=qH (HT7.out.later hb HT7.out.lt);have HN9:=qH (HN7.out.later hb);have q0:=cell_later hb HQ7.out.1
 have q1:=cell_later hb HQ7.out.2.1;have q2:=cell_later hb HQ7.out.2.2;have HBk:=qH hB;clear hb hB HC7 HX7 HI7 HB7 HY7 HT7 HN7 HQ7 Q6;obtain ⟨L,HL⟩:∃ z,Hid (l.length=z):=⟨_,rfl⟩
 have O1:Hid (∀ w',Below w9.heap.size w9 w'→Calls Tryz.prog 27 #[.slice a1 m1 c1,.slice A L C] w' (Says w' true)):=fun w' hb=>by
  have h1:=refsamebooks_calls a1 m1 c1 A l.length C Y.bk.rows l HN9.out.1.1.1 rfl w' (HN9.out.1.1.2.later hb) (HBk.out.later hb);rw [HYr.out,sameL_self,HL.out] at h1
  exact h1
 have O2:Hid (∀ w',Below w9.heap.size w9 w'→Calls Tryz.prog 31 #[cfV c,.int .i64 (k:Int),bkAt Y.bk ⟨a1,m1,c1,a2,0,c2,some ⟨b,off,none⟩,1,c3,a4,m4,c4,al⟩] w' (Says w' true)):=fun w' hb=>by
  have h1:=refkmay_calls c (k:Int) Y.bk ⟨a1,m1,c1,a2,0,c2,some ⟨b,off,none⟩,1,c3,a4,m4,c4,al⟩ w' (HN9.out.1.later hb);rw [HYb.out] at h1
  exact h1
 have KP9:Hid (∀ w',Below w9.heap.size w9 w'→(Below w9.heap.size w9 w'∧(w'.cell? ⟨w.heap.size,0,none⟩=some (.int .i64 c.n)∧w'.cell? ⟨w.heap.size,1,none⟩=some (.int .i64 c.q)∧w'.cell? ⟨w.heap.size,2,none⟩=some (.int .i64 c.r)∧w'.cell? ⟨w.heap.size,3,none⟩=some (.int .i64 c.p)∧w'.cell? ⟨w.heap.size,4,none⟩=some (.int .i64 c.k)∧w'.cell? ⟨w.heap.size,5,none⟩=some (.int .i64 c.c))∧(w'.cell? ⟨g11,0,none⟩=some (.int .i64 Y.bk.clk)∧w'.cell? ⟨g11,1,none⟩=some (.slice a1 m1 c1)∧w'.cell? ⟨g11,2,none⟩=some (.slice a2 0 c2)∧w'.cell? ⟨g11,3,none⟩=some (.slice (some ⟨b,off,none⟩) 1 c3)∧w'.cell? ⟨g11,4,none⟩=some (.int .i64 Y.bk.asks)∧w'.cell? ⟨g11,5,none⟩=some (.slice a4 m4 c4)∧w'.cell? ⟨g11,6,none⟩=some (.int .i64 Y.bk.au.try_)∧w'.cell? ⟨g11,7,none⟩=some (.int .i64 Y.bk.au.ph)∧w'.cell? ⟨g11,8,none⟩=some (.slice al.a1 al.m1 al.c1)∧w'.cell? ⟨g11,9,none⟩=some (.slice al.a2 al.m2 al.c2)∧w'.cell? ⟨g11,10,none⟩=some (.slice al.a3 al.m3 al.c3)∧w'.cell? ⟨g11,11,none⟩=some (.bool Y.bk.au.moved)∧w'.cell? ⟨g11,12,none⟩=some (.int .i64 Y.tk)∧w'.cell? ⟨g11,13,none⟩=some (.int .i64 Y.nx)∧w'.cell? ⟨g11,14,none⟩=some (.slice pa pm pc))∧(w'.cell? ⟨g11 + 1,0,none⟩=some (.int .i64 T)∧w'.cell? ⟨g11 + 1,1,none⟩=some (.int .i64 (k:Int)))∧(w'.cell? ⟨b,off,none⟩=some (.int .i64 T)∧w'.cell? ⟨b,off + 1,none⟩=some (.int .i64 (k:Int))∧w'.cell? ⟨b,off + 2,none⟩=some (.int .i64 0)))):=fun w' hb=>⟨hb,⟨(HC9.out.later hb HC9.out.lt).cell 0,(HC9.out.later hb HC9.out.lt).cell 1,(HC9.out.later hb HC9.out.lt).cell 2,(HC9.out.later hb HC9.out.lt).cell 3,(HC9.out.later hb HC9.out.lt).cell 4,(HC9.out.later hb HC9.out.lt).cell 5⟩,⟨(HY9.out.later hb HY9.out.lt).cell 0,(HY9.out.later hb HY9.out.lt).cell 1,(HY9.out.later hb HY9.out.lt).cell 2,(HY9.out.later hb HY9.out.lt).cell 3,(HY9.out.later hb HY9.out.lt).cell 4,(HY9.out.later hb HY9.out.lt).cell 5,(HY9.out.later hb HY9.out.lt).cell 6,(HY9.out.later hb HY9.out.lt).cell 7,(HY9.out.later hb HY9.out.lt).cell 8,(HY9.out.later hb HY9.out.lt).cell 9,(HY9.out.later hb HY9.out.lt).cell 10,(HY9.out.later hb HY9.out.lt).cell 11,(HY9.out.later hb HY9.out.lt).cell 12,(HY9.out.later hb HY9.out.lt).cell 13,(HY9.out.later hb HY9.out.lt).cell 14⟩,⟨(HT9.out.later hb HT9.out.lt).cell 0,(HT9.out.later hb HT9.out.lt).cell 1⟩,⟨cell_later hb q0,cell_later hb q1,cell_later hb q2⟩⟩
 rw [HL.out];clear q0 q1 q2
 go_wp2_with fail
 go_region_held3 (fun w'=>Below w9.heap.size w9 w'∧(w'.cell? ⟨w.heap.size,0,none⟩=some (.int .i64 c.n)∧w'.cell? ⟨w.heap.size,1,none⟩=some (.int .i64 c.q)∧w'.cell? ⟨w.heap.size,2,none⟩=some (.int .i64 c.r)∧w'.cell? ⟨w.heap.size,3,none⟩=some (.int .i64 c.p)∧w'.cell? ⟨w.heap.size,4,none⟩=some (.int .i64 c.k)∧w'.cell? ⟨w.heap.size,5,none⟩=some (.int .i64 c.c))∧(w'.cell? ⟨g11,0,none⟩=some (.int .i64 Y.bk.clk)∧w'.cell? ⟨g11,1,none⟩=some (.slice a1 m1 c1)∧w'.cell? ⟨g11,2,none⟩=some (.slice a2 0 c2)∧w'.cell? ⟨g11,3,none⟩=some (.slice (some ⟨b,off,none⟩) 1 c3)∧w'.cell? ⟨g11,4,none⟩=some (.int .i64 Y.bk.asks)∧w'.cell? ⟨g11,5,none⟩=some (.slice a4 m4 c4)∧w'.cell? ⟨g11,6,none⟩=some (.int .i64 Y.bk.au.try_)∧w'.cell? ⟨g11,7,none⟩=some (.int .i64 Y.bk.au.ph)∧w'.cell? ⟨g11,8,none⟩=some (.slice al.a1 al.m1 al.c1)∧w'.cell? ⟨g11,9,none⟩=some (.slice al.a2 al.m2 al.c2)∧w'.cell? ⟨g11,10,none⟩=some (.slice al.a3 al.m3 al.c3)∧w'.cell? ⟨g11,11,none⟩=some (.bool Y.bk.au.moved)∧w'.cell? ⟨g11,12,none⟩=some (.int .i64 Y.tk)∧w'.cell? ⟨g11,13,none⟩=some (.int .i64 Y.nx)∧w'.cell? ⟨g11,14,none⟩=some (.slice pa pm pc))∧(w'.cell? ⟨g11 + 1,0,none⟩=some (.int .i64 T)∧w'.cell? ⟨g11 + 1,1,none⟩=some (.int .i64 (k:Int)))∧(w'.cell? ⟨b,off,none⟩=some (.int .i64 T)∧w'.cell? ⟨b,off + 1,none⟩=some (.int .i64 (k:Int))∧w'.cell? ⟨b,off + 2,none⟩=some (.int .i64 0)))
  (first | exact KP9.out _ (Below.refl _ _).drew | (refine KP9.out _ ?_; assumption))
  (first | (go_at_call 27; have hcur:=(‹Below w9.heap.size w9 _∧_∧_›).1; (with_reducible refine (O1.out _ hcur).mono ?_); rintro ee wn ⟨rfl,hb⟩; have hS:=held_next hcur hb; clear hb) | (go_at_call 31; have hcur:=(‹Below w9.heap.size w9 _∧_∧_›).1; (with_reducible refine (O2.out _ hcur).mono ?_); rintro ee wm ⟨rfl,hb⟩; have hS:=held_next hcur hb; clear hb))
 all_goals (
  have hbz:=(‹Below w9.heap.size w9 _∧_∧_›).1
  go_wp2_with fail
  go_ret
  exact ⟨by rfl,held_next HB9.out hbz⟩)
end Go.Proofs.YtecjnkokdnmhlaaGreat
