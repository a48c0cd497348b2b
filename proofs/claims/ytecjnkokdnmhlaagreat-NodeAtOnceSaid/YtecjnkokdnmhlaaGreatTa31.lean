/- Parts, as far as NodeAtOnceCards reaches them, of: AuditBegin. No law is proved here. -/
import Derived.Test.YtecjnkokdnmhlaaGreatTa19
import Derived.Test.YtecjnkokdnmhlaaGreatTa13
namespace Go.Proofs.YtecjnkokdnmhlaaGreat
open Go.RowKit
set_option maxRecDepth 100000 in
set_option maxHeartbeats 8000000 in
theorem aBeginO_calls (c:Cf) (who tr:Int) (w:World):Calls Tryz.prog 172 #[cfV c,.int .i64 who,.int .i64 tr] w (GaveAO w (fun _=>True) (beginA c who tr)):=by
 have HW:=qH ((Whole.made w 23 (cfCells c)).alloc (.cells (auCells au0 (.slice none 0 0) (.slice none 0 0) (.slice none 0 0)) 33));have HZ:=qH (Whole.made2 w (.cells (cfCells c) 23) 33 (auCells au0 (.slice none 0 0) (.slice none 0 0) (.slice none 0 0)));have Hb0:=qH (below_two w (.cells (cfCells c) 23) (.cells (auCells au0 (.slice none 0 0) (.slice none 0 0) (.slice none 0 0)) 33));have hsz0:w.heap.size + 1 + 1≤((w.alloc (.cells (cfCells c) 23)).alloc (.cells (auCells au0 (.slice none 0 0) (.slice none 0 0) (.slice none 0 0)) 33)).heap.size:=by simp
 have Hsz0:=qH hsz0;clear hsz0;obtain ⟨nn,q,r,p,kk,cc⟩:=c;obtain ⟨am,Ham⟩:∃ z,Hid (amB ⟨nn,q,r,p,kk,cc⟩ who=z):=⟨_,rfl⟩;obtain ⟨v,Hv⟩:∃ z,Hid (withinB tr 1 1125899906842624=z):=⟨_,rfl⟩;obtain ⟨res,Hres⟩:∃ z,Hid (beginA ⟨nn,q,r,p,kk,cc⟩ who tr=z):=⟨_,qH rfl⟩;rw [Hres.out];have no:¬ (am=true∧v=true)→res=(au0,1):=fun h=>Hres.out.symm.trans (begin_no fun h2=>h ⟨Ham.out.symm.trans (decide_eq_true ⟨h2.1,h2.2.1⟩),Hv.out.symm.trans (decide_eq_true h2.2.2)⟩)
 have No:=qH no; clear no;have hend:∀ W0 W,W=au6 W0 (w.heap.size + 1) au0 ⟨none,0,0,none,0,0,none,0,0⟩→Below w.heap.size w W0→Below w.heap.size w W:=fun W0 W e h=>by rw [e]; exact au6_below h (Nat.le_succ _)
 have Hend0:=qH hend; clear hend
 go_enter Tryz.func172,Tryz.ntmps172
 obtain ⟨d0,d1,d2,d3,d4,d5⟩:=config_cells HW.out;simp only at d0 d1 d2 d3 d4 d5
 go_wp2_with fail
 refine (auamong_calls ⟨nn,q,r,p,kk,cc⟩ who _).mono ?_;rw [Ham.out];rintro e w1 ⟨rfl,hb⟩;have Hb1:=qH (held_next Hb0.out hb);have HW1:=qH (HW.out.later hb HW.out.lt);have HZ1:=qH (HZ.out.later hb HZ.out.lt);have Hsz:Hid (w.heap.size + 1 + 1≤w1.heap.size):=Nat.le_trans Hsz0.out hb.size;have Hend:Hid (∀ W,W=au6 w1 (w.heap.size + 1) au0 ⟨none,0,0,none,0,0,none,0,0⟩→Below w.heap.size w W):=fun W e=>Hend0.out w1 W e Hb1.out
 have HZn:=qH (au6_whole (y:=au0) (p:=⟨none,0,0,none,0,0,none,0,0⟩) HZ1.out);clear hb d0 d1 d2 d3 d4 d5 HW HZ Hb0 Hsz0 Hend0;have y0:=HZ1.out.free 0;have y1:=HZ1.out.free 1;have y2:=HZ1.out.free 2;have y3:=HZ1.out.free 3;have y4:=HZ1.out.free 4;have y5:=HZ1.out.free 5;obtain ⟨z0,z1,z2,z3,z4,z5⟩:=au_cells HZ1.out;simp only at z0 z1 z2 z3 z4 z5
 cases am with
 | false =>
   obtain rfl:=No.out (fun h=>by cases h.1)
   go_wp2_with fail
   obtain ⟨q0,q1,q2,q3,q4,q5⟩:=au_cells HZn.out;simp only [au6] at q0 q1 q2 q3 q4 q5;refine bodyPost_ret (v:=.tuple #[auAt au0 ⟨none,0,0,none,0,0,none,0,0⟩,.int .i64 1]) (by simp [results,Tryz.results172,go_sem,q0,q1,q2,q3,q4,q5]) rfl ⟨⟨none,0,0,none,0,0,none,0,0⟩,rfl,au_in_none _,Hend.out _ rfl,fun _ _ _=>off_none _⟩
 | true =>
 go_wp2_with fail
 refine (auwithin_calls tr 1 1125899906842624 _).mono ?_;rw [Hv.out];rintro e w2 ⟨rfl,rfl⟩
 cases v with
 | false =>
   obtain rfl:=No.out (fun h=>by cases h.2)
   go_wp2_with fail
   obtain ⟨q0,q1,q2,q3,q4,q5⟩:=au_cells HZn.out;simp only [au6] at q0 q1 q2 q3 q4 q5;refine bodyPost_ret (v:=.tuple #[auAt au0 ⟨none,0,0,none,0,0,none,0,0⟩,.int .i64 1]) (by simp [results,Tryz.results172,go_sem,q0,q1,q2,q3,q4,q5]) rfl ⟨⟨none,0,0,none,0,0,none,0,0⟩,rfl,au_in_none _,Hend.out _ rfl,fun _ _ _=>off_none _⟩
 | true =>
   have hcw:=of_decide_eq_true Ham.out;have htr:1≤tr∧tr≤1125899906842624:=of_decide_eq_true Hv.out;obtain ⟨N,hN⟩:∃ N:Nat,nn=(N:Int):=⟨nn.toNat,by have h:1≤nn:=hcw.1.1; omega⟩
   subst hN;have h16:N≤16:=by have h:(N:Int)≤16:=hcw.1.2.1; omega
   have hx:beginA ⟨(N:Int),q,r,p,kk,cc⟩ who tr=(⟨tr,1,List.replicate N false,List.replicate N 0,List.replicate N 0,false⟩,0):=by rw [begin_yes ⟨hcw.1,hcw.2,htr⟩]; show (_,_)=(_,_); rw [Int.toNat_natCast]
   obtain rfl:=Hres.out.symm.trans hx;clear hx hcw htr z0 z1 z2 z3 z4 z5 y0 y1 y2 y3 y4 y5 HZn Hend No;have hmk1:∀ w:World,(Instr.makeSlice 30 (.int .i64 (N:Int)) (.int .i64 (N:Int))).run Tryz.prog w=.ok (.slice (some ⟨w.heap.size,0,none⟩) N N) (w.alloc (.cells (madeCells #[.bool false] N) 4)):=fun w=>run_make_bools (by omega)
   have hmk2:∀ w:World,(Instr.makeSlice 31 (.int .i64 (N:Int)) (.int .i64 (N:Int))).run Tryz.prog w=.ok (.slice (some ⟨w.heap.size,0,none⟩) N N) (w.alloc (.cells (madeCells #[.int .i64 0] N) 2)):=fun w=>run_make_n64 (by omega)
   go_wp2_with fail
   refine wp_region_each_at ?hm ?hb (fun a0 d a' w'=>∃ (e0 e1 e2 e3 e4 e5 e6 e7 e8 e9 e10 e11 e13:Value) (g4:Nat) (g7:Nat) (g10:Nat),a'=putAll a0 [(18,e0),(19,e1),(20,e2),(21,e3),(22,e4),(23,e5),(24,e6),(25,e7),(26,e8),(27,e9),(28,e10),(29,e11),(7,e13)]∧Below w.heap.size w w'∧(d 0=true→e0=(.int .i64 tr))∧(d 1=true→e1=(.agg #[.int .i64 tr,.int .i64 1]))∧(d 2=true→e2=(.pointer (some ⟨w.heap.size,0,none⟩)))∧(d 3=true→e3=(.int .i64 (N:Int)))∧(d 4=true→(e4=(.slice (some ⟨g4,0,none⟩) N N)∧OwnT w' (w.heap.size + 1 + 1) (.slice (some ⟨g4,0,none⟩) N N) (List.replicate N false)))∧(d 5=true→e5=(.pointer (some ⟨w.heap.size,0,none⟩)))∧(d 6=true→e6=(.int .i64 (N:Int)))∧(d 7=true→(e7=(.slice (some ⟨g7,0,none⟩) N N)∧OwnN w' (w.heap.size + 1 + 1) (.slice (some ⟨g7,0,none⟩) N N) (List.replicate N (0:Int))))∧(d 8=true→e8=(.pointer (some ⟨w.heap.size,0,none⟩)))∧(d 9=true→e9=(.int .i64 (N:Int)))∧(d 10=true→(e10=(.slice (some ⟨g10,0,none⟩) N N)∧OwnN w' (w.heap.size + 1 + 1) (.slice (some ⟨g10,0,none⟩) N N) (List.replicate N (0:Int))))∧(d 11=true→(d 4=true∧d 7=true∧d 10=true∧e11=(auAt ⟨tr,1,List.replicate N false,List.replicate N 0,List.replicate N 0,false⟩ ⟨some ⟨g4,0,none⟩,N,N,some ⟨g7,0,none⟩,N,N,some ⟨g10,0,none⟩,N,N⟩)))∧(d 12=true→(d 11=true∧Whole w' (w.heap.size + 1) 33 (auCells ⟨tr,1,List.replicate N false,List.replicate N 0,List.replicate N 0,false⟩ (.slice (some ⟨g4,0,none⟩) N N) (.slice (some ⟨g7,0,none⟩) N N) (.slice (some ⟨g10,0,none⟩) N N))))∧(d 13=true→e13=(.int .i64 0))∧Whole w' w.heap.size 23 (cfCells ⟨(N:Int),q,r,p,kk,cc⟩)∧(w.heap.size + 1 + 1)≤w'.heap.size∧(d 12=false→Whole w' (w.heap.size + 1) 33 (auCells au0 (.slice none 0 0) (.slice none 0 0) (.slice none 0 0)))) ?h0 ?step ?ends
   case hm=>kernel_rfl
   case hb=>kernel_rfl
   case h0 =>
    refine ⟨undef,undef,undef,undef,undef,undef,undef,undef,undef,undef,undef,undef,(.int .i64 0),0,0,0,?_,Hb1.out.drew,fun h=>absurd h (by decide),fun h=>absurd h (by decide),fun h=>absurd h (by decide),fun h=>absurd h (by decide),fun h=>absurd h (by decide),fun h=>absurd h (by decide),fun h=>absurd h (by decide),fun h=>absurd h (by decide),fun h=>absurd h (by decide),fun h=>absurd h (by decide),fun h=>absurd h (by decide),fun h=>absurd h (by decide),fun h=>absurd h (by decide),fun h=>absurd h (by decide),HW1.out,Hsz.out,fun _=>HZ1.out⟩
    simp only [putAll,Act.put,qA,qB,qC]
   case step =>
    intro i d a' w' hi hJ hd hk;obtain ⟨e0,e1,e2,e3,e4,e5,e6,e7,e8,e9,e10,e11,e13,g4,g7,g10,rfl,hC⟩:=hJ;obtain ⟨hB,hC⟩:=hC;obtain ⟨c0,hC⟩:=hC;obtain ⟨c1,hC⟩:=hC;obtain ⟨c2,hC⟩:=hC;obtain ⟨c3,hC⟩:=hC;obtain ⟨c4,hC⟩:=hC;obtain ⟨c5,hC⟩:=hC;obtain ⟨c6,hC⟩:=hC;obtain ⟨c7,hC⟩:=hC;obtain ⟨c8,hC⟩:=hC;obtain ⟨c9,hC⟩:=hC;obtain ⟨c10,hC⟩:=hC;obtain ⟨c11,hC⟩:=hC;obtain ⟨c12,hC⟩:=hC;obtain ⟨c13,hC⟩:=hC;obtain ⟨cw,hC⟩:=hC
    obtain ⟨cz,hC⟩:=hC;have cr:=hC;clear hC
    match i,hi,hd,hk with
    | 0, _, hd, hk =>
      apply wpOp_at
      case ho=>rfl
      intro K hK;simp only [putAll,Act.put,qA,qB,qC];go_simp;refine hK _ _ ⟨(.int .i64 tr),e1,e2,e3,e4,e5,e6,e7,e8,e9,e10,e11,e13,g4,g7,g10,?_,hB,fun _=>rfl,c1,c2,c3,c4,c5,c6,c7,c8,c9,c10,c11,c12,c13,cw,cz,cr⟩
      simp only [putAll,Act.put,qA,qB,qC]
    | 1, _, hd, hk =>
      have h0:=hk 0 (by decide +kernel)
      obtain rfl:=c0 h0;apply wpOp_at
      case ho=>rfl
      intro K hK;simp only [putAll,Act.put,qA,qB,qC];go_simp;refine hK _ _ ⟨(.int .i64 tr),(.agg #[.int .i64 tr,.int .i64 1]),e2,e3,e4,e5,e6,e7,e8,e9,e10,e11,e13,g4,g7,g10,?_,hB,c0,fun _=>rfl,c2,c3,c4,c5,c6,c7,c8,c9,c10,c11,c12,c13,cw,cz,cr⟩
      simp only [putAll,Act.put,qA,qB,qC]
    | 2, _, hd, hk =>
      apply wpOp_at
      case ho=>rfl
      intro K hK;simp only [putAll,Act.put,qA,qB,qC];go_simp;refine hK _ _ ⟨e0,e1,(.pointer (some ⟨w.heap.size,0,none⟩)),e3,e4,e5,e6,e7,e8,e9,e10,e11,e13,g4,g7,g10,?_,hB,c0,c1,fun _=>rfl,c3,c4,c5,c6,c7,c8,c9,c10,c11,c12,c13,cw,cz,cr⟩
      simp only [putAll,Act.put,qA,qB,qC]
    | 3, _, hd, hk =>
      have h2:=hk 2 (by decide +kernel)
      obtain rfl:=c2 h2;obtain ⟨z0,z1,z2,z3,z4,z5⟩:=config_cells cw;simp only at z0 z1 z2 z3 z4 z5;apply wpOp_at
      case ho=>rfl
      intro K hK;simp only [putAll,Act.put,qA,qB,qC];go_simp;refine hK _ _ ⟨e0,e1,(.pointer (some ⟨w.heap.size,0,none⟩)),(.int .i64 (N:Int)),e4,e5,e6,e7,e8,e9,e10,e11,e13,g4,g7,g10,?_,hB,c0,c1,c2,fun _=>rfl,c4,c5,c6,c7,c8,c9,c10,c11,c12,c13,cw,cz,cr⟩
      simp only [putAll,Act.put,qA,qB,qC]
    | 4, _, hd, hk =>
      have h3:=hk 3 (by decide +kernel)
      obtain rfl:=c3 h3;have hb:=below_box w' (.cells (madeCells #[.bool false] N) 4);have hnew:=own_made_t (w:=w') (N:=N) (B:=(w.heap.size + 1 + 1)) (by omega) cz
      apply wpOp_at
      case ho=>rfl
      intro K hK;simp only [putAll,Act.put,qA,qB,qC];go_simp;refine hK _ _ ⟨e0,e1,e2,(.int .i64 (N:Int)),.slice (some ⟨w'.heap.size,0,none⟩) N N,e5,e6,e7,e8,e9,e10,e11,e13,w'.heap.size,g7,g10,?_,hB.trans (hb.mono hB.size),c0,c1,c2,c3,fun _=>⟨rfl,hnew⟩,c5,c6,fun h=>⟨(c7 h).1,own_later (c7 h).2 hb⟩,c8,c9,fun h=>⟨(c10 h).1,own_later (c10 h).2 hb⟩,fun h=>Bool.noConfusion (hd.symm.trans (c11 h).1),fun h=>Bool.noConfusion (hd.symm.trans (c11 (c12 h).1).1),c13,cw.later hb cw.lt,Nat.le_trans cz hb.size,fun h=>(cr h).later hb (cr h).lt⟩
      simp only [putAll,Act.put,qA,qB,qC]
    | 5, _, hd, hk =>
      apply wpOp_at
      case ho=>rfl
      intro K hK;simp only [putAll,Act.put,qA,qB,qC];go_simp;refine hK _ _ ⟨e0,e1,e2,e3,e4,(.pointer (some ⟨w.heap.size,0,none⟩)),e6,e7,e8,e9,e10,e11,e13,g4,g7,g10,?_,hB,c0,c1,c2,c3,c4,fun _=>rfl,c6,c7,c8,c9,c10,c11,c12,c13,cw,cz,cr⟩
      simp only [putAll,Act.put,qA,qB,qC]
    | 6, _, hd, hk =>
      have h5:=hk 5 (by decide +kernel)
      obtain rfl:=c5 h5;obtain ⟨z0,z1,z2,z3,z4,z5⟩:=config_cells cw;simp only at z0 z1 z2 z3 z4 z5;apply wpOp_at
      case ho=>rfl
      intro K hK;simp only [putAll,Act.put,qA,qB,qC];go_simp;refine hK _ _ ⟨e0,e1,e2,e3,e4,(.pointer (some ⟨w.heap.size,0,none⟩)),(.int .i64 (N:Int)),e7,e8,e9,e10,e11,e13,g4,g7,g10,?_,hB,c0,c1,c2,c3,c4,c5,fun _=>rfl,c7,c8,c9,c10,c11,c12,c13,cw,cz,cr⟩
      simp only [putAll,Act.put,qA,qB,qC]
    | 7, _, hd, hk =>
      have h6:=hk 6 (by decide +kernel)
      obtain rfl:=c6 h6;have hb:=below_box w' (.cells (madeCells #[.int .i64 0] N) 2);have hnew:=own_made_n (w:=w') (N:=N) (B:=(w.heap.size + 1 + 1)) (by omega) cz
      apply wpOp_at
      case ho=>rfl
      intro K hK;simp only [putAll,Act.put,qA,qB,qC];go_simp;refine hK _ _ ⟨e0,e1,e2,e3,e4,e5,(.int .i64 (N:Int)),.slice (some ⟨w'.heap.size,0,none⟩) N N,e8,e9,e10,e11,e13,g4,w'.heap.size,g10,?_,hB.trans (hb.mono hB.size),c0,c1,c2,c3,fun h=>⟨(c4 h).1,own_later (c4 h).2 hb⟩,c5,c6,fun _=>⟨rfl,hnew⟩,c8,c9,fun h=>⟨(c10 h).1,own_later (c10 h).2 hb⟩,fun h=>Bool.noConfusion (hd.symm.trans (c11 h).2.1),fun h=>Bool.noConfusion (hd.symm.trans (c11 (c12 h).1).2.1),c13,cw.later hb cw.lt,Nat.le_trans cz hb.size,fun h=>(cr h).later hb (cr h).lt⟩
      simp only [putAll,Act.put,qA,qB,qC]
    | 8, _, hd, hk =>
      apply wpOp_at
      case ho=>rfl
      intro K hK;simp only [putAll,Act.put,qA,qB,qC];go_simp;refine hK _ _ ⟨e0,e1,e2,e3,e4,e5,e6,e7,(.pointer (some ⟨w.heap.size,0,none⟩)),e9,e10,e11,e13,g4,g7,g10,?_,hB,c0,c1,c2,c3,c4,c5,c6,c7,fun _=>rfl,c9,c10,c11,c12,c13,cw,cz,cr⟩
      simp only [putAll,Act.put,qA,qB,qC]
    | 9, _, hd, hk =>
      have h8:=hk 8 (by decide +kernel)
      obtain rfl:=c8 h8;obtain ⟨z0,z1,z2,z3,z4,z5⟩:=config_cells cw;simp only at z0 z1 z2 z3 z4 z5;apply wpOp_at
      case ho=>rfl
      intro K hK;simp only [putAll,Act.put,qA,qB,qC];go_simp;refine hK _ _ ⟨e0,e1,e2,e3,e4,e5,e6,e7,(.pointer (some ⟨w.heap.size,0,none⟩)),(.int .i64 (N:Int)),e10,e11,e13,g4,g7,g10,?_,hB,c0,c1,c2,c3,c4,c5,c6,c7,c8,fun _=>rfl,c10,c11,c12,c13,cw,cz,cr⟩
      simp only [putAll,Act.put,qA,qB,qC]
    | 10, _, hd, hk =>
      have h9:=hk 9 (by decide +kernel)
      obtain rfl:=c9 h9;have hb:=below_box w' (.cells (madeCells #[.int .i64 0] N) 2);have hnew:=own_made_n (w:=w') (N:=N) (B:=(w.heap.size + 1 + 1)) (by omega) cz
      apply wpOp_at
      case ho=>rfl
      intro K hK;simp only [putAll,Act.put,qA,qB,qC];go_simp;refine hK _ _ ⟨e0,e1,e2,e3,e4,e5,e6,e7,e8,(.int .i64 (N:Int)),.slice (some ⟨w'.heap.size,0,none⟩) N N,e11,e13,g4,g7,w'.heap.size,?_,hB.trans (hb.mono hB.size),c0,c1,c2,c3,fun h=>⟨(c4 h).1,own_later (c4 h).2 hb⟩,c5,c6,fun h=>⟨(c7 h).1,own_later (c7 h).2 hb⟩,c8,c9,fun _=>⟨rfl,hnew⟩,fun h=>Bool.noConfusion (hd.symm.trans (c11 h).2.2.1),fun h=>Bool.noConfusion (hd.symm.trans (c11 (c12 h).1).2.2.1),c13,cw.later hb cw.lt,Nat.le_trans cz hb.size,fun h=>(cr h).later hb (cr h).lt⟩
      simp only [putAll,Act.put,qA,qB,qC]
    | 11, _, hd, hk =>
      have h1:=hk 1 (by decide +kernel)
      have h4:=hk 4 (by decide +kernel)
      have h7:=hk 7 (by decide +kernel)
      have h10:=hk 10 (by decide +kernel)
      obtain rfl:=c1 h1;obtain ⟨rfl,o4⟩:=c4 h4;obtain ⟨rfl,o7⟩:=c7 h7;obtain ⟨rfl,o10⟩:=c10 h10;apply wpOp_at
      case ho=>rfl
      intro K hK;simp only [putAll,Act.put,qA,qB,qC];go_simp;refine hK _ _ ⟨e0,(.agg #[.int .i64 tr,.int .i64 1]),e2,e3,(.slice (some ⟨g4,0,none⟩) N N),e5,e6,(.slice (some ⟨g7,0,none⟩) N N),e8,e9,(.slice (some ⟨g10,0,none⟩) N N),(auAt ⟨tr,1,List.replicate N false,List.replicate N 0,List.replicate N 0,false⟩ ⟨some ⟨g4,0,none⟩,N,N,some ⟨g7,0,none⟩,N,N,some ⟨g10,0,none⟩,N,N⟩),e13,g4,g7,g10,?_,hB,c0,c1,c2,c3,fun _=>⟨rfl,o4⟩,c5,c6,fun _=>⟨rfl,o7⟩,c8,c9,fun _=>⟨rfl,o10⟩,fun _=>⟨h4,h7,h10,rfl⟩,fun h=>Bool.noConfusion (hd.symm.trans (c12 h).1),c13,cw,cz,cr⟩
      simp only [putAll,Act.put,qA,qB,qC]
    | 12, _, hd, hk =>
      have h4:=hk 4 (by decide +kernel)
      have h7:=hk 7 (by decide +kernel)
      have h10:=hk 10 (by decide +kernel)
      have h11:=hk 11 (by decide +kernel)
      obtain ⟨_,_,_,rfl⟩:=c11 h11;obtain ⟨rfl,o4⟩:=c4 h4;obtain ⟨rfl,o7⟩:=c7 h7;obtain ⟨rfl,o10⟩:=c10 h10;have hZ:=cr hd;have y0:=hZ.free 0;have y1:=hZ.free 1;have y2:=hZ.free 2;have y3:=hZ.free 3;have y4:=hZ.free 4;have y5:=hZ.free 5;obtain ⟨z0,z1,z2,z3,z4,z5⟩:=au_cells hZ;simp only at z0 z1 z2 z3 z4 z5;have hX:=au6_whole (y:=⟨tr,1,List.replicate N false,List.replicate N 0,List.replicate N 0,false⟩) (p:=⟨some ⟨g4,0,none⟩,N,N,some ⟨g7,0,none⟩,N,N,some ⟨g10,0,none⟩,N,N⟩) hZ
      have q4:=own_six o4 (g:=w.heap.size + 1) (Nat.lt_succ_self _) ⟨tr,1,List.replicate N false,List.replicate N 0,List.replicate N 0,false⟩ ⟨some ⟨g4,0,none⟩,N,N,some ⟨g7,0,none⟩,N,N,some ⟨g10,0,none⟩,N,N⟩;have q7:=own_six o7 (g:=w.heap.size + 1) (Nat.lt_succ_self _) ⟨tr,1,List.replicate N false,List.replicate N 0,List.replicate N 0,false⟩ ⟨some ⟨g4,0,none⟩,N,N,some ⟨g7,0,none⟩,N,N,some ⟨g10,0,none⟩,N,N⟩
      have q10:=own_six o10 (g:=w.heap.size + 1) (Nat.lt_succ_self _) ⟨tr,1,List.replicate N false,List.replicate N 0,List.replicate N 0,false⟩ ⟨some ⟨g4,0,none⟩,N,N,some ⟨g7,0,none⟩,N,N,some ⟨g10,0,none⟩,N,N⟩;have qw:=whole_six (h:=w.heap.size + 1) cw (by omega) ⟨tr,1,List.replicate N false,List.replicate N 0,List.replicate N 0,false⟩ ⟨some ⟨g4,0,none⟩,N,N,some ⟨g7,0,none⟩,N,N,some ⟨g10,0,none⟩,N,N⟩
      have qb:=au6_below (g:=w.heap.size + 1) (y:=⟨tr,1,List.replicate N false,List.replicate N 0,List.replicate N 0,false⟩) (p:=⟨some ⟨g4,0,none⟩,N,N,some ⟨g7,0,none⟩,N,N,some ⟨g10,0,none⟩,N,N⟩) hB (Nat.le_succ _);simp only [au6] at hX q4 q7 q10 qw qb;apply wpOp_at
      case ho=>rfl
      intro K hK;simp only [putAll,Act.put,qA,qB,qC];go_simp;refine hK _ _ ⟨e0,e1,e2,e3,(.slice (some ⟨g4,0,none⟩) N N),e5,e6,(.slice (some ⟨g7,0,none⟩) N N),e8,e9,(.slice (some ⟨g10,0,none⟩) N N),(auAt ⟨tr,1,List.replicate N false,List.replicate N 0,List.replicate N 0,false⟩ ⟨some ⟨g4,0,none⟩,N,N,some ⟨g7,0,none⟩,N,N,some ⟨g10,0,none⟩,N,N⟩),e13,g4,g7,g10,?_,qb,c0,c1,c2,c3,fun _=>⟨rfl,q4⟩,c5,c6,fun _=>⟨rfl,q7⟩,c8,c9,fun _=>⟨rfl,q10⟩,fun _=>⟨h4,h7,h10,rfl⟩,fun _=>⟨h11,hX⟩,c13,qw,by simpa using cz,fun h=>Bool.noConfusion (show true=false from h)⟩
      simp only [putAll,Act.put,qA,qB,qC]
    | 13, _, hd, hk =>
      apply wpOp_at
      case ho=>rfl
      intro K hK;simp only [putAll,Act.put,qA,qB,qC];go_simp;refine hK _ _ ⟨e0,e1,e2,e3,e4,e5,e6,e7,e8,e9,e10,e11,(.int .i64 0),g4,g7,g10,?_,hB,c0,c1,c2,c3,c4,c5,c6,c7,c8,c9,c10,c11,c12,fun _=>rfl,cw,cz,cr⟩
      simp only [putAll,Act.put,qA,qB,qC]
    | k + 14,hi,_,_=>exact absurd hi (by simp)
   case ends =>
    intro d a' w' hJ hall;obtain ⟨e0,e1,e2,e3,e4,e5,e6,e7,e8,e9,e10,e11,e13,g4,g7,g10,rfl,hC⟩:=hJ;obtain ⟨hB,hC⟩:=hC;obtain ⟨c0,hC⟩:=hC;obtain ⟨c1,hC⟩:=hC;obtain ⟨c2,hC⟩:=hC;obtain ⟨c3,hC⟩:=hC;obtain ⟨c4,hC⟩:=hC;obtain ⟨c5,hC⟩:=hC;obtain ⟨c6,hC⟩:=hC;obtain ⟨c7,hC⟩:=hC;obtain ⟨c8,hC⟩:=hC;obtain ⟨c9,hC⟩:=hC;obtain ⟨c10,hC⟩:=hC;obtain ⟨c11,hC⟩:=hC;obtain ⟨c12,hC⟩:=hC;obtain ⟨c13,hC⟩:=hC;obtain ⟨cw,hC⟩:=hC
    obtain ⟨cz,hC⟩:=hC;have cr:=hC;clear hC;obtain ⟨h11,hX⟩:=c12 (hall 12 (by decide +kernel))
    obtain ⟨h4,h7,h10,rfl⟩:=c11 h11;obtain ⟨rfl,o4⟩:=c4 h4;obtain ⟨rfl,o7⟩:=c7 h7;obtain ⟨rfl,o10⟩:=c10 h10;obtain rfl:=c0 (hall 0 (by decide +kernel))
    obtain rfl:=c1 (hall 1 (by decide +kernel))
    obtain rfl:=c2 (hall 2 (by decide +kernel))
    obtain rfl:=c3 (hall 3 (by decide +kernel))
    obtain rfl:=c5 (hall 5 (by decide +kernel))
    obtain rfl:=c6 (hall 6 (by decide +kernel))
    obtain rfl:=c8 (hall 8 (by decide +kernel))
    obtain rfl:=c9 (hall 9 (by decide +kernel))
    obtain rfl:=c13 (hall 13 (by decide +kernel))
    have HX:=qH hX;have HO:=qH (show (OwnT w' (w.heap.size + 1 + 1) (.slice (some ⟨g4,0,none⟩) N N) (List.replicate N false))∧(OwnN w' (w.heap.size + 1 + 1) (.slice (some ⟨g7,0,none⟩) N N) (List.replicate N (0:Int)))∧OwnN w' (w.heap.size + 1 + 1) (.slice (some ⟨g10,0,none⟩) N N) (List.replicate N (0:Int)) from ⟨o4,o7,o10⟩)
    have Hb2:=qH hB;clear c4 c7 c10 c11 c12 cw cz cr hall hX hB o4 o7 o10 h11 h4 h7 h10;simp only [putAll,Act.put,qA,qB,qC]
    go_wp2_with fail
    obtain ⟨q0,q1,q2,q3,q4,q5⟩:=au_cells HX.out;simp only at q0 q1 q2 q3 q4 q5;refine bodyPost_ret (v:=.tuple #[(auAt ⟨tr,1,List.replicate N false,List.replicate N 0,List.replicate N 0,false⟩ ⟨some ⟨g4,0,none⟩,N,N,some ⟨g7,0,none⟩,N,N,some ⟨g10,0,none⟩,N,N⟩),.int .i64 0]) (by simp [results,Tryz.results172,go_sem,q0,q1,q2,q3,q4,q5]) rfl ⟨⟨some ⟨g4,0,none⟩,N,N,some ⟨g7,0,none⟩,N,N,some ⟨g10,0,none⟩,N,N⟩,rfl,?_,Hb2.out,fun g _ hg=>?_⟩
    · exact au_in_own HO.out.1 HO.out.2.1 HO.out.2.2 (by omega)
    · exact ⟨own_off_low HO.out.1 hg,own_off_low HO.out.2.1 hg,own_off_low HO.out.2.2 hg⟩
end Go.Proofs.YtecjnkokdnmhlaaGreat
