/- Parts, as far as NodeAtOnceCards reaches them, of: Whole, WantFloor, ConcatN, WantLast, WantEst. No law is proved here. -/
import Derived.Laws.ComplexArith
import Derived.Laws.Externs
import GoSem.Extern.MathFloor
import Derived.Test.YtecjnkokdnmhlaaGreatTa8
import Derived.Deep.LoopGhost
import Derived.Lib.AppendZeros
namespace Go.Proofs.YtecjnkokdnmhlaaGreat
section
open Ieee
theorem log2_shift {n:Nat} (h:0 < n) (a:Nat):(n <<< a).log2=n.log2 + a:=by
 induction a with
 | zero=>rfl
 | succ a ih =>
   have hne:n <<< a ≠ 0:=by
    rw [Nat.shiftLeft_eq];have:=Nat.mul_pos h (Nat.two_pow_pos a)
    omega
   rw [Nat.shiftLeft_succ,Nat.log2_two_mul hne,ih,Nat.add_assoc]
theorem log2_lt {n:Nat} (h:0 < n) (h2:n < 9007199254740992):n.log2≤52:=by
 have:=(Nat.log2_lt (n:=n) (k:=53) (by omega)).2 (by omega)
 omega
theorem cut_exact (way:Toward) (n d:Nat) (h:d≤(n <<< d).log2 + 2):way.cut false (n <<< d) d=n:=by
 have hd:min d ((n <<< d).log2 + 2)=d:=Nat.min_eq_left h;have hg:1 <<< d=2 ^ d:=by rw [Nat.shiftLeft_eq,Nat.one_mul]
 have hp:=Nat.two_pow_pos d;have h1:n <<< d / 2 ^ d=n:=by rw [Nat.shiftLeft_eq,Nat.mul_div_cancel _ hp]
 have h2:n <<< d % 2 ^ d=0:=by rw [Nat.shiftLeft_eq,Nat.mul_mod_left]
 unfold Toward.cut
 simp only [hd,hg,h1,h2]
 cases way <;> simp <;> omega
def F (n:Nat) (p:Int):Nat:=double.nearest false n p
theorem F_zero (p:Int):F 0 p=0:=rfl
theorem nearest_zero (p:Int):double.nearest false 0 p=0:=rfl
theorem nearest_scaled {n:Nat} (a:Nat) {p:Int} (h0:0 < n) (h:n < 9007199254740992) (h1:-1000≤p) (h2:p≤900) :
 double.nearest false (n <<< a) (p - a)=(p + n.log2 + 1022).toNat * 4503599627370496 + n * 2 ^ (52 - n.log2):=by
 have hL:=log2_lt h0 h
 have hne:n <<< a ≠ 0:=by
  rw [Nat.shiftLeft_eq];have:=Nat.mul_pos h0 (Nat.two_pow_pos a)
  omega
 have hlog:=log2_shift h0 a;have hleast:double.leastPlace=-1074:=by decide
 have hbin:double.binade=4503599627370496:=by decide
 have hinf:double.infRung=9218868437227405312:=by decide
 have hfr:(double.fractionBits:Int)=52:=rfl
 have hlast:max (p - (a:Int) + ((n <<< a).log2:Nat) - (double.fractionBits:Int)) (-1074)=p + n.log2 - 52:=by
  rw [hlog,hfr]; omega
 have hkept:Toward.even.cut false ((n <<< a) <<< (p - (a:Int) - (p + n.log2 - 52)).toNat) ((p + n.log2 - 52) - (p - (a:Int))).toNat=n * 2 ^ (52 - n.log2):=by
  by_cases hle:n.log2 + a≤52
  · rw [show ((p + n.log2 - 52) - (p - (a:Int))).toNat=0 by omega,show (p - (a:Int) - (p + n.log2 - 52)).toNat=52 - n.log2 - a by omega]
    have hc:=cut_exact .even ((n <<< a) <<< (52 - n.log2 - a)) 0 (Nat.zero_le _);rw [Nat.shiftLeft_zero] at hc;rw [hc,← Nat.shiftLeft_add,Nat.shiftLeft_eq,show a + (52 - n.log2 - a)=52 - n.log2 by omega]
  · rw [show (p - (a:Int) - (p + n.log2 - 52)).toNat=0 by omega,show ((p + n.log2 - 52) - (p - (a:Int))).toNat=n.log2 + a - 52 by omega,Nat.shiftLeft_zero]
    have he:n <<< a=(n <<< (52 - n.log2)) <<< (n.log2 + a - 52):=by rw [← Nat.shiftLeft_add,show 52 - n.log2 + (n.log2 + a - 52)=a by omega]
    have hl:(n.log2 + a - 52)≤((n <<< (52 - n.log2)) <<< (n.log2 + a - 52)).log2 + 2:=by rw [← he,hlog]; omega
    rw [he,cut_exact .even _ _ hl,Nat.shiftLeft_eq]
 have hb1:n * 2 ^ (52 - n.log2) < 9007199254740992:=by
  have h3:n < 2 ^ (n.log2 + 1):=Nat.lt_log2_self;have h4:n * 2 ^ (52 - n.log2) < 2 ^ (n.log2 + 1) * 2 ^ (52 - n.log2):=Nat.mul_lt_mul_of_pos_right h3 (Nat.two_pow_pos _);rw [← Nat.pow_add,show n.log2 + 1 + (52 - n.log2)=53 by omega] at h4
  exact h4
 unfold Format.nearest
 simp only [if_neg hne,hleast,hlast,hkept,hbin,hinf]
 unfold Format.word
 rw [if_neg (by decide),show (p + (n.log2:Int) - 52 - -1074).toNat=(p + n.log2 + 1022).toNat by omega]
 refine Nat.min_eq_left ?_;have:(p + (n.log2:Int) + 1022).toNat≤1974:=by omega
 omega
theorem F_eq {n:Nat} {p:Int} (h0:0 < n) (h:n < 9007199254740992) (h1:-1000≤p) (h2:p≤900):F n p=(p + n.log2 + 1022).toNat * 4503599627370496 + n * 2 ^ (52 - n.log2):=by
 have:=nearest_scaled 0 h0 h h1 h2;rwa [Nat.shiftLeft_zero,Int.natCast_zero,Int.sub_zero] at this
theorem F_scaled {n:Nat} (a:Nat) {p:Int} (h:n < 9007199254740992) (h1:-1000≤p) (h2:p≤900):double.nearest false (n <<< a) (p - a)=F n p:=by
 rcases Nat.eq_zero_or_pos n with h0 | h0
 · subst h0; rw [Nat.zero_shiftLeft,nearest_zero,F_zero]
 · rw [nearest_scaled a h0 h h1 h2,F_eq h0 h h1 h2]
theorem read_F {n:Nat} {p:Int} (h:n < 9007199254740992) (h1:-1000≤p) (h2:p≤900):∃ (a:Nat) (b:Int),double.read (F n p)=.number false (n <<< a) b∧(0 < n→b=p - a∧a≤52):=by
 rcases Nat.eq_zero_or_pos n with h0 | h0
 · subst h0; exact ⟨0,-1074,by rw [F_zero]; decide +kernel,fun h=>absurd h (by decide)⟩
 have hL:=log2_lt h0 h;rw [F_eq h0 h h1 h2]
 obtain ⟨k,hk⟩:∃ k,n * 2 ^ (52 - n.log2)=4503599627370496 + k∧k < 4503599627370496:=by
  have h3:2 ^ n.log2≤n:=Nat.log2_self_le (by omega)
  have h4:2 ^ n.log2 * 2 ^ (52 - n.log2)≤n * 2 ^ (52 - n.log2):=Nat.mul_le_mul_right _ h3;rw [← Nat.pow_add,show n.log2 + (52 - n.log2)=52 by omega] at h4
  have h5:n < 2 ^ (n.log2 + 1):=Nat.lt_log2_self;have h6:n * 2 ^ (52 - n.log2) < 2 ^ (n.log2 + 1) * 2 ^ (52 - n.log2):=Nat.mul_lt_mul_of_pos_right h5 (Nat.two_pow_pos _);rw [← Nat.pow_add,show n.log2 + 1 + (52 - n.log2)=53 by omega] at h6
  exact ⟨n * 2 ^ (52 - n.log2) - 4503599627370496,by omega,by omega⟩
 obtain ⟨q,hq⟩:∃ q:Nat,(p + n.log2 + 1022).toNat=q:=⟨_,rfl⟩;have hq2:q≤1974:=by omega
 have hleast:double.leastPlace=-1074:=by decide
 have hbin:double.binade=4503599627370496:=by decide
 have hinf:double.infRung=9218868437227405312:=by decide
 have hsw:double.signWeight=9223372036854775808:=by decide
 refine ⟨52 - n.log2,p - (52 - n.log2:Nat),?_,fun _=>⟨rfl,by omega⟩⟩
 rw [hq,Nat.shiftLeft_eq,hk.1];have e1:(q * 4503599627370496 + (4503599627370496 + k)) / 9223372036854775808=0:=Nat.div_eq_of_lt (by omega)
 have e2:(q * 4503599627370496 + (4503599627370496 + k)) % 9223372036854775808=q * 4503599627370496 + (4503599627370496 + k):=Nat.mod_eq_of_lt (by omega)
 have e3:(q * 4503599627370496 + (4503599627370496 + k)) % 4503599627370496=k:=by omega
 have e4:(q * 4503599627370496 + (4503599627370496 + k)) / 4503599627370496=q + 1:=by omega
 unfold Format.read
 simp only [hsw,hbin,hinf,hleast,e1,e2,e3,e4];rw [if_neg (by omega),if_pos (by omega)]
 congr 1
 omega
def Rep (d:Datum) (n:Nat) (p:Int):Prop:=∃ (a:Nat) (b:Int),d=.number false (n <<< a) b∧(0 < n→b=p - a)
theorem Rep.read {n:Nat} {p:Int} (h:n < 9007199254740992) (h1:-1000≤p) (h2:p≤900):Rep (double.read (F n p)) n p:=by
 obtain ⟨a,b,h3,h4⟩:=read_F h h1 h2
 exact ⟨a,b,h3,fun h=>(h4 h).1⟩
theorem Rep.write {d:Datum} {n:Nat} {p:Int} (hd:Rep d n p) (h:n < 9007199254740992) (h1:-1000≤p) (h2:p≤900):double.write d=F n p:=by
 obtain ⟨a,b,rfl,hb⟩:=hd
 show double.nearest false (n <<< a) b=_
 rcases Nat.eq_zero_or_pos n with h0 | h0
 · subst h0; rw [Nat.zero_shiftLeft,nearest_zero,F_zero]
 · rw [hb h0]; exact F_scaled a h h1 h2
theorem signed_pos (m u:Nat):signed false m u=((m <<< u:Nat):Int):=rfl
theorem Rep.sum {d e:Datum} {n m:Nat} {p:Int} (hd:Rep d n p) (he:Rep e m p):∃ r,d.sum e=some r∧Rep r (n + m) p:=by
 obtain ⟨a,i,rfl,hi⟩:=hd;obtain ⟨b,j,rfl,hj⟩:=he;refine ⟨_,rfl,?_⟩;rw [signed_pos,signed_pos];obtain ⟨x,hx⟩:∃ x,(i - min i j).toNat=x:=⟨_,rfl⟩;obtain ⟨y,hy⟩:∃ y,(j - min i j).toNat=y:=⟨_,rfl⟩;rw [hx,hy,← Nat.shiftLeft_add,← Nat.shiftLeft_add,← Int.natCast_add]
 have key:∃ c:Nat,n <<< (a + x) + m <<< (b + y)=(n + m) <<< c∧(0 < n + m→min i j=p - c):=by
  rcases Nat.eq_zero_or_pos n with h0 | h0
  · subst h0
    exact ⟨b + y,by rw [Nat.zero_shiftLeft,Nat.zero_add,Nat.zero_add],fun h=>by have:=hj (by omega); omega⟩
  · have h1:=hi h0
    rcases Nat.eq_zero_or_pos m with k0 | k0
    · subst k0
      exact ⟨a + x,by rw [Nat.zero_shiftLeft,Nat.add_zero,Nat.add_zero],fun _=>by omega⟩
    · have h2:=hj k0
      refine ⟨a + x,?_,fun _=>by omega⟩
      rw [show b + y=a + x by omega,Nat.shiftLeft_eq,Nat.shiftLeft_eq,Nat.shiftLeft_eq,Nat.add_mul]
 obtain ⟨c,h1,h2⟩:=key;rw [h1];refine ⟨c,min i j,?_,h2⟩;rw [Int.natAbs_natCast]
 congr 1
 by_cases h:(((n + m) <<< c:Nat):Int)=0
 · rw [if_pos h]; rfl
 · rw [if_neg h]; exact decide_eq_false (Int.not_lt.2 (Int.natCast_nonneg _))
theorem Rep.product {d e:Datum} {n m:Nat} {p q:Int} (hd:Rep d n p) (he:Rep e m q):∃ r,d.product e=some r∧Rep r (n * m) (p + q):=by
 obtain ⟨a,i,rfl,hi⟩:=hd;obtain ⟨b,j,rfl,hj⟩:=he;refine ⟨_,rfl,a + b,i + j,?_,fun h=>?_⟩
 · rw [Nat.shiftLeft_eq,Nat.shiftLeft_eq,Nat.shiftLeft_eq,Nat.pow_add]
   congr 1
   rw [Nat.mul_assoc,Nat.mul_assoc,Nat.mul_left_comm (2 ^ a)]
 · have h1:0 < n:=Nat.pos_of_ne_zero fun h0=>by rw [h0,Nat.zero_mul] at h; omega
   have h2:0 < m:=Nat.pos_of_ne_zero fun h0=>by rw [h0,Nat.mul_zero] at h; omega
   have:=hi h1; have:=hj h2
   omega
theorem Rep.less_zero {d e:Datum} {n:Nat} {p q:Int} (hd:Rep d n p) (he:Rep e 0 q):∃ r,d.sum e.opposite=some r∧Rep r n p:=by
 obtain ⟨a,i,rfl,hi⟩:=hd;obtain ⟨b,j,rfl,_⟩:=he;refine ⟨_,rfl,?_⟩;rw [signed_pos,Nat.zero_shiftLeft];have hs:∀ u,signed (!false) 0 u=0:=fun u=>by unfold signed; simp
 rw [hs,Int.add_zero];obtain ⟨x,hx⟩:∃ x,(i - min i j).toNat=x:=⟨_,rfl⟩;rw [hx,← Nat.shiftLeft_add];refine ⟨a + x,min i j,?_,fun h=>by have:=hi h; omega⟩
 rw [Int.natAbs_natCast]
 congr 1
 by_cases h:((n <<< (a + x):Nat):Int)=0
 · rw [if_pos h]; rfl
 · rw [if_neg h]; exact decide_eq_false (Int.not_lt.2 (Int.natCast_nonneg _))
theorem Rep.toInt {d:Datum} {n:Nat} (hd:Rep d n 0):d.toInt .zero=some (n:Int):=by
 obtain ⟨a,i,rfl,hi⟩:=hd
 unfold Datum.toInt Datum.integral
 show some (signed false _ 0)=_
 rw [signed_pos,Nat.shiftLeft_zero]
 rcases Nat.eq_zero_or_pos n with h0 | h0
 · subst h0
   rw [Nat.zero_shiftLeft,Nat.zero_shiftLeft]
   unfold Toward.cut
   simp
 · have h1:=hi h0
   rw [show i.toNat=0 by omega,show (-i).toNat=a by omega,Nat.shiftLeft_zero,cut_exact .zero n a (by rw [log2_shift h0]; omega)]
theorem quotient_two {n a:Nat} {i:Int} (hi:0 < n→i=0 - a∧a≤52) (hsm:n < 9007199254740992):∃ r,(Datum.number false (n <<< a) i).quotient 54 (.number false (2 <<< 51) (-51))=some r∧Rep r n (-1):=by
 have hl:(2 <<< 51:Nat).log2=52:=by decide
 have hz:¬ (2 <<< 51:Nat)=0:=by decide
 refine ⟨_,by unfold Datum.quotient; simp only [if_neg hz]; rfl,?_⟩
 rw [hl]
 rcases Nat.eq_zero_or_pos n with h0 | h0
 · subst h0
   refine ⟨0,i - -51 - ((54 + 52 - (0 <<< a:Nat).log2:Nat):Int) - 1,?_,fun h=>absurd h (by decide)⟩
   rw [Nat.zero_shiftLeft,Nat.zero_shiftLeft]
   simp
 · obtain ⟨h1,ha'⟩:=hi h0
   have hL:=log2_lt h0 hsm;have hlog:=log2_shift h0 a;have hD:(2 <<< 51:Nat)=2 ^ 52:=by decide
   obtain ⟨k,hk⟩:∃ k,54 - n.log2=k:=⟨_,rfl⟩
   have hdd:(n <<< a) <<< (54 + 52 - (n <<< a).log2)=n <<< k * 2 ^ 52:=by
    rw [← Nat.shiftLeft_add,show a + (54 + 52 - (n <<< a).log2)=k + 52 by omega,Nat.shiftLeft_eq,Nat.shiftLeft_eq,Nat.pow_add,Nat.mul_assoc]
   rw [hdd,hD,Nat.mul_div_cancel _ (Nat.two_pow_pos 52),Nat.mul_mod_left];refine ⟨k + 1,i - -51 - ((54 + 52 - (n <<< a).log2:Nat):Int) - 1,?_,fun _=>by omega⟩
   · have e1:2 * n <<< k + (0 != 0).toNat=n <<< (k + 1):=by
      rw [Nat.shiftLeft_succ]; rfl
     rw [e1]; rfl
theorem add_F {n m:Nat} {p:Int} (h:n + m < 9007199254740992) (h1:-1000≤p) (h2:p≤900):floatBits .add .f64 (F n p) (F m p)=some (F (n + m) p):=by
 obtain ⟨r,hr,hR⟩:=(Rep.read (n:=n) (p:=p) (by omega) h1 h2).sum (Rep.read (n:=m) (by omega) h1 h2)
 show double.add (F n p) (F m p)=_
 unfold Format.add
 rw [hr]
 show some (double.write r)=_
 rw [hR.write h h1 h2]
theorem mul_F {n m:Nat} {p q:Int} (hn:n < 9007199254740992) (hm:m < 9007199254740992) (h:n * m < 9007199254740992) (h1:-500≤p) (h2:p≤400) (h3:-500≤q) (h4:q≤400) :
 floatBits .mul .f64 (F n p) (F m q)=some (F (n * m) (p + q)):=by
 obtain ⟨r,hr,hR⟩:=(Rep.read (n:=n) (p:=p) hn (by omega) (by omega)).product (Rep.read (n:=m) (p:=q) hm (by omega) (by omega))
 show double.mul (F n p) (F m q)=_
 unfold Format.mul
 rw [hr]
 show some (double.write r)=_
 rw [hR.write h (by omega) (by omega)]
theorem sub_zero_F {n:Nat} {p:Int} (h:n < 9007199254740992) (h1:-1000≤p) (h2:p≤900):floatBits .sub .f64 (F n p) 0=some (F n p):=by
 obtain ⟨r,hr,hR⟩:=(Rep.read (n:=n) (p:=p) h h1 h2).less_zero (Rep.read (n:=0) (p:=0) (by decide) (by decide) (by decide))
 show double.sub (F n p) 0=_
 unfold Format.sub
 rw [F_zero] at hr;rw [hr]
 show some (double.write r)=_
 rw [hR.write h h1 h2]
theorem two_F:double.read (F 2 0)=.number false (2 <<< 51) (-51):=by decide +kernel
theorem half_F {n:Nat} (h:n < 9007199254740992):floatBits .quo .f64 (F n 0) (F 2 0)=some (F n (-1)):=by
 obtain ⟨a,b,hd,hb⟩:=read_F (n:=n) (p:=0) h (by decide) (by decide)
 obtain ⟨r,hr,hR⟩:=quotient_two (n:=n) (a:=a) (i:=b) (fun h=>hb h) h
 show double.div (F n 0) (F 2 0)=_
 unfold Format.div
 rw [two_F,hd,show double.fractionBits + 2=54 from rfl,hr]
 show some (double.write r)=_
 rw [hR.write h (by decide) (by decide)]
theorem int_F {n:Nat} (h:n < 9007199254740992):floatToIntVal .f64 (F n 0) .i64=some (n:Int):=by
 have hr:=(Rep.read (n:=n) (p:=0) h (by decide) (by decide)).toInt
 unfold floatToIntVal
 rw [show FloatKind.f64.decode (F n 0)=double.read (F n 0) from rfl,hr]
 have h1:IntKind.i64.min=-9223372036854775808:=by decide
 have h2:IntKind.i64.max=9223372036854775807:=by decide
 simp only [h1,h2];rw [if_pos (by omega)]
theorem of_int_F (n:Nat):floatOfInt .f64 (n:Int)=F n 0:=by
 show double.nearest (decide ((n:Int) < 0)) (n:Int).natAbs 0=double.nearest false n 0
 rw [Int.natAbs_natCast,decide_eq_false (Int.not_lt.2 (Int.natCast_nonneg _))]
end
end Go.Proofs.YtecjnkokdnmhlaaGreat
namespace Go.Proofs.YtecjnkokdnmhlaaGreat
section
open Ieee
theorem Rep.down_half {d:Datum} {n:Nat} (hd:Rep d n (-1)):Rep (d.integral .down) (n / 2) 0:=by
 obtain ⟨a,i,rfl,hi⟩:=hd
 unfold Datum.integral
 refine ⟨0,0,?_,fun _=>rfl⟩
 simp only [Nat.shiftLeft_zero]
 congr 1
 rcases Nat.eq_zero_or_pos n with h0 | h0
 · subst h0
   rw [Nat.zero_shiftLeft,Nat.zero_shiftLeft]
   unfold Toward.cut
   simp
 · have h1:=hi h0
   rw [show i.toNat=0 by omega,show (-i).toNat=a + 1 by omega,Nat.shiftLeft_zero]
   have hl:=log2_shift h0 a
   unfold Toward.cut
   simp only [Nat.min_eq_left (show a + 1≤(n <<< a).log2 + 2 by omega),Bool.false_and,Bool.toNat_false,Nat.add_zero]
   rw [Nat.shiftLeft_eq,Nat.shiftLeft_eq,Nat.one_mul,Nat.pow_succ,← Nat.div_div_eq_div_mul,Nat.mul_div_cancel _ (Nat.two_pow_pos a)]
theorem down_F {n:Nat} (h:n < 9007199254740992):∃ m i,FloatKind.f64.decode (F n (-1))=.number false m i∧FloatKind.f64.encode (Datum.integral .down (.number false m i))=F (n / 2) 0:=by
 have hr:=Rep.read (n:=n) (p:=-1) h (by decide) (by decide)
 obtain ⟨a,i,he,_⟩:=id hr;refine ⟨n <<< a,i,he,?_⟩;have hd:=hr.down_half;rw [he] at hd
 exact hd.write (by omega) (by decide) (by decide)
theorem run_floor {P:Program} (w:World) {n:Nat} (h:n < 9007199254740992) :
 (Extern.MathFloor.toIntegral "math.archFloor" .down #[.float .f64 (F n (-1))]).run P w = .ok (.float .f64 (F (n / 2) 0)) w := by
 obtain ⟨m,i,h1,h2⟩:=down_F h
 show Sem.run P (Extern.MathFloor.toIntegral.match_1 (fun _=>Sem Value) (FloatKind.f64.decode (F n (-1))) _ _) w=_
 rw [h1,← h2]
 rfl
theorem not_nan_F {n:Nat} (h:n < 9007199254740992):Op.Complex.isNaN (F n (-1))=false:=by
 obtain ⟨m,i,h1,_⟩:=down_F h
 unfold Op.Complex.isNaN
 rw [h1]
 rfl
theorem two_word:F 2 0=4611686018427387904:=by decide +kernel
theorem run_complex_half {P:Program} (w:World) (t:TypeId) {x y:Nat} (hx:x < 9007199254740992) (hy:y < 9007199254740992) :
 (binOp .quo t (.complex .f64 (F x 0) (F y 0)) (.complex .f64 4611686018427387904 0)).run P w=.ok (.complex .f64 (F x (-1)) (F y (-1))) w:=by
 have o1:FloatKind.f64.format.order (Op.Complex.abs 4611686018427387904) (Op.Complex.abs 0)=some .gt:=by decide +kernel
 have o2:FloatKind.f64.format.order 4611686018427387904 0=some .gt:=by decide +kernel
 have o3:FloatKind.f64.format.order 0 0=some .eq:=by decide +kernel
 have c1:(Op.Complex.cmp .geq .f64 (Op.Complex.abs 4611686018427387904) (Op.Complex.abs 0)).run P w=.ok true w:=by simp [Op.Complex.cmp,Op.floatCmp,o1,asBool]
 have c2:(Op.Complex.cmp .eql .f64 4611686018427387904 0).run P w=.ok false w:=by simp [Op.Complex.cmp,Op.floatCmp,o2,asBool]
 have c3:(Op.Complex.cmp .eql .f64 0 0).run P w=.ok true w:=by simp [Op.Complex.cmp,Op.floatCmp,o3,asBool]
 have q1:floatBits .quo .f64 0 4611686018427387904=some 0:=by decide +kernel
 have q2:floatBits .mul .f64 0 0=some 0:=by decide +kernel
 have q3:floatBits .add .f64 4611686018427387904 0=some 4611686018427387904:=by decide +kernel
 have m1:∀ {n:Nat},n < 9007199254740992→floatBits .mul .f64 (F n 0) 0=some 0:=fun {n} hn=>by
  have:=mul_F (n:=n) (m:=0) (p:=0) (q:=0) hn (by decide) (by rw [Nat.mul_zero]; decide) (by decide) (by decide) (by decide) (by decide)
  rwa [Nat.mul_zero,F_zero,F_zero] at this
 have a1:floatBits .add .f64 (F x 0) 0=some (F x 0):=by
  have:=add_F (n:=x) (m:=0) (p:=0) (by omega) (by decide) (by decide)
  rwa [F_zero,Nat.add_zero] at this
 have s1:=sub_zero_F (n:=y) (p:=0) hy (by decide) (by decide)
 have h1:=half_F hx;have h2:=half_F hy;rw [two_word] at h1 h2;have n1:=not_nan_F hx;have mx:=m1 hx;have my:=m1 hy
 generalize F x (-1)=X at *
 generalize F y (-1)=Y at *
 generalize F x 0=x0 at *
 generalize F y 0=y0 at *
 simp [binOp,Op.complexOp,Op.Complex.conv,Op.Complex.quotient,Op.Complex.quo,Op.Complex.mul,Op.Complex.add,Op.Complex.sub,c1,c2,c3,run_carith w q1,run_carith w q2,run_carith w q3,run_carith w mx,run_carith w my,run_carith w a1,run_carith w s1,run_carith w h1,run_carith w h2,n1]
end
end Go.Proofs.YtecjnkokdnmhlaaGreat
namespace Go.Proofs.YtecjnkokdnmhlaaGreat
open Go.ChangeShapes Go.WideShapes Go.ChangeAt Go.RowKit Go.Joins Go.Deep
attribute [local go_sem ↓] run_fine
theorem elem_n64s:Tryz.prog.underlying 31=some (.slice (Tryz.prog.elem 31)):=by kernel_rfl
theorem size_n64s (w:World):(sizeOf (Tryz.prog.elem 31)).run Tryz.prog w=.ok 1 w:=by kernel_rfl
def OwnedN (w:World) (l:List Int) (e:Ending) (w':World):Prop:=∃ v,e=.returned v∧OwnN w' w.heap.size v l∧Below w.heap.size w w'
set_option maxRecDepth 100000 in
theorem growN_calls (n:Nat) (hn:n≤1000000) (w:World):Calls Tryz.prog 190 #[.slice none 0 0,.int .i64 (n:Int)] w (OwnedN w []):=by
 by_cases h0:n=0
 · subst h0
   go_enter Tryz.func190,Tryz.ntmps190
   go_wp2
   go_ret
   exact ⟨_,rfl,World.ownsRow_nil _ _ _ _,Below.refl _ _⟩
 · obtain ⟨i5,hi,hz0,hz1,hz2⟩:=info_parts info_n64
   have hrun:=Lib.run_append_nil_zeros (P:=Tryz.prog) w 31 3 31 2 i5 (.int .i64 0) .i64 .i64 Tryz.underlying31 Tryz.underlying3 hi hz0 n (by omega) (by omega) (by omega) (by rw [hz2]; omega)
   have hCn:=grownCap_ge w n 0 2;have hCm:=grownCap_le_maxLen w n 0 2 (by unfold maxLen; omega)
   obtain ⟨C,hC⟩:∃ C,grownCap w n 0 2=C:=⟨_,rfl⟩;rw [hC] at hrun hCn hCm;obtain ⟨hf1,hv1,hw1⟩:=fine_of hrun
   have hO:OwnN (w.drew.alloc (.cells (Builtin.zeroCells (Value.int .i64 0).cells n ++ Builtin.zeroCells (Value.int .i64 0).cells (C - n)) 2)) w.heap.size (.slice (some ⟨w.heap.size,0,none⟩) 0 C) [] :=
    World.ownsRow_made w.drew _ C (Nat.le_refl _) hCm (by rw [Array.size_append,size_zeroCells,size_zeroCells]; simp [Value.cells]; omega)
   have HO:=qH hO;have Hb:Hid (Below w.heap.size w (w.drew.alloc (.cells (Builtin.zeroCells (Value.int .i64 0).cells n ++ Builtin.zeroCells (Value.int .i64 0).cells (C - n)) 2))):=((Below.refl _ _).drew).alloc (Nat.le_refl _) _;obtain ⟨W1,hW1⟩:∃ z,w.drew.alloc (.cells (Builtin.zeroCells (Value.int .i64 0).cells n ++ Builtin.zeroCells (Value.int .i64 0).cells (C - n)) 2)=z:=⟨_,rfl⟩;rw [hW1] at hw1 HO Hb
   have hC0:¬ C=0:=by omega
   have hsl1:∀ W:World,(Instr.slice 31 (.slice none 0 0) none (some (.int .i64 0)) none).run Tryz.prog W=.ok (.slice none 0 0) W:=by
    intro W;have h:=run_slice_h W 31 none 0 0 elem_n64s .i64 0 (by omega) (by omega)
    rw [size_n64s] at h;rw [h]; simp [Result.andThen,sliced]
   have hsl2:∀ W:World,(Instr.slice 31 (.slice (some ⟨w.heap.size,0,none⟩) n C) none (some (.int .i64 0)) none).run Tryz.prog W=.ok (.slice (some ⟨w.heap.size,0,none⟩) 0 C) W:=by
    intro W;have h:=run_slice_h W 31 (some ⟨w.heap.size,0,none⟩) n C elem_n64s .i64 0 (by omega) (by omega)
    rw [size_n64s] at h;rw [h]; simp [Result.andThen,sliced,hC0,Addr.add]
   have hpos:(0:Int) < (n:Int):=by omega
   clear hrun hO hW1 hCm hCn hi hz0 hz1 hz2 hC
   go_enter Tryz.func190,Tryz.ntmps190
   go_wp2
   go_ret
   exact ⟨_,rfl,HO.out,Hb.out⟩
def RowsN (w:World) (g m:Nat) (f:Nat→Option Addr × Nat × Nat) (zf:Nat→List Int):Prop :=
 ∀ k,k < m→w.cell? ⟨g,k,none⟩=some (.slice (f k).1 (f k).2.1 (f k).2.2)∧(f k).2.1=(zf k).length∧Nums w (.slice (f k).1 (f k).2.1 (f k).2.2) (zf k)
def catL (zf:Nat→List Int):Nat→List Int
 | 0=>[]
 | k + 1=>catL zf k ++ zf k
theorem catL_le (zf:Nat→List Int) {k m:Nat} (h:k≤m):(catL zf k).length≤(catL zf m).length:=by
 induction m with
 | zero => obtain rfl : k = 0 := by omega
           exact Nat.le_refl _
 | succ m ih =>
   by_cases e:k=m + 1
   · rw [e]; exact Nat.le_refl _
   · have:=ih (by omega)
     rw [catL,List.length_append]
     omega
set_option maxRecDepth 100000 in
set_option maxHeartbeats 8000000 in
theorem concatN_calls (g m:Nat) (f:Nat→Option Addr × Nat × Nat) (zf:Nat→List Int) (w:World) (hR:RowsN w g m f zf) (hm:m≤1000) (hroom:(catL zf m).length≤1000000) :
 Calls Tryz.prog 150 #[.slice (some ⟨g,0,none⟩) m m] w (OwnedN w (catL zf m)):=by
 have HR:=qH hR; clear hR;have Hroom:=qH hroom; clear hroom;have hbm:m≤9223372036854775807:=by omega
 go_enter Tryz.func150,Tryz.ntmps150
 go_wp2_with fail
 go_loop [3,11] (fun s i=>∃ k q:Nat,k≤m∧i=.int .i64 k∧s=.int .i64 q∧Hid (q=(catL zf k).length)) (fun _ i=>m - (intOf i).toNat)
 case atStart=>exact ⟨0,0,Nat.zero_le _,rfl,rfl,rfl⟩
 case round =>
  obtain ⟨k,q,hk,rfl,rfl,Hq⟩:=hrel
  by_cases hlt:k < m
  · obtain ⟨c0,hn,hN⟩:=HR.out k hlt
    generalize f k=sk at c0 hn hN
    obtain ⟨a,n,c⟩:=sk;have hn:n=(zf k).length:=hn;have c0:w.cell? ⟨g,k,none⟩=some (.slice a n c):=c0;have Hn:=qH hn;have hle:=catL_le zf (show k + 1≤m by omega)
    have hsum:q + n=(catL zf (k + 1)).length:=by rw [catL,List.length_append,Hq.out]; omega
    have hqb:q + n≤1000000:=by have:=Hroom.out; omega
    have hw1:IntKind.i64.wrap ((q:Int) + (n:Int))=((q + n:Nat):Int):=by rw [IntWalk.i64_in _ (by omega)]; omega
    have hnn:¬ (((q + n:Nat):Int) < 0):=by omega
    obtain ⟨s,Hs⟩:∃ z,Hid (q + n=z):=⟨_,rfl⟩;rw [Hs.out] at hw1 hnn hsum;have Hsum:=qH hsum;have k0:(0:Int)≤(k:Int):=by omega
    have k1:(k:Int) < (m:Int):=by omega
    clear hN hn hle hsum hqb
    go_wp2_with fail
    go_round
    case rel=>exact ⟨k + 1,s,by omega,by go_num,rfl,Hsum.out⟩
    case measure=>simp [intOf]; omega
  · obtain rfl:k=m:=by omega
    have hqb:q≤1000000:=by have:=Hroom.out; have:=Hq.out; omega
    go_wp2_with fail
    refine (growN_calls q hqb _).mono ?_;rintro e w1 ⟨v1,rfl,hO,hb⟩;have HO:Hid (OwnN w1 w.heap.size v1 (catL zf 0)):=hO;have Hb:=qH hb;clear hO hb hqb
    go_wp2_with fail
    go_loopg [6,27] k (fun gh s6 s27 wr=>∃ (i:Nat) (lv:Value),i + gh=k∧s27=.int .i64 i∧s6=lv∧Hid (OwnN wr w.heap.size lv (catL zf i))∧Hid (Below w.heap.size w wr))
    case atStart=>exact ⟨0,_,by omega,rfl,rfl,HO.out,Hb.out⟩
    case round =>
     clear HO Hb;obtain ⟨i,lv,hg,rfl,hlv,HO,Hb⟩:=hrel;have hlv':=hlv.symm;subst hlv';clear hlv
     by_cases hlt:i < k
     · obtain ⟨c0,hn,hN⟩:=HR.out i hlt
       generalize f i=sk at c0 hn hN
       obtain ⟨a,n,c⟩:=sk;have hn:n=(zf i).length:=hn;have c0:w.cell? ⟨g,i,none⟩=some (.slice a n c):=c0;have hN:Nums w (.slice a n c) (zf i):=hN;have d0:=cell_later Hb.out c0;have hle:=catL_le zf (show i + 1≤k by omega)
       have hroom2:(catL zf i).length + (zf i).length≤1000000:=by
        have:=Hroom.out;rw [catL,List.length_append] at hle
        omega
       obtain ⟨v2,w2,hrun2,q1,q2,_⟩:=run_append_nums HO.out (hN.later Hb.out) hn hroom2 Hb.out.size;obtain ⟨hf2,hv2,hw2⟩:=fine_of hrun2;have HO2:Hid (OwnN w2 w.heap.size v2 (catL zf (i + 1))):=q1;have Hb2:Hid (Below w.heap.size w w2):=Hb.out.trans q2;have k0:(0:Int)≤(i:Int):=by omega
       have k1:(i:Int) < (k:Int):=by omega
       clear hN hn hle hroom2 hrun2 q1 q2 c0
       go_wp2_with fail
       go_roundg (k - (i + 1))
       case measure=>omega
       case rel=>exact ⟨i + 1,_,by omega,by go_num,rfl,HO2.out,Hb2.out⟩
     · obtain rfl:i=k:=by omega
       go_wp2_with fail
       go_ret
       exact ⟨_,rfl,HO.out,Hb.out⟩
end Go.Proofs.YtecjnkokdnmhlaaGreat
namespace Go.Proofs.YtecjnkokdnmhlaaGreat
open Go.RowKit
theorem floor_entry (x:Nat) (hx:x < 9007199254740992) (w:World):(callFunc 207 #[.float .f64 (F x (-1))]).run Tryz.prog w=.ok (.value (.float .f64 (F (x / 2) 0))) w:=by
 rw [run_callFunc_extern Tryz.func207 (by kernel_rfl) (by kernel_rfl) (by kernel_rfl) (e := Extern.MathFloor.toIntegral "math.archFloor" .down) (by kernel_rfl), run_floor w hx]
 rfl
theorem floor_calls (x:Nat) (hx:x < 9007199254740992) (w:World):Calls Tryz.prog 206 #[.float .f64 (F x (-1))] w (fun e w'=>e=.returned (.float .f64 (F (x / 2) 0))∧w'=w):=by
 have hd:=fun W=>floor_entry x hx W
 generalize F x (-1)=X at *
 generalize F (x / 2) 0=Y at *
 go_enter Tryz.func206,Tryz.ntmps206
 go_wp2_with fail
 go_ret
 exact ⟨rfl,rfl⟩
theorem down_calls (x y:Nat) (hx:x < 9007199254740992) (hy:y < 9007199254740992) (w:World) :
 Calls Tryz.prog 202 #[.complex .f64 (F x (-1)) (F y (-1))] w (fun e w'=>e=.returned (.complex .f64 (F (x / 2) 0) (F (y / 2) 0))∧w'=w):=by
 have h1:=fun W=>floor_calls x hx W
 have h2:=fun W=>floor_calls y hy W
 have H1:=qH h1; have H2:=qH h2; clear h1 h2
 generalize F x (-1)=X at *
 generalize F (x / 2) 0=X' at *
 generalize F y (-1)=Y at *
 generalize F (y / 2) 0=Y' at *
 go_enter Tryz.func202,Tryz.ntmps202
 go_wp2_with fail
 refine (H1.out w).mono ?_;rintro e w1 ⟨rfl,rfl⟩
 go_wp2_with fail
 refine (H2.out _).mono ?_;rintro e w2 ⟨rfl,rfl⟩
 go_wp2_with fail
 go_ret
 exact ⟨rfl,rfl⟩
theorem last_calls (a:Option Addr) (m d:Nat) (l:List Int) (hm:m=l.length) (hs:m≤1000000) (n:Nat) (h0:0 < n) (hn:n≤1000000) (w:World) (hA:Nums w (.slice a m d) l) :
 Calls Tryz.prog 151 #[.slice a m d,.int .i64 (n:Int)] w (fun e w'=>∃ A C,e=.returned (.slice A (l.drop (m - n)).length C)∧Nums w' (.slice A (l.drop (m - n)).length C) (l.drop (m - n))∧w'=w):=by
 have hcap:=hA.cap
 by_cases hle:m≤n
 · have hz:m - n=0:=by omega
   rw [hz,List.drop_zero,← hm];clear hz;have Hm:=qH hm; clear hm;have HA:=qH hA; clear hA;have Hcap:=qH hcap; clear hcap
   rcases (by omega:m=n∨m < n) with e | e
   · have e1:(m:Int) - (n:Int)=0:=by omega
     have E:=qH e; clear e hle
     go_enter Tryz.func151,Tryz.ntmps151
     go_wp2_with fail
     all_goals go_ret
     all_goals exact ⟨_,_,rfl,HA.out,rfl⟩
   · have e1:(m:Int) - (n:Int) < 0:=by omega
     have E:=qH e; clear e hle
     go_enter Tryz.func151,Tryz.ntmps151
     go_wp2_with fail
     all_goals go_ret
     all_goals exact ⟨_,_,rfl,HA.out,rfl⟩
 · obtain ⟨b,o,rfl,_⟩:=hA.at (i:=0) (by omega)
   have hn3:=hA.from (j:=m - n) (by omega)
   have hkl:(l.drop (m - n)).length=m - (m - n):=by rw [List.length_drop,hm]
   rw [hkl];have e1:(m:Int) - (n:Int)=((m - n:Nat):Int):=by omega
   have e2:0 < m - n:=by omega
   have e3:m - n < d:=by omega
   have e4:m - n≤m:=by omega
   have HN:=qH hn3;clear hn3 hkl hA;obtain ⟨j,Hj⟩:∃ z,Hid (m - n=z):=⟨_,rfl⟩;rw [Hj.out] at e1 e2 e3 e4 HN ⊢;have kw:IntKind.i64.wrap ((m:Int) - (n:Int))=(j:Int):=by rw [e1]; exact IntWalk.i64_in _ (by omega)
   have g1:¬ d=j:=by omega
   have g2:(0:Int) < (j:Int):=by omega
   have E1:=qH e1; clear e1;have Hm:=qH hm; clear hm;have Hcap:=qH hcap; clear hcap hle
   go_enter Tryz.func151,Tryz.ntmps151
   go_wp2_with fail
   all_goals go_ret
   all_goals exact ⟨_,_,rfl,HN.out,rfl⟩
end Go.Proofs.YtecjnkokdnmhlaaGreat
namespace Go.Proofs.YtecjnkokdnmhlaaGreat
open Go.RowKit
set_option maxRecDepth 100000 in
set_option maxHeartbeats 4000000 in
theorem nEst_calls (a:Option Addr) (m d:Nat) (l:List Int) (hm:m=l.length) (hs:m≤1000) (w:World) (hA:Nums w (.slice a m d) l) :
 Calls Tryz.prog 171 #[.slice a m d] w (Told2 w (estE l)):=by
 have HL:=qH (last_calls a m d l hm (by omega) 64 (by decide) (by decide) w hA)
 have hle:=lastN_le l;have hE:estE l=runE (lastN l):=rfl;have hk:l.drop (m - 64)=lastN l:=by unfold lastN; rw [hm]
 rw [hk] at HL;rw [hE];clear hE hk hs;have HA:=qH hA; clear hA;have Hm:=qH hm; clear hm
 generalize lastN l=k at *
 obtain ⟨n,Hn⟩:∃ z,Hid (k.length=z):=⟨_,rfl⟩;rw [Hn.out] at hle HL
 go_enter Tryz.func171,Tryz.ntmps171
 go_wp2_with fail
 refine HL.out.mono ?_;rintro e w1 ⟨A,C,rfl,hN,rfl⟩;have HN:=qH hN; clear hN
 go_wp2_with fail
 go_loop [4,10] (fun s4 s10=>∃ i x y:Nat,i≤n∧s4=.complex .f64 (F x 0) (F y 0)∧s10=.int .i64 i∧Hid (runE (k.take i)=(x,y))) (fun _ s10=>n - (intOf s10).toNat)
 case atStart=>exact ⟨0,0,0,Nat.zero_le _,rfl,rfl,rfl⟩
 case round =>
  obtain ⟨i,x,y,hi,rfl,rfl,Hr⟩:=hrel;have hbd:=run_part_bound (l:=k) (j:=0) (k:=i) (by omega)
  rw [List.drop_zero,Hr.out] at hbd;obtain ⟨hx,hy⟩:=hbd;simp only at hx hy
  by_cases hlt:i < n
  · obtain ⟨b,off,rfl,_,c0⟩:=HN.out.at (i:=i) (by have:=Hn.out; omega)
    have hnext:=run_part (l:=k) (j:=0) (k:=i) (Nat.zero_le _) (show i < k.length by have:=Hn.out; omega)
    rw [List.drop_zero,List.drop_zero,Hr.out] at hnext;obtain ⟨z,Hz⟩:∃ z,Hid (k[i]?.getD 0=z):=⟨_,rfl⟩;rw [Hz.out] at c0 hnext;have Hnext:=qH hnext; clear hnext
    by_cases hz0:z=0
    · subst hz0
      have hnx:=Hnext.out;rw [stepE_zero] at hnx;have Hnx:=qH hnx; clear hnx;have hq:=fun W=>run_complex_half (P:=Tryz.prog) W 229 (x:=x) (y:=y) (by omega) (by omega)
      have HD:=qH (fun W=>down_calls x y (by omega) (by omega) W)
      go_wp2_with fail
      refine (HD.out _).mono ?_;rintro e w2 ⟨rfl,rfl⟩
      go_wp2_with fail
      go_round
      case rel=>exact ⟨i + 1,x / 2,y / 2,by omega,rfl,by go_num,Hnx.out⟩
      case measure=>simp [intOf]; omega
    · have hz0':(z == 0)=false:=beq_eq_false_iff_ne.2 hz0
      by_cases hz1:1≤z
      · by_cases hz2:z≤1099511627776
        · have hnx:=Hnext.out
          rw [stepE_in _ hz1 hz2] at hnx;obtain ⟨q,rfl⟩:∃ q:Nat,z=q:=⟨z.toNat,by omega⟩
          rw [Int.toNat_natCast] at hnx;have Hnx:=qH hnx; clear hnx;have hof:floatOfInt .f64 (q:Int)=F q 0:=of_int_F q
          have hsum:cSumBits .add .f64 (F x 0) (F y 0) (F q 0) 4607182418800017408=some (F (x + q) 0,F (y + 1) 0):=by
           unfold cSumBits
           rw [add_F (by omega) (by decide) (by decide),show (4607182418800017408:Nat)=F 1 0 by decide +kernel,add_F (by omega) (by decide) (by decide)]
           rfl
          have hadd:=fun W=>run_complex_sum (P:=Tryz.prog) W .add (Or.inl rfl) 229 .f64 _ _ _ _ _ _ hsum
          go_wp2_with fail
          go_round
          case rel=>exact ⟨i + 1,x + q,y + 1,by omega,rfl,by go_num,Hnx.out⟩
          case measure=>simp [intOf]; omega
        · have hnx:=Hnext.out
          rw [stepE_out _ hz0 (fun h=>hz2 h.2)] at hnx
          have Hnx:=qH hnx; clear hnx
          go_wp2_with fail
          go_round
          case rel=>exact ⟨i + 1,x,y,by omega,rfl,by go_num,Hnx.out⟩
          case measure=>simp [intOf]; omega
      · have hnx:=Hnext.out
        rw [stepE_out _ hz0 (fun h=>hz1 h.1)] at hnx
        have Hnx:=qH hnx; clear hnx
        go_wp2_with fail
        go_round
        case rel=>exact ⟨i + 1,x,y,by omega,rfl,by go_num,Hnx.out⟩
        case measure=>simp [intOf]; omega
  · have hin:i=n:=by omega
    have Hin:=qH hin;have Hfin:Hid (runE k=(x,y)):=by have:=Hr.out; rwa [hin,← Hn.out,List.take_length] at this
    have hc1:=fun W=>run_convert_float_int (P:=Tryz.prog) W 231 2 .f64 .i64 (F x 0) (x:Int) (by kernel_rfl) Tryz.underlying2 (int_F (by omega))
    have hc2:=fun W=>run_convert_float_int (P:=Tryz.prog) W 231 2 .f64 .i64 (F y 0) (y:Int) (by kernel_rfl) Tryz.underlying2 (int_F (by omega))
    clear hin
    go_wp2_with fail
    go_ret2
    exact ⟨by rw [Hfin.out]; rfl,Below.refl _ _⟩
end Go.Proofs.YtecjnkokdnmhlaaGreat
