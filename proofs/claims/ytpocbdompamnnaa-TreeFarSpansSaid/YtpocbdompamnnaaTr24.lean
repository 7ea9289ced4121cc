import Derived.Test.YtpocbdompamnnaaTr23
import Derived.Test.YtpocbdompamnnaaMeet
import Derived.Test.YtpocbdompamnnaaNumDiv
namespace Go.Proofs.Ytpocbdompamnnaa
open Go.ChangeShapes Go.WideShapes Go.RowKit
open Sh
theorem ce5_up {n d:Int} (hd:0 < d):(n + d - 1) / d=Sp.ce n d:=by
  unfold Sp.ce
  rw [Sp.fl_pos hd]
  obtain ⟨q,hq⟩:∃ q,(-n) / d=q:=⟨_,rfl⟩
  rw [hq]
  have a:q * d≤-n:=(Int.le_ediv_iff_mul_le hd).1 (by omega)
  have b:-n < (q + 1) * d:=(Int.ediv_lt_iff_lt_mul hd).1 (by omega)
  rw [Int.add_mul,Int.one_mul] at b
  have c:-q≤(n + d - 1) / d:=(Int.le_ediv_iff_mul_le hd).2 (by rw [Int.neg_mul];omega)
  have e:(n + d - 1) / d < -q + 1:=(Int.ediv_lt_iff_lt_mul hd).2 (by rw [Int.add_mul,Int.neg_mul,Int.one_mul];omega)
  omega
set_option maxRecDepth 100000 in
set_option maxHeartbeats 4000000 in
theorem be5_any (n:Nat) (w:World) (h:n≤1152921504606846976) :
    Calls Try.prog 44 #[.int .i64 (n:Int)] w fun e w'=>e=.returned (.int .i64 ((Rt.isq n:Nat):Int))∧w=w':=by
  have UQ:=Lib.hid (fun r (h:r * r≤n) (k:n < (r + 1) * (r + 1))=>Rt.isq_unique h k)
  have hn:(n:Int)≤1152921504606846976:=by omega
  go_enter Try.func44,Try.ntmps44
  go_wp2
  go_loop [3,4] (fun rv bv=>∃ R b i:Nat,rv=.int .i64 R∧bv=.int .i64 b∧R * R≤n∧((i=0∧b=0∧n < (R + 1) * (R + 1)∧R + 1≤2147483648)∨(0 < i∧2 * b=2 ^ i∧n < (R + 2 * b) * (R + 2 * b)∧R + 2 * b≤2147483648))) (fun _ bv=>(intOf bv).toNat)
  case atStart=>exact ⟨0,1073741824,31,rfl,rfl,by omega,.inr ⟨by omega,by decide,by omega,by omega⟩⟩
  case round =>
    obtain ⟨R,b,i,rfl,rfl,hR,ho⟩:=hrel
    rcases ho with ⟨hi,hb,hq,hs⟩ | ⟨hi,hb,hq,hs⟩
    · subst hb
      have e:=Lib.hid (UQ.out R hR hq)
      clear UQ hq hR
      go_wp2
      go_ret
      exact ⟨by rw [← e.out];rfl,rfl⟩
    · obtain ⟨m,rfl⟩:∃ m,i=m + 1:=⟨i - 1,by omega⟩
      have hb2:b=2 ^ m:=by rw [Nat.pow_succ] at hb;omega
      have b1:1≤b:=by rw [hb2];exact Nat.one_le_two_pow
      have nx:(m=0∧b / 2=0∧b=1)∨(0 < m∧2 * (b / 2)=2 ^ m∧2 * (b / 2)=b):=by
        rcases Nat.eq_zero_or_pos m with z | z
        · subst z
          exact .inl ⟨rfl,by simp [hb2],by simp [hb2]⟩
        · obtain ⟨j,rfl⟩:∃ j,m=j + 1:=⟨m - 1,by omega⟩
          rw [Nat.pow_succ] at hb2
          exact .inr ⟨z,by rw [Nat.pow_succ];omega,by omega⟩
      obtain ⟨k,hk⟩:∃ k,R + b=k:=⟨_,rfl⟩
      have e1:(R:Int) + (b:Int)=(k:Int):=by omega
      have hk2:k≤2147483648:=by omega
      have kk:=Nat.mul_le_mul hk2 hk2
      have kk1:(k:Int) * (k:Int)≤4611686018427387904:=by rw [← Int.natCast_mul];omega
      have kk0:(0:Int)≤(k:Int) * (k:Int):=by rw [← Int.natCast_mul];omega
      have p1:(0:Int) < (b:Int):=by omega
      have NX:=Lib.hid nx
      have HS:=Lib.hid (show R + 2 * b≤2147483648∧R + b=k∧1≤b∧n < (R + 2 * b) * (R + 2 * b)∧R * R≤n from ⟨hs,hk,b1,hq,hR⟩)
      clear kk nx hb hb2 hs hk b1 hq hR hi
      by_cases c:k * k≤n
      · have cI:(k:Int) * (k:Int)≤(n:Int):=by rw [← Int.natCast_mul];omega
        have CC:=Lib.hid c
        clear c
        go_wp2
        go_round
        case rel =>
          obtain ⟨q1,q2,q3,q4,q5⟩:=HS.out
          have q6:R + 2 * b=k + b:=by omega
          rw [q6] at q4 q1
          refine ⟨k,b / 2,m,rfl,val_i (by omega),CC.out,?_⟩
          rcases NX.out with ⟨z,y,x⟩ | ⟨z,y,x⟩
          · exact .inl ⟨z,y,by rw [x] at q4;exact q4,by omega⟩
          · exact .inr ⟨z,y,by rw [x];exact q4,by omega⟩
        case measure=>have:=HS.out.2.2.1;simp [intOf];omega
      · have cI:(n:Int) < (k:Int) * (k:Int):=by rw [← Int.natCast_mul];omega
        have CC:=Lib.hid (show n < k * k by omega)
        clear c
        go_wp2
        go_round
        case rel =>
          obtain ⟨q1,q2,q3,q4,q5⟩:=HS.out
          have q6:=CC.out
          rw [← q2] at q6
          refine ⟨R,b / 2,m,rfl,val_i (by omega),q5,?_⟩
          rcases NX.out with ⟨z,y,x⟩ | ⟨z,y,x⟩
          · exact .inl ⟨z,y,by rw [x] at q6;exact q6,by omega⟩
          · exact .inr ⟨z,y,by rw [x];exact q6,by omega⟩
        case measure=>have:=HS.out.2.2.1;simp [intOf];omega
set_option maxRecDepth 100000 in
set_option maxHeartbeats 4000000 in
theorem ab5_any (n:Nat) (w:World) (h:n≤1152921504606846976) :
    Calls Try.prog 43 #[.int .i64 (n:Int)] w fun e w'=>e=.returned (.int .i64 ((Rt.csq n:Nat):Int))∧w=w':=by
  have hb:Rt.isq n≤1073741824:=by have:=Rt.isq_lt (n:=n) (b:=1073741825) (by omega);omega
  have B:=Lib.hid (fun W=>be5_any n W h)
  have Q:=Lib.hid (csq_iff n)
  have hn:(n:Int)≤1152921504606846976:=by omega
  obtain ⟨r,hr⟩:∃ r,Rt.isq n=r:=⟨_,rfl⟩
  rw [hr] at hb B Q
  have kk:=Nat.mul_le_mul hb hb
  have k1:(r:Int) * (r:Int)≤4611686018427387904:=by rw [← Int.natCast_mul];omega
  have k0:(0:Int)≤(r:Int) * (r:Int):=by rw [← Int.natCast_mul];omega
  clear hr kk
  by_cases c:r * r < n
  · have cI:(r:Int) * (r:Int) < (n:Int):=by rw [← Int.natCast_mul];omega
    rw [Q.out.1 c]
    clear c Q
    go_enter Try.func43,Try.ntmps43
    go_wp2_with fail
    refine (B.out _).mono ?_
    rintro e w1 ⟨rfl,rfl⟩
    go_wp2
    go_ret
    exact ⟨ret_int (by omega),rfl⟩
  · have cI:(n:Int)≤(r:Int) * (r:Int):=by rw [← Int.natCast_mul];omega
    rw [Q.out.2 (by omega)]
    clear c Q
    go_enter Try.func43,Try.ntmps43
    go_wp2_with fail
    refine (B.out _).mono ?_
    rintro e w1 ⟨rfl,rfl⟩
    go_wp2
    go_ret
    exact ⟨rfl,rfl⟩
theorem tl5 (x:Nat) (h:x < 1048576):Sp.told ((Rt.isq (x * 1099511627776):Nat):Int) ((Rt.csq (x * 1099511627776):Nat):Int)=((((Rt.isq (x * 1099511627776):Nat):Int),((Rt.csq (x * 1099511627776):Nat):Int)),0):=by
  have a:=Rt.isq_lt (n:=x * 1099511627776) (b:=1073741824) (by omega)
  have b:=csq_iff (x * 1099511627776)
  refine Sp.told_yes (Sp.vld_iff.2 ?_)
  rcases Nat.lt_or_ge (Rt.isq (x * 1099511627776) * Rt.isq (x * 1099511627776)) (x * 1099511627776) with c | c
  · rw [b.1 c];omega
  · rw [b.2 c];omega
theorem cb5 (x:Nat) (h:x < 1048576):((Rt.csq (x * 1099511627776):Nat):Int)≤1073741824:=by
  have a:=Rt.isq_lt (n:=x * 1099511627776) (b:=1073741824) (by omega)
  have b:=csq_iff (x * 1099511627776)
  rcases Nat.lt_or_ge (Rt.isq (x * 1099511627776) * Rt.isq (x * 1099511627776)) (x * 1099511627776) with c | c
  · rw [b.1 c];omega
  · rw [b.2 c];omega
theorem ib5 (x:Nat) (h:x < 1048576):((Rt.isq (x * 1099511627776):Nat):Int)≤1073741824:=by
  have a:=Rt.isq_lt (n:=x * 1099511627776) (b:=1073741824) (by omega)
  omega
def rtN (n:Int):Int:=((Rt.isq (n.toNat * 1099511627776):Nat):Int)
def ruN (n:Int):Int:=((Rt.csq (n.toNat * 1099511627776):Nat):Int)
theorem len5 {n:Int} (h0:0≤n) (h1:n < 1048576):lenR n=((rtN n,ruN n),0):=by
  unfold lenR
  rw [if_pos (by omega)]
  exact tl5 _ (by omega)
theorem rt_bd {n:Int} (h0:0≤n) (h1:n < 1048576):0≤rtN n∧rtN n≤ruN n∧ruN n≤1073741824:=by
  have a:=cb5 n.toNat (by omega)
  have b:Rt.isq (n.toNat * 1099511627776)≤Rt.csq (n.toNat * 1099511627776):=by
    unfold Rt.csq
    split <;> omega
  unfold rtN ruN
  omega
def nearD (a b:Ni):Int:=rtN (sq (sub a.2.2.2.2.1 b.2.2.2.2.1)) - (ruN a.2.2.2.2.2 + ruN b.2.2.2.2.2)
def farD (a b:Ni):Int:=ruN (sq (sub a.2.2.2.2.1 b.2.2.2.2.1)) + (ruN a.2.2.2.2.2 + ruN b.2.2.2.2.2)
def fsR (a b:Ni):Sp.R:=if ballB a && ballB b then (if nearD a b≤0 then ((0,0),10) else ((Sp.fl 1099511627776 (farD a b),Sp.ce 1099511627776 (nearD a b)),0)) else ((0,0),1)
theorem fl5 {n d e:Int} (hn:0≤n) (hd:0 < d) (h:d≤e):Sp.fl n e≤Sp.fl n d:=by
  rw [Sp.fl_pos hd,Sp.fl_pos (by omega)]
  have a:n / e * e≤n:=Int.ediv_mul_le n (by omega)
  have q:0≤n / e:=Int.ediv_nonneg hn (by omega)
  have b:=Int.mul_le_mul_of_nonneg_left h q
  exact (Int.le_ediv_iff_mul_le hd).2 (by omega)
theorem ce5 {n d e:Int} (hn:0≤n) (hd:0 < d) (h:d≤e):Sp.ce n e≤Sp.ce n d:=by
  unfold Sp.ce
  rw [Sp.fl_pos hd,Sp.fl_pos (by omega)]
  have a:(-n) / d * d≤-n:=Int.ediv_mul_le _ (by omega)
  have q:(-n) / d≤0:=by
    have:=Int.ediv_le_ediv hd (show -n≤0 by omega)
    simpa using this
  have b:=Int.mul_le_mul_of_nonneg_left h (show 0≤-((-n) / d) by omega)
  have c:(-n) / d≤(-n) / e:=(Int.le_ediv_iff_mul_le (by omega)).2 (by rw [Int.neg_mul,Int.neg_mul] at b;omega)
  omega
theorem flce5 {n d:Int} (hd:0 < d):Sp.fl n d≤Sp.ce n d:=by
  unfold Sp.ce
  rw [Sp.fl_pos hd,Sp.fl_pos hd]
  have a:(-n) / d * d≤-n:=Int.ediv_mul_le _ (by omega)
  have b:n / d * d≤n:=Int.ediv_mul_le _ (by omega)
  rcases Int.lt_or_le 0 (n / d + (-n) / d) with c | c
  · have e:=Int.mul_le_mul_of_nonneg_right (show 1≤n / d + (-n) / d by omega) (show 0≤d by omega)
    rw [Int.add_mul] at e
    omega
  · omega
theorem fb5 {n d:Int} (hn:0≤n) (hd:0 < d):0≤Sp.fl n d∧Sp.fl n d≤n∧0≤Sp.ce n d∧Sp.ce n d≤n:=by
  have a:=fl5 hn (show (0:Int) < 1 by decide) (show 1≤d by omega)
  have b:=ce5 hn (show (0:Int) < 1 by decide) (show 1≤d by omega)
  rw [Sp.fl_pos (show (0:Int) < 1 by decide),Int.ediv_one] at a
  have c:Sp.ce n 1=n:=by
    unfold Sp.ce
    rw [Sp.fl_pos (show (0:Int) < 1 by decide),Int.ediv_one]
    omega
  rw [c] at b
  have f:0≤Sp.fl n d:=by
    rw [Sp.fl_pos hd]
    exact Int.ediv_nonneg hn (by omega)
  have g:=flce5 (n:=n) hd
  exact ⟨f,a,by omega,b⟩
theorem quo5 {d:Int} (h0:0 < d) (h1:d≤1099511627776):Sp.quo 1048576 d=((Sp.fl 1099511627776 d,Sp.ce 1099511627776 d),0):=by
  unfold Sp.quo
  rw [if_pos (by omega)]
  show Sp.told (Sp.fl 1099511627776 d) (Sp.ce 1099511627776 d)=_
  have a:=fb5 (n:=1099511627776) (by decide) h0
  have b:=flce5 (n:=1099511627776) h0
  exact Sp.told_yes (Sp.vld_iff.2 ⟨by omega,b,a.2.2.2⟩)
theorem hull5 {d e:Int} (h0:0 < d) (h1:d≤e):Sp.hull (Sp.fl 1099511627776 e) (Sp.ce 1099511627776 e) (Sp.fl 1099511627776 d) (Sp.ce 1099511627776 d)=((Sp.fl 1099511627776 e,Sp.ce 1099511627776 d),0):=by
  have a:=fb5 (n:=1099511627776) (by decide) h0
  have b:=flce5 (n:=1099511627776) h0
  have a':=fb5 (n:=1099511627776) (d:=e) (by decide) (by omega)
  have b':=flce5 (n:=1099511627776) (d:=e) (by omega)
  have c:=fl5 (n:=1099511627776) (by decide) h0 h1
  have f:=ce5 (n:=1099511627776) (by decide) h0 h1
  rw [Sp.hull_yes (Sp.vld_iff.2 ⟨by omega,b',a'.2.2.2⟩) (Sp.vld_iff.2 ⟨by omega,b,a.2.2.2⟩)]
  unfold Sp.mn Sp.mx
  by_cases z:Sp.ce 1099511627776 e < Sp.ce 1099511627776 d
  · rw [if_neg (by omega),if_pos z]
  · rw [if_neg (by omega),if_neg z,show Sp.ce 1099511627776 e=Sp.ce 1099511627776 d by omega]
theorem msn5 (x:Int):0≤x * x:=by
  rcases Int.le_total 0 x with e | e
  · exact Int.mul_nonneg e e
  · exact Int.mul_nonneg_of_nonpos_of_nonpos e e
theorem sq5 {u:P3} (h:BdP 128 u):0≤sq u∧sq u≤49152:=by
  obtain ⟨h1,h2,h3,h4,h5,h6⟩:=h
  have a:=mul_bd h1 h2 h1 h2
  have b:=mul_bd h3 h4 h3 h4
  have c:=mul_bd h5 h6 h5 h6
  have a':=msn5 u.1
  have b':=msn5 u.2.1
  have c':=msn5 u.2.2
  unfold sq dot
  omega
theorem ball5 {x:Ni} (h:ballB x=true):0≤x.2.2.2.2.2∧x.2.2.2.2.2≤131072∧BdP 64 x.2.2.2.2.1:=by
  unfold ballB at h
  rw [Bool.and_eq_true] at h
  exact ⟨(rngB_iff.1 h.1).1,(rngB_iff.1 h.1).2,inP_iff.1 h.2⟩
theorem sub5 {a b:P3} (h:BdP 64 a) (k:BdP 64 b):BdP 128 (sub a b):=by
  unfold BdP sub at *
  dsimp only
  omega
theorem sqsub5 (a b:P3):sq (sub a b)=sq (sub b a):=by
  unfold sq dot sub
  dsimp only
  grind
theorem fsD_bd {a b:Ni} (h:ballB a=true) (k:ballB b=true):nearD a b≤farD a b∧farD a b≤1099511627776∧-1099511627776≤nearD a b∧nearD a b≤1099511627776∧0≤farD a b:=by
  have x:=ball5 h
  have y:=ball5 k
  have z:=sq5 (sub5 x.2.2 y.2.2)
  have q1:=rt_bd z.1 (by omega)
  have q2:=rt_bd x.1 (by omega)
  have q3:=rt_bd y.1 (by omega)
  unfold nearD farD
  omega
theorem nearD_sw (a b:Ni):nearD a b=nearD b a:=by
  unfold nearD
  rw [sqsub5]
  omega
theorem farD_sw (a b:Ni):farD a b=farD b a:=by
  unfold farD
  rw [sqsub5]
  omega
theorem fsR_sw (a b:Ni):fsR a b=fsR b a:=by
  unfold fsR
  rw [nearD_sw,farD_sw,Bool.and_comm]
theorem hull9_any (al ah bl bh:Int) (w:World) :
    Calls Try.prog 39 #[spv al ah,spv bl bh] w fun e w'=>e=.returned (spr (Sp.hull al ah bl bh))∧Below w.heap.size w w':=by
  cases h:Sp.vldB al ah
  · rw [Sp.hull_no1 h];exact hull_no1 _ _ _ _ _ h
  cases k:Sp.vldB bl bh
  · rw [Sp.hull_no2 k];exact hull_no2 _ _ _ _ _ h k
  rw [Sp.hull_yes h k];exact hull_yes _ _ _ _ _ h k
end Go.Proofs.Ytpocbdompamnnaa
