import Derived.Lib.ItoaNum
import Derived.Test.YtpocbdompamnnaaQuo
import Derived.Test.YtpocbdompamnnaaShelf
import Derived.WalkMore
import Derived.ScopeJumps
import Derived.LoopTactic
import Derived.Deep.RegionHeld3
namespace Go.Proofs.Ytpocbdompamnnaa
namespace Rt
def isq:Nat→Nat
  | 0=>0
  | n + 1=>if (isq n + 1) * (isq n + 1)≤n + 1 then isq n + 1 else isq n
theorem isq_spec (n:Nat):isq n * isq n≤n∧n < (isq n + 1) * (isq n + 1):=by
  induction n with
  | zero=>simp [isq]
  | succ n ih =>
    unfold isq
    split
    · rename_i h
      refine ⟨h,?_⟩
      have e:(isq n + 1 + 1) * (isq n + 1 + 1)=(isq n + 1) * (isq n + 1) + (2 * isq n + 3):=by simp only [Nat.add_mul,Nat.mul_add];omega
      omega
    · omega
theorem isq_unique {n r:Nat} (h:r * r≤n) (k:n < (r + 1) * (r + 1)):r=isq n:=by
  have ⟨a,b⟩:=isq_spec n
  rcases Nat.lt_trichotomy r (isq n) with c | c | c
  · have:=Nat.mul_le_mul (show r + 1≤isq n by omega) (show r + 1≤isq n by omega);omega
  · exact c
  · have:=Nat.mul_le_mul (show isq n + 1≤r by omega) (show isq n + 1≤r by omega);omega
def csq (n:Nat):Nat:=if isq n * isq n=n then isq n else isq n + 1
theorem isq_le (n:Nat):isq n≤n:=by
  have:=(isq_spec n).1
  rcases Nat.eq_zero_or_pos (isq n) with c | c
  · omega
  · have:=Nat.le_mul_of_pos_left (isq n) c;omega
theorem isq_lt {n b:Nat} (h:n < b * b):isq n < b:=by
  have:=(isq_spec n).1
  rcases Nat.lt_or_ge (isq n) b with c | c
  · exact c
  · have:=Nat.mul_le_mul c c;omega
theorem isq_mono {m n:Nat} (h:m≤n):isq m≤isq n:=by
  have a:=(isq_spec m).1
  have b:=(isq_spec n).2
  rcases Nat.lt_or_ge (isq n) (isq m) with c | c
  · have:=Nat.mul_le_mul (show isq n + 1≤isq m by omega) (show isq n + 1≤isq m by omega);omega
  · exact c
theorem newton_ge {n d:Nat} (hd:0 < d):isq n≤(d + n / d) / 2:=by
  have a:=(isq_spec n).1
  rw [Nat.le_div_iff_mul_le (by decide)]
  rcases Nat.lt_or_ge (isq n * 2) d with c | c
  · generalize n / d=q;omega
  · have:isq n * 2 - d≤n / d:=by
      rw [Nat.le_div_iff_mul_le hd]
      obtain ⟨e,he⟩:∃ e,isq n * 2=d + e:=⟨isq n * 2 - d,by omega⟩
      rw [show isq n * 2 - d=e by omega]
      refine Nat.le_trans ?_ a
      generalize isq n=r at *
      have h4:4 * (e * d)≤4 * (r * r):=by
        have h1:4 * (r * r)=(r * 2) * (r * 2):=by rw [Nat.mul_mul_mul_comm];omega
        rw [h1,he]
        simp only [Nat.add_mul,Nat.mul_add]
        rcases Nat.le_total d e with q | q
        · obtain ⟨f,rfl⟩:=Nat.le.dest q
          simp only [Nat.add_mul,Nat.mul_add]
          have:=Nat.mul_comm d f
          omega
        · obtain ⟨f,rfl⟩:=Nat.le.dest q
          simp only [Nat.add_mul,Nat.mul_add]
          have:=Nat.mul_comm e f
          omega
      omega
    generalize n / d=q at *
    omega
theorem newton_lt {n d:Nat} (h:isq n < d):(d + n / d) / 2 < d:=by
  have b:=(isq_spec n).2
  have:n / d < d:=by
    rw [Nat.div_lt_iff_lt_mul (by omega)]
    have:=Nat.mul_le_mul (show isq n + 1≤d by omega) (show isq n + 1≤d by omega);omega
  omega
theorem newton_stop {n d:Nat} (h:isq n≤d) (k:¬ (d + n / d) / 2 < d):d=isq n:=by
  rcases Nat.lt_or_ge (isq n) d with c | c
  · exact absurd (newton_lt c) k
  · omega
theorem place {N d:Nat} (h:d=isq N):(if 4 * (N - d * d) > 2 * (2 * d) then 2 * d + 1 else 2 * d)=isq (N * 4):=by
  have ⟨a,b⟩:=isq_spec N
  rw [← h] at a b
  have e1:(d + 1) * (d + 1)=d * d + 2 * d + 1:=by simp only [Nat.add_mul,Nat.mul_add];omega
  have e2:(2 * d) * (2 * d)=4 * (d * d):=by rw [Nat.mul_mul_mul_comm]
  have e3:(2 * d + 1) * (2 * d + 1)=4 * (d * d) + 4 * d + 1:=by simp only [Nat.add_mul,Nat.mul_add];omega
  have e4:(2 * d + 1 + 1) * (2 * d + 1 + 1)=4 * (d * d) + 8 * d + 4:=by simp only [Nat.add_mul,Nat.mul_add];omega
  split
  · exact isq_unique (by omega) (by omega)
  · exact isq_unique (by omega) (by omega)
theorem len_hi {n:Nat} (h0:n ≠ 0) (h:n < 18446744073709551616):n < 2 ^ ((Lib.bitLen n + 1) / 2) * 2 ^ ((Lib.bitLen n + 1) / 2):=by
  have b:=(Lib.bitLenAux_bounds 64 n (by simpa using h) h0).2.2
  refine Nat.lt_of_lt_of_le b ?_
  rw [← Nat.pow_add]
  exact Nat.pow_le_pow_right (by decide) (by show Lib.bitLen n≤_;omega)
end Rt
end Go.Proofs.Ytpocbdompamnnaa
namespace Go.Proofs.Ytpocbdompamnnaa
open Go.ChangeShapes Go.WideShapes Go.RowKit
theorem ret_2i {a b c d:Int} (h:a=c) (k:b=d):Ending.returned (.tuple #[.int .i64 a,.int .i64 b])=.returned (.tuple #[.int .i64 c,.int .i64 d]):=by rw [h,k]
theorem val_i {a b:Int} (h:a=b):Value.int .i64 a=.int .i64 b:=by rw [h]
def rst (N:Nat):Nat:=N - Rt.isq N * Rt.isq N
theorem rst_le (N:Nat):rst N≤2 * Rt.isq N:=by
  have:=(Rt.isq_spec N).2
  unfold rst
  simp only [Nat.add_mul,Nat.mul_add] at this;omega
theorem rst_next (N:Nat):(2 * (2 * Rt.isq N) < 4 * rst N→Rt.isq (N * 4)=2 * Rt.isq N + 1∧rst (N * 4) + (2 * (2 * Rt.isq N) + 1)=4 * rst N) ∧
    (4 * rst N≤2 * (2 * Rt.isq N)→Rt.isq (N * 4)=2 * Rt.isq N∧rst (N * 4)=4 * rst N):=by
  have p:=Rt.place (N:=N) rfl
  have a:=(Rt.isq_spec N).1
  have e2:(2 * Rt.isq N) * (2 * Rt.isq N)=4 * (Rt.isq N * Rt.isq N):=by rw [Nat.mul_mul_mul_comm]
  have e3:(2 * Rt.isq N + 1) * (2 * Rt.isq N + 1)=4 * (Rt.isq N * Rt.isq N) + 4 * Rt.isq N + 1:=by simp only [Nat.add_mul,Nat.mul_add];omega
  unfold rst at *
  constructor
  · intro h
    rw [if_pos (by omega)] at p
    rw [← p];omega
  · intro h
    rw [if_neg (by omega)] at p
    rw [← p];omega
theorem csq_eq (N:Nat):(rst N=0→Rt.csq N=Rt.isq N)∧(rst N ≠ 0→Rt.csq N=Rt.isq N + 1):=by
  have a:=(Rt.isq_spec N).1
  unfold Rt.csq rst
  constructor
  · intro h;rw [if_pos (by omega)]
  · intro h;rw [if_neg (by omega)]
theorem pow_bd {n m:Nat} (h:n≤1152921504606846976) (hm:m≤20):n * 4 ^ m≤1267650600228229401496703205376:=by
  have:4 ^ m≤4 ^ 20:=Nat.pow_le_pow_right (by decide) hm
  have:=Nat.mul_le_mul h this
  omega
theorem isq_bd {n m:Nat} (h:n≤1152921504606846976) (hm:m≤20):Rt.isq (n * 4 ^ m)≤1125899906842624:=by
  have:=Rt.isq_lt (n:=n * 4 ^ m) (b:=1125899906842625) (by have:=pow_bd h hm;omega)
  omega
theorem root_zero (m:Nat) (w:World) :
    Calls Try.prog 91 #[.int .i64 0,.int .i64 m] w fun e w'=>e=.returned (.tuple #[.int .i64 0,.int .i64 0])∧w=w':=by
  go_enter Try.func91,Try.ntmps91
  go_wp2
  go_step3
  go_wp2
  rw [Exit.noGoto_ret]
  go_ret2
  exact ⟨rfl,rfl⟩
set_option maxRecDepth 1000000 in
set_option maxHeartbeats 1600000 in
theorem root_pos (n m:Nat) (w:World) (h0:0 < n) (h:n≤1152921504606846976) (hm:m≤20) :
    Calls Try.prog 91 #[.int .i64 n,.int .i64 m] w fun e w'=>e=.returned (.tuple #[.int .i64 (Rt.isq (n * 4 ^ m):Nat),.int .i64 (Rt.csq (n * 4 ^ m):Nat)])∧w=w':=by
  have z:(((n:Int) == 0)=false):=beq_eq_false_iff_ne.2 (by omega)
  have C0:∃ L d:Nat,L≤61∧wrap64 (2 ^ ((L + 1) / 2))=(d:Int)∧Rt.isq n≤d∧0 < d∧d≤2147483648∧∀ W:World,Calls Try.prog 97 #[.int .u64 (n:Int)] W fun e w'=>e=.returned (.int .i64 (L:Int))∧W=w':=by
    have hl:Lib.bitLen n≤61:=Lib.bitLen_le n 61 (by decide) (by omega)
    have hp:2 ^ ((Lib.bitLen n + 1) / 2)≤2147483648:=Nat.le_trans (Nat.pow_le_pow_right (by decide) (show (Lib.bitLen n + 1) / 2≤31 by omega)) (by decide)
    refine ⟨Lib.bitLen n,2 ^ ((Lib.bitLen n + 1) / 2),hl,?_,?_,Nat.pos_of_ne_zero (by simp),hp,fun W=>?_⟩
    · have e:(2:Int) ^ ((Lib.bitLen n + 1) / 2)=((2 ^ ((Lib.bitLen n + 1) / 2):Nat):Int):=by simp
      rw [e]
      generalize 2 ^ ((Lib.bitLen n + 1) / 2)=z at *
      rw [w64 (by omega) (by omega)]
    · exact Nat.le_of_lt (Rt.isq_lt (Rt.len_hi (by omega) (by omega)))
    · exact (Try.bits_Len (n:Int) W (by omega) (by omega)).mono fun _ _ ⟨a,b⟩=>⟨a,b.symm⟩
  obtain ⟨L,d,hL,hS,hd1,hd0,hd2,C1⟩:=C0
  have C:=Lib.hid C1
  have hL':(L:Int)≤61:=by omega
  have HI:Hid (1≤Rt.isq n):=by
    rcases Nat.eq_zero_or_pos (Rt.isq n) with e | e
    · have:=(Rt.isq_spec n).2;rw [e] at this;omega
    · exact e
  clear C1
  go_enter Try.func91,Try.ntmps91
  go_wp2
  refine wp_scope_jumps 0 (fun a' w'=>w'=w∧∃ (d:Nat) (u6 u8 u9 u10 u11 u12 u13 u14 u15 u16 u17 u18 u19 u20 u21 u22 u23 u24 u25:Value),a'={ tmps:=#[.int .i64 n,.int .i64 m,undef,undef,.int .i64 d,.int .i64 0,u6,undef,u8,u9,u10,u11,u12,u13,u14,u15,u16,u17,u18,u19,u20,u21,u22,u23,u24,u25,undef,undef,undef,undef,undef,undef,undef,undef,undef,undef,undef,undef,undef,undef,undef,undef,undef,undef,undef,undef,undef,undef,undef,undef,undef,undef,undef,undef,undef,undef,undef],defers:=[] }∧Rt.isq n≤d∧0 < d∧d≤2147483648) (fun a' _=>(intOf (a'.tmps.getD 4 undef)).toNat) rfl ?_ ?_
  · go_wp2_with fail
    refine (C.out _).mono ?_
    rintro e w1 ⟨rfl,rfl⟩
    go_wp2_with fail
    go_step3
    have hq1:n / d≤n:=Nat.div_le_self _ _
    have eq:(n:Int) / (d:Int)=((n / d:Nat):Int):=(Int.natCast_ediv n d).symm
    have NG:=Lib.hid (Rt.newton_ge (n:=n) hd0)
    have NS:=Lib.hid (fun k=>Rt.newton_stop (n:=n) (d:=d) hd1 k)
    have hq2:Hid (n / d=n / d):=rfl
    generalize n / d=q at *
    clear hq2
    have D1:=Lib.hid hd1
    clear hd1
    have hd0':(1:Int)≤(d:Int):=by omega
    have hd2':(d:Int)≤2147483648:=by omega
    have hq1':(q:Int)≤1152921504606846976:=by omega
    by_cases hlt:((d:Int) + (q:Int)) / 2 < (d:Int)
    · go_wp2
      (try go_step3)
      have e1:((d:Int) + (q:Int)) / 2=(((d + q) / 2:Nat):Int):=by omega
      rw [e1]
      refine And.intro (a:=(0:Nat)=0) rfl ?_
      refine ⟨rfl,(d + q) / 2,_,_,_,_,_,_,_,_,_,_,_,_,_,_,_,_,_,_,_,rfl,NG.out,by have:=NG.out;have:=HI.out;omega,by omega⟩
    · have ds:d=Rt.isq n:=NS.out (by omega)
      have hnlt:(d:Int)≤((d:Int) + (q:Int)) / 2:=by omega
      have DS:=Lib.hid ds
      have hb:d * d≤n:=by rw [ds];exact (Rt.isq_spec n).1
      have hb1:(0:Int)≤(d:Int) * (d:Int):=by rw [← Int.natCast_mul];omega
      have hb2:(d:Int) * (d:Int)≤(n:Int):=by rw [← Int.natCast_mul];omega
      have hr:(n:Int) - (d:Int) * (d:Int)=((rst n:Nat):Int):=by
        unfold rst;rw [← ds,← Int.natCast_mul];omega
      clear ds hlt hb
      go_wp2
      go_loop [4,7,32] (fun dv rv cv=>∃ k:Nat,k≤m∧cv=.int .i64 k∧dv=.int .i64 ((Rt.isq (n * 4 ^ k):Nat):Int)∧rv=.int .i64 ((rst (n * 4 ^ k):Nat):Int)) (fun _ _ cv=>m - (intOf cv).toNat)
      case atStart=>exact ⟨0,Nat.zero_le _,rfl,val_i (by first | (rw [DS.out,Nat.pow_zero,Nat.mul_one];done) | (rw [hS,DS.out,Nat.pow_zero,Nat.mul_one];done)),val_i (by rw [Nat.pow_zero,Nat.mul_one])⟩
      case round =>
        obtain ⟨k,hk,rfl,rfl,rfl⟩:=hrel
        clear hr hb1 hb2 eq hq1 hq1' hd0' hd2' hnlt
        have BD:=isq_bd h (show k≤20 by omega)
        have RB:=rst_le (n * 4 ^ k)
        have RN:=rst_next (n * 4 ^ k)
        have CQ:=csq_eq (n * 4 ^ k)
        have hN:n * 4 ^ (k + 1)=n * 4 ^ k * 4:=by rw [Nat.pow_succ,Nat.mul_assoc]
        rw [← hN] at RN
        clear hN
        by_cases hlt:k < m
        · clear CQ
          have RN1:=RN.1
          have RN2:=RN.2
          clear RN
          generalize Rt.isq (n * 4 ^ k)=D at *
          generalize rst (n * 4 ^ k)=R at *
          by_cases c:2 * (2 * D) < 4 * R
          · have ⟨p1,p2⟩:=RN1 c
            have P1:=Lib.hid p1
            have P2:=Lib.hid p2
            clear p1 p2 RN1 RN2
            have cI:2 * (2 * (D:Int)) < 4 * (R:Int):=by omega
            go_wp2
            go_round
            case rel=>exact ⟨k + 1,by omega,by go_num,val_i (by rw [P1.out];omega),val_i (by have:=P2.out;omega)⟩
            case measure=>simp [intOf];omega
          · have ⟨p1,p2⟩:=RN2 (by omega)
            have P1:=Lib.hid p1
            have P2:=Lib.hid p2
            clear p1 p2 RN1 RN2
            have cI:4 * (R:Int)≤2 * (2 * (D:Int)):=by omega
            go_wp2
            go_round
            case rel=>exact ⟨k + 1,by omega,by go_num,val_i (by rw [P1.out];omega),val_i (by have:=P2.out;omega)⟩
            case measure=>simp [intOf];omega
        · obtain rfl:k=m:=by omega
          clear RN
          have CQ1:=CQ.1
          have CQ2:=CQ.2
          clear CQ
          generalize hD:Rt.isq (n * 4 ^ k)=D at *
          generalize hE:Rt.csq (n * 4 ^ k)=E at *
          generalize rst (n * 4 ^ k)=R at *
          have HD:=Lib.hid hD
          have HE:=Lib.hid hE
          clear hD hE
          by_cases c:R=0
          · have E1:=Lib.hid (CQ1 c)
            clear CQ1 CQ2
            subst c
            go_wp2
            (try simp only [Exit.jump])
            (try rw [Exit.noGoto_ret])
            go_ret2
            exact ⟨ret_2i (by rw [HD.out]) (by rw [HE.out,E1.out]),rfl⟩
          · have cB:((R:Int) == 0)=false:=beq_eq_false_iff_ne.2 (by omega)
            have E1:=Lib.hid (CQ2 c)
            clear c CQ1 CQ2
            go_wp2
            (try simp only [Exit.jump])
            (try rw [Exit.noGoto_ret])
            go_ret2
            exact ⟨ret_2i (by rw [HD.out]) (by rw [HE.out,E1.out];omega),rfl⟩
  · clear hS hL hL' C hd1 hd0 hd2 d
    rintro a' w' ⟨rfl,d,u6,u8,u9,u10,u11,u12,u13,u14,u15,u16,u17,u18,u19,u20,u21,u22,u23,u24,u25,rfl,hd1,hd0,hd2⟩
    have hq1:n / d≤n:=Nat.div_le_self _ _
    have eq:(n:Int) / (d:Int)=((n / d:Nat):Int):=(Int.natCast_ediv n d).symm
    have NG:=Lib.hid (Rt.newton_ge (n:=n) hd0)
    have NS:=Lib.hid (fun k=>Rt.newton_stop (n:=n) (d:=d) hd1 k)
    have hq2:Hid (n / d=n / d):=rfl
    generalize n / d=q at *
    clear hq2
    have D1:=Lib.hid hd1
    clear hd1
    have hd0':(1:Int)≤(d:Int):=by omega
    have hd2':(d:Int)≤2147483648:=by omega
    have hq1':(q:Int)≤1152921504606846976:=by omega
    by_cases hlt:((d:Int) + (q:Int)) / 2 < (d:Int)
    · go_wp2
      (try go_step3)
      have e1:((d:Int) + (q:Int)) / 2=(((d + q) / 2:Nat):Int):=by omega
      rw [e1]
      refine And.intro (a:=(0:Nat)=0) rfl ?_
      refine And.intro ?_ ?_
      · exact ⟨rfl,(d + q) / 2,_,_,_,_,_,_,_,_,_,_,_,_,_,_,_,_,_,_,_,rfl,NG.out,by have:=NG.out;have:=HI.out;omega,by omega⟩
      · simp [intOf];omega
    · have ds:d=Rt.isq n:=NS.out (by omega)
      have hnlt:(d:Int)≤((d:Int) + (q:Int)) / 2:=by omega
      have DS:=Lib.hid ds
      have hb:d * d≤n:=by rw [ds];exact (Rt.isq_spec n).1
      have hb1:(0:Int)≤(d:Int) * (d:Int):=by rw [← Int.natCast_mul];omega
      have hb2:(d:Int) * (d:Int)≤(n:Int):=by rw [← Int.natCast_mul];omega
      have hr:(n:Int) - (d:Int) * (d:Int)=((rst n:Nat):Int):=by
        unfold rst;rw [← ds,← Int.natCast_mul];omega
      clear ds hlt hb
      go_wp2
      go_loop [4,7,32] (fun dv rv cv=>∃ k:Nat,k≤m∧cv=.int .i64 k∧dv=.int .i64 ((Rt.isq (n * 4 ^ k):Nat):Int)∧rv=.int .i64 ((rst (n * 4 ^ k):Nat):Int)) (fun _ _ cv=>m - (intOf cv).toNat)
      case atStart=>exact ⟨0,Nat.zero_le _,rfl,val_i (by first | (rw [DS.out,Nat.pow_zero,Nat.mul_one];done) | (rw [hS,DS.out,Nat.pow_zero,Nat.mul_one];done)),val_i (by rw [Nat.pow_zero,Nat.mul_one])⟩
      case round =>
        obtain ⟨k,hk,rfl,rfl,rfl⟩:=hrel
        clear hr hb1 hb2 eq hq1 hq1' hd0' hd2' hnlt
        have BD:=isq_bd h (show k≤20 by omega)
        have RB:=rst_le (n * 4 ^ k)
        have RN:=rst_next (n * 4 ^ k)
        have CQ:=csq_eq (n * 4 ^ k)
        have hN:n * 4 ^ (k + 1)=n * 4 ^ k * 4:=by rw [Nat.pow_succ,Nat.mul_assoc]
        rw [← hN] at RN
        clear hN
        by_cases hlt:k < m
        · clear CQ
          have RN1:=RN.1
          have RN2:=RN.2
          clear RN
          generalize Rt.isq (n * 4 ^ k)=D at *
          generalize rst (n * 4 ^ k)=R at *
          by_cases c:2 * (2 * D) < 4 * R
          · have ⟨p1,p2⟩:=RN1 c
            have P1:=Lib.hid p1
            have P2:=Lib.hid p2
            clear p1 p2 RN1 RN2
            have cI:2 * (2 * (D:Int)) < 4 * (R:Int):=by omega
            go_wp2
            go_round
            case rel=>exact ⟨k + 1,by omega,by go_num,val_i (by rw [P1.out];omega),val_i (by have:=P2.out;omega)⟩
            case measure=>simp [intOf];omega
          · have ⟨p1,p2⟩:=RN2 (by omega)
            have P1:=Lib.hid p1
            have P2:=Lib.hid p2
            clear p1 p2 RN1 RN2
            have cI:4 * (R:Int)≤2 * (2 * (D:Int)):=by omega
            go_wp2
            go_round
            case rel=>exact ⟨k + 1,by omega,by go_num,val_i (by rw [P1.out];omega),val_i (by have:=P2.out;omega)⟩
            case measure=>simp [intOf];omega
        · obtain rfl:k=m:=by omega
          clear RN
          have CQ1:=CQ.1
          have CQ2:=CQ.2
          clear CQ
          generalize hD:Rt.isq (n * 4 ^ k)=D at *
          generalize hE:Rt.csq (n * 4 ^ k)=E at *
          generalize rst (n * 4 ^ k)=R at *
          have HD:=Lib.hid hD
          have HE:=Lib.hid hE
          clear hD hE
          by_cases c:R=0
          · have E1:=Lib.hid (CQ1 c)
            clear CQ1 CQ2
            subst c
            go_wp2
            (try simp only [Exit.jump])
            (try rw [Exit.noGoto_ret])
            go_ret2
            exact ⟨ret_2i (by rw [HD.out]) (by rw [HE.out,E1.out]),rfl⟩
          · have cB:((R:Int) == 0)=false:=beq_eq_false_iff_ne.2 (by omega)
            have E1:=Lib.hid (CQ2 c)
            clear c CQ1 CQ2
            go_wp2
            (try simp only [Exit.jump])
            (try rw [Exit.noGoto_ret])
            go_ret2
            exact ⟨ret_2i (by rw [HD.out]) (by rw [HE.out,E1.out];omega),rfl⟩
end Go.Proofs.Ytpocbdompamnnaa
namespace Go.Proofs.Ytpocbdompamnnaa
open Go.ChangeShapes Go.WideShapes Go.RowKit
theorem pair_drew'' {w:World} {b:Nat} {x y:Int} (h:Pair w b x y):Pair w.drew b x y:=h
theorem mid_yes {n k:Nat} (h:k * k≤n):k≤Rt.isq n:=by
  have b:=(Rt.isq_spec n).2
  rcases Nat.lt_or_ge (Rt.isq n) k with c | c
  · have:=Nat.mul_le_mul (show Rt.isq n + 1≤k by omega) (show Rt.isq n + 1≤k by omega);omega
  · exact c
theorem mid_no {n k:Nat} (h:n < k * k):Rt.isq n < k:=Rt.isq_lt h
theorem csq_iff (n:Nat):(Rt.isq n * Rt.isq n < n→Rt.csq n=Rt.isq n + 1)∧(n≤Rt.isq n * Rt.isq n→Rt.csq n=Rt.isq n):=by
  have a:=(Rt.isq_spec n).1
  unfold Rt.csq
  exact ⟨fun h=>if_neg (by omega),fun h=>if_pos (by omega)⟩
def rootR (lo hi:Int):Sp.R:=if Sp.vldB lo hi=true∧0≤lo then Sp.told ((Rt.isq (lo.toNat * 1048576):Nat):Int) ((Rt.csq (hi.toNat * 1048576):Nat):Int) else ((0,0),1)
theorem root_any (n m:Nat) (w:World) (h:n≤1152921504606846976) (hm:m≤20) :
    Calls Try.prog 91 #[.int .i64 n,.int .i64 m] w fun e w'=>e=.returned (.tuple #[.int .i64 (Rt.isq (n * 4 ^ m):Nat),.int .i64 (Rt.csq (n * 4 ^ m):Nat)])∧w=w':=by
  rcases Nat.eq_zero_or_pos n with e | e
  · subst e
    rw [Nat.zero_mul]
    exact root_zero m w
  · exact root_pos n m w e h hm
end Go.Proofs.Ytpocbdompamnnaa
namespace Go.Proofs.Ytpocbdompamnnaa
open Go.ChangeShapes Go.WideShapes Go.RowKit
def QT (t n:Nat):Nat→Nat
  | 0=>t
  | k + 1=>QT t n k / n
def QW (t n:Nat):Nat→Bool
  | 0=>true
  | k + 1=>QW t n k && decide (QT t n k % n=0)
theorem QT_le (t n k:Nat):QT t n k≤t:=by
  induction k with
  | zero=>exact Nat.le_refl _
  | succ k ih=>exact Nat.le_trans (Nat.div_le_self _ _) ih
def qUp (t n k:Nat):Nat:=if QW t n k then Rt.csq (QT t n k) else Rt.isq (QT t n k) + 1
theorem qUp_yes {t n k:Nat} (h:QW t n k=true):Rt.csq (QT t n k)=qUp t n k:=by unfold qUp;rw [if_pos h]
theorem qUp_no {t n k:Nat} (h:QW t n k=false):Rt.isq (QT t n k) + 1=qUp t n k:=by unfold qUp;rw [if_neg (by simp [h])]
theorem QW_no {t n k:Nat} (h:QW t n k=false):QW t n (k + 1)=false:=by
  show (_ && _)=_;rw [h];rfl
theorem QW_yes {t n k:Nat} (h:QW t n k=true) (j:QT t n k % n=0):QW t n (k + 1)=true:=by
  show (_ && _)=_;rw [h];simp [j]
theorem QW_no2 {t n k:Nat} (j:¬ QT t n k % n=0):QW t n (k + 1)=false:=by
  show (_ && _)=_;simp [j]
theorem val_b {a b:Bool} (h:a=b):Value.bool a=.bool b:=by rw [h]
end Go.Proofs.Ytpocbdompamnnaa
namespace Go.Proofs.Ytpocbdompamnnaa
open Go.ChangeShapes Go.WideShapes Go.RowKit
def belowR (t n p:Nat):Sp.R:=Sp.told ((Rt.isq (QT t n p):Nat):Int) ((qUp t n p:Nat):Int)
theorem below_up (t n:Nat):(t % n=0∧Rt.isq (t / n) * Rt.isq (t / n)=t / n→qUp t n 1=Rt.isq (t / n))∧(¬ (t % n=0∧Rt.isq (t / n) * Rt.isq (t / n)=t / n)→qUp t n 1=Rt.isq (t / n) + 1):=by
  have e:QW t n 1=decide (t % n=0):=rfl
  have e2:QT t n 1=t / n:=rfl
  unfold qUp
  rw [e,e2]
  by_cases c:t % n=0
  · simp only [c,decide_true,if_true,true_and]
    unfold Rt.csq
    exact ⟨fun h=>if_pos h,fun h=>if_neg h⟩
  · simp [c]
end Go.Proofs.Ytpocbdompamnnaa
namespace Go.Proofs.Ytpocbdompamnnaa
open Go.ChangeShapes Go.WideShapes Go.RowKit
def invR (n s:Int):Sp.R:=if 1≤n∧n≤1099511627776∧1≤s∧s≤8 then belowR ((s.toNat * 1048576) * (s.toNat * 1048576)) n.toNat 1 else ((0,0),1)
def cubeR (n s:Int):Sp.R:=if 1≤n∧n≤1099511627776∧1≤s∧s≤8 then belowR ((s.toNat * s.toNat * s.toNat * 1048576) * (s.toNat * s.toNat * s.toNat * 1048576)) n.toNat 3 else ((0,0),1)
theorem QT3 (t n:Nat):QT t n 3=QT t (n * n * n) 1:=by
  show t / n / n / n=t / (n * n * n)
  rw [Nat.div_div_eq_div_mul,Nat.div_div_eq_div_mul,Nat.mul_assoc]
theorem QW3 (t n:Nat) (h:1≤n):QW t n 3=QW t (n * n * n) 1:=by
  show (((true && decide (t % n=0)) && decide (t / n % n=0)) && decide (t / n / n % n=0))=(true && decide (t % (n * n * n)=0))
  rw [Bool.eq_iff_iff]
  simp only [Bool.true_and,Bool.and_eq_true,decide_eq_true_eq]
  have e1:n ∣ t ↔ t % n=0:=Nat.dvd_iff_mod_eq_zero
  constructor
  · rintro ⟨⟨c1,c2⟩,c3⟩
    have d1:=Nat.div_mul_cancel (Nat.dvd_of_mod_eq_zero c1)
    have d2:=Nat.div_mul_cancel (Nat.dvd_of_mod_eq_zero c2)
    have d3:=Nat.div_mul_cancel (Nat.dvd_of_mod_eq_zero c3)
    have:t=t / n / n / n * (n * n * n):=by rw [← Nat.mul_assoc,← Nat.mul_assoc,d3,d2,d1]
    rw [this];exact Nat.mul_mod_left _ _
  · intro c
    obtain ⟨q,rfl⟩:=Nat.dvd_of_mod_eq_zero c
    have f1:n * n * n * q / n=n * n * q:=by rw [show n * n * n * q=n * (n * n * q) by ac_rfl,Nat.mul_div_cancel_left _ h]
    have f2:n * n * q / n=n * q:=by rw [show n * n * q=n * (n * q) by ac_rfl,Nat.mul_div_cancel_left _ h]
    refine ⟨⟨?_,?_⟩,?_⟩
    · rw [show n * n * n * q=n * (n * n * q) by ac_rfl];exact Nat.mul_mod_right _ _
    · rw [f1,show n * n * q=n * (n * q) by ac_rfl];exact Nat.mul_mod_right _ _
    · rw [f1,f2];exact Nat.mul_mod_right _ _
theorem below3 (t n:Nat) (h:1≤n):belowR t n 3=belowR t (n * n * n) 1:=by
  unfold belowR qUp;rw [QT3,QW3 t n h]
theorem below_far {t n:Nat} (h0:1≤t) (h1:t < 1152921504606846976) (h:1048576 < n):belowR t n 3=Sp.told 0 1:=by
  have c:t < n * n * n:=by
    have a:=Nat.mul_le_mul (Nat.le_of_lt h) (Nat.le_of_lt h)
    have b:=Nat.mul_le_mul a (Nat.le_of_lt h)
    omega
  have e:QT t n 3=0:=by rw [QT3];exact Nat.div_eq_of_lt c
  have e2:QW t n 3=false:=by
    rw [QW3 t n (by omega)]
    show (true && decide (t % (n * n * n)=0))=false
    rw [Nat.mod_eq_of_lt c];simp;omega
  unfold belowR qUp
  rw [e,if_neg (by simp [e2])];rfl
end Go.Proofs.Ytpocbdompamnnaa
