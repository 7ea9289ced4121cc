import Derived.Test.YtbcjiigmbcfkeaaGreatInvM
namespace Go.Proofs.YtbcjiigmbcfkeaaGreat
open Go.ChangeShapes Go.WideShapes Go.RowKit
theorem csq_iff_l (n:Nat):(Rt.isq n*Rt.isq n<n→Rt.csq n=Rt.isq n+1)∧(n≤Rt.isq n*Rt.isq n→Rt.csq n=Rt.isq n):=by
  have a:=(Rt.isq_spec n).1
  unfold Rt.csq
  exact ⟨fun h=>if_neg (by omega),fun h=>if_pos (by omega)⟩
def hi64 (x:Nat):Nat:=x / 18446744073709551616
def lo64 (x:Nat):Nat:=x % 18446744073709551616
theorem lex_le {a b:Nat} (h:a≤b):hi64 a<hi64 b∨hi64 a=hi64 b∧lo64 a≤lo64 b:=by unfold hi64 lo64;omega
theorem lex_gt {a b:Nat} (h:b<a):hi64 b<hi64 a∨hi64 a=hi64 b∧lo64 b<lo64 a:=by unfold hi64 lo64;omega
theorem lex_eq {a b:Nat}:(hi64 a=hi64 b∧lo64 a=lo64 b) ↔ a=b:=by
  constructor
  · unfold hi64 lo64;omega
  · intro h;subst h;exact ⟨rfl,rfl⟩
def lenR (n:Int):Sp.R:=if 0≤n∧n≤1099511627776 then Sp.told ((Rt.isq (n.toNat*1099511627776):Nat):Int) ((Rt.csq (n.toNat*1099511627776):Nat):Int) else ((0,0),1)
theorem mul64_any (x y:Nat) (hx:x≤1099511627776) (hy:y≤1099511627776) (w:World) :
    Calls Tryz.prog 126 #[.int .u64 (x:Int),.int .u64 (y:Int)] w fun e w'=>e=.returned (.tuple #[.int .u64 ((hi64 (x*y):Nat):Int),.int .u64 ((lo64 (x*y):Nat):Int)])∧w=w' :=
  (Tryz.bits_Mul64 x y (by omega) (by omega) w).mono fun _ _ ⟨a,b⟩=>⟨a,b.symm⟩
theorem val_u {a b:Int} (h:a=b):Value.int .u64 a=.int .u64 b:=by rw [h]
theorem len_yes (x:Nat) (w:World) (h:x≤1099511627776) :
    Calls Tryz.prog 71 #[.int .i64 x] w fun e w'=>e=.returned (spr (Sp.told ((Rt.isq (x*1099511627776):Nat):Int) ((Rt.csq (x*1099511627776):Nat):Int)))∧Below w.heap.size w w':=by
  have R0:Hid (∀ w:World,Calls Tryz.prog 124 #[.int .i64 x,.int .i64 20] w fun e w'=>e=.returned (.tuple #[.int .i64 (Rt.isq (x*1099511627776):Nat),.int .i64 (Rt.csq (x*1099511627776):Nat)])∧w=w'):=fun w=>root_any x 20 w (by omega) (by decide)
  have a1:(0:Int)≤(x:Int):=by omega
  have a2:(x:Int)≤1099511627776:=by omega
  clear h
  go_enter Tryz.func71,Tryz.ntmps71
  go_wp2_with fail
  refine (betw_yes _ _ _ _ a1 a2).mono ?_
  rintro e w1 ⟨rfl,rfl⟩
  go_wp2_with fail
  refine (R0.out _).mono ?_
  rintro e w1 ⟨rfl,rfl⟩
  go_wp2_with fail
  refine (least_any _ _ _).mono ?_
  rintro e w2 ⟨rfl,hb⟩
  obtain ⟨g1,g2,g3,g4,g5⟩:=pair_below (pair_new _ _ _ _) hb
  go_wp2
  refine bodyPost_ret (v:=spr (Sp.told _ _)) (by rw [results_cell_tmp rfl];go_simp) rfl ⟨rfl,?_⟩
  (repeat' (first|exact Below.refl _ _|refine bstep ?_ hb|refine Below.setCell ?_ (by simp<;>omega) _|refine balloc ?_ _|refine Below.drew ?_|refine bdrewN ?_ _))
theorem len_no (n:Int) (w:World) (h:¬ (0≤n∧n≤1099511627776)) :
    Calls Tryz.prog 71 #[.int .i64 n] w fun e w'=>e=.returned (spr ((0,0),1))∧Below w.heap.size w w':=by
  rcases Int.lt_or_le n 0 with a1|a1
  · clear h
    go_enter Tryz.func71,Tryz.ntmps71
    go_wp2
    refine bodyPost_ret (v:=spr ((0,0),1)) (by rw [results_cell_tmp rfl];go_simp) rfl ⟨rfl,?_⟩
    (repeat' (first|exact Below.refl _ _|refine Below.setCell ?_ (by simp<;>omega) _|refine balloc ?_ _|refine Below.drew ?_|refine bdrewN ?_ _))
  · have a2:decide (n≤1099511627776)=false:=decide_eq_false (by omega)
    clear h
    go_enter Tryz.func71,Tryz.ntmps71
    go_wp2
    refine bodyPost_ret (v:=spr ((0,0),1)) (by rw [results_cell_tmp rfl];go_simp) rfl ⟨rfl,?_⟩
    (repeat' (first|exact Below.refl _ _|refine Below.setCell ?_ (by simp<;>omega) _|refine balloc ?_ _|refine Below.drew ?_|refine bdrewN ?_ _))
theorem len_any (n:Int) (w:World) :
    Calls Tryz.prog 71 #[.int .i64 n] w fun e w'=>e=.returned (spr (lenR n))∧Below w.heap.size w w':=by
  unfold lenR
  split
  · rename_i h
    obtain ⟨x,rfl⟩:=Int.eq_ofNat_of_zero_le h.1
    rw [Int.toNat_natCast]
    exact len_yes x w (by omega)
  · rename_i h;exact len_no _ _ h
set_option maxHeartbeats 1600000 in
theorem rlen_yes (x:Nat) (w:World) (h:x≤1099511627776) :
    Calls Tryz.prog 75 #[.int .i64 x] w fun e w'=>e=.returned (spr (Sp.told ((Rt.isq (x*1099511627776):Nat):Int) ((Rt.csq (x*1099511627776):Nat):Int)))∧Below w.heap.size w w':=by
  have a1:(0:Int)≤(x:Int):=by omega
  have a2:(x:Int)≤1099511627776:=by omega
  have M0:=Lib.hid (fun w=>mul64_any x 1099511627776 h (by decide) w)
  have hb:Rt.isq (x*1099511627776)≤1099511627776:=by have:=Rt.isq_lt (n:=x*1099511627776) (b:=1099511627777) (by omega);omega
  have Y:=Lib.hid (fun k (hk:k*k≤x*1099511627776)=>mid_yes hk)
  have N:=Lib.hid (fun k (hk:x*1099511627776<k*k)=>mid_no hk)
  have Q:=Lib.hid (csq_iff_l (x*1099511627776))
  have S:=Lib.hid (Rt.isq_spec (x*1099511627776)).1
  obtain ⟨T,hT⟩:∃ T,x*1099511627776=T:=⟨_,rfl⟩
  rw [hT] at M0 hb Y N Q S ⊢
  clear hT
  obtain ⟨r,hr⟩:∃ r,Rt.isq T=r:=⟨_,rfl⟩
  obtain ⟨u,hu⟩:∃ u,Rt.csq T=u:=⟨_,rfl⟩
  rw [hr] at hb Y N Q S ⊢
  rw [hu] at Q ⊢
  clear hr hu
  go_enter Tryz.func75,Tryz.ntmps75
  go_wp2_with fail
  refine (rbetw_yes _ _ _ _ a1 a2).mono ?_
  rintro e w1 ⟨rfl,rfl⟩
  go_wp2_with fail
  refine (M0.out _).mono ?_
  rintro e w1 ⟨rfl,rfl⟩
  go_wp2
  go_loopw [6,7] (fun lv gv wr=>∃ l g:Nat,l≤r∧r≤g∧g≤1099511627776∧lv=.int .u64 l∧gv=.int .u64 g∧w.alloc (.cells #[.int .i64 0,.int .i64 0] 39)=wr) (fun lv gv _=>(intOf gv - intOf lv).toNat)
  case atStart=>exact ⟨0,1099511627776,by omega,by omega,by omega,rfl,rfl,rfl⟩
  case round =>
    obtain ⟨l,g,h1,h2,h3,rfl,rfl,Pw⟩:=hrel
    by_cases hlt:l<g
    · obtain ⟨k,hk⟩:∃ k,(l+g+1) / 2=k:=⟨_,rfl⟩
      have e1:((l:Int)+(g:Int)+1) / 2=(k:Int):=by omega
      have hk2:k≤1099511627776:=by omega
      have hk1:1≤k:=by omega
      have K:=Lib.hid hk
      have C:=Lib.hid (fun w=>mul64_any k k hk2 hk2 w)
      by_cases c:k*k≤T
      · have hy:=Y.out k c
        have X:=lex_le c
        clear c hk
        generalize hi64 (k*k)=p at *
        generalize lo64 (k*k)=q at *
        generalize hi64 T=hh at *
        generalize lo64 T=ll at *
        rcases X with X|⟨X,Z⟩
        · skip
          have X1:(p:Int)<(hh:Int):=by omega
          go_wp2_with fail
          refine (C.out _).mono ?_
          rintro e w2 ⟨rfl,rfl⟩
          go_wp2
          go_roundw
          case rel=>exact ⟨k,g,hy,h2,h3,val_u (by omega),rfl,Pw⟩
          case measure=>have:=K.out;simp [intOf];omega
        · subst X
          have Z1:(q:Int)≤(ll:Int):=by omega
          go_wp2_with fail
          refine (C.out _).mono ?_
          rintro e w2 ⟨rfl,rfl⟩
          go_wp2
          go_roundw
          case rel=>exact ⟨k,g,hy,h2,h3,val_u (by omega),rfl,Pw⟩
          case measure=>have:=K.out;simp [intOf];omega
      · have hy:=N.out k (by omega)
        have X:=lex_gt (show T<k*k by omega)
        clear c hk
        generalize hi64 (k*k)=p at *
        generalize lo64 (k*k)=q at *
        generalize hi64 T=hh at *
        generalize lo64 T=ll at *
        rcases X with X|⟨X,Z⟩
        · have X2:((p:Int) == (hh:Int))=false:=beq_eq_false_iff_ne.2 (by omega)
          have X1:(hh:Int)<(p:Int):=by omega
          go_wp2_with fail
          refine (C.out _).mono ?_
          rintro e w2 ⟨rfl,rfl⟩
          go_wp2
          go_roundw
          case rel=>exact ⟨l,k - 1,h1,by omega,by omega,rfl,val_u (by omega),Pw⟩
          case measure=>have:=K.out;simp [intOf];omega
        · subst X
          have Z1:decide ((q:Int)≤(ll:Int))=false:=decide_eq_false (by omega)
          go_wp2_with fail
          refine (C.out _).mono ?_
          rintro e w2 ⟨rfl,rfl⟩
          go_wp2
          go_roundw
          case rel=>exact ⟨l,k - 1,h1,by omega,by omega,rfl,val_u (by omega),Pw⟩
          case measure=>have:=K.out;simp [intOf];omega
    · obtain rfl:l=g:=by omega
      obtain rfl:r=l:=by omega
      have C:=Lib.hid (fun w=>mul64_any r r h3 h3 w)
      have Pz:Pair wr w.heap.size 0 0:=by rw [← Pw];exact pair_new _ _ _ _
      have B:Below w.heap.size w wr:=by rw [← Pw];exact (Below.refl _ _).alloc (Nat.le_refl _) _
      have X:=lex_eq (a:=r*r) (b:=T)
      have S1:=S.out
      generalize hi64 (r*r)=p at *
      generalize lo64 (r*r)=q at *
      generalize hi64 T=hh at *
      generalize lo64 T=ll at *
      clear Pw hlt
      have hr3:(r:Int)≤1099511627776:=by omega
      by_cases c:r*r=T
      · obtain ⟨rfl,rfl⟩:=X.2 c
        have E:=Lib.hid (Q.out.2 (by omega))
        clear c X S1
        go_wp2_with fail
        refine (C.out _).mono ?_
        rintro e w2 ⟨rfl,rfl⟩
        go_wp2_with fail
        refine (told_any _ _ _).mono ?_
        rintro e w3 ⟨rfl,hb⟩
        obtain ⟨g1,g2,g3,g4,g5⟩:=pair_below Pz hb
        go_wp2
        refine bodyPost_ret (v:=spr (Sp.told (r:Int) (r:Int))) (by rw [results_cell_tmp rfl];go_simp) rfl ⟨by rw [E.out],?_⟩
        exact ((B.trans (hb.mono (by have:=B.size;omega))).setCell (by simp) _).setCell (by simp) _
      · have E:=Lib.hid (show (u:Int)=(r:Int)+1 by have:=Q.out.1 (by omega);omega)
        by_cases d:p=hh
        · subst d
          have d2:((q:Int) == (ll:Int))=false:=beq_eq_false_iff_ne.2 (by intro e;exact c (X.1 ⟨rfl,by omega⟩))
          clear c X S1
          go_wp2_with fail
          refine (C.out _).mono ?_
          rintro e w2 ⟨rfl,rfl⟩
          go_wp2_with fail
          refine (told_any _ _ _).mono ?_
          rintro e w3 ⟨rfl,hb⟩
          obtain ⟨g1,g2,g3,g4,g5⟩:=pair_below Pz hb
          go_wp2
          refine bodyPost_ret (v:=spr (Sp.told (r:Int) ((r:Int)+1))) (by rw [results_cell_tmp rfl];go_simp) rfl ⟨by rw [E.out],?_⟩
          exact ((B.trans (hb.mono (by have:=B.size;omega))).setCell (by simp) _).setCell (by simp) _
        · have d2:((p:Int) == (hh:Int))=false:=beq_eq_false_iff_ne.2 (by omega)
          clear c X S1 d
          go_wp2_with fail
          refine (C.out _).mono ?_
          rintro e w2 ⟨rfl,rfl⟩
          go_wp2_with fail
          refine (told_any _ _ _).mono ?_
          rintro e w3 ⟨rfl,hb⟩
          obtain ⟨g1,g2,g3,g4,g5⟩:=pair_below Pz hb
          go_wp2
          refine bodyPost_ret (v:=spr (Sp.told (r:Int) ((r:Int)+1))) (by rw [results_cell_tmp rfl];go_simp) rfl ⟨by rw [E.out],?_⟩
          exact ((B.trans (hb.mono (by have:=B.size;omega))).setCell (by simp) _).setCell (by simp) _
theorem rlen_no (n:Int) (w:World) (h:¬ (0≤n∧n≤1099511627776)) :
    Calls Tryz.prog 75 #[.int .i64 n] w fun e w'=>e=.returned (spr ((0,0),1))∧Below w.heap.size w w':=by
  rcases Int.lt_or_le n 0 with a1|a1
  · clear h
    go_enter Tryz.func75,Tryz.ntmps75
    go_wp2
    refine bodyPost_ret (v:=spr ((0,0),1)) (by rw [results_cell_tmp rfl];go_simp) rfl ⟨rfl,?_⟩
    (repeat' (first|exact Below.refl _ _|refine Below.setCell ?_ (by simp<;>omega) _|refine balloc ?_ _|refine Below.drew ?_|refine bdrewN ?_ _))
  · have a2:decide (n≤1099511627776)=false:=decide_eq_false (by omega)
    clear h
    go_enter Tryz.func75,Tryz.ntmps75
    go_wp2
    refine bodyPost_ret (v:=spr ((0,0),1)) (by rw [results_cell_tmp rfl];go_simp) rfl ⟨rfl,?_⟩
    (repeat' (first|exact Below.refl _ _|refine Below.setCell ?_ (by simp<;>omega) _|refine balloc ?_ _|refine Below.drew ?_|refine bdrewN ?_ _))
theorem rlen_any (n:Int) (w:World) :
    Calls Tryz.prog 75 #[.int .i64 n] w fun e w'=>e=.returned (spr (lenR n))∧Below w.heap.size w w':=by
  unfold lenR
  split
  · rename_i h
    obtain ⟨x,rfl⟩:=Int.eq_ofNat_of_zero_le h.1
    rw [Int.toNat_natCast]
    exact rlen_yes x w (by omega)
  · rename_i h;exact rlen_no _ _ h
end Go.Proofs.YtbcjiigmbcfkeaaGreat
