/-
  The contract of the document's Copy: the same mesh, in memory of the call's own.
-/
import Derived.Test.YtfpenkgkcjpknaaCopy0
namespace Go.Proofs.Ytfpenkgkcjpknaa
open Go.ChangeShapes Go.WideShapes Go.RowKit
open Sh
set_option maxRecDepth 100000 in
set_option maxHeartbeats 4000000 in
theorem copy_any (a : Option Addr) (np c : Nat) (a' : Option Addr) (nf c' : Nat) (P F : Nat → P3) (w : World) (rp : Lst w a np P) (rf : Lst w a' nf F) (hn : np ≤ 1000000) (hm : nf ≤ 1000000) :
    Calls Try.prog 29 #[msv a np c a' nf c'] w (PlacedD np nf P F w) := by
  have HN := Lib.hid hn
  have HM := Lib.hid hm
  have ME0 := Lib.hid (mes_alloc (mes_new w a np c a' nf c' 25) (.cells #[.slice none 0 0, .slice none 0 0] 25))
  have RM0 := Lib.hid (by have z := ownMs_new (w.alloc (msc a np c a' nf c' 25)) (.slice none 0 0) (.slice none 0 0) 25; simp only [World.size_alloc] at z; exact z : OwnMs ((w.alloc (msc a np c a' nf c' 25)).alloc (.cells #[.slice none 0 0, .slice none 0 0] 25)) (w.heap.size + 1) (.slice none 0 0) (.slice none 0 0))
  have RP := Lib.hid (lst_alloc (lst_alloc rp (msc a np c a' nf c' 25)) (.cells #[.slice none 0 0, .slice none 0 0] 25))
  have RF := Lib.hid (lst_alloc (lst_alloc rf (msc a np c a' nf c' 25)) (.cells #[.slice none 0 0, .slice none 0 0] 25))
  have B0 := Lib.hid (balloc (balloc (Below.refl w.heap.size w) (msc a np c a' nf c' 25)) (.cells #[.slice none 0 0, .slice none 0 0] 25))
  clear rp rf hn hm
  go_enter Try.func29, Try.ntmps29
  go_wp2_with fail
  go_region_law (first | (refine step_copyPt rfl (.tmp 3) (.tmp 5) rfl rfl (by simp [Act.eval]) a np c (by simp [Act.eval]) P (by first | (have hq := hbF; (repeat' (with_reducible (first | exact RP.out | refine lst_alloc ?_ _ | refine lst_drew ?_ | refine lst_below ?_ hq))); done) | ((repeat' (with_reducible (first | exact RP.out | refine lst_alloc ?_ _ | refine lst_drew ?_))); done)) HN.out ?_; intro sP kP wP lP hbP; have MEP := Lib.hid (by first | (have hq := hbF; (repeat' (with_reducible (first | exact ME0.out | refine mes_alloc ?_ _ | refine mes_drew ?_ | refine mes_below ?_ hq | refine mes_below ?_ hbP))); done) | ((repeat' (with_reducible (first | exact ME0.out | refine mes_alloc ?_ _ | refine mes_drew ?_ | refine mes_below ?_ hbP))); done) : Mes wP w.heap.size a np c a' nf c'); have RMP := Lib.hid (by first | (have hq := hbF; (repeat' (with_reducible (first | exact RM0.out | refine ownMs_alloc ?_ _ | refine ownMs_drew ?_ | refine ownMs_below ?_ hq | refine ownMs_below ?_ hbP))); done) | ((repeat' (with_reducible (first | exact RM0.out | refine ownMs_alloc ?_ _ | refine ownMs_drew ?_ | refine ownMs_below ?_ hbP))); done) : OwnMs wP (w.heap.size + 1) (.slice none 0 0) (.slice none 0 0)); obtain ⟨mP1, mP2, mP3⟩ := MEP.out; obtain ⟨rP1, rP2, rP3, rP4, rP5⟩ := RMP.out) | (refine step_copyFc rfl (.tmp 7) (.tmp 9) rfl rfl (by simp [Act.eval]) a' nf c' (by simp [Act.eval]) F (by first | (have hq := hbP; (repeat' (with_reducible (first | exact RF.out | refine lst_alloc ?_ _ | refine lst_drew ?_ | refine lst_below ?_ hq))); done) | ((repeat' (with_reducible (first | exact RF.out | refine lst_alloc ?_ _ | refine lst_drew ?_))); done)) HM.out ?_; intro sF kF wF lF hbF; have MEF := Lib.hid (by first | (have hq := hbP; (repeat' (with_reducible (first | exact ME0.out | refine mes_alloc ?_ _ | refine mes_drew ?_ | refine mes_below ?_ hq | refine mes_below ?_ hbF))); done) | ((repeat' (with_reducible (first | exact ME0.out | refine mes_alloc ?_ _ | refine mes_drew ?_ | refine mes_below ?_ hbF))); done) : Mes wF w.heap.size a np c a' nf c'); have RMF := Lib.hid (by first | (have hq := hbP; (repeat' (with_reducible (first | exact RM0.out | refine ownMs_alloc ?_ _ | refine ownMs_drew ?_ | refine ownMs_below ?_ hq | refine ownMs_below ?_ hbF))); done) | ((repeat' (with_reducible (first | exact RM0.out | refine ownMs_alloc ?_ _ | refine ownMs_drew ?_ | refine ownMs_below ?_ hbF))); done) : OwnMs wF (w.heap.size + 1) (.slice none 0 0) (.slice none 0 0)); obtain ⟨mF1, mF2, mF3⟩ := MEF.out; obtain ⟨rF1, rF2, rF3, rF4, rF5⟩ := RMF.out))
  all_goals
    go_wp2
    refine bodyPost_ret (v := msv sP np kP sF nf kF) (by rw [results_cell rfl]; go_simp) rfl ?_
    first
    | exact copy_pf lP hbP lF hbF (by first | exact Below.drew B0.out | exact Below.drew (balloc B0.out _) | exact Below.drew (balloc (balloc B0.out _) _) | exact B0.out | exact balloc B0.out _) (by simp) (by first | exact Below.refl _ _ | exact balloc (Below.refl _ _) _ | exact Below.drew (Below.refl _ _) | exact Below.drew (balloc (Below.refl _ _) _)) _ _
    | exact copy_fp lF hbF lP hbP (by first | exact Below.drew B0.out | exact Below.drew (balloc B0.out _) | exact Below.drew (balloc (balloc B0.out _) _) | exact B0.out | exact balloc B0.out _) (by simp) (by first | exact Below.refl _ _ | exact balloc (Below.refl _ _) _ | exact Below.drew (Below.refl _ _) | exact Below.drew (balloc (Below.refl _ _) _)) _ _

end Go.Proofs.Ytfpenkgkcjpknaa
