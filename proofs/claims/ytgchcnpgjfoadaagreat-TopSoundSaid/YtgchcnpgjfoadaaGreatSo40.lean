import Derived.Test.YtgchcnpgjfoadaaGreatSoMc
namespace Go.Proofs.YtgchcnpgjfoadaaGreat
open Go.ChangeShapes Go.WideShapes Go.RowKit
open Sh
def trG (x:P3) (s d:Int) (Q:Nat→Pu) (n:Nat) (f:Int) (k:Nat):Sp.R:=sceQ x s d Q n (f + (k:Int))
def trE (n:Nat) (Q:Nat→Pu) (x:P3) (s f t d:Int):Int:=if trcC n Q x s f t d=0 then geN (trG x s d Q n f) (t - f + 1).toNat else trcC n Q x s f t d
theorem lstT_two (W:World) (b:Nat) (f t:Int) (h:b=W.heap.size):LstT (W.alloc (.cells #[.int .i64 f,.int .i64 t] 3)) (some ⟨b,0,none⟩) 2 (T2 f t):=fun _=>⟨_,_,rfl,by simp [h],fun k hk=>by
    have:k=0∨k=1:=by omega
    subst h
    rw [Nat.zero_add]
    rcases this with rfl | rfl
    · show _=some (Value.int .i64 f);go_simp
    · show _=some (Value.int .i64 t);go_simp⟩
theorem trc_any (a:Option Addr) (n c:Nat) (Q:Nat→Pu) (x:P3) (s f t d:Int) (w:World) (rr:LstU w a n Q) (hn:n≤140737488355328):Calls Tryz.prog 9 #[.slice a n c,ptv x,.int .i64 s,.int .i64 f,.int .i64 t,.int .i64 d] w fun e w'=>∃ v,e=.returned (.tuple #[v,.int .i64 (trE n Q x s f t d)])∧SpR w' (t - f + 1).toNat (trE n Q x s f t d) (gsN (trG x s d Q n f) (t - f + 1).toNat) v∧Below w.heap.size w w':=by
  have C:=fun (W:World) (b:Nat) (B:Below w.heap.size w W) (e:b=W.heap.size)=>mck_any x s d a n c (some ⟨b,0,none⟩) 2 2 Q (T2 f t) (W.alloc (.cells #[.int .i64 f,.int .i64 t] 3)) (lstU_below (lstU_below rr B) ((Below.refl _ _).alloc (Nat.le_refl _) _)) hn (lstT_two W b f t e) (by decide)
  unfold trE trcC
  by_cases z:trc0 n Q x s f t d=0
  · rw [if_pos z]
    have C:=fun (W:World) (b:Nat) (B:Below w.heap.size w W) (e:b=W.heap.size)=>(show mcode8 (vpcode n Q) x s d (tcode (T2 f t) 2)=0 from z) ▸ C W b B e
    obtain ⟨⟨h0,h1⟩,h2,h3,h4,h5,h6⟩:=trc0_ok z
    have I:=fun W=>sir_any (t - f) 0 200 W
    cases r:rngB (t - f) 0 200 with
    | false =>
      rw [r] at I
      refine (trc_r a n c x s f t d w (Lib.hid C) h5.1 h5.2 h6.1 h6.2 (Lib.hid I)).mono fun e w' ⟨k1,k2⟩=>⟨_,k1,?_,k2⟩
      unfold SpR
      rw [if_neg (by simp)]
    | true =>
      rw [r] at I
      obtain ⟨r1,r2⟩:=rngB_iff.1 r
      rw [if_pos rfl,if_pos rfl]
      exact trc_ok a n c x s f t d (t - f + 1).toNat (trG x s d Q n f) (by omega) (by omega) w (Lib.hid C) h5.1 h5.2 h6.1 h6.2 (Lib.hid I) (Lib.hid fun k hk W B=>sce_any x s d (f + (k:Int)) a n c Q W (lstU_below rr B) (by omega) h1 h2 h3.1 h3.2 h4.1 h4.2 (by omega) (by omega))
  · rw [if_neg z,if_neg z]
    refine (trc_c a n c x s f t d _ w (Lib.hid C) (bne_iff_ne.2 z)).mono fun e w' ⟨k1,k2⟩=>⟨_,k1,?_,k2⟩
    unfold SpR
    rw [if_neg z]
def OwnT (w:World) (b:Nat) (x:P3) (s f t d:Int):Prop:=(w.cell? ⟨b,0,none⟩=some (.int .i64 x.1)∧w.cell? ⟨b,1,none⟩=some (.int .i64 x.2.1)∧w.cell? ⟨b,2,none⟩=some (.int .i64 x.2.2)∧w.cell? ⟨b,3,none⟩=some (.int .i64 s)∧w.cell? ⟨b,4,none⟩=some (.int .i64 f)∧w.cell? ⟨b,5,none⟩=some (.int .i64 t)∧w.cell? ⟨b,6,none⟩=some (.int .i64 d))∧b < w.heap.size
theorem ownT_new (w:World) (x:P3) (s f t d:Int) (ty:TypeId):OwnT (w.alloc (.cells #[.int .i64 x.1,.int .i64 x.2.1,.int .i64 x.2.2,.int .i64 s,.int .i64 f,.int .i64 t,.int .i64 d] ty)) w.heap.size x s f t d:=⟨⟨by go_simp,by go_simp,by go_simp,by go_simp,by go_simp,by go_simp,by go_simp⟩,by simp⟩
theorem ownT_below {w w1:World} {b:Nat} {x:P3} {s f t d:Int} (h:OwnT w b x s f t d) (hb:Below w.heap.size w w1):OwnT w1 b x s f t d:=by
  obtain ⟨⟨h0,h1,h2,h3,h4,h5,h6⟩,l⟩:=h
  exact ⟨⟨(hb.cell (p:=⟨b,0,none⟩) l).trans h0,(hb.cell (p:=⟨b,1,none⟩) l).trans h1,(hb.cell (p:=⟨b,2,none⟩) l).trans h2,(hb.cell (p:=⟨b,3,none⟩) l).trans h3,(hb.cell (p:=⟨b,4,none⟩) l).trans h4,(hb.cell (p:=⟨b,5,none⟩) l).trans h5,(hb.cell (p:=⟨b,6,none⟩) l).trans h6⟩,Nat.lt_of_lt_of_le l hb.size⟩
end Go.Proofs.YtgchcnpgjfoadaaGreat
