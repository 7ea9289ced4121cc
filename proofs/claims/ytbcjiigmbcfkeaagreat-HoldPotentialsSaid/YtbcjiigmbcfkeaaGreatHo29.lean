import Derived.Test.YtbcjiigmbcfkeaaGreatHo23
import Derived.Test.YtbcjiigmbcfkeaaGreatHoMf
namespace Go.Proofs.YtbcjiigmbcfkeaaGreat
open Go.ChangeShapes Go.WideShapes Go.RowKit
open Sh
theorem hpo_any (a:Option Addr) (np c:Nat) (a':Option Addr) (nf c':Nat) (b:Option Addr) (n cap:Nat) (D:Int) (P F:Nat→P3) (ch:Nat→Int) (w:World) (rp:Lst w a np P) (rf:Lst w a' nf F) (rc:LstI w b n ch) (hn:np≤1000000) (hm:nf≤1000000) (hk:n≤9223372036854775807) (y:gv7 np nf P F n ch D=0):Calls Tryz.prog 19 #[msv a np c a' nf c',.slice b n cap,.int .i64 D] w fun e w'=>∃ q cap',e=.returned (.tuple #[.slice (some ⟨q,0,none⟩) n cap',.int .i64 0])∧Row w' q 0 n (ptL (btT (Tr P F) D) ch n) (ptH (btT (Tr P F) D) ch n)∧Below w.heap.size w w':=by
    obtain ⟨y1,d0,d2⟩:=gvc_ok y
    obtain ⟨z,rfl,hc,s1⟩:=chc_ok y1
    obtain ⟨hnp,h64,h0,h96,fo,_⟩:=vcode_rows z
    obtain ⟨b1,off1,rfl,rc1⟩:=rc h0
    have s2:=(ch_sm h96 hc).2
    have tb:=bt_tb z d0 d2
    have tm:=mt_tb z d0 d2
    have CK:=Lib.hid (fun W (B:Below w.heap.size w W)=>ckc_any a np c a' n c' (some ⟨b1,off1,none⟩) n cap D P F ch W (lst_below rp B) (lst_below rf B) (lstI_below rc B) hn hm hk)
    rw [show gvc (vcode ⟨np,n,P,F⟩) n n ch D=0 from y] at CK
    exact hpo_ok a np c a' n c' b1 off1 cap n D _ _ _ w CK (Lib.hid fun W B=>(htb_any a np c a' n c' D n (Tr P F) _ W h0 h96 (Lib.hid fun V B'=>(fun W (B:Below w.heap.size w W)=>(spans_any a np c a' n c' P F W (lst_below rp B) (lst_below rf B) hn hm).mono (pans_ok z h0)) V (bstep B B')) (Lib.hid fun i j hi hj V=>bt_e z d0 d2 hi hj ▸ bet_any (Tr P F i) (Tr P F j) D V)).mono fun e w' ⟨g,q,e1,e2,_,e3⟩=>⟨g,q,e1,e2,e3⟩) (Lib.hid fun g q W B t=>hpt_any g q b1 off1 cap n _ ch W t (rowI_below rc1 B) h0 h96 tb hc)
theorem hene_any (a:Option Addr) (np c:Nat) (a':Option Addr) (nf c':Nat) (b:Option Addr) (n cap:Nat) (D:Int) (P F:Nat→P3) (ch:Nat→Int) (w:World) (rp:Lst w a np P) (rf:Lst w a' nf F) (rc:LstI w b n ch) (hn:np≤1000000) (hm:nf≤1000000) (hk:n≤9223372036854775807):Calls Tryz.prog 22 #[msv a np c a' nf c',.slice b n cap,.int .i64 D] w fun e w'=>e=.returned (spr (enA np nf P F n ch D))∧Below w.heap.size w w':=by
  unfold enA
  by_cases y:gv7 np nf P F n ch D=0
  · rw [if_pos y]
    obtain ⟨y1,d0,d2⟩:=gvc_ok y
    obtain ⟨z,rfl,hc,s1⟩:=chc_ok y1
    obtain ⟨hnp,h64,h0,h96,fo,_⟩:=vcode_rows z
    obtain ⟨b1,off1,rfl,rc1⟩:=rc h0
    have s2:=(ch_sm h96 hc).2
    have tb:=bt_tb z d0 d2
    have tm:=mt_tb z d0 d2
    have CK:=Lib.hid (fun W (B:Below w.heap.size w W)=>ckc_any a np c a' n c' (some ⟨b1,off1,none⟩) n cap D P F ch W (lst_below rp B) (lst_below rf B) (lstI_below rc B) hn hm hk)
    rw [show gvc (vcode ⟨np,n,P,F⟩) n n ch D=0 from y] at CK
    exact hene_ok a np c a' n c' b1 off1 cap n D _ _ w CK (Lib.hid fun W B=>(htm_any a np c a' n c' D n (Tr P F) _ W h0 h96 (Lib.hid fun V B'=>(fun W (B:Below w.heap.size w W)=>(spans_any a np c a' n c' P F W (lst_below rp B) (lst_below rf B) hn hm).mono (pans_ok z h0)) V (bstep B B')) (Lib.hid fun i j hi hj V=>mt_e z d0 d2 hi hj ▸ mut_any (Tr P F i) (Tr P F j) D V)).mono fun e w' ⟨g,q,e1,e2,_,e3⟩=>⟨g,q,e1,e2,e3⟩) (Lib.hid fun g q W B t=>hen_any g q b1 off1 cap n _ ch W t (rowI_below rc1 B) h0 h96 tm hc)
  · rw [if_neg y]
    exact hene_v a np c a' nf c' b n cap D _ w (Lib.hid fun W B=>ckc_any a np c a' nf c' b n cap D P F ch W (lst_below rp B) (lst_below rf B) (lstI_below rc B) hn hm hk) (bne_iff_ne.2 y)
theorem hbw_any (a:Option Addr) (np c:Nat) (a':Option Addr) (nf c':Nat) (b:Option Addr) (n cap:Nat) (D:Int) (P F:Nat→P3) (ch:Nat→Int) (w:World) (rp:Lst w a np P) (rf:Lst w a' nf F) (rc:LstI w b n ch) (hn:np≤1000000) (hm:nf≤1000000) (hk:n≤9223372036854775807):Calls Tryz.prog 24 #[msv a np c a' nf c',.slice b n cap,.int .i64 D] w fun e w'=>e=.returned (.tuple #[.int .i64 (loA np nf P F n ch D).1,.int .i64 (loA np nf P F n ch D).2])∧Below w.heap.size w w':=by
  unfold loA
  by_cases y:gv7 np nf P F n ch D=0
  · rw [if_pos y]
    have PO:=Lib.hid (fun W (B:Below w.heap.size w W)=>hpo_any a np c a' nf c' b n cap D P F ch W (lst_below rp B) (lst_below rf B) (lstI_below rc B) hn hm hk y)
    obtain ⟨y1,d0,d2⟩:=gvc_ok y
    obtain ⟨z,rfl,hc,s1⟩:=chc_ok y1
    obtain ⟨hnp,h64,h0,h96,fo,_⟩:=vcode_rows z
    obtain ⟨b1,off1,rfl,rc1⟩:=rc h0
    have s2:=(ch_sm h96 hc).2
    have tb:=bt_tb z d0 d2
    have tm:=mt_tb z d0 d2
    have q1:=bd_hi tb h0 h96 hc
    have q2:=bd_lo tb h96 hc
    exact hbw_ok a np c a' n c' b1 off1 cap n D _ _ _ _ w PO (Lib.hid fun W B=>hsum_any (some ⟨b1,off1,none⟩) n cap ch W (lstI_below rc B) (by omega) hc) (Lib.hid fun q cp W r=>hlo_any q cp n _ _ _ W r h96 s1 s2 q1.1 q1.2)
  · rw [if_neg y]
    exact hbw_v a np c a' nf c' b n cap D _ w (Lib.hid fun W B=>hpo_v a np c a' nf c' b n cap D _ W (Lib.hid fun W' B'=>ckc_any a np c a' nf c' b n cap D P F ch W' (lst_below rp (bstep B B')) (lst_below rf (bstep B B')) (lstI_below rc (bstep B B')) hn hm hk) (bne_iff_ne.2 y)) (bne_iff_ne.2 y)
theorem hbv_any (a:Option Addr) (np c:Nat) (a':Option Addr) (nf c':Nat) (b:Option Addr) (n cap:Nat) (D:Int) (P F:Nat→P3) (ch:Nat→Int) (w:World) (rp:Lst w a np P) (rf:Lst w a' nf F) (rc:LstI w b n ch) (hn:np≤1000000) (hm:nf≤1000000) (hk:n≤9223372036854775807):Calls Tryz.prog 26 #[msv a np c a' nf c',.slice b n cap,.int .i64 D] w fun e w'=>e=.returned (.tuple #[.int .i64 (abA np nf P F n ch D).1,.int .i64 (abA np nf P F n ch D).2])∧Below w.heap.size w w':=by
  unfold abA
  by_cases y:gv7 np nf P F n ch D=0
  · rw [if_pos y]
    have PO:=Lib.hid (fun W (B:Below w.heap.size w W)=>hpo_any a np c a' nf c' b n cap D P F ch W (lst_below rp B) (lst_below rf B) (lstI_below rc B) hn hm hk y)
    obtain ⟨y1,d0,d2⟩:=gvc_ok y
    obtain ⟨z,rfl,hc,s1⟩:=chc_ok y1
    obtain ⟨hnp,h64,h0,h96,fo,_⟩:=vcode_rows z
    obtain ⟨b1,off1,rfl,rc1⟩:=rc h0
    have s2:=(ch_sm h96 hc).2
    have tb:=bt_tb z d0 d2
    have tm:=mt_tb z d0 d2
    have q1:=bd_hi tb h0 h96 hc
    have q2:=bd_lo tb h96 hc
    exact hbv_ok a np c a' n c' b1 off1 cap n D _ _ _ _ w PO (Lib.hid fun W B=>hsum_any (some ⟨b1,off1,none⟩) n cap ch W (lstI_below rc B) (by omega) hc) (Lib.hid fun q cp W r=>hab_any q cp n _ _ _ W r h96 s1 s2 q2.1 q2.2)
  · rw [if_neg y]
    exact hbv_v a np c a' nf c' b n cap D _ w (Lib.hid fun W B=>hpo_v a np c a' nf c' b n cap D _ W (Lib.hid fun W' B'=>ckc_any a np c a' nf c' b n cap D P F ch W' (lst_below rp (bstep B B')) (lst_below rf (bstep B B')) (lstI_below rc (bstep B B')) hn hm hk) (bne_iff_ne.2 y)) (bne_iff_ne.2 y)
theorem hto_any (a:Option Addr) (np c:Nat) (a':Option Addr) (nf c':Nat) (b:Option Addr) (n cap:Nat) (D:Int) (P F:Nat→P3) (ch:Nat→Int) (w:World) (rp:Lst w a np P) (rf:Lst w a' nf F) (rc:LstI w b n ch) (hn:np≤1000000) (hm:nf≤1000000) (hk:n≤9223372036854775807):Calls Tryz.prog 28 #[msv a np c a' nf c',.slice b n cap,.int .i64 D] w fun e w'=>e=.returned (.tuple #[.int .i64 (thA np nf P F n ch D).1,.int .i64 (thA np nf P F n ch D).2])∧Below w.heap.size w w':=by
  have EN:=Lib.hid (fun W (B:Below w.heap.size w W)=>hene_any a np c a' nf c' b n cap D P F ch W (lst_below rp B) (lst_below rf B) (lstI_below rc B) hn hm hk)
  unfold thA
  by_cases x:(enA np nf P F n ch D).2=0
  · rw [if_pos x]
    have y:gv7 np nf P F n ch D=0:=by
      unfold enA at x
      by_cases y:gv7 np nf P F n ch D=0
      · exact y
      · rw [if_neg y] at x;exact x
    have e1:enA np nf P F n ch D=enR (mtT (Tr P F) D) ch n:=by unfold enA;rw [if_pos y]
    rw [e1] at EN x
    obtain ⟨e2,e3⟩:=en_ok x
    rw [e2] at EN
    obtain ⟨y1,d0,d2⟩:=gvc_ok y
    obtain ⟨z,rfl,hc,s1⟩:=chc_ok y1
    obtain ⟨hnp,h64,h0,h96,fo,_⟩:=vcode_rows z
    obtain ⟨b1,off1,rfl,rc1⟩:=rc h0
    have s2:=(ch_sm h96 hc).2
    have tb:=bt_tb z d0 d2
    have tm:=mt_tb z d0 d2
    exact hto_ok a np c a' n c' b1 off1 cap n D _ _ _ _ w EN (Lib.hid fun W B=>hsum_any (some ⟨b1,off1,none⟩) n cap ch W (lstI_below rc B) (by omega) hc) (Lib.hid fun W=>hth_any _ _ _ W s1 s2 (en_lo tm hc) (en_le tm hc) e3)
  · rw [if_neg x]
    have e1:enA np nf P F n ch D=((0,0),(enA np nf P F n ch D).2):=by
      unfold enA at x ⊢
      by_cases y:gv7 np nf P F n ch D=0
      · rw [if_pos y] at x ⊢
        rw [en_no x]
      · rw [if_neg y]
    rw [e1] at EN
    exact hto_v a np c a' nf c' b n cap D _ w EN (bne_iff_ne.2 x)
end Go.Proofs.YtbcjiigmbcfkeaaGreat
