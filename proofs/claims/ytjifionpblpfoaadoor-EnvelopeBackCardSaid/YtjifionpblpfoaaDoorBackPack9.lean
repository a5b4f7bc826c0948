/-
  Part 9 of the texts that the seat's proofs stand on; each part of it begins with its own sentence and conditions. Conditions: those that each theorem names.
-/
import Derived.Test.YtjifionpblpfoaaDoorBackPack8
import Derived.Test.YtjifionpblpfoaaDoorRows
import Derived.LaidMore
import Derived.MakeChecks
import Derived.OpenShut
import Derived.Stop.Joined
import Derived.ProofKit
import Derived.Deep.Slices
import Derived.Deep.SlicePairs
import Derived.ChangeSame
import Derived.Lib.SmallJoins

/-
  The code's own Open of layer 16. Conditions: no more than 2^16 bytes.
-/
namespace Go.Proofs.YtjifionpblpfoaaDoor
open Go.RowKit
open Pol (co Sm)

theorem far_of_tx {w : World} {g : Nat} {B : Option Addr} {l : List Nat} (h : Rd w B l) (hg : w.heap[g]? = some (.cells #[.int .i64 0, .int .i64 0, .int .u64 0, .slice none 0 0] 50)) : ∀ q o, B = some ⟨q, o, none⟩ → 0 < l.length → q ≠ g := fun q o e h0 e2 => by
  obtain ⟨b, o', e3, hc⟩ := h.2 0 h0
  rw [e] at e3
  injection e3 with e3
  injection e3 with e4 e5
  subst e4 e5 e2
  rw [cell_of_row _ _ _ _ _ _ hg] at hc
  match o, hc with
  | 0, hc => simp at hc
  | 1, hc => simp at hc
  | 2, hc => simp at hc
  | 3, hc => simp at hc
  | n + 4, hc => simp at hc
set_option maxHeartbeats 6400000 in
set_option maxRecDepth 100000 in
theorem ev_open (s : Int) (nn f x kb c : Nat) (b p : List Nat) (A B : Option Addr) (np cp : Nat) (w : World) (hk : b.length = kb) (hr : Rd w A b) (hp : p.length = np) (hq : Rd w B p) :
    Calls Tryd.prog 22 #[evv s nn f x A kb c, .slice B np cp] w (OdR (open16 ⟨s, nn, f, x, b⟩ p) w) := by
  have hx2 := ((Ext.refl w).alloc (.cells #[.int .i64 s, .int .u64 (nn : Int), .int .u64 (f : Int), .int .u64 (x : Int), .slice A kb c] 25)).alloc (.cells #[.int .i64 0, .int .i64 0, .int .u64 0, .slice none 0 0] 50)
  have hg0 : ((w.alloc (.cells #[.int .i64 s, .int .u64 (nn : Int), .int .u64 (f : Int), .int .u64 (x : Int), .slice A kb c] 25)).alloc (.cells #[.int .i64 0, .int .i64 0, .int .u64 0, .slice none 0 0] 50)).heap[w.heap.size]? = some (.cells #[.int .i64 s, .int .u64 (nn : Int), .int .u64 (f : Int), .int .u64 (x : Int), .slice A kb c] 25) := by
    rw [heap_alloc_old _ _ (by simp)]
    exact heap_alloc_new w _
  have hr0 : ((w.alloc (.cells #[.int .i64 s, .int .u64 (nn : Int), .int .u64 (f : Int), .int .u64 (x : Int), .slice A kb c] 25)).alloc (.cells #[.int .i64 0, .int .i64 0, .int .u64 0, .slice none 0 0] 50)).heap[w.heap.size + 1]? = some (.cells #[.int .i64 0, .int .i64 0, .int .u64 0, .slice none 0 0] 50) := by
    have h := heap_alloc_new (w.alloc (.cells #[.int .i64 s, .int .u64 (nn : Int), .int .u64 (f : Int), .int .u64 (x : Int), .slice A kb c] 25)) (.cells #[.int .i64 0, .int .i64 0, .int .u64 0, .slice none 0 0] 50)
    rwa [show (w.alloc (.cells #[.int .i64 s, .int .u64 (nn : Int), .int .u64 (f : Int), .int .u64 (x : Int), .slice A kb c] 25)).heap.size = w.heap.size + 1 from by simp] at h
  have HX := Lib.hid hx2
  have HG := Lib.hid hg0
  have HR := Lib.hid hr0
  have HK := Lib.hid hk
  have HP := Lib.hid hp
  have HB := Lib.hid hr
  have HQ := Lib.hid hq
  have HCK := Lib.hid (fun u => ev_check s nn f x kb c b A u hk)
  obtain ⟨ck, hck⟩ : ∃ q, (Ev.mk s nn f x b).chk = q := ⟨_, rfl⟩
  rw [hck] at HCK
  have HC := Lib.hid hck
  clear hx2 hg0 hr0 hr hp hq hck hk
  go_enter Tryd.func22, Tryd.ntmps22
  go_wp2_with (with_reducible refine wpList_load_row rfl 25 (.tmp 2) rfl (w.heap.size) rfl 25 #[.int .i64 s, .int .u64 (nn : Int), .int .u64 (f : Int), .int .u64 (x : Int), .slice A kb c] (0, 0) _ HG.out Tryd.underlying25 rfl ev_in16 ?_)
  refine (HCK.out _).mono ?_
  rintro e w1 ⟨rfl, hx1⟩
  replace HX := Lib.hid (HX.out.trans hx1)
  replace HR := Lib.hid (hx1.row HR.out)
  replace HG := Lib.hid (hx1.row HG.out)
  clear hx1 HCK
  by_cases hc0 : ck = 0
  rotate_left
  · skip
    have d1 : ((ck : Int) == 0) = false := by simp; omega
    have d2 : ((ck : Int) != 0) = true := by simp; omega
    have d3 : decide ((ck : Int) = 0) = false := decide_eq_false (by omega)
    have d4 : decide (ck = 0) = false := decide_eq_false (by omega)
    have HDN := Lib.hid (fun w' (hx : Ext w w') => odR_no (r := open16 ⟨s, nn, f, x, b⟩ p) (m := ck) (by rw [open16_chk (by rw [HC.out]; exact hc0), HC.out]) hx)
    have hone : (#[.int .i64 0, .int .i64 0, .int .u64 0, .slice none 0 0] : Array Value).all (·.oneCell') = true := by simp [Value.oneCell']
    have HXF := Lib.hid (HX.out.setRow (g := w.heap.size + 1) (by omega) #[.int .i64 0, .int .i64 0, .int .u64 0, .slice none 0 0])
    have HGF := Lib.hid (setRow_heap w1 (w.heap.size + 1) _ #[.int .i64 0, .int .i64 0, .int .u64 0, .slice none 0 0] _ _ HR.out)
    go_wp2_with (with_reducible refine wpList_store_all rfl 50 (.tmp 4) (.tmp 15) rfl (w.heap.size + 1) _ #[.int .i64 0, .int .i64 0, .int .u64 0, .slice none 0 0] rfl rfl HR.out tx_in16x tx_size14 hone ?_)
    refine bodyPost_ret (results_tx14x Tryd.results22 _ _ (w.heap.size + 1) 50 _ (0, 0) rfl HGF.out tx_in16x) rfl ?_
    exact HDN.out _ HXF.out
  subst hc0
  have hok := Ev.chk_ok.1 HC.out
  have hb1 : 1 ≤ kb := by have h := hok.2.2.2.1; dsimp only at h; rw [HK.out] at h; exact h
  have hb2 : kb ≤ 32 := by have h := hok.2.2.2.2; dsimp only at h; rw [HK.out] at h; exact h
  have q4 := cell_of_row _ w.heap.size 4 _ _ _ HG.out
  clear hok
  by_cases hnp : np = kb
  rotate_left
  · have HSE := Lib.hid (show Calls Tryd.prog 41 #[.slice A kb c, .slice B np cp] w1 (GivesE [] 1 w1) from j_seal _ _ _ _ w1 (j_sum_no kb np A B c cp w1 (fun h => hnp h.symm)))
    unfold GivesE at HSE
    go_wp2_with fail
    refine HSE.out.mono ?_
    rintro e w2 ⟨v2, rfl, hs2, hx2⟩
    replace HX := Lib.hid (HX.out.trans hx2)
    replace HR := Lib.hid (hx2.row HR.out)
    obtain ⟨B2, c2, rfl, _, _⟩ := hs2
    clear hx2 q4
    have HDN := Lib.hid (fun w' (hx : Ext w w') => odR_no (r := open16 ⟨s, nn, f, x, b⟩ p) (m := 1) (open16_len (e := ⟨s, nn, f, x, b⟩) (p := p) HC.out (by dsimp only; rw [HP.out, HK.out]; exact hnp)) hx)
    have hone : (#[.int .i64 0, .int .i64 0, .int .u64 0, .slice none 0 0] : Array Value).all (·.oneCell') = true := by simp [Value.oneCell']
    have HXF := Lib.hid (HX.out.setRow (g := w.heap.size + 1) (by omega) #[.int .i64 0, .int .i64 0, .int .u64 0, .slice none 0 0])
    have HGF := Lib.hid (setRow_heap w2 (w.heap.size + 1) _ #[.int .i64 0, .int .i64 0, .int .u64 0, .slice none 0 0] _ _ HR.out)
    go_wp2_with (with_reducible refine wpList_store_all rfl 50 (.tmp 4) (.tmp 26) rfl (w.heap.size + 1) _ #[.int .i64 0, .int .i64 0, .int .u64 0, .slice none 0 0] rfl rfl HR.out tx_in16x tx_size14 hone ?_)
    refine bodyPost_ret (results_tx14x Tryd.results22 _ _ (w.heap.size + 1) 50 _ (0, 0) rfl HGF.out tx_in16x) rfl ?_
    exact HDN.out _ HXF.out
  subst hnp
  have HPL := Lib.hid (show p.length = (Ev.mk s nn f x b).b.length from HP.out.trans HK.out.symm)
  have HSE := Lib.hid (show Calls Tryd.prog 41 #[.slice A np c, .slice B np cp] w1 (GivesE (lx b p) 0 w1) from by
    have h := j_seal _ _ _ _ w1 (j_sum b p A B c cp w1 (HB.out.ext HX.out) (HQ.out.ext HX.out) (by rw [HK.out]; omega) (by rw [HK.out, HP.out]))
    rwa [HK.out, HP.out] at h)
  unfold GivesE at HSE
  go_wp2_with fail
  refine HSE.out.mono ?_
  rintro e w2 ⟨v2, rfl, hs2, hx2⟩
  replace HX := Lib.hid (HX.out.trans hx2)
  replace HR := Lib.hid (hx2.row HR.out)
  obtain ⟨B2, c2, rfl, hc2, hr2⟩ := hs2
  have hll : (lx b p).length = np := by rw [lx_len, HK.out]
  have HST := Lib.hid (j_strip (lx b p) B2 c2 w2 hr2 hc2 (by rw [hll]; exact ⟨hb1, by omega⟩))
  rw [hll] at HST ⊢
  have HSM := Lib.hid hr2.1
  clear hx2 q4 HSE hc2 hr2 HG
  go_wp2_with fail
  refine HST.out.mono ?_
  rintro e w3 (⟨ht, v3, rfl, hs3, hx3⟩ | ⟨ht, v3, rfl, hs3, hx3⟩)
  rotate_left
  · replace HX := Lib.hid (HX.out.trans hx3)
    replace HR := Lib.hid (hx3.row HR.out)
    obtain ⟨B3, c3, rfl, _, _⟩ := hs3
    clear hx3 HST
    have HDN := Lib.hid (fun w' (hx : Ext w w') => odR_no (r := open16 ⟨s, nn, f, x, b⟩ p) (m := 15) (open16_tail HC.out HPL.out ht) hx)
    have hone : (#[.int .i64 0, .int .i64 0, .int .u64 0, .slice none 0 0] : Array Value).all (·.oneCell') = true := by simp [Value.oneCell']
    have HXF := Lib.hid (HX.out.setRow (g := w.heap.size + 1) (by omega) #[.int .i64 0, .int .i64 0, .int .u64 0, .slice none 0 0])
    have HGF := Lib.hid (setRow_heap w3 (w.heap.size + 1) _ #[.int .i64 0, .int .i64 0, .int .u64 0, .slice none 0 0] _ _ HR.out)
    go_wp2_with (with_reducible refine wpList_store_all rfl 50 (.tmp 4) (.tmp 35) rfl (w.heap.size + 1) _ #[.int .i64 0, .int .i64 0, .int .u64 0, .slice none 0 0] rfl rfl HR.out tx_in16x tx_size14 hone ?_)
    refine bodyPost_ret (results_tx14x Tryd.results22 _ _ (w.heap.size + 1) 50 _ (0, 0) rfl HGF.out tx_in16x) rfl ?_
    exact HDN.out _ HXF.out
  replace HX := Lib.hid (HX.out.trans hx3)
  replace HR := Lib.hid (hx3.row HR.out)
  obtain ⟨B3, c3, rfl, hc3, hr3⟩ := hs3
  have hsl : (strp (lx b p)).length ≤ 32 := by rw [strp_len]; have h1 := ht.1; rw [hll] at h1; omega
  have HOD := Lib.hid (open16_dec (e := ⟨s, nn, f, x, b⟩) (p := p) HC.out HPL.out ht)
  obtain ⟨T3, hT3⟩ : ∃ q, strp (lx b p) = q := ⟨_, rfl⟩
  rw [show strp (lx (Ev.mk s nn f x b).b p) = T3 from hT3] at HOD
  rw [hT3] at hr3 hc3 hsl ⊢
  obtain ⟨n3, hn3⟩ : ∃ q, T3.length = q := ⟨_, rfl⟩
  rw [hn3] at hc3 hsl ⊢
  have HDE := Lib.hid (tx_decode T3 B3 n3 c3 w3 hn3 hr3 (by omega))
  unfold DecR at HDE
  clear hx3 HST hr3 hc3 ht hT3 hn3 hsl hll
  go_wp2_with fail
  refine HDE.out.mono ?_
  rintro e w4 ⟨hx4, B4, k4, c4, rfl, hk4, hc4, hr4⟩
  replace HX := Lib.hid (HX.out.trans hx4)
  replace HR := Lib.hid (hx4.row HR.out)
  obtain ⟨dc, hdc⟩ : ∃ q, dec14 T3 = q := ⟨_, rfl⟩
  rw [hdc] at hk4 hr4 HOD ⊢
  obtain ⟨z, ok, ot, oa, om⟩ := dc
  dsimp only at hk4 hr4 HOD ⊢
  have HFF := Lib.hid (far_of_tx hr4 HR.out)
  have hxa := (Ext.refl w4).alloc (.cells #[.int .i64 ok, .int .i64 ot, .int .u64 (oa : Int), .slice B4 k4 c4] 50)
  have HZ4 := Lib.hid (heap_alloc_new w4 (.cells #[.int .i64 0, .int .i64 0, .int .u64 0, .slice none 0 0] 50))
  have HSV := Lib.hid (show (#[.int .i64 0, .int .i64 0, .int .u64 0, .slice none 0 0] : Array Value).size = (#[.int .i64 ok, .int .i64 ot, .int .u64 (oa : Int), .slice B4 k4 c4] : Array Value).size from rfl)
  have hone5 : (#[.int .i64 ok, .int .i64 ot, .int .u64 (oa : Int), .slice B4 k4 c4] : Array Value).all (·.oneCell') = true := by simp [Value.oneCell']
  have HXa := Lib.hid (HX.out.trans hxa)
  have HRa := Lib.hid (hxa.row HR.out)
  have HVa := Lib.hid (heap_alloc_new w4 (.cells #[.int .i64 ok, .int .i64 ot, .int .u64 (oa : Int), .slice B4 k4 c4] 50))
  have HBa := Lib.hid (hr4.ext hxa)
  have HK4 := Lib.hid (And.intro hk4 hc4)
  clear hx4 hk4 hc4 hr4 hdc hxa HDE
  by_cases hz : z = 0
  · subst hz
    have hod := HOD.out
    rw [if_neg (by simp)] at hod
    have HDN := Lib.hid hod
    clear hod
    have HXF := Lib.hid (HXa.out.setRow (g := w.heap.size + 1) (by omega) #[.int .i64 ok, .int .i64 ot, .int .u64 (oa : Int), .slice B4 k4 c4])
    have HGF := Lib.hid (setRow_heap _ (w.heap.size + 1) _ #[.int .i64 ok, .int .i64 ot, .int .u64 (oa : Int), .slice B4 k4 c4] _ _ HRa.out)
    go_wp2_with (first | (with_reducible refine wpList_store_all rfl 50 (.tmp 10) (.tmp 39) rfl w4.heap.size _ #[.int .i64 ok, .int .i64 ot, .int .u64 (oa : Int), .slice B4 k4 c4] rfl rfl HZ4.out tx_in16x HSV.out hone5 ?_; rw [World.setRow_alloc_new]) | (with_reducible refine wpList_load_row rfl 50 (.tmp 10) rfl (w4.heap.size) rfl 50 #[.int .i64 ok, .int .i64 ot, .int .u64 (oa : Int), .slice B4 k4 c4] (0, 0) _ HVa.out Tryd.underlying50 rfl tx_in16x ?_) | (with_reducible refine wpList_store_all rfl 50 (.tmp 4) (.tmp 44) rfl (w.heap.size + 1) _ #[.int .i64 ok, .int .i64 ot, .int .u64 (oa : Int), .slice B4 k4 c4] rfl rfl HRa.out tx_in16x HSV.out hone5 ?_))
    refine bodyPost_ret (results_tx14x Tryd.results22 _ _ (w.heap.size + 1) 50 _ (0, 0) rfl HGF.out tx_in16x) rfl ?_
    unfold OdR
    rw [HDN.out]
    exact ⟨HXF.out, B4, k4, c4, rfl, HK4.out.1, HK4.out.2, HBa.out.keep (grown_block _ (w.heap.size + 1) #[.int .i64 ok, .int .i64 ot, .int .u64 (oa : Int), .slice B4 k4 c4]) (fun q o e h0 e2 => by injection e2 with e2; exact HFF.out q o e h0 e2)⟩
  · have hod := HOD.out
    rw [if_pos hz] at hod
    have HMN := Lib.hid hod
    have d1 : ((z : Int) == 0) = false := by simp; omega
    have d2 : ((z : Int) != 0) = true := by simp; omega
    have d3 : decide ((z : Int) = 0) = false := decide_eq_false (by omega)
    have d4 : decide (z = 0) = false := decide_eq_false (by omega)
    clear hod hz
    have HDN := Lib.hid (fun w' (hx : Ext w w') => odR_no (r := open16 ⟨s, nn, f, x, b⟩ p) (m := 15) (HMN.out) hx)
    have hone : (#[.int .i64 0, .int .i64 0, .int .u64 0, .slice none 0 0] : Array Value).all (·.oneCell') = true := by simp [Value.oneCell']
    have HXF := Lib.hid (HXa.out.setRow (g := w.heap.size + 1) (by omega) #[.int .i64 0, .int .i64 0, .int .u64 0, .slice none 0 0])
    have HGF := Lib.hid (setRow_heap _ (w.heap.size + 1) _ #[.int .i64 0, .int .i64 0, .int .u64 0, .slice none 0 0] _ _ HRa.out)
    go_wp2_with (first | (with_reducible refine wpList_store_all rfl 50 (.tmp 10) (.tmp 39) rfl w4.heap.size _ #[.int .i64 ok, .int .i64 ot, .int .u64 (oa : Int), .slice B4 k4 c4] rfl rfl HZ4.out tx_in16x HSV.out hone5 ?_; rw [World.setRow_alloc_new]) | (with_reducible refine wpList_store_all rfl 50 (.tmp 4) (.tmp 43) rfl (w.heap.size + 1) _ #[.int .i64 0, .int .i64 0, .int .u64 0, .slice none 0 0] rfl rfl HRa.out tx_in16x tx_size14 hone ?_))
    refine bodyPost_ret (results_tx14x Tryd.results22 _ _ (w.heap.size + 1) 50 _ (0, 0) rfl HGF.out tx_in16x) rfl ?_
    exact HDN.out _ HXF.out
end Go.Proofs.YtjifionpblpfoaaDoor

/-
  Layer 16's own functions check, make and open envelopes as they are to. Conditions: those of EnvMk.
-/
namespace Go.Proofs.YtjifionpblpfoaaDoor
open Go.RowKit
open Pol (co Sm)

theorem envMk : EnvMk where
  check := fun s n f x k c b A w hk _ _ _ _ _ _ => ev_check s n f x k c b A w hk
  make := fun s nn f x k t a n c m p A B np cp w hn _ hr hl ha hp _ hq hlp _ _ _ => ev_make s nn f x k t a n c m p A B np cp w hn hr hl ha hp hq hlp
  opens := fun s nn f x kb c b p A B np cp w hk _ hr _ hp _ hq _ _ _ _ => ev_open s nn f x kb c b p A B np cp w hk hr hp hq
end Go.Proofs.YtjifionpblpfoaaDoor

/-
  What the code's own Decode of layer 16 reads. Conditions: no more than 2^16 bytes.
-/
namespace Go.Proofs.YtjifionpblpfoaaDoor
open Go.RowKit
open Pol (co Sm)

/-- What holds while an envelope is read into block g. -/
structure ES (lo hi g : Nat) (B : Option Addr) (ρ : Addr) (w : World) (v0 v1 v2 v3 v4 : Value) (rest : List Nat) (w' : World) : Prop where
  ri : rdr.RI lo hi B ρ w' rest
  row : w'.heap[g]? = some (.cells #[v0, v1, v2, v3, v4] 25)
  only : Only (fun k => Btw lo hi k ∨ k = g) w w'
  size : hi ≤ w'.heap.size
  far : g < lo
section
variable {lo hi g : Nat} {B : Option Addr} {ρ : Addr} {w w1 w2 : World} {v0 v1 v2 v3 v4 : Value} {rest rest' : List Nat}
theorem ES.reads (h : ES lo hi g B ρ w v0 v1 v2 v3 v4 rest w1) (ho : Only (Btw lo hi) w1 w2) (hr : rdr.RI lo hi B ρ w2 rest') : ES lo hi g B ρ w v0 v1 v2 v3 v4 rest' w2 :=
  ⟨hr, (ho.block g (row_lt h.row) (fun hb => by have h1 := hb.1; have h2 := h.far; omega)).trans h.row, h.only.trans (ho.mono fun _ _ hb => .inl hb), Nat.le_trans h.size ho.size, h.far⟩
theorem ES.keepR (h : ES lo hi g B ρ w v0 v1 v2 v3 v4 rest w1) (o : Nat) (v : Value) : rdr.RI lo hi B ρ (w1.setCell ⟨g, o, none⟩ v) rest :=
  cd_keep lo hi B ρ w1 _ rest h.ri (fun k hk => Below.heap_setCell _ _ _ k (fun e => by have e : k = g := e; have h1 := hk.1; have h2 := h.far; omega))
theorem ES.keepO (h : ES lo hi g B ρ w v0 v1 v2 v3 v4 rest w1) (o : Nat) (v : Value) : Only (fun k => Btw lo hi k ∨ k = g) w (w1.setCell ⟨g, o, none⟩ v) :=
  h.only.trans (Only.of_grown (grown_set' w1 g o v) (fun k e => by injection e with e; exact .inr e.symm))
theorem ES.keepS (h : ES lo hi g B ρ w v0 v1 v2 v3 v4 rest w1) (o : Nat) (v : Value) : hi ≤ (w1.setCell ⟨g, o, none⟩ v).heap.size := Nat.le_trans h.size (grown_set' w1 g o v).size
theorem ES.set0 (h : ES lo hi g B ρ w v0 v1 v2 v3 v4 rest w1) (v : Value) : ES lo hi g B ρ w v v1 v2 v3 v4 rest (w1.setCell ⟨g, 0, none⟩ v) := ⟨h.keepR 0 v, heap_setCell_same w1 g 0 _ _ v h.row, h.keepO 0 v, h.keepS 0 v, h.far⟩
theorem ES.set1 (h : ES lo hi g B ρ w v0 v1 v2 v3 v4 rest w1) (v : Value) : ES lo hi g B ρ w v0 v v2 v3 v4 rest (w1.setCell ⟨g, 1, none⟩ v) := ⟨h.keepR 1 v, heap_setCell_same w1 g 1 _ _ v h.row, h.keepO 1 v, h.keepS 1 v, h.far⟩
theorem ES.set2 (h : ES lo hi g B ρ w v0 v1 v2 v3 v4 rest w1) (v : Value) : ES lo hi g B ρ w v0 v1 v v3 v4 rest (w1.setCell ⟨g, 2, none⟩ v) := ⟨h.keepR 2 v, heap_setCell_same w1 g 2 _ _ v h.row, h.keepO 2 v, h.keepS 2 v, h.far⟩
theorem ES.set3 (h : ES lo hi g B ρ w v0 v1 v2 v3 v4 rest w1) (v : Value) : ES lo hi g B ρ w v0 v1 v2 v v4 rest (w1.setCell ⟨g, 3, none⟩ v) := ⟨h.keepR 3 v, heap_setCell_same w1 g 3 _ _ v h.row, h.keepO 3 v, h.keepS 3 v, h.far⟩
theorem ES.set4 (h : ES lo hi g B ρ w v0 v1 v2 v3 v4 rest w1) (v : Value) : ES lo hi g B ρ w v0 v1 v2 v3 v rest (w1.setCell ⟨g, 4, none⟩ v) := ⟨h.keepR 4 v, heap_setCell_same w1 g 4 _ _ v h.row, h.keepO 4 v, h.keepS 4 v, h.far⟩
end
/-- What the reading leaves. -/
def EvJ (lo g : Nat) (b : List Nat) (w : World) (hi : Nat) (w' : World) (y : By) : Prop :=
  Only (fun k => Btw lo hi k ∨ k = g) w w' ∧ match rdE b with
    | .ok e rest => y = .done rest ∧ ∃ v, w'.heap[g]? = some (.cells #[.int .i64 e.s, .int .u64 ((e.n : Nat) : Int), .int .u64 ((e.f : Nat) : Int), .int .u64 ((e.x : Nat) : Int), v] 25) ∧ Mine w' hi v e.b
    | .er n => y = .fails n
set_option maxHeartbeats 6400000 in
set_option maxRecDepth 100000 in
theorem ev_by (lo hi g : Nat) (B : Option Addr) (ρ : Addr) (w : World) (b : List Nat) (hI : rdr.RI lo hi B ρ w b) (hrow : w.heap[g]? = some (.cells #[.int .i64 0, .int .u64 0, .int .u64 0, .int .u64 0, .slice none 0 0] 25)) (hg : g < lo) (hs : hi ≤ w.heap.size) (hsm : Sm b) :
    Calls Tryd.prog 28 #[.pointer (some ρ), .pointer (some ⟨g, 0, none⟩)] w (ByE rdr lo hi B ρ (EvJ lo g b w)) := by
  have H0 := Lib.hid (show ES lo hi g B ρ w (.int .i64 0) (.int .u64 0) (.int .u64 0) (.int .u64 0) (.slice none 0 0) b w from ⟨hI, hrow, ⟨rfl, rfl, rfl, Nat.le_refl _, fun _ _ _ => rfl⟩, hs, hg⟩)
  have HSB := Lib.hid hsm
  clear hI hrow hg hs hsm
  go_enter Tryd.func28, Tryd.ntmps28
  go_wp2_with fail
  refine (cd_Count lo hi B ρ w b 5 H0.out.ri (by decide)).mono ?_
  rintro e w1 ⟨ho, h⟩
  cases e1 : rdN 5 b with
  | er n1 =>
    rw [e1] at h
    obtain ⟨ch, rfl, hst⟩ := h
    have hd : rdE b = .er n1 := by unfold rdE; rw [e1]; rfl
    exact ⟨rfl, .inr (.inl ⟨n1, ch, rfl, hst, ho.mono fun _ _ h => .inl h, by rw [hd]⟩)⟩
  | ok k1 b1 =>
    rw [e1] at h
    obtain ⟨v, rfl, rfl, hi1⟩ := h
    obtain ⟨q1, f1, _⟩ := vn_rdN HSB.out e1
    have hs1 : Sm b1 := (sm_split (q1 ▸ HSB.out)).2
    have H1 := Lib.hid (H0.out.reads ho hi1)
    have HS1 := Lib.hid hs1
    have HE1 := Lib.hid e1
    have c1 := cell_of_row _ g 0 _ _ _ H1.out.row
    have z1 := frozen_of_row _ g 0 _ _ H1.out.row
    have x1 : IntKind.i64.wrap (k1 : Int) = (k1 : Int) := by rw [IntKind.wrap_i64]; omega
    have J1 := Lib.hid (H1.out.set0 (.int .i64 (k1 : Int)))
    clear ho hi1 hs1 q1 f1 e1
    go_wp2_with fail
    generalize w1.setCell ⟨g, 0, none⟩ (.int .i64 (k1 : Int)) = wa at J1 ⊢
    clear c1 z1 x1 H1
    refine (cd_Number lo hi B ρ wa b1 18446744073709551615 J1.out.ri).mono ?_
    rintro e w2 ⟨ho, h⟩
    cases e2 : rdN 18446744073709551615 b1 with
    | er n1 =>
      rw [e2] at h
      obtain ⟨ch, rfl, hst⟩ := h
      have hd : rdE b = .er n1 := by unfold rdE; rw [HE1.out]; show ((rdN _ b1).bind _ : Rs Ev) = _; rw [e2]; rfl
      exact ⟨rfl, .inr (.inl ⟨n1, ch, rfl, hst, J1.out.only.trans (ho.mono fun _ _ h => .inl h), by rw [hd]⟩)⟩
    | ok k2 b2 =>
      rw [e2] at h
      obtain ⟨v, rfl, rfl, hi1⟩ := h
      obtain ⟨q1, f1, _⟩ := vn_rdN HS1.out e2
      have hs1 : Sm b2 := (sm_split (q1 ▸ HS1.out)).2
      have H2 := Lib.hid (J1.out.reads ho hi1)
      have HS2 := Lib.hid hs1
      have HE2 := Lib.hid e2
      have c1 := cell_of_row _ g 1 _ _ _ H2.out.row
      have z1 := frozen_of_row _ g 1 _ _ H2.out.row
      have J2 := Lib.hid (H2.out.set1 (.int .u64 (k2 : Int)))
      clear ho hi1 hs1 q1 f1 e2
      go_wp2_with fail
      generalize w2.setCell ⟨g, 1, none⟩ (.int .u64 (k2 : Int)) = wb at J2 ⊢
      clear c1 z1 H2 J1
      refine (cd_Number lo hi B ρ wb b2 1152921504606846976 J2.out.ri).mono ?_
      rintro e w3 ⟨ho, h⟩
      cases e3 : rdN 1152921504606846976 b2 with
      | er n1 =>
        rw [e3] at h
        obtain ⟨ch, rfl, hst⟩ := h
        have hd : rdE b = .er n1 := by unfold rdE; rw [HE1.out]; show ((rdN _ b1).bind _ : Rs Ev) = _; rw [HE2.out]; show ((rdN _ b2).bind _ : Rs Ev) = _; rw [e3]; rfl
        exact ⟨rfl, .inr (.inl ⟨n1, ch, rfl, hst, J2.out.only.trans (ho.mono fun _ _ h => .inl h), by rw [hd]⟩)⟩
      | ok k3 b3 =>
        rw [e3] at h
        obtain ⟨v, rfl, rfl, hi1⟩ := h
        obtain ⟨q1, f1, _⟩ := vn_rdN HS2.out e3
        have hs1 : Sm b3 := (sm_split (q1 ▸ HS2.out)).2
        have H3 := Lib.hid (J2.out.reads ho hi1)
        have HS3 := Lib.hid hs1
        have HE3 := Lib.hid e3
        have c1 := cell_of_row _ g 2 _ _ _ H3.out.row
        have z1 := frozen_of_row _ g 2 _ _ H3.out.row
        have J3 := Lib.hid (H3.out.set2 (.int .u64 (k3 : Int)))
        clear ho hi1 hs1 q1 f1 e3
        go_wp2_with fail
        generalize w3.setCell ⟨g, 2, none⟩ (.int .u64 (k3 : Int)) = wc at J3 ⊢
        clear c1 z1 H3 J2
        refine (cd_Number lo hi B ρ wc b3 18446744073709551615 J3.out.ri).mono ?_
        rintro e w4 ⟨ho, h⟩
        cases e4 : rdN 18446744073709551615 b3 with
        | er n1 =>
          rw [e4] at h
          obtain ⟨ch, rfl, hst⟩ := h
          have hd : rdE b = .er n1 := by unfold rdE; rw [HE1.out]; show ((rdN _ b1).bind _ : Rs Ev) = _; rw [HE2.out]; show ((rdN _ b2).bind _ : Rs Ev) = _; rw [HE3.out]; show ((rdN _ b3).bind _ : Rs Ev) = _; rw [e4]; rfl
          exact ⟨rfl, .inr (.inl ⟨n1, ch, rfl, hst, J3.out.only.trans (ho.mono fun _ _ h => .inl h), by rw [hd]⟩)⟩
        | ok k4 b4 =>
          rw [e4] at h
          obtain ⟨v, rfl, rfl, hi1⟩ := h
          obtain ⟨q1, f1, _⟩ := vn_rdN HS3.out e4
          have hs1 : Sm b4 := (sm_split (q1 ▸ HS3.out)).2
          have H4 := Lib.hid (J3.out.reads ho hi1)
          have HS4 := Lib.hid hs1
          have HE4 := Lib.hid e4
          have c1 := cell_of_row _ g 3 _ _ _ H4.out.row
          have z1 := frozen_of_row _ g 3 _ _ H4.out.row
          have J4 := Lib.hid (H4.out.set3 (.int .u64 (k4 : Int)))
          clear ho hi1 hs1 q1 f1 e4
          go_wp2_with fail
          generalize w4.setCell ⟨g, 3, none⟩ (.int .u64 (k4 : Int)) = wd at J4 ⊢
          clear c1 z1 H4 J3
          refine (cd_TextM lo hi B ρ wd b4 32 J4.out.ri (by decide)).mono ?_
          rintro e w5 ⟨ho, h⟩
          cases e5 : rdT 32 b4 with
          | er n1 =>
            rw [e5] at h
            obtain ⟨ch, rfl, hst⟩ := h
            have hd : rdE b = .er n1 := by unfold rdE; rw [HE1.out]; show ((rdN _ b1).bind _ : Rs Ev) = _; rw [HE2.out]; show ((rdN _ b2).bind _ : Rs Ev) = _; rw [HE3.out]; show ((rdN _ b3).bind _ : Rs Ev) = _; rw [HE4.out]; show ((rdT _ b4).bind _ : Rs Ev) = _; rw [e5]; rfl
            exact ⟨rfl, .inr (.inl ⟨n1, ch, rfl, hst, J4.out.only.trans (ho.mono fun _ _ h => .inl h), by rw [hd]⟩)⟩
          | ok m5 b5 =>
            rw [e5] at h
            obtain ⟨v5, rfl, ⟨hm, hsm⟩, hi5⟩ := h
            obtain ⟨D5, c5, rfl, _, _⟩ := hm.slice hsm
            obtain ⟨n5, hn5⟩ : ∃ q, m5.length = q := ⟨_, rfl⟩
            rw [hn5] at hm ⊢
            have H5 := Lib.hid (J4.out.reads ho hi5)
            have hd : rdE b = .ok ⟨(k1 : Int), k2, k3, k4, m5⟩ b5 := by unfold rdE; rw [HE1.out]; show ((rdN _ b1).bind _ : Rs Ev) = _; rw [HE2.out]; show ((rdN _ b2).bind _ : Rs Ev) = _; rw [HE3.out]; show ((rdN _ b3).bind _ : Rs Ev) = _; rw [HE4.out]; show ((rdT _ b4).bind _ : Rs Ev) = _; rw [e5]; rfl
            have HDD := Lib.hid hd
            have c1 := cell_of_row _ g 4 _ _ _ H5.out.row
            have z1 := frozen_of_row _ g 4 _ _ H5.out.row
            have H5x := Lib.hid (H5.out.set4 (.slice D5 n5 c5))
            have HGL := Lib.hid (show g < wd.heap.size from row_lt J4.out.row)
            have HLO := Lib.hid (J4.out.size)
            have HM := Lib.hid (show Mine (w5.setCell ⟨g, 4, none⟩ (.slice D5 n5 c5)) hi (.slice D5 n5 c5) m5 from (hm.only (X := fun q => q = g) (Only.of_grown (grown_set' w5 g 4 (.slice D5 n5 c5)) (fun q e => by injection e with e; exact e.symm)) (fun q e e2 => by have e3 : q = g := e2; have h1 := (hm.block q e).1; have := HGL.out; omega)).down HLO.out)
            clear ho hi5 hm hsm hd e5 hn5
            go_wp2
            go_end0
            exact .inl ⟨b5, _, rfl, H5x.out.ri, H5x.out.only, by rw [HDD.out]; exact ⟨rfl, _, H5x.out.row, HM.out⟩⟩
end Go.Proofs.YtjifionpblpfoaaDoor

/-
  The code's own Decode of layer 16. Conditions: no more than 2^16 bytes.
-/
namespace Go.Proofs.YtjifionpblpfoaaDoor
open Go.RowKit
open Pol (co Sm)

theorem dec16_pos {b : List Nat} {n : Nat} (hs : Sm b) (h : rdE b = .er n) : n ≠ 0 := by
  intro h0
  have hd : dec16 b = (n, Ev.zero) := by unfold dec16; rw [h]
  have h1 := (dec16_ok hs (by rw [hd]; exact h0)).1
  rw [hd] at h1
  have h2 : 1 ≤ Ev.zero.b.length := h1.2.2.2.1
  exact absurd h2 (by decide)
theorem decO_no {b : List Nat} {w w' : World} {n : Nat} (h : dec16 b = (n, Ev.zero)) (hx : Ext w w') : DecO b w (.returned (.tuple #[.agg #[.int .i64 0, .int .u64 0, .int .u64 0, .int .u64 0, .slice none 0 0], .int .i64 (n : Int)])) w' := by
  unfold DecO
  rw [h]
  exact ⟨_, rfl, Mine.nil _ _, hx⟩
set_option maxHeartbeats 6400000 in
set_option maxRecDepth 100000 in
theorem ev_decode (b : List Nat) (A : Option Addr) (n c : Nat) (w : World) (hn : b.length = n) (hr : Rd w A b) (hl : n ≤ 65536) :
    Calls Tryd.prog 10 #[.slice A n c] w (DecO b w) := by
  have hmf : ∀ (fn : Fn) (first cap : Array Value) (w : World), (Instr.makeFunc fn first cap).run Tryd.prog w = .ok (.func fn first cap) w := fun _ _ _ _ => rfl
  have HSB := Lib.hid hr.1
  have hx2 := ((Ext.refl w).alloc (.cells #[.int .i64 0, .int .u64 0, .int .u64 0, .int .u64 0, .slice none 0 0] 25)).alloc (.cells #[.int .i64 0, .int .u64 0, .int .u64 0, .int .u64 0, .slice none 0 0] 25)
  have hr0 : ((w.alloc (.cells #[.int .i64 0, .int .u64 0, .int .u64 0, .int .u64 0, .slice none 0 0] 25)).alloc (.cells #[.int .i64 0, .int .u64 0, .int .u64 0, .int .u64 0, .slice none 0 0] 25)).heap[w.heap.size]? = some (.cells #[.int .i64 0, .int .u64 0, .int .u64 0, .int .u64 0, .slice none 0 0] 25) := by
    rw [heap_alloc_old _ _ (by simp)]
    exact heap_alloc_new w _
  have hg0 : ((w.alloc (.cells #[.int .i64 0, .int .u64 0, .int .u64 0, .int .u64 0, .slice none 0 0] 25)).alloc (.cells #[.int .i64 0, .int .u64 0, .int .u64 0, .int .u64 0, .slice none 0 0] 25)).heap[w.heap.size + 1]? = some (.cells #[.int .i64 0, .int .u64 0, .int .u64 0, .int .u64 0, .slice none 0 0] 25) := by
    have h := heap_alloc_new (w.alloc (.cells #[.int .i64 0, .int .u64 0, .int .u64 0, .int .u64 0, .slice none 0 0] 25)) (.cells #[.int .i64 0, .int .u64 0, .int .u64 0, .int .u64 0, .slice none 0 0] 25)
    rwa [show (w.alloc (.cells #[.int .i64 0, .int .u64 0, .int .u64 0, .int .u64 0, .slice none 0 0] 25)).heap.size = w.heap.size + 1 from by simp] at h
  have hsz : ((w.alloc (.cells #[.int .i64 0, .int .u64 0, .int .u64 0, .int .u64 0, .slice none 0 0] 25)).alloc (.cells #[.int .i64 0, .int .u64 0, .int .u64 0, .int .u64 0, .slice none 0 0] 25)).heap.size = w.heap.size + 1 + 1 := by simp
  have hrd : Calls Tryd.prog 27 #[.slice A n c, .func (.func 28) #[] #[.pointer (some ⟨w.heap.size + 1, 0, none⟩)]] ((w.alloc (.cells #[.int .i64 0, .int .u64 0, .int .u64 0, .int .u64 0, .slice none 0 0] 25)).alloc (.cells #[.int .i64 0, .int .u64 0, .int .u64 0, .int .u64 0, .slice none 0 0] 25))
      (ReadE (fun hi w' y => EvJ (w.heap.size + 1 + 1) (w.heap.size + 1) b ((w.alloc (.cells #[.int .i64 0, .int .u64 0, .int .u64 0, .int .u64 0, .slice none 0 0] 25)).alloc (.cells #[.int .i64 0, .int .u64 0, .int .u64 0, .int .u64 0, .slice none 0 0] 25)) hi w' y) ((w.alloc (.cells #[.int .i64 0, .int .u64 0, .int .u64 0, .int .u64 0, .slice none 0 0] 25)).alloc (.cells #[.int .i64 0, .int .u64 0, .int .u64 0, .int .u64 0, .slice none 0 0] 25))) := by
    rw [← hn]
    refine cd_Read b A c _ _ _ _ ⟨_, _, Tryd.func28, rfl, by kernel_rfl⟩ (hr.ext hx2) (by omega) (fun hi ρ w1 hx hlo hhi hI => ?_)
    rw [hsz] at hI ⊢
    refine (ev_by (w.heap.size + 1 + 1) hi (w.heap.size + 1) _ ρ w1 b hI (hx.row hg0) (by omega) hhi HSB.out).mono fun e w2 h => ByE.mono h (fun w3 y hJ => ⟨(Only.of_ext hx).trans hJ.1, hJ.2⟩)
  have HRD := Lib.hid hrd
  have HX2 := Lib.hid hx2
  have HR0 := Lib.hid hr0
  have HSZ := Lib.hid hsz
  clear hrd hx2 hr0 hg0 hsz hr
  go_enter Tryd.func10, Tryd.ntmps10
  go_wp2_with fail
  refine HRD.out.mono ?_
  rintro e w3 ⟨hi, w2, y, hhi, ⟨ho, hm⟩, ho2, he⟩
  rw [HSZ.out] at hhi ho2
  have hb : ∀ k, (Btw (w.heap.size + 1 + 1) hi k ∨ k = w.heap.size + 1) → w.heap.size < k := fun k h => by rcases h with h | h; have := h.1; omega; omega
  have HX3 := Lib.hid ((ho.trans (ho2.mono fun _ _ h => .inl h)).ext HX2.out (fun k h => Nat.le_of_lt (hb k h)))
  have HR3 := Lib.hid ((ho.trans (ho2.mono fun _ _ h => .inl h)).row HR0.out (fun h => absurd (hb _ h) (by omega)))
  cases e1 : rdE b with
  | er n1 =>
    rw [e1] at hm
    subst hm
    obtain rfl : e = .returned (.int .i64 (n1 : Int)) := he
    have h0 := dec16_pos HSB.out e1
    have HDN := Lib.hid (fun w' (hx : Ext w w') => decO_no (show dec16 b = (n1, Ev.zero) from by unfold dec16; rw [e1]) hx)
    have d1 : ((n1 : Int) == 0) = false := by simp; omega
    have d2 : ((n1 : Int) != 0) = true := by simp; omega
    have d3 : decide ((n1 : Int) = 0) = false := decide_eq_false (by omega)
    have d4 : decide (n1 = 0) = false := decide_eq_false (by omega)
    clear ho ho2 hb e1 hhi h0
    have hone : (#[.int .i64 0, .int .u64 0, .int .u64 0, .int .u64 0, .slice none 0 0] : Array Value).all (·.oneCell') = true := by simp [Value.oneCell']
    have HXF := Lib.hid (HX3.out.setRow (Nat.le_refl _) #[.int .i64 0, .int .u64 0, .int .u64 0, .int .u64 0, .slice none 0 0])
    have HGF := Lib.hid (setRow_heap w3 w.heap.size _ #[.int .i64 0, .int .u64 0, .int .u64 0, .int .u64 0, .slice none 0 0] _ _ HR3.out)
    go_wp2_with (with_reducible refine wpList_store_all rfl 25 (.tmp 2) (.tmp 12) rfl w.heap.size _ #[.int .i64 0, .int .u64 0, .int .u64 0, .int .u64 0, .slice none 0 0] rfl rfl HR3.out ev_in16 ev_size16 hone ?_)
    refine bodyPost_ret (results_ev16 Tryd.results10 _ _ w.heap.size 25 _ (0, 0) rfl HGF.out ev_in16) rfl ?_
    exact HDN.out _ HXF.out
  | ok o rest =>
    rw [e1] at hm
    obtain ⟨rfl, v5, hrow, hmi⟩ := hm
    obtain rfl : e = .returned (.int .i64 (if rest = [] then 0 else 3)) := he
    by_cases hrest : rest = []
    · rw [if_pos hrest]
      have hd : dec16 b = if o.b = [] then (5, Ev.zero) else (0, o) := by unfold dec16; rw [e1]; dsimp only; rw [if_neg (by simpa using hrest)]
      have hfit := (rdE_ok HSB.out e1).2.2.2.2.2
      obtain ⟨es, en, ef, ex, eb⟩ := o
      dsimp only at hrow hmi hd
      have hrow3 := ho2.row hrow (fun h => by have := h.1; omega)
      have HG3 := Lib.hid hrow3
      have HM3 := Lib.hid (hmi.only ho2 (fun q e h => by have h1 := (hmi.block q e).1; have h2 := h.2; omega))
      have HHI := Lib.hid (show w.heap.size + 1 < hi by omega)
      obtain ⟨D, c5, ev5, hc5, _⟩ := HM3.out.slice hfit.b
      obtain ⟨n5, hn5⟩ : ∃ q, eb.length = q := ⟨_, rfl⟩
      rw [hn5] at ev5 hc5
      subst ev5
      have g4 := cell_of_row _ (w.heap.size + 1) 4 _ _ _ HG3.out
      clear ho ho2 hb e1 hhi hrow hrow3 hmi hc5
      by_cases hz : eb = []
      · rw [if_pos hz] at hd
        have HDN := Lib.hid (fun w' (hx : Ext w w') => decO_no hd hx)
        have hn0 : n5 = 0 := by rw [← hn5, hz]; rfl
        have z0 : ((n5 : Int) == 0) = true := by simp; omega
        have z1 : decide ((n5 : Int) = 0) = true := decide_eq_true (by omega)
        have z2 : decide (n5 = 0) = true := decide_eq_true hn0
        clear hd hn0 hn5 hz
        have hone : (#[.int .i64 0, .int .u64 0, .int .u64 0, .int .u64 0, .slice none 0 0] : Array Value).all (·.oneCell') = true := by simp [Value.oneCell']
        have HXF := Lib.hid (HX3.out.setRow (Nat.le_refl _) #[.int .i64 0, .int .u64 0, .int .u64 0, .int .u64 0, .slice none 0 0])
        have HGF := Lib.hid (setRow_heap w3 w.heap.size _ #[.int .i64 0, .int .u64 0, .int .u64 0, .int .u64 0, .slice none 0 0] _ _ HR3.out)
        go_wp2_with (with_reducible refine wpList_store_all rfl 25 (.tmp 2) (.tmp 18) rfl w.heap.size _ #[.int .i64 0, .int .u64 0, .int .u64 0, .int .u64 0, .slice none 0 0] rfl rfl HR3.out ev_in16 ev_size16 hone ?_)
        refine bodyPost_ret (results_ev16 Tryd.results10 _ _ w.heap.size 25 _ (0, 0) rfl HGF.out ev_in16) rfl ?_
        exact HDN.out _ HXF.out
      · rw [if_neg hz] at hd
        have HDEC := Lib.hid hd
        have hn0 : n5 ≠ 0 := by intro h; rw [← hn5] at h; exact hz (List.eq_nil_of_length_eq_zero h)
        have z1 : ((n5 : Int) == 0) = false := by simp; omega
        have z2 : ((n5 : Int) != 0) = true := by simp; omega
        have z3 : decide ((n5 : Int) = 0) = false := decide_eq_false (by omega)
        have z4 : decide (n5 = 0) = false := decide_eq_false (by omega)
        clear hd hn0 hn5 hz
        have HSV := Lib.hid (show (#[.int .i64 0, .int .u64 0, .int .u64 0, .int .u64 0, .slice none 0 0] : Array Value).size = (#[.int .i64 es, .int .u64 (en : Int), .int .u64 (ef : Int), .int .u64 (ex : Int), .slice D n5 c5] : Array Value).size from rfl)
        have hone : (#[.int .i64 es, .int .u64 (en : Int), .int .u64 (ef : Int), .int .u64 (ex : Int), .slice D n5 c5] : Array Value).all (·.oneCell') = true := by simp [Value.oneCell']
        have HXF := Lib.hid (HX3.out.setRow (Nat.le_refl _) #[.int .i64 es, .int .u64 (en : Int), .int .u64 (ef : Int), .int .u64 (ex : Int), .slice D n5 c5])
        have HGF := Lib.hid (setRow_heap w3 w.heap.size _ #[.int .i64 es, .int .u64 (en : Int), .int .u64 (ef : Int), .int .u64 (ex : Int), .slice D n5 c5] _ _ HR3.out)
        go_wp2_with (first | (with_reducible refine wpList_load_row rfl 25 (.tmp 4) rfl (w.heap.size + 1) rfl 25 #[.int .i64 es, .int .u64 (en : Int), .int .u64 (ef : Int), .int .u64 (ex : Int), .slice D n5 c5] (0, 0) _ HG3.out Tryd.underlying25 rfl ev_in16 ?_) | (with_reducible refine wpList_store_all rfl 25 (.tmp 2) (.tmp 19) rfl w.heap.size _ #[.int .i64 es, .int .u64 (en : Int), .int .u64 (ef : Int), .int .u64 (ex : Int), .slice D n5 c5] rfl rfl HR3.out ev_in16 HSV.out hone ?_))
        refine bodyPost_ret (results_ev16 Tryd.results10 _ _ w.heap.size 25 _ (0, 0) rfl HGF.out ev_in16) rfl ?_
        unfold DecO
        rw [HDEC.out]
        exact ⟨_, rfl, (HM3.out.only (X := fun q => q = w.heap.size) (Only.of_grown (grown_block w3 w.heap.size #[.int .i64 es, .int .u64 (en : Int), .int .u64 (ef : Int), .int .u64 (ex : Int), .slice D n5 c5]) (fun q e => by injection e with e; exact e.symm)) (fun q e e2 => by have e3 : q = w.heap.size := e2; have h1 := (HM3.out.block q e).1; have := HHI.out; omega)).down (by have := HHI.out; omega), HXF.out⟩
    · rw [if_neg hrest]
      have hd : dec16 b = (3, Ev.zero) := by unfold dec16; rw [e1]; dsimp only; rw [if_pos hrest]
      have HDN := Lib.hid (fun w' (hx : Ext w w') => decO_no hd hx)
      clear ho ho2 hb e1 hhi hrow hmi hd hrest
      have hone : (#[.int .i64 0, .int .u64 0, .int .u64 0, .int .u64 0, .slice none 0 0] : Array Value).all (·.oneCell') = true := by simp [Value.oneCell']
      have HXF := Lib.hid (HX3.out.setRow (Nat.le_refl _) #[.int .i64 0, .int .u64 0, .int .u64 0, .int .u64 0, .slice none 0 0])
      have HGF := Lib.hid (setRow_heap w3 w.heap.size _ #[.int .i64 0, .int .u64 0, .int .u64 0, .int .u64 0, .slice none 0 0] _ _ HR3.out)
      go_wp2_with (with_reducible refine wpList_store_all rfl 25 (.tmp 2) (.tmp 12) rfl w.heap.size _ #[.int .i64 0, .int .u64 0, .int .u64 0, .int .u64 0, .slice none 0 0] rfl rfl HR3.out ev_in16 ev_size16 hone ?_)
      refine bodyPost_ret (results_ev16 Tryd.results10 _ _ w.heap.size 25 _ (0, 0) rfl HGF.out ev_in16) rfl ?_
      exact HDN.out _ HXF.out
end Go.Proofs.YtjifionpblpfoaaDoor

/-
  The code's own Encode of layer 16. Conditions: no more than 2^16 bytes.
-/
namespace Go.Proofs.YtjifionpblpfoaaDoor
open Go.RowKit
open Pol (co Sm)

set_option maxHeartbeats 6400000 in
set_option maxRecDepth 100000 in
theorem ev_encode (s : Int) (nn f x k c : Nat) (b : List Nat) (A : Option Addr) (w : World) (hn : b.length = k) (hr : Rd w A b) (hl : k ≤ 65536) (h1 : nn < 18446744073709551616) (h2 : f < 18446744073709551616) (h3 : x < 18446744073709551616) :
    Calls Tryd.prog 9 #[evv s nn f x A k c] w (EncO ⟨s, nn, f, x, b⟩ w) := by
  unfold EncO
  have HV := Lib.hid (fun u => ev_check s nn f x k c b A u hn)
  have HX := Lib.hid ((Ext.refl w).alloc (.cells #[.int .i64 s, .int .u64 (nn : Int), .int .u64 (f : Int), .int .u64 (x : Int), .slice A k c] 25))
  have HG := Lib.hid (heap_alloc_new w (.cells #[.int .i64 s, .int .u64 (nn : Int), .int .u64 (f : Int), .int .u64 (x : Int), .slice A k c] 25))
  by_cases ho : Ev.ok ⟨s, nn, f, x, b⟩
  rotate_left
  · have hc0 : Ev.chk ⟨s, nn, f, x, b⟩ ≠ 0 := fun h => ho (Ev.chk_ok.1 h)
    rw [Ev.bytes_no ho]
    obtain ⟨ck, hck⟩ : ∃ q, Ev.chk ⟨s, nn, f, x, b⟩ = q := ⟨_, rfl⟩
    rw [hck] at HV hc0 ⊢
    have d1 : ((ck : Int) == 0) = false := by simp; omega
    have d2 : ((ck : Int) != 0) = true := by simp; omega
    have d3 : decide ((ck : Int) = 0) = false := decide_eq_false (by omega)
    have d4 : decide (ck = 0) = false := decide_eq_false (by omega)
    clear hr hn hck hc0 ho
    go_enter Tryd.func9, Tryd.ntmps9
    go_wp2_with (with_reducible refine wpList_load_row rfl 25 (.tmp 1) rfl (w.heap.size) rfl 25 #[.int .i64 s, .int .u64 (nn : Int), .int .u64 (f : Int), .int .u64 (x : Int), .slice A k c] (0, 0) _ HG.out Tryd.underlying25 rfl ev_in16 ?_)
    refine (HV.out _).mono ?_
    rintro e w1 ⟨rfl, hx⟩
    have HX1 := Lib.hid (HX.out.trans hx)
    clear hx
    go_wp2
    go_ret2
    exact ⟨_, rfl, Mine.nil _ _, HX1.out⟩
  rw [Ev.chk_ok.2 ho] at HV ⊢
  rw [Ev.bytes_ok ho]
  have hs0 : 0 ≤ s := ho.1
  have hs6 : s < 6 := ho.2.1
  obtain ⟨ss, rfl⟩ : ∃ q : Nat, (q : Int) = s := ⟨s.toNat, by omega⟩
  have hE : Ev.enc ⟨(ss : Int), nn, f, x, b⟩ = [] ++ vn ss ++ vn nn ++ vn f ++ vn x ++ vt b := by
    unfold Ev.enc
    dsimp only
    rw [Int.toNat_natCast, List.nil_append]
  rw [hE]
  have w8 : IntKind.u64.wrap (ss : Int) = (ss : Int) := by rw [IntKind.wrap_u64]; omega
  have S1 : Sm ([] ++ vn ss) := sm_app Sm.nil (vn_sm _)
  have S2 : Sm ([] ++ vn ss ++ vn nn) := sm_app S1 (vn_sm _)
  have S3 : Sm ([] ++ vn ss ++ vn nn ++ vn f) := sm_app S2 (vn_sm _)
  have S4 : Sm ([] ++ vn ss ++ vn nn ++ vn f ++ vn x) := sm_app S3 (vn_sm _)
  have T1 := vn_ten (show ss < 18446744073709551616 by omega)
  have T2 := vn_ten h1
  have T3 := vn_ten h2
  have T4 := vn_ten h3
  obtain ⟨base, hbase⟩ : ∃ q, w.heap.size + 1 = q := ⟨_, rfl⟩
  have HBS := Lib.hid hbase
  have L1 := Lib.hid (fun u (hb : base ≤ u.heap.size) => cd_layN base (.slice none 0 0) [] ss u (Mine.nil _ _) Sm.nil (by decide) (by omega) hb)
  have L2 := Lib.hid (fun u v (hb : base ≤ u.heap.size) (hm : Mine u base v ([] ++ vn ss)) => cd_layN base v _ nn u hm S1 (by simp; omega) h1 hb)
  have L3 := Lib.hid (fun u v (hb : base ≤ u.heap.size) (hm : Mine u base v ([] ++ vn ss ++ vn nn)) => cd_layN base v _ f u hm S2 (by simp; omega) h2 hb)
  have L4 := Lib.hid (fun u v (hb : base ≤ u.heap.size) (hm : Mine u base v ([] ++ vn ss ++ vn nn ++ vn f)) => cd_layN base v _ x u hm S3 (by simp; omega) h3 hb)
  have L5 := Lib.hid (fun u v (hb : base ≤ u.heap.size) (hu : Ext w u) (hm : Mine u base v ([] ++ vn ss ++ vn nn ++ vn f ++ vn x)) => show Calls Tryd.prog 26 #[v, .slice A k c] u (Lays base v ([] ++ vn ss ++ vn nn ++ vn f ++ vn x ++ vt b) u) from by
    have h := cd_layT base v _ b A c u hm S4 (hr.ext hu) (by simp; omega) (by omega) hb
    rwa [hn] at h)
  clear hr hn ho S1 S2 S3 S4 T1 T2 T3 T4 hE hbase
  generalize vn ss = V1 at *
  generalize vn nn = V2 at *
  generalize vn f = V3 at *
  generalize vn x = V4 at *
  generalize vt b = V5 at *
  go_enter Tryd.func9, Tryd.ntmps9
  go_wp2_with (with_reducible refine wpList_load_row rfl 25 (.tmp 1) rfl (w.heap.size) rfl 25 #[.int .i64 (ss : Int), .int .u64 (nn : Int), .int .u64 (f : Int), .int .u64 (x : Int), .slice A k c] (0, 0) _ HG.out Tryd.underlying25 rfl ev_in16 ?_)
  refine (HV.out _).mono ?_
  rintro e w1 ⟨rfl, hx⟩
  replace HX := Lib.hid (HX.out.trans hx)
  replace HG := Lib.hid (hx.row HG.out)
  have q0 := cell_of_row _ w.heap.size 0 _ _ _ HG.out
  clear hx
  go_wp2_with fail
  refine (L1.out w1 (by have := row_lt HG.out; have := HBS.out; omega)).mono ?_
  rintro e w2 ⟨v2, rfl, hm, hg, _⟩
  replace HX := Lib.hid (HX.out.more hg (fun r e => by cases e))
  replace HG := Lib.hid ((Only.of_grown (X := fun q => w.heap.size < q) hg (fun q e => by cases e)).row HG.out (by omega))
  have HM2 := Lib.hid hm
  have q1 := cell_of_row _ w.heap.size 1 _ _ _ HG.out
  clear hm hg q0
  go_wp2_with fail
  refine (L2.out w2 v2 (by have := row_lt HG.out; have := HBS.out; omega) HM2.out).mono ?_
  rintro e w3 ⟨v3, rfl, hm, hg, _⟩
  replace HX := Lib.hid (HX.out.more hg (fun r e => by have h1 := (HM2.out.block r e).1; have := HBS.out; omega))
  replace HG := Lib.hid ((Only.of_grown (X := fun q => w.heap.size < q) hg (fun q e => by have h1 := (HM2.out.block q e).1; have := HBS.out; omega)).row HG.out (by omega))
  have HM3 := Lib.hid hm
  have q2 := cell_of_row _ w.heap.size 2 _ _ _ HG.out
  clear hm hg q1 HM2
  go_wp2_with fail
  refine (L3.out w3 v3 (by have := row_lt HG.out; have := HBS.out; omega) HM3.out).mono ?_
  rintro e w4 ⟨v4, rfl, hm, hg, _⟩
  replace HX := Lib.hid (HX.out.more hg (fun r e => by have h1 := (HM3.out.block r e).1; have := HBS.out; omega))
  replace HG := Lib.hid ((Only.of_grown (X := fun q => w.heap.size < q) hg (fun q e => by have h1 := (HM3.out.block q e).1; have := HBS.out; omega)).row HG.out (by omega))
  have HM4 := Lib.hid hm
  have q3 := cell_of_row _ w.heap.size 3 _ _ _ HG.out
  clear hm hg q2 HM3
  go_wp2_with fail
  refine (L4.out w4 v4 (by have := row_lt HG.out; have := HBS.out; omega) HM4.out).mono ?_
  rintro e w5 ⟨v5, rfl, hm, hg, _⟩
  replace HX := Lib.hid (HX.out.more hg (fun r e => by have h1 := (HM4.out.block r e).1; have := HBS.out; omega))
  replace HG := Lib.hid ((Only.of_grown (X := fun q => w.heap.size < q) hg (fun q e => by have h1 := (HM4.out.block q e).1; have := HBS.out; omega)).row HG.out (by omega))
  have HM5 := Lib.hid hm
  have q4 := cell_of_row _ w.heap.size 4 _ _ _ HG.out
  clear hm hg q3 HM4
  go_wp2_with fail
  refine (L5.out w5 v5 (by have := row_lt HG.out; have := HBS.out; omega) HX.out HM5.out).mono ?_
  rintro e w6 ⟨v6, rfl, hm, hg, _⟩
  replace HX := Lib.hid (HX.out.more hg (fun r e => by have h1 := (HM5.out.block r e).1; have := HBS.out; omega))
  have HM6 := Lib.hid hm
  clear hm hg q4
  go_wp2
  go_ret2
  exact ⟨_, rfl, HM6.out.down (by have := HBS.out; omega), HX.out⟩
end Go.Proofs.YtjifionpblpfoaaDoor

/-
  The code's own Id of layer 16. Conditions: no more than 2^16 bytes; the constants of layer 10 lie where they were laid.
-/
namespace Go.Proofs.YtjifionpblpfoaaDoor
open Go.RowKit
open Pol (co Sm)

set_option maxHeartbeats 3200000 in
set_option maxRecDepth 100000 in
theorem ev_id (S : ShaOH) (s : Int) (nn f x k c : Nat) (b : List Nat) (A : Option Addr) (w : World) (hn : b.length = k) (hr : Rd w A b) (hgl : GL w) (hl : k ≤ 65536) (h1 : nn < 18446744073709551616) (h2 : f < 18446744073709551616) (h3 : x < 18446744073709551616) :
    Calls Tryd.prog 16 #[evv s nn f x A k c] w (DgS (idv sha ⟨s, nn, f, x, b⟩) w) := by
  unfold DgS
  have hz := zero_digest.1
  have HZD := Lib.hid (dgc_zero)
  obtain ⟨Z, hZ⟩ : ∃ Z, (bt 32 fun _ => 0) = Z := ⟨_, rfl⟩
  rw [hZ] at hz HZD
  have hx2 := ((Ext.refl w).alloc (.cells #[.int .i64 s, .int .u64 (nn : Int), .int .u64 (f : Int), .int .u64 (x : Int), .slice A k c] 25)).alloc (.cells Z 39)
  have hg0 : ((w.alloc (.cells #[.int .i64 s, .int .u64 (nn : Int), .int .u64 (f : Int), .int .u64 (x : Int), .slice A k c] 25)).alloc (.cells Z 39)).heap[w.heap.size]? = some (.cells #[.int .i64 s, .int .u64 (nn : Int), .int .u64 (f : Int), .int .u64 (x : Int), .slice A k c] 25) := by
    rw [heap_alloc_old _ _ (by simp)]
    exact heap_alloc_new w _
  have hr0 : ((w.alloc (.cells #[.int .i64 s, .int .u64 (nn : Int), .int .u64 (f : Int), .int .u64 (x : Int), .slice A k c] 25)).alloc (.cells Z 39)).heap[w.heap.size + 1]? = some (.cells Z 39 (0, 0)) := by
    have h := heap_alloc_new (w.alloc (.cells #[.int .i64 s, .int .u64 (nn : Int), .int .u64 (f : Int), .int .u64 (x : Int), .slice A k c] 25)) (.cells Z 39)
    rwa [show (w.alloc (.cells #[.int .i64 s, .int .u64 (nn : Int), .int .u64 (f : Int), .int .u64 (x : Int), .slice A k c] 25)).heap.size = w.heap.size + 1 from by simp] at h
  have HX2 := Lib.hid hx2
  have HG0 := Lib.hid hg0
  have HR0 := Lib.hid hr0
  have HEN := Lib.hid (fun u (hu : Ext w u) => ev_encode s nn f x k c b A u hn (hr.ext hu) hl h1 h2 h3)
  unfold EncO at HEN
  have HGL := Lib.hid hgl
  by_cases ho : Ev.ok ⟨s, nn, f, x, b⟩
  · rw [Ev.chk_ok.2 ho, Ev.bytes_ok ho] at HEN
    rw [idv_ok ho]
    have hlen := Ev.enc_len ho ⟨h1, h2, h3, hr.1⟩
    have HSM := Lib.hid (Ev.enc_sm (e := ⟨s, nn, f, x, b⟩) hr.1)
    obtain ⟨E, hE⟩ : ∃ E, Ev.enc ⟨s, nn, f, x, b⟩ = E := ⟨_, rfl⟩
    rw [hE] at HEN hlen HSM ⊢
    obtain ⟨ne, hne⟩ : ∃ q, E.length = q := ⟨_, rfl⟩
    have HNE := Lib.hid hne
    have HOF := Lib.hid (fun B cb u (hg : GL u) (h : Rd u B E) (hc : ne ≤ cb) => show Calls Tryd.prog 19 #[.slice B ne cb] u (DgS (sha E) u) from by rw [← hne]; exact S.of E B cb u hg h (by omega) (by omega))
    obtain ⟨D, hD⟩ : ∃ D, sha E = D := ⟨_, rfl⟩
    rw [hD] at HOF ⊢
    unfold DgS at HOF
    clear hr hlen hE hne hD ho hg0 hr0 hx2 hgl S
    go_enter Tryd.func16, Tryd.ntmps16
    go_wp2_with (with_reducible refine wpList_load_row rfl 25 (.tmp 1) rfl (w.heap.size) rfl 25 #[.int .i64 s, .int .u64 (nn : Int), .int .u64 (f : Int), .int .u64 (x : Int), .slice A k c] (0, 0) _ HG0.out Tryd.underlying25 rfl ev_in16 ?_)
    refine (HEN.out _ HX2.out).mono ?_
    rintro e w2 ⟨v2, rfl, hm2, hx2⟩
    obtain ⟨B2, c2, rfl, hc2, hr2⟩ := hm2.slice HSM.out
    rw [HNE.out] at hc2 ⊢
    have HX3 := Lib.hid (HX2.out.trans hx2)
    have HR3 := Lib.hid (hx2.row HR0.out)
    have HB2 := Lib.hid hr2
    have HC2 := Lib.hid hc2
    clear hx2 hm2 hr2 hc2
    go_wp2_with fail
    refine (HOF.out B2 c2 w2 (HGL.out.ext HX3.out) HB2.out HC2.out).mono ?_
    rintro e w3 ⟨V, rfl, hV, hx3⟩
    have HV := Lib.hid hV
    have HX4 := Lib.hid (HX3.out.trans hx3)
    have HR4 := Lib.hid (hx3.row HR3.out)
    have HI3 := Lib.hid hV.info
    have HO3 := Lib.hid hV.one
    have HS3 := Lib.hid (show Z.size = V.size from by rw [hV.1]; exact HZD.out.1)
    have HXF := Lib.hid (HX4.out.setRow (g := w.heap.size + 1) (by omega) V)
    have HGF := Lib.hid (setRow_heap w3 (w.heap.size + 1) _ V _ _ HR4.out)
    clear hV hx3
    go_wp2_with (with_reducible refine wpList_store_all rfl 39 (.tmp 2) (.tmp 14) rfl (w.heap.size + 1) _ V rfl rfl HR4.out HI3.out HS3.out HO3.out ?_)
    refine bodyPost_ret (results_cell_row Tryd.results16 _ _ (w.heap.size + 1) 39 _ (0, 0) _ rfl HGF.out Tryd.underlying39 rfl HI3.out) rfl ?_
    exact ⟨V, rfl, HV.out, HXF.out⟩
  · rw [idv_no ho]
    have hc0 : Ev.chk ⟨s, nn, f, x, b⟩ ≠ 0 := fun h => ho (Ev.chk_ok.1 h)
    rw [Ev.bytes_no ho] at HEN
    obtain ⟨ck, hck⟩ : ∃ q, Ev.chk ⟨s, nn, f, x, b⟩ = q := ⟨_, rfl⟩
    rw [hck] at HEN hc0
    have d1 : ((ck : Int) == 0) = false := by simp; omega
    have d2 : ((ck : Int) != 0) = true := by simp; omega
    have d3 : decide ((ck : Int) = 0) = false := decide_eq_false (by omega)
    have d4 : decide (ck = 0) = false := decide_eq_false (by omega)
    clear hr hck hc0 ho hg0 hr0 hx2 hgl S
    go_enter Tryd.func16, Tryd.ntmps16
    go_wp2_with (with_reducible refine wpList_load_row rfl 25 (.tmp 1) rfl (w.heap.size) rfl 25 #[.int .i64 s, .int .u64 (nn : Int), .int .u64 (f : Int), .int .u64 (x : Int), .slice A k c] (0, 0) _ HG0.out Tryd.underlying25 rfl ev_in16 ?_)
    refine (HEN.out _ HX2.out).mono ?_
    rintro e w1 ⟨v1, rfl, hm1, hx1⟩
    obtain ⟨B1, c1, rfl, _, _⟩ := hm1.slice Sm.nil
    have HX1 := Lib.hid (HX2.out.trans hx1)
    have HR1 := Lib.hid (hx1.row HR0.out)
    have HI3 := Lib.hid HZD.out.info
    have HO3 := Lib.hid HZD.out.one
    have HXF := Lib.hid (HX1.out.setRow (g := w.heap.size + 1) (by omega) Z)
    have HGF := Lib.hid (setRow_heap w1 (w.heap.size + 1) _ Z _ _ HR1.out)
    have HSZ := HZD.out.1
    clear hx1 hm1
    go_wp2_with (with_reducible refine wpList_store_all rfl 39 (.tmp 2) (.tmp 12) rfl (w.heap.size + 1) _ Z rfl rfl HR1.out HI3.out (HSZ.trans HSZ.symm) HO3.out ?_)
    refine bodyPost_ret (results_cell_row Tryd.results16 _ _ (w.heap.size + 1) 39 _ (0, 0) _ rfl HGF.out Tryd.underlying39 rfl HI3.out) rfl ?_
    exact ⟨Z, rfl, HZD.out, HXF.out⟩
end Go.Proofs.YtjifionpblpfoaaDoor

/-
  Layer 16's own functions encode, decode and name envelopes as they are to. Conditions: those of EnvCd.
-/
namespace Go.Proofs.YtjifionpblpfoaaDoor
open Go.RowKit
open Pol (co Sm)

theorem envCd : EnvCd where
  enc := fun s n f x k c b A w hk _ hr hl h1 h2 h3 => ev_encode s n f x k c b A w hk hr hl h1 h2 h3
  dec := fun b A n c w hn _ hr hl => ev_decode b A n c w hn hr hl
  id := fun s n f x k c b A w hg hk _ hr hl h1 h2 h3 => ev_id shaOH s n f x k c b A w hk hr hg hl h1 h2 h3
end Go.Proofs.YtjifionpblpfoaaDoor

/-
  What the listed variables of layer 10 are in memory. Conditions: none.
-/
namespace Go.Proofs.YtjifionpblpfoaaDoor
open Go.RowKit Go.ChangeShapes Go.WideShapes Go.ChangeAt
open Pol (co Sm)

def laid10 : List (String × DataW Unit) := [("shroud/sha.start", Rows.laid_shroud_sha_start), ("shroud/sha.constants", Rows.laid_shroud_sha_constants)]
set_option maxRecDepth 100000 in
theorem dt_of_trod {H : Type} {enc : TypeId × Value → H} {W : World} {base : Nat} {sp : Nat → Bool} {held : Bool} {fuel : Nat} {t e : TypeId} {n : Nat} {cs : Array Value} {l : List Nat} {p : List MemPlace}
    (ht : Tryd.prog.underlying t = some (.array n e)) (he : Tryd.prog.underlying e = some (.int .u32)) (hc : Tryd.prog.cellsOf e = 1) (hn : Tryd.prog.cellsOf t = n) (hl : l.length = n)
    (h : DataW.trod enc Tryd.prog W base sp held fuel t cs.toList = some (.agg (l.map fun x : Nat => .lit (.int .u32 ((x : Nat) : Int))), p)) : cs = dt n (co l) := by
  obtain ⟨xs, m1, rfl, hx1, hlen, hlx, hel⟩ := DataW.trod_array ht h
  injection hx1 with hx1 _
  injection hx1 with hx1
  rw [hn] at hlen
  have hsz : cs.size = n := by simpa using hlen
  apply Array.ext
  · rw [dt_size, hsz]
  · intro i h1 h2
    have hi : i < n := by omega
    have he' := hel i hi
    rw [hc, Nat.mul_one] at he'
    have e1 : (cs.toList.drop i).take 1 = [cs[i]] := by
      rw [List.drop_eq_getElem_cons (by simpa using h1)]
      simp
    rw [e1, List.getElem?_eq_getElem (by omega)] at he'
    obtain ⟨k, ek, ex, _⟩ := DataW.trod_int he he'
    have hm : (l.map fun x : Nat => DataW.lit (H := H) (.int .u32 ((x : Nat) : Int)))[i]? = (xs.map (·.1))[i]? := by rw [hx1]
    rw [List.getElem?_map, List.getElem?_map, List.getElem?_eq_getElem (by omega), List.getElem?_eq_getElem (by omega)] at hm
    simp only [Option.map_some, ex] at hm
    injection hm with hm
    injection hm with hm
    injection hm with _ hm
    injection ek with ek
    have hd := dt_at n (co l) i hi
    rw [Array.getElem?_eq_getElem h2] at hd
    injection hd with hd
    rw [ek, hd, ← hm]
    unfold co
    rw [List.getElem?_eq_getElem (by omega)]
    rfl
theorem start_is : (Rows.laid_shroud_sha_start : DataW Unit) = .agg (HH.map fun x : Nat => .lit (.int .u32 ((x : Nat) : Int))) := by rw [HH_is]; rfl
set_option maxRecDepth 100000 in
theorem constants_is : (Rows.laid_shroud_sha_constants : DataW Unit) = .agg (KK.map fun x : Nat => .lit (.int .u32 ((x : Nat) : Int))) := by rw [KK_is]; rfl
theorem row_of_cell {P : Program} {W : World} {g : Nat} {n : String} {cs : Array Value} (hg : P.globalNamed n = some g) (h : W.var? P n = some cs) (hk : ∃ c t, W.heap[g]? = some (.cells c t (0, 0))) : ∃ t, W.heap[g]? = some (.cells cs t (0, 0)) := by
  obtain ⟨c, t, hc⟩ := hk
  simp only [World.var?, hg, Option.bind_some, hc] at h
  injection h with h
  subst h
  exact ⟨t, hc⟩
theorem gl_of_laid {W : World} (h : laidMetH Tryd.prog laid10 W) : GL W := by
  rw [MakeChecks.laidMetH_plain _ _ _ (by kernel_rfl)] at h
  obtain ⟨ps, ⟨g0, t0, cs0, f0, p0, q0, hg0, ht0, hv0, hd0, ⟨g1, t1, cs1, f1, p1, q1, hg1, ht1, hv1, hd1, _, hq0⟩, hps⟩, _, hall⟩ := h
  obtain rfl := Option.some.inj ((show Tryd.prog.globalNamed "shroud/sha.start" = some 0 by kernel_rfl).symm.trans hg0)
  obtain rfl := Option.some.inj ((show Tryd.prog.globalNamed "shroud/sha.constants" = some 1 by kernel_rfl).symm.trans hg1)
  obtain rfl := Option.some.inj ((show (Tryd.prog.globals[0]?).map (·.type) = some 73 by kernel_rfl).symm.trans ht0)
  obtain rfl := Option.some.inj ((show (Tryd.prog.globals[1]?).map (·.type) = some 97 by kernel_rfl).symm.trans ht1)
  rw [start_is] at hd0
  rw [constants_is] at hd1
  have e0 := dt_of_trod Tryd.underlying73 Tryd.underlying72 (by kernel_rfl) (by kernel_rfl) (by rw [HH_is]; rfl) hd0
  have e1 := dt_of_trod Tryd.underlying97 Tryd.underlying72 (by kernel_rfl) (by kernel_rfl) (by rw [KK_is]; rfl) hd1
  have m0 : MemPlace.cell 0 0 ∈ ps := by
    rw [hps, e0, dt_size]
    simp [MemPlace.row]
  have m1 : MemPlace.cell 1 0 ∈ ps := by
    rw [hps, hq0, e1, dt_size]
    simp [MemPlace.row]
  have r0 := row_of_cell hg0 hv0 (hall _ _ m0).1
  have r1 := row_of_cell hg1 hv1 (hall _ _ m1).1
  rw [e0] at r0
  rw [e1] at r1
  exact ⟨r0, r1⟩
/-- The door's own heap meets the condition. -/
theorem door_met10 (os : Os) (args : Array Value) : laidMetH Tryd.prog laid10 ((World.doorLaid Tryd.prog 1000 os).forCall (fun _ _ => 0) ⟨#[], args, []⟩).memory :=
  laidMetH_of_parts3 (fuel := 8) (laidMet_of_run' 8 (by kernel_rfl) (by kernel_rfl)) (by kernel_rfl) (by kernel_rfl)
end Go.Proofs.YtjifionpblpfoaaDoor

/-
  An argument that is a slice of bytes, or of points, reads as a list. Conditions: none.
-/
namespace Go.Proofs.YtjifionpblpfoaaDoor
open Go.RowKit
open Go.ChangeShapes Go.WideShapes Go.ChangeAt
open Pol (co Sm)

section
variable {H : Type} {enc : TypeId × Value → H} {w : World} {base : Nat} {spare : Nat → Bool} {held : Bool}
theorem open_bytes {fuel len cap : Nat} {a : Option Addr} {x : DataW H × List MemPlace} (h : DataW.trod enc Tryd.prog w base spare held fuel 23 [.slice a len cap] = some x) :
    ∃ l : List Nat, l.length = len ∧ len ≤ cap ∧ Rd w a l := by
  rcases open_ints Tryd.underlying23 Tryd.underlying5 (by kernel_rfl) h with ⟨hcs, _⟩ | ⟨a', len', cap', zs, hcs, _, hl, _, hz, _, hcell, hwz⟩
  · simp at hcs
    obtain ⟨rfl, rfl, rfl⟩ := hcs
    exact ⟨[], rfl, Nat.le_refl _, Rd.nil _ _⟩
  · simp at hcs
    obtain ⟨rfl, rfl, rfl⟩ := hcs
    have hlz : len ≤ zs.length := by rw [hz]; split <;> omega
    have hnat : ∀ i, i < zs.length → ∃ n : Nat, zs.getD i 0 = (n : Int) ∧ n < 256 := fun i hi => by
      have hm : zs.getD i 0 ∈ zs := by rw [List.getD_eq_getElem?_getD, List.getElem?_eq_getElem hi]; exact List.getElem_mem hi
      exact nat_u8 (hwz _ hm)
    refine ⟨(List.range len).map (fun i => (zs.getD i 0).toNat), by simp, hl, ?_, fun i hi => ?_⟩
    · refine Pol.co_lt_of (fun v hv => ?_)
      obtain ⟨i, hi, rfl⟩ := List.mem_map.1 hv
      obtain ⟨n, hn, hn'⟩ := hnat i (by have := List.mem_range.1 hi; omega)
      show (zs.getD i 0).toNat < 256
      rw [hn]; omega
    · have hi' : i < len := by simpa using hi
      obtain ⟨b, o, rfl, hc⟩ := ints_at hcell (by omega)
      refine ⟨b, o, rfl, ?_⟩
      rw [hc i (by omega)]
      obtain ⟨n, hn, _⟩ := hnat i (by omega)
      congr 2
      unfold co
      rw [List.getElem?_map, List.getElem?_range hi']
      show zs.getD i 0 = (((zs.getD i 0).toNat : Nat) : Int)
      rw [hn]; omega
end
end Go.Proofs.YtjifionpblpfoaaDoor

/-
  An envelope that comes in by value. Conditions: none.
-/
namespace Go.Proofs.YtjifionpblpfoaaDoor
open Go.RowKit
open Go.ChangeShapes Go.WideShapes Go.ChangeAt
open Pol (co Sm)

section
variable {H : Type} {enc : TypeId × Value → H} {w : World} {base : Nat} {spare : Nat → Bool} {held : Bool}
theorem env_bytes {fuel : Nat} {v : Value} {x : DataW H × List MemPlace} (h : DataW.trod enc Tryd.prog w base spare held fuel 23 [v] = some x) :
    ∃ (q : List Nat) (B : Option Addr) (c : Nat), v = .slice B q.length c ∧ q.length ≤ c ∧ Rd w B q := by
  obtain ⟨B, n, c, hv⟩ : ∃ B n c, v = .slice B n c := by
    rcases Go.Deep.open_slice Tryd.underlying23 h with ⟨e, _⟩ | ⟨a2, l2, c2, _, _, _, _, e, _⟩
    · exact ⟨none, 0, 0, by simpa using e⟩
    · exact ⟨some a2, l2, c2, by simpa using e⟩
  subst hv
  obtain ⟨q, hq, hqc, hqr⟩ := open_bytes h
  exact ⟨q, B, c, by rw [hq], by rw [hq]; exact hqc, hqr⟩
set_option maxRecDepth 100000 in
/-- One envelope, by its five cells. -/
theorem open_envc {fuel : Nat} {cs : List Value} {x : DataW H × List MemPlace} (h : DataW.trod enc Tryd.prog w base spare held fuel 25 cs = some x) :
    ∃ (s : Int) (n f x k c : Nat) (m : List Nat) (B : Option Addr), cs = [.int .i64 s, .int .u64 (n : Int), .int .u64 (f : Int), .int .u64 (x : Int), .slice B k c] ∧ m.length = k ∧ k ≤ c ∧ n < 18446744073709551616 ∧ f < 18446744073709551616 ∧ x < 18446744073709551616 ∧ Rd w B m := by
  obtain ⟨xs, m, _, _, hl, hxl, hf⟩ := DataW.trod_struct Tryd.underlying25 h
  have hc : cs.length = 5 := by rw [hl]; kernel_rfl
  have ci : Tryd.prog.cellsOf 3 = 1 := by kernel_rfl
  have cu : Tryd.prog.cellsOf 22 = 1 := by kernel_rfl
  have cb : Tryd.prog.cellsOf 23 = 1 := by kernel_rfl
  match cs, hc with
  | [v0, v1, v2, v3, v4], _ =>
    match xs, hxl with
    | [y0, y1, y2, y3, y4], _ =>
      have g0 := hf 0 _ rfl
      have g1 := hf 1 _ rfl
      have g2 := hf 2 _ rfl
      have g3 := hf 3 _ rfl
      have g4 := hf 4 _ rfl
      simp [ci, cu, cb] at g0 g1 g2 g3 g4
      obtain ⟨s, e0, _, _⟩ := DataW.trod_int Tryd.underlying3 g0
      obtain ⟨z1, e1, _, w1⟩ := DataW.trod_int Tryd.underlying22 g1
      obtain ⟨z2, e2, _, w2⟩ := DataW.trod_int Tryd.underlying22 g2
      obtain ⟨z3, e3, _, w3⟩ := DataW.trod_int Tryd.underlying22 g3
      obtain ⟨n, rfl, hn⟩ := nat_u64 w1
      obtain ⟨f, rfl, hff⟩ := nat_u64 w2
      obtain ⟨x, rfl, hx⟩ := nat_u64 w3
      obtain ⟨q, B, c, rfl, h1, h2⟩ := env_bytes g4
      simp only [List.cons.injEq, and_true] at e0 e1 e2 e3
      subst e0; subst e1; subst e2; subst e3
      exact ⟨s, n, f, x, q.length, c, q, B, rfl, rfl, h1, hn, hff, hx, h2⟩
set_option maxRecDepth 100000 in
/-- An envelope by value. -/
theorem open_env {r : Reach} {b0 : Nat} {v : Value} {d : DataW H} {p : List MemPlace} (hv : Value.okWide Tryd.prog w r b0 25 v) (h : DataW.Trod enc Tryd.prog w base spare held 25 v d p) :
    ∃ (s : Int) (n f x k c : Nat) (m : List Nat) (B : Option Addr), v = .agg #[.int .i64 s, .int .u64 (n : Int), .int .u64 (f : Int), .int .u64 (x : Int), .slice B k c] ∧ m.length = k ∧ k ≤ c ∧ n < 18446744073709551616 ∧ f < 18446744073709551616 ∧ x < 18446744073709551616 ∧ Rd w B m := by
  obtain ⟨cs, rfl, _⟩ := okWide_struct Tryd.underlying25 hv
  obtain ⟨fuel, hf⟩ := h
  have hf' : DataW.trod enc Tryd.prog w base spare held fuel 25 cs.toList = some (d, p) := by simpa [Value.cells] using hf
  obtain ⟨s, n, f, x, k, c, m, B, e, hm, hk, hn, hff, hx, hr⟩ := open_envc hf'
  refine ⟨s, n, f, x, k, c, m, B, ?_, hm, hk, hn, hff, hx, hr⟩
  rw [← Array.toArray_toList (xs := cs), e]
end
end Go.Proofs.YtjifionpblpfoaaDoor
