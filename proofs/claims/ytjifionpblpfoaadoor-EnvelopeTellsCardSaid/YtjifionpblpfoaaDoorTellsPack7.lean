/-
  Part 7 of the texts that the seat's proofs stand on; each part of it begins with its own sentence and conditions. Conditions: those that each theorem names.
-/
import Derived.Test.YtjifionpblpfoaaDoorTellsPack6
import Derived.ChangeKeysEq

/-
  The code's own Decode of layer 14. Conditions: no more than 2^16 bytes.
-/
namespace Go.Proofs.YtjifionpblpfoaaDoor
open Go.RowKit
open Pol (co Sm)

theorem results_tx14x {fn : Func} {p u : Tmp} (h : fn.results = #[.cell p 50, .tmp u]) (tmps : Array Value) (w : World) (g : Nat) (t : TypeId) (cs : Array Value) (fr : Nat × Nat)
    (hp : tmps.getD p undef = .pointer (some ⟨g, 0, none⟩)) (hg : w.heap[g]? = some (.cells cs t fr)) (hi : (Tryd.prog.info? 50).map (·.size) = some cs.size) :
    (results fn tmps).run Tryd.prog w = .ok (.tuple #[.agg cs, tmps.getD u undef]) w := by
  have hl := run_loadVar_row w g t 50 cs fr _ hg Tryd.underlying50 rfl hi
  rw [results_cell_tmp h, hp]
  simp [asAddr, Result.andThen, hl]
theorem dec14_pos {b : List Nat} {n : Nat} (hs : Sm b) (h : rdO b = .er n) : n ≠ 0 := by
  intro h0
  have hd : dec14 b = (n, Od.zero) := by unfold dec14; rw [h]
  have h1 := (dec_ok hs (by rw [hd]; exact h0)).1
  rw [hd] at h1
  exact absurd (show Od.zero.right from h1) (by decide)
theorem decR_no {b : List Nat} {w w' : World} {n : Nat} (h : dec14 b = (n, Od.zero)) (hx : Ext w w') : DecR b w (.returned (.tuple #[.agg #[.int .i64 0, .int .i64 0, .int .u64 0, .slice none 0 0], .int .i64 (n : Int)])) w' := by
  unfold DecR
  rw [h]
  exact ⟨hx, none, 0, 0, rfl, rfl, Nat.le_refl _, Rd.nil _ _⟩
set_option maxHeartbeats 6400000 in
set_option maxRecDepth 100000 in
theorem tx_decode (b : List Nat) (A : Option Addr) (n c : Nat) (w : World) (hn : b.length = n) (hr : Rd w A b) (hl : n ≤ 65536) :
    Calls Tryd.prog 43 #[.slice A n c] w (DecR b w) := by
  have hmf : ∀ (fn : Fn) (first cap : Array Value) (w : World), (Instr.makeFunc fn first cap).run Tryd.prog w = .ok (.func fn first cap) w := fun _ _ _ _ => rfl
  have HSB := Lib.hid hr.1
  have hx2 := ((Ext.refl w).alloc (.cells #[.int .i64 0, .int .i64 0, .int .u64 0, .slice none 0 0] 50)).alloc (.cells #[.int .i64 0, .int .i64 0, .int .u64 0, .slice none 0 0] 50)
  have hr0 : ((w.alloc (.cells #[.int .i64 0, .int .i64 0, .int .u64 0, .slice none 0 0] 50)).alloc (.cells #[.int .i64 0, .int .i64 0, .int .u64 0, .slice none 0 0] 50)).heap[w.heap.size]? = some (.cells #[.int .i64 0, .int .i64 0, .int .u64 0, .slice none 0 0] 50) := by
    rw [heap_alloc_old _ _ (by simp)]
    exact heap_alloc_new w _
  have hg0 : ((w.alloc (.cells #[.int .i64 0, .int .i64 0, .int .u64 0, .slice none 0 0] 50)).alloc (.cells #[.int .i64 0, .int .i64 0, .int .u64 0, .slice none 0 0] 50)).heap[w.heap.size + 1]? = some (.cells #[.int .i64 0, .int .i64 0, .int .u64 0, .slice none 0 0] 50) := by
    have h := heap_alloc_new (w.alloc (.cells #[.int .i64 0, .int .i64 0, .int .u64 0, .slice none 0 0] 50)) (.cells #[.int .i64 0, .int .i64 0, .int .u64 0, .slice none 0 0] 50)
    rwa [show (w.alloc (.cells #[.int .i64 0, .int .i64 0, .int .u64 0, .slice none 0 0] 50)).heap.size = w.heap.size + 1 from by simp] at h
  have hsz : ((w.alloc (.cells #[.int .i64 0, .int .i64 0, .int .u64 0, .slice none 0 0] 50)).alloc (.cells #[.int .i64 0, .int .i64 0, .int .u64 0, .slice none 0 0] 50)).heap.size = w.heap.size + 1 + 1 := by simp
  have hrd : Calls Tryd.prog 27 #[.slice A n c, .func (.func 62) #[] #[.pointer (some ⟨w.heap.size + 1, 0, none⟩)]] ((w.alloc (.cells #[.int .i64 0, .int .i64 0, .int .u64 0, .slice none 0 0] 50)).alloc (.cells #[.int .i64 0, .int .i64 0, .int .u64 0, .slice none 0 0] 50))
      (ReadE (fun hi w' y => TxJ (w.heap.size + 1 + 1) (w.heap.size + 1) b ((w.alloc (.cells #[.int .i64 0, .int .i64 0, .int .u64 0, .slice none 0 0] 50)).alloc (.cells #[.int .i64 0, .int .i64 0, .int .u64 0, .slice none 0 0] 50)) hi w' y) ((w.alloc (.cells #[.int .i64 0, .int .i64 0, .int .u64 0, .slice none 0 0] 50)).alloc (.cells #[.int .i64 0, .int .i64 0, .int .u64 0, .slice none 0 0] 50))) := by
    rw [← hn]
    refine cd_Read b A c _ _ _ _ ⟨_, _, Tryd.func62, rfl, by kernel_rfl⟩ (hr.ext hx2) (by omega) (fun hi ρ w1 hx hlo hhi hI => ?_)
    rw [hsz] at hI ⊢
    refine (tx_by (w.heap.size + 1 + 1) hi (w.heap.size + 1) _ ρ w1 b hI (hx.row hg0) (by omega) hhi HSB.out).mono fun e w2 h => ByE.mono h (fun w3 y hJ => ⟨(Only.of_ext hx).trans hJ.1, hJ.2⟩)
  have HRD := Lib.hid hrd
  have HX2 := Lib.hid hx2
  have HR0 := Lib.hid hr0
  have HSZ := Lib.hid hsz
  clear hrd hx2 hr0 hg0 hsz hr
  go_enter Tryd.func43, Tryd.ntmps43
  go_wp2_with fail
  refine HRD.out.mono ?_
  rintro e w3 ⟨hi, w2, y, hhi, ⟨ho, hm⟩, ho2, he⟩
  rw [HSZ.out] at hhi ho2
  have hb : ∀ k, (Btw (w.heap.size + 1 + 1) hi k ∨ k = w.heap.size + 1) → w.heap.size < k := fun k h => by rcases h with h | h; have := h.1; omega; omega
  have HX3 := Lib.hid ((ho.trans (ho2.mono fun _ _ h => .inl h)).ext HX2.out (fun k h => Nat.le_of_lt (hb k h)))
  have HR3 := Lib.hid ((ho.trans (ho2.mono fun _ _ h => .inl h)).row HR0.out (fun h => absurd (hb _ h) (by omega)))
  cases e1 : rdO b with
  | er n1 =>
    rw [e1] at hm
    subst hm
    obtain rfl : e = .returned (.int .i64 (n1 : Int)) := he
    have h0 := dec14_pos HSB.out e1
    have HDN := Lib.hid (fun w' (hx : Ext w w') => decR_no (show dec14 b = (n1, Od.zero) from by unfold dec14; rw [e1]) hx)
    have d1 : ((n1 : Int) == 0) = false := by simp; omega
    have d2 : ((n1 : Int) != 0) = true := by simp; omega
    have d3 : decide ((n1 : Int) = 0) = false := decide_eq_false (by omega)
    have d4 : decide (n1 = 0) = false := decide_eq_false h0
    clear ho ho2 hb e1 hhi
    have hone : (#[.int .i64 0, .int .i64 0, .int .u64 0, .slice none 0 0] : Array Value).all (·.oneCell') = true := by simp [Value.oneCell']
    have HXF := Lib.hid (HX3.out.setRow (Nat.le_refl _) #[.int .i64 0, .int .i64 0, .int .u64 0, .slice none 0 0])
    have HGF := Lib.hid (setRow_heap w3 w.heap.size _ #[.int .i64 0, .int .i64 0, .int .u64 0, .slice none 0 0] _ _ HR3.out)
    go_wp2_with (with_reducible refine wpList_store_all rfl 50 (.tmp 2) (.tmp 12) rfl w.heap.size _ #[.int .i64 0, .int .i64 0, .int .u64 0, .slice none 0 0] rfl rfl HR3.out tx_in14x tx_size14 hone ?_)
    refine bodyPost_ret (results_tx14x Tryd.results43 _ _ w.heap.size 50 _ (0, 0) rfl HGF.out tx_in14x) rfl ?_
    exact HDN.out _ HXF.out
  | ok o rest =>
    rw [e1] at hm
    obtain ⟨rfl, D, n4, c4, hrow, hn4, hc4, hD, hDb⟩ := hm
    obtain rfl : e = .returned (.int .i64 (if rest = [] then 0 else 3)) := he
    by_cases hrest : rest = []
    · rw [if_pos hrest]
      have hd : dec14 b = if o.right then (0, o) else (14, Od.zero) := by unfold dec14; rw [e1]; dsimp only; rw [if_neg (by simpa using hrest)]
      obtain ⟨ok, ot, oa, om⟩ := o
      dsimp only at hrow hn4 hD
      have hrow3 := ho2.row hrow (fun h => by have := h.1; omega)
      have HG3 := Lib.hid hrow3
      have HD3 := Lib.hid (rd_only14 hD ho2 (fun q p e h0 h => by have h1 := hDb q p e (by omega); have h2 := h.2; omega))
      have HN4 := Lib.hid (And.intro hn4 hc4)
      have HDF := Lib.hid (show ∀ q p, D = some ⟨q, p, none⟩ → 0 < om.length → q ≠ w.heap.size from fun q p e h0 => by have h1 := hDb q p e (by omega); omega)
      have HV := Lib.hid (fun u => tx_valid ok ot oa n4 c4 D u)
      rw [right_is hn4] at HV
      clear ho ho2 hb e1 hhi hrow hrow3 hD hDb hn4 hc4
      go_wp2_with (with_reducible refine wpList_load_row rfl 50 (.tmp 4) rfl (w.heap.size + 1) rfl 50 #[.int .i64 ok, .int .i64 ot, .int .u64 (oa : Int), .slice D n4 c4] (0, 0) _ HG3.out Tryd.underlying50 rfl tx_in14x ?_)
      refine (HV.out w3).mono ?_
      rintro e w4 ⟨rfl, hx4⟩
      have HX4 := Lib.hid (HX3.out.trans hx4)
      have HR4 := Lib.hid (hx4.row HR3.out)
      have HG4 := Lib.hid (hx4.row HG3.out)
      have HD4 := Lib.hid (HD3.out.ext hx4)
      clear hx4
      by_cases ho : Od.right ⟨ok, ot, oa, om⟩
      · rw [if_pos ho] at hd
        rw [decide_eq_true ho]
        have HDEC := Lib.hid hd
        clear hd
        have HSV := Lib.hid (show (#[.int .i64 0, .int .i64 0, .int .u64 0, .slice none 0 0] : Array Value).size = (#[.int .i64 ok, .int .i64 ot, .int .u64 (oa : Int), .slice D n4 c4] : Array Value).size from rfl)
        have hone : (#[.int .i64 ok, .int .i64 ot, .int .u64 (oa : Int), .slice D n4 c4] : Array Value).all (·.oneCell') = true := by simp [Value.oneCell']
        have HXF := Lib.hid (HX4.out.setRow (Nat.le_refl _) #[.int .i64 ok, .int .i64 ot, .int .u64 (oa : Int), .slice D n4 c4])
        have HGF := Lib.hid (setRow_heap w4 w.heap.size _ #[.int .i64 ok, .int .i64 ot, .int .u64 (oa : Int), .slice D n4 c4] _ _ HR4.out)
        go_wp2_with (first | (with_reducible refine wpList_load_row rfl 50 (.tmp 4) rfl (w.heap.size + 1) rfl 50 #[.int .i64 ok, .int .i64 ot, .int .u64 (oa : Int), .slice D n4 c4] (0, 0) _ HG4.out Tryd.underlying50 rfl tx_in14x ?_) | (with_reducible refine wpList_store_all rfl 50 (.tmp 2) (.tmp 18) rfl w.heap.size _ #[.int .i64 ok, .int .i64 ot, .int .u64 (oa : Int), .slice D n4 c4] rfl rfl HR4.out tx_in14x HSV.out hone ?_))
        refine bodyPost_ret (results_tx14x Tryd.results43 _ _ w.heap.size 50 _ (0, 0) rfl HGF.out tx_in14x) rfl ?_
        unfold DecR
        rw [HDEC.out]
        exact ⟨HXF.out, D, n4, c4, rfl, HN4.out.1, HN4.out.2, HD4.out.keep (grown_block w4 w.heap.size #[.int .i64 ok, .int .i64 ot, .int .u64 (oa : Int), .slice D n4 c4]) (fun q p e h0 e2 => by injection e2 with e2; exact HDF.out q p e h0 e2)⟩
      · rw [if_neg ho] at hd
        rw [decide_eq_false ho]
        have HDN := Lib.hid (fun w' (hx : Ext w w') => decR_no hd hx)
        clear hd
        have hone : (#[.int .i64 0, .int .i64 0, .int .u64 0, .slice none 0 0] : Array Value).all (·.oneCell') = true := by simp [Value.oneCell']
        have HXF := Lib.hid (HX4.out.setRow (Nat.le_refl _) #[.int .i64 0, .int .i64 0, .int .u64 0, .slice none 0 0])
        have HGF := Lib.hid (setRow_heap w4 w.heap.size _ #[.int .i64 0, .int .i64 0, .int .u64 0, .slice none 0 0] _ _ HR4.out)
        go_wp2_with (with_reducible refine wpList_store_all rfl 50 (.tmp 2) (.tmp 17) rfl w.heap.size _ #[.int .i64 0, .int .i64 0, .int .u64 0, .slice none 0 0] rfl rfl HR4.out tx_in14x tx_size14 hone ?_)
        refine bodyPost_ret (results_tx14x Tryd.results43 _ _ w.heap.size 50 _ (0, 0) rfl HGF.out tx_in14x) rfl ?_
        exact HDN.out _ HXF.out
    · rw [if_neg hrest]
      have hd : dec14 b = (3, Od.zero) := by unfold dec14; rw [e1]; dsimp only; rw [if_pos hrest]
      have HDN := Lib.hid (fun w' (hx : Ext w w') => decR_no hd hx)
      clear ho ho2 hb e1 hhi hrow hD hDb hn4 hc4 hd hrest
      have hone : (#[.int .i64 0, .int .i64 0, .int .u64 0, .slice none 0 0] : Array Value).all (·.oneCell') = true := by simp [Value.oneCell']
      have HXF := Lib.hid (HX3.out.setRow (Nat.le_refl _) #[.int .i64 0, .int .i64 0, .int .u64 0, .slice none 0 0])
      have HGF := Lib.hid (setRow_heap w3 w.heap.size _ #[.int .i64 0, .int .i64 0, .int .u64 0, .slice none 0 0] _ _ HR3.out)
      go_wp2_with (with_reducible refine wpList_store_all rfl 50 (.tmp 2) (.tmp 12) rfl w.heap.size _ #[.int .i64 0, .int .i64 0, .int .u64 0, .slice none 0 0] rfl rfl HR3.out tx_in14x tx_size14 hone ?_)
      refine bodyPost_ret (results_tx14x Tryd.results43 _ _ w.heap.size 50 _ (0, 0) rfl HGF.out tx_in14x) rfl ?_
      exact HDN.out _ HXF.out
end Go.Proofs.YtjifionpblpfoaaDoor

/-
  The code's own Open of layer 16. Conditions: no more than 2^16 bytes.
-/
namespace Go.Proofs.YtjifionpblpfoaaDoor
open Go.RowKit
open Pol (co Sm)

theorem far_of_tx {w : World} {g : Nat} {B : Option Addr} {l : List Nat} (h : Rd w B l) (hg : w.heap[g]? = some (.cells #[.int .i64 0, .int .i64 0, .int .u64 0, .slice none 0 0] 50)) : ∀ q o, B = some ⟨q, o, none⟩ → 0 < l.length → q ≠ g := fun q o e h0 e2 => by
  obtain ⟨b, o', e3, hc⟩ := h.2 0 h0
  rw [e] at e3
  injection e3 with e3
  injection e3 with e4 e5
  subst e4 e5 e2
  rw [cell_of_row _ _ _ _ _ _ hg] at hc
  match o, hc with
  | 0, hc => simp at hc
  | 1, hc => simp at hc
  | 2, hc => simp at hc
  | 3, hc => simp at hc
  | n + 4, hc => simp at hc
set_option maxHeartbeats 6400000 in
set_option maxRecDepth 100000 in
theorem ev_open (s : Int) (nn f x kb c : Nat) (b p : List Nat) (A B : Option Addr) (np cp : Nat) (w : World) (hk : b.length = kb) (hr : Rd w A b) (hp : p.length = np) (hq : Rd w B p) :
    Calls Tryd.prog 22 #[evv s nn f x A kb c, .slice B np cp] w (OdR (open16 ⟨s, nn, f, x, b⟩ p) w) := by
  have hx2 := ((Ext.refl w).alloc (.cells #[.int .i64 s, .int .u64 (nn : Int), .int .u64 (f : Int), .int .u64 (x : Int), .slice A kb c] 25)).alloc (.cells #[.int .i64 0, .int .i64 0, .int .u64 0, .slice none 0 0] 50)
  have hg0 : ((w.alloc (.cells #[.int .i64 s, .int .u64 (nn : Int), .int .u64 (f : Int), .int .u64 (x : Int), .slice A kb c] 25)).alloc (.cells #[.int .i64 0, .int .i64 0, .int .u64 0, .slice none 0 0] 50)).heap[w.heap.size]? = some (.cells #[.int .i64 s, .int .u64 (nn : Int), .int .u64 (f : Int), .int .u64 (x : Int), .slice A kb c] 25) := by
    rw [heap_alloc_old _ _ (by simp)]
    exact heap_alloc_new w _
  have hr0 : ((w.alloc (.cells #[.int .i64 s, .int .u64 (nn : Int), .int .u64 (f : Int), .int .u64 (x : Int), .slice A kb c] 25)).alloc (.cells #[.int .i64 0, .int .i64 0, .int .u64 0, .slice none 0 0] 50)).heap[w.heap.size + 1]? = some (.cells #[.int .i64 0, .int .i64 0, .int .u64 0, .slice none 0 0] 50) := by
    have h := heap_alloc_new (w.alloc (.cells #[.int .i64 s, .int .u64 (nn : Int), .int .u64 (f : Int), .int .u64 (x : Int), .slice A kb c] 25)) (.cells #[.int .i64 0, .int .i64 0, .int .u64 0, .slice none 0 0] 50)
    rwa [show (w.alloc (.cells #[.int .i64 s, .int .u64 (nn : Int), .int .u64 (f : Int), .int .u64 (x : Int), .slice A kb c] 25)).heap.size = w.heap.size + 1 from by simp] at h
  have HX := Lib.hid hx2
  have HG := Lib.hid hg0
  have HR := Lib.hid hr0
  have HK := Lib.hid hk
  have HP := Lib.hid hp
  have HB := Lib.hid hr
  have HQ := Lib.hid hq
  have HCK := Lib.hid (fun u => ev_check s nn f x kb c b A u hk)
  obtain ⟨ck, hck⟩ : ∃ q, (Ev.mk s nn f x b).chk = q := ⟨_, rfl⟩
  rw [hck] at HCK
  have HC := Lib.hid hck
  clear hx2 hg0 hr0 hr hp hq hck hk
  go_enter Tryd.func22, Tryd.ntmps22
  go_wp2_with (with_reducible refine wpList_load_row rfl 25 (.tmp 2) rfl (w.heap.size) rfl 25 #[.int .i64 s, .int .u64 (nn : Int), .int .u64 (f : Int), .int .u64 (x : Int), .slice A kb c] (0, 0) _ HG.out Tryd.underlying25 rfl ev_in16 ?_)
  refine (HCK.out _).mono ?_
  rintro e w1 ⟨rfl, hx1⟩
  replace HX := Lib.hid (HX.out.trans hx1)
  replace HR := Lib.hid (hx1.row HR.out)
  replace HG := Lib.hid (hx1.row HG.out)
  clear hx1 HCK
  by_cases hc0 : ck = 0
  rotate_left
  · skip
    have d1 : ((ck : Int) == 0) = false := by simp; omega
    have d2 : ((ck : Int) != 0) = true := by simp; omega
    have d3 : decide ((ck : Int) = 0) = false := decide_eq_false (by omega)
    have d4 : decide (ck = 0) = false := decide_eq_false (by omega)
    have HDN := Lib.hid (fun w' (hx : Ext w w') => odR_no (r := open16 ⟨s, nn, f, x, b⟩ p) (m := ck) (by rw [open16_chk (by rw [HC.out]; exact hc0), HC.out]) hx)
    have hone : (#[.int .i64 0, .int .i64 0, .int .u64 0, .slice none 0 0] : Array Value).all (·.oneCell') = true := by simp [Value.oneCell']
    have HXF := Lib.hid (HX.out.setRow (g := w.heap.size + 1) (by omega) #[.int .i64 0, .int .i64 0, .int .u64 0, .slice none 0 0])
    have HGF := Lib.hid (setRow_heap w1 (w.heap.size + 1) _ #[.int .i64 0, .int .i64 0, .int .u64 0, .slice none 0 0] _ _ HR.out)
    go_wp2_with (with_reducible refine wpList_store_all rfl 50 (.tmp 4) (.tmp 15) rfl (w.heap.size + 1) _ #[.int .i64 0, .int .i64 0, .int .u64 0, .slice none 0 0] rfl rfl HR.out tx_in16x tx_size14 hone ?_)
    refine bodyPost_ret (results_tx14x Tryd.results22 _ _ (w.heap.size + 1) 50 _ (0, 0) rfl HGF.out tx_in16x) rfl ?_
    exact HDN.out _ HXF.out
  subst hc0
  have hok := Ev.chk_ok.1 HC.out
  have hb1 : 1 ≤ kb := by have h := hok.2.2.2.1; dsimp only at h; rw [HK.out] at h; exact h
  have hb2 : kb ≤ 32 := by have h := hok.2.2.2.2; dsimp only at h; rw [HK.out] at h; exact h
  have q4 := cell_of_row _ w.heap.size 4 _ _ _ HG.out
  clear hok
  by_cases hnp : np = kb
  rotate_left
  · have HSE := Lib.hid (show Calls Tryd.prog 41 #[.slice A kb c, .slice B np cp] w1 (GivesE [] 1 w1) from j_seal _ _ _ _ w1 (j_sum_no kb np A B c cp w1 (fun h => hnp h.symm)))
    unfold GivesE at HSE
    go_wp2_with fail
    refine HSE.out.mono ?_
    rintro e w2 ⟨v2, rfl, hs2, hx2⟩
    replace HX := Lib.hid (HX.out.trans hx2)
    replace HR := Lib.hid (hx2.row HR.out)
    obtain ⟨B2, c2, rfl, _, _⟩ := hs2
    clear hx2 q4
    have HDN := Lib.hid (fun w' (hx : Ext w w') => odR_no (r := open16 ⟨s, nn, f, x, b⟩ p) (m := 1) (open16_len (e := ⟨s, nn, f, x, b⟩) (p := p) HC.out (by dsimp only; rw [HP.out, HK.out]; exact hnp)) hx)
    have hone : (#[.int .i64 0, .int .i64 0, .int .u64 0, .slice none 0 0] : Array Value).all (·.oneCell') = true := by simp [Value.oneCell']
    have HXF := Lib.hid (HX.out.setRow (g := w.heap.size + 1) (by omega) #[.int .i64 0, .int .i64 0, .int .u64 0, .slice none 0 0])
    have HGF := Lib.hid (setRow_heap w2 (w.heap.size + 1) _ #[.int .i64 0, .int .i64 0, .int .u64 0, .slice none 0 0] _ _ HR.out)
    go_wp2_with (with_reducible refine wpList_store_all rfl 50 (.tmp 4) (.tmp 26) rfl (w.heap.size + 1) _ #[.int .i64 0, .int .i64 0, .int .u64 0, .slice none 0 0] rfl rfl HR.out tx_in16x tx_size14 hone ?_)
    refine bodyPost_ret (results_tx14x Tryd.results22 _ _ (w.heap.size + 1) 50 _ (0, 0) rfl HGF.out tx_in16x) rfl ?_
    exact HDN.out _ HXF.out
  subst hnp
  have HPL := Lib.hid (show p.length = (Ev.mk s nn f x b).b.length from HP.out.trans HK.out.symm)
  have HSE := Lib.hid (show Calls Tryd.prog 41 #[.slice A np c, .slice B np cp] w1 (GivesE (lx b p) 0 w1) from by
    have h := j_seal _ _ _ _ w1 (j_sum b p A B c cp w1 (HB.out.ext HX.out) (HQ.out.ext HX.out) (by rw [HK.out]; omega) (by rw [HK.out, HP.out]))
    rwa [HK.out, HP.out] at h)
  unfold GivesE at HSE
  go_wp2_with fail
  refine HSE.out.mono ?_
  rintro e w2 ⟨v2, rfl, hs2, hx2⟩
  replace HX := Lib.hid (HX.out.trans hx2)
  replace HR := Lib.hid (hx2.row HR.out)
  obtain ⟨B2, c2, rfl, hc2, hr2⟩ := hs2
  have hll : (lx b p).length = np := by rw [lx_len, HK.out]
  have HST := Lib.hid (j_strip (lx b p) B2 c2 w2 hr2 hc2 (by rw [hll]; exact ⟨hb1, by omega⟩))
  rw [hll] at HST ⊢
  have HSM := Lib.hid hr2.1
  clear hx2 q4 HSE hc2 hr2 HG
  go_wp2_with fail
  refine HST.out.mono ?_
  rintro e w3 (⟨ht, v3, rfl, hs3, hx3⟩ | ⟨ht, v3, rfl, hs3, hx3⟩)
  rotate_left
  · replace HX := Lib.hid (HX.out.trans hx3)
    replace HR := Lib.hid (hx3.row HR.out)
    obtain ⟨B3, c3, rfl, _, _⟩ := hs3
    clear hx3 HST
    have HDN := Lib.hid (fun w' (hx : Ext w w') => odR_no (r := open16 ⟨s, nn, f, x, b⟩ p) (m := 15) (open16_tail HC.out HPL.out ht) hx)
    have hone : (#[.int .i64 0, .int .i64 0, .int .u64 0, .slice none 0 0] : Array Value).all (·.oneCell') = true := by simp [Value.oneCell']
    have HXF := Lib.hid (HX.out.setRow (g := w.heap.size + 1) (by omega) #[.int .i64 0, .int .i64 0, .int .u64 0, .slice none 0 0])
    have HGF := Lib.hid (setRow_heap w3 (w.heap.size + 1) _ #[.int .i64 0, .int .i64 0, .int .u64 0, .slice none 0 0] _ _ HR.out)
    go_wp2_with (with_reducible refine wpList_store_all rfl 50 (.tmp 4) (.tmp 35) rfl (w.heap.size + 1) _ #[.int .i64 0, .int .i64 0, .int .u64 0, .slice none 0 0] rfl rfl HR.out tx_in16x tx_size14 hone ?_)
    refine bodyPost_ret (results_tx14x Tryd.results22 _ _ (w.heap.size + 1) 50 _ (0, 0) rfl HGF.out tx_in16x) rfl ?_
    exact HDN.out _ HXF.out
  replace HX := Lib.hid (HX.out.trans hx3)
  replace HR := Lib.hid (hx3.row HR.out)
  obtain ⟨B3, c3, rfl, hc3, hr3⟩ := hs3
  have hsl : (strp (lx b p)).length ≤ 32 := by rw [strp_len]; have h1 := ht.1; rw [hll] at h1; omega
  have HOD := Lib.hid (open16_dec (e := ⟨s, nn, f, x, b⟩) (p := p) HC.out HPL.out ht)
  obtain ⟨T3, hT3⟩ : ∃ q, strp (lx b p) = q := ⟨_, rfl⟩
  rw [show strp (lx (Ev.mk s nn f x b).b p) = T3 from hT3] at HOD
  rw [hT3] at hr3 hc3 hsl ⊢
  obtain ⟨n3, hn3⟩ : ∃ q, T3.length = q := ⟨_, rfl⟩
  rw [hn3] at hc3 hsl ⊢
  have HDE := Lib.hid (tx_decode T3 B3 n3 c3 w3 hn3 hr3 (by omega))
  unfold DecR at HDE
  clear hx3 HST hr3 hc3 ht hT3 hn3 hsl hll
  go_wp2_with fail
  refine HDE.out.mono ?_
  rintro e w4 ⟨hx4, B4, k4, c4, rfl, hk4, hc4, hr4⟩
  replace HX := Lib.hid (HX.out.trans hx4)
  replace HR := Lib.hid (hx4.row HR.out)
  obtain ⟨dc, hdc⟩ : ∃ q, dec14 T3 = q := ⟨_, rfl⟩
  rw [hdc] at hk4 hr4 HOD ⊢
  obtain ⟨z, ok, ot, oa, om⟩ := dc
  dsimp only at hk4 hr4 HOD ⊢
  have HFF := Lib.hid (far_of_tx hr4 HR.out)
  have hxa := (Ext.refl w4).alloc (.cells #[.int .i64 ok, .int .i64 ot, .int .u64 (oa : Int), .slice B4 k4 c4] 50)
  have HZ4 := Lib.hid (heap_alloc_new w4 (.cells #[.int .i64 0, .int .i64 0, .int .u64 0, .slice none 0 0] 50))
  have HSV := Lib.hid (show (#[.int .i64 0, .int .i64 0, .int .u64 0, .slice none 0 0] : Array Value).size = (#[.int .i64 ok, .int .i64 ot, .int .u64 (oa : Int), .slice B4 k4 c4] : Array Value).size from rfl)
  have hone5 : (#[.int .i64 ok, .int .i64 ot, .int .u64 (oa : Int), .slice B4 k4 c4] : Array Value).all (·.oneCell') = true := by simp [Value.oneCell']
  have HXa := Lib.hid (HX.out.trans hxa)
  have HRa := Lib.hid (hxa.row HR.out)
  have HVa := Lib.hid (heap_alloc_new w4 (.cells #[.int .i64 ok, .int .i64 ot, .int .u64 (oa : Int), .slice B4 k4 c4] 50))
  have HBa := Lib.hid (hr4.ext hxa)
  have HK4 := Lib.hid (And.intro hk4 hc4)
  clear hx4 hk4 hc4 hr4 hdc hxa HDE
  by_cases hz : z = 0
  · subst hz
    have hod := HOD.out
    rw [if_neg (by simp)] at hod
    have HDN := Lib.hid hod
    clear hod
    have HXF := Lib.hid (HXa.out.setRow (g := w.heap.size + 1) (by omega) #[.int .i64 ok, .int .i64 ot, .int .u64 (oa : Int), .slice B4 k4 c4])
    have HGF := Lib.hid (setRow_heap _ (w.heap.size + 1) _ #[.int .i64 ok, .int .i64 ot, .int .u64 (oa : Int), .slice B4 k4 c4] _ _ HRa.out)
    go_wp2_with (first | (with_reducible refine wpList_store_all rfl 50 (.tmp 10) (.tmp 39) rfl w4.heap.size _ #[.int .i64 ok, .int .i64 ot, .int .u64 (oa : Int), .slice B4 k4 c4] rfl rfl HZ4.out tx_in16x HSV.out hone5 ?_; rw [World.setRow_alloc_new]) | (with_reducible refine wpList_load_row rfl 50 (.tmp 10) rfl (w4.heap.size) rfl 50 #[.int .i64 ok, .int .i64 ot, .int .u64 (oa : Int), .slice B4 k4 c4] (0, 0) _ HVa.out Tryd.underlying50 rfl tx_in16x ?_) | (with_reducible refine wpList_store_all rfl 50 (.tmp 4) (.tmp 44) rfl (w.heap.size + 1) _ #[.int .i64 ok, .int .i64 ot, .int .u64 (oa : Int), .slice B4 k4 c4] rfl rfl HRa.out tx_in16x HSV.out hone5 ?_))
    refine bodyPost_ret (results_tx14x Tryd.results22 _ _ (w.heap.size + 1) 50 _ (0, 0) rfl HGF.out tx_in16x) rfl ?_
    unfold OdR
    rw [HDN.out]
    exact ⟨HXF.out, B4, k4, c4, rfl, HK4.out.1, HK4.out.2, HBa.out.keep (grown_block _ (w.heap.size + 1) #[.int .i64 ok, .int .i64 ot, .int .u64 (oa : Int), .slice B4 k4 c4]) (fun q o e h0 e2 => by injection e2 with e2; exact HFF.out q o e h0 e2)⟩
  · have hod := HOD.out
    rw [if_pos hz] at hod
    have HMN := Lib.hid hod
    have d1 : ((z : Int) == 0) = false := by simp; omega
    have d2 : ((z : Int) != 0) = true := by simp; omega
    have d3 : decide ((z : Int) = 0) = false := decide_eq_false (by omega)
    have d4 : decide (z = 0) = false := decide_eq_false (by omega)
    clear hod hz
    have HDN := Lib.hid (fun w' (hx : Ext w w') => odR_no (r := open16 ⟨s, nn, f, x, b⟩ p) (m := 15) (HMN.out) hx)
    have hone : (#[.int .i64 0, .int .i64 0, .int .u64 0, .slice none 0 0] : Array Value).all (·.oneCell') = true := by simp [Value.oneCell']
    have HXF := Lib.hid (HXa.out.setRow (g := w.heap.size + 1) (by omega) #[.int .i64 0, .int .i64 0, .int .u64 0, .slice none 0 0])
    have HGF := Lib.hid (setRow_heap _ (w.heap.size + 1) _ #[.int .i64 0, .int .i64 0, .int .u64 0, .slice none 0 0] _ _ HRa.out)
    go_wp2_with (first | (with_reducible refine wpList_store_all rfl 50 (.tmp 10) (.tmp 39) rfl w4.heap.size _ #[.int .i64 ok, .int .i64 ot, .int .u64 (oa : Int), .slice B4 k4 c4] rfl rfl HZ4.out tx_in16x HSV.out hone5 ?_; rw [World.setRow_alloc_new]) | (with_reducible refine wpList_store_all rfl 50 (.tmp 4) (.tmp 43) rfl (w.heap.size + 1) _ #[.int .i64 0, .int .i64 0, .int .u64 0, .slice none 0 0] rfl rfl HRa.out tx_in16x tx_size14 hone ?_))
    refine bodyPost_ret (results_tx14x Tryd.results22 _ _ (w.heap.size + 1) 50 _ (0, 0) rfl HGF.out tx_in16x) rfl ?_
    exact HDN.out _ HXF.out
end Go.Proofs.YtjifionpblpfoaaDoor

/-
  Layer 16's own functions check, make and open envelopes as they are to. Conditions: those of EnvMk.
-/
namespace Go.Proofs.YtjifionpblpfoaaDoor
open Go.RowKit
open Pol (co Sm)

theorem envMk : EnvMk where
  check := fun s n f x k c b A w hk _ _ _ _ _ _ => ev_check s n f x k c b A w hk
  make := fun s nn f x k t a n c m p A B np cp w hn _ hr hl ha hp _ hq hlp _ _ _ => ev_make s nn f x k t a n c m p A B np cp w hn hr hl ha hp hq hlp
  opens := fun s nn f x kb c b p A B np cp w hk _ hr _ hp _ hq _ _ _ _ => ev_open s nn f x kb c b p A B np cp w hk hr hp hq
end Go.Proofs.YtjifionpblpfoaaDoor

/-
  What the code's own Decode of layer 16 reads. Conditions: no more than 2^16 bytes.
-/
namespace Go.Proofs.YtjifionpblpfoaaDoor
open Go.RowKit
open Pol (co Sm)

/-- What holds while an envelope is read into block g. -/
structure ES (lo hi g : Nat) (B : Option Addr) (ρ : Addr) (w : World) (v0 v1 v2 v3 v4 : Value) (rest : List Nat) (w' : World) : Prop where
  ri : rdr.RI lo hi B ρ w' rest
  row : w'.heap[g]? = some (.cells #[v0, v1, v2, v3, v4] 25)
  only : Only (fun k => Btw lo hi k ∨ k = g) w w'
  size : hi ≤ w'.heap.size
  far : g < lo
section
variable {lo hi g : Nat} {B : Option Addr} {ρ : Addr} {w w1 w2 : World} {v0 v1 v2 v3 v4 : Value} {rest rest' : List Nat}
theorem ES.reads (h : ES lo hi g B ρ w v0 v1 v2 v3 v4 rest w1) (ho : Only (Btw lo hi) w1 w2) (hr : rdr.RI lo hi B ρ w2 rest') : ES lo hi g B ρ w v0 v1 v2 v3 v4 rest' w2 :=
  ⟨hr, (ho.block g (row_lt h.row) (fun hb => by have h1 := hb.1; have h2 := h.far; omega)).trans h.row, h.only.trans (ho.mono fun _ _ hb => .inl hb), Nat.le_trans h.size ho.size, h.far⟩
theorem ES.keepR (h : ES lo hi g B ρ w v0 v1 v2 v3 v4 rest w1) (o : Nat) (v : Value) : rdr.RI lo hi B ρ (w1.setCell ⟨g, o, none⟩ v) rest :=
  cd_keep lo hi B ρ w1 _ rest h.ri (fun k hk => Below.heap_setCell _ _ _ k (fun e => by have e : k = g := e; have h1 := hk.1; have h2 := h.far; omega))
theorem ES.keepO (h : ES lo hi g B ρ w v0 v1 v2 v3 v4 rest w1) (o : Nat) (v : Value) : Only (fun k => Btw lo hi k ∨ k = g) w (w1.setCell ⟨g, o, none⟩ v) :=
  h.only.trans (Only.of_grown (grown_set' w1 g o v) (fun k e => by injection e with e; exact .inr e.symm))
theorem ES.keepS (h : ES lo hi g B ρ w v0 v1 v2 v3 v4 rest w1) (o : Nat) (v : Value) : hi ≤ (w1.setCell ⟨g, o, none⟩ v).heap.size := Nat.le_trans h.size (grown_set' w1 g o v).size
theorem ES.set0 (h : ES lo hi g B ρ w v0 v1 v2 v3 v4 rest w1) (v : Value) : ES lo hi g B ρ w v v1 v2 v3 v4 rest (w1.setCell ⟨g, 0, none⟩ v) := ⟨h.keepR 0 v, heap_setCell_same w1 g 0 _ _ v h.row, h.keepO 0 v, h.keepS 0 v, h.far⟩
theorem ES.set1 (h : ES lo hi g B ρ w v0 v1 v2 v3 v4 rest w1) (v : Value) : ES lo hi g B ρ w v0 v v2 v3 v4 rest (w1.setCell ⟨g, 1, none⟩ v) := ⟨h.keepR 1 v, heap_setCell_same w1 g 1 _ _ v h.row, h.keepO 1 v, h.keepS 1 v, h.far⟩
theorem ES.set2 (h : ES lo hi g B ρ w v0 v1 v2 v3 v4 rest w1) (v : Value) : ES lo hi g B ρ w v0 v1 v v3 v4 rest (w1.setCell ⟨g, 2, none⟩ v) := ⟨h.keepR 2 v, heap_setCell_same w1 g 2 _ _ v h.row, h.keepO 2 v, h.keepS 2 v, h.far⟩
theorem ES.set3 (h : ES lo hi g B ρ w v0 v1 v2 v3 v4 rest w1) (v : Value) : ES lo hi g B ρ w v0 v1 v2 v v4 rest (w1.setCell ⟨g, 3, none⟩ v) := ⟨h.keepR 3 v, heap_setCell_same w1 g 3 _ _ v h.row, h.keepO 3 v, h.keepS 3 v, h.far⟩
theorem ES.set4 (h : ES lo hi g B ρ w v0 v1 v2 v3 v4 rest w1) (v : Value) : ES lo hi g B ρ w v0 v1 v2 v3 v rest (w1.setCell ⟨g, 4, none⟩ v) := ⟨h.keepR 4 v, heap_setCell_same w1 g 4 _ _ v h.row, h.keepO 4 v, h.keepS 4 v, h.far⟩
end
/-- What the reading leaves. -/
def EvJ (lo g : Nat) (b : List Nat) (w : World) (hi : Nat) (w' : World) (y : By) : Prop :=
  Only (fun k => Btw lo hi k ∨ k = g) w w' ∧ match rdE b with
    | .ok e rest => y = .done rest ∧ ∃ v, w'.heap[g]? = some (.cells #[.int .i64 e.s, .int .u64 ((e.n : Nat) : Int), .int .u64 ((e.f : Nat) : Int), .int .u64 ((e.x : Nat) : Int), v] 25) ∧ Mine w' hi v e.b
    | .er n => y = .fails n
set_option maxHeartbeats 6400000 in
set_option maxRecDepth 100000 in
theorem ev_by (lo hi g : Nat) (B : Option Addr) (ρ : Addr) (w : World) (b : List Nat) (hI : rdr.RI lo hi B ρ w b) (hrow : w.heap[g]? = some (.cells #[.int .i64 0, .int .u64 0, .int .u64 0, .int .u64 0, .slice none 0 0] 25)) (hg : g < lo) (hs : hi ≤ w.heap.size) (hsm : Sm b) :
    Calls Tryd.prog 28 #[.pointer (some ρ), .pointer (some ⟨g, 0, none⟩)] w (ByE rdr lo hi B ρ (EvJ lo g b w)) := by
  have H0 := Lib.hid (show ES lo hi g B ρ w (.int .i64 0) (.int .u64 0) (.int .u64 0) (.int .u64 0) (.slice none 0 0) b w from ⟨hI, hrow, ⟨rfl, rfl, rfl, Nat.le_refl _, fun _ _ _ => rfl⟩, hs, hg⟩)
  have HSB := Lib.hid hsm
  clear hI hrow hg hs hsm
  go_enter Tryd.func28, Tryd.ntmps28
  go_wp2_with fail
  refine (cd_Count lo hi B ρ w b 5 H0.out.ri (by decide)).mono ?_
  rintro e w1 ⟨ho, h⟩
  cases e1 : rdN 5 b with
  | er n1 =>
    rw [e1] at h
    obtain ⟨ch, rfl, hst⟩ := h
    have hd : rdE b = .er n1 := by unfold rdE; rw [e1]; rfl
    exact ⟨rfl, .inr (.inl ⟨n1, ch, rfl, hst, ho.mono fun _ _ h => .inl h, by rw [hd]⟩)⟩
  | ok k1 b1 =>
    rw [e1] at h
    obtain ⟨v, rfl, rfl, hi1⟩ := h
    obtain ⟨q1, f1, _⟩ := vn_rdN HSB.out e1
    have hs1 : Sm b1 := (sm_split (q1 ▸ HSB.out)).2
    have H1 := Lib.hid (H0.out.reads ho hi1)
    have HS1 := Lib.hid hs1
    have HE1 := Lib.hid e1
    have c1 := cell_of_row _ g 0 _ _ _ H1.out.row
    have z1 := frozen_of_row _ g 0 _ _ H1.out.row
    have x1 : IntKind.i64.wrap (k1 : Int) = (k1 : Int) := by rw [IntKind.wrap_i64]; omega
    have J1 := Lib.hid (H1.out.set0 (.int .i64 (k1 : Int)))
    clear ho hi1 hs1 q1 f1 e1
    go_wp2_with fail
    generalize w1.setCell ⟨g, 0, none⟩ (.int .i64 (k1 : Int)) = wa at J1 ⊢
    clear c1 z1 x1 H1
    refine (cd_Number lo hi B ρ wa b1 18446744073709551615 J1.out.ri).mono ?_
    rintro e w2 ⟨ho, h⟩
    cases e2 : rdN 18446744073709551615 b1 with
    | er n1 =>
      rw [e2] at h
      obtain ⟨ch, rfl, hst⟩ := h
      have hd : rdE b = .er n1 := by unfold rdE; rw [HE1.out]; show ((rdN _ b1).bind _ : Rs Ev) = _; rw [e2]; rfl
      exact ⟨rfl, .inr (.inl ⟨n1, ch, rfl, hst, J1.out.only.trans (ho.mono fun _ _ h => .inl h), by rw [hd]⟩)⟩
    | ok k2 b2 =>
      rw [e2] at h
      obtain ⟨v, rfl, rfl, hi1⟩ := h
      obtain ⟨q1, f1, _⟩ := vn_rdN HS1.out e2
      have hs1 : Sm b2 := (sm_split (q1 ▸ HS1.out)).2
      have H2 := Lib.hid (J1.out.reads ho hi1)
      have HS2 := Lib.hid hs1
      have HE2 := Lib.hid e2
      have c1 := cell_of_row _ g 1 _ _ _ H2.out.row
      have z1 := frozen_of_row _ g 1 _ _ H2.out.row
      have J2 := Lib.hid (H2.out.set1 (.int .u64 (k2 : Int)))
      clear ho hi1 hs1 q1 f1 e2
      go_wp2_with fail
      generalize w2.setCell ⟨g, 1, none⟩ (.int .u64 (k2 : Int)) = wb at J2 ⊢
      clear c1 z1 H2 J1
      refine (cd_Number lo hi B ρ wb b2 1152921504606846976 J2.out.ri).mono ?_
      rintro e w3 ⟨ho, h⟩
      cases e3 : rdN 1152921504606846976 b2 with
      | er n1 =>
        rw [e3] at h
        obtain ⟨ch, rfl, hst⟩ := h
        have hd : rdE b = .er n1 := by unfold rdE; rw [HE1.out]; show ((rdN _ b1).bind _ : Rs Ev) = _; rw [HE2.out]; show ((rdN _ b2).bind _ : Rs Ev) = _; rw [e3]; rfl
        exact ⟨rfl, .inr (.inl ⟨n1, ch, rfl, hst, J2.out.only.trans (ho.mono fun _ _ h => .inl h), by rw [hd]⟩)⟩
      | ok k3 b3 =>
        rw [e3] at h
        obtain ⟨v, rfl, rfl, hi1⟩ := h
        obtain ⟨q1, f1, _⟩ := vn_rdN HS2.out e3
        have hs1 : Sm b3 := (sm_split (q1 ▸ HS2.out)).2
        have H3 := Lib.hid (J2.out.reads ho hi1)
        have HS3 := Lib.hid hs1
        have HE3 := Lib.hid e3
        have c1 := cell_of_row _ g 2 _ _ _ H3.out.row
        have z1 := frozen_of_row _ g 2 _ _ H3.out.row
        have J3 := Lib.hid (H3.out.set2 (.int .u64 (k3 : Int)))
        clear ho hi1 hs1 q1 f1 e3
        go_wp2_with fail
        generalize w3.setCell ⟨g, 2, none⟩ (.int .u64 (k3 : Int)) = wc at J3 ⊢
        clear c1 z1 H3 J2
        refine (cd_Number lo hi B ρ wc b3 18446744073709551615 J3.out.ri).mono ?_
        rintro e w4 ⟨ho, h⟩
        cases e4 : rdN 18446744073709551615 b3 with
        | er n1 =>
          rw [e4] at h
          obtain ⟨ch, rfl, hst⟩ := h
          have hd : rdE b = .er n1 := by unfold rdE; rw [HE1.out]; show ((rdN _ b1).bind _ : Rs Ev) = _; rw [HE2.out]; show ((rdN _ b2).bind _ : Rs Ev) = _; rw [HE3.out]; show ((rdN _ b3).bind _ : Rs Ev) = _; rw [e4]; rfl
          exact ⟨rfl, .inr (.inl ⟨n1, ch, rfl, hst, J3.out.only.trans (ho.mono fun _ _ h => .inl h), by rw [hd]⟩)⟩
        | ok k4 b4 =>
          rw [e4] at h
          obtain ⟨v, rfl, rfl, hi1⟩ := h
          obtain ⟨q1, f1, _⟩ := vn_rdN HS3.out e4
          have hs1 : Sm b4 := (sm_split (q1 ▸ HS3.out)).2
          have H4 := Lib.hid (J3.out.reads ho hi1)
          have HS4 := Lib.hid hs1
          have HE4 := Lib.hid e4
          have c1 := cell_of_row _ g 3 _ _ _ H4.out.row
          have z1 := frozen_of_row _ g 3 _ _ H4.out.row
          have J4 := Lib.hid (H4.out.set3 (.int .u64 (k4 : Int)))
          clear ho hi1 hs1 q1 f1 e4
          go_wp2_with fail
          generalize w4.setCell ⟨g, 3, none⟩ (.int .u64 (k4 : Int)) = wd at J4 ⊢
          clear c1 z1 H4 J3
          refine (cd_TextM lo hi B ρ wd b4 32 J4.out.ri (by decide)).mono ?_
          rintro e w5 ⟨ho, h⟩
          cases e5 : rdT 32 b4 with
          | er n1 =>
            rw [e5] at h
            obtain ⟨ch, rfl, hst⟩ := h
            have hd : rdE b = .er n1 := by unfold rdE; rw [HE1.out]; show ((rdN _ b1).bind _ : Rs Ev) = _; rw [HE2.out]; show ((rdN _ b2).bind _ : Rs Ev) = _; rw [HE3.out]; show ((rdN _ b3).bind _ : Rs Ev) = _; rw [HE4.out]; show ((rdT _ b4).bind _ : Rs Ev) = _; rw [e5]; rfl
            exact ⟨rfl, .inr (.inl ⟨n1, ch, rfl, hst, J4.out.only.trans (ho.mono fun _ _ h => .inl h), by rw [hd]⟩)⟩
          | ok m5 b5 =>
            rw [e5] at h
            obtain ⟨v5, rfl, ⟨hm, hsm⟩, hi5⟩ := h
            obtain ⟨D5, c5, rfl, _, _⟩ := hm.slice hsm
            obtain ⟨n5, hn5⟩ : ∃ q, m5.length = q := ⟨_, rfl⟩
            rw [hn5] at hm ⊢
            have H5 := Lib.hid (J4.out.reads ho hi5)
            have hd : rdE b = .ok ⟨(k1 : Int), k2, k3, k4, m5⟩ b5 := by unfold rdE; rw [HE1.out]; show ((rdN _ b1).bind _ : Rs Ev) = _; rw [HE2.out]; show ((rdN _ b2).bind _ : Rs Ev) = _; rw [HE3.out]; show ((rdN _ b3).bind _ : Rs Ev) = _; rw [HE4.out]; show ((rdT _ b4).bind _ : Rs Ev) = _; rw [e5]; rfl
            have HDD := Lib.hid hd
            have c1 := cell_of_row _ g 4 _ _ _ H5.out.row
            have z1 := frozen_of_row _ g 4 _ _ H5.out.row
            have H5x := Lib.hid (H5.out.set4 (.slice D5 n5 c5))
            have HGL := Lib.hid (show g < wd.heap.size from row_lt J4.out.row)
            have HLO := Lib.hid (J4.out.size)
            have HM := Lib.hid (show Mine (w5.setCell ⟨g, 4, none⟩ (.slice D5 n5 c5)) hi (.slice D5 n5 c5) m5 from (hm.only (X := fun q => q = g) (Only.of_grown (grown_set' w5 g 4 (.slice D5 n5 c5)) (fun q e => by injection e with e; exact e.symm)) (fun q e e2 => by have e3 : q = g := e2; have h1 := (hm.block q e).1; have := HGL.out; omega)).down HLO.out)
            clear ho hi5 hm hsm hd e5 hn5
            go_wp2
            go_end0
            exact .inl ⟨b5, _, rfl, H5x.out.ri, H5x.out.only, by rw [HDD.out]; exact ⟨rfl, _, H5x.out.row, HM.out⟩⟩
end Go.Proofs.YtjifionpblpfoaaDoor

/-
  The code's own Decode of layer 16. Conditions: no more than 2^16 bytes.
-/
namespace Go.Proofs.YtjifionpblpfoaaDoor
open Go.RowKit
open Pol (co Sm)

theorem dec16_pos {b : List Nat} {n : Nat} (hs : Sm b) (h : rdE b = .er n) : n ≠ 0 := by
  intro h0
  have hd : dec16 b = (n, Ev.zero) := by unfold dec16; rw [h]
  have h1 := (dec16_ok hs (by rw [hd]; exact h0)).1
  rw [hd] at h1
  have h2 : 1 ≤ Ev.zero.b.length := h1.2.2.2.1
  exact absurd h2 (by decide)
theorem decO_no {b : List Nat} {w w' : World} {n : Nat} (h : dec16 b = (n, Ev.zero)) (hx : Ext w w') : DecO b w (.returned (.tuple #[.agg #[.int .i64 0, .int .u64 0, .int .u64 0, .int .u64 0, .slice none 0 0], .int .i64 (n : Int)])) w' := by
  unfold DecO
  rw [h]
  exact ⟨_, rfl, Mine.nil _ _, hx⟩
set_option maxHeartbeats 6400000 in
set_option maxRecDepth 100000 in
theorem ev_decode (b : List Nat) (A : Option Addr) (n c : Nat) (w : World) (hn : b.length = n) (hr : Rd w A b) (hl : n ≤ 65536) :
    Calls Tryd.prog 10 #[.slice A n c] w (DecO b w) := by
  have hmf : ∀ (fn : Fn) (first cap : Array Value) (w : World), (Instr.makeFunc fn first cap).run Tryd.prog w = .ok (.func fn first cap) w := fun _ _ _ _ => rfl
  have HSB := Lib.hid hr.1
  have hx2 := ((Ext.refl w).alloc (.cells #[.int .i64 0, .int .u64 0, .int .u64 0, .int .u64 0, .slice none 0 0] 25)).alloc (.cells #[.int .i64 0, .int .u64 0, .int .u64 0, .int .u64 0, .slice none 0 0] 25)
  have hr0 : ((w.alloc (.cells #[.int .i64 0, .int .u64 0, .int .u64 0, .int .u64 0, .slice none 0 0] 25)).alloc (.cells #[.int .i64 0, .int .u64 0, .int .u64 0, .int .u64 0, .slice none 0 0] 25)).heap[w.heap.size]? = some (.cells #[.int .i64 0, .int .u64 0, .int .u64 0, .int .u64 0, .slice none 0 0] 25) := by
    rw [heap_alloc_old _ _ (by simp)]
    exact heap_alloc_new w _
  have hg0 : ((w.alloc (.cells #[.int .i64 0, .int .u64 0, .int .u64 0, .int .u64 0, .slice none 0 0] 25)).alloc (.cells #[.int .i64 0, .int .u64 0, .int .u64 0, .int .u64 0, .slice none 0 0] 25)).heap[w.heap.size + 1]? = some (.cells #[.int .i64 0, .int .u64 0, .int .u64 0, .int .u64 0, .slice none 0 0] 25) := by
    have h := heap_alloc_new (w.alloc (.cells #[.int .i64 0, .int .u64 0, .int .u64 0, .int .u64 0, .slice none 0 0] 25)) (.cells #[.int .i64 0, .int .u64 0, .int .u64 0, .int .u64 0, .slice none 0 0] 25)
    rwa [show (w.alloc (.cells #[.int .i64 0, .int .u64 0, .int .u64 0, .int .u64 0, .slice none 0 0] 25)).heap.size = w.heap.size + 1 from by simp] at h
  have hsz : ((w.alloc (.cells #[.int .i64 0, .int .u64 0, .int .u64 0, .int .u64 0, .slice none 0 0] 25)).alloc (.cells #[.int .i64 0, .int .u64 0, .int .u64 0, .int .u64 0, .slice none 0 0] 25)).heap.size = w.heap.size + 1 + 1 := by simp
  have hrd : Calls Tryd.prog 27 #[.slice A n c, .func (.func 28) #[] #[.pointer (some ⟨w.heap.size + 1, 0, none⟩)]] ((w.alloc (.cells #[.int .i64 0, .int .u64 0, .int .u64 0, .int .u64 0, .slice none 0 0] 25)).alloc (.cells #[.int .i64 0, .int .u64 0, .int .u64 0, .int .u64 0, .slice none 0 0] 25))
      (ReadE (fun hi w' y => EvJ (w.heap.size + 1 + 1) (w.heap.size + 1) b ((w.alloc (.cells #[.int .i64 0, .int .u64 0, .int .u64 0, .int .u64 0, .slice none 0 0] 25)).alloc (.cells #[.int .i64 0, .int .u64 0, .int .u64 0, .int .u64 0, .slice none 0 0] 25)) hi w' y) ((w.alloc (.cells #[.int .i64 0, .int .u64 0, .int .u64 0, .int .u64 0, .slice none 0 0] 25)).alloc (.cells #[.int .i64 0, .int .u64 0, .int .u64 0, .int .u64 0, .slice none 0 0] 25))) := by
    rw [← hn]
    refine cd_Read b A c _ _ _ _ ⟨_, _, Tryd.func28, rfl, by kernel_rfl⟩ (hr.ext hx2) (by omega) (fun hi ρ w1 hx hlo hhi hI => ?_)
    rw [hsz] at hI ⊢
    refine (ev_by (w.heap.size + 1 + 1) hi (w.heap.size + 1) _ ρ w1 b hI (hx.row hg0) (by omega) hhi HSB.out).mono fun e w2 h => ByE.mono h (fun w3 y hJ => ⟨(Only.of_ext hx).trans hJ.1, hJ.2⟩)
  have HRD := Lib.hid hrd
  have HX2 := Lib.hid hx2
  have HR0 := Lib.hid hr0
  have HSZ := Lib.hid hsz
  clear hrd hx2 hr0 hg0 hsz hr
  go_enter Tryd.func10, Tryd.ntmps10
  go_wp2_with fail
  refine HRD.out.mono ?_
  rintro e w3 ⟨hi, w2, y, hhi, ⟨ho, hm⟩, ho2, he⟩
  rw [HSZ.out] at hhi ho2
  have hb : ∀ k, (Btw (w.heap.size + 1 + 1) hi k ∨ k = w.heap.size + 1) → w.heap.size < k := fun k h => by rcases h with h | h; have := h.1; omega; omega
  have HX3 := Lib.hid ((ho.trans (ho2.mono fun _ _ h => .inl h)).ext HX2.out (fun k h => Nat.le_of_lt (hb k h)))
  have HR3 := Lib.hid ((ho.trans (ho2.mono fun _ _ h => .inl h)).row HR0.out (fun h => absurd (hb _ h) (by omega)))
  cases e1 : rdE b with
  | er n1 =>
    rw [e1] at hm
    subst hm
    obtain rfl : e = .returned (.int .i64 (n1 : Int)) := he
    have h0 := dec16_pos HSB.out e1
    have HDN := Lib.hid (fun w' (hx : Ext w w') => decO_no (show dec16 b = (n1, Ev.zero) from by unfold dec16; rw [e1]) hx)
    have d1 : ((n1 : Int) == 0) = false := by simp; omega
    have d2 : ((n1 : Int) != 0) = true := by simp; omega
    have d3 : decide ((n1 : Int) = 0) = false := decide_eq_false (by omega)
    have d4 : decide (n1 = 0) = false := decide_eq_false (by omega)
    clear ho ho2 hb e1 hhi h0
    have hone : (#[.int .i64 0, .int .u64 0, .int .u64 0, .int .u64 0, .slice none 0 0] : Array Value).all (·.oneCell') = true := by simp [Value.oneCell']
    have HXF := Lib.hid (HX3.out.setRow (Nat.le_refl _) #[.int .i64 0, .int .u64 0, .int .u64 0, .int .u64 0, .slice none 0 0])
    have HGF := Lib.hid (setRow_heap w3 w.heap.size _ #[.int .i64 0, .int .u64 0, .int .u64 0, .int .u64 0, .slice none 0 0] _ _ HR3.out)
    go_wp2_with (with_reducible refine wpList_store_all rfl 25 (.tmp 2) (.tmp 12) rfl w.heap.size _ #[.int .i64 0, .int .u64 0, .int .u64 0, .int .u64 0, .slice none 0 0] rfl rfl HR3.out ev_in16 ev_size16 hone ?_)
    refine bodyPost_ret (results_ev16 Tryd.results10 _ _ w.heap.size 25 _ (0, 0) rfl HGF.out ev_in16) rfl ?_
    exact HDN.out _ HXF.out
  | ok o rest =>
    rw [e1] at hm
    obtain ⟨rfl, v5, hrow, hmi⟩ := hm
    obtain rfl : e = .returned (.int .i64 (if rest = [] then 0 else 3)) := he
    by_cases hrest : rest = []
    · rw [if_pos hrest]
      have hd : dec16 b = if o.b = [] then (5, Ev.zero) else (0, o) := by unfold dec16; rw [e1]; dsimp only; rw [if_neg (by simpa using hrest)]
      have hfit := (rdE_ok HSB.out e1).2.2.2.2.2
      obtain ⟨es, en, ef, ex, eb⟩ := o
      dsimp only at hrow hmi hd
      have hrow3 := ho2.row hrow (fun h => by have := h.1; omega)
      have HG3 := Lib.hid hrow3
      have HM3 := Lib.hid (hmi.only ho2 (fun q e h => by have h1 := (hmi.block q e).1; have h2 := h.2; omega))
      have HHI := Lib.hid (show w.heap.size + 1 < hi by omega)
      obtain ⟨D, c5, ev5, hc5, _⟩ := HM3.out.slice hfit.b
      obtain ⟨n5, hn5⟩ : ∃ q, eb.length = q := ⟨_, rfl⟩
      rw [hn5] at ev5 hc5
      subst ev5
      have g4 := cell_of_row _ (w.heap.size + 1) 4 _ _ _ HG3.out
      clear ho ho2 hb e1 hhi hrow hrow3 hmi hc5
      by_cases hz : eb = []
      · rw [if_pos hz] at hd
        have HDN := Lib.hid (fun w' (hx : Ext w w') => decO_no hd hx)
        have hn0 : n5 = 0 := by rw [← hn5, hz]; rfl
        have z0 : ((n5 : Int) == 0) = true := by simp; omega
        have z1 : decide ((n5 : Int) = 0) = true := decide_eq_true (by omega)
        have z2 : decide (n5 = 0) = true := decide_eq_true hn0
        clear hd hn0 hn5 hz
        have hone : (#[.int .i64 0, .int .u64 0, .int .u64 0, .int .u64 0, .slice none 0 0] : Array Value).all (·.oneCell') = true := by simp [Value.oneCell']
        have HXF := Lib.hid (HX3.out.setRow (Nat.le_refl _) #[.int .i64 0, .int .u64 0, .int .u64 0, .int .u64 0, .slice none 0 0])
        have HGF := Lib.hid (setRow_heap w3 w.heap.size _ #[.int .i64 0, .int .u64 0, .int .u64 0, .int .u64 0, .slice none 0 0] _ _ HR3.out)
        go_wp2_with (with_reducible refine wpList_store_all rfl 25 (.tmp 2) (.tmp 18) rfl w.heap.size _ #[.int .i64 0, .int .u64 0, .int .u64 0, .int .u64 0, .slice none 0 0] rfl rfl HR3.out ev_in16 ev_size16 hone ?_)
        refine bodyPost_ret (results_ev16 Tryd.results10 _ _ w.heap.size 25 _ (0, 0) rfl HGF.out ev_in16) rfl ?_
        exact HDN.out _ HXF.out
      · rw [if_neg hz] at hd
        have HDEC := Lib.hid hd
        have hn0 : n5 ≠ 0 := by intro h; rw [← hn5] at h; exact hz (List.eq_nil_of_length_eq_zero h)
        have z1 : ((n5 : Int) == 0) = false := by simp; omega
        have z2 : ((n5 : Int) != 0) = true := by simp; omega
        have z3 : decide ((n5 : Int) = 0) = false := decide_eq_false (by omega)
        have z4 : decide (n5 = 0) = false := decide_eq_false (by omega)
        clear hd hn0 hn5 hz
        have HSV := Lib.hid (show (#[.int .i64 0, .int .u64 0, .int .u64 0, .int .u64 0, .slice none 0 0] : Array Value).size = (#[.int .i64 es, .int .u64 (en : Int), .int .u64 (ef : Int), .int .u64 (ex : Int), .slice D n5 c5] : Array Value).size from rfl)
        have hone : (#[.int .i64 es, .int .u64 (en : Int), .int .u64 (ef : Int), .int .u64 (ex : Int), .slice D n5 c5] : Array Value).all (·.oneCell') = true := by simp [Value.oneCell']
        have HXF := Lib.hid (HX3.out.setRow (Nat.le_refl _) #[.int .i64 es, .int .u64 (en : Int), .int .u64 (ef : Int), .int .u64 (ex : Int), .slice D n5 c5])
        have HGF := Lib.hid (setRow_heap w3 w.heap.size _ #[.int .i64 es, .int .u64 (en : Int), .int .u64 (ef : Int), .int .u64 (ex : Int), .slice D n5 c5] _ _ HR3.out)
        go_wp2_with (first | (with_reducible refine wpList_load_row rfl 25 (.tmp 4) rfl (w.heap.size + 1) rfl 25 #[.int .i64 es, .int .u64 (en : Int), .int .u64 (ef : Int), .int .u64 (ex : Int), .slice D n5 c5] (0, 0) _ HG3.out Tryd.underlying25 rfl ev_in16 ?_) | (with_reducible refine wpList_store_all rfl 25 (.tmp 2) (.tmp 19) rfl w.heap.size _ #[.int .i64 es, .int .u64 (en : Int), .int .u64 (ef : Int), .int .u64 (ex : Int), .slice D n5 c5] rfl rfl HR3.out ev_in16 HSV.out hone ?_))
        refine bodyPost_ret (results_ev16 Tryd.results10 _ _ w.heap.size 25 _ (0, 0) rfl HGF.out ev_in16) rfl ?_
        unfold DecO
        rw [HDEC.out]
        exact ⟨_, rfl, (HM3.out.only (X := fun q => q = w.heap.size) (Only.of_grown (grown_block w3 w.heap.size #[.int .i64 es, .int .u64 (en : Int), .int .u64 (ef : Int), .int .u64 (ex : Int), .slice D n5 c5]) (fun q e => by injection e with e; exact e.symm)) (fun q e e2 => by have e3 : q = w.heap.size := e2; have h1 := (HM3.out.block q e).1; have := HHI.out; omega)).down (by have := HHI.out; omega), HXF.out⟩
    · rw [if_neg hrest]
      have hd : dec16 b = (3, Ev.zero) := by unfold dec16; rw [e1]; dsimp only; rw [if_pos hrest]
      have HDN := Lib.hid (fun w' (hx : Ext w w') => decO_no hd hx)
      clear ho ho2 hb e1 hhi hrow hmi hd hrest
      have hone : (#[.int .i64 0, .int .u64 0, .int .u64 0, .int .u64 0, .slice none 0 0] : Array Value).all (·.oneCell') = true := by simp [Value.oneCell']
      have HXF := Lib.hid (HX3.out.setRow (Nat.le_refl _) #[.int .i64 0, .int .u64 0, .int .u64 0, .int .u64 0, .slice none 0 0])
      have HGF := Lib.hid (setRow_heap w3 w.heap.size _ #[.int .i64 0, .int .u64 0, .int .u64 0, .int .u64 0, .slice none 0 0] _ _ HR3.out)
      go_wp2_with (with_reducible refine wpList_store_all rfl 25 (.tmp 2) (.tmp 12) rfl w.heap.size _ #[.int .i64 0, .int .u64 0, .int .u64 0, .int .u64 0, .slice none 0 0] rfl rfl HR3.out ev_in16 ev_size16 hone ?_)
      refine bodyPost_ret (results_ev16 Tryd.results10 _ _ w.heap.size 25 _ (0, 0) rfl HGF.out ev_in16) rfl ?_
      exact HDN.out _ HXF.out
end Go.Proofs.YtjifionpblpfoaaDoor

/-
  The code's own Encode of layer 16. Conditions: no more than 2^16 bytes.
-/
namespace Go.Proofs.YtjifionpblpfoaaDoor
open Go.RowKit
open Pol (co Sm)

set_option maxHeartbeats 6400000 in
set_option maxRecDepth 100000 in
theorem ev_encode (s : Int) (nn f x k c : Nat) (b : List Nat) (A : Option Addr) (w : World) (hn : b.length = k) (hr : Rd w A b) (hl : k ≤ 65536) (h1 : nn < 18446744073709551616) (h2 : f < 18446744073709551616) (h3 : x < 18446744073709551616) :
    Calls Tryd.prog 9 #[evv s nn f x A k c] w (EncO ⟨s, nn, f, x, b⟩ w) := by
  unfold EncO
  have HV := Lib.hid (fun u => ev_check s nn f x k c b A u hn)
  have HX := Lib.hid ((Ext.refl w).alloc (.cells #[.int .i64 s, .int .u64 (nn : Int), .int .u64 (f : Int), .int .u64 (x : Int), .slice A k c] 25))
  have HG := Lib.hid (heap_alloc_new w (.cells #[.int .i64 s, .int .u64 (nn : Int), .int .u64 (f : Int), .int .u64 (x : Int), .slice A k c] 25))
  by_cases ho : Ev.ok ⟨s, nn, f, x, b⟩
  rotate_left
  · have hc0 : Ev.chk ⟨s, nn, f, x, b⟩ ≠ 0 := fun h => ho (Ev.chk_ok.1 h)
    rw [Ev.bytes_no ho]
    obtain ⟨ck, hck⟩ : ∃ q, Ev.chk ⟨s, nn, f, x, b⟩ = q := ⟨_, rfl⟩
    rw [hck] at HV hc0 ⊢
    have d1 : ((ck : Int) == 0) = false := by simp; omega
    have d2 : ((ck : Int) != 0) = true := by simp; omega
    have d3 : decide ((ck : Int) = 0) = false := decide_eq_false (by omega)
    have d4 : decide (ck = 0) = false := decide_eq_false (by omega)
    clear hr hn hck hc0 ho
    go_enter Tryd.func9, Tryd.ntmps9
    go_wp2_with (with_reducible refine wpList_load_row rfl 25 (.tmp 1) rfl (w.heap.size) rfl 25 #[.int .i64 s, .int .u64 (nn : Int), .int .u64 (f : Int), .int .u64 (x : Int), .slice A k c] (0, 0) _ HG.out Tryd.underlying25 rfl ev_in16 ?_)
    refine (HV.out _).mono ?_
    rintro e w1 ⟨rfl, hx⟩
    have HX1 := Lib.hid (HX.out.trans hx)
    clear hx
    go_wp2
    go_ret2
    exact ⟨_, rfl, Mine.nil _ _, HX1.out⟩
  rw [Ev.chk_ok.2 ho] at HV ⊢
  rw [Ev.bytes_ok ho]
  have hs0 : 0 ≤ s := ho.1
  have hs6 : s < 6 := ho.2.1
  obtain ⟨ss, rfl⟩ : ∃ q : Nat, (q : Int) = s := ⟨s.toNat, by omega⟩
  have hE : Ev.enc ⟨(ss : Int), nn, f, x, b⟩ = [] ++ vn ss ++ vn nn ++ vn f ++ vn x ++ vt b := by
    unfold Ev.enc
    dsimp only
    rw [Int.toNat_natCast, List.nil_append]
  rw [hE]
  have w8 : IntKind.u64.wrap (ss : Int) = (ss : Int) := by rw [IntKind.wrap_u64]; omega
  have S1 : Sm ([] ++ vn ss) := sm_app Sm.nil (vn_sm _)
  have S2 : Sm ([] ++ vn ss ++ vn nn) := sm_app S1 (vn_sm _)
  have S3 : Sm ([] ++ vn ss ++ vn nn ++ vn f) := sm_app S2 (vn_sm _)
  have S4 : Sm ([] ++ vn ss ++ vn nn ++ vn f ++ vn x) := sm_app S3 (vn_sm _)
  have T1 := vn_ten (show ss < 18446744073709551616 by omega)
  have T2 := vn_ten h1
  have T3 := vn_ten h2
  have T4 := vn_ten h3
  obtain ⟨base, hbase⟩ : ∃ q, w.heap.size + 1 = q := ⟨_, rfl⟩
  have HBS := Lib.hid hbase
  have L1 := Lib.hid (fun u (hb : base ≤ u.heap.size) => cd_layN base (.slice none 0 0) [] ss u (Mine.nil _ _) Sm.nil (by decide) (by omega) hb)
  have L2 := Lib.hid (fun u v (hb : base ≤ u.heap.size) (hm : Mine u base v ([] ++ vn ss)) => cd_layN base v _ nn u hm S1 (by simp; omega) h1 hb)
  have L3 := Lib.hid (fun u v (hb : base ≤ u.heap.size) (hm : Mine u base v ([] ++ vn ss ++ vn nn)) => cd_layN base v _ f u hm S2 (by simp; omega) h2 hb)
  have L4 := Lib.hid (fun u v (hb : base ≤ u.heap.size) (hm : Mine u base v ([] ++ vn ss ++ vn nn ++ vn f)) => cd_layN base v _ x u hm S3 (by simp; omega) h3 hb)
  have L5 := Lib.hid (fun u v (hb : base ≤ u.heap.size) (hu : Ext w u) (hm : Mine u base v ([] ++ vn ss ++ vn nn ++ vn f ++ vn x)) => show Calls Tryd.prog 26 #[v, .slice A k c] u (Lays base v ([] ++ vn ss ++ vn nn ++ vn f ++ vn x ++ vt b) u) from by
    have h := cd_layT base v _ b A c u hm S4 (hr.ext hu) (by simp; omega) (by omega) hb
    rwa [hn] at h)
  clear hr hn ho S1 S2 S3 S4 T1 T2 T3 T4 hE hbase
  generalize vn ss = V1 at *
  generalize vn nn = V2 at *
  generalize vn f = V3 at *
  generalize vn x = V4 at *
  generalize vt b = V5 at *
  go_enter Tryd.func9, Tryd.ntmps9
  go_wp2_with (with_reducible refine wpList_load_row rfl 25 (.tmp 1) rfl (w.heap.size) rfl 25 #[.int .i64 (ss : Int), .int .u64 (nn : Int), .int .u64 (f : Int), .int .u64 (x : Int), .slice A k c] (0, 0) _ HG.out Tryd.underlying25 rfl ev_in16 ?_)
  refine (HV.out _).mono ?_
  rintro e w1 ⟨rfl, hx⟩
  replace HX := Lib.hid (HX.out.trans hx)
  replace HG := Lib.hid (hx.row HG.out)
  have q0 := cell_of_row _ w.heap.size 0 _ _ _ HG.out
  clear hx
  go_wp2_with fail
  refine (L1.out w1 (by have := row_lt HG.out; have := HBS.out; omega)).mono ?_
  rintro e w2 ⟨v2, rfl, hm, hg, _⟩
  replace HX := Lib.hid (HX.out.more hg (fun r e => by cases e))
  replace HG := Lib.hid ((Only.of_grown (X := fun q => w.heap.size < q) hg (fun q e => by cases e)).row HG.out (by omega))
  have HM2 := Lib.hid hm
  have q1 := cell_of_row _ w.heap.size 1 _ _ _ HG.out
  clear hm hg q0
  go_wp2_with fail
  refine (L2.out w2 v2 (by have := row_lt HG.out; have := HBS.out; omega) HM2.out).mono ?_
  rintro e w3 ⟨v3, rfl, hm, hg, _⟩
  replace HX := Lib.hid (HX.out.more hg (fun r e => by have h1 := (HM2.out.block r e).1; have := HBS.out; omega))
  replace HG := Lib.hid ((Only.of_grown (X := fun q => w.heap.size < q) hg (fun q e => by have h1 := (HM2.out.block q e).1; have := HBS.out; omega)).row HG.out (by omega))
  have HM3 := Lib.hid hm
  have q2 := cell_of_row _ w.heap.size 2 _ _ _ HG.out
  clear hm hg q1 HM2
  go_wp2_with fail
  refine (L3.out w3 v3 (by have := row_lt HG.out; have := HBS.out; omega) HM3.out).mono ?_
  rintro e w4 ⟨v4, rfl, hm, hg, _⟩
  replace HX := Lib.hid (HX.out.more hg (fun r e => by have h1 := (HM3.out.block r e).1; have := HBS.out; omega))
  replace HG := Lib.hid ((Only.of_grown (X := fun q => w.heap.size < q) hg (fun q e => by have h1 := (HM3.out.block q e).1; have := HBS.out; omega)).row HG.out (by omega))
  have HM4 := Lib.hid hm
  have q3 := cell_of_row _ w.heap.size 3 _ _ _ HG.out
  clear hm hg q2 HM3
  go_wp2_with fail
  refine (L4.out w4 v4 (by have := row_lt HG.out; have := HBS.out; omega) HM4.out).mono ?_
  rintro e w5 ⟨v5, rfl, hm, hg, _⟩
  replace HX := Lib.hid (HX.out.more hg (fun r e => by have h1 := (HM4.out.block r e).1; have := HBS.out; omega))
  replace HG := Lib.hid ((Only.of_grown (X := fun q => w.heap.size < q) hg (fun q e => by have h1 := (HM4.out.block q e).1; have := HBS.out; omega)).row HG.out (by omega))
  have HM5 := Lib.hid hm
  have q4 := cell_of_row _ w.heap.size 4 _ _ _ HG.out
  clear hm hg q3 HM4
  go_wp2_with fail
  refine (L5.out w5 v5 (by have := row_lt HG.out; have := HBS.out; omega) HX.out HM5.out).mono ?_
  rintro e w6 ⟨v6, rfl, hm, hg, _⟩
  replace HX := Lib.hid (HX.out.more hg (fun r e => by have h1 := (HM5.out.block r e).1; have := HBS.out; omega))
  have HM6 := Lib.hid hm
  clear hm hg q4
  go_wp2
  go_ret2
  exact ⟨_, rfl, HM6.out.down (by have := HBS.out; omega), HX.out⟩
end Go.Proofs.YtjifionpblpfoaaDoor

/-
  What right of layer 10 does: a word is turned. Conditions: by 1 to 31.
-/
namespace Go.Proofs.YtjifionpblpfoaaDoor
open Go.RowKit
open Pol (co Sm)

set_option maxHeartbeats 400000 in
theorem sh_rot (x r : Nat) (w : World) (hx : x < 4294967296) (h0 : 0 < r) (hr : r < 32) :
    Calls Tryd.prog 69 #[.int .u32 (x : Int), .int .i64 (-(r : Int))] w (fun e w' => e = .returned (.int .u32 ((tw x r : Nat) : Int)) ∧ w = w') := by
  obtain ⟨m, hm⟩ : ∃ m, 32 - r = m := ⟨_, rfl⟩
  obtain ⟨M, hM⟩ : ∃ M, 18446744073709551616 - r = M := ⟨_, rfl⟩
  obtain ⟨q, hq⟩ : ∃ q, x / 2 ^ r = q := ⟨_, rfl⟩
  obtain ⟨y, hy⟩ : ∃ y, x * 2 ^ m % 4294967296 = y := ⟨_, rfl⟩
  obtain ⟨z, hz⟩ : ∃ z, tw x r = z := ⟨_, rfl⟩
  have e0 : IntKind.u64.wrap (-(r : Int)) = (M : Int) := by rw [IntKind.wrap_u64]; omega
  have ea : bits .and .u64 (M : Int) 31 = (m : Int) := by
    have h := u64_and_nat M 31 (by omega) (by decide)
    rw [show ((31 : Nat) : Int) = 31 from rfl] at h
    rw [h, show (31 : Nat) = 2 ^ 5 - 1 from rfl, Nat.and_two_pow_sub_one_eq_mod]
    omega
  have e1 : IntKind.u64.wrap (32 - (m : Int)) = (r : Int) := by rw [IntKind.wrap_u64]; omega
  have e1' : 32 - (m : Int) = (r : Int) := by omega
  have e2 : (x : Int) / 2 ^ r = (q : Int) := by rw [← hq]; simp
  have e3 : IntKind.u32.wrap ((x : Int) * 2 ^ m) = (y : Int) := by
    rw [IntKind.wrap_u32, ← hy]
    simp
  have hqb : q < 4294967296 := by rw [← hq]; exact Nat.lt_of_le_of_lt (Nat.div_le_self _ _) hx
  have hyb : y < 4294967296 := by rw [← hy]; exact Nat.mod_lt _ (by decide)
  have e4 : bits .or .u32 (y : Int) (q : Int) = (z : Int) := by
    rw [u32_or_nat y q hyb hqb, ← hz, Nat.or_comm]
    unfold tw
    rw [hm, hq, hy]
  have hm32 : m < 32 := by omega
  rw [hz]
  clear hm hq hy hz hM
  go_enter Tryd.func69, Tryd.ntmps69
  go_wp2
  go_ret
  exact ⟨rfl, rfl⟩
set_option maxHeartbeats 400000 in
theorem sh_right (x r : Nat) (w : World) (hx : x < 4294967296) (h0 : 0 < r) (hr : r < 32) :
    Calls Tryd.prog 66 #[.int .u32 (x : Int), .int .i64 (r : Int)] w (fun e w' => e = .returned (.int .u32 ((tw x r : Nat) : Int)) ∧ w = w') := by
  have HR := Lib.hid (fun W => sh_rot x r W hx h0 hr)
  obtain ⟨z, hz⟩ : ∃ z, tw x r = z := ⟨_, rfl⟩
  rw [hz] at HR ⊢
  have e0 : wrap64 (-(r : Int)) = -(r : Int) := by unfold wrap64; omega
  clear hz
  go_enter Tryd.func66, Tryd.ntmps66
  go_wp2_with fail
  refine (HR.out _).mono ?_
  rintro e w1 ⟨rfl, rfl⟩
  go_wp2
  go_ret
  exact ⟨rfl, rfl⟩
end Go.Proofs.YtjifionpblpfoaaDoor

/-
  What mix of layer 10 does: sixty-four rounds. Conditions: the constants lie where they were laid.
-/
namespace Go.Proofs.YtjifionpblpfoaaDoor
open Go.RowKit
open Pol (co Sm)


/-- The complement of a word; what is chosen; what most have. -/
theorem not_sub {x : Nat} (h : x < 4294967296) : x ^^^ 4294967295 = 4294967295 - x := by
  apply Nat.eq_of_testBit_eq
  intro i
  have h1 := Nat.testBit_two_pow_sub_succ (n := 32) h i
  rw [show (2 : Nat) ^ 32 - (x + 1) = 4294967295 - x from by omega] at h1
  have h2 := Nat.testBit_two_pow_sub_one 32 i
  rw [show (2 : Nat) ^ 32 - 1 = 4294967295 from rfl] at h2
  rw [Nat.testBit_xor, h2, h1]
  by_cases hi : i < 32
  · simp [hi]
  · have : x.testBit i = false := Nat.testBit_lt_two_pow (Nat.lt_of_lt_of_le h (Nat.le_trans (by decide : 4294967296 ≤ 2 ^ 32) (Nat.pow_le_pow_right (by decide) (by omega))))
    simp [hi, this]
theorem ch_or {e f g : Nat} (h : e < 4294967296) : (e &&& f) ||| ((4294967295 - e) &&& g) = (e &&& f) ^^^ ((4294967295 - e) &&& g) := by
  rw [← not_sub h]
  apply Nat.eq_of_testBit_eq
  intro i
  have h2 := Nat.testBit_two_pow_sub_one 32 i
  rw [show (2 : Nat) ^ 32 - 1 = 4294967295 from rfl] at h2
  simp only [Nat.testBit_or, Nat.testBit_xor, Nat.testBit_and, h2]
  by_cases hi : i < 32
  · simp only [hi, decide_true]
    cases e.testBit i <;> cases f.testBit i <;> cases g.testBit i <;> rfl
  · have : e.testBit i = false := Nat.testBit_lt_two_pow (Nat.lt_of_lt_of_le h (Nat.le_trans (by decide : 4294967296 ≤ 2 ^ 32) (Nat.pow_le_pow_right (by decide) (by omega))))
    simp [hi, this]
theorem maj_or (a b c : Nat) : (a &&& b ||| a &&& c) ||| b &&& c = (a &&& b ^^^ a &&& c) ^^^ b &&& c := by
  apply Nat.eq_of_testBit_eq
  intro i
  simp only [Nat.testBit_or, Nat.testBit_xor, Nat.testBit_and]
  cases a.testBit i <;> cases b.testBit i <;> cases c.testBit i <;> rfl
theorem not_u32 {x : Nat} (h : x < 4294967296) : bits .xor .u32 IntKind.u32.max (x : Int) = ((4294967295 - x : Nat) : Int) := by
  have h1 := u32_xor_nat 4294967295 x (by decide) h
  rw [Nat.xor_comm, not_sub h] at h1
  exact h1
/-- 'a[i]' of an array by value, of elements of one cell. -/
theorem idx_arr {t e : TypeId} {n : Nat} (h : Tryd.prog.underlying t = some (.array n e)) (he : Tryd.prog.plainKey e = true) (hs : Tryd.prog.cellsOf e = 1) (hi' : ∃ q, Tryd.prog.info? e = some q)
    (V : Array Value) (i : Nat) (v : Value) (hi : i < n) (hv : V[i]? = some v) (W : World) : (Instr.index t (.agg V) (.int .i64 (i : Int))).run Tryd.prog W = .ok v W := by
  obtain ⟨q, hq⟩ := hi'
  have hn : (0 : Int) ≤ (i : Int) ∧ (i : Int) < (n : Int) := by omega
  simp only [Instr.index, asIntOf, Sem.run_bind, Sem.run_pure, Result.andThen_ok, run_underlying h, hn, and_self, if_true, run_sizeOf W hq, hs]
  rw [show (i : Int).toNat * 1 = i from by omega]
  exact run_part_plain W he hv

/-- Where mix's rounds stand. -/
structure MixW (WL : List Nat) (g : Nat) (w W : World) : Prop where
  x : Ext w W
  c : ∀ i, i < 64 → W.cell? ⟨g + 1, i, none⟩ = some (.int .u32 ((co WL i : Nat) : Int))
  r : W.heap[g + 1 + 1]? = some (.cells (dt 8 fun _ => 0) 73 (0, 0))
theorem MixW.start {V0 V1 : Array Value} {WL : List Nat} (w : World) (h1 : ∀ i, i < 64 → V1[i]? = some (.int .u32 ((co WL i : Nat) : Int))) (T U : TypeId) (q : Nat) :
    MixW WL w.heap.size w ((((w.alloc (.cells V0 T)).alloc (.cells V1 U)).alloc (.cells (dt 8 fun _ => 0) 73)).drewN q) := by
  refine ⟨((((Ext.refl w).alloc _).alloc _).alloc _).drewN q, fun i hi => ?_, ?_⟩
  · show (((w.alloc (.cells V0 T)).alloc (.cells V1 U)).alloc _).cell? _ = _
    have e : w.heap.size + 1 = (w.alloc (.cells V0 T)).heap.size := by simp
    rw [World.cell?_alloc_lt _ _ _ (by simp), e, cell_of_row _ _ _ _ _ _ (heap_alloc_new (w.alloc (.cells V0 T)) _)]
    exact h1 i hi
  · have e : w.heap.size + 1 + 1 = ((w.alloc (.cells V0 T)).alloc (.cells V1 U)).heap.size := by simp
    rw [e]
    exact heap_alloc_new _ _
theorem MixW.drewN {WL : List Nat} {g : Nat} {w W : World} (h : MixW WL g w W) (q : Nat) : MixW WL g w (W.drewN q) := ⟨h.x.drewN q, h.c, h.r⟩
theorem rnd_at (k w : Nat) (S : List Nat) : co (rnd k w S) 0 = (one k w S + two S) % 4294967296 ∧ co (rnd k w S) 1 = co S 0 ∧ co (rnd k w S) 2 = co S 1 ∧ co (rnd k w S) 3 = co S 2 ∧ co (rnd k w S) 4 = (co S 3 + one k w S) % 4294967296 ∧ co (rnd k w S) 5 = co S 4 ∧ co (rnd k w S) 6 = co S 5 ∧ co (rnd k w S) 7 = co S 6 := ⟨rfl, rfl, rfl, rfl, rfl, rfl, rfl, rfl⟩

set_option maxHeartbeats 3200000 in
set_option maxRecDepth 100000 in
theorem sh_mix (S WL : List Nat) (w : World) (hgl : GL w) (hS : W32 S) (hW : W32 WL) :
    Calls Tryd.prog 57 #[.agg (dt 8 (co S)), .agg (dt 64 (co WL))] w (Tells (.agg (dt 8 (co (rds KK WL S 64)))) w) := by
  obtain ⟨V0, hV0⟩ : ∃ V, dt 8 (co S) = V := ⟨_, rfl⟩
  obtain ⟨V1, hV1⟩ : ∃ V, dt 64 (co WL) = V := ⟨_, rfl⟩
  have hc := fun i (hi : i < 8) => dt_at 8 (co S) i hi
  have hc1 := fun i (hi : i < 64) => dt_at 64 (co WL) i hi
  rw [hV0] at hc ⊢
  rw [hV1] at hc1 ⊢
  have h0 := hc 0 (by decide)
  have h1 := hc 1 (by decide)
  have h2 := hc 2 (by decide)
  have h3 := hc 3 (by decide)
  have h4 := hc 4 (by decide)
  have h5 := hc 5 (by decide)
  have h6 := hc 6 (by decide)
  have h7 := hc 7 (by decide)
  have HS := Lib.hid (fun (T U : TypeId) (q : Nat) => MixW.start (V0 := V0) w hc1 T U q)
  have HK := Lib.hid (show ∀ W, Ext w W → ∃ T, W.heap[1]? = some (.cells (dt 64 (co KK)) T (0, 0)) from fun W hW => (hgl.ext hW).2)
  have HRD := Lib.hid (fun i => rds_w32 KK WL S hS i)
  have HW := Lib.hid hW
  have HWK := Lib.hid KK_w32
  have HST := Lib.hid (fun i => show rds KK WL S (i + 1) = rnd (co KK i) (co WL i) (rds KK WL S i) from rfl)
  have hz : dt 8 (fun _ => 0) = #[.int .u32 0, .int .u32 0, .int .u32 0, .int .u32 0, .int .u32 0, .int .u32 0, .int .u32 0, .int .u32 0] := rfl
  rw [hz] at HS
  have HRT := Lib.hid (fun x r W h1 h2 h3 => sh_right x r W h1 h2 h3)
  have HZ8 := Lib.hid (show rds KK WL S 0 = S from rfl)
  clear hc hc1 hgl hS hW hV0 hV1
  go_enter Tryd.func57, Tryd.ntmps57
  go_wp2
  go_quiet (fail)
  generalize nq = q0
  go_wp2
  go_quiet (fail)
  have hm := HS.out 73 97 (q0 + nq)
  rw [World.drewN_drewN]
  obtain ⟨g, hg⟩ : ∃ g, w.heap.size = g := ⟨_, rfl⟩
  rw [hg] at hm ⊢
  generalize (((w.alloc (Obj.cells V0 73)).alloc (Obj.cells V1 97)).alloc (Obj.cells #[.int .u32 0, .int .u32 0, .int .u32 0, .int .u32 0, .int .u32 0, .int .u32 0, .int .u32 0, .int .u32 0] 73)).drewN (q0 + nq) = W3 at hm ⊢
  have HM := Lib.hid hm
  obtain ⟨TK, hgk⟩ := HK.out _ hm.x
  have HGK := Lib.hid hgk
  have HIK := Lib.hid (show (Tryd.prog.info? 97).map (·.size) = some (dt 64 (co KK)).size from by rw [dt_size]; kernel_rfl)
  have HIX := Lib.hid (fun (i : Nat) (hi : i < 64) => show ∀ W, (Instr.index 97 (.agg (dt 64 (co KK))) (.int .i64 (i : Int))).run Tryd.prog W = .ok (.int .u32 ((co KK i : Nat) : Int)) W from fun W => idx_arr Tryd.underlying97 (by kernel_rfl) (by kernel_rfl) ⟨_, rfl⟩ _ i _ hi (dt_at 64 _ i hi) W)
  have HG := Lib.hid hg
  clear hm hgk h0 h1 h2 h3 h4 h5 h6 h7 hz hg
  generalize hVK : dt 64 (co KK) = VK at HGK HIK HIX
  clear hVK HS HK
  go_wp2_with (with_reducible refine wpList_load_row rfl 97 (.global 1) rfl 1 rfl TK VK (0, 0) _ HGK.out Tryd.underlying97 rfl HIK.out ?_)
  go_loopg [5, 6, 7, 8, 9, 10, 11, 12, 36] 64 (fun gk s5 s6 s7 s8 s9 s10 s11 s12 s36 wx => ∃ i q : Nat, i + gk = 64 ∧ s36 = .int .i64 (i : Int) ∧ s5 = .int .u32 ((co (rds KK WL S i) 0 : Nat) : Int) ∧ s6 = .int .u32 ((co (rds KK WL S i) 1 : Nat) : Int) ∧ s7 = .int .u32 ((co (rds KK WL S i) 2 : Nat) : Int) ∧ s8 = .int .u32 ((co (rds KK WL S i) 3 : Nat) : Int) ∧ s9 = .int .u32 ((co (rds KK WL S i) 4 : Nat) : Int) ∧ s10 = .int .u32 ((co (rds KK WL S i) 5 : Nat) : Int) ∧ s11 = .int .u32 ((co (rds KK WL S i) 6 : Nat) : Int) ∧ s12 = .int .u32 ((co (rds KK WL S i) 7 : Nat) : Int) ∧ wx = W3.drewN q)
  case atStart => exact ⟨0, 0, by omega, rfl, by rw [HZ8.out], by rw [HZ8.out], by rw [HZ8.out], by rw [HZ8.out], by rw [HZ8.out], by rw [HZ8.out], by rw [HZ8.out], by rw [HZ8.out], rfl⟩
  case round =>
    obtain ⟨i, q, hig, rfl, rfl, rfl, rfl, rfl, rfl, rfl, rfl, rfl, rfl⟩ := hrel
    cases gk with
    | zero =>
      obtain rfl : i = 64 := by omega
      clear hig HIX HIK HGK HRT HST HWK HW HRD
      have HMQ := Lib.hid (HM.out.drewN q)
      have HR0 := Lib.hid HMQ.out.r
      generalize W3.drewN q = W4 at HMQ HR0 ⊢
      obtain ⟨R, hR⟩ : ∃ R, rds KK WL S 64 = R := ⟨_, rfl⟩
      have HIN := Lib.hid (show (Tryd.prog.info? 73).map (·.size) = some (dt 8 (co R)).size from by rw [dt_size]; kernel_rfl)
      have HSZ := Lib.hid (show (dt 8 fun _ => 0).size = (dt 8 (co R)).size from by rw [dt_size, dt_size])
      have HON := Lib.hid (dt_one 8 (co R))
      have HG3 := Lib.hid (setRow_heap W4 (g + 1 + 1) _ (dt 8 (co R)) _ _ HR0.out)
      have HX3 := Lib.hid (HMQ.out.x.setRow (g := g + 1 + 1) (by rw [HG.out]; omega) (dt 8 (co R)))
      have HE := Lib.hid (show Value.agg (dt 8 (co R)) = .agg #[.int .u32 ((co R 0 : Nat) : Int), .int .u32 ((co R 1 : Nat) : Int), .int .u32 ((co R 2 : Nat) : Int), .int .u32 ((co R 3 : Nat) : Int), .int .u32 ((co R 4 : Nat) : Int), .int .u32 ((co R 5 : Nat) : Int), .int .u32 ((co R 6 : Nat) : Int), .int .u32 ((co R 7 : Nat) : Int)] from rfl)
      have HVE := Lib.hid (show Value.agg (dt 8 (co R)) = Value.agg (dt 8 (co (rds KK WL S 64))) from by rw [hR])
      rw [hR]
      generalize dt 8 (co R) = V at HIN HSZ HON HG3 HX3 HE HVE
      generalize hZ : dt 8 (fun _ => 0) = Z at HR0 HSZ
      clear hZ hR HM HZ8
      go_wp2_with (refine wpList_store_all rfl 73 (.tmp 4) (.tmp 108) rfl (g + 1 + 1) Z V rfl HE.out.symm HR0.out HIN.out HSZ.out HON.out ?_)
      exact ⟨rfl, .agg V, results_cell_row Tryd.results57 _ _ (g + 1 + 1) 73 V (0, 0) _ rfl HG3.out Tryd.underlying73 rfl HIN.out, by rw [HVE.out], HX3.out⟩
    | succ gk =>
      have hi : i < 64 := by omega
      have hiI : (i : Int) < 64 := by omega
      have HR := Lib.hid (HRD.out i)
      have HN := Lib.hid (HST.out i)
      have hix := HIX.out i hi
      have hcw := (HM.out.drewN q).c i hi
      obtain ⟨T, hT⟩ : ∃ T, rds KK WL S i = T := ⟨_, rfl⟩
      have hwb := HW.out.at i
      have hkb := HWK.out.at i
      rw [hT] at HR HN ⊢
      clear hT
      obtain ⟨kk, hkk⟩ : ∃ x, co KK i = x := ⟨_, rfl⟩
      obtain ⟨ww, hww⟩ : ∃ x, co WL i = x := ⟨_, rfl⟩
      rw [hkk] at hix hkb HN
      rw [hww] at hcw hwb HN
      obtain ⟨na, hna⟩ : ∃ x, (one kk ww T + two T) % 4294967296 = x := ⟨_, rfl⟩
      obtain ⟨ne, hne⟩ : ∃ x, (co T 3 + one kk ww T) % 4294967296 = x := ⟨_, rfl⟩
      have hrn := rnd_at kk ww T
      rw [hna, hne, ← HN.out] at hrn
      unfold one two at hna
      unfold one at hne
      have ba := HR.out.at 0
      have bb := HR.out.at 1
      have bc := HR.out.at 2
      have bd := HR.out.at 3
      have be := HR.out.at 4
      have bf := HR.out.at 5
      have bg := HR.out.at 6
      have bh := HR.out.at 7
      have HRN := Lib.hid hrn
      clear hrn
      generalize co T 0 = a at *
      generalize co T 1 = b at *
      generalize co T 2 = c at *
      generalize co T 3 = d at *
      generalize co T 4 = e at *
      generalize co T 5 = f at *
      generalize co T 6 = gg at *
      generalize co T 7 = h at *
      obtain ⟨n1, hn1⟩ : ∃ x, 4294967295 - e = x := ⟨_, rfl⟩
      have bn1 : n1 < 4294967296 := by omega
      have en : bits .xor .u32 IntKind.u32.max (e : Int) = (n1 : Int) := by rw [not_u32 be, hn1]
      obtain ⟨x1, hx1⟩ : ∃ x, e &&& f = x := ⟨_, rfl⟩
      obtain ⟨x2, hx2⟩ : ∃ x, n1 &&& gg = x := ⟨_, rfl⟩
      obtain ⟨ch, hch⟩ : ∃ x, x1 ||| x2 = x := ⟨_, rfl⟩
      have bx1 : x1 < 4294967296 := by rw [← hx1]; exact Nat.lt_of_le_of_lt Nat.and_le_left be
      have bx2 : x2 < 4294967296 := by rw [← hx2]; exact Nat.lt_of_le_of_lt Nat.and_le_left bn1
      have bch : ch < 4294967296 := by rw [← hch]; exact Nat.or_lt_two_pow (n := 32) bx1 bx2
      have e1 : bits .and .u32 (e : Int) (f : Int) = (x1 : Int) := by rw [u32_and_nat e f be bf, hx1]
      have e2 : bits .and .u32 (n1 : Int) (gg : Int) = (x2 : Int) := by rw [u32_and_nat n1 gg bn1 bg, hx2]
      have e3 : bits .or .u32 (x1 : Int) (x2 : Int) = (ch : Int) := by rw [u32_or_nat x1 x2 bx1 bx2, hch]
      have hcx : x1 ^^^ x2 = ch := by rw [← hch, ← hx1, ← hx2, ← hn1]; exact (ch_or be).symm
      obtain ⟨y1, hy1⟩ : ∃ x, a &&& b = x := ⟨_, rfl⟩
      obtain ⟨y2, hy2⟩ : ∃ x, a &&& c = x := ⟨_, rfl⟩
      obtain ⟨y3, hy3⟩ : ∃ x, y1 ||| y2 = x := ⟨_, rfl⟩
      obtain ⟨y4, hy4⟩ : ∃ x, b &&& c = x := ⟨_, rfl⟩
      obtain ⟨mj, hmj⟩ : ∃ x, y3 ||| y4 = x := ⟨_, rfl⟩
      have by1 : y1 < 4294967296 := by rw [← hy1]; exact Nat.lt_of_le_of_lt Nat.and_le_left ba
      have by2 : y2 < 4294967296 := by rw [← hy2]; exact Nat.lt_of_le_of_lt Nat.and_le_left ba
      have by3 : y3 < 4294967296 := by rw [← hy3]; exact Nat.or_lt_two_pow (n := 32) by1 by2
      have by4 : y4 < 4294967296 := by rw [← hy4]; exact Nat.lt_of_le_of_lt Nat.and_le_left bb
      have bmj : mj < 4294967296 := by rw [← hmj]; exact Nat.or_lt_two_pow (n := 32) by3 by4
      have f1 : bits .and .u32 (a : Int) (b : Int) = (y1 : Int) := by rw [u32_and_nat a b ba bb, hy1]
      have f2 : bits .and .u32 (a : Int) (c : Int) = (y2 : Int) := by rw [u32_and_nat a c ba bc, hy2]
      have f3 : bits .or .u32 (y1 : Int) (y2 : Int) = (y3 : Int) := by rw [u32_or_nat y1 y2 by1 by2, hy3]
      have f4 : bits .and .u32 (b : Int) (c : Int) = (y4 : Int) := by rw [u32_and_nat b c bb bc, hy4]
      have f5 : bits .or .u32 (y3 : Int) (y4 : Int) = (mj : Int) := by rw [u32_or_nat y3 y4 by3 by4, hmj]
      have hmx : y1 ^^^ y2 ^^^ y4 = mj := by rw [← hmj, ← hy3, ← hy1, ← hy2, ← hy4]; exact (maj_or a b c).symm
      rw [hn1, hx1, hx2, hcx] at hna hne
      rw [hy1, hy2, hy4, hmx] at hna
      clear hn1 hx1 hx2 hch hy1 hy2 hy3 hy4 hmj hcx hmx
      have b6 := tw_lt (n := 6) be
      have b11 := tw_lt (n := 11) be
      have b25 := tw_lt (n := 25) be
      have b2 := tw_lt (n := 2) ba
      have b13 := tw_lt (n := 13) ba
      have b22 := tw_lt (n := 22) ba
      have HT6 := Lib.hid (fun W => show Calls Tryd.prog 66 #[.int .u32 (e : Int), .int .i64 6] W (fun e' w' => e' = .returned (.int .u32 ((tw e 6 : Nat) : Int)) ∧ W = w') from HRT.out e 6 W be (by decide) (by decide))
      have HT11 := Lib.hid (fun W => show Calls Tryd.prog 66 #[.int .u32 (e : Int), .int .i64 11] W (fun e' w' => e' = .returned (.int .u32 ((tw e 11 : Nat) : Int)) ∧ W = w') from HRT.out e 11 W be (by decide) (by decide))
      have HT25 := Lib.hid (fun W => show Calls Tryd.prog 66 #[.int .u32 (e : Int), .int .i64 25] W (fun e' w' => e' = .returned (.int .u32 ((tw e 25 : Nat) : Int)) ∧ W = w') from HRT.out e 25 W be (by decide) (by decide))
      have HT2 := Lib.hid (fun W => show Calls Tryd.prog 66 #[.int .u32 (a : Int), .int .i64 2] W (fun e' w' => e' = .returned (.int .u32 ((tw a 2 : Nat) : Int)) ∧ W = w') from HRT.out a 2 W ba (by decide) (by decide))
      have HT13 := Lib.hid (fun W => show Calls Tryd.prog 66 #[.int .u32 (a : Int), .int .i64 13] W (fun e' w' => e' = .returned (.int .u32 ((tw a 13 : Nat) : Int)) ∧ W = w') from HRT.out a 13 W ba (by decide) (by decide))
      have HT22 := Lib.hid (fun W => show Calls Tryd.prog 66 #[.int .u32 (a : Int), .int .i64 22] W (fun e' w' => e' = .returned (.int .u32 ((tw a 22 : Nat) : Int)) ∧ W = w') from HRT.out a 22 W ba (by decide) (by decide))
      generalize tw e 6 = r6 at *
      generalize tw e 11 = r11 at *
      generalize tw e 25 = r25 at *
      generalize tw a 2 = r2 at *
      generalize tw a 13 = r13 at *
      generalize tw a 22 = r22 at *
      obtain ⟨t1, ht1⟩ : ∃ x, r6 ^^^ r11 = x := ⟨_, rfl⟩
      obtain ⟨t2, ht2⟩ : ∃ x, t1 ^^^ r25 = x := ⟨_, rfl⟩
      obtain ⟨v1, hv1⟩ : ∃ x, r2 ^^^ r13 = x := ⟨_, rfl⟩
      obtain ⟨v2, hv2⟩ : ∃ x, v1 ^^^ r22 = x := ⟨_, rfl⟩
      have bt1 : t1 < 4294967296 := by rw [← ht1]; exact Nat.xor_lt_two_pow (n := 32) b6 b11
      have bt2 : t2 < 4294967296 := by rw [← ht2]; exact Nat.xor_lt_two_pow (n := 32) bt1 b25
      have bv1 : v1 < 4294967296 := by rw [← hv1]; exact Nat.xor_lt_two_pow (n := 32) b2 b13
      have bv2 : v2 < 4294967296 := by rw [← hv2]; exact Nat.xor_lt_two_pow (n := 32) bv1 b22
      have g1 : bits .xor .u32 (r6 : Int) (r11 : Int) = (t1 : Int) := by rw [u32_xor_nat r6 r11 b6 b11, ht1]
      have g2 : bits .xor .u32 (t1 : Int) (r25 : Int) = (t2 : Int) := by rw [u32_xor_nat t1 r25 bt1 b25, ht2]
      have g3 : bits .xor .u32 (r2 : Int) (r13 : Int) = (v1 : Int) := by rw [u32_xor_nat r2 r13 b2 b13, hv1]
      have g4 : bits .xor .u32 (v1 : Int) (r22 : Int) = (v2 : Int) := by rw [u32_xor_nat v1 r22 bv1 b22, hv2]
      rw [ht1, ht2] at hna hne
      rw [hv1, hv2] at hna
      clear ht1 ht2 hv1 hv2
      obtain ⟨u1, hu1⟩ : ∃ x, (h + t2) % 4294967296 = x := ⟨_, rfl⟩
      obtain ⟨u2, hu2⟩ : ∃ x, (u1 + ch) % 4294967296 = x := ⟨_, rfl⟩
      obtain ⟨u3, hu3⟩ : ∃ x, (u2 + kk) % 4294967296 = x := ⟨_, rfl⟩
      obtain ⟨u4, hu4⟩ : ∃ x, (u3 + ww) % 4294967296 = x := ⟨_, rfl⟩
      obtain ⟨u5, hu5⟩ : ∃ x, (v2 + mj) % 4294967296 = x := ⟨_, rfl⟩
      have w1 : IntKind.u32.wrap ((h : Int) + (t2 : Int)) = (u1 : Int) := by rw [IntKind.wrap_u32]; omega
      have w2 : IntKind.u32.wrap ((u1 : Int) + (ch : Int)) = (u2 : Int) := by rw [IntKind.wrap_u32]; omega
      have w3 : IntKind.u32.wrap ((u2 : Int) + (kk : Int)) = (u3 : Int) := by rw [IntKind.wrap_u32]; omega
      have w4 : IntKind.u32.wrap ((u3 : Int) + (ww : Int)) = (u4 : Int) := by rw [IntKind.wrap_u32]; omega
      have w5 : IntKind.u32.wrap ((v2 : Int) + (mj : Int)) = (u5 : Int) := by rw [IntKind.wrap_u32]; omega
      have eo : (h + t2 + ch + kk + ww) % 4294967296 = u4 := by omega
      rw [eo, hu5] at hna
      rw [eo] at hne
      have w6 : IntKind.u32.wrap ((u4 : Int) + (u5 : Int)) = (na : Int) := by rw [IntKind.wrap_u32]; omega
      have w7 : IntKind.u32.wrap ((d : Int) + (u4 : Int)) = (ne : Int) := by rw [IntKind.wrap_u32]; omega
      have bu1 : u1 < 4294967296 := by omega
      have bu2 : u2 < 4294967296 := by omega
      have bu3 : u3 < 4294967296 := by omega
      have bu4 : u4 < 4294967296 := by omega
      have bu5 : u5 < 4294967296 := by omega
      have HIG := Lib.hid hig
      clear hna hne hu1 hu2 hu3 hu4 hu5 eo hig hkk hww
      generalize hWQ : W3.drewN q = Wq at hcw ⊢
      have HWQ := Lib.hid hWQ
      clear hWQ
      go_wp2
      go_quiet (first | (go_at_call 66; with_reducible exact quiet_same (HT6.out _)) | (go_at_call 66; with_reducible exact quiet_same (HT11.out _)) | (go_at_call 66; with_reducible exact quiet_same (HT25.out _)))
      go_wp2_with fail
      refine (HT2.out _).mono ?_
      rintro e' w' ⟨rfl, rfl⟩
      go_wp2_with fail
      refine (HT13.out _).mono ?_
      rintro e' w' ⟨rfl, rfl⟩
      go_wp2_with fail
      refine (HT22.out _).mono ?_
      rintro e' w' ⟨rfl, rfl⟩
      go_wp2
      go_roundg gk
      case measure => omega
      case rel => exact ⟨i + 1, q + nq, by have := HIG.out; omega, by go_num, by rw [HRN.out.1], by rw [HRN.out.2.1], by rw [HRN.out.2.2.1], by rw [HRN.out.2.2.2.1], by rw [HRN.out.2.2.2.2.1], by rw [HRN.out.2.2.2.2.2.1], by rw [HRN.out.2.2.2.2.2.2.1], by rw [HRN.out.2.2.2.2.2.2.2], by rw [← HWQ.out, World.drewN_drewN]⟩
end Go.Proofs.YtjifionpblpfoaaDoor

/-
  What schedule of layer 10 does: a block's sixty-four words. Conditions: none.
-/
namespace Go.Proofs.YtjifionpblpfoaaDoor
open Go.RowKit
open Pol (co Sm)

/-- The first m bytes of a word. -/
def pw (B : Nat → Nat) (j : Nat) : Nat → Nat
  | 0 => 0
  | m + 1 => pw B j m * 256 + B (4 * j + m)
theorem pw_lt {B : Nat → Nat} (hB : ∀ i, B i < 256) (j : Nat) : ∀ m, pw B j m < 256 ^ m
  | 0 => Nat.one_pos
  | m + 1 => by
    have := pw_lt hB j m
    have := hB (4 * j + m)
    rw [pw, Nat.pow_succ]
    omega
/-- The words, when k bytes are in. -/
def pws (B : Nat → Nat) (k j : Nat) : Nat := pw B j (min 4 (k - 4 * j))
theorem pws_zero (B : Nat → Nat) (j : Nat) : pws B 0 j = 0 := by unfold pws; rw [show min 4 (0 - 4 * j) = 0 by omega]; rfl
theorem pws_step (B : Nat → Nat) (k q j : Nat) (hq : k / 4 = q) : upd (pws B k) q (pws B k q * 256 + B k) j = pws B (k + 1) j := by
  unfold upd
  by_cases e : j = q
  · subst e
    rw [if_pos rfl]
    unfold pws
    rw [show min 4 (k - 4 * j) = k - 4 * j by omega, show min 4 (k + 1 - 4 * j) = k - 4 * j + 1 by omega, pw, show 4 * j + (k - 4 * j) = k by omega]
  · rw [if_neg e]
    unfold pws
    by_cases h : j < q
    · rw [show min 4 (k - 4 * j) = 4 by omega, show min 4 (k + 1 - 4 * j) = 4 by omega]
    · rw [show min 4 (k - 4 * j) = 0 by omega, show min 4 (k + 1 - 4 * j) = 0 by omega]
theorem pws_lt {B : Nat → Nat} (hB : ∀ i, B i < 256) (k q : Nat) (hq : k / 4 = q) : pws B k q < 16777216 := by
  unfold pws
  have h := pw_lt hB q (min 4 (k - 4 * q))
  exact Nat.lt_of_lt_of_le h (Nat.le_trans (Nat.pow_le_pow_right (by decide) (show min 4 (k - 4 * q) ≤ 3 by omega)) (by decide))
def wof (B : Nat → Nat) (j : Nat) : Nat := B (4 * j) * 16777216 + B (4 * j + 1) * 65536 + B (4 * j + 2) * 256 + B (4 * j + 3)
theorem pw_four (B : Nat → Nat) (j : Nat) : pw B j 4 = wof B j := by
  simp only [pw, wof, Nat.zero_mul, Nat.zero_add, Nat.add_zero]
  omega
theorem wof_lt {B : Nat → Nat} (hB : ∀ i, B i < 256) (j : Nat) : wof B j < 4294967296 := by
  have h0 := hB (4 * j)
  have h1 := hB (4 * j + 1)
  have h2 := hB (4 * j + 2)
  have h3 := hB (4 * j + 3)
  unfold wof
  omega
theorem or_byte (x y : Nat) (hy : y < 256) : x * 256 ||| y = x * 256 + y := by
  have h := Nat.two_pow_add_eq_or_of_lt (i := 8) (b := y) hy x
  rw [Nat.mul_comm x, ← show (2 : Nat) ^ 8 = 256 from rfl, ← h]
theorem wl_end (F : Nat → Nat) (j x : Nat) : co (wl F j ++ [x]) j = x := by unfold co; rw [List.getElem?_append_right (by rw [wl_len]; exact Nat.le_refl _), wl_len, Nat.sub_self]; rfl
theorem wl_in (F : Nat → Nat) (j x i : Nat) (h : i < j) : co (wl F j ++ [x]) i = co (wl F j) i := by unfold co; rw [List.getElem?_append_left (by rw [wl_len]; exact h)]
/-- The words grow at their end alone. -/
theorem wl_pre (F : Nat → Nat) (j : Nat) : ∀ m, j < m → co (wl F m) j = co (wl F (j + 1)) j
  | 0, h => by omega
  | m + 1, h => by
    by_cases e : j = m
    · rw [e]
    · rw [wl, wl_in F m _ j (by omega)]
      exact wl_pre F j m (by omega)
theorem wl_at (F : Nat → Nat) (j m : Nat) (h : j < m) (hm : m ≤ 64) : co (wl F m) j = co (wl F 64) j := by rw [wl_pre F j m h, wl_pre F j 64 (by omega)]
theorem wl_low (F : Nat → Nat) (j : Nat) (h : j < 16) : co (wl F 64) j = F j := by
  rw [wl_pre F j 64 (by omega), wl, wl_end, if_pos h]
theorem wl_high (F : Nat → Nat) (j : Nat) (h : 16 ≤ j) (h64 : j < 64) : co (wl F 64) j = (co (wl F 64) (j - 16) + co (wl F 64) (j - 7) + sg0 (co (wl F 64) (j - 15)) + sg1 (co (wl F 64) (j - 2))) % 4294967296 := by
  rw [wl_pre F j 64 (by omega), wl, wl_end, if_neg (by omega)]
  show wnx (wl F j) j = _
  unfold wnx
  rw [wl_at F (j - 16) j (by omega) (by omega), wl_at F (j - 7) j (by omega) (by omega), wl_at F (j - 15) j (by omega) (by omega), wl_at F (j - 2) j (by omega) (by omega)]
theorem zero_words : (∀ w, (zeroValue 97).run Tryd.prog w = .ok (.agg (dt 64 fun _ => 0)) w) ∧ (Tryd.prog.info? 97).map (·.size) = some 64 := by
  rw [dt_zero]
  exact zero_of_info (by kernel_rfl)
theorem store_dt {n : Nat} {T : TypeId} (w : World) (g : Nat) (f f' : Nat → Nat) (hg : WBlk T n w g f) : (storeCells ⟨g, 0, none⟩ (dt n f').toList).run Tryd.prog w = .ok () (w.setRow g (dt n f')) := by
  have h := run_storeCells_from (P := Tryd.prog) g T (dt n f').toList 0 (dt n f) w hg (by simp [dt_size]) (fun v hv => (Array.all_eq_true_iff_forall_mem.1 (dt_one n f')) v (by simpa using hv))
  simpa using h

/-- Where schedule's loops stand: the block's bytes behind g, the result, the words. -/
structure SchW (B f : Nat → Nat) (g : Nat) (w W : World) : Prop where
  x : Ext w W
  b : W.heap[g]? = some (.cells (bt 64 B) 99 (0, 0))
  r : WBlk 97 64 W (g + 1) (fun _ => 0)
  ws : WBlk 97 64 W (g + 1 + 1) f
theorem SchW.start (B : Nat → Nat) (w : World) : SchW B (fun _ => 0) w.heap.size w (((w.alloc (.cells (bt 64 B) 99)).alloc (.cells (dt 64 fun _ => 0) 97)).alloc (.cells (dt 64 fun _ => 0) 97)) := by
  have e1 : w.heap.size + 1 = (w.alloc (.cells (bt 64 B) 99)).heap.size := by simp
  have e2 : w.heap.size + 1 + 1 = ((w.alloc (.cells (bt 64 B) 99)).alloc (.cells (dt 64 fun _ => 0) 97)).heap.size := by simp
  refine ⟨(((Ext.refl w).alloc _).alloc _).alloc _, ?_, ?_, ?_⟩
  · rw [heap_alloc_old _ _ (by simp; omega), heap_alloc_old _ _ (by simp)]
    exact heap_alloc_new w _
  · unfold WBlk
    rw [heap_alloc_old _ _ (by rw [e1]; simp), e1]
    exact heap_alloc_new _ _
  · rw [e2]
    exact WBlk.new _ _
theorem SchW.store {B f : Nat → Nat} {g : Nat} {w W : World} (h : SchW B f g w W) (hg : w.heap.size = g) (j v : Nat) : SchW B (upd f j v) g w (W.setCell ⟨g + 1 + 1, j, none⟩ (.int .u32 (v : Int))) :=
  ⟨h.x.setCell (by rw [hg]; show g ≤ g + 1 + 1; omega) _, (heap_setCell_other W ⟨g + 1 + 1, j, none⟩ g _ (by simp; omega)).trans h.b, (heap_setCell_other W ⟨g + 1 + 1, j, none⟩ (g + 1) _ (by simp)).trans h.r, h.ws.store j v⟩
theorem SchW.congr {B f f' : Nat → Nat} {g : Nat} {w W : World} (h : SchW B f g w W) (hf : ∀ i, i < 64 → f i = f' i) : SchW B f' g w W := ⟨h.x, h.b, h.r, h.ws.congr hf⟩
theorem SchW.drewN {B f : Nat → Nat} {g : Nat} {w W : World} (h : SchW B f g w W) (q : Nat) : SchW B f g w (W.drewN q) := ⟨h.x.drewN q, h.b, h.r, h.ws⟩
theorem info_words (f : Nat → Nat) : (Tryd.prog.info? 97).map (·.size) = some (dt 64 f).size := by rw [dt_size]; exact zero_words.2
theorem info_block (f : Nat → Nat) : (Tryd.prog.info? 99).map (·.size) = some (bt 64 f).size := by rw [bt_size]; kernel_rfl

set_option maxHeartbeats 3200000 in
set_option maxRecDepth 100000 in
theorem sh_schedule (B : Nat → Nat) (w : World) (hB : ∀ i, B i < 256) :
    Calls Tryd.prog 58 #[.agg (bt 64 B)] w (Tells (.agg (dt 64 (co (wl (wof B) 64)))) w) := by
  obtain ⟨g, hg⟩ : ∃ g, w.heap.size = g := ⟨_, rfl⟩
  have HG := Lib.hid hg
  have hst := SchW.start B w
  have HB := Lib.hid hB
  have HIX := Lib.hid (fun (i : Nat) (hi : i < 64) => show ∀ W, (Instr.index 99 (.agg (bt 64 B)) (.int .i64 (i : Int))).run Tryd.prog W = .ok (.int .u8 ((B i : Nat) : Int)) W from fun W => idx_arr Tryd.underlying99 (by kernel_rfl) (by kernel_rfl) ⟨_, rfl⟩ _ i _ hi (bt_at 64 B i hi) W)
  have HIB := Lib.hid (info_block B)
  have hz := zero_words.1
  have hzs : (dt 64 fun _ => 0).size = 64 := dt_size _ _
  have hzo := dt_one 64 (fun _ => 0)
  have hs2 := store_dt (n := 64) (T := 97) _ _ _ (fun _ => 0) hst.ws
  rw [setRow_same _ _ _ _ hst.ws] at hs2
  have HBB := Lib.hid hst.b
  rw [hg] at HBB hst
  have HST := Lib.hid hst
  clear hst hB
  generalize hVB : bt 64 B = VB at *
  generalize hZ : (dt 64 fun _ => 0) = Z at *
  clear hVB hg
  go_enter Tryd.func58, Tryd.ntmps58
  go_wp2_with (with_reducible refine wpList_load_row rfl 99 (.tmp 1) rfl w.heap.size rfl 99 VB (0, 0) _ (by rw [HG.out]; exact HBB.out) Tryd.underlying99 rfl HIB.out ?_)
  rw [HG.out]
  rw [HG.out] at hs2
  generalize ((w.alloc (Obj.cells VB 99)).alloc (Obj.cells Z 97)).alloc (Obj.cells Z 97) = W3 at HST
  have HIZ := Lib.hid (show Z.size = 64 from hzs)
  have HZ := Lib.hid hZ
  clear hz hzs hzo hs2 hZ
  go_loopg [11] 64 (fun gk s11 wx => ∃ k : Nat, k + gk = 64 ∧ s11 = .int .i64 (k : Int) ∧ SchW B (pws B k) g w wx)
  case atStart => exact ⟨0, by omega, rfl, HST.out.congr (fun j _ => (pws_zero B j).symm)⟩
  case round =>
    obtain ⟨k, hkg, rfl, hw⟩ := hrel
    have HW := Lib.hid hw
    have HKG := Lib.hid hkg
    clear hw
    cases gk with
    | zero =>
      obtain rfl : k = 64 := by omega
      have HF := Lib.hid (HW.out.congr (f' := fun j => if j < 16 then co (wl (wof B) 64) j else 0) (fun j hj => by
        unfold pws
        by_cases h : j < 16
        · rw [if_pos h, show min 4 (64 - 4 * j) = 4 by omega, pw_four, wl_low _ j h]
        · rw [if_neg h, show min 4 (64 - 4 * j) = 0 by omega]; rfl))
      have HWH := Lib.hid (fun j h h64 => wl_high (wof B) j h h64)
      have HWB := Lib.hid (fun j => (wl_w32 (wof B) (wof_lt HB.out) 64).at j)
      have HRT := Lib.hid (fun x r W h1 h2 h3 => sh_right x r W h1 h2 h3)
      clear HW HIX HB HST HBB hkg
      generalize wl (wof B) 64 = L at *
      go_wp2_with fail
      go_loopg [6] 48 (fun gk s6 wx => ∃ i : Nat, i + gk = 64 ∧ 16 ≤ i ∧ s6 = .int .i64 (i : Int) ∧ SchW B (fun j => if j < i then co L j else 0) g w wx)
      case atStart => exact ⟨16, by omega, by omega, rfl, HF.out⟩
      case round =>
        obtain ⟨i, hig, hi16, rfl, hw⟩ := hrel
        have HW := Lib.hid hw
        have HIG := Lib.hid hig
        clear hw
        cases gk with
        | zero =>
          obtain rfl : i = 64 := by omega
          have hb : WBlk 97 64 wr (g + 1 + 1) (co L) := (HW.out.congr (fun j hj => if_pos hj)).ws
          have hr := HW.out.r
          unfold WBlk at hb hr
          rw [HZ.out] at hr
          have HR0 := Lib.hid hr
          have HBL := Lib.hid hb
          have HIN := Lib.hid (info_words (co L))
          have HSZ := Lib.hid (show Z.size = (dt 64 (co L)).size from by rw [HIZ.out, dt_size])
          have HON := Lib.hid (dt_one 64 (co L))
          have HG3 := Lib.hid (setRow_heap wr (g + 1) _ (dt 64 (co L)) _ _ hr)
          have HX3 := Lib.hid (HW.out.x.setRow (g := g + 1) (by rw [HG.out]; omega) (dt 64 (co L)))
          have HVE := Lib.hid (show Value.agg (dt 64 (co L)) = Value.agg (dt 64 (co L)) from rfl)
          generalize dt 64 (co L) = V at *
          clear hb hr hig
          go_wp2_with (first | (with_reducible refine wpList_load_row rfl 97 (.tmp 3) rfl (g + 1 + 1) rfl 97 V (0, 0) _ HBL.out Tryd.underlying97 rfl HIN.out ?_) | (with_reducible refine wpList_store_all rfl 97 (.tmp 2) (.tmp 70) rfl (g + 1) Z V rfl rfl HR0.out HIN.out HSZ.out HON.out ?_))
          exact ⟨rfl, .agg V, results_cell_row Tryd.results58 _ _ (g + 1) 97 V (0, 0) _ rfl HG3.out Tryd.underlying97 rfl HIN.out, rfl, HX3.out⟩
        | succ gk =>
          have hi : i < 64 := by omega
          have hiI : (i : Int) < 64 := by omega
          have HN := Lib.hid (fun q => ((HW.out.drewN q).store HG.out i (co L i)).congr (f' := fun j => if j < i + 1 then co L j else 0) (fun j _ => by
            unfold upd
            by_cases h : j = i
            · subst h; rw [if_pos rfl, if_pos (by omega)]
            · rw [if_neg h]
              show (if j < i then co L j else 0) = if j < i + 1 then co L j else 0
              by_cases h2 : j < i
              · rw [if_pos h2, if_pos (by omega)]
              · rw [if_neg h2, if_neg (by omega)]))
          obtain ⟨p16, hp16⟩ : ∃ p, i - 16 = p := ⟨_, rfl⟩
          obtain ⟨p15, hp15⟩ : ∃ p, i - 15 = p := ⟨_, rfl⟩
          obtain ⟨p7, hp7⟩ : ∃ p, i - 7 = p := ⟨_, rfl⟩
          obtain ⟨p2, hp2⟩ : ∃ p, i - 2 = p := ⟨_, rfl⟩
          have hwh := HWH.out i hi16 hi
          rw [hp16, hp15, hp7, hp2] at hwh
          have c16 := HW.out.ws.cell p16 (by omega)
          rw [if_pos (by omega)] at c16
          have c15 := HW.out.ws.cell p15 (by omega)
          rw [if_pos (by omega)] at c15
          have c7 := HW.out.ws.cell p7 (by omega)
          rw [if_pos (by omega)] at c7
          have c2 := HW.out.ws.cell p2 (by omega)
          rw [if_pos (by omega)] at c2
          have b16 := HWB.out p16
          have b15 := HWB.out p15
          have b7 := HWB.out p7
          have b2 := HWB.out p2
          have hci := HW.out.ws.cell i hi
          have hfz := HW.out.ws.frozen i
          rw [if_neg (by omega)] at hci
          have k16 : (p16 : Int) < 64 := by omega
          have k15 : (p15 : Int) < 64 := by omega
          have k7 : (p7 : Int) < 64 := by omega
          have k2 : (p2 : Int) < 64 := by omega
          have m16 : wrap64 ((i : Int) - 16) = (p16 : Int) := by unfold wrap64; omega
          have m15 : wrap64 ((i : Int) - 15) = (p15 : Int) := by unfold wrap64; omega
          have m7 : wrap64 ((i : Int) - 7) = (p7 : Int) := by unfold wrap64; omega
          have m2 : wrap64 ((i : Int) - 2) = (p2 : Int) := by unfold wrap64; omega
          have W16 : IntKind.i64.wrap (p16 : Int) = (p16 : Int) := IntWalk.i64_in _ (by omega)
          have W7 : IntKind.i64.wrap (p7 : Int) = (p7 : Int) := IntWalk.i64_in _ (by omega)
          have M16 : (i : Int) - 16 = (p16 : Int) := by omega
          have M15 : (i : Int) - 15 = (p15 : Int) := by omega
          have M7 : (i : Int) - 7 = (p7 : Int) := by omega
          have M2 : (i : Int) - 2 = (p2 : Int) := by omega
          obtain ⟨v, hv⟩ : ∃ v, co L i = v := ⟨_, rfl⟩
          rw [hv] at hwh HN
          generalize co L p16 = a16 at *
          generalize co L p15 = a15 at *
          generalize co L p7 = a7 at *
          generalize co L p2 = a2 at *
          unfold sg0 sg1 at hwh
          clear hp16 hp15 hp7 hp2 hv hig
          have b7' := tw_lt (n := 7) b15
          have b18 := tw_lt (n := 18) b15
          have b17 := tw_lt (n := 17) b2
          have b19 := tw_lt (n := 19) b2
          have HT7 := Lib.hid (fun W => show Calls Tryd.prog 66 #[.int .u32 (a15 : Int), .int .i64 7] W (fun e' w' => e' = .returned (.int .u32 ((tw a15 7 : Nat) : Int)) ∧ W = w') from HRT.out a15 7 W b15 (by decide) (by decide))
          have HT18 := Lib.hid (fun W => show Calls Tryd.prog 66 #[.int .u32 (a15 : Int), .int .i64 18] W (fun e' w' => e' = .returned (.int .u32 ((tw a15 18 : Nat) : Int)) ∧ W = w') from HRT.out a15 18 W b15 (by decide) (by decide))
          have HT17 := Lib.hid (fun W => show Calls Tryd.prog 66 #[.int .u32 (a2 : Int), .int .i64 17] W (fun e' w' => e' = .returned (.int .u32 ((tw a2 17 : Nat) : Int)) ∧ W = w') from HRT.out a2 17 W b2 (by decide) (by decide))
          have HT19 := Lib.hid (fun W => show Calls Tryd.prog 66 #[.int .u32 (a2 : Int), .int .i64 19] W (fun e' w' => e' = .returned (.int .u32 ((tw a2 19 : Nat) : Int)) ∧ W = w') from HRT.out a2 19 W b2 (by decide) (by decide))
          generalize tw a15 7 = r7 at *
          generalize tw a15 18 = r18 at *
          generalize tw a2 17 = r17 at *
          generalize tw a2 19 = r19 at *
          obtain ⟨d3, hd3⟩ : ∃ d, a15 / 8 = d := ⟨_, rfl⟩
          obtain ⟨d10, hd10⟩ : ∃ d, a2 / 1024 = d := ⟨_, rfl⟩
          obtain ⟨x1, hx1⟩ : ∃ x, r7 ^^^ r18 = x := ⟨_, rfl⟩
          obtain ⟨x2, hx2⟩ : ∃ x, x1 ^^^ d3 = x := ⟨_, rfl⟩
          obtain ⟨y1, hy1⟩ : ∃ x, r17 ^^^ r19 = x := ⟨_, rfl⟩
          obtain ⟨y2, hy2⟩ : ∃ x, y1 ^^^ d10 = x := ⟨_, rfl⟩
          rw [hd3, hd10, hx1, hx2, hy1, hy2] at hwh
          have bd3 : d3 < 4294967296 := by omega
          have bd10 : d10 < 4294967296 := by omega
          have bx1 : x1 < 4294967296 := by rw [← hx1]; exact Nat.xor_lt_two_pow (n := 32) b7' b18
          have bx2 : x2 < 4294967296 := by rw [← hx2]; exact Nat.xor_lt_two_pow (n := 32) bx1 bd3
          have by1 : y1 < 4294967296 := by rw [← hy1]; exact Nat.xor_lt_two_pow (n := 32) b17 b19
          have by2 : y2 < 4294967296 := by rw [← hy2]; exact Nat.xor_lt_two_pow (n := 32) by1 bd10
          have g1 : bits .xor .u32 (r7 : Int) (r18 : Int) = (x1 : Int) := by rw [u32_xor_nat r7 r18 b7' b18, hx1]
          have g2 : bits .xor .u32 (x1 : Int) (d3 : Int) = (x2 : Int) := by rw [u32_xor_nat x1 d3 bx1 bd3, hx2]
          have g3 : bits .xor .u32 (r17 : Int) (r19 : Int) = (y1 : Int) := by rw [u32_xor_nat r17 r19 b17 b19, hy1]
          have g4 : bits .xor .u32 (y1 : Int) (d10 : Int) = (y2 : Int) := by rw [u32_xor_nat y1 d10 by1 bd10, hy2]
          have t3 : (a15 : Int).tdiv 8 = (d3 : Int) := by rw [Int.tdiv_eq_ediv_of_nonneg (by omega)]; omega
          have t3' : (a15 : Int) / 8 = (d3 : Int) := by omega
          have t10 : (a2 : Int).tdiv 1024 = (d10 : Int) := by rw [Int.tdiv_eq_ediv_of_nonneg (by omega)]; omega
          have t10' : (a2 : Int) / 1024 = (d10 : Int) := by omega
          obtain ⟨u1, hu1⟩ : ∃ x, (a16 + x2) % 4294967296 = x := ⟨_, rfl⟩
          obtain ⟨u2, hu2⟩ : ∃ x, (u1 + a7) % 4294967296 = x := ⟨_, rfl⟩
          have w1 : IntKind.u32.wrap ((a16 : Int) + (x2 : Int)) = (u1 : Int) := by rw [IntKind.wrap_u32]; omega
          have w2 : IntKind.u32.wrap ((u1 : Int) + (a7 : Int)) = (u2 : Int) := by rw [IntKind.wrap_u32]; omega
          have w3 : IntKind.u32.wrap ((u2 : Int) + (y2 : Int)) = (v : Int) := by rw [IntKind.wrap_u32]; omega
          have bu1 : u1 < 4294967296 := by omega
          have bu2 : u2 < 4294967296 := by omega
          have HI16 := Lib.hid hi16
          clear hi16 hwh hd3 hd10 hx1 hx2 hy1 hy2 hu1 hu2
          go_wp2
          go_quiet (fail)
          generalize nq = q1
          have HN1 := Lib.hid (fun q => HN.out (q1 + q))
          have C16 : (wr.drewN q1).cell? ⟨g + 1 + 1, p16, none⟩ = some (.int .u32 (a16 : Int)) := c16
          have C7 : (wr.drewN q1).cell? ⟨g + 1 + 1, p7, none⟩ = some (.int .u32 (a7 : Int)) := c7
          have CI : (wr.drewN q1).cell? ⟨g + 1 + 1, i, none⟩ = some (.int .u32 ((0 : Nat) : Int)) := hci
          have FI : (wr.drewN q1).frozen? ⟨g + 1 + 1, i, none⟩ = false := hfz
          simp only [← World.drewN_drewN] at HN1
          generalize wr.drewN q1 = W1 at HN1 C16 C7 CI FI ⊢
          clear hci hfz c16 c15 c7 c2
          go_wp2_with fail
          refine (HT7.out _).mono ?_
          rintro e' w' ⟨rfl, rfl⟩
          go_wp2_with fail
          refine (HT18.out _).mono ?_
          rintro e' w' ⟨rfl, rfl⟩
          go_wp2_with fail
          refine (HT17.out _).mono ?_
          rintro e' w' ⟨rfl, rfl⟩
          go_wp2_with fail
          refine (HT19.out _).mono ?_
          rintro e' w' ⟨rfl, rfl⟩
          go_wp2
          refine wp_region_quiet_tail 15 (fun w' => ∃ q, w' = W1.drewN q) (by kernel_rfl) (by kernel_rfl) ⟨1, rfl⟩ ?_
          simp only [List.take_succ_cons, List.take_zero, List.drop_succ_cons, List.drop_zero]
          repeat (quiet_step (fail))
          refine wpQuiet_nil ?_
          rintro _ ⟨q2, rfl⟩
          go_wp2
          go_roundg gk
          case measure => omega
          case rel => exact ⟨i + 1, by have := HIG.out; omega, by have := HI16.out; omega, by go_num, HN1.out q2⟩
    | succ gk =>
      have hk : k < 64 := by omega
      have hkI : (k : Int) < 64 := by omega
      have hix := HIX.out k hk
      have hy8 := HB.out k
      obtain ⟨q, hq⟩ : ∃ q, k / 4 = q := ⟨_, rfl⟩
      have hq64 : q < 64 := by omega
      have hqI : (q : Int) < 64 := by omega
      have hc := HW.out.ws.cell q hq64
      have hfz := HW.out.ws.frozen q
      have hx24 := pws_lt HB.out k q hq
      have hn := HW.out.store HG.out q (pws B k q * 256 + B k)
      have HN := Lib.hid (hn.congr (fun j _ => pws_step B k q j hq))
      clear hn
      obtain ⟨x, hx⟩ : ∃ x, pws B k q = x := ⟨_, rfl⟩
      obtain ⟨y, hy⟩ : ∃ y, B k = y := ⟨_, rfl⟩
      rw [hx] at hc hx24 HN
      rw [hy] at hix hy8 HN
      obtain ⟨x8, hx8⟩ : ∃ v, x * 256 = v := ⟨_, rfl⟩
      obtain ⟨z, hz⟩ : ∃ v, x8 + y = v := ⟨_, rfl⟩
      rw [hx8, hz] at HN
      have e1 : (k : Int) / 4 = (q : Int) := by omega
      have e1' : (k : Int).tdiv 4 = (q : Int) := by rw [Int.tdiv_eq_ediv_of_nonneg (by omega)]; omega
      have e2 : IntKind.u32.wrap ((x : Int) * 256) = (x8 : Int) := by rw [IntKind.wrap_u32]; omega
      have e2' : (x : Int) * 256 = (x8 : Int) := by omega
      have e4 : (x8 : Int) % 4294967296 = (x8 : Int) := by omega
      have e3 : bits .or .u32 (x8 : Int) (y : Int) = (z : Int) := by rw [u32_or_nat x8 y (by omega) (by omega), ← hx8, or_byte x y hy8, hx8, hz]
      clear hq hx hy hx8 hz hkg hx24
      go_wp2
      go_roundg gk
      case measure => omega
      case rel => exact ⟨k + 1, by have := HKG.out; omega, by go_num, HN.out⟩
end Go.Proofs.YtjifionpblpfoaaDoor
