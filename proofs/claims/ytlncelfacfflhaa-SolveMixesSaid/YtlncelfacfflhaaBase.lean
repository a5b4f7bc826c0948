/-
  What the field's own functions do, one after the other: sums, the product by 3, the tables, a new field. Conditions: none beyond the kinds of the arguments.
-/
import Derived.Test.YtlncelfacfflhaaProg
import Derived.Test.YtlncelfacfflhaaMath
import Derived.Test.YtlncelfacfflhaaKit
namespace Go.Proofs.Ytlncelfacfflhaa
open Go.RowKit

/-- A byte. -/
def U (n : Nat) : Value := .int .u8 (n : Int)

theorem add_any (x y : Int) (w : World) :
    Calls Try.prog 22 #[.int .u8 x, .int .u8 y] w fun e w' => e = .returned (.int .u8 (bits .xor .u8 x y)) ∧ w = w' := by
  go_enter Try.func22, Try.ntmps22
  go_wp2
  go_ret
  exact ⟨rfl, rfl⟩

theorem top_bit : ∀ a, a < 256 → ((a &&& 128) = if a < 128 then 0 else 128) := by decide +kernel

theorem triple_any (a : Nat) (ha : a < 256) (w : World) :
    Calls Try.prog 30 #[.int .u8 (a : Int)] w fun e w' => e = .returned (.int .u8 ((Gf.tri a : Nat) : Int)) ∧ w = w' := by
  have hb : bits .and .u8 (a : Int) 128 = (((a &&& 128) : Nat) : Int) := u8_and_nat a 128 ha (by omega)
  have hm : ((a : Int) * 2 % 256) = ((2 * a % 256 : Nat) : Int) := by omega
  rw [top_bit a ha] at hb
  by_cases h : a < 128
  · have ht : (bits BinOp.and IntKind.u8 (a : Int) 128 != 0) = false := by rw [hb, if_pos h]; rfl
    have he : bits .xor .u8 ((a : Int) * 2) (a : Int) = ((Gf.tri a : Nat) : Int) := by
      rw [show ((a : Int) * 2) = ((2 * a % 256 : Nat) : Int) from by omega, u8_xor_nat _ _ (by omega) ha]
      unfold Gf.tri Gf.dbl; rw [if_pos h, Nat.xor_zero]
    have HE := Lib.hid he
    clear hb hm he
    go_enter Try.func30, Try.ntmps30
    go_wp2_with (go_at_call 22; refine (add_any _ _ _).mono ?_; rintro e w' ⟨rfl, rfl⟩)
    go_ret
    exact ⟨ret_int HE.out, rfl⟩
  · have ht : (bits BinOp.and IntKind.u8 (a : Int) 128 != 0) = true := by rw [hb, if_neg h]; rfl
    have he : bits .xor .u8 (bits .xor .u8 ((a : Int) * 2 % 256) 27) (a : Int) = ((Gf.tri a : Nat) : Int) := by
      rw [hm, show (27 : Int) = ((27 : Nat) : Int) from rfl, u8_xor_nat _ _ (by omega) (by omega), u8_xor_nat _ _ (Gf.xor_lt _ _ (by omega) (by omega)) ha]
      unfold Gf.tri Gf.dbl; rw [if_neg h]
    have HE := Lib.hid he
    clear hb hm he
    go_enter Try.func30, Try.ntmps30
    go_wp2_with (go_at_call 22; refine (add_any _ _ _).mono ?_; rintro e w' ⟨rfl, rfl⟩)
    go_ret
    exact ⟨ret_int HE.out, rfl⟩

/-! ### The tables -/
def pcells (k : Nat) : Array Value := Array.ofFn (n := 255) fun i => Value.int .u8 ((if i.val < k then Gf.pw i.val else 0 : Nat) : Int)
def lcells (k : Nat) : Array Value := Array.ofFn (n := 256) fun i => Value.int .u8 ((Gf.lt k i.val : Nat) : Int)
theorem pcells_size (k : Nat) : (pcells k).size = 255 := by simp [pcells]
theorem lcells_size (k : Nat) : (lcells k).size = 256 := by simp [lcells]
theorem pcells_at (k i : Nat) (h : i < 255) : (pcells k)[i]? = some (.int .u8 ((if i < k then Gf.pw i else 0 : Nat) : Int)) := by
  simp [pcells, h]
theorem lcells_at (k i : Nat) (h : i < 256) : (lcells k)[i]? = some (.int .u8 ((Gf.lt k i : Nat) : Int)) := by
  simp [lcells, h]
theorem pcells_zero : pcells 0 = Array.replicate 255 (.int .u8 0) := by
  apply Array.ext (by simp [pcells])
  intro i h1 h2
  simp [pcells]
theorem lcells_zero : lcells 0 = Array.replicate 256 (.int .u8 0) := by
  apply Array.ext (by simp [lcells])
  intro i h1 h2
  simp [lcells, Gf.lt]
theorem pcells_set (k : Nat) : (pcells k).setIfInBounds k (.int .u8 ((Gf.pw k : Nat) : Int)) = pcells (k + 1) := by
  apply Array.ext (by simp [pcells])
  intro i h1 h2
  simp [pcells] at h1
  rw [Array.getElem_setIfInBounds (by simpa [pcells] using h1)]
  by_cases e : k = i
  · subst e; simp [pcells]
  · rw [if_neg e]
    simp only [pcells, Array.getElem_ofFn]
    by_cases hk : i < k
    · rw [if_pos hk, if_pos (by omega)]
    · rw [if_neg hk, if_neg (by omega)]
theorem lcells_set (k : Nat) : (lcells k).setIfInBounds (Gf.pw k) (.int .u8 ((k : Nat) : Int)) = lcells (k + 1) := by
  apply Array.ext (by simp [lcells])
  intro i h1 h2
  simp [lcells] at h1
  rw [Array.getElem_setIfInBounds (by simpa [lcells] using h1)]
  by_cases e : Gf.pw k = i
  · subst e; simp [lcells, Gf.lt]
  · rw [if_neg e]
    simp only [lcells, Array.getElem_ofFn, Gf.lt]
    rw [if_neg (fun h => e h.symm)]

theorem zero_pow : (∀ w, (zeroValue 44).run Try.prog w = .ok (.agg (pcells 0)) w) ∧ (Try.prog.info? 44).map (·.size) = some 255 := by
  rw [pcells_zero]
  exact zero_of_info (by kernel_rfl)
theorem zero_log : (∀ w, (zeroValue 45).run Try.prog w = .ok (.agg (lcells 0)) w) ∧ (Try.prog.info? 45).map (·.size) = some 256 := by
  rw [lcells_zero]
  exact zero_of_info (by kernel_rfl)

theorem pcells_one (k : Nat) : (pcells k).all (·.oneCell') = true := by
  rw [Array.all_eq_true]; intro i h; simp [pcells, Value.oneCell']
theorem lcells_one (k : Nat) : (lcells k).all (·.oneCell') = true := by
  rw [Array.all_eq_true]; intro i h; simp [lcells, Value.oneCell']

set_option maxHeartbeats 400000 in
theorem tables_any (w : World) :
    Calls Try.prog 23 #[] w fun e w' => e = .returned (.tuple #[.agg (pcells 255), .agg (lcells 255)]) ∧ Ext w w' := by
  have hz1 := zero_pow.1
  have hz2 := zero_log.1
  go_enter Try.func23, Try.ntmps23
  go_wp2
  go_loopg [2, 4] 255 (fun g s2 s4 wx => ∃ k : Nat, k + g = 255 ∧ s2 = .int .u8 ((Gf.pw k : Nat) : Int) ∧ s4 = .int .i64 (k : Int) ∧ wx = (w.alloc (.cells (pcells k) 44)).alloc (.cells (lcells k) 45))
  case atStart => exact ⟨0, by omega, rfl, rfl, rfl⟩
  case round =>
    obtain ⟨k, hkg, rfl, rfl, rfl⟩ := hrel
    cases gk with
    | zero =>
      obtain rfl : k = 255 := by omega
      go_wp2
      have g1 := heap_alloc2_old w (.cells (pcells 255) 44) (.cells (lcells 255) 45)
      have g2 := heap_alloc2_new w (.cells (pcells 255) 44) (.cells (lcells 255) 45)
      have hbel : Ext w ((w.alloc (.cells (pcells 255) 44)).alloc (.cells (lcells 255) 45)) := ((Ext.refl _).alloc _).alloc _
      generalize (w.alloc (Obj.cells (pcells 255) 44)).alloc (Obj.cells (lcells 255) 45) = W at g1 g2 hbel ⊢
      have s1 : (Try.prog.info? 44).map (·.size) = some (pcells 255).size := by rw [pcells_size]; exact zero_pow.2
      have s2 : (Try.prog.info? 45).map (·.size) = some (lcells 255).size := by rw [lcells_size]; exact zero_log.2
      refine wp_region_quiet_lit (by kernel_rfl) (by kernel_rfl) ?_
      refine wpQuiet_load rfl 44 (.tmp 0) rfl (.agg (pcells 255)) ?_ ?_
      · rintro _ ⟨n, rfl⟩
        exact run_load_all _ _ _ _ 255 5 Try.underlying44 g1 s1
      refine wpQuiet_load rfl 45 (.tmp 1) rfl (.agg (lcells 255)) ?_ ?_
      · rintro _ ⟨n, rfl⟩
        exact run_load_all _ _ _ _ 256 5 Try.underlying45 g2 s2
      refine wpQuiet_store rfl 44 (.tmp 0) (.tmp 17) rfl ?_ ?_
      · rintro _ ⟨n, rfl⟩
        exact run_store_back _ _ _ _ g1 s1 (pcells_one _)
      refine wpQuiet_store rfl 45 (.tmp 1) (.tmp 18) rfl ?_ ?_
      · rintro _ ⟨n, rfl⟩
        exact run_store_back _ _ _ _ g2 s2 (lcells_one _)
      refine wpQuiet_nil ?_
      rintro _ ⟨n, rfl⟩
      go_wp2
      refine bodyPost_ret (v := .tuple #[.agg (pcells 255), .agg (lcells 255)]) ?_ rfl ⟨rfl, hbel.drewN _⟩
      rw [results_cell_cell rfl]
      have l1 := run_loadVar_row (P := Try.prog) (W.drewN n) w.heap.size 44 44 (pcells 255) (0, 0) _ g1 Try.underlying44 rfl s1
      have l2 := run_loadVar_row (P := Try.prog) (W.drewN n) (w.heap.size + 1) 45 45 (lcells 255) (0, 0) _ g2 Try.underlying45 rfl s2
      simp [asAddr, Result.andThen, l1, l2, Act.put]
    | succ g =>
      have hk : k < 255 := by omega
      have hb := (Gf.pw_bd k).2
      have hs1 := pcells_size k
      have hs2 := lcells_size k
      have hkI : (k : Int) < 255 := by omega
      have hbI : ((Gf.pw k : Nat) : Int) < 256 := by omega
      have hc1 := pcells_at k k hk
      have hc2 := lcells_at k (Gf.pw k) hb
      go_wp2_with (go_at_call 30; refine (triple_any _ hb _).mono ?_; rintro e w' ⟨rfl, rfl⟩)
      go_roundg g
      case measure => omega
      case rel => exact ⟨k + 1, by omega, rfl, by go_num, by rw [pcells_set, lcells_set]⟩

theorem fill_two (p l z : Array Value) (hp : p.size = 255) (hl : l.size = 256) (hz : z.size = 511) :
    ∃ F : Array Value, Instr.fill (fun i => #[(0, 255), (255, 256)][i]?) z [(0, .agg p), (1, .agg l)] = some F ∧ F.size = 511 ∧ (∀ i, i < 255 → F[i]? = p[i]?) ∧ (∀ i, i < 256 → F[255 + i]? = l[i]?) := by
  have e : Instr.fill (fun i => #[(0, 255), (255, 256)][i]?) z [(0, .agg p), (1, .agg l)] =
      (if (decide (p.size ≠ 255) || decide (0 + p.size > z.size)) = true then none else if (decide (l.size ≠ 256) || decide (255 + l.size > (putIn 0 p z).size)) = true then none else some (putIn 255 l (putIn 0 p z))) := rfl
  refine ⟨putIn 255 l (putIn 0 p z), ?_, ?_, ?_, ?_⟩
  · rw [e, if_neg (by simp; omega), if_neg (by rw [putIn_size]; simp; omega)]
  · rw [putIn_size, putIn_size, hz]
  · intro i hi
    rw [putIn_at, if_neg (by omega), putIn_at, if_pos (by omega)]
    rfl
  · intro i hi
    rw [putIn_at, putIn_size, if_pos (by omega)]
    rw [Nat.add_sub_cancel_left]

theorem built_field (p l : Array Value) (hp : p.size = 255) (hl : l.size = 256) :
    ∃ F : Array Value, Try.prog.built 49 [(0, .agg p), (1, .agg l)] = some F ∧ F.size = 511 ∧ (∀ i, i < 255 → F[i]? = p[i]?) ∧ (∀ i, i < 256 → F[255 + i]? = l[i]?) := by
  have e : ∀ parts : List (Nat × Value), Try.prog.built 49 parts = Instr.fill (fun i => #[(0, 255), (255, 256)][i]?) (Array.replicate 511 (.int .u8 0)) parts := fun parts => by kernel_rfl
  rw [e]
  exact fill_two p l _ hp hl Array.size_replicate

/-! ### A field in memory: the powers of 3, then their exponents. -/
def IsField (w : World) (b : Nat) : Prop :=
  (∀ i, i < 255 → w.cell? ⟨b, i, none⟩ = some (.int .u8 ((Gf.pw i : Nat) : Int))) ∧ (∀ x, x < 256 → w.cell? ⟨b, 255 + x, none⟩ = some (.int .u8 ((Gf.lg x : Nat) : Int)))
def Made (w : World) (e : Ending) (w' : World) : Prop := ∃ b, e = .returned (.pointer (some ⟨b, 0, none⟩)) ∧ IsField w' b ∧ w.heap.size ≤ b ∧ Ext w w'
theorem IsField.drewN {w : World} {b : Nat} (h : IsField w b) (n : Nat) : IsField (w.drewN n) b := h
theorem IsField.lt {w : World} {b : Nat} (h : IsField w b) : b < w.heap.size := block_lt_of_cell (h.1 0 (by omega))
theorem IsField.ext {w w' : World} {b : Nat} (h : IsField w b) (hb : Ext w w') : IsField w' b :=
  ⟨fun i hi => (hb.below.cell (p := ⟨b, i, none⟩) h.lt).trans (h.1 i hi), fun x hx => (hb.below.cell (p := ⟨b, 255 + x, none⟩) h.lt).trans (h.2 x hx)⟩

set_option maxHeartbeats 400000 in
theorem new_any (w : World) : Calls Try.prog 12 #[] w (Made w) := by
  go_enter Try.func12, Try.ntmps12
  go_wp2_with fail
  refine (tables_any _).mono ?_
  rintro e w1 ⟨rfl, hb1⟩
  go_wp2
  rw [zero_pow.1, Result.andThen_ok, Oper.upon_value]
  go_wp2
  rw [zero_log.1, Result.andThen_ok, Oper.upon_value]
  rename_i K1 h1 K2 h2
  refine h2 _ _ ?_
  have s1 : (Try.prog.info? 44).map (·.size) = some (pcells 255).size := by rw [pcells_size]; exact zero_pow.2
  have s2 : (Try.prog.info? 45).map (·.size) = some (lcells 255).size := by rw [lcells_size]; exact zero_log.2
  have hne : w1.heap.size ≠ (w1.alloc (Obj.cells (pcells 0) 44)).heap.size := by simp
  have hle : w1.heap.size ≤ (w1.alloc (Obj.cells (pcells 0) 44)).heap.size := by simp
  have g1 := heap_alloc2_old w1 (.cells (pcells 0) 44) (.cells (lcells 0) 45)
  have g2 := heap_alloc_new (w1.alloc (.cells (pcells 0) 44)) (.cells (lcells 0) 45)
  have hbel : Ext w1 ((w1.alloc (.cells (pcells 0) 44)).alloc (.cells (lcells 0) 45)) := ((Ext.refl _).alloc _).alloc _
  refine wpList_store_all rfl 44 (.tmp 1) (.tmp 5) rfl w1.heap.size (pcells 0) (pcells 255) rfl rfl g1 s1 (by rw [pcells_size, pcells_size]) (pcells_one _) ?_
  have g1' := setRow_heap _ _ _ (pcells 255) _ _ g1
  have g2' := (setRow_other _ w1.heap.size _ (pcells 255) hne.symm).trans g2
  refine wpList_store_all rfl 45 (.tmp 2) (.tmp 6) rfl (w1.alloc (Obj.cells (pcells 0) 44)).heap.size (lcells 0) (lcells 255) rfl rfl g2' s2 (by rw [lcells_size, lcells_size]) (lcells_one _) ?_
  have g2'' := setRow_heap _ _ _ (lcells 255) _ _ g2'
  have g1'' := (setRow_other _ (w1.alloc (Obj.cells (pcells 0) 44)).heap.size _ (lcells 255) hne).trans g1'
  have hbel2 := (hbel.setRow (Nat.le_refl _) (pcells 255)).setRow hle (lcells 255)
  refine wpList_nil ?_
  refine h1 _ _ ?_
  refine wp_seq ?_
  refine wp_region_lit ?_
  refine wpList_load_row rfl 44 (.tmp 1) rfl w1.heap.size rfl 44 (pcells 255) (0, 0) _ g1'' Try.underlying44 rfl s1 ?_
  refine wpList_load_row rfl 45 (.tmp 2) rfl (w1.alloc (Obj.cells (pcells 0) 44)).heap.size rfl 45 (lcells 255) (0, 0) _ g2'' Try.underlying45 rfl s2 ?_
  obtain ⟨F, hF, hFs, hFp, hFl⟩ := built_field (pcells 255) (lcells 255) (pcells_size _) (lcells_size _)
  refine wpList_build_of rfl 49 #[(0, .tmp 7), (1, .tmp 8)] rfl #[(0, .agg (pcells 255)), (1, .agg (lcells 255))] (by simp [Act.put, Act.eval]) F hF ?_
  refine wpList_box_of rfl 49 (.tmp 9) rfl F rfl ?_
  generalize hW : (World.setRow (World.setRow _ _ _) _ _) = W at hbel2 ⊢
  refine wpList_plain rfl fun K3 hK3 => ?_
  refine hK3 _ _ ?_
  refine wpList_nil ?_
  refine wp_ret ?_
  refine bodyPost_ret (v := .pointer (some ⟨W.heap.size, 0, none⟩)) (by simp [results, Try.results12, go_sem, Act.put, Act.eval]) rfl ⟨W.heap.size, rfl, ⟨fun i hi => ?_, fun x hx => ?_⟩, Nat.le_trans hb1.size hbel2.size, ?_⟩
  · rw [cell_of_row _ _ _ F _ _ (heap_alloc_new W _), hFp i hi, pcells_at 255 i hi, if_pos hi]
  · rw [cell_of_row _ _ _ F _ _ (heap_alloc_new W _), hFl x hx, lcells_at 255 x hx]; rfl
  · exact (hb1.trans hbel2).alloc _

theorem add_is (a b v : Nat) (ha : a < 256) (hb : b < 256) (h : a ^^^ b = v) (w : World) :
    Calls Try.prog 22 #[.int .u8 (a : Int), .int .u8 (b : Int)] w fun e w' => e = .returned (.int .u8 (v : Int)) ∧ w = w' := by
  have := add_any a b w
  rw [u8_xor_nat a b ha hb, h] at this
  exact this
end Go.Proofs.Ytlncelfacfflhaa
