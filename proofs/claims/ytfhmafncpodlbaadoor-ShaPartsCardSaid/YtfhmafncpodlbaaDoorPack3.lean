/-
  Part 3 of the texts that the seat's proofs stand on; each part of it begins with its own sentence and conditions. Conditions: those that each theorem names.
-/
import Derived.Test.YtfhmafncpodlbaaDoorPack2
import Derived.Deep.MidRow
import Derived.Laws.Cover3
import Derived.Lib.Hide
import Derived.Lib.SliceRun
import Derived.Lib.BytesEntry
import Derived.Laws.LoneSync
import Derived.Laws.BytesString

/-
  What schedule of layer 10 does: a block's sixty-four words. Conditions: none.
-/
namespace Go.Proofs.YtfhmafncpodlbaaDoor
open Go.RowKit
open Pol (co Sm)

/-- The first m bytes of a word. -/
def pw (B : Nat → Nat) (j : Nat) : Nat → Nat
  | 0 => 0
  | m + 1 => pw B j m * 256 + B (4 * j + m)
theorem pw_lt {B : Nat → Nat} (hB : ∀ i, B i < 256) (j : Nat) : ∀ m, pw B j m < 256 ^ m
  | 0 => Nat.one_pos
  | m + 1 => by
    have := pw_lt hB j m
    have := hB (4 * j + m)
    rw [pw, Nat.pow_succ]
    omega
/-- The words, when k bytes are in. -/
def pws (B : Nat → Nat) (k j : Nat) : Nat := pw B j (min 4 (k - 4 * j))
theorem pws_zero (B : Nat → Nat) (j : Nat) : pws B 0 j = 0 := by unfold pws; rw [show min 4 (0 - 4 * j) = 0 by omega]; rfl
theorem pws_step (B : Nat → Nat) (k q j : Nat) (hq : k / 4 = q) : upd (pws B k) q (pws B k q * 256 + B k) j = pws B (k + 1) j := by
  unfold upd
  by_cases e : j = q
  · subst e
    rw [if_pos rfl]
    unfold pws
    rw [show min 4 (k - 4 * j) = k - 4 * j by omega, show min 4 (k + 1 - 4 * j) = k - 4 * j + 1 by omega, pw, show 4 * j + (k - 4 * j) = k by omega]
  · rw [if_neg e]
    unfold pws
    by_cases h : j < q
    · rw [show min 4 (k - 4 * j) = 4 by omega, show min 4 (k + 1 - 4 * j) = 4 by omega]
    · rw [show min 4 (k - 4 * j) = 0 by omega, show min 4 (k + 1 - 4 * j) = 0 by omega]
theorem pws_lt {B : Nat → Nat} (hB : ∀ i, B i < 256) (k q : Nat) (hq : k / 4 = q) : pws B k q < 16777216 := by
  unfold pws
  have h := pw_lt hB q (min 4 (k - 4 * q))
  exact Nat.lt_of_lt_of_le h (Nat.le_trans (Nat.pow_le_pow_right (by decide) (show min 4 (k - 4 * q) ≤ 3 by omega)) (by decide))
def wof (B : Nat → Nat) (j : Nat) : Nat := B (4 * j) * 16777216 + B (4 * j + 1) * 65536 + B (4 * j + 2) * 256 + B (4 * j + 3)
theorem pw_four (B : Nat → Nat) (j : Nat) : pw B j 4 = wof B j := by
  simp only [pw, wof, Nat.zero_mul, Nat.zero_add, Nat.add_zero]
  omega
theorem wof_lt {B : Nat → Nat} (hB : ∀ i, B i < 256) (j : Nat) : wof B j < 4294967296 := by
  have h0 := hB (4 * j)
  have h1 := hB (4 * j + 1)
  have h2 := hB (4 * j + 2)
  have h3 := hB (4 * j + 3)
  unfold wof
  omega
theorem or_byte (x y : Nat) (hy : y < 256) : x * 256 ||| y = x * 256 + y := by
  have h := Nat.two_pow_add_eq_or_of_lt (i := 8) (b := y) hy x
  rw [Nat.mul_comm x, ← show (2 : Nat) ^ 8 = 256 from rfl, ← h]
theorem wl_end (F : Nat → Nat) (j x : Nat) : co (wl F j ++ [x]) j = x := by unfold co; rw [List.getElem?_append_right (by rw [wl_len]; exact Nat.le_refl _), wl_len, Nat.sub_self]; rfl
theorem wl_in (F : Nat → Nat) (j x i : Nat) (h : i < j) : co (wl F j ++ [x]) i = co (wl F j) i := by unfold co; rw [List.getElem?_append_left (by rw [wl_len]; exact h)]
/-- The words grow at their end alone. -/
theorem wl_pre (F : Nat → Nat) (j : Nat) : ∀ m, j < m → co (wl F m) j = co (wl F (j + 1)) j
  | 0, h => by omega
  | m + 1, h => by
    by_cases e : j = m
    · rw [e]
    · rw [wl, wl_in F m _ j (by omega)]
      exact wl_pre F j m (by omega)
theorem wl_at (F : Nat → Nat) (j m : Nat) (h : j < m) (hm : m ≤ 64) : co (wl F m) j = co (wl F 64) j := by rw [wl_pre F j m h, wl_pre F j 64 (by omega)]
theorem wl_low (F : Nat → Nat) (j : Nat) (h : j < 16) : co (wl F 64) j = F j := by
  rw [wl_pre F j 64 (by omega), wl, wl_end, if_pos h]
theorem wl_high (F : Nat → Nat) (j : Nat) (h : 16 ≤ j) (h64 : j < 64) : co (wl F 64) j = (co (wl F 64) (j - 16) + co (wl F 64) (j - 7) + sg0 (co (wl F 64) (j - 15)) + sg1 (co (wl F 64) (j - 2))) % 4294967296 := by
  rw [wl_pre F j 64 (by omega), wl, wl_end, if_neg (by omega)]
  show wnx (wl F j) j = _
  unfold wnx
  rw [wl_at F (j - 16) j (by omega) (by omega), wl_at F (j - 7) j (by omega) (by omega), wl_at F (j - 15) j (by omega) (by omega), wl_at F (j - 2) j (by omega) (by omega)]
theorem zero_words : (∀ w, (zeroValue 53).run Tryd.prog w = .ok (.agg (dt 64 fun _ => 0)) w) ∧ (Tryd.prog.info? 53).map (·.size) = some 64 := by
  rw [dt_zero]
  exact zero_of_info (by kernel_rfl)
theorem store_dt {n : Nat} {T : TypeId} (w : World) (g : Nat) (f f' : Nat → Nat) (hg : WBlk T n w g f) : (storeCells ⟨g, 0, none⟩ (dt n f').toList).run Tryd.prog w = .ok () (w.setRow g (dt n f')) := by
  have h := run_storeCells_from (P := Tryd.prog) g T (dt n f').toList 0 (dt n f) w hg (by simp [dt_size]) (fun v hv => (Array.all_eq_true_iff_forall_mem.1 (dt_one n f')) v (by simpa using hv))
  simpa using h

/-- Where schedule's loops stand: the block's bytes behind g, the result, the words. -/
structure SchW (B f : Nat → Nat) (g : Nat) (w W : World) : Prop where
  x : Ext w W
  b : W.heap[g]? = some (.cells (bt 64 B) 55 (0, 0))
  r : WBlk 53 64 W (g + 1) (fun _ => 0)
  ws : WBlk 53 64 W (g + 1 + 1) f
theorem SchW.start (B : Nat → Nat) (w : World) : SchW B (fun _ => 0) w.heap.size w (((w.alloc (.cells (bt 64 B) 55)).alloc (.cells (dt 64 fun _ => 0) 53)).alloc (.cells (dt 64 fun _ => 0) 53)) := by
  have e1 : w.heap.size + 1 = (w.alloc (.cells (bt 64 B) 55)).heap.size := by simp
  have e2 : w.heap.size + 1 + 1 = ((w.alloc (.cells (bt 64 B) 55)).alloc (.cells (dt 64 fun _ => 0) 53)).heap.size := by simp
  refine ⟨(((Ext.refl w).alloc _).alloc _).alloc _, ?_, ?_, ?_⟩
  · rw [heap_alloc_old _ _ (by simp; omega), heap_alloc_old _ _ (by simp)]
    exact heap_alloc_new w _
  · unfold WBlk
    rw [heap_alloc_old _ _ (by rw [e1]; simp), e1]
    exact heap_alloc_new _ _
  · rw [e2]
    exact WBlk.new _ _
theorem SchW.store {B f : Nat → Nat} {g : Nat} {w W : World} (h : SchW B f g w W) (hg : w.heap.size = g) (j v : Nat) : SchW B (upd f j v) g w (W.setCell ⟨g + 1 + 1, j, none⟩ (.int .u32 (v : Int))) :=
  ⟨h.x.setCell (by rw [hg]; show g ≤ g + 1 + 1; omega) _, (heap_setCell_other W ⟨g + 1 + 1, j, none⟩ g _ (by simp; omega)).trans h.b, (heap_setCell_other W ⟨g + 1 + 1, j, none⟩ (g + 1) _ (by simp)).trans h.r, h.ws.store j v⟩
theorem SchW.congr {B f f' : Nat → Nat} {g : Nat} {w W : World} (h : SchW B f g w W) (hf : ∀ i, i < 64 → f i = f' i) : SchW B f' g w W := ⟨h.x, h.b, h.r, h.ws.congr hf⟩
theorem SchW.drewN {B f : Nat → Nat} {g : Nat} {w W : World} (h : SchW B f g w W) (q : Nat) : SchW B f g w (W.drewN q) := ⟨h.x.drewN q, h.b, h.r, h.ws⟩
theorem info_words (f : Nat → Nat) : (Tryd.prog.info? 53).map (·.size) = some (dt 64 f).size := by rw [dt_size]; exact zero_words.2
theorem info_block (f : Nat → Nat) : (Tryd.prog.info? 55).map (·.size) = some (bt 64 f).size := by rw [bt_size]; kernel_rfl

set_option maxHeartbeats 3200000 in
set_option maxRecDepth 100000 in
theorem sh_schedule (B : Nat → Nat) (w : World) (hB : ∀ i, B i < 256) :
    Calls Tryd.prog 30 #[.agg (bt 64 B)] w (Tells (.agg (dt 64 (co (wl (wof B) 64)))) w) := by
  obtain ⟨g, hg⟩ : ∃ g, w.heap.size = g := ⟨_, rfl⟩
  have HG := Lib.hid hg
  have hst := SchW.start B w
  have HB := Lib.hid hB
  have HIX := Lib.hid (fun (i : Nat) (hi : i < 64) => show ∀ W, (Instr.index 55 (.agg (bt 64 B)) (.int .i64 (i : Int))).run Tryd.prog W = .ok (.int .u8 ((B i : Nat) : Int)) W from fun W => idx_arr Tryd.underlying55 (by kernel_rfl) (by kernel_rfl) ⟨_, rfl⟩ _ i _ hi (bt_at 64 B i hi) W)
  have HIB := Lib.hid (info_block B)
  have hz := zero_words.1
  have hzs : (dt 64 fun _ => 0).size = 64 := dt_size _ _
  have hzo := dt_one 64 (fun _ => 0)
  have hs2 := store_dt (n := 64) (T := 53) _ _ _ (fun _ => 0) hst.ws
  rw [setRow_same _ _ _ _ hst.ws] at hs2
  have HBB := Lib.hid hst.b
  rw [hg] at HBB hst
  have HST := Lib.hid hst
  clear hst hB
  generalize hVB : bt 64 B = VB at *
  generalize hZ : (dt 64 fun _ => 0) = Z at *
  clear hVB hg
  go_enter Tryd.func30, Tryd.ntmps30
  go_wp2_with (with_reducible refine wpList_load_row rfl 55 (.tmp 1) rfl w.heap.size rfl 55 VB (0, 0) _ (by rw [HG.out]; exact HBB.out) Tryd.underlying55 rfl HIB.out ?_)
  rw [HG.out]
  rw [HG.out] at hs2
  generalize ((w.alloc (Obj.cells VB 55)).alloc (Obj.cells Z 53)).alloc (Obj.cells Z 53) = W3 at HST
  have HIZ := Lib.hid (show Z.size = 64 from hzs)
  have HZ := Lib.hid hZ
  clear hz hzs hzo hs2 hZ
  go_loopg [11] 64 (fun gk s11 wx => ∃ k : Nat, k + gk = 64 ∧ s11 = .int .i64 (k : Int) ∧ SchW B (pws B k) g w wx)
  case atStart => exact ⟨0, by omega, rfl, HST.out.congr (fun j _ => (pws_zero B j).symm)⟩
  case round =>
    obtain ⟨k, hkg, rfl, hw⟩ := hrel
    have HW := Lib.hid hw
    have HKG := Lib.hid hkg
    clear hw
    cases gk with
    | zero =>
      obtain rfl : k = 64 := by omega
      have HF := Lib.hid (HW.out.congr (f' := fun j => if j < 16 then co (wl (wof B) 64) j else 0) (fun j hj => by
        unfold pws
        by_cases h : j < 16
        · rw [if_pos h, show min 4 (64 - 4 * j) = 4 by omega, pw_four, wl_low _ j h]
        · rw [if_neg h, show min 4 (64 - 4 * j) = 0 by omega]; rfl))
      have HWH := Lib.hid (fun j h h64 => wl_high (wof B) j h h64)
      have HWB := Lib.hid (fun j => (wl_w32 (wof B) (wof_lt HB.out) 64).at j)
      have HRT := Lib.hid (fun x r W h1 h2 h3 => sh_right x r W h1 h2 h3)
      clear HW HIX HB HST HBB hkg
      generalize wl (wof B) 64 = L at *
      go_wp2_with fail
      go_loopg [6] 48 (fun gk s6 wx => ∃ i : Nat, i + gk = 64 ∧ 16 ≤ i ∧ s6 = .int .i64 (i : Int) ∧ SchW B (fun j => if j < i then co L j else 0) g w wx)
      case atStart => exact ⟨16, by omega, by omega, rfl, HF.out⟩
      case round =>
        obtain ⟨i, hig, hi16, rfl, hw⟩ := hrel
        have HW := Lib.hid hw
        have HIG := Lib.hid hig
        clear hw
        cases gk with
        | zero =>
          obtain rfl : i = 64 := by omega
          have hb : WBlk 53 64 wr (g + 1 + 1) (co L) := (HW.out.congr (fun j hj => if_pos hj)).ws
          have hr := HW.out.r
          unfold WBlk at hb hr
          rw [HZ.out] at hr
          have HR0 := Lib.hid hr
          have HBL := Lib.hid hb
          have HIN := Lib.hid (info_words (co L))
          have HSZ := Lib.hid (show Z.size = (dt 64 (co L)).size from by rw [HIZ.out, dt_size])
          have HON := Lib.hid (dt_one 64 (co L))
          have HG3 := Lib.hid (setRow_heap wr (g + 1) _ (dt 64 (co L)) _ _ hr)
          have HX3 := Lib.hid (HW.out.x.setRow (g := g + 1) (by rw [HG.out]; omega) (dt 64 (co L)))
          have HVE := Lib.hid (show Value.agg (dt 64 (co L)) = Value.agg (dt 64 (co L)) from rfl)
          generalize dt 64 (co L) = V at *
          clear hb hr hig
          go_wp2_with (first | (with_reducible refine wpList_load_row rfl 53 (.tmp 3) rfl (g + 1 + 1) rfl 53 V (0, 0) _ HBL.out Tryd.underlying53 rfl HIN.out ?_) | (with_reducible refine wpList_store_all rfl 53 (.tmp 2) (.tmp 70) rfl (g + 1) Z V rfl rfl HR0.out HIN.out HSZ.out HON.out ?_))
          exact ⟨rfl, .agg V, results_cell_row Tryd.results30 _ _ (g + 1) 53 V (0, 0) _ rfl HG3.out Tryd.underlying53 rfl HIN.out, rfl, HX3.out⟩
        | succ gk =>
          have hi : i < 64 := by omega
          have hiI : (i : Int) < 64 := by omega
          have HN := Lib.hid (fun q => ((HW.out.drewN q).store HG.out i (co L i)).congr (f' := fun j => if j < i + 1 then co L j else 0) (fun j _ => by
            unfold upd
            by_cases h : j = i
            · subst h; rw [if_pos rfl, if_pos (by omega)]
            · rw [if_neg h]
              show (if j < i then co L j else 0) = if j < i + 1 then co L j else 0
              by_cases h2 : j < i
              · rw [if_pos h2, if_pos (by omega)]
              · rw [if_neg h2, if_neg (by omega)]))
          obtain ⟨p16, hp16⟩ : ∃ p, i - 16 = p := ⟨_, rfl⟩
          obtain ⟨p15, hp15⟩ : ∃ p, i - 15 = p := ⟨_, rfl⟩
          obtain ⟨p7, hp7⟩ : ∃ p, i - 7 = p := ⟨_, rfl⟩
          obtain ⟨p2, hp2⟩ : ∃ p, i - 2 = p := ⟨_, rfl⟩
          have hwh := HWH.out i hi16 hi
          rw [hp16, hp15, hp7, hp2] at hwh
          have c16 := HW.out.ws.cell p16 (by omega)
          rw [if_pos (by omega)] at c16
          have c15 := HW.out.ws.cell p15 (by omega)
          rw [if_pos (by omega)] at c15
          have c7 := HW.out.ws.cell p7 (by omega)
          rw [if_pos (by omega)] at c7
          have c2 := HW.out.ws.cell p2 (by omega)
          rw [if_pos (by omega)] at c2
          have b16 := HWB.out p16
          have b15 := HWB.out p15
          have b7 := HWB.out p7
          have b2 := HWB.out p2
          have hci := HW.out.ws.cell i hi
          have hfz := HW.out.ws.frozen i
          rw [if_neg (by omega)] at hci
          have k16 : (p16 : Int) < 64 := by omega
          have k15 : (p15 : Int) < 64 := by omega
          have k7 : (p7 : Int) < 64 := by omega
          have k2 : (p2 : Int) < 64 := by omega
          have m16 : wrap64 ((i : Int) - 16) = (p16 : Int) := by unfold wrap64; omega
          have m15 : wrap64 ((i : Int) - 15) = (p15 : Int) := by unfold wrap64; omega
          have m7 : wrap64 ((i : Int) - 7) = (p7 : Int) := by unfold wrap64; omega
          have m2 : wrap64 ((i : Int) - 2) = (p2 : Int) := by unfold wrap64; omega
          have W16 : IntKind.i64.wrap (p16 : Int) = (p16 : Int) := IntWalk.i64_in _ (by omega)
          have W7 : IntKind.i64.wrap (p7 : Int) = (p7 : Int) := IntWalk.i64_in _ (by omega)
          have M16 : (i : Int) - 16 = (p16 : Int) := by omega
          have M15 : (i : Int) - 15 = (p15 : Int) := by omega
          have M7 : (i : Int) - 7 = (p7 : Int) := by omega
          have M2 : (i : Int) - 2 = (p2 : Int) := by omega
          obtain ⟨v, hv⟩ : ∃ v, co L i = v := ⟨_, rfl⟩
          rw [hv] at hwh HN
          generalize co L p16 = a16 at *
          generalize co L p15 = a15 at *
          generalize co L p7 = a7 at *
          generalize co L p2 = a2 at *
          unfold sg0 sg1 at hwh
          clear hp16 hp15 hp7 hp2 hv hig
          have b7' := tw_lt (n := 7) b15
          have b18 := tw_lt (n := 18) b15
          have b17 := tw_lt (n := 17) b2
          have b19 := tw_lt (n := 19) b2
          have HT7 := Lib.hid (fun W => show Calls Tryd.prog 36 #[.int .u32 (a15 : Int), .int .i64 7] W (fun e' w' => e' = .returned (.int .u32 ((tw a15 7 : Nat) : Int)) ∧ W = w') from HRT.out a15 7 W b15 (by decide) (by decide))
          have HT18 := Lib.hid (fun W => show Calls Tryd.prog 36 #[.int .u32 (a15 : Int), .int .i64 18] W (fun e' w' => e' = .returned (.int .u32 ((tw a15 18 : Nat) : Int)) ∧ W = w') from HRT.out a15 18 W b15 (by decide) (by decide))
          have HT17 := Lib.hid (fun W => show Calls Tryd.prog 36 #[.int .u32 (a2 : Int), .int .i64 17] W (fun e' w' => e' = .returned (.int .u32 ((tw a2 17 : Nat) : Int)) ∧ W = w') from HRT.out a2 17 W b2 (by decide) (by decide))
          have HT19 := Lib.hid (fun W => show Calls Tryd.prog 36 #[.int .u32 (a2 : Int), .int .i64 19] W (fun e' w' => e' = .returned (.int .u32 ((tw a2 19 : Nat) : Int)) ∧ W = w') from HRT.out a2 19 W b2 (by decide) (by decide))
          generalize tw a15 7 = r7 at *
          generalize tw a15 18 = r18 at *
          generalize tw a2 17 = r17 at *
          generalize tw a2 19 = r19 at *
          obtain ⟨d3, hd3⟩ : ∃ d, a15 / 8 = d := ⟨_, rfl⟩
          obtain ⟨d10, hd10⟩ : ∃ d, a2 / 1024 = d := ⟨_, rfl⟩
          obtain ⟨x1, hx1⟩ : ∃ x, r7 ^^^ r18 = x := ⟨_, rfl⟩
          obtain ⟨x2, hx2⟩ : ∃ x, x1 ^^^ d3 = x := ⟨_, rfl⟩
          obtain ⟨y1, hy1⟩ : ∃ x, r17 ^^^ r19 = x := ⟨_, rfl⟩
          obtain ⟨y2, hy2⟩ : ∃ x, y1 ^^^ d10 = x := ⟨_, rfl⟩
          rw [hd3, hd10, hx1, hx2, hy1, hy2] at hwh
          have bd3 : d3 < 4294967296 := by omega
          have bd10 : d10 < 4294967296 := by omega
          have bx1 : x1 < 4294967296 := by rw [← hx1]; exact Nat.xor_lt_two_pow (n := 32) b7' b18
          have bx2 : x2 < 4294967296 := by rw [← hx2]; exact Nat.xor_lt_two_pow (n := 32) bx1 bd3
          have by1 : y1 < 4294967296 := by rw [← hy1]; exact Nat.xor_lt_two_pow (n := 32) b17 b19
          have by2 : y2 < 4294967296 := by rw [← hy2]; exact Nat.xor_lt_two_pow (n := 32) by1 bd10
          have g1 : bits .xor .u32 (r7 : Int) (r18 : Int) = (x1 : Int) := by rw [u32_xor_nat r7 r18 b7' b18, hx1]
          have g2 : bits .xor .u32 (x1 : Int) (d3 : Int) = (x2 : Int) := by rw [u32_xor_nat x1 d3 bx1 bd3, hx2]
          have g3 : bits .xor .u32 (r17 : Int) (r19 : Int) = (y1 : Int) := by rw [u32_xor_nat r17 r19 b17 b19, hy1]
          have g4 : bits .xor .u32 (y1 : Int) (d10 : Int) = (y2 : Int) := by rw [u32_xor_nat y1 d10 by1 bd10, hy2]
          have t3 : (a15 : Int).tdiv 8 = (d3 : Int) := by rw [Int.tdiv_eq_ediv_of_nonneg (by omega)]; omega
          have t3' : (a15 : Int) / 8 = (d3 : Int) := by omega
          have t10 : (a2 : Int).tdiv 1024 = (d10 : Int) := by rw [Int.tdiv_eq_ediv_of_nonneg (by omega)]; omega
          have t10' : (a2 : Int) / 1024 = (d10 : Int) := by omega
          obtain ⟨u1, hu1⟩ : ∃ x, (a16 + x2) % 4294967296 = x := ⟨_, rfl⟩
          obtain ⟨u2, hu2⟩ : ∃ x, (u1 + a7) % 4294967296 = x := ⟨_, rfl⟩
          have w1 : IntKind.u32.wrap ((a16 : Int) + (x2 : Int)) = (u1 : Int) := by rw [IntKind.wrap_u32]; omega
          have w2 : IntKind.u32.wrap ((u1 : Int) + (a7 : Int)) = (u2 : Int) := by rw [IntKind.wrap_u32]; omega
          have w3 : IntKind.u32.wrap ((u2 : Int) + (y2 : Int)) = (v : Int) := by rw [IntKind.wrap_u32]; omega
          have bu1 : u1 < 4294967296 := by omega
          have bu2 : u2 < 4294967296 := by omega
          have HI16 := Lib.hid hi16
          clear hi16 hwh hd3 hd10 hx1 hx2 hy1 hy2 hu1 hu2
          go_wp2
          go_quiet (fail)
          generalize nq = q1
          have HN1 := Lib.hid (fun q => HN.out (q1 + q))
          have C16 : (wr.drewN q1).cell? ⟨g + 1 + 1, p16, none⟩ = some (.int .u32 (a16 : Int)) := c16
          have C7 : (wr.drewN q1).cell? ⟨g + 1 + 1, p7, none⟩ = some (.int .u32 (a7 : Int)) := c7
          have CI : (wr.drewN q1).cell? ⟨g + 1 + 1, i, none⟩ = some (.int .u32 ((0 : Nat) : Int)) := hci
          have FI : (wr.drewN q1).frozen? ⟨g + 1 + 1, i, none⟩ = false := hfz
          simp only [← World.drewN_drewN] at HN1
          generalize wr.drewN q1 = W1 at HN1 C16 C7 CI FI ⊢
          clear hci hfz c16 c15 c7 c2
          go_wp2_with fail
          refine (HT7.out _).mono ?_
          rintro e' w' ⟨rfl, rfl⟩
          go_wp2_with fail
          refine (HT18.out _).mono ?_
          rintro e' w' ⟨rfl, rfl⟩
          go_wp2_with fail
          refine (HT17.out _).mono ?_
          rintro e' w' ⟨rfl, rfl⟩
          go_wp2_with fail
          refine (HT19.out _).mono ?_
          rintro e' w' ⟨rfl, rfl⟩
          go_wp2
          refine wp_region_quiet_tail 15 (fun w' => ∃ q, w' = W1.drewN q) (by kernel_rfl) (by kernel_rfl) ⟨1, rfl⟩ ?_
          simp only [List.take_succ_cons, List.take_zero, List.drop_succ_cons, List.drop_zero]
          repeat (quiet_step (fail))
          refine wpQuiet_nil ?_
          rintro _ ⟨q2, rfl⟩
          go_wp2
          go_roundg gk
          case measure => omega
          case rel => exact ⟨i + 1, by have := HIG.out; omega, by have := HI16.out; omega, by go_num, HN1.out q2⟩
    | succ gk =>
      have hk : k < 64 := by omega
      have hkI : (k : Int) < 64 := by omega
      have hix := HIX.out k hk
      have hy8 := HB.out k
      obtain ⟨q, hq⟩ : ∃ q, k / 4 = q := ⟨_, rfl⟩
      have hq64 : q < 64 := by omega
      have hqI : (q : Int) < 64 := by omega
      have hc := HW.out.ws.cell q hq64
      have hfz := HW.out.ws.frozen q
      have hx24 := pws_lt HB.out k q hq
      have hn := HW.out.store HG.out q (pws B k q * 256 + B k)
      have HN := Lib.hid (hn.congr (fun j _ => pws_step B k q j hq))
      clear hn
      obtain ⟨x, hx⟩ : ∃ x, pws B k q = x := ⟨_, rfl⟩
      obtain ⟨y, hy⟩ : ∃ y, B k = y := ⟨_, rfl⟩
      rw [hx] at hc hx24 HN
      rw [hy] at hix hy8 HN
      obtain ⟨x8, hx8⟩ : ∃ v, x * 256 = v := ⟨_, rfl⟩
      obtain ⟨z, hz⟩ : ∃ v, x8 + y = v := ⟨_, rfl⟩
      rw [hx8, hz] at HN
      have e1 : (k : Int) / 4 = (q : Int) := by omega
      have e1' : (k : Int).tdiv 4 = (q : Int) := by rw [Int.tdiv_eq_ediv_of_nonneg (by omega)]; omega
      have e2 : IntKind.u32.wrap ((x : Int) * 256) = (x8 : Int) := by rw [IntKind.wrap_u32]; omega
      have e2' : (x : Int) * 256 = (x8 : Int) := by omega
      have e4 : (x8 : Int) % 4294967296 = (x8 : Int) := by omega
      have e3 : bits .or .u32 (x8 : Int) (y : Int) = (z : Int) := by rw [u32_or_nat x8 y (by omega) (by omega), ← hx8, or_byte x y hy8, hx8, hz]
      clear hq hx hy hx8 hz hkg hx24
      go_wp2
      go_roundg gk
      case measure => omega
      case rel => exact ⟨k + 1, by have := HKG.out; omega, by go_num, HN.out⟩
end Go.Proofs.YtfhmafncpodlbaaDoor

/-
  A region that draws its order, walked by a plan: operations that only read what stays are taken ahead, one that alone may come up comes up, and where two or three may come up next each of them is walked. Conditions: a check of the region's text (by the kernel); of no program in particular.
-/
namespace Go.Proofs.YtfhmafncpodlbaaDoor
open Go

/-- A plan: the end; an operation that only reads what stays; the only one that may come up; one of two; one of three. -/
inductive Plan where
  | done : Plan
  | yes : Nat → Plan → Plan
  | one : Nat → Plan → Plan
  | two : Nat → Plan → Nat → Plan → Plan
  | three : Nat → Plan → Nat → Plan → Nat → Plan → Plan

section
variable {P : Program} {Q : Exit → Act → World → Prop} {md : Region.Mode} {C : World → Prop}
/-- Operation i, and then K. -/
def wpStepP (P : Program) (l : List Oper) (Q : Exit → Act → World → Prop) (i : Nat) (K : Act → World → Prop) (a : Act) (w : World) : Prop :=
  ∃ o, l[i]? = some o ∧ wpList P l.toArray (Exit.then K Q) [o] a w
/-- The walk by a plan. -/
def wpPlan (P : Program) (l : List Oper) (C : World → Prop) (F : Nat → Bool) (Q : Exit → Act → World → Prop) : Plan → Act → World → Prop
  | .done, a, w => wpList P l.toArray Q [] a w
  | .yes i p, a, w => ∃ o v, l[i]? = some o ∧ YieldsC P l.toArray C o v a ∧ wpPlan P l C F Q p (a.put o.dst v) w
  | .one i p, a, w => wpStepP P l Q i (fun a' w' => (F i = true → C w') ∧ wpPlan P l C F Q p a' w') a w
  | .two i p j q, a, w => wpStepP P l Q i (fun a' w' => (F i = true → C w') ∧ wpPlan P l C F Q p a' w') a w ∧ wpStepP P l Q j (fun a' w' => (F j = true → C w') ∧ wpPlan P l C F Q q a' w') a w
  | .three i p j q k r, a, w => wpStepP P l Q i (fun a' w' => (F i = true → C w') ∧ wpPlan P l C F Q p a' w') a w ∧ wpStepP P l Q j (fun a' w' => (F j = true → C w') ∧ wpPlan P l C F Q q a' w') a w ∧ wpStepP P l Q k (fun a' w' => (F k = true → C w') ∧ wpPlan P l C F Q r a' w') a w
theorem plan_yes {F : Nat → Bool} {l : List Oper} {i : Nat} {o : Oper} {π : Plan} {a : Act} {w : World} (ho : l[i]? = some o)
    (h : ∀ K : Act → Prop, (∀ a', wpPlan P l C F Q π a' w → K a') → Region.wanted o (yielded l.toArray a.tmps) = true ∧ ∃ v, (∀ W, C W → (execOp a.eval o).run P W = .ok (.value v) W) ∧ K (a.put o.dst v)) : wpPlan P l C F Q (.yes i π) a w := by
  obtain ⟨h1, v, h2, h3⟩ := h (fun a' => wpPlan P l C F Q π a' w) (fun _ h => h)
  exact ⟨o, v, ho, .inl ⟨h1, h2⟩, h3⟩
theorem plan_call {F : Nat → Bool} {l : List Oper} {i : Nat} {o : Oper} {π : Plan} {a : Act} {w : World} (ho : l[i]? = some o)
    (h : ∀ K : Act → Prop, (∀ a', wpPlan P l C F Q π a' w → K a') → Region.wanted o (yielded l.toArray a.tmps) = true ∧ ∃ f args v, (∀ W, C W → (execOp a.eval o).run P W = .ok (.enter f args) W) ∧ (∀ W, C W → Calls P f args W (fun e w' => e = .returned v ∧ W = w')) ∧ K (a.put o.dst v)) : wpPlan P l C F Q (.yes i π) a w := by
  obtain ⟨h1, f, args, v, h2, h3, h4⟩ := h (fun a' => wpPlan P l C F Q π a' w) (fun _ h => h)
  exact ⟨o, v, ho, .inr (.inr ⟨h1, f, args, h2, h3⟩), h4⟩
theorem plan_load {F : Nat → Bool} {l : List Oper} {i : Nat} {o : Oper} {π : Plan} {a : Act} {w : World} (ho : l[i]? = some o) (ty : TypeId) (x : Operand) (hop : o.op = .load ty x) (v : Value)
    (hw : Region.wanted o (yielded l.toArray a.tmps) = true) (hrun : ∀ W, C W → (Instr.loadAt ty (a.eval x)).run P W = .ok v W) (h : wpPlan P l C F Q π (a.put o.dst v) w) : wpPlan P l C F Q (.yes i π) a w :=
  plan_yes ho (fun _ hK => ⟨hw, v, fun W hW => by simp only [execOp, hop, Sem.run_bind, hrun W hW, Result.andThen, Sem.run_pure], hK _ h⟩)
theorem plan_toArray {F : Nat → Bool} {l : List Oper} {i : Nat} {o : Oper} {π : Plan} {a : Act} {w : World} (ho : l[i]? = some o) (ty : TypeId) (x : Operand) (hop : o.op = .sliceToArrayPointer ty x) (v : Value)
    (hw : Region.wanted o (yielded l.toArray a.tmps) = true) (hrun : ∀ W, C W → (Instr.arrayAt ty (a.eval x)).run P W = .ok v W) (h : wpPlan P l C F Q π (a.put o.dst v) w) : wpPlan P l C F Q (.yes i π) a w :=
  plan_yes ho (fun _ hK => ⟨hw, v, fun W hW => by simp only [execOp, hop, Sem.run_bind, hrun W hW, Result.andThen, Sem.run_pure], hK _ h⟩)
theorem stepP_of {l : List Oper} {i : Nat} {o : Oper} {a : Act} {w : World} {K : Act → World → Prop} (ho : l[i]? = some o)
    (h : ∀ K' : Act → World → Prop, (∀ a' w', K a' w' → K' a' w') → wpList P l.toArray (Exit.then K' Q) [o] a w) : wpStepP P l Q i K a w := ⟨o, ho, h K (fun _ _ h => h)⟩
theorem plan_one {F : Nat → Bool} {l : List Oper} {i : Nat} {o : Oper} {π : Plan} {a : Act} {w : World} (ho : l[i]? = some o)
    (h : ∀ K : Act → World → Prop, (∀ a' w', (F i = true → C w') ∧ wpPlan P l C F Q π a' w' → K a' w') → wpList P l.toArray (Exit.then K Q) [o] a w) : wpPlan P l C F Q (.one i π) a w := stepP_of ho h
theorem plan_two {F : Nat → Bool} {l : List Oper} {i j : Nat} {o u : Oper} {p q : Plan} {a : Act} {w : World} (ho : l[i]? = some o) (hu : l[j]? = some u)
    (h1 : ∀ K : Act → World → Prop, (∀ a' w', (F i = true → C w') ∧ wpPlan P l C F Q p a' w' → K a' w') → wpList P l.toArray (Exit.then K Q) [o] a w)
    (h2 : ∀ K : Act → World → Prop, (∀ a' w', (F j = true → C w') ∧ wpPlan P l C F Q q a' w' → K a' w') → wpList P l.toArray (Exit.then K Q) [u] a w) : wpPlan P l C F Q (.two i p j q) a w := ⟨stepP_of ho h1, stepP_of hu h2⟩
/-- The check: c says whether the world is in the class; n operations are left. -/
def planB (md : Region.Mode) (ops : Array Oper) (F : Nat → Bool) : Nat → Bool → Plan → Array Bool → Bool
  | 0, _, .done, listed => (Region.ready md ops listed).isEmpty
  | n + 1, c, .yes i p, listed => c && (Region.ready md ops listed).contains i && Region.free md ops listed i && behindB md ops F i && planB md ops F n c p (listed.setIfInBounds i true)
  | n + 1, c, .one i p, listed => (Region.ready md ops listed == [i]) && planB md ops F n (c && F i) p (listed.setIfInBounds i true)
  | n + 1, c, .two i p j q, listed => (Region.ready md ops listed == [i, j]) && planB md ops F n (c && F i) p (listed.setIfInBounds i true) && planB md ops F n (c && F j) q (listed.setIfInBounds j true)
  | n + 1, c, .three i p j q k r, listed => (Region.ready md ops listed == [i, j, k]) && planB md ops F n (c && F i) p (listed.setIfInBounds i true) && planB md ops F n (c && F j) q (listed.setIfInBounds j true) && planB md ops F n (c && F k) r (listed.setIfInBounds k true)
  | _, _, _, _ => false
theorem wpAnyC_of_plan {F : Nat → Bool} {l : List Oper} (hsel : Region.noSelect l.toArray = true) (hQ : ∀ c a a' w, a.defers = a'.defers → Q (.panic c) a w → Q (.panic c) a' w) :
    ∀ (n : Nat) (π : Plan) (c : Bool) (listed : Array Bool) (a : Act) (w : World), (c = true → C w) → Closed md l.toArray listed → planB md l.toArray F n c π listed = true → wpPlan P l C F Q π a w → wpAnyC P md l.toArray C F Q n listed a w := by
  intro n
  induction n with
  | zero =>
    intro π c listed a w hC hcl hB h
    cases π <;> simp only [planB, Bool.false_eq_true] at hB
    exact ⟨by simpa using hB, h⟩
  | succ n ih =>
    have step : ∀ (i : Nat) (p : Plan) (c : Bool) (listed : Array Bool) (a : Act) (w : World), (c = true → C w) → Closed md l.toArray listed → i ∈ Region.ready md l.toArray listed → planB md l.toArray F n (c && F i) p (listed.setIfInBounds i true) = true →
        wpStepP P l Q i (fun a' w' => (F i = true → C w') ∧ wpPlan P l C F Q p a' w') a w → wpOp P l.toArray Q i (fun a' w' => (F i = true → C w') ∧ wpAnyC P md l.toArray C F Q n (listed.setIfInBounds i true) a' w') a w := by
      intro i p c listed a w hC hcl hr hB ⟨o, ho0, hK⟩
      have ho : l.toArray[i]? = some o := by simpa using ho0
      refine wpOp_mono (fun a' w' h' => ⟨h'.1, ih p (c && F i) _ a' w' (fun hcf => ?_) (hcl.set hr) hB h'.2⟩) (wpOp_of_one ho hK)
      rw [Bool.and_eq_true] at hcf
      exact h'.1 hcf.2
    intro π c listed a w hC hcl hB h
    cases π with
    | done => simp [planB] at hB
    | yes i p =>
      obtain ⟨o, v, ho0, hy, hK⟩ := h
      have ho : l.toArray[i]? = some o := by simpa using ho0
      simp only [planB, Bool.and_eq_true] at hB
      obtain ⟨⟨⟨⟨hc, hr⟩, hf⟩, hb⟩, hrest⟩ := hB
      have hr' : i ∈ Region.ready md l.toArray listed := by simpa using hr
      exact wpAnyC_first ho (Region.noSelect_spec hsel) (fun ch a w h => hQ ch _ _ w (by cases o.dst <;> rfl) h) hb n listed a w (hC hc) hcl (Region.free_spec ho hf) hr' hy (ih p c _ _ _ hC (hcl.set hr') hrest hK)
    | one i p =>
      simp only [planB, Bool.and_eq_true] at hB
      have hr : Region.ready md l.toArray listed = [i] := by simpa using hB.1
      refine ⟨fun h0 => absurd h0 (by rw [hr]; simp), fun j hj => ?_⟩
      obtain rfl : j = i := by rw [hr] at hj; simpa using hj
      exact step j p c listed a w hC hcl hj hB.2 h
    | two i p j q =>
      simp only [planB, Bool.and_eq_true] at hB
      have hr : Region.ready md l.toArray listed = [i, j] := by simpa using hB.1.1
      refine ⟨fun h0 => absurd h0 (by rw [hr]; simp), fun k hk => ?_⟩
      have hk' : k = i ∨ k = j := by rw [hr] at hk; simpa using hk
      rcases hk' with rfl | rfl
      · exact step k p c listed a w hC hcl hk hB.1.2 h.1
      · exact step k q c listed a w hC hcl hk hB.2 h.2
    | three i p j q k r =>
      simp only [planB, Bool.and_eq_true] at hB
      have hr : Region.ready md l.toArray listed = [i, j, k] := by simpa using hB.1.1.1
      refine ⟨fun h0 => absurd h0 (by rw [hr]; simp), fun m hm => ?_⟩
      have hm' : m = i ∨ m = j ∨ m = k := by rw [hr] at hm; simpa using hm
      rcases hm' with rfl | rfl | rfl
      · exact step m p c listed a w hC hcl hm hB.1.1.2 h.1
      · exact step m q c listed a w hC hcl hm hB.1.2 h.2.1
      · exact step m r c listed a w hC hcl hm hB.2 h.2.2
theorem wp_region_plan {id : Nat} {a : Act} {w : World} {l : List Oper} (C : World → Prop) (F : List Nat) (π : Plan) (hm : P.follows .mixedOrders = true) (hQ : ∀ c a a' w, a.defers = a'.defers → Q (.panic c) a w → Q (.panic c) a' w)
    (hB : (Region.noSelect l.toArray && planB .any l.toArray (fun i => F.contains i) l.length true π (Array.replicate l.length false)) = true) (hC : C w.drew) (h : wpPlan P l C (fun i => F.contains i) Q π a w.drew) : (Code.region id l.toArray true).wp P Q a w := by
  simp only [Bool.and_eq_true] at hB
  obtain ⟨hsel, hst⟩ := hB
  refine wp_region_any hm (wpAny_of_C (C := C) (F := fun i => F.contains i) _ _ _ _ ?_)
  have h1 := wpAnyC_of_plan (P := P) (Q := Q) (C := C) (md := .any) hsel hQ l.length π true (Array.replicate l.length false) a w.drew (fun _ => hC) (fun j oj _ hl => by rw [getD_replicate_false] at hl; cases hl) hst h
  have hsz : l.toArray.size = l.length := by simp
  rw [hsz]
  exact h1
end
end Go.Proofs.YtfhmafncpodlbaaDoor

/-
  Slices of numbers of one kind that read as a list, and such slices of a call's own: what append does with them. Conditions: the lengths add up to no more than 2^20.
-/
namespace Go.Proofs.YtfhmafncpodlbaaDoor
open Go.RowKit
open Pol (co Sm)

/-- S is the type of slices of T, numbers of kind k. -/
structure NumT (S T : TypeId) (k : IntKind) : Prop where
  sl : Tryd.prog.underlying S = some (.slice T)
  info : ∃ m, m ≤ 8 ∧ 0 < m ∧ (Tryd.prog.info? T).map (fun i => (i.zero, i.size, i.bytes)) = some (some (.int k 0), 1, m)
  el : Tryd.prog.elem S = T
theorem nt64 : NumT 42 46 .u64 := ⟨Tryd.underlying42, ⟨8, by decide, by decide, by kernel_rfl⟩, by kernel_rfl⟩
theorem nt32 : NumT 44 38 .u32 := ⟨Tryd.underlying44, ⟨4, by decide, by decide, by kernel_rfl⟩, by kernel_rfl⟩

section
variable {S T : TypeId} {k : IntKind}
def nv (k : IntKind) (l : List Nat) : List Value := l.map fun x : Nat => Value.int k (x : Int)
theorem nv_len (l : List Nat) : (nv k l).length = l.length := by simp [nv]
theorem nv_at (l : List Nat) (i : Nat) (h : i < l.length) : (nv k l)[i]? = some (.int k ((co l i : Nat) : Int)) := by simp [nv, co, List.getElem?_eq_getElem h]
theorem nv_append (l m : List Nat) : nv k (l ++ m) = nv k l ++ nv k m := by simp [nv]
/-- From address A on lie the numbers l. -/
def NRd (k : IntKind) (w : World) (A : Option Addr) (l : List Nat) : Prop := ∀ i, i < l.length → ∃ b o, A = some ⟨b, o, none⟩ ∧ w.cell? ⟨b, o + i, none⟩ = some (.int k ((co l i : Nat) : Int))
theorem NRd.ext {w w' : World} {A : Option Addr} {l : List Nat} (h : NRd k w A l) (hx : Ext w w') : NRd k w' A l := fun i hi => by
  obtain ⟨b, o, e, hc⟩ := h i hi
  exact ⟨b, o, e, (hx.below.cell (p := ⟨b, o + i, none⟩) (block_lt_of_cell hc)).trans hc⟩
theorem NRd.nil (w : World) (A : Option Addr) : NRd k w A [] := fun i hi => absurd hi (by simp)
/-- A slice of numbers of the call's own. -/
def NMine (T : TypeId) (k : IntKind) (w : World) (base : Nat) (v : Value) (l : List Nat) : Prop := w.ownsRow base T 1 v l.length (nv k l)
theorem NMine.nil (w : World) (base : Nat) : NMine T k w base (.slice none 0 0) [] := World.ownsRow_nil w base _ _
theorem NMine.slice {w : World} {base : Nat} {v : Value} {l : List Nat} (h : NMine T k w base v l) : ∃ B c, v = .slice B l.length c ∧ l.length ≤ c ∧ NRd k w B l := by
  rcases h.2 with ⟨rfl, hn⟩ | ⟨g, cap, cur, rfl, _, hg, hnc, _, _, htake⟩
  · have : l = [] := List.eq_nil_of_length_eq_zero hn
    subst this
    exact ⟨none, 0, rfl, Nat.le_refl _, NRd.nil _ _⟩
  · refine ⟨_, cap, rfl, hnc, fun i hi => ⟨g, 0, rfl, ?_⟩⟩
    rw [Nat.zero_add, cell_of_row w g i cur _ _ hg, ← nv_at l i hi, ← htake, List.getElem?_take, if_pos (by omega)]
    simp
theorem NMine.ext {w w' : World} {base : Nat} {v : Value} {l : List Nat} (h : NMine T k w base v l) (hx : Ext w w') : NMine T k w' base v l :=
  World.ownsRow.kept h (row := none) ⟨hx.below.os, hx.below.tape, hx.below.output, hx.below.size, fun k hk _ => hx.below.block k hk⟩ (by
    cases hb : v.ownBlock with
    | none => exact .inl rfl
    | some k => exact .inr (by simp))
theorem NMine.keep {w w' : World} {base : Nat} {v : Value} {l : List Nat} {row : Option Nat} (h : NMine T k w base v l) (hg : w.grownBy w' row) (hne : ∀ k, v.ownBlock = some k → some k ≠ row) : NMine T k w' base v l :=
  World.ownsRow.kept h hg (by
    cases hb : v.ownBlock with
    | none => exact .inl rfl
    | some k => exact .inr (hne k hb))
theorem NMine.down {w : World} {base base' : Nat} {v : Value} {l : List Nat} (h : NMine T k w base v l) (hb : base' ≤ base) : NMine T k w base' v l :=
  ⟨h.1, h.2.imp id fun ⟨g, cap, cur, h1, h2, h3⟩ => ⟨g, cap, cur, h1, Nat.le_trans hb h2, h3⟩⟩
theorem NMine.block {w : World} {base : Nat} {v : Value} {l : List Nat} (h : NMine T k w base v l) : ∀ k, v.ownBlock = some k → base ≤ k ∧ k < w.heap.size := fun k hk => World.ownsRow.lt h k hk
theorem nmine_lit (w : World) (l : List Nat) (h : l.length ≤ 1048576) : NMine T k (w.alloc (.cells (nv k l).toArray T)) w.heap.size (.slice (some ⟨w.heap.size, 0, none⟩) l.length l.length) l := by
  have h1 := World.ownsRow_lit w (e := T) (size := 1) (base := w.heap.size) (nv k l).toArray l.length (Nat.le_refl _) (by unfold maxLen; omega) (by simp [nv_len])
  exact h1
theorem nrd_lit (w : World) (l : List Nat) : NRd k (w.alloc (.cells (nv k l).toArray T)) (some ⟨w.heap.size, 0, none⟩) l := fun i hi =>
  ⟨w.heap.size, 0, rfl, by
    rw [cell_of_row _ _ _ _ _ _ (heap_alloc_new w _), Nat.zero_add]
    simpa using nv_at l i hi⟩
set_option maxRecDepth 100000 in
theorem wpList_append_nums (nt : NumT S T k) {ops : Array Oper} {rest : List Oper} {o : Oper} {a : Act} {w : World} {Q : Exit → Act → World → Prop} (hgd : o.guard = none) (s x : Operand)
    (ho : o.op = .call { callee := .builtin .append, args := #[s, x], argTypes := #[S, S] })
    (base : Nat) (v : Value) (l m : List Nat) (hs : a.eval s = v) (hown : NMine T k w base v l) (b p n c : Nat) (hx : a.eval x = .slice (some ⟨b, p, none⟩) n c) (hn : m.length = n) (hr : ∀ i, i < m.length → w.cell? ⟨b, p + i, none⟩ = some (.int k ((co m i : Nat) : Int)))
    (hlen : l.length + m.length ≤ 1048576) (hbase : base ≤ w.heap.size)
    (h : ∀ v' w', NMine T k w' base v' (l ++ m) → w.grownBy w' v.ownBlock → (v'.ownBlock = v.ownBlock ∨ v'.ownBlock = some w.heap.size) → wpList Tryd.prog ops Q rest (a.put o.dst v') w') :
    wpList Tryd.prog ops Q (o :: rest) a w := by
  subst hn
  refine wpList_plain hgd fun K hK => ?_
  obtain ⟨z, hz8, hz0', hinf⟩ := nt.info
  obtain ⟨i0, hi, hz0, hz1, hz2⟩ := info_parts hinf
  obtain ⟨v', w', h1, h2, h3, _, h5⟩ := run_append_own_at (P := Tryd.prog) w base S o.type T i0 (.int k 0) 1 z nt.sl hi hz0 hz1 hz2 rfl (by omega) v l.length (nv k l) hown ⟨b, p, none⟩ m.length c (nv k m) (by rw [nv_len, Nat.mul_one])
    (fun j u hu => by
      have hj : j < m.length := by
        have := (List.getElem?_eq_some_iff.1 hu).1
        rwa [nv_len] at this
      rw [addr_add, hr j hj, ← nv_at m j hj, hu]) (fun u hu => by
      obtain ⟨y, _, rfl⟩ := List.mem_map.1 hu
      rfl) (by unfold maxLen; omega) (by
        have : (l.length + m.length) * z ≤ 1048576 * 8 := Nat.mul_le_mul hlen hz8
        omega) hbase
  unfold Oper.wp execOp
  simp only [ho, resolve, invoke, builtin, Sem.run_bind, Sem.run_pure, Result.andThen_ok, List.map_toArray, List.map_cons, List.map_nil, hs, hx, h1]
  exact hK _ _ (h v' w' (by unfold NMine; rw [List.length_append, nv_append]; exact h2) h3 h5)
/-- One number that a literal holds. -/
theorem one_num {w : World} {x : Nat} {T : TypeId} : ∀ i, i < [x].length → (w.alloc (.cells #[.int k (x : Int)] T)).cell? ⟨w.heap.size, 0 + i, none⟩ = some (.int k ((co [x] i : Nat) : Int)) := fun i hi => by
  have h0 : i = 0 := by simpa using hi
  subst h0
  rw [cell_of_row _ _ _ _ _ _ (heap_alloc_new w _)]
  rfl
end
end Go.Proofs.YtfhmafncpodlbaaDoor

/-
  What the document's own times of layer 10 does. Conditions: no more than 2^16 digits.
-/
namespace Go.Proofs.YtfhmafncpodlbaaDoor
open Go.RowKit
open Pol (co Sm)

/-- Numbers of a call's own. -/
def GivesN (k : IntKind) (T : TypeId) (l : List Nat) (w : World) (e : Ending) (w' : World) : Prop := ∃ v, e = .returned v ∧ NMine T k w' w.heap.size v l ∧ Ext w w'
theorem drop_co (l : List Nat) (i : Nat) (h : i < l.length) : l.drop i = co l i :: l.drop (i + 1) := by
  rw [List.drop_eq_getElem_cons h, show co l i = l[i] from by simp [co, List.getElem?_eq_getElem h]]

set_option maxHeartbeats 800000 in
set_option maxRecDepth 100000 in
theorem ref10_times (l : List Nat) (n : Nat) (b o c : Nat) (w : World) (hr : ∀ i, i < l.length → w.cell? ⟨b, o + i, none⟩ = some (.int .u64 ((co l i : Nat) : Int))) (hl : l.length ≤ 65536) (hd : Dg l) (hn : n < 1099511627776) :
    Calls Tryd.prog 37 #[.slice (some ⟨b, o, none⟩) l.length c, .int .u64 (n : Int)] w (GivesN .u64 46 (tms n 0 l) w) := by
  unfold GivesN
  have hok := tms_ok n (by omega) l 0 hd (Nat.zero_le _)
  have HLEN := Lib.hid hok.2.2
  have HD := Lib.hid hd
  have HR := Lib.hid hr
  obtain ⟨L, hL⟩ : ∃ L, l.length = L := ⟨_, rfl⟩
  have HL := Lib.hid hL
  rw [hL] at hl HLEN HR ⊢
  obtain ⟨V, hV⟩ : ∃ V, tms n 0 l = V := ⟨_, rfl⟩
  have HV := Lib.hid (show [] ++ tms n 0 (l.drop 0) = V from hV)
  rw [hV] at HLEN ⊢
  clear hr hL hV hok hd
  go_enter Tryd.func37, Tryd.ntmps37
  go_wp2
  go_loopg [5, 6, 7] V.length (fun g s5 s6 s7 wx => ∃ (i cy : Nat) (out : List Nat), out ++ tms n cy (l.drop i) = V ∧ (tms n cy (l.drop i)).length = g ∧ cy ≤ n ∧ out.length = i ∧ s7 = .int .i64 (i : Int) ∧ s6 = .int .u64 (cy : Int) ∧ NMine 46 .u64 wx w.heap.size s5 out ∧ Ext w wx)
  case atStart => exact ⟨0, 0, [], HV.out, by rw [← HV.out]; rfl, Nat.zero_le _, rfl, rfl, rfl, NMine.nil _ _, Ext.refl _⟩
  case round =>
    obtain ⟨i, cy, out, hov, hg, hcy, hiV, rfl, rfl, hm, hx⟩ := hrel
    have hVl : V.length ≤ 65540 := by have := HLEN.out; omega
    have HM := Lib.hid hm
    have HX := Lib.hid hx
    obtain ⟨B5, c5, rfl, hc5, _⟩ := hm.slice
    have hol : out.length + gk = V.length := by rw [← hov, List.length_append, hg]
    have hs := hx.size
    obtain ⟨lo, hlo⟩ : ∃ lo, out.length = lo := ⟨_, rfl⟩
    have HLO := Lib.hid hlo
    rw [hlo] at hol HM hc5 hiV ⊢
    have hiV2 := hiV.symm
    clear hiV
    subst hiV2
    clear hm hx hlo
    by_cases hi : i < L
    · have d1 : decide ((i : Int) < (L : Int)) = true := decide_eq_true (by omega)
      have hiI : (i : Int) < (L : Int) := by omega
      have hcell := (HX.out.below.cell (p := ⟨b, o + i, none⟩) (block_lt_of_cell (HR.out i hi))).trans (HR.out i hi)
      have hd16 : co l i < 65536 := HD.out.at i
      rw [drop_co l i (by rw [HL.out]; exact hi), tms_cons] at hov hg
      obtain ⟨dd, hdd⟩ : ∃ dd, co l i = dd := ⟨_, rfl⟩
      rw [hdd] at hcell hd16 hov hg
      obtain ⟨x1, hx1⟩ : ∃ x, dd * n = x := ⟨_, rfl⟩
      have hx1b : x1 ≤ 65535 * n := by rw [← hx1]; exact Nat.mul_le_mul_right _ (by omega)
      rw [hx1] at hov hg
      obtain ⟨x, hx⟩ : ∃ x, cy + x1 = x := ⟨_, rfl⟩
      rw [hx] at hov hg
      have e1 : (dd : Int) * (n : Int) = (x1 : Int) := by rw [← hx1]; exact (Int.natCast_mul dd n).symm
      have e2 : (cy : Int) + (x1 : Int) = (x : Int) := by omega
      obtain ⟨y, hy⟩ : ∃ y, x % 65536 = y := ⟨_, rfl⟩
      obtain ⟨z, hz⟩ : ∃ z, x / 65536 = z := ⟨_, rfl⟩
      rw [hy, hz] at hov hg
      have e3 : (x : Int) % 65536 = (y : Int) := by omega
      have e4 : (x : Int) / 65536 = (z : Int) := by omega
      have hzn : z ≤ n := by omega
      have hxb : x < 18446744073709551616 := by omega
      have hx1b2 : x1 < 18446744073709551616 := by omega
      have hyb : y < 65536 := by omega
      cases gk with
      | zero => rw [List.length_cons] at hg; omega
      | succ g =>
        have HOV := Lib.hid (show (out ++ [y]) ++ tms n z (l.drop (i + 1)) = V from by rw [List.append_assoc]; exact hov)
        have HG := Lib.hid (show (tms n z (l.drop (i + 1))).length = g from by rw [List.length_cons] at hg; omega)
        clear hov hg hdd hx1 hx hy hz
        go_wp2_with (at_builtin; refine wpList_append_nums nt64 rfl (.tmp 32) (.tmp 35) rfl w.heap.size (.slice B5 i c5) out [y] rfl (HM.out.ext ((Ext.refl _).alloc _)) wr.heap.size 0 1 1 rfl rfl one_num (by rw [HLO.out]; simp; omega) (by simp; omega) ?_; intro v7 w7 hown7 hg7 hat7; have HX7 := Lib.hid ((HX.out.alloc (.cells #[.int .u64 (y : Int)] 46)).more hg7 (fun q hq => (HM.out.block q hq).1)); have HM7 := Lib.hid hown7; clear hown7 hg7 hat7)
        go_roundg g
        case measure => omega
        case rel => exact ⟨i + 1, z, out ++ [y], HOV.out, HG.out, hzn, by rw [List.length_append, HLO.out]; rfl, by go_num, rfl, HM7.out, HX7.out⟩
    · have d1 : decide ((i : Int) < (L : Int)) = false := decide_eq_false (by omega)
      rw [List.drop_eq_nil_of_le (by rw [HL.out]; omega)] at hov hg
      by_cases h0 : cy = 0
      · subst h0
        rw [tms_zero, List.append_nil] at hov
        subst hov
        go_wp2
        go_ret
        exact ⟨_, rfl, HM.out, HX.out⟩
      · have d2 : decide (0 < (cy : Int)) = true := decide_eq_true (by omega)
        have d3 : decide (0 < cy) = true := decide_eq_true (by omega)
        rw [tms_more n cy h0] at hov hg
        obtain ⟨y, hy⟩ : ∃ y, cy % 65536 = y := ⟨_, rfl⟩
        obtain ⟨z, hz⟩ : ∃ z, cy / 65536 = z := ⟨_, rfl⟩
        rw [hy, hz] at hov hg
        have e3 : (cy : Int) % 65536 = (y : Int) := by omega
        have e4 : (cy : Int) / 65536 = (z : Int) := by omega
        have hzn : z ≤ n := by omega
        have hyb : y < 65536 := by omega
        cases gk with
        | zero => rw [List.length_cons] at hg; omega
        | succ g =>
          have HOV := Lib.hid (show (out ++ [y]) ++ tms n z (l.drop (i + 1)) = V from by rw [List.append_assoc, List.drop_eq_nil_of_le (by rw [HL.out]; omega)]; exact hov)
          have HG := Lib.hid (show (tms n z (l.drop (i + 1))).length = g from by rw [List.drop_eq_nil_of_le (by rw [HL.out]; omega)]; rw [List.length_cons] at hg; omega)
          clear hov hg hy hz
          go_wp2_with (at_builtin; refine wpList_append_nums nt64 rfl (.tmp 32) (.tmp 35) rfl w.heap.size (.slice B5 i c5) out [y] rfl (HM.out.ext ((Ext.refl _).alloc _)) wr.heap.size 0 1 1 rfl rfl one_num (by rw [HLO.out]; simp; omega) (by simp; omega) ?_; intro v7 w7 hown7 hg7 hat7; have HX7 := Lib.hid ((HX.out.alloc (.cells #[.int .u64 (y : Int)] 46)).more hg7 (fun q hq => (HM.out.block q hq).1)); have HM7 := Lib.hid hown7; clear hown7 hg7 hat7)
          go_roundg g
          case measure => omega
          case rel => exact ⟨i + 1, z, out ++ [y], HOV.out, HG.out, hzn, by rw [List.length_append, HLO.out]; rfl, by go_num, rfl, HM7.out, HX7.out⟩
end Go.Proofs.YtfhmafncpodlbaaDoor

/-
  What the document's own above of layer 10 does. Conditions: no more than three factors, below 2^40.
-/
namespace Go.Proofs.YtfhmafncpodlbaaDoor
open Go.RowKit
open Pol (co Sm)

/-- No block of one is the other's. -/
def NSp (u v : Value) : Prop := ∀ q, u.ownBlock = some q → v.ownBlock ≠ some q
theorem NSp.left {u u' v : Value} {n : Nat} (h : NSp u v) (ha : u'.ownBlock = u.ownBlock ∨ u'.ownBlock = some n) (hv : ∀ q, v.ownBlock = some q → q < n) : NSp u' v := fun q hq => by
  rcases ha with e | e
  · exact h q (e.symm.trans hq)
  · intro hv'
    rw [e] at hq
    injection hq with hq
    have := hv q hv'
    omega
theorem NSp.symm {u v : Value} (h : NSp u v) : NSp v u := fun q hq hu => h q hu hq
theorem prd_snoc : ∀ (l p : List Nat) (x : Nat), prd p (l ++ [x]) = tms x 0 (prd p l)
  | [], _, _ => rfl
  | f :: l, p, x => prd_snoc l (tms f 0 p) x
theorem tms_ne (n c : Nat) : ∀ l : List Nat, l ≠ [] → tms n c l ≠ []
  | [], h => absurd rfl h
  | d :: l, _ => by rw [tms_cons]; simp
theorem prd_ne : ∀ (fs p : List Nat), p ≠ [] → prd p fs ≠ []
  | [], _, h => h
  | f :: fs, p, h => prd_ne fs (tms f 0 p) (tms_ne f 0 p h)
theorem take_snoc (l : List Nat) (i : Nat) (h : i < l.length) : l.take (i + 1) = l.take i ++ [co l i] := by
  rw [List.take_succ_eq_append_getElem h, show co l i = l[i] from by simp [co, List.getElem?_eq_getElem h]]
theorem zs_succ (n : Nat) : zs (n + 1) = zs n ++ [0] := by unfold zs; rw [List.replicate_succ']
theorem zs_len (n : Nat) : (zs n).length = n := by simp [zs]
/-- A slice of the call's own that has an element shows where it lies. -/
theorem NMine.some {T : TypeId} {k : IntKind} {w : World} {base : Nat} {v : Value} {l : List Nat} (h : NMine T k w base v l) (hl : l ≠ []) : ∃ g c, v = .slice (some ⟨g, 0, none⟩) l.length c ∧ l.length ≤ c ∧ base ≤ g ∧ g < w.heap.size ∧ ∀ i, i < l.length → w.cell? ⟨g, 0 + i, none⟩ = some (.int k ((co l i : Nat) : Int)) := by
  have hb := h.block
  obtain ⟨B, c, rfl, hc, hr⟩ := h.slice
  obtain ⟨b, o, rfl, hcell⟩ := hr 0 (List.length_pos_iff.2 hl)
  rcases h.2 with ⟨e, _⟩ | ⟨g, cap, cur, e, hg, _⟩
  · cases e
  · injection e with e1 _ _
    injection e1 with e1
    injection e1 with e1 e2
    subst e1; subst e2
    refine ⟨b, c, rfl, hc, (hb b rfl).1, (hb b rfl).2, fun i hi => ?_⟩
    obtain ⟨b', o', e', hc'⟩ := hr i hi
    injection e' with e'
    injection e' with e1 e2
    subst e1; subst e2
    exact hc'

set_option maxHeartbeats 1600000 in
set_option maxRecDepth 100000 in
theorem ref10_above (fs : List Nat) (p m : Nat) (b o c : Nat) (w : World) (hr : ∀ i, i < fs.length → w.cell? ⟨b, o + i, none⟩ = some (.int .u64 ((co fs i : Nat) : Int))) (hf : ∀ f ∈ fs, f < 1099511627776) (hfl : fs.length ≤ 3) (hp : p < 65536) (hm : m ≤ 3) :
    Calls Tryd.prog 32 #[.slice (some ⟨b, o, none⟩) fs.length c, .int .u64 (p : Int), .int .i64 (m : Int)] w (Tells (.bool (decide (p * 65536 ^ (2 * m) < fs.foldl (· * ·) 1))) w) := by
  have hpk := prd_ok fs [1] (fun f h => by have := hf f h; omega) (Dg.cons (by decide) Dg.nil)
  have HPK := Lib.hid hpk
  have HFI := Lib.hid (fun i (hi : i < fs.length) => show co fs i < 1099511627776 from by
    unfold co; rw [List.getElem?_eq_getElem hi]; exact hf _ (List.getElem_mem hi))
  have HTK := Lib.hid (fun i => prd_ok (fs.take i) [1] (fun f h => by have := hf f (List.mem_of_mem_take h); omega) (Dg.cons (by decide) Dg.nil))
  have HTS := Lib.hid (fun i (hi : i < fs.length) => show prd [1] (fs.take (i + 1)) = tms (co fs i) 0 (prd [1] (fs.take i)) from by rw [take_snoc fs i hi, prd_snoc])
  have HR := Lib.hid hr
  obtain ⟨F, hF⟩ : ∃ F, fs.length = F := ⟨_, rfl⟩
  have HF := Lib.hid hF
  have HFT := Lib.hid (show fs.take F = fs from by rw [← hF, List.take_length])
  rw [hF] at HFI HTS HR hfl ⊢
  obtain ⟨ans, hans⟩ : ∃ ans, decide (p * 65536 ^ (2 * m) < fs.foldl (· * ·) 1) = ans := ⟨_, rfl⟩
  have HANS := Lib.hid hans
  rw [hans]
  have HCN := Lib.hid (fun W => nmine_lit (k := .u64) (T := 46) W [1] (by decide))
  have HCP := Lib.hid (fun W => nmine_lit (k := .u64) (T := 46) W [p] (by simp))
  have HCZ := Lib.hid (fun W => nmine_lit (k := .u64) (T := 46) W [0] (by decide))
  clear hr hf hpk hF hans
  go_enter Tryd.func32, Tryd.ntmps32
  go_wp2
  go_loopg [7, 15] F (fun g s7 s15 wx => ∃ i : Nat, i + g = F ∧ s15 = .int .i64 (i : Int) ∧ NMine 46 .u64 wx w.heap.size s7 (prd [1] (fs.take i)) ∧ Ext w wx)
  case atStart => exact ⟨0, by omega, rfl, (HCN.out w), (Ext.refl w).alloc _⟩
  case round =>
    obtain ⟨i, hig, rfl, hmn, hx⟩ := hrel
    have HM := Lib.hid hmn
    have HX := Lib.hid hx
    cases gk with
    | zero =>
      obtain rfl : i = F := by omega
      rw [HFT.out] at HM
      obtain ⟨A, hA⟩ : ∃ A, prd [1] fs = A := ⟨_, rfl⟩
      rw [hA] at HM HPK
      have hAl : A.length ≤ 10 := by have h := HPK.out.2.2; rw [HF.out] at h; simp at h; omega
      have hAne : A ≠ [] := by rw [← hA]; exact prd_ne fs [1] (by simp)
      obtain ⟨g7, c7, rfl, hc7, hg7, hg7s, _⟩ := HM.out.some hAne
      obtain ⟨La, hLa⟩ : ∃ La, A.length = La := ⟨_, rfl⟩
      have HLA := Lib.hid hLa
      rw [hLa] at HM hc7 hAl ⊢
      have e2m : 2 * (m : Int) = ((2 * m : Nat) : Int) := by omega
      obtain ⟨M, hM⟩ : ∃ M, 2 * m = M := ⟨_, rfl⟩
      have e2 : 2 * (m : Int) = (M : Int) := by omega
      have HMM := Lib.hid hM
      have hM6 : M ≤ 6 := by omega
      have HWS := Lib.hid hx.size
      have hAnz := hAne
      clear hig hmn hx hA hLa e2m hM hAne
      go_wp2
      obtain ⟨w1, hw1⟩ : ∃ q, q = wr := ⟨_, rfl⟩
      subst hw1
      go_loopg [9, 10] M (fun g s9 s10 wx => ∃ j : Nat, j + g = M ∧ s10 = .int .i64 (j : Int) ∧ NMine 46 .u64 wx w1.heap.size s9 (zs j ++ [p]) ∧ Ext w1 wx)
      case atStart => exact ⟨0, by omega, rfl, (HCP.out w1), (Ext.refl w1).alloc _⟩
      case round =>
        obtain ⟨j, hjg, rfl, hmn, hx⟩ := hrel
        have HM2 := Lib.hid hmn
        have HX2 := Lib.hid hx
        obtain ⟨g9, c9, rfl, hc9, hg9, hg9s, hcell9⟩ := hmn.some (by simp)
        have hl9 : (zs j ++ [p]).length = j + 1 := by rw [List.length_append, zs_len]; rfl
        obtain ⟨L9, hL9⟩ : ∃ L9, (zs j ++ [p]).length = L9 := ⟨_, rfl⟩
        have HL9 := Lib.hid hL9
        have HC9 := Lib.hid hcell9
        have hs1 := hx.size
        have hws := HWS.out
        rw [hL9] at hc9 hl9 HM2 HC9 ⊢
        have HL9E := Lib.hid hl9
        have hL98 : L9 ≤ 7 := by omega
        clear hmn hx hcell9 hL9 hl9
        cases gk with
        | zero =>
          obtain rfl : j = M := by omega
          clear hjg
          have d1 : decide ((j : Int) < (j : Int)) = false := decide_eq_false (by omega)
          have HSP := Lib.hid (show NSp (.slice (some ⟨g7, 0, none⟩) La c7) (.slice (some ⟨g9, 0, none⟩) L9 c9) from fun q hq => by
            intro e
            have e1 : g7 = q := Option.some.inj hq
            have e2 : g9 = q := Option.some.inj e
            omega)
          have HM7 := Lib.hid (HM.out.ext HX2.out)
          have HX7 := Lib.hid (HX.out.trans HX2.out)
          go_wp2
          go_loopg [7] (L9 - La) (fun g s7 wx => ∃ x : Nat, L9 - (La + x) = g ∧ NMine 46 .u64 wx w.heap.size s7 (A ++ zs x) ∧ NMine 46 .u64 wx w1.heap.size (.slice (some ⟨g9, 0, none⟩) L9 c9) (zs j ++ [p]) ∧ NSp s7 (.slice (some ⟨g9, 0, none⟩) L9 c9) ∧ x ≤ 10 ∧ Ext w wx)
          case atStart => exact ⟨0, by omega, by rw [show zs 0 = [] from rfl, List.append_nil]; exact HM7.out, HM2.out, HSP.out, by omega, HX7.out⟩
          case round =>
            obtain ⟨x, hxg, hmp, hmw, hsp, hx10, hx⟩ := hrel
            have HMP := Lib.hid hmp
            have HMW := Lib.hid hmw
            have HSPX := Lib.hid hsp
            have HXX := Lib.hid hx
            have hwb := (hmw.block g9 rfl).2
            have hsz := hx.size
            have hAx : A ++ zs x ≠ [] := by
              intro e
              have := congrArg List.length e
              rw [List.length_append, HLA.out] at this
              have hA0 : 0 < La := by
                rcases Nat.eq_zero_or_pos La with h | h
                · exfalso
                  have hA0 : A = [] := List.eq_nil_of_length_eq_zero (HLA.out.trans h)
                  exact hAnz hA0
                · exact h
              simp at this
              omega
            obtain ⟨ga, ca, rfl, hca, hga, hgas, hcella⟩ := hmp.some hAx
            have hlx : (A ++ zs x).length = La + x := by rw [List.length_append, zs_len, HLA.out]
            obtain ⟨Lx, hLx⟩ : ∃ Lx, (A ++ zs x).length = Lx := ⟨_, rfl⟩
            have HLX := Lib.hid hLx
            rw [hLx] at hlx hca HMP HSPX ⊢
            have HLXE := Lib.hid hlx
            have hLx20 : Lx ≤ 20 := by omega
            clear hmp hmw hsp hx hLx hAx hlx
            by_cases hlt : Lx < L9
            · have t1 : decide ((Lx : Int) < (L9 : Int)) = true := decide_eq_true (by omega)
              go_wp2_with (at_builtin; refine wpList_append_nums nt64 rfl (.tmp 41) (.tmp 42) rfl w.heap.size (.slice (some ⟨ga, 0, none⟩) Lx ca) (A ++ zs x) [0] rfl (HMP.out.ext ((Ext.refl wr).alloc _)) wr.heap.size 0 1 1 rfl rfl one_num (by rw [HLX.out]; simp; omega) (by simp; omega) ?_; intro v7 w7 hown7 hgg7 hat7; rw [List.append_assoc, ← zs_succ] at hown7; have HX8 := Lib.hid ((HXX.out.alloc (.cells #[.int .u64 0] 46)).more hgg7 (fun q hq => (HMP.out.block q hq).1)); have HM8 := Lib.hid hown7; have HW8 := Lib.hid ((HMW.out.ext ((Ext.refl wr).alloc (.cells #[.int .u64 0] 46))).keep hgg7 (fun q hq e => HSPX.out q e.symm hq)); have HS8 := Lib.hid (HSPX.out.left hat7 (fun q hq => by have h := (HMW.out.block q hq).2; simp; omega)); clear hown7 hgg7 hat7)
              go_roundg (L9 - (La + (x + 1)))
              case measure => have := HLXE.out; omega
              case rel => exact ⟨x + 1, rfl, HM8.out, HW8.out, HS8.out, by have := HLXE.out; omega, HX8.out⟩
            · have t1 : decide ((Lx : Int) < (L9 : Int)) = false := decide_eq_false (by omega)
              clear hxg
              obtain ⟨PL, hPL⟩ : ∃ PL, A ++ zs x = PL := ⟨_, rfl⟩
              have HPL := Lib.hid (show Dg PL ∧ dv PL = fs.foldl (· * ·) 1 from by
                rw [← hPL]
                refine ⟨HPK.out.2.1.app (dg_zs x), ?_⟩
                rw [dv_pad, HPK.out.1]
                simp [dv])
              obtain ⟨WL, hWL⟩ : ∃ WL, zs j ++ [p] = WL := ⟨_, rfl⟩
              have HWL := Lib.hid (show Dg WL ∧ dv WL = p * 65536 ^ (2 * m) from by
                rw [← hWL]
                exact ⟨(dg_zs j).app (Dg.cons hp Dg.nil), by rw [dv_lead, HMM.out]⟩)
              rw [hPL] at HMP HLX
              rw [hWL] at HMW HL9
              have hw1s : w.heap.size ≤ w1.heap.size := hws
              clear hPL hWL hca hga
              go_wp2
              go_loopg [9] (Lx - L9) (fun g s9 wx => ∃ y : Nat, Lx - (L9 + y) = g ∧ NMine 46 .u64 wx w1.heap.size s9 (WL ++ zs y) ∧ NMine 46 .u64 wx w.heap.size (.slice (some ⟨ga, 0, none⟩) Lx ca) PL ∧ NSp s9 (.slice (some ⟨ga, 0, none⟩) Lx ca) ∧ L9 + y ≤ Lx ∧ Ext w wx)
              case atStart => exact ⟨0, by omega, by rw [show zs 0 = [] from rfl, List.append_nil]; exact HMW.out, HMP.out, HSPX.out.symm, by omega, HXX.out⟩
              case round =>
                obtain ⟨y, hyg, hmw, hmp, hsp, hyl, hx⟩ := hrel
                have HMP2 := Lib.hid hmp
                have HMW2 := Lib.hid hmw
                have HSP2 := Lib.hid hsp
                have HX2' := Lib.hid hx
                have hsz2 := hx.size
                have hgab := (hmp.block ga rfl).2
                have hlw : (WL ++ zs y).length = L9 + y := by rw [List.length_append, zs_len, HL9.out]
                have hWne : WL ++ zs y ≠ [] := by
                  intro e
                  have h0 := congrArg List.length e
                  rw [hlw] at h0
                  have := HL9E.out
                  simp at h0
                  omega
                obtain ⟨gw, cw, rfl, hcw, hgw, hgws, hcellw⟩ := hmw.some hWne
                have HCW := Lib.hid hcellw
                obtain ⟨Lw, hLw⟩ : ∃ Lw, (WL ++ zs y).length = Lw := ⟨_, rfl⟩
                have HLW := Lib.hid hLw
                have HLWE := Lib.hid (hLw.symm.trans hlw)
                rw [hLw] at hcw HMW2 HSP2 HCW ⊢
                have hLw20 : Lw ≤ Lx := by omega
                clear hmw hmp hsp hx hlw hWne hcellw hLw
                by_cases hlt2 : Lw < Lx
                · have t2 : decide ((Lw : Int) < (Lx : Int)) = true := decide_eq_true (by omega)
                  go_wp2_with (at_builtin; refine wpList_append_nums nt64 rfl (.tmp 49) (.tmp 50) rfl w1.heap.size (.slice (some ⟨gw, 0, none⟩) Lw cw) (WL ++ zs y) [0] rfl (HMW2.out.ext ((Ext.refl wr).alloc _)) wr.heap.size 0 1 1 rfl rfl one_num (by rw [HLW.out]; simp; omega) (by simp; omega) ?_; intro v7 w7 hown7 hgg7 hat7; rw [List.append_assoc, ← zs_succ] at hown7; have HX8 := Lib.hid ((HX2'.out.alloc (.cells #[.int .u64 0] 46)).more hgg7 (fun q hq => Nat.le_trans hw1s (HMW2.out.block q hq).1)); have HM8 := Lib.hid hown7; have HW8 := Lib.hid ((HMP2.out.ext ((Ext.refl wr).alloc (.cells #[.int .u64 0] 46))).keep hgg7 (fun q hq e => HSP2.out q e.symm hq)); have HS8 := Lib.hid (HSP2.out.left hat7 (fun q hq => by have h := (HMP2.out.block q hq).2; simp; omega)); clear hown7 hgg7 hat7)
                  go_roundg (Lx - (L9 + (y + 1)))
                  case measure => have := HLWE.out; omega
                  case rel => exact ⟨y + 1, rfl, HM8.out, HW8.out, HS8.out, by have := HLWE.out; omega, HX8.out⟩
                · have t2 : decide ((Lw : Int) < (Lx : Int)) = false := decide_eq_false (by omega)
                  obtain rfl : Lw = Lx := by omega
                  clear hyg hyl
                  obtain ⟨Q, hQ⟩ : ∃ Q, WL ++ zs y = Q := ⟨_, rfl⟩
                  have HQ := Lib.hid (show Dg Q ∧ dv Q = p * 65536 ^ (2 * m) from by
                    rw [← hQ, dv_pad]
                    exact ⟨HWL.out.1.app (dg_zs y), HWL.out.2⟩)
                  rw [hQ] at HLW HCW
                  obtain ⟨_, _, eP, _, _, _, hcellp⟩ := HMP2.out.some (by
                    intro e
                    have h := HLX.out
                    rw [e] at h
                    have := HL9E.out
                    have := HLWE.out
                    simp at h
                    omega)
                  injection eP with eP1 eP2 eP3
                  clear eP2 eP3
                  injection eP1 with eP1
                  injection eP1 with eP1 eP2
                  clear eP2
                  subst eP1
                  rw [HLX.out] at hcellp
                  have HCP := Lib.hid hcellp
                  have HEQ := Lib.hid (show PL.length = Q.length from by rw [HLX.out, HLW.out])
                  clear hQ hcellp
                  go_wp2
                  obtain ⟨w4, hw4⟩ : ∃ q, q = wr := ⟨_, rfl⟩
                  subst hw4
                  go_loopg [11] Lw (fun g s11 wx => ∃ q : Nat, g ≤ Lw ∧ s11 = .int .i64 ((g : Int) - 1) ∧ (∀ i, g ≤ i → i < Lw → co PL i = co Q i) ∧ wx = w4.drewN q)
                  case atStart => exact ⟨0, Nat.le_refl _, rfl, fun i h1 h2 => by omega, rfl⟩
                  case round =>
                    obtain ⟨q, hgl, rfl, hsame, rfl⟩ := hrel
                    have HSA := Lib.hid hsame
                    clear hsame
                    cases gk with
                    | zero =>
                      have hA : false = ans := by
                        rw [← HANS.out]
                        symm
                        apply decide_eq_false
                        rw [← HQ.out.2, ← HPL.out.2, list_same PL Q HEQ.out (fun i hi => HSA.out i (Nat.zero_le _) (by rw [← HLX.out]; exact hi))]
                        omega
                      have HXF := Lib.hid (HX2'.out.drewN q)
                      subst hA
                      go_wp2
                      go_ret
                      exact ⟨rfl, HXF.out⟩
                    | succ g =>
                      have hgI : (g : Int) < (Lw : Int) := by omega
                      have eg : ((g + 1 : Nat) : Int) - 1 = (g : Int) := by omega
                      rw [eg]
                      have hc1 := HCP.out g (by omega)
                      have hc2 := HCW.out g (by omega)
                      rw [Nat.zero_add] at hc1 hc2
                      have d1 : decide ((0 : Int) ≤ (g : Int)) = true := decide_eq_true (by omega)
                      have HCMP := Lib.hid (fun h => dv_cmp PL Q HPL.out.1 HQ.out.1 HEQ.out g (by rw [HLX.out]; omega) (fun i h1 h2 => HSA.out i (by omega) (by rw [← HLX.out]; exact h2)) h)
                      obtain ⟨a1, ha1⟩ : ∃ a, co PL g = a := ⟨_, rfl⟩
                      obtain ⟨a2, ha2⟩ : ∃ a, co Q g = a := ⟨_, rfl⟩
                      have HA1 := Lib.hid ha1
                      have HA2 := Lib.hid ha2
                      rw [ha1] at hc1
                      rw [ha2] at hc2
                      rw [ha1, ha2] at HCMP
                      clear ha1 ha2 eg
                      by_cases haa : a1 = a2
                      · subst haa
                        have d2 : ((a1 : Int) != (a1 : Int)) = false := by simp
                        go_wp2
                        go_quiet (fail)
                        go_wp2
                        go_roundg g
                        case measure => omega
                        case rel => exact ⟨_, by omega, by go_num, fun i h1 h2 => (by
                          by_cases e : i = g
                          · rw [e, HA1.out, HA2.out]
                          · exact HSA.out i (by omega) h2), rfl⟩
                      · have d2 : ((a1 : Int) != (a2 : Int)) = true := by simp; omega
                        have d3 : decide (a1 = a2) = false := decide_eq_false haa
                        have d4 : ((a1 : Int) == (a2 : Int)) = false := by simp; omega
                        have hA : decide ((a2 : Int) < (a1 : Int)) = ans := by
                          rw [← HANS.out, ← HQ.out.2, ← HPL.out.2]
                          rw [decide_eq_decide]
                          rw [HCMP.out haa]
                          omega
                        by_cases hlt3 : (a2 : Int) < (a1 : Int)
                        · have d5 : decide ((a2 : Int) < (a1 : Int)) = true := decide_eq_true hlt3
                          have d6 : decide (a2 < a1) = true := decide_eq_true (by omega)
                          rw [d5] at hA
                          subst hA
                          go_wp2
                          go_quiet (fail)
                          go_wp2
                          go_quiet (fail)
                          go_wp2
                          go_ret
                          exact ⟨rfl, (((HX2'.out.drewN _).drewN _).drewN _)⟩
                        · have d5 : decide ((a2 : Int) < (a1 : Int)) = false := decide_eq_false hlt3
                          have d6 : decide (a2 < a1) = false := decide_eq_false (by omega)
                          rw [d5] at hA
                          subst hA
                          go_wp2
                          go_quiet (fail)
                          go_wp2
                          go_quiet (fail)
                          go_wp2
                          go_ret
                          exact ⟨rfl, (((HX2'.out.drewN _).drewN _).drewN _)⟩
        | succ g =>
          have d1 : decide ((j : Int) < (M : Int)) = true := decide_eq_true (by omega)
          have hjI : (j : Int) < (M : Int) := by omega
          have HZ := Lib.hid (show [0] ++ (zs j ++ [p]) = zs (j + 1) ++ [p] from rfl)
          go_wp2_with (at_builtin; refine wpList_append_nums nt64 rfl (.tmp 33) (.tmp 34) rfl wr.heap.size (.slice (some ⟨wr.heap.size, 0, none⟩) 1 1) [0] (zs j ++ [p]) rfl (HCZ.out wr) g9 0 L9 c9 rfl HL9.out (fun q hq => (((Ext.refl wr).alloc _).below.cell (p := ⟨g9, 0 + q, none⟩) (by show g9 < _; exact hg9s)).trans (HC9.out q (by rw [← HL9.out]; exact hq))) (by rw [HL9.out]; simp; omega) (by simp) ?_; intro v7 w7 hown7 hgg7 hat7; rw [HZ.out] at hown7; have HX7 := Lib.hid (HX2.out.trans (((Ext.refl wr).alloc (.cells #[.int .u64 0] 46)).more hgg7 (fun q hq => (by simp [Value.ownBlock] at hq; omega)))); have HM7 := Lib.hid (hown7.down hs1); clear hown7 hgg7 hat7)
          go_roundg g
          case measure => omega
          case rel => exact ⟨j + 1, by omega, by go_num, HM7.out, HX7.out⟩
    | succ g =>
      have hi : i < F := by omega
      have hiI : (i : Int) < (F : Int) := by omega
      have hcell := (hx.below.cell (p := ⟨b, o + i, none⟩) (block_lt_of_cell (HR.out i hi))).trans (HR.out i hi)
      have hne : prd [1] (fs.take i) ≠ [] := prd_ne _ [1] (by simp)
      obtain ⟨g7, c7, rfl, hc7, hg7, hg7s, hcell7⟩ := hmn.some hne
      have hk := HTK.out i
      have hlen : (prd [1] (fs.take i)).length ≤ 10 := by
        have h := hk.2.2
        rw [List.length_take, HF.out] at h
        simp at h
        omega
      have HTI := Lib.hid (HTS.out i hi)
      have HTM := Lib.hid (ref10_times (prd [1] (fs.take i)) (co fs i) g7 0 c7 wr hcell7 (by omega) hk.2.1 (HFI.out i hi))
      have hfi := HFI.out i hi
      obtain ⟨f, hf⟩ : ∃ f, co fs i = f := ⟨_, rfl⟩
      rw [hf] at hcell HTI HTM hfi
      obtain ⟨Li, hLi⟩ : ∃ Li, (prd [1] (fs.take i)).length = Li := ⟨_, rfl⟩
      rw [hLi] at HTM ⊢
      clear hmn hx hcell7 hk hlen hf hLi hc7
      go_wp2_with fail
      refine HTM.out.mono ?_
      rintro e w2 ⟨v2, rfl, hm2, hx2⟩
      rw [← HTI.out] at hm2
      have HX2 := Lib.hid (HX.out.trans hx2)
      have HM2 := Lib.hid (hm2.down HX.out.size)
      clear hm2 hx2
      go_wp2
      go_roundg g
      case measure => omega
      case rel => exact ⟨i + 1, by omega, by go_num, HM2.out, HX2.out⟩
end Go.Proofs.YtfhmafncpodlbaaDoor

/-
  What the walk of layer 10's digest reckons: the constants one by one, the padding, the length's bytes. Conditions: none; no function is named here.
-/
namespace Go.Proofs.YtfhmafncpodlbaaDoor
open Go.RowKit
open Pol (co Sm)

theorem PR_len : PR.length = 64 := by decide
theorem PR_lt : ∀ i, co PR i < 65536 := fun i => by
  by_cases h : i < 64
  · have : ∀ i, i < 64 → co PR i < 65536 := by decide +kernel
    exact this i h
  · rw [Pol.co_out PR i (by rw [PR_len]; omega)]; omega
theorem co_map (f : Nat → Nat) (l : List Nat) (i : Nat) (h : i < l.length) : co (l.map f) i = f (co l i) := by
  unfold co
  rw [List.getElem?_map, List.getElem?_eq_getElem h]
  rfl
theorem map_snoc (f : Nat → Nat) (l : List Nat) (i : Nat) (h : i < l.length) : (l.map f).take (i + 1) = (l.map f).take i ++ [f (co l i)] := by
  rw [take_snoc _ i (by rw [List.length_map]; exact h), co_map f l i h]
theorem co_take (l : List Nat) (m i : Nat) (h : i < m) : co (l.take m) i = co l i := by
  unfold co
  rw [List.getElem?_take, if_pos h]
/-- The constants, one more. -/
theorem HH_snoc (i : Nat) (h : i < 8) : HH.take (i + 1) = HH.take i ++ [rtx 2 (co PR i) 37 0 % 4294967296] := by
  have e := map_snoc (fun p => rtx 2 p 37 0 % 4294967296) (PR.take 8) i (by rw [List.length_take, PR_len]; omega)
  rw [co_take PR 8 i h] at e
  exact e
theorem KK_snoc (i : Nat) (h : i < 64) : KK.take (i + 1) = KK.take i ++ [rtx 3 (co PR i) 37 0 % 4294967296] :=
  map_snoc (fun p => rtx 3 p 37 0 % 4294967296) PR i (by rw [PR_len]; exact h)
theorem HH_len : HH.length = 8 := by unfold HH; rw [List.length_map, List.length_take, PR_len]; rfl
theorem KK_len : KK.length = 64 := by unfold KK; rw [List.length_map, PR_len]

theorem padz_stop (n j : Nat) (h : j ≤ padz n) : (n + 1 + j) % 64 = 56 ↔ j = padz n := by
  unfold padz at h ⊢
  omega

theorem len8_at (n j v : Nat) (h : 8 * j + v = 56) : (n : Int) * 8 / 2 ^ min (IntKind.u64.wrap (v : Int)).toNat 64 % 256 = ((len8 n j : Nat) : Int) := by
  have e : v = 8 * (7 - j) := by omega
  have ew : (IntKind.u64.wrap (v : Int)).toNat = v := by rw [IntKind.wrap_u64]; omega
  have em : min v 64 = v := by omega
  rw [ew, em, e]
  unfold len8
  have ep : (2 : Nat) ^ (8 * (7 - j)) = 256 ^ (7 - j) := by rw [Nat.pow_mul]
  have ep' : (2 : Int) ^ (8 * (7 - j)) = ((256 ^ (7 - j) : Nat) : Int) := by rw [← ep]; simp
  rw [ep', Int.mul_comm]
  simp
end Go.Proofs.YtfhmafncpodlbaaDoor

/-
  What through of layer 10 does: the state behind blocks. Conditions: whole blocks, no more than 2^20 bytes; the constants lie where they were laid.
-/
namespace Go.Proofs.YtfhmafncpodlbaaDoor
open Go.RowKit
open Pol (co Sm)

/-- What is behind the first k. -/
def dr (t : List Nat) (k : Nat) : List Nat := tab (t.length - k) (fun j => co t (k + j))
theorem dr_len (t : List Nat) (k : Nat) : (dr t k).length = t.length - k := tab_len _ _
theorem dr_at (t : List Nat) (k j : Nat) (h : k + j < t.length) : co (dr t k) j = co t (k + j) := by unfold dr; rw [co_tab, if_pos (by omega)]
theorem dr_ext {a b : List Nat} (hl : a.length = b.length) (h : ∀ i, i < a.length → co a i = co b i) : a = b := by
  apply List.ext_getElem hl
  intro i h1 h2
  have := h i h1
  unfold co at this
  rw [List.getElem?_eq_getElem h1, List.getElem?_eq_getElem h2] at this
  exact this
theorem dr_zero (t : List Nat) : dr t 0 = t := dr_ext (by rw [dr_len]; rfl) (fun i hi => by rw [dr_len] at hi; rw [dr_at t 0 i (by omega), Nat.zero_add])
theorem dr_more (t : List Nat) (k l : Nat) : tab ((dr t k).length - l) (fun j => co (dr t k) (l + j)) = dr t (k + l) := by
  refine dr_ext (by rw [tab_len, dr_len, dr_len]; omega) (fun i hi => ?_)
  rw [tab_len, dr_len] at hi
  rw [co_tab, if_pos (by rw [dr_len]; exact hi), dr_at t k (l + i) (by omega), dr_at t (k + l) i (by omega), Nat.add_assoc]
theorem wof_word (t : List Nat) (a : Nat) : wof (fun j => co t (a + j)) = fun i => word t (a + 4 * i) := by
  funext i
  unfold wof word
  simp only [Nat.add_assoc]
/-- Sixty-four bytes of a slice, as an array. -/
theorem range_of {w : World} {b o : Nat} {l : List Nat} (h : Rd w (some ⟨b, o, none⟩) l) (h64 : 64 ≤ l.length) : w.rangeAt b o (bt 64 (co l)).toList := by
  intro j v hv
  have hj : j < 64 := by
    have := (List.getElem?_eq_some_iff.1 hv).1
    simpa [bt_size] using this
  have e := bt_at 64 (co l) j hj
  generalize bt 64 (co l) = V at hv e
  obtain ⟨b', o', e1, hc⟩ := h.2 j (by omega)
  rw [← Array.getElem?_toList, hv] at e
  injection e1 with e1
  injection e1 with e2 e3
  subst e2; subst e3
  rw [hc, e]
theorem info_state (f : Nat → Nat) : (Tryd.prog.info? 39).map (·.size) = some (dt 8 f).size := by rw [dt_size]; kernel_rfl
theorem zero_state : (∀ w, (zeroValue 39).run Tryd.prog w = .ok (.agg (dt 8 fun _ => 0)) w) ∧ (Tryd.prog.info? 39).map (·.size) = some 8 := by
  rw [dt_zero]
  exact zero_of_info (by kernel_rfl)

theorem dr_co (t : List Nat) (k : Nat) : co (dr t k) = fun j => co t (k + j) := by
  funext j
  unfold dr
  rw [co_tab]
  by_cases h : j < t.length - k
  · rw [if_pos h]
  · rw [if_neg h]
    unfold co
    rw [List.getElem?_eq_none (by omega)]
    rfl
/-- Where through stands: the state behind g, the result. -/
structure ThrW (f : Nat → Nat) (g : Nat) (w W : World) : Prop where
  x : Ext w W
  s : WBlk 39 8 W g f
  r : WBlk 39 8 W (g + 1) (fun _ => 0)
theorem ThrW.start (f : Nat → Nat) (w : World) : ThrW f w.heap.size w ((w.alloc (.cells (dt 8 f) 39)).alloc (.cells (dt 8 fun _ => 0) 39)) := by
  have e1 : w.heap.size + 1 = (w.alloc (.cells (dt 8 f) 39)).heap.size := by simp
  refine ⟨((Ext.refl w).alloc _).alloc _, ?_, ?_⟩
  · exact (WBlk.new w f).ext ((Ext.refl _).alloc _)
  · rw [e1]
    exact WBlk.new _ _
theorem ThrW.ext {f : Nat → Nat} {g : Nat} {w W W' : World} (h : ThrW f g w W) (hx : Ext W W') : ThrW f g w W' := ⟨h.x.trans hx, h.s.ext hx, h.r.ext hx⟩
theorem ThrW.store {f : Nat → Nat} {g : Nat} {w W : World} (h : ThrW f g w W) (hg : w.heap.size = g) (j v : Nat) : ThrW (upd f j v) g w (W.setCell ⟨g, j, none⟩ (.int .u32 (v : Int))) :=
  ⟨h.x.setCell (by rw [hg]; exact Nat.le_refl _) _, h.s.store j v, (heap_setCell_other W ⟨g, j, none⟩ (g + 1) _ (by simp)).trans h.r⟩
theorem ThrW.congr {f f' : Nat → Nat} {g : Nat} {w W : World} (h : ThrW f g w W) (hf : ∀ i, i < 8 → f i = f' i) : ThrW f' g w W := ⟨h.x, h.s.congr hf, h.r⟩
theorem ThrW.drewN {f : Nat → Nat} {g : Nat} {w W : World} (h : ThrW f g w W) (q : Nat) : ThrW f g w (W.drewN q) := ⟨h.x.drewN q, h.s, h.r⟩
def AfterT (u w : World) : Prop := Ext u w

set_option maxHeartbeats 3200000 in
set_option maxRecDepth 100000 in
theorem sh_through (S t : List Nat) (A : Option Addr) (ca : Nat) (w : World) (hgl : GL w) (hS : W32 S) (hSl : S.length = 8) (hr : Rd w A t) (hc : t.length ≤ ca) (h64 : t.length % 64 = 0) (hl : t.length ≤ 1048576) :
    Calls Tryd.prog 20 #[.agg (dt 8 (co S)), .slice A t.length ca] w (Tells (.agg (dt 8 (co (hsh S KK t (t.length / 64))))) w) := by
  obtain ⟨g, hg⟩ : ∃ g, w.heap.size = g := ⟨_, rfl⟩
  have HG := Lib.hid hg
  have hst := ThrW.start (co S) w
  rw [hg] at hst
  have HST := Lib.hid hst
  have HGL := Lib.hid (fun W (h : Ext w W) => hgl.ext h)
  have HSM := Lib.hid hr.1
  have HR := Lib.hid hr
  obtain ⟨n, hn⟩ : ∃ n, t.length = n := ⟨_, rfl⟩
  have HN := Lib.hid hn
  obtain ⟨M, hM⟩ : ∃ M, n / 64 = M := ⟨_, rfl⟩
  rw [hn] at hc h64 hl ⊢
  rw [hM]
  have HM := Lib.hid (show n = 64 * M by omega)
  have HHL := Lib.hid (fun m => hsh_len S KK t hSl m)
  have HHW := Lib.hid (fun m => hsh_w32 S KK t hS m)
  have HH0 := Lib.hid (show hsh S KK t 0 = S from rfl)
  have HHS := Lib.hid (fun m => show hsh S KK t (m + 1) = blk KK (fun i => word t (64 * m + 4 * i)) (hsh S KK t m) from rfl)
  obtain ⟨V0, hV0⟩ : ∃ V, dt 8 (co S) = V := ⟨_, rfl⟩
  rw [hV0]
  generalize hsh S KK t = H at *
  have hz : dt 8 (fun _ => 0) = #[.int .u32 0, .int .u32 0, .int .u32 0, .int .u32 0, .int .u32 0, .int .u32 0, .int .u32 0, .int .u32 0] := rfl
  rw [hV0, hz] at HST
  have HD0 := Lib.hid (show Rd w A (dr t 0) from by rw [dr_zero]; exact hr)
  clear hgl hS hSl hr hn hst hM h64 hV0
  go_enter Tryd.func20, Tryd.ntmps20
  go_wp2_with fail
  generalize (w.alloc (Obj.cells V0 39)).alloc (Obj.cells #[.int .u32 0, .int .u32 0, .int .u32 0, .int .u32 0, .int .u32 0, .int .u32 0, .int .u32 0, .int .u32 0] 39) = W3 at HST ⊢
  clear hz hg
  go_loopg [1] M (fun gk s1 wx => ∃ (m a N c : Nat) (X : Option Addr), m + gk = M ∧ a = 64 * m ∧ N = n - a ∧ s1 = .slice X N c ∧ N ≤ c ∧ Rd w X (dr t a) ∧ ThrW (co (H m)) g w wx)
  case atStart => exact ⟨0, 0, n, ca, A, by omega, rfl, rfl, rfl, hc, HD0.out, by rw [HH0.out]; exact HST.out⟩
  case round =>
    obtain ⟨m, a, N, c, X, hmg, hma, hN, rfl, hNc, hrd, hw⟩ := hrel
    have HW := Lib.hid hw
    have HMG := Lib.hid hmg
    have HMA := Lib.hid hma
    have HRD := Lib.hid hrd
    clear hw hrd
    cases gk with
    | zero =>
      have hN0 : N = 0 := by have := HM.out; omega
      have hNI : decide (0 < (N : Int)) = false := decide_eq_false (by omega)
      have hmM : m = M := by omega
      rw [hmM] at HW
      clear hN hmg hma hNc
      have HIN := Lib.hid (info_state (co (H M)))
      have HSZ := Lib.hid (show (dt 8 fun _ => 0).size = (dt 8 (co (H M))).size from by rw [dt_size, dt_size])
      have HON := Lib.hid (dt_one 8 (co (H M)))
      have HG3 := Lib.hid (setRow_heap wr (g + 1) _ (dt 8 (co (H M))) _ _ HW.out.r)
      have HX3 := Lib.hid (HW.out.x.setRow (g := g + 1) (by rw [HG.out]; omega) (dt 8 (co (H M))))
      have hs := HW.out.s
      have hr := HW.out.r
      unfold WBlk at hs hr
      have HS0 := Lib.hid hs
      have HR0 := Lib.hid hr
      clear hs hr
      obtain ⟨V, hV⟩ : ∃ V, dt 8 (co (H M)) = V := ⟨_, rfl⟩
      have HVE := Lib.hid (show Value.agg V = Value.agg (dt 8 (co (H M))) from by rw [hV])
      rw [hV] at HIN HSZ HON HG3 HX3 HS0
      clear hV
      generalize dt 8 (fun _ => 0) = Z at HSZ HR0
      go_wp2_with (first | (with_reducible refine wpList_load_row rfl 39 (.tmp 2) rfl g rfl 39 V (0, 0) _ HS0.out Tryd.underlying39 rfl HIN.out ?_) | refine wpList_store_all rfl 39 (.tmp 4) (.tmp 31) rfl (g + 1) Z V rfl rfl HR0.out HIN.out HSZ.out HON.out ?_)
      exact ⟨rfl, .agg V, results_cell_row Tryd.results20 _ _ (g + 1) 39 V (0, 0) _ rfl HG3.out Tryd.underlying39 rfl HIN.out, by rw [HVE.out], HX3.out⟩
    | succ gh =>
      have hN64 : 64 ≤ N := by have := HM.out; omega
      have hNb : N ≤ 1048576 := by omega
      have hNI : decide (0 < (N : Int)) = true := decide_eq_true (by omega)
      obtain ⟨X2, hx2, hxr, _⟩ := run_rest_u8 X N c 64 hN64 hNc
      rw [show ((64 : Nat) : Int) = 64 from rfl] at hx2
      have HA := Lib.hid (fun W => run_arrayAt (P := Tryd.prog) W 55 5 64 X N c Tryd.underlying55 hN64)
      have hB : Sm (dr t a) := HRD.out.1
      obtain ⟨G, hG⟩ : ∃ G, H m = G := ⟨_, rfl⟩
      have HGW := Lib.hid (show W32 G from by rw [← hG]; exact HHW.out m)
      have HGL8 := Lib.hid (show G.length = 8 from by rw [← hG]; exact HHL.out m)
      rw [hG] at HW
      have HGE := Lib.hid hG
      obtain ⟨bx, ox, eX, _⟩ := HRD.out.2 0 (by rw [dr_len, HN.out, ← hN]; omega)
      subst eX
      have HLD := Lib.hid (fun W (h : AfterT wr W) => run_loadAt_mid (P := Tryd.prog) W bx ox 55 (bt 64 (co (dr t a))).toList (.array 64 5) (range_of (HRD.out.ext (HW.out.x.trans h)) (by rw [dr_len, HN.out, ← hN]; exact hN64)) Tryd.underlying55 rfl (by rw [Array.length_toList]; exact info_block _))
      have HLS := Lib.hid (fun W (h : AfterT wr W) => run_load_all W g 39 (dt 8 (co G)) 8 38 Tryd.underlying39 ((HW.out.ext h).s) (info_state _))
      have HSC := Lib.hid (fun W => sh_schedule (co (dr t a)) W (fun i => hB i))
      have HMX := Lib.hid (fun W (h : AfterT wr W) => sh_mix G (wl (wof (co (dr t a))) 64) W (HGL.out W (HW.out.x.trans h)) HGW.out (wl_w32 _ (wof_lt (fun i => hB i)) 64))
      obtain ⟨WL, hWL⟩ : ∃ l, wl (wof (co (dr t a))) 64 = l := ⟨_, rfl⟩
      rw [hWL] at HSC HMX
      obtain ⟨R, hR⟩ : ∃ l, rds KK WL G 64 = l := ⟨_, rfl⟩
      rw [hR] at HMX
      have HWLE := Lib.hid (fun (_ : Unit) => hWL)
      have HRE := Lib.hid (fun (_ : Unit) => hR)
      simp only [Array.toArray_toList] at HLD
      obtain ⟨VB, hVB⟩ : ∃ V, bt 64 (co (dr t a)) = V := ⟨_, rfl⟩
      obtain ⟨VL, hVL⟩ : ∃ V, dt 64 (co WL) = V := ⟨_, rfl⟩
      obtain ⟨VG, hVG⟩ : ∃ V, dt 8 (co G) = V := ⟨_, rfl⟩
      have HIR := Lib.hid (info_state (co R))
      have HSR := Lib.hid (show (dt 8 fun _ => 0).size = (dt 8 (co R)).size from by rw [dt_size, dt_size])
      have HOR := Lib.hid (dt_one 8 (co R))
      have HZL := Lib.hid (show dt 8 (fun _ => 0) = #[.int .u32 0, .int .u32 0, .int .u32 0, .int .u32 0, .int .u32 0, .int .u32 0, .int .u32 0, .int .u32 0] from rfl)
      have HVR := Lib.hid (fun (i : Nat) (hi : i < 8) => show ∀ W, (Instr.index 39 (.agg (dt 8 (co R))) (.int .i64 (i : Int))).run Tryd.prog W = .ok (.int .u32 ((co R i : Nat) : Int)) W from fun W => idx_arr Tryd.underlying39 (by kernel_rfl) (by kernel_rfl) ⟨_, rfl⟩ _ i _ hi (dt_at 8 _ i hi) W)
      obtain ⟨VR, hVR⟩ : ∃ V, dt 8 (co R) = V := ⟨_, rfl⟩
      rw [hVB] at HLD HSC
      rw [hVL] at HSC HMX
      rw [hVG] at HLS HMX
      rw [hVR] at HMX HIR HSR HOR HVR
      have HNE := Lib.hid hN
      have HXR := Lib.hid hxr
      clear hVB hVL hVG hVR hWL hR hG hB hN hmg hma hxr
      go_wp2
      refine wp_region_plan (AfterT wr) [0, 1, 2, 3, 4, 5, 6] (.yes 0 (.yes 1 (.yes 2 (.yes 3 (.two 4 (.two 5 (.one 6 (.one 7 .done)) 6 (.one 5 (.one 7 .done))) 6 (.one 4 (.one 5 (.one 7 .done)))))))) (by kernel_rfl) (fun c a a' w e h => ⟨e ▸ h.1, h.2⟩) (by kernel_rfl) ((Ext.refl wr).drew) ?_
      refine plan_load rfl 39 (.tmp 2) rfl (.agg VG) (by first | rfl | go_simp) (fun W hW => HLS.out W hW) ?_
      refine plan_yes rfl (fun K hK => ?_); go_simp; refine ⟨_, fun _ _ => rfl, hK _ ?_⟩; clear hK K
      refine plan_toArray rfl 55 (.tmp 14) rfl (.pointer (some ⟨bx, ox, none⟩)) (by first | rfl | go_simp) (fun W hW => HA.out W) ?_
      refine plan_load rfl 55 (.tmp 15) rfl (.agg VB) (by first | rfl | go_simp) (fun W hW => HLD.out W hW) ?_
      refine plan_two rfl rfl (fun K hK => ?_) (fun K hK => ?_)
      · go_wp2_with fail
        refine (HSC.out _).mono ?_
        rintro e v4 ⟨rfl, hx4⟩
        have HX4 := Lib.hid (show AfterT wr v4 from Ext.trans ((Ext.refl wr).drew) hx4)
        clear hx4
        go_wp2
        refine ⟨fun _ => HX4.out, ?_⟩
        refine plan_two rfl rfl (fun K hK => ?_) (fun K hK => ?_)
        · go_wp2_with fail
          refine (HMX.out _ HX4.out).mono ?_
          rintro e v5 ⟨rfl, hx5⟩
          have HX5 := Lib.hid (show AfterT wr v5 from Ext.trans HX4.out hx5)
          clear hx5
          go_wp2
          refine ⟨fun _ => HX5.out, ?_⟩
          refine plan_one rfl (fun K hK => ?_)
          go_wp2
          have HX6 := Lib.hid (show AfterT wr (World.alloc v5 (.cells (dt 8 fun _ => 0) 39)) from Ext.alloc HX5.out _)
          have HB6 := Lib.hid (WBlk.new (T := 39) (n := 8) v5 (fun _ => 0))
          have HGX := Lib.hid (show wr.heap.size ≤ (v5).heap.size from Ext.size HX5.out)
          rw [HZL.out] at HX6 HB6
          refine ⟨fun _ => HX6.out, ?_⟩
          generalize hgx : (v5).heap.size = gx at HB6 HGX ⊢
          generalize World.alloc v5 _ = v6 at HX6 HB6 ⊢
          clear hgx
          refine plan_one rfl (fun K hK => ?_)
          have HG7 := Lib.hid (setRow_heap _ gx _ VR _ _ HB6.out)
          have HX7 := Lib.hid (Ext.setRow HX6.out HGX.out VR)
          have hb0 := HB6.out
          unfold WBlk at hb0
          have HB0 := Lib.hid hb0
          clear hb0
          go_wp2_with (with_reducible refine wpList_store_all rfl 39 (.tmp 5) (.tmp 18) rfl gx (dt 8 fun _ => 0) VR rfl rfl HB0.out HIR.out HSR.out HOR.out ?_)
          refine ⟨fun h => absurd h (by decide), ?_⟩
          unfold wpPlan
          obtain ⟨wz, hwz⟩ : ∃ q, World.setRow v6 gx VR = q := ⟨_, rfl⟩
          rw [hwz] at HG7 HX7 ⊢
          clear hwz
          have HWZ := Lib.hid (HW.out.ext HX7.out)
          go_wp2_with (with_reducible refine wpList_load_row rfl 39 (.tmp 5) rfl gx rfl 39 VR (0, 0) _ HG7.out Tryd.underlying39 rfl HIR.out ?_)
          go_loopg [20] 8 (fun gj s20 wx => ∃ j : Nat, j + gj = 8 ∧ s20 = .int .i64 (j : Int) ∧ ThrW (fun k => if k < j then sumw G R k else co G k) g w wx)
          case atStart => exact ⟨0, by omega, rfl, HWZ.out.congr (fun k _ => rfl)⟩
          case round =>
            obtain ⟨j, hjg, rfl, hj⟩ := hrel
            cases gk with
            | zero =>
              obtain rfl : j = 8 := by omega
              have HJ := Lib.hid hj
              clear hj hjg
              have HN2 := Lib.hid (HJ.out.congr (f' := co (H (m + 1))) (fun k hk => by
                rw [if_pos hk, HHS.out m, HGE.out, ← HMA.out]
                unfold blk
                rw [co_map _ _ _ (by rw [List.length_range]; exact hk), show co (List.range 8) k = k from by unfold co; rw [List.getElem?_range hk]; rfl, ← HRE.out (), ← HWLE.out (), dr_co, wof_word]))
              have HRX := Lib.hid (show Rd w X2 (dr t (a + 64)) from by
                have h := HXR.out w _ HRD.out (by rw [dr_len, HN.out, HNE.out])
                have e := dr_more t a 64
                rw [dr_len, HN.out, ← HNE.out] at e
                rw [e] at h
                exact h)
              go_wp2
              go_roundg gh
              case measure => exact Nat.lt_succ_self _
              case rel => exact ⟨m + 1, a + 64, N - 64, c - 64, X2, by have := HMG.out; omega, by have := HMA.out; omega, by have := HNE.out; omega, rfl, by omega, HRX.out, HN2.out⟩
            | succ gk =>
              have hj8 : j < 8 := by omega
              have hjI : (j : Int) < 8 := by omega
              have HJG := Lib.hid hjg
              have hcl := hj.s.cell j hj8
              have hfz := hj.s.frozen j
              rw [if_neg (Nat.lt_irrefl j)] at hcl
              have hix := HVR.out j hj8
              obtain ⟨z, hz⟩ : ∃ z, sumw G R j = z := ⟨_, rfl⟩
              have HU := Lib.hid (fun (_ : Unit) => hz)
              unfold sumw at hz
              have bG := HGW.out.at j
              generalize co G j = x at hcl hz bG
              generalize co R j = y at hix hz
              have HJ := Lib.hid hj
              clear hj hjg
              have hsum : IntKind.u32.wrap ((x : Int) + (y : Int)) = (z : Int) := by
                rw [← hz]
                rw [IntKind.wrap_u32]
                omega
              have HNX := Lib.hid ((HJ.out.store HG.out j z).congr (f' := fun k => if k < j + 1 then sumw G R k else co G k) (fun k _ => by
                unfold upd
                show (if k = j then z else if k < j then sumw G R k else co G k) = if k < j + 1 then sumw G R k else co G k
                by_cases e : k = j
                · subst e; rw [if_pos rfl, if_pos (Nat.lt_succ_self _), HU.out ()]
                · rw [if_neg e]
                  by_cases h : k < j
                  · rw [if_pos h, if_pos (by omega)]
                  · rw [if_neg h, if_neg (by omega)]))
              go_wp2
              go_roundg gk
              case measure => exact Nat.lt_succ_self _
              case rel => exact ⟨j + 1, by have := HJG.out; omega, by go_num, HNX.out⟩
        · go_wp2
          have HX6 := Lib.hid (show AfterT wr (World.alloc v4 (.cells (dt 8 fun _ => 0) 39)) from Ext.alloc HX4.out _)
          have HB6 := Lib.hid (WBlk.new (T := 39) (n := 8) v4 (fun _ => 0))
          have HGX := Lib.hid (show wr.heap.size ≤ (v4).heap.size from Ext.size HX4.out)
          rw [HZL.out] at HX6 HB6
          refine ⟨fun _ => HX6.out, ?_⟩
          generalize hgx : (v4).heap.size = gx at HB6 HGX ⊢
          generalize World.alloc v4 _ = v6 at HX6 HB6 ⊢
          clear hgx
          refine plan_one rfl (fun K hK => ?_)
          go_wp2_with fail
          refine (HMX.out _ HX6.out).mono ?_
          rintro e v5 ⟨rfl, hx5⟩
          have HX5 := Lib.hid (show AfterT wr v5 from Ext.trans HX6.out hx5)
          have HB5 := Lib.hid (WBlk.ext HB6.out hx5)
          clear hx5
          go_wp2
          refine ⟨fun _ => HX5.out, ?_⟩
          refine plan_one rfl (fun K hK => ?_)
          have HG7 := Lib.hid (setRow_heap _ gx _ VR _ _ HB5.out)
          have HX7 := Lib.hid (Ext.setRow HX5.out HGX.out VR)
          have hb0 := HB5.out
          unfold WBlk at hb0
          have HB0 := Lib.hid hb0
          clear hb0
          go_wp2_with (with_reducible refine wpList_store_all rfl 39 (.tmp 5) (.tmp 18) rfl gx (dt 8 fun _ => 0) VR rfl rfl HB0.out HIR.out HSR.out HOR.out ?_)
          refine ⟨fun h => absurd h (by decide), ?_⟩
          unfold wpPlan
          obtain ⟨wz, hwz⟩ : ∃ q, World.setRow v5 gx VR = q := ⟨_, rfl⟩
          rw [hwz] at HG7 HX7 ⊢
          clear hwz
          have HWZ := Lib.hid (HW.out.ext HX7.out)
          go_wp2_with (with_reducible refine wpList_load_row rfl 39 (.tmp 5) rfl gx rfl 39 VR (0, 0) _ HG7.out Tryd.underlying39 rfl HIR.out ?_)
          go_loopg [20] 8 (fun gj s20 wx => ∃ j : Nat, j + gj = 8 ∧ s20 = .int .i64 (j : Int) ∧ ThrW (fun k => if k < j then sumw G R k else co G k) g w wx)
          case atStart => exact ⟨0, by omega, rfl, HWZ.out.congr (fun k _ => rfl)⟩
          case round =>
            obtain ⟨j, hjg, rfl, hj⟩ := hrel
            cases gk with
            | zero =>
              obtain rfl : j = 8 := by omega
              have HJ := Lib.hid hj
              clear hj hjg
              have HN2 := Lib.hid (HJ.out.congr (f' := co (H (m + 1))) (fun k hk => by
                rw [if_pos hk, HHS.out m, HGE.out, ← HMA.out]
                unfold blk
                rw [co_map _ _ _ (by rw [List.length_range]; exact hk), show co (List.range 8) k = k from by unfold co; rw [List.getElem?_range hk]; rfl, ← HRE.out (), ← HWLE.out (), dr_co, wof_word]))
              have HRX := Lib.hid (show Rd w X2 (dr t (a + 64)) from by
                have h := HXR.out w _ HRD.out (by rw [dr_len, HN.out, HNE.out])
                have e := dr_more t a 64
                rw [dr_len, HN.out, ← HNE.out] at e
                rw [e] at h
                exact h)
              go_wp2
              go_roundg gh
              case measure => exact Nat.lt_succ_self _
              case rel => exact ⟨m + 1, a + 64, N - 64, c - 64, X2, by have := HMG.out; omega, by have := HMA.out; omega, by have := HNE.out; omega, rfl, by omega, HRX.out, HN2.out⟩
            | succ gk =>
              have hj8 : j < 8 := by omega
              have hjI : (j : Int) < 8 := by omega
              have HJG := Lib.hid hjg
              have hcl := hj.s.cell j hj8
              have hfz := hj.s.frozen j
              rw [if_neg (Nat.lt_irrefl j)] at hcl
              have hix := HVR.out j hj8
              obtain ⟨z, hz⟩ : ∃ z, sumw G R j = z := ⟨_, rfl⟩
              have HU := Lib.hid (fun (_ : Unit) => hz)
              unfold sumw at hz
              have bG := HGW.out.at j
              generalize co G j = x at hcl hz bG
              generalize co R j = y at hix hz
              have HJ := Lib.hid hj
              clear hj hjg
              have hsum : IntKind.u32.wrap ((x : Int) + (y : Int)) = (z : Int) := by
                rw [← hz]
                rw [IntKind.wrap_u32]
                omega
              have HNX := Lib.hid ((HJ.out.store HG.out j z).congr (f' := fun k => if k < j + 1 then sumw G R k else co G k) (fun k _ => by
                unfold upd
                show (if k = j then z else if k < j then sumw G R k else co G k) = if k < j + 1 then sumw G R k else co G k
                by_cases e : k = j
                · subst e; rw [if_pos rfl, if_pos (Nat.lt_succ_self _), HU.out ()]
                · rw [if_neg e]
                  by_cases h : k < j
                  · rw [if_pos h, if_pos (by omega)]
                  · rw [if_neg h, if_neg (by omega)]))
              go_wp2
              go_roundg gk
              case measure => exact Nat.lt_succ_self _
              case rel => exact ⟨j + 1, by have := HJG.out; omega, by go_num, HNX.out⟩
      · go_wp2
        have HX6 := Lib.hid (show AfterT wr (World.drew (World.alloc wr (.cells (dt 8 fun _ => 0) 39))) from (Ext.alloc (Ext.refl wr) _).drew)
        have HB6 := Lib.hid (show WBlk 39 8 (World.drew (World.alloc wr (.cells (dt 8 fun _ => 0) 39))) wr.heap.size (fun _ => 0) from WBlk.new (T := 39) (n := 8) wr (fun _ => 0))
        rw [HZL.out] at HX6 HB6
        refine ⟨fun _ => HX6.out, ?_⟩
        generalize hgx : wr.heap.size = gx at HB6 ⊢
        have HGX := Lib.hid (Nat.le_of_eq hgx)
        generalize (World.alloc wr _).drew = v6 at HX6 HB6 ⊢
        clear hgx
        refine plan_one rfl (fun K hK => ?_)
        go_wp2_with fail
        refine (HSC.out _).mono ?_
        rintro e v4 ⟨rfl, hx4⟩
        have HX4 := Lib.hid (show AfterT wr v4 from Ext.trans HX6.out hx4)
        have HB4 := Lib.hid (WBlk.ext HB6.out hx4)
        clear hx4
        go_wp2
        refine ⟨fun _ => HX4.out, ?_⟩
        refine plan_one rfl (fun K hK => ?_)
        go_wp2_with fail
        refine (HMX.out _ HX4.out).mono ?_
        rintro e v5 ⟨rfl, hx5⟩
        have HX5 := Lib.hid (show AfterT wr v5 from Ext.trans HX4.out hx5)
        have HB5 := Lib.hid (WBlk.ext HB4.out hx5)
        clear hx5
        go_wp2
        refine ⟨fun _ => HX5.out, ?_⟩
        refine plan_one rfl (fun K hK => ?_)
        have HG7 := Lib.hid (setRow_heap _ gx _ VR _ _ HB5.out)
        have HX7 := Lib.hid (Ext.setRow HX5.out HGX.out VR)
        have hb0 := HB5.out
        unfold WBlk at hb0
        have HB0 := Lib.hid hb0
        clear hb0
        go_wp2_with (with_reducible refine wpList_store_all rfl 39 (.tmp 5) (.tmp 18) rfl gx (dt 8 fun _ => 0) VR rfl rfl HB0.out HIR.out HSR.out HOR.out ?_)
        refine ⟨fun h => absurd h (by decide), ?_⟩
        unfold wpPlan
        obtain ⟨wz, hwz⟩ : ∃ q, World.setRow v5 gx VR = q := ⟨_, rfl⟩
        rw [hwz] at HG7 HX7 ⊢
        clear hwz
        have HWZ := Lib.hid (HW.out.ext HX7.out)
        go_wp2_with (with_reducible refine wpList_load_row rfl 39 (.tmp 5) rfl gx rfl 39 VR (0, 0) _ HG7.out Tryd.underlying39 rfl HIR.out ?_)
        go_loopg [20] 8 (fun gj s20 wx => ∃ j : Nat, j + gj = 8 ∧ s20 = .int .i64 (j : Int) ∧ ThrW (fun k => if k < j then sumw G R k else co G k) g w wx)
        case atStart => exact ⟨0, by omega, rfl, HWZ.out.congr (fun k _ => rfl)⟩
        case round =>
          obtain ⟨j, hjg, rfl, hj⟩ := hrel
          cases gk with
          | zero =>
            obtain rfl : j = 8 := by omega
            have HJ := Lib.hid hj
            clear hj hjg
            have HN2 := Lib.hid (HJ.out.congr (f' := co (H (m + 1))) (fun k hk => by
              rw [if_pos hk, HHS.out m, HGE.out, ← HMA.out]
              unfold blk
              rw [co_map _ _ _ (by rw [List.length_range]; exact hk), show co (List.range 8) k = k from by unfold co; rw [List.getElem?_range hk]; rfl, ← HRE.out (), ← HWLE.out (), dr_co, wof_word]))
            have HRX := Lib.hid (show Rd w X2 (dr t (a + 64)) from by
              have h := HXR.out w _ HRD.out (by rw [dr_len, HN.out, HNE.out])
              have e := dr_more t a 64
              rw [dr_len, HN.out, ← HNE.out] at e
              rw [e] at h
              exact h)
            go_wp2
            go_roundg gh
            case measure => exact Nat.lt_succ_self _
            case rel => exact ⟨m + 1, a + 64, N - 64, c - 64, X2, by have := HMG.out; omega, by have := HMA.out; omega, by have := HNE.out; omega, rfl, by omega, HRX.out, HN2.out⟩
          | succ gk =>
            have hj8 : j < 8 := by omega
            have hjI : (j : Int) < 8 := by omega
            have HJG := Lib.hid hjg
            have hcl := hj.s.cell j hj8
            have hfz := hj.s.frozen j
            rw [if_neg (Nat.lt_irrefl j)] at hcl
            have hix := HVR.out j hj8
            obtain ⟨z, hz⟩ : ∃ z, sumw G R j = z := ⟨_, rfl⟩
            have HU := Lib.hid (fun (_ : Unit) => hz)
            unfold sumw at hz
            have bG := HGW.out.at j
            generalize co G j = x at hcl hz bG
            generalize co R j = y at hix hz
            have HJ := Lib.hid hj
            clear hj hjg
            have hsum : IntKind.u32.wrap ((x : Int) + (y : Int)) = (z : Int) := by
              rw [← hz]
              rw [IntKind.wrap_u32]
              omega
            have HNX := Lib.hid ((HJ.out.store HG.out j z).congr (f' := fun k => if k < j + 1 then sumw G R k else co G k) (fun k _ => by
              unfold upd
              show (if k = j then z else if k < j then sumw G R k else co G k) = if k < j + 1 then sumw G R k else co G k
              by_cases e : k = j
              · subst e; rw [if_pos rfl, if_pos (Nat.lt_succ_self _), HU.out ()]
              · rw [if_neg e]
                by_cases h : k < j
                · rw [if_pos h, if_pos (by omega)]
                · rw [if_neg h, if_neg (by omega)]))
            go_wp2
            go_roundg gk
            case measure => exact Nat.lt_succ_self _
            case rel => exact ⟨j + 1, by have := HJG.out; omega, by go_num, HNX.out⟩
end Go.Proofs.YtfhmafncpodlbaaDoor

/-
  What bytes.Clone does. Conditions: no more than 2^16 bytes.
-/
namespace Go.Proofs.YtfhmafncpodlbaaDoor
open Go.RowKit
open Pol (co Sm)

/-- Bytes of a call's own that read as these. -/
def CloneS (t : List Nat) (w : World) (e : Ending) (w' : World) : Prop := Ext w w' ∧ ∃ v, e = .returned v ∧ Mine w' w.heap.size v t
set_option maxHeartbeats 800000 in
set_option maxRecDepth 100000 in
theorem cr_clone (t : List Nat) (A : Option Addr) (c : Nat) (w : World) (hr : Rd w A t) (hl : t.length ≤ 65536) : Calls Tryd.prog 31 #[.slice A t.length c] w (CloneS t w) := by
  unfold CloneS
  have HR := Lib.hid hr
  obtain ⟨n, hn⟩ : ∃ n, t.length = n := ⟨_, rfl⟩
  have HN := Lib.hid hn
  rw [hn] at hl ⊢
  have qn : ∀ (W : World) (B : Option Addr) (n c : Nat), (binOp .eql 22 (.slice B n c) (.slice none 0 0)).run Tryd.prog W = .ok (.bool B.isNone) W := fun W B n c => Lib.run_eql_slice_nil W _ _ B n c 0 0 Tryd.underlying22
  cases A with
  | none =>
    have ht : t = [] := by
      rcases Nat.eq_zero_or_pos t.length with h | h
      · exact List.eq_nil_of_length_eq_zero h
      · obtain ⟨_, _, e, _⟩ := hr.2 0 h; cases e
    have HT := Lib.hid ht
    clear hr hn ht
    go_enter Tryd.func31, Tryd.ntmps31
    go_wp2
    skip
    go_ret
    exact ⟨Ext.refl _, _, rfl, by rw [HT.out]; exact Mine.nil _ _⟩
  | some a =>
    have hx := (Ext.refl w).alloc (.cells #[] 5)
    have HX := Lib.hid hx
    have HM := Lib.hid (mine_empty w)
    clear hr hn hx
    go_enter Tryd.func31, Tryd.ntmps31
    go_wp2_with (at_builtin; refine wpList_append_rd rfl (.tmp 5) (.tmp 6) rfl w.heap.size (.slice (some ⟨w.heap.size, 0, none⟩) 0 0) [] t rfl HM.out (some a) n c rfl HN.out (HR.out.ext HX.out) (by rw [HN.out]; simp; omega) HX.out.size ?_; intro v' w3 hown' hg' hat'; rw [List.nil_append] at hown'; have HM2 := Lib.hid hown'; have HX2 := Lib.hid (HX.out.more hg' (fun k e => (HM.out.block k e).1)); clear hown' hg' hat')
    go_ret
    exact ⟨HX2.out, _, rfl, HM2.out⟩
end Go.Proofs.YtfhmafncpodlbaaDoor

/-
  What ending of layer 10 does: the bytes behind the last whole block, filled up. Conditions: no more than 2^20 bytes in all; fewer than 64 are left.
-/
namespace Go.Proofs.YtfhmafncpodlbaaDoor
open Go.RowKit
open Pol (co Sm)

/-- What stands behind an input of n bytes, of which r are left. -/
def endb (r : List Nat) (n : Nat) : List Nat := r ++ [128] ++ List.replicate (padz n) 0 ++ (List.range 8).map (len8 n)
theorem padz_mod (r n : Nat) (h : r = n % 64) : padz r = padz n := by
  subst h
  unfold padz
  omega
theorem endb_len (r : List Nat) (n : Nat) : (endb r n).length = r.length + 1 + padz n + 8 := by
  unfold endb
  simp only [List.length_append, List.length_singleton, List.length_replicate, List.length_map, List.length_range]
theorem endb_padded (t : List Nat) (k : Nat) : t.take k ++ endb (t.drop k) t.length = padded t := by
  unfold endb padded
  simp only [← List.append_assoc, List.take_append_drop]
theorem endb_sm {r : List Nat} (h : Sm r) (n : Nat) : Sm (endb r n) := by
  unfold endb
  refine sm_app (sm_app (sm_app h (Sm.cons (by omega) Sm.nil)) (Pol.co_lt_of fun x hx => by rw [(List.mem_replicate.1 hx).2]; omega)) (Pol.co_lt_of fun x hx => ?_)
  obtain ⟨q, _, rfl⟩ := List.mem_map.1 hx
  exact Nat.mod_lt _ (by decide)

set_option maxHeartbeats 1600000 in
set_option maxRecDepth 100000 in
theorem sh_ending (b : List Nat) (A : Option Addr) (ca N : Nat) (w : World) (hr : Rd w A b) (h64 : b.length = N % 64) (hN : N ≤ 1048576) :
    Calls Tryd.prog 21 #[.slice A b.length ca, .int .i64 (N : Int)] w (Gives (endb b N) w) := by
  obtain ⟨base, hbase⟩ : ∃ g, w.heap.size = g := ⟨_, rfl⟩
  have HB := Lib.hid hbase
  have HCL := Lib.hid (cr_clone b A ca w hr (by omega))
  have HE8 := Lib.hid (endb_sm hr.1 N)
  obtain ⟨n, hn⟩ : ∃ n, b.length = n := ⟨_, rfl⟩
  have HN := Lib.hid hn
  have HR := Lib.hid hr.1
  rw [hn] at h64 HCL ⊢
  have hn64 : n < 64 := by omega
  have HNM := Lib.hid h64
  have hpm := padz_mod n N h64
  clear hr hn h64 hbase
  go_enter Tryd.func21, Tryd.ntmps21
  go_wp2_with fail
  refine (HCL.out).mono ?_
  rintro e wc ⟨hxc, v7, rfl, hmc⟩
  rw [HB.out] at hmc
  have HX7 := Lib.hid hxc
  have HM7 := Lib.hid hmc
  clear hxc hmc
  go_wp2_with (at_builtin; refine wpList_append_rd rfl (.tmp 9) (.tmp 10) rfl base v7 b [128] rfl (mine_ext HM7.out ((Ext.refl _).alloc _)) (some ⟨wc.heap.size, 0, none⟩) 1 1 rfl rfl (rd_one wc 128 (by omega)) (by rw [HN.out]; simp; omega) (by have := HX7.out.size; have := HB.out; simp; omega) ?_; intro v8 w8 hown8 hg8 hat8; have HX8 := Lib.hid ((HX7.out.alloc (.cells #[.int .u8 128] 5)).more hg8 (fun q hq => by rw [HB.out]; exact (HM7.out.block q hq).1)); have HM8 := Lib.hid hown8; clear hown8 hg8 hat8)
  have HS8 := Lib.hid (show Sm (b ++ [128]) from sm_app HR.out (Sm.cons (by omega) Sm.nil))
  obtain ⟨pz, hpz⟩ : ∃ pz, padz n = pz := ⟨_, rfl⟩
  have hpz64 : pz < 64 := by rw [← hpz]; unfold padz; omega
  have HPZ := Lib.hid (fun j (h : j ≤ pz) => show (n + 1 + j) % 64 = 56 ↔ j = pz from by rw [← hpz] at h ⊢; exact padz_stop n j h)
  have HZP := Lib.hid (fun (_ : Unit) => show padz N = pz from by rw [← hpm, hpz])
  have HLZ := Lib.hid (fun j => show (b ++ [128] ++ List.replicate j 0).length = n + 1 + j from by simp [HN.out]; omega)
  have HZS := Lib.hid (fun j => show b ++ [128] ++ List.replicate (j + 1) 0 = b ++ [128] ++ List.replicate j 0 ++ [0] from by rw [List.replicate_succ', ← List.append_assoc])
  have HSZ := Lib.hid (fun j => show Sm (b ++ [128] ++ List.replicate j 0) from sm_app HS8.out (Pol.co_lt_of fun x hx => by rw [(List.mem_replicate.1 hx).2]; omega))
  have HM8' := Lib.hid (show Mine w8 base v8 (b ++ [128] ++ List.replicate 0 0) from by rw [List.replicate_zero, List.append_nil]; exact HM8.out)
  clear hpz hpm
  go_loopg [5] pz (fun gk s5 wx => ∃ j : Nat, j + gk = pz ∧ Mine wx base s5 (b ++ [128] ++ List.replicate j 0) ∧ Ext w wx)
  case atStart => exact ⟨0, by omega, HM8'.out, HX8.out⟩
  case round =>
    obtain ⟨j, hjg, hm, hx⟩ := hrel
    have HM := Lib.hid hm
    have HXX := Lib.hid hx
    obtain ⟨B7, c7, rfl, hc7, _⟩ := hm.slice (HSZ.out j)
    rw [HLZ.out] at hc7 HM ⊢
    have hs7 := hx.size
    rw [HB.out] at hs7
    have HJG := Lib.hid hjg
    clear hm hx
    obtain ⟨L, hL⟩ : ∃ L, n + 1 + j = L := ⟨_, rfl⟩
    have HL := Lib.hid hL
    have hz := HPZ.out j (by omega)
    rw [hL] at hc7 HM hz ⊢
    have hLb : L < 1048576 := by omega
    have em : (L : Int).tmod 64 = ((L % 64 : Nat) : Int) := by rw [Int.tmod_eq_emod_of_nonneg (by omega)]; omega
    clear hL
    cases gk with
    | zero =>
      obtain rfl : j = pz := by omega
      have hz' : L % 64 = 56 := hz.2 rfl
      have em' : (L : Int) % 64 = 56 := by omega
      clear hz hjg em hz'
      have ew : IntKind.u64.wrap (N : Int) = (N : Int) := by rw [IntKind.wrap_u64]; omega
      have ew8 : IntKind.u64.wrap (8 * (N : Int)) = (N : Int) * 8 := by rw [IntKind.wrap_u64]; omega
      go_wp2_with fail
      rw [← HZP.out ()] at HM
      have HMT := Lib.hid (show Mine wr base (.slice B7 L c7) (b ++ [128] ++ List.replicate (padz N) 0 ++ (List.range 0).map (len8 N)) from by rw [List.range_zero, List.map_nil, List.append_nil]; exact HM.out)
      have HXT := HXX
      have HST := Lib.hid (fun j => show Sm (b ++ [128] ++ List.replicate (padz N) 0 ++ (List.range j).map (len8 N)) from sm_app (HSZ.out _) (Pol.co_lt_of fun x hx => by
        obtain ⟨q, _, rfl⟩ := List.mem_map.1 hx
        exact Nat.mod_lt _ (by decide)))
      have HLT := Lib.hid (fun j => show (b ++ [128] ++ List.replicate (padz N) 0 ++ (List.range j).map (len8 N)).length = n + 1 + padz N + j from by rw [List.length_append, HLZ.out, List.length_map, List.length_range])
      have HTS := Lib.hid (fun j => show b ++ [128] ++ List.replicate (padz N) 0 ++ (List.range (j + 1)).map (len8 N) = b ++ [128] ++ List.replicate (padz N) 0 ++ (List.range j).map (len8 N) ++ [len8 N j] from by rw [List.range_succ, List.map_append, ← List.append_assoc]; rfl)
      have HV := Lib.hid (fun j => len8_at N j)
      have hp64 : padz N < 64 := by unfold padz; omega
      clear HM HXX hc7 hs7 hLb HL em' hpz64 ew ew8
      obtain ⟨wt, hwt⟩ : ∃ q, q = wr := ⟨_, rfl⟩
      subst hwt
      go_loopg [5, 22] 8 (fun gk s5 s22 wx => ∃ j : Nat, j + gk = 8 ∧ s22 = .int .i64 (j : Int) ∧ Mine wx base s5 (b ++ [128] ++ List.replicate (padz N) 0 ++ (List.range j).map (len8 N)) ∧ Ext w wx)
      case atStart => exact ⟨0, by omega, rfl, HMT.out, HXT.out⟩
      case round =>
        obtain ⟨j, hjg, rfl, hm, hx⟩ := hrel
        have HM := Lib.hid hm
        have HXX := Lib.hid hx
        obtain ⟨B7, c7, rfl, hc7, _⟩ := hm.slice (HST.out j)
        rw [HLT.out] at hc7 HM ⊢
        have hs7 := hx.size
        rw [HB.out] at hs7
        have HJG := Lib.hid hjg
        clear hm hx
        cases gk with
        | zero =>
          obtain rfl : j = 8 := by omega
          go_wp2
          go_ret
          exact gives_of HM.out rfl HE8.out HXX.out
        | succ gk =>
          have hj8 : j < 8 := by omega
          have hjI : (j : Int) < 8 := by omega
          obtain ⟨v, hv⟩ : ∃ v, 56 - 8 * j = v := ⟨_, rfl⟩
          have hvI : 56 - 8 * (j : Int) = (v : Int) := by omega
          have hq2 := HV.out j v (by omega)
          obtain ⟨d, hd⟩ : ∃ d, len8 N j = d := ⟨_, rfl⟩
          have hd8 : d < 256 := by rw [← hd]; exact Nat.mod_lt _ (by decide)
          have HTJ := Lib.hid (fun (_ : Unit) => HTS.out j)
          rw [hd] at HTJ hq2
          have hq3 : (N : Int) * 8 / 2 ^ v % 256 = (d : Int) := by
            have e : min (IntKind.u64.wrap (v : Int)).toNat 64 = v := by rw [IntKind.wrap_u64]; omega
            rw [e] at hq2
            exact hq2
          clear hq2
          have e1 : wrap64 (8 * (j : Int)) = 8 * (j : Int) := by unfold wrap64; omega
          have e2 : wrap64 (56 - 8 * (j : Int)) = (v : Int) := by unfold wrap64; omega
          obtain ⟨L, hL⟩ : ∃ L, n + 1 + padz N + j = L := ⟨_, rfl⟩
          have HL := Lib.hid hL
          rw [hL] at hc7 HM ⊢
          have hLb : L < 1048576 := by omega
          clear hL hd hv hjg
          go_wp2_with (at_builtin; refine wpList_append_rd rfl (.tmp 25) (.tmp 32) rfl base (.slice B7 L c7) (b ++ [128] ++ List.replicate (padz N) 0 ++ (List.range j).map (len8 N)) [d] rfl (mine_ext HM.out ((Ext.refl _).alloc _)) (some ⟨wr.heap.size, 0, none⟩) 1 1 rfl rfl (rd_one wr d hd8) (by rw [HLT.out, HL.out]; simp; omega) (by simp; omega) ?_; intro v9 w9 hown9 hg9 hat9; rw [← (HTJ.out ())] at hown9; have HX9 := Lib.hid ((HXX.out.alloc (.cells #[.int .u8 (d : Int)] 5)).more hg9 (fun q hq => by rw [HB.out]; exact (HM.out.block q hq).1)); have HM9 := Lib.hid hown9; clear hown9 hg9 hat9)
          go_roundg gk
          case measure => omega
          case rel => exact ⟨j + 1, by have := HJG.out; omega, by go_num, HM9.out, HX9.out⟩
    | succ gk =>
      have hz' : L % 64 ≠ 56 := fun h => by have := hz.1 h; omega
      have em' : (L : Int) % 64 ≠ 56 := by omega
      clear hz hjg em hz'
      go_wp2_with (at_builtin; refine wpList_append_rd rfl (.tmp 16) (.tmp 17) rfl base (.slice B7 L c7) (b ++ [128] ++ List.replicate j 0) [0] rfl (mine_ext HM.out ((Ext.refl _).alloc _)) (some ⟨wr.heap.size, 0, none⟩) 1 1 rfl rfl (rd_one wr 0 (by omega)) (by rw [HLZ.out, HL.out]; simp; omega) (by simp; omega) ?_; intro v9 w9 hown9 hg9 hat9; rw [← HZS.out] at hown9; have HX9 := Lib.hid ((HXX.out.alloc (.cells #[.int .u8 0] 5)).more hg9 (fun q hq => by rw [HB.out]; exact (HM.out.block q hq).1)); have HM9 := Lib.hid hown9; clear hown9 hg9 hat9)
      go_roundg gk
      case measure => omega
      case rel => exact ⟨j + 1, by have := HJG.out; omega, HM9.out, HX9.out⟩
end Go.Proofs.YtfhmafncpodlbaaDoor

/-
  What Of of layer 10 does. Conditions: no more than 2^16 bytes; the constants lie where they were laid.
-/
namespace Go.Proofs.YtfhmafncpodlbaaDoor
open Go.RowKit
open Pol (co Sm)

theorem wl_congr {f f' : Nat → Nat} (h : ∀ i, i < 16 → f i = f' i) : ∀ n, wl f n = wl f' n
  | 0 => rfl
  | n + 1 => by
    rw [wl, wl, wl_congr h n]
    by_cases e : n < 16
    · rw [if_pos e, if_pos e, h n e]
    · rw [if_neg e, if_neg e]
theorem blk_congr {K H : List Nat} {f f' : Nat → Nat} (h : ∀ i, i < 16 → f i = f' i) : blk K f H = blk K f' H := by unfold blk; rw [wl_congr h 64]
/-- Blocks of one list, then of another. -/
theorem hsh_left {H K t u : List Nat} : ∀ n, 64 * n ≤ t.length → hsh H K (t ++ u) n = hsh H K t n
  | 0, _ => rfl
  | n + 1, h => by
    rw [hsh, hsh, hsh_left n (by omega)]
    refine blk_congr (fun i hi => ?_)
    have e : ∀ j, j < t.length → co (t ++ u) j = co t j := fun j hj => by unfold co; rw [List.getElem?_append_left hj]
    unfold word
    rw [e _ (by omega), e _ (by omega), e _ (by omega), e _ (by omega)]
theorem hsh_right {H K t u : List Nat} {m : Nat} (h : t.length = 64 * m) : ∀ n, hsh (hsh H K t m) K u n = hsh H K (t ++ u) (m + n)
  | 0 => by rw [hsh, Nat.add_zero, hsh_left m (by omega)]
  | n + 1 => by
    rw [hsh, hsh_right h n, ← Nat.add_assoc, hsh]
    refine blk_congr (fun i hi => ?_)
    have e : ∀ j k, j = t.length + k → co u k = co (t ++ u) j := fun j k hj => by
      subst hj
      unfold co
      rw [List.getElem?_append_right (by omega), Nat.add_sub_cancel_left]
    unfold word
    rw [e (64 * (m + n) + 4 * i) (64 * n + 4 * i) (by omega), e (64 * (m + n) + 4 * i + 1) (64 * n + 4 * i + 1) (by omega), e (64 * (m + n) + 4 * i + 2) (64 * n + 4 * i + 2) (by omega), e (64 * (m + n) + 4 * i + 3) (64 * n + 4 * i + 3) (by omega)]

/-- A block that was made stays. -/
theorem WBlk.ext' {w w' : World} {g : Nat} {V : Array Value} {T : TypeId} (h : w.heap[g]? = some (.cells V T (0, 0))) (hx : Ext w w') : w'.heap[g]? = some (.cells V T (0, 0)) :=
  (hx.below.block g (Array.getElem?_eq_some_iff.1 h).1).trans h
/-- The block of an array of 32 bits' numbers behind a loop that writes another block. -/
theorem WBlk.grown {T : TypeId} {n : Nat} {w w' : World} {g d : Nat} {f : Nat → Nat} (h : WBlk T n w g f) (hg : w.grownBy w' (some d)) (hne : g ≠ d) : WBlk T n w' g f := h.keep hg (fun e => hne (by injection e))

set_option maxHeartbeats 3200000 in
set_option maxRecDepth 100000 in
theorem sh_of (b : List Nat) (A : Option Addr) (ca : Nat) (w : World) (hgl : GL w) (hr : Rd w A b) (hc : b.length ≤ ca) (hl : b.length ≤ 65536) :
    Calls Tryd.prog 10 #[.slice A b.length ca] w (DgS (sha b) w) := by
  obtain ⟨g0, hg0⟩ : ∃ g, w.heap.size = g := ⟨_, rfl⟩
  have HW0 := Lib.hid hg0
  obtain ⟨n, hn⟩ : ∃ n, b.length = n := ⟨_, rfl⟩
  have HN := Lib.hid hn
  have HR := Lib.hid hr
  have HGL := Lib.hid (fun W (h : Ext w W) => hgl.ext h)
  rw [hn] at hc hl ⊢
  obtain ⟨k, hk⟩ : ∃ k, 64 * (n / 64) = k := ⟨_, rfl⟩
  have hkn : k ≤ n := by omega
  have em : (n : Int).tmod 64 = ((n % 64 : Nat) : Int) := by rw [Int.tmod_eq_emod_of_nonneg (by omega)]; omega
  have em2 : (n : Int) - (n : Int) % 64 = (k : Int) := by omega
  have ew : wrap64 ((n : Int) - (n : Int) % 64) = (k : Int) := by unfold wrap64; omega
  have HK := Lib.hid hk
  have hT := (HGL.out w (Ext.refl w)).1
  obtain ⟨V0, hV0⟩ : ∃ V, dt 8 (co HH) = V := ⟨_, rfl⟩
  have HG0 := Lib.hid (show ∀ W, Ext w W → ∃ T, W.heap[0]? = some (.cells V0 T (0, 0)) from fun W h => by rw [← hV0]; exact (HGL.out W h).1)
  have HI0 := Lib.hid (show (Tryd.prog.info? 39).map (·.size) = some V0.size from by rw [← hV0]; exact info_state _)
  have hz := zero_digest.1
  have HZ32 := Lib.hid (fun (_ : Unit) => show (bt 32 fun _ => 0).size = 32 from bt_size _ _)
  obtain ⟨Z, hZ⟩ : ∃ Z, (bt 32 fun _ => 0) = Z := ⟨_, rfl⟩
  -- the slices, the two states
  have ht := run_to_u8 A n ca k (by omega)
  obtain ⟨X, hx, hxr, _⟩ := run_rest_u8 A n ca k hkn hc
  have HTK := Lib.hid (show (b.take k).length = k from by rw [List.length_take, HN.out]; omega)
  have HDK := Lib.hid (show (b.drop k).length = n - k from by rw [List.length_drop, HN.out])
  have HXR := Lib.hid (fun W (h : Ext w W) => show Rd W X (b.drop k) from by
    have h2 := hxr W b (HR.out.ext h) HN.out
    have e : tab (n - k) (fun j => co b (k + j)) = b.drop k := dr_ext (by rw [tab_len, HDK.out]) (fun i hi => by
      rw [tab_len] at hi
      rw [co_tab, if_pos hi]
      unfold co
      rw [List.getElem?_drop])
    rwa [e] at h2)
  obtain ⟨S1, hS1⟩ : ∃ S, hsh HH KK (b.take k) (k / 64) = S := ⟨_, rfl⟩
  obtain ⟨EB, hEB⟩ : ∃ l, endb (b.drop k) n = l := ⟨_, rfl⟩
  obtain ⟨N2, hN2⟩ : ∃ N, EB.length = N := ⟨_, rfl⟩
  obtain ⟨S2, hS2⟩ : ∃ S, hsh S1 KK EB (N2 / 64) = S := ⟨_, rfl⟩
  have hS1l : S1.length = 8 := by rw [← hS1]; exact hsh_len _ _ _ HH_len _
  have hS1w : W32 S1 := by rw [← hS1]; exact hsh_w32 _ _ _ HH_w32 _
  have HT1 := Lib.hid (fun W (h : Ext w W) => show Calls Tryd.prog 20 #[.agg V0, .slice A k ca] W (Tells (.agg (dt 8 (co S1))) W) from by
    have h1 := sh_through HH (b.take k) A ca W (HGL.out W h) HH_w32 HH_len ((HR.out.ext h).take k) (by rw [HTK.out]; omega) (by rw [HTK.out, ← HK.out]; omega) (by rw [HTK.out]; omega)
    rw [HTK.out, hV0, hS1] at h1
    exact h1)
  have HEN := Lib.hid (fun W (h : Ext w W) => show Calls Tryd.prog 21 #[.slice X (n - k) (ca - k), .int .i64 (n : Int)] W (Gives EB W) from by
    have h1 := sh_ending (b.drop k) X (ca - k) n W (HXR.out W h) (by rw [HDK.out, ← HK.out]; omega) (by omega)
    rw [HDK.out, hEB] at h1
    exact h1)
  have HE2 := Lib.hid (show N2 % 64 = 0 ∧ N2 ≤ 1048576 from by
    have hp : padz n = (119 - n % 64) % 64 := rfl
    rw [← hN2, ← hEB, endb_len, HDK.out, hp, ← HK.out]
    omega)
  have HT2 := Lib.hid (fun W (h : Ext w W) B c (hB : Rd W B EB) (hcB : N2 ≤ c) => show Calls Tryd.prog 20 #[.agg (dt 8 (co S1)), .slice B N2 c] W (Tells (.agg (dt 8 (co S2))) W) from by
    have h1 := sh_through S1 EB B c W (HGL.out W h) hS1w hS1l hB (by rw [hN2]; exact hcB) (by rw [hN2]; exact HE2.out.1) (by rw [hN2]; exact HE2.out.2)
    rw [hN2, hS2] at h1
    exact h1)
  have HSE := Lib.hid (fun (_ : Unit) => show hsh HH KK (padded b) ((padded b).length / 64) = S2 from by
    have e := endb_padded b k
    rw [HN.out, hEB] at e
    rw [← e, List.length_append, HTK.out, hN2, ← hS2, ← hS1, hsh_right (m := k / 64) (by rw [HTK.out, ← HK.out]; omega)]
    congr 1
    have := HK.out
    omega)
  have HNB := Lib.hid hN2
  have HS2L := Lib.hid (show S2.length = 8 from by rw [← hS2]; exact hsh_len _ _ _ hS1l _)
  have HS2W := Lib.hid (show W32 S2 from by rw [← hS2]; exact hsh_w32 _ _ _ hS1w _)
  have HIS := Lib.hid (fun S => info_state (co S))
  have HZL := Lib.hid (show dt 8 (fun _ => 0) = #[.int .u32 0, .int .u32 0, .int .u32 0, .int .u32 0, .int .u32 0, .int .u32 0, .int .u32 0, .int .u32 0] from rfl)
  have HGLD := Lib.hid (fun W (h : Ext w W) => show (Instr.loadAt 39 (.pointer (some ⟨0, 0, none⟩))).run Tryd.prog W = .ok (.agg V0) W from by
    obtain ⟨T, hT⟩ := HG0.out W h
    simp only [Instr.loadAt, Instr.sureAddr, Sem.run_bind, Sem.run_pure, Result.andThen]
    exact run_loadVar_row W 0 T 39 V0 (0, 0) _ hT Tryd.underlying39 rfl HI0.out)
  clear hEB hS1w hS1l hS1 hS2 hN2 hV0 hT hgl hr hn hxr hk
  rw [hZ] at hz HZ32
  go_enter Tryd.func10, Tryd.ntmps10
  go_wp2_with fail
  have HX1 := Lib.hid ((Ext.refl w).alloc (.cells Z 25))
  have HR0 := Lib.hid (show (w.alloc (.cells Z 25)).heap[g0]? = some (.cells Z 25 (0, 0)) from by rw [← hg0]; exact heap_alloc_new w _)
  have HS0 := Lib.hid (show g0 < (w.alloc (.cells Z 25)).heap.size from by rw [← hg0]; simp)
  generalize w.alloc (.cells Z 25) = w1 at HX1 HR0 HS0 ⊢
  obtain ⟨V1, hV1⟩ : ∃ V, dt 8 (co S1) = V := ⟨_, rfl⟩
  have HI1 := Lib.hid (info_state (co S1))
  have HSR1 := Lib.hid (show (dt 8 fun _ => 0).size = (dt 8 (co S1)).size from by rw [dt_size, dt_size])
  have HOR1 := Lib.hid (dt_one 8 (co S1))
  obtain ⟨V2, hV2⟩ : ∃ V, dt 8 (co S2) = V := ⟨_, rfl⟩
  have HI2 := Lib.hid (info_state (co S2))
  have HSR2 := Lib.hid (show (dt 8 (co S1)).size = (dt 8 (co S2)).size from by rw [dt_size, dt_size])
  have HOR2 := Lib.hid (dt_one 8 (co S2))
  have HVE2 := Lib.hid (fun (_ : Unit) => hV2)
  rw [hV1] at HT1 HT2 HI1 HSR1 HOR1 HSR2
  rw [hV2] at HT2 HI2 HSR2 HOR2
  clear hV1 hV2
  go_wp2
  refine wp_region_plan (AfterT w1) [0, 1, 2, 3, 4, 5] (.yes 0 (.yes 1 (.yes 2 (.yes 3 (.two 4 (.one 5 (.one 6 .done)) 5 (.one 4 (.one 6 .done))))))) (by kernel_rfl) (fun c a a' w e h => ⟨e ▸ h.1, h.2⟩) (by kernel_rfl) ((Ext.refl w1).drew) ?_
  refine plan_load rfl 39 (.global 0) rfl (.agg V0) (by first | rfl | go_simp) (fun W hW => HGLD.out W (HX1.out.trans hW)) ?_
  refine plan_yes rfl (fun K hK => ?_); go_simp; refine ⟨_, fun _ _ => rfl, hK _ ?_⟩; clear hK K
  refine plan_yes rfl (fun K hK => ?_); go_simp; refine ⟨_, fun _ _ => rfl, hK _ ?_⟩; clear hK K
  refine plan_yes rfl (fun K hK => ?_); go_simp; refine ⟨_, fun W _ => rfl, hK _ ?_⟩; clear hK K
  refine plan_two rfl rfl (fun K hK => ?_) (fun K hK => ?_)
  · go_wp2_with fail
    refine (HT1.out _ (HX1.out.drew)).mono ?_
    rintro e v4 ⟨rfl, hx4⟩
    have HX4 := Lib.hid (show AfterT w1 v4 from Ext.trans ((Ext.refl w1).drew) hx4)
    clear hx4
    go_wp2
    refine ⟨fun _ => HX4.out, ?_⟩
    refine plan_one rfl (fun K hK => ?_)
    go_wp2
    have HX6 := Lib.hid (show AfterT w1 (World.alloc v4 (.cells (dt 8 fun _ => 0) 39)) from Ext.alloc HX4.out _)
    have HB6 := Lib.hid (WBlk.new (T := 39) (n := 8) v4 (fun _ => 0))
    have HGX := Lib.hid (show w1.heap.size ≤ (v4).heap.size from Ext.size HX4.out)
    rw [HZL.out] at HX6 HB6
    refine ⟨fun _ => HX6.out, ?_⟩
    generalize hgx : (v4).heap.size = gx at HB6 HGX ⊢
    generalize World.alloc v4 _ = v6 at HX6 HB6 ⊢
    clear hgx
    refine plan_one rfl (fun K hK => ?_)
    have HG7 := Lib.hid (setRow_heap _ gx _ V1 _ _ HB6.out)
    have HX7 := Lib.hid (Ext.setRow HX6.out HGX.out V1)
    have hb0 := HB6.out
    unfold WBlk at hb0
    have HB0 := Lib.hid hb0
    clear hb0
    go_wp2_with (with_reducible refine wpList_store_all rfl 39 (.tmp 4) (.tmp 17) rfl gx (dt 8 fun _ => 0) V1 rfl rfl HB0.out HI1.out HSR1.out HOR1.out ?_)
    refine ⟨fun h => absurd h (by decide), ?_⟩
    unfold wpPlan
    obtain ⟨wz, hwz⟩ : ∃ q, World.setRow v6 gx V1 = q := ⟨_, rfl⟩
    rw [hwz] at HG7 HX7 ⊢
    clear hwz
    have HLS := Lib.hid (fun W (h : AfterT wz W) => run_load_all W gx 39 V1 8 38 Tryd.underlying39 (WBlk.ext' HG7.out h) HI1.out)
    have HXZ := Lib.hid (HX1.out.trans HX7.out)
    go_wp2
    refine wp_region_plan (AfterT wz) [0, 1, 2, 3, 4, 5, 6] (.yes 0 (.yes 1 (.yes 2 (.yes 3 (.yes 4 (.yes 5 (.one 6 (.one 7 (.one 8 .done))))))))) (by kernel_rfl) (fun c a a' w e h => ⟨e ▸ h.1, h.2⟩) (by kernel_rfl) ((Ext.refl wz).drew) ?_
    refine plan_load rfl 39 (.tmp 4) rfl (.agg V1) (by first | rfl | go_simp) (fun W hW => HLS.out W hW) ?_
    refine plan_yes rfl (fun K hK => ?_); go_simp; refine ⟨_, fun _ _ => rfl, hK _ ?_⟩; clear hK K
    refine plan_yes rfl (fun K hK => ?_); go_simp; refine ⟨_, fun _ _ => rfl, hK _ ?_⟩; clear hK K
    refine plan_yes rfl (fun K hK => ?_); go_simp; refine ⟨_, fun _ _ => rfl, hK _ ?_⟩; clear hK K
    refine plan_yes rfl (fun K hK => ?_); go_simp; refine ⟨_, fun _ _ => rfl, hK _ ?_⟩; clear hK K
    refine plan_yes rfl (fun K hK => ?_); go_simp; refine ⟨_, fun _ _ => rfl, hK _ ?_⟩; clear hK K
    refine plan_one rfl (fun K hK => ?_)
    go_wp2_with fail
    refine (HEN.out _ (HXZ.out.drew)).mono ?_
    rintro e v7 ⟨BE, cE, rfl, hcE, hrE, hx7⟩
    rw [HNB.out] at hcE ⊢
    have HX8 := Lib.hid (show AfterT wz v7 from Ext.trans ((Ext.refl wz).drew) hx7)
    have HRE := Lib.hid hrE
    clear hx7 hrE
    go_wp2
    refine ⟨fun _ => HX8.out, ?_⟩
    refine plan_one rfl (fun K hK => ?_)
    go_wp2_with fail
    refine (HT2.out _ (HXZ.out.trans HX8.out) BE cE HRE.out hcE).mono ?_
    rintro e v8 ⟨rfl, hx8⟩
    have HX9 := Lib.hid (show AfterT wz v8 from Ext.trans HX8.out hx8)
    clear hx8
    go_wp2
    refine ⟨fun h => absurd h (by decide), ?_⟩
    refine plan_one rfl (fun K hK => ?_)
    have HB8 := Lib.hid (WBlk.ext' HG7.out HX9.out)
    have HGA := Lib.hid (setRow_heap _ gx _ V2 _ _ HB8.out)
    have HXA := Lib.hid (Ext.setRow (HX7.out.trans HX9.out) HGX.out V2)
    go_wp2_with (with_reducible refine wpList_store_all rfl 39 (.tmp 4) (.tmp 25) rfl gx V1 V2 rfl rfl HB8.out HI2.out HSR2.out HOR2.out ?_)
    refine ⟨fun h => absurd h (by decide), ?_⟩
    unfold wpPlan
    obtain ⟨wy, hwy⟩ : ∃ q, World.setRow v8 gx V2 = q := ⟨_, rfl⟩
    rw [hwy] at HGA HXA ⊢
    clear hwy
    have HRY := Lib.hid (WBlk.ext' HR0.out HXA.out)
    have HSY := Lib.hid (show gx < wy.heap.size from (Array.getElem?_eq_some_iff.1 HGA.out).1)
    have HXY := Lib.hid (HX1.out.trans HXA.out)
    have HGY := Lib.hid (show WBlk 39 8 wy gx (co S2) from by unfold WBlk; rw [HVE2.out ()]; exact HGA.out)
    have hbs : Z.size = 32 := HZ32.out ()
    have hbo : Z.all (·.oneCell') = true := by rw [← hZ]; exact bt_one _ _
    have g1 := heap_alloc_new wy (.cells Z 25)
    have hst := store32 (wy.alloc (.cells Z 25)) wy.heap.size (fun _ => 0) (fun _ => 0) (by unfold DBlk; rw [hZ]; exact g1)
    rw [hZ, setRow_same _ _ _ _ g1] at hst
    have HG1 := Lib.hid (show DBlk (wy.alloc (.cells Z 25)) wy.heap.size (fun _ => 0) from by unfold DBlk; rw [hZ]; exact g1)
    have HXD := Lib.hid ((Ext.refl wy).alloc (.cells Z 25))
    clear g1
    go_wp2_with fail
    clear hst hbs hbo
    obtain ⟨db, hdb⟩ : ∃ db, wy.heap.size = db := ⟨_, rfl⟩
    have HDB := Lib.hid hdb
    rw [hdb] at HG1 HSY ⊢
    clear hdb
    have HRW := Lib.hid (WBlk.ext' HRY.out HXD.out)
    have HGW := Lib.hid (WBlk.ext HGY.out HXD.out)
    have HXW := Lib.hid (HXY.out.trans HXD.out)
    have HG0D := Lib.hid (show g0 < db from by have := (Array.getElem?_eq_some_iff.1 HRY.out).1; have := HDB.out; omega)
    generalize wy.alloc (.cells Z 25) = W at HG1 HXD HRW HGW HXW ⊢
    go_loopg [27] 32 (fun gk s27 wx => ∃ i : Nat, i + gk = 32 ∧ s27 = .int .i64 (i : Int) ∧ DBlk wx db (fun j => if j < i then digB S2 j else 0) ∧ W.grownBy wx (some db))
    case atStart => exact ⟨0, by omega, rfl, HG1.out.congr (fun i _ => by rw [if_neg (by omega)]), ⟨rfl, rfl, rfl, Nat.le_refl _, fun _ _ _ => rfl⟩⟩
    case round =>
      obtain ⟨i, hig, rfl, hb, hg2⟩ := hrel
      have HB2 := Lib.hid hb
      have HG2 := Lib.hid hg2
      have HIG := Lib.hid hig
      clear hb hg2 hig
      cases gk with
      | zero =>
        have hi32 : 32 ≤ i := by have := HIG.out; omega
        have hi : ¬ ((i : Int) < 32) := by omega
        have d1 : decide ((i : Int) < 32) = false := decide_eq_false hi
        have hbl := HB2.out.congr (f' := digB S2) (fun j hj => by rw [if_pos (by omega)])
        have hrw := (HG2.out.block g0 (by have := (Array.getElem?_eq_some_iff.1 HRW.out).1; exact this) (fun e => by injection e with e; have := HG0D.out; omega)).trans HRW.out
        have HBL := Lib.hid hbl
        have HRR := Lib.hid hrw
        have HG3 := Lib.hid (setRow_heap _ _ _ (bt 32 (digB S2)) _ _ hrw)
        have HX3 := Lib.hid ((HXW.out.more HG2.out (fun q e => by injection e with e; rw [← e, HW0.out]; exact Nat.le_of_lt HG0D.out)).setRow (g := g0) (by rw [HW0.out]; exact Nat.le_refl _) (bt 32 (digB S2)))
        have HIN := Lib.hid (info32 (digB S2))
        have HSZ := Lib.hid (show Z.size = (bt 32 (digB S2)).size by rw [bt_size, (HZ32.out ())])
        have HON := Lib.hid (fun (_ : Unit) => (bt_one 32 (digB S2)))
        have HV := Lib.hid (show Dgc (bt 32 (digB S2)) (sha b) from ⟨bt_size _ _, fun j hj => by
          rw [bt_at 32 _ j hj]
          unfold sha shaK
          rw [co_map _ _ _ (by rw [List.length_range]; exact hj), show co (List.range 32) j = j from by unfold co; rw [List.getElem?_range hj]; rfl, HSE.out ()]⟩)
        clear hi hi32 hbl hrw
        unfold DBlk at HBL
        generalize bt 32 (digB S2) = V at HBL HG3 HX3 HIN HSZ HON HV
        go_wp2_with (first | (with_reducible refine wpList_load_row rfl 25 (.tmp 5) rfl db rfl 25 V (0, 0) _ HBL.out Tryd.underlying25 rfl HIN.out ?_) | (with_reducible refine wpList_store_all rfl 25 (.tmp 2) (.tmp 43) rfl g0 Z V rfl rfl HRR.out HIN.out HSZ.out (HON.out ()) ?_))
        exact ⟨rfl, .agg V, results_cell_row Tryd.results10 _ _ g0 25 V (0, 0) _ rfl HG3.out Tryd.underlying25 rfl HIN.out, V, rfl, HV.out, HX3.out⟩
      | succ gk =>
        have hi : i < 32 := by have := HIG.out; omega
        have hiI : (i : Int) < 32 := by omega
        obtain ⟨q, hq⟩ : ∃ q, i / 4 = q := ⟨_, rfl⟩
        obtain ⟨r, hr⟩ : ∃ r, i % 4 = r := ⟨_, rfl⟩
        obtain ⟨v, hv⟩ : ∃ v, 24 - 8 * r = v := ⟨_, rfl⟩
        have hq8 : q < 8 := by omega
        have hcq := (WBlk.grown HGW.out HG2.out (by have := HSY.out; omega)).cell q hq8
        obtain ⟨x, hx⟩ : ∃ x, co S2 q = x := ⟨_, rfl⟩
        rw [hx] at hcq
        have hx32 : x < 4294967296 := by rw [← hx]; exact HS2W.out.at q
        have e1 : (i : Int) / 4 = (q : Int) := by omega
        have e1' : (i : Int).tdiv 4 = (q : Int) := by rw [Int.tdiv_eq_ediv_of_nonneg (by omega)]; omega
        have e2 : (i : Int) % 4 = (r : Int) := by omega
        have e2' : (i : Int).tmod 4 = (r : Int) := by rw [Int.tmod_eq_emod_of_nonneg (by omega)]; omega
        have e3 : 24 - 8 * (r : Int) = (v : Int) := by omega
        have e4 : wrap64 (8 * (r : Int)) = 8 * (r : Int) := by unfold wrap64; omega
        have e5 : wrap64 (24 - 8 * (r : Int)) = (v : Int) := by unfold wrap64; omega
        have hr4 : r < 4 := by omega
        have hqI : (q : Int) < 8 := by omega
        have hv24 : v ≤ 24 := by omega
        have hfz := HB2.out.frozen i
        have hck := HB2.out.cell i hi
        have HQ := Lib.hid (fun (_ : Unit) => (show digB S2 i = x / 2 ^ v % 256 from by unfold digB; rw [hq, hr, hv, hx]))
        clear hq hr hv hx
        go_wp2_with fail
        go_roundg gk
        case measure => omega
        case rel =>
          have ev : (x : Int) / 2 ^ v % 256 = ((digB S2 i : Nat) : Int) := by rw [(HQ.out ())]; simp
          refine ⟨i + 1, by have := HIG.out; omega, by go_num, ?_, HG2.out.trans (grown_set _ _ _ _)⟩
          rw [ev]
          exact (HB2.out.store i (digB S2 i)).congr (fun j _ => by
            unfold upd
            by_cases h : j = i
            · subst h; rw [if_pos rfl, if_pos (by omega)]
            · rw [if_neg h]
              show (if j < i then digB S2 j else 0) = if j < i + 1 then digB S2 j else 0
              by_cases h2 : j < i
              · rw [if_pos h2, if_pos (by omega)]
              · rw [if_neg h2, if_neg (by omega)])
  · go_wp2
    have HX6 := Lib.hid (show AfterT w1 (World.drew (World.alloc w1 (.cells (dt 8 fun _ => 0) 39))) from (Ext.alloc (Ext.refl w1) _).drew)
    have HB6 := Lib.hid (show WBlk 39 8 (World.drew (World.alloc w1 (.cells (dt 8 fun _ => 0) 39))) w1.heap.size (fun _ => 0) from WBlk.new (T := 39) (n := 8) w1 (fun _ => 0))
    rw [HZL.out] at HX6 HB6
    refine ⟨fun _ => HX6.out, ?_⟩
    generalize hgx : w1.heap.size = gx at HB6 ⊢
    have HGX := Lib.hid (Nat.le_of_eq hgx)
    generalize (World.alloc w1 _).drew = v6 at HX6 HB6 ⊢
    clear hgx
    refine plan_one rfl (fun K hK => ?_)
    go_wp2_with fail
    refine (HT1.out _ (HX1.out.trans HX6.out)).mono ?_
    rintro e v4 ⟨rfl, hx4⟩
    have HX4 := Lib.hid (show AfterT w1 v4 from Ext.trans HX6.out hx4)
    have HB4 := Lib.hid (WBlk.ext HB6.out hx4)
    clear hx4
    go_wp2
    refine ⟨fun _ => HX4.out, ?_⟩
    refine plan_one rfl (fun K hK => ?_)
    have HG7 := Lib.hid (setRow_heap _ gx _ V1 _ _ HB4.out)
    have HX7 := Lib.hid (Ext.setRow HX4.out HGX.out V1)
    have hb0 := HB4.out
    unfold WBlk at hb0
    have HB0 := Lib.hid hb0
    clear hb0
    go_wp2_with (with_reducible refine wpList_store_all rfl 39 (.tmp 4) (.tmp 17) rfl gx (dt 8 fun _ => 0) V1 rfl rfl HB0.out HI1.out HSR1.out HOR1.out ?_)
    refine ⟨fun h => absurd h (by decide), ?_⟩
    unfold wpPlan
    obtain ⟨wz, hwz⟩ : ∃ q, World.setRow v4 gx V1 = q := ⟨_, rfl⟩
    rw [hwz] at HG7 HX7 ⊢
    clear hwz
    have HLS := Lib.hid (fun W (h : AfterT wz W) => run_load_all W gx 39 V1 8 38 Tryd.underlying39 (WBlk.ext' HG7.out h) HI1.out)
    have HXZ := Lib.hid (HX1.out.trans HX7.out)
    go_wp2
    refine wp_region_plan (AfterT wz) [0, 1, 2, 3, 4, 5, 6] (.yes 0 (.yes 1 (.yes 2 (.yes 3 (.yes 4 (.yes 5 (.one 6 (.one 7 (.one 8 .done))))))))) (by kernel_rfl) (fun c a a' w e h => ⟨e ▸ h.1, h.2⟩) (by kernel_rfl) ((Ext.refl wz).drew) ?_
    refine plan_load rfl 39 (.tmp 4) rfl (.agg V1) (by first | rfl | go_simp) (fun W hW => HLS.out W hW) ?_
    refine plan_yes rfl (fun K hK => ?_); go_simp; refine ⟨_, fun _ _ => rfl, hK _ ?_⟩; clear hK K
    refine plan_yes rfl (fun K hK => ?_); go_simp; refine ⟨_, fun _ _ => rfl, hK _ ?_⟩; clear hK K
    refine plan_yes rfl (fun K hK => ?_); go_simp; refine ⟨_, fun _ _ => rfl, hK _ ?_⟩; clear hK K
    refine plan_yes rfl (fun K hK => ?_); go_simp; refine ⟨_, fun _ _ => rfl, hK _ ?_⟩; clear hK K
    refine plan_yes rfl (fun K hK => ?_); go_simp; refine ⟨_, fun _ _ => rfl, hK _ ?_⟩; clear hK K
    refine plan_one rfl (fun K hK => ?_)
    go_wp2_with fail
    refine (HEN.out _ (HXZ.out.drew)).mono ?_
    rintro e v7 ⟨BE, cE, rfl, hcE, hrE, hx7⟩
    rw [HNB.out] at hcE ⊢
    have HX8 := Lib.hid (show AfterT wz v7 from Ext.trans ((Ext.refl wz).drew) hx7)
    have HRE := Lib.hid hrE
    clear hx7 hrE
    go_wp2
    refine ⟨fun _ => HX8.out, ?_⟩
    refine plan_one rfl (fun K hK => ?_)
    go_wp2_with fail
    refine (HT2.out _ (HXZ.out.trans HX8.out) BE cE HRE.out hcE).mono ?_
    rintro e v8 ⟨rfl, hx8⟩
    have HX9 := Lib.hid (show AfterT wz v8 from Ext.trans HX8.out hx8)
    clear hx8
    go_wp2
    refine ⟨fun h => absurd h (by decide), ?_⟩
    refine plan_one rfl (fun K hK => ?_)
    have HB8 := Lib.hid (WBlk.ext' HG7.out HX9.out)
    have HGA := Lib.hid (setRow_heap _ gx _ V2 _ _ HB8.out)
    have HXA := Lib.hid (Ext.setRow (HX7.out.trans HX9.out) HGX.out V2)
    go_wp2_with (with_reducible refine wpList_store_all rfl 39 (.tmp 4) (.tmp 25) rfl gx V1 V2 rfl rfl HB8.out HI2.out HSR2.out HOR2.out ?_)
    refine ⟨fun h => absurd h (by decide), ?_⟩
    unfold wpPlan
    obtain ⟨wy, hwy⟩ : ∃ q, World.setRow v8 gx V2 = q := ⟨_, rfl⟩
    rw [hwy] at HGA HXA ⊢
    clear hwy
    have HRY := Lib.hid (WBlk.ext' HR0.out HXA.out)
    have HSY := Lib.hid (show gx < wy.heap.size from (Array.getElem?_eq_some_iff.1 HGA.out).1)
    have HXY := Lib.hid (HX1.out.trans HXA.out)
    have HGY := Lib.hid (show WBlk 39 8 wy gx (co S2) from by unfold WBlk; rw [HVE2.out ()]; exact HGA.out)
    have hbs : Z.size = 32 := HZ32.out ()
    have hbo : Z.all (·.oneCell') = true := by rw [← hZ]; exact bt_one _ _
    have g1 := heap_alloc_new wy (.cells Z 25)
    have hst := store32 (wy.alloc (.cells Z 25)) wy.heap.size (fun _ => 0) (fun _ => 0) (by unfold DBlk; rw [hZ]; exact g1)
    rw [hZ, setRow_same _ _ _ _ g1] at hst
    have HG1 := Lib.hid (show DBlk (wy.alloc (.cells Z 25)) wy.heap.size (fun _ => 0) from by unfold DBlk; rw [hZ]; exact g1)
    have HXD := Lib.hid ((Ext.refl wy).alloc (.cells Z 25))
    clear g1
    go_wp2_with fail
    clear hst hbs hbo
    obtain ⟨db, hdb⟩ : ∃ db, wy.heap.size = db := ⟨_, rfl⟩
    have HDB := Lib.hid hdb
    rw [hdb] at HG1 HSY ⊢
    clear hdb
    have HRW := Lib.hid (WBlk.ext' HRY.out HXD.out)
    have HGW := Lib.hid (WBlk.ext HGY.out HXD.out)
    have HXW := Lib.hid (HXY.out.trans HXD.out)
    have HG0D := Lib.hid (show g0 < db from by have := (Array.getElem?_eq_some_iff.1 HRY.out).1; have := HDB.out; omega)
    generalize wy.alloc (.cells Z 25) = W at HG1 HXD HRW HGW HXW ⊢
    go_loopg [27] 32 (fun gk s27 wx => ∃ i : Nat, i + gk = 32 ∧ s27 = .int .i64 (i : Int) ∧ DBlk wx db (fun j => if j < i then digB S2 j else 0) ∧ W.grownBy wx (some db))
    case atStart => exact ⟨0, by omega, rfl, HG1.out.congr (fun i _ => by rw [if_neg (by omega)]), ⟨rfl, rfl, rfl, Nat.le_refl _, fun _ _ _ => rfl⟩⟩
    case round =>
      obtain ⟨i, hig, rfl, hb, hg2⟩ := hrel
      have HB2 := Lib.hid hb
      have HG2 := Lib.hid hg2
      have HIG := Lib.hid hig
      clear hb hg2 hig
      cases gk with
      | zero =>
        have hi32 : 32 ≤ i := by have := HIG.out; omega
        have hi : ¬ ((i : Int) < 32) := by omega
        have d1 : decide ((i : Int) < 32) = false := decide_eq_false hi
        have hbl := HB2.out.congr (f' := digB S2) (fun j hj => by rw [if_pos (by omega)])
        have hrw := (HG2.out.block g0 (by have := (Array.getElem?_eq_some_iff.1 HRW.out).1; exact this) (fun e => by injection e with e; have := HG0D.out; omega)).trans HRW.out
        have HBL := Lib.hid hbl
        have HRR := Lib.hid hrw
        have HG3 := Lib.hid (setRow_heap _ _ _ (bt 32 (digB S2)) _ _ hrw)
        have HX3 := Lib.hid ((HXW.out.more HG2.out (fun q e => by injection e with e; rw [← e, HW0.out]; exact Nat.le_of_lt HG0D.out)).setRow (g := g0) (by rw [HW0.out]; exact Nat.le_refl _) (bt 32 (digB S2)))
        have HIN := Lib.hid (info32 (digB S2))
        have HSZ := Lib.hid (show Z.size = (bt 32 (digB S2)).size by rw [bt_size, (HZ32.out ())])
        have HON := Lib.hid (fun (_ : Unit) => (bt_one 32 (digB S2)))
        have HV := Lib.hid (show Dgc (bt 32 (digB S2)) (sha b) from ⟨bt_size _ _, fun j hj => by
          rw [bt_at 32 _ j hj]
          unfold sha shaK
          rw [co_map _ _ _ (by rw [List.length_range]; exact hj), show co (List.range 32) j = j from by unfold co; rw [List.getElem?_range hj]; rfl, HSE.out ()]⟩)
        clear hi hi32 hbl hrw
        unfold DBlk at HBL
        generalize bt 32 (digB S2) = V at HBL HG3 HX3 HIN HSZ HON HV
        go_wp2_with (first | (with_reducible refine wpList_load_row rfl 25 (.tmp 5) rfl db rfl 25 V (0, 0) _ HBL.out Tryd.underlying25 rfl HIN.out ?_) | (with_reducible refine wpList_store_all rfl 25 (.tmp 2) (.tmp 43) rfl g0 Z V rfl rfl HRR.out HIN.out HSZ.out (HON.out ()) ?_))
        exact ⟨rfl, .agg V, results_cell_row Tryd.results10 _ _ g0 25 V (0, 0) _ rfl HG3.out Tryd.underlying25 rfl HIN.out, V, rfl, HV.out, HX3.out⟩
      | succ gk =>
        have hi : i < 32 := by have := HIG.out; omega
        have hiI : (i : Int) < 32 := by omega
        obtain ⟨q, hq⟩ : ∃ q, i / 4 = q := ⟨_, rfl⟩
        obtain ⟨r, hr⟩ : ∃ r, i % 4 = r := ⟨_, rfl⟩
        obtain ⟨v, hv⟩ : ∃ v, 24 - 8 * r = v := ⟨_, rfl⟩
        have hq8 : q < 8 := by omega
        have hcq := (WBlk.grown HGW.out HG2.out (by have := HSY.out; omega)).cell q hq8
        obtain ⟨x, hx⟩ : ∃ x, co S2 q = x := ⟨_, rfl⟩
        rw [hx] at hcq
        have hx32 : x < 4294967296 := by rw [← hx]; exact HS2W.out.at q
        have e1 : (i : Int) / 4 = (q : Int) := by omega
        have e1' : (i : Int).tdiv 4 = (q : Int) := by rw [Int.tdiv_eq_ediv_of_nonneg (by omega)]; omega
        have e2 : (i : Int) % 4 = (r : Int) := by omega
        have e2' : (i : Int).tmod 4 = (r : Int) := by rw [Int.tmod_eq_emod_of_nonneg (by omega)]; omega
        have e3 : 24 - 8 * (r : Int) = (v : Int) := by omega
        have e4 : wrap64 (8 * (r : Int)) = 8 * (r : Int) := by unfold wrap64; omega
        have e5 : wrap64 (24 - 8 * (r : Int)) = (v : Int) := by unfold wrap64; omega
        have hr4 : r < 4 := by omega
        have hqI : (q : Int) < 8 := by omega
        have hv24 : v ≤ 24 := by omega
        have hfz := HB2.out.frozen i
        have hck := HB2.out.cell i hi
        have HQ := Lib.hid (fun (_ : Unit) => (show digB S2 i = x / 2 ^ v % 256 from by unfold digB; rw [hq, hr, hv, hx]))
        clear hq hr hv hx
        go_wp2_with fail
        go_roundg gk
        case measure => omega
        case rel =>
          have ev : (x : Int) / 2 ^ v % 256 = ((digB S2 i : Nat) : Int) := by rw [(HQ.out ())]; simp
          refine ⟨i + 1, by have := HIG.out; omega, by go_num, ?_, HG2.out.trans (grown_set _ _ _ _)⟩
          rw [ev]
          exact (HB2.out.store i (digB S2 i)).congr (fun j _ => by
            unfold upd
            by_cases h : j = i
            · subst h; rw [if_pos rfl, if_pos (by omega)]
            · rw [if_neg h]
              show (if j < i then digB S2 j else 0) = if j < i + 1 then digB S2 j else 0
              by_cases h2 : j < i
              · rw [if_pos h2, if_pos (by omega)]
              · rw [if_neg h2, if_neg (by omega)])
end Go.Proofs.YtfhmafncpodlbaaDoor

/-
  What it is to lay something behind bytes of a call's own. Conditions: none; no function is named here.
-/
namespace Go.Proofs.YtfhmafncpodlbaaDoor
open Go.RowKit
open Pol (co Sm)

/-- What lays something behind bytes of a call's own. -/
def Lays (base : Nat) (v : Value) (l : List Nat) (w : World) (e : Ending) (w' : World) : Prop :=
  ∃ v', e = .returned v' ∧ Mine w' base v' l ∧ w.grownBy w' v.ownBlock ∧ (v'.ownBlock = v.ownBlock ∨ ∃ k, v'.ownBlock = some k ∧ w.heap.size ≤ k)
/-- From v in world w on, vx has come in world wx. -/
def LayS (w wx : World) (v vx : Value) : Prop := w.grownBy wx v.ownBlock ∧ (vx.ownBlock = v.ownBlock ∨ ∃ k, vx.ownBlock = some k ∧ w.heap.size ≤ k)
theorem LayS.refl (w : World) (v : Value) : LayS w w v v := ⟨⟨rfl, rfl, rfl, Nat.le_refl _, fun _ _ _ => rfl⟩, .inl rfl⟩
theorem LayS.step {w wx w' : World} {v vx v' : Value} (h : LayS w wx v vx) (hg : wx.grownBy w' vx.ownBlock) (ha : v'.ownBlock = vx.ownBlock ∨ v'.ownBlock = some wx.heap.size) : LayS w w' v v' := by
  refine ⟨⟨hg.os.trans h.1.os, hg.tape.trans h.1.tape, hg.output.trans h.1.output, Nat.le_trans h.1.size hg.size, fun k hk hne => (hg.block k (Nat.lt_of_lt_of_le hk h.1.size) ?_).trans (h.1.block k hk hne)⟩, ?_⟩
  · intro e
    rcases h.2 with e' | ⟨b, e', hb⟩
    · exact hne (e.trans e')
    · rw [e'] at e
      injection e with e
      omega
  · rcases ha with e | e
    · rcases h.2 with e' | ⟨b, e', hb⟩
      · exact .inl (e.trans e')
      · exact .inr ⟨b, e.trans e', hb⟩
    · exact .inr ⟨_, e, h.1.size⟩
theorem LayS.alloc {w wx : World} {v vx : Value} (h : LayS w wx v vx) (o : Obj) : LayS w (wx.alloc o) v vx :=
  ⟨⟨h.1.os, h.1.tape, h.1.output, by simp; have := h.1.size; omega, fun k hk hne => (heap_alloc_old _ _ (Nat.lt_of_lt_of_le hk h.1.size)).trans (h.1.block k hk hne)⟩, h.2⟩
theorem LayS.lays {w w' : World} {base : Nat} {v v' : Value} {l : List Nat} (h : LayS w w' v v') (hm : Mine w' base v' l) : Lays base v l w (.returned v') w' := ⟨v', rfl, hm, h.1, h.2⟩

set_option maxRecDepth 100000 in
theorem or8_128 : ∀ b : Nat, b < 256 → bits .or .u8 (b : Int) 128 = ((b % 128 + 128 : Nat) : Int) := by decide

theorem LayS.ext {w wx wy : World} {v vx : Value} (h : LayS w wx v vx) (hx : Ext wx wy) : LayS w wy v vx :=
  ⟨⟨hx.below.os.trans h.1.os, hx.below.tape.trans h.1.tape, hx.below.output.trans h.1.output, Nat.le_trans h.1.size hx.size, fun k hk hne => (hx.below.block k (Nat.lt_of_lt_of_le hk h.1.size)).trans (h.1.block k hk hne)⟩, h.2⟩

end Go.Proofs.YtfhmafncpodlbaaDoor

/-
  What Number and Text of layer 8 lay behind bytes. Conditions: no more than 2^20 bytes each.
-/
namespace Go.Proofs.YtfhmafncpodlbaaDoor
open Go.RowKit
open Pol (co Sm)

set_option maxHeartbeats 1600000 in
set_option maxRecDepth 100000 in
theorem cd_layN (base : Nat) (v : Value) (l : List Nat) (n : Nat) (w : World) (hm : Mine w base v l) (hs : Sm l) (hl : l.length ≤ 1048576) (hn : n < 18446744073709551616) (hb : base ≤ w.heap.size) :
    Calls Tryd.prog 34 #[v, .int .u64 (n : Int)] w (Lays base v (l ++ vn n) w) := by
  have HSM := Lib.hid (sm_app hs (vn_sm n))
  have HTEN := Lib.hid (vn_ten hn)
  have hn10 : n < 128 ^ (9 + 1) := by omega
  obtain ⟨V, hV⟩ : ∃ V, l ++ vn n = V := ⟨_, rfl⟩
  have HVL := Lib.hid (show V.length ≤ 1048586 by rw [← hV, List.length_append]; have := HTEN.out; omega)
  rw [hV] at HSM
  rw [hV]
  have HV := Lib.hid hV
  clear hV
  obtain ⟨B0, c0, rfl, hc0, _⟩ := hm.slice hs
  have HM0 := Lib.hid hm
  have HB := Lib.hid hb
  obtain ⟨l0, hl0⟩ : ∃ l0, l.length = l0 := ⟨_, rfl⟩
  have HL0 := Lib.hid hl0
  obtain ⟨v0, hv0⟩ : ∃ v0, Value.slice B0 l.length c0 = v0 := ⟨_, rfl⟩
  rw [hv0] at HM0 ⊢
  rw [hl0] at hv0 hc0 hl
  have HV0 := Lib.hid hv0
  rw [← hv0]
  clear hm hb hl0 hv0
  go_enter Tryd.func34, Tryd.ntmps34
  go_wp2
  go_loopg [0, 1] 9 (fun g s0 s1 wx => ∃ (m : Nat) (acc : List Nat) (B : Option Addr) (c : Nat), m < 128 ^ (g + 1) ∧ s1 = .int .u64 (m : Int) ∧ m < 18446744073709551616 ∧ acc ++ vn m = V ∧ s0 = .slice B acc.length c ∧ Mine wx base (.slice B acc.length c) acc ∧ LayS w wx v0 (.slice B acc.length c))
  case atStart => exact ⟨n, l, B0, c0, hn10, rfl, hn, HV.out, by rw [HL0.out], by rw [HL0.out, HV0.out]; exact HM0.out, by rw [HL0.out, HV0.out]; exact LayS.refl _ _⟩
  case round =>
    obtain ⟨m, acc, B, c, hmg, rfl, hm64, hac, rfl, hmi, hx⟩ := hrel
    have HM := Lib.hid hmi
    have HX := Lib.hid hx
    have hlen : acc.length ≤ 1048586 := by have := HVL.out; rw [← hac, List.length_append] at this; omega
    have hsz : w.heap.size ≤ wr.heap.size := hx.1.size
    have HSZ := Lib.hid (Nat.le_trans HB.out hsz)
    obtain ⟨la, hla⟩ : ∃ la, acc.length = la := ⟨_, rfl⟩
    have HLA := Lib.hid hla
    rw [hla] at HM HX hlen ⊢
    clear hmi hx hla hsz
    by_cases h128 : m < 128
    · have d1 : decide (128 ≤ (m : Int)) = false := decide_eq_false (by omega)
      have e1 : IntKind.u8.wrap (m : Int) = (m : Int) := IntWalk.u8_in _ (by omega)
      have HAV := Lib.hid (show acc ++ [m] = V from by rw [← hac, vn_lt h128])
      have hm256 : m < 256 := by omega
      clear hac hmg
      go_wp2_with (at_builtin; refine wpList_append_rd rfl (.tmp 15) (.tmp 18) rfl base _ acc [m] rfl (mine_ext HM.out ((Ext.refl _).alloc _)) (some ⟨wr.heap.size, 0, none⟩) 1 1 rfl rfl (rd_one wr m hm256) (by rw [HLA.out]; simp; omega) (by simp; have := HSZ.out; omega) ?_; intro v' w3 hown' hg' hat'; rw [HAV.out] at hown'; have hx3 := (HX.out.alloc (.cells #[.int .u8 (m : Int)] 5)).step hg' hat'; have HO := Lib.hid (hx3.lays hown'); clear hown' hg' hat' hx3)
      go_ret
      rw [HV0.out]
      exact HO.out
    · cases gk with
      | zero => omega
      | succ g =>
        have d1 : decide (128 ≤ (m : Int)) = true := decide_eq_true (by omega)
        obtain ⟨q, hq⟩ : ∃ q, m % 256 = q := ⟨_, rfl⟩
        obtain ⟨y, hy⟩ : ∃ y, q % 128 + 128 = y := ⟨_, rfl⟩
        obtain ⟨m2, hm2⟩ : ∃ m2, m / 128 = m2 := ⟨_, rfl⟩
        have e1 : IntKind.u8.wrap (m : Int) = (q : Int) := by rw [IntKind.wrap_u8]; omega
        have e2 : bits .or .u8 (q : Int) 128 = (y : Int) := by rw [or8_128 q (by omega), hy]
        have e5 : (m : Int) / 128 = (m2 : Int) := by omega
        have hy256 : y < 256 := by omega
        have HAV := Lib.hid (show (acc ++ [y]) ++ vn m2 = V from by
          rw [← hac, vn_ge h128, List.append_assoc, hm2, show m % 128 + 128 = y from by omega]; rfl)
        have HS9 := Lib.hid (show Sm (acc ++ [y]) from (sm_split (b := vn m2) (by rw [HAV.out]; exact HSM.out)).1)
        have HL9 := Lib.hid (show (acc ++ [y]).length = la + 1 by rw [List.length_append, HLA.out]; rfl)
        have hm2b : m2 < 128 ^ (g + 1) := by rw [← hm2]; rw [Nat.pow_succ] at hmg; omega
        have hm2c : m2 < 18446744073709551616 := by omega
        clear hac hq hy hm2 hmg
        go_wp2_with (at_builtin; refine wpList_append_rd rfl (.tmp 7) (.tmp 11) rfl base _ acc [y] rfl (mine_ext HM.out ((Ext.refl _).alloc _)) (some ⟨wr.heap.size, 0, none⟩) 1 1 rfl rfl (rd_one wr y hy256) (by rw [HLA.out]; simp; omega) (by simp; have := HSZ.out; omega) ?_; intro v' w3 hown' hg' hat'; have hx3 := (HX.out.alloc (.cells #[.int .u8 (y : Int)] 5)).step hg' hat'; obtain ⟨Bv, cv, ev', hcv, _⟩ := hown'.slice HS9.out; rw [HL9.out] at ev'; subst ev'; have HO := Lib.hid hown'; have HX3 := Lib.hid hx3; clear hown' hg' hat' hx3)
        go_roundg g
        case measure => omega
        case rel => exact ⟨m2, acc ++ [y], Bv, cv, hm2b, rfl, hm2c, HAV.out, by rw [HL9.out], by rw [HL9.out]; exact HO.out, by rw [HL9.out]; exact HX3.out⟩
set_option maxHeartbeats 1600000 in
theorem cd_layT (base : Nat) (v : Value) (l t : List Nat) (A : Option Addr) (ca : Nat) (w : World) (hm : Mine w base v l) (hs : Sm l) (hr : Rd w A t) (hl : l.length ≤ 1048576) (ht : t.length ≤ 1048576) (hb : base ≤ w.heap.size) :
    Calls Tryd.prog 27 #[v, .slice A t.length ca] w (Lays base v (l ++ vt t) w) := by
  have HN := Lib.hid (cd_layN w.heap.size (.slice none 0 0) [] t.length w (Mine.nil _ _) Sm.nil (by decide) (by omega) (Nat.le_refl _))
  have HR := Lib.hid hr
  have HM := Lib.hid hm
  have HB := Lib.hid hb
  have HS := Lib.hid (vt_sm hr.1)
  have HSN := Lib.hid (vn_sm t.length)
  have HTEN := Lib.hid (vn_ten (n := t.length) (by omega))
  have HVT := Lib.hid (show vn t.length ++ t = vt t from rfl)
  have HVL := Lib.hid (show (vt t).length ≤ 1048586 by rw [← HVT.out, List.length_append]; have := HTEN.out; omega)
  rw [List.nil_append] at HN
  obtain ⟨B0, c0, ev0, hc0, _⟩ := hm.slice hs
  have HV0 := Lib.hid ev0
  rw [ev0]
  clear hr hm hb
  generalize hn : t.length = n at *
  have HL := Lib.hid hn
  clear hn
  have e1 : IntKind.u64.wrap (n : Int) = (n : Int) := by rw [IntKind.wrap_u64]; omega
  generalize vn n = V at *
  obtain ⟨V2, hV2⟩ : ∃ V2, vt t = V2 := ⟨_, rfl⟩
  rw [hV2] at HS HVT HVL ⊢
  clear hV2 ev0
  go_enter Tryd.func27, Tryd.ntmps27
  go_wp2_with fail
  refine HN.out.mono ?_
  rintro e w1 ⟨v1, rfl, hm1, hg1, _⟩
  have HX1 := Lib.hid ((Ext.refl w).more hg1 (fun r e => by simp [Value.ownBlock] at e))
  obtain ⟨B, c, ev, hc, _⟩ := hm1.slice HSN.out
  subst ev
  have HM1 := Lib.hid hm1
  clear hm1 hg1
  obtain ⟨lv, hlv⟩ : ∃ lv, V.length = lv := ⟨_, rfl⟩
  have HLV := Lib.hid hlv
  rw [hlv] at HM1 hc HTEN ⊢
  clear hlv
  go_wp2_with (at_builtin; first | (refine wpList_append_rd rfl (.tmp 9) (.tmp 10) rfl w.heap.size _ V t rfl HM1.out A n ca rfl HL.out (HR.out.ext HX1.out) (by rw [HLV.out, HL.out]; have := HTEN.out; omega) (by have := HX1.out.size; omega) ?_; intro v2 w3 hown' hg' hat'; rw [HVT.out] at hown'; have hx3 := HX1.out.more hg' (fun r e => (HM1.out.block r e).1); obtain ⟨Bv, cv, ev', hcv, hrv⟩ := hown'.slice HS.out; subst ev'; have HR3 := Lib.hid hrv; have HX3 := Lib.hid hx3; clear hown' hg' hat' hx3 hrv) | (refine wpList_append_rd rfl (.tmp 12) (.tmp 13) rfl base _ l V2 rfl (HV0.out ▸ mine_ext HM.out HX3.out) Bv V2.length cv rfl rfl HR3.out (by have := HVL.out; omega) (by have := HX3.out.size; have := HB.out; omega) ?_; intro v4 w5 hown5 hg5 hat5; have HO := Lib.hid ((((LayS.refl w (.slice B0 l.length c0)).ext HX3.out).step hg5 hat5).lays hown5); clear hown5 hg5 hat5))
  go_ret
  exact HO.out

end Go.Proofs.YtfhmafncpodlbaaDoor

/-
  What Parts of layer 10 does. Conditions: no more than 1024 rows of 1024 bytes, no more than 2^16 bytes in all; the constants lie where they were laid.
-/
namespace Go.Proofs.YtfhmafncpodlbaaDoor
open Go.RowKit
open Pol (co Sm)

theorem Dgc.one {V : Array Value} {l : List Nat} (h : Dgc V l) : V.all (·.oneCell') = true := by
  rw [Array.all_eq_true]
  intro i hi
  have e := h.2 i (by rw [h.1] at hi; exact hi)
  rw [Array.getElem?_eq_getElem hi] at e
  injection e with e
  rw [e]
  rfl
theorem Dgc.info {V : Array Value} {l : List Nat} (h : Dgc V l) : (Tryd.prog.info? 25).map (·.size) = some V.size := by rw [h.1]; exact zero_digest.2
set_option maxHeartbeats 1600000 in
set_option maxRecDepth 100000 in
theorem sh_parts (rows : List (List Nat)) (A : Option Addr) (ca : Nat) (w : World) (hgl : GL w) (hr : RRd w A rows) (hl : rows.length ≤ 1024) (hls : ∀ i, i < rows.length → (ro rows i).length ≤ 1024) (hjn : (jn rows).length ≤ 65536) :
    Calls Tryd.prog 14 #[.slice A rows.length ca] w (DgS (sha (jn rows)) w) := by
  obtain ⟨g0, hg0⟩ : ∃ g, w.heap.size = g := ⟨_, rfl⟩
  have HW0 := Lib.hid hg0
  have HR := Lib.hid hr
  have HGL := Lib.hid (fun W (h : Ext w W) => hgl.ext h)
  have HSM := Lib.hid (fun i (hi : i < rows.length) => show Sm (ro rows i) from hr.sm _ (ro_in rows i hi))
  have HTK := Lib.hid (fun i (hi : i < rows.length) => show jn (rows.take (i + 1)) = jn (rows.take i) ++ vt (ro rows i) from by
    rw [List.take_succ_eq_append_getElem hi, jn_snoc, show ro rows i = rows[i] from by unfold ro; rw [List.getElem?_eq_getElem hi]; rfl])
  have HLS := Lib.hid hls
  have HLB := Lib.hid (fun i => show (jn (rows.take i)).length ≤ 65536 from by
    have e : jn (rows.take i) ++ jn (rows.drop i) = jn rows := by unfold jn; rw [← List.flatten_append, ← List.map_append, List.take_append_drop]
    have := congrArg List.length e
    rw [List.length_append] at this
    omega)
  have HOF := Lib.hid (fun A c W (h : Rd W A (jn rows)) (hc : (jn rows).length ≤ c) (hx : Ext w W) => sh_of (jn rows) A c W (HGL.out W hx) h hc hjn)
  obtain ⟨n, hn⟩ : ∃ n, rows.length = n := ⟨_, rfl⟩
  have HN := Lib.hid hn
  have HALL := Lib.hid (show rows.take n = rows from by rw [← hn, List.take_length])
  rw [hn] at hl HSM HTK HLS ⊢
  have hz := zero_digest.1
  have HZ32 := Lib.hid (fun (_ : Unit) => show (bt 32 fun _ => 0).size = 32 from bt_size _ _)
  obtain ⟨Z, hZ⟩ : ∃ Z, (bt 32 fun _ => 0) = Z := ⟨_, rfl⟩
  rw [hZ] at hz HZ32
  unfold DgS at HOF
  clear hr hn hls hgl hjn hZ
  go_enter Tryd.func14, Tryd.ntmps14
  go_wp2_with fail
  have HX1 := Lib.hid ((Ext.refl w).alloc (.cells Z 25))
  have HR0 := Lib.hid (show (w.alloc (.cells Z 25)).heap[g0]? = some (.cells Z 25 (0, 0)) from by rw [← hg0]; exact heap_alloc_new w _)
  have HS0 := Lib.hid (show g0 < (w.alloc (.cells Z 25)).heap.size from by rw [← hg0]; simp)
  generalize w.alloc (.cells Z 25) = w1 at HX1 HR0 HS0 ⊢
  clear hz hg0
  go_loopg [3, 8] n (fun g s3 s8 wx => ∃ i : Nat, i + g = n ∧ s8 = .int .i64 (i : Int) ∧ Mine wx w1.heap.size s3 (jn (rows.take i)) ∧ Sm (jn (rows.take i)) ∧ Ext w1 wx)
  case atStart => exact ⟨0, by omega, rfl, Mine.nil _ _, Sm.nil, Ext.refl _⟩
  case round =>
    obtain ⟨i, hig, rfl, hm, hsm, hx⟩ := hrel
    have hlen := HLB.out i
    have HM := Lib.hid hm
    have HX := Lib.hid hx
    have HS := Lib.hid hsm
    cases gk with
    | zero =>
      obtain rfl : i = n := by omega
      rw [HALL.out] at HM
      rw [HALL.out] at hm hsm
      obtain ⟨B3, c3, rfl, hc3, hr3⟩ := hm.slice hsm
      have HR3 := Lib.hid hr3
      obtain ⟨J, hJ⟩ : ∃ J, (jn rows).length = J := ⟨_, rfl⟩
      rw [hJ] at HOF hc3 ⊢
      clear hm hsm hx hig hlen hJ hr3
      go_wp2_with fail
      refine (HOF.out B3 c3 wr HR3.out hc3 (HX1.out.trans HX.out)).mono ?_
      rintro e w9 ⟨V, rfl, hV, hx9⟩
      have HV := Lib.hid hV
      have HX9 := Lib.hid (HX.out.trans hx9)
      have HR9 := Lib.hid (WBlk.ext' HR0.out HX9.out)
      have HI9 := Lib.hid hV.info
      have HO9 := Lib.hid hV.one
      have HZ9 := Lib.hid (show Z.size = V.size from by rw [hV.1]; exact HZ32.out ())
      have HG3 := Lib.hid (setRow_heap _ g0 _ V _ _ HR9.out)
      have HX3 := Lib.hid ((HX1.out.trans HX9.out).setRow (g := g0) (by rw [HW0.out]; exact Nat.le_refl _) V)
      clear hV hx9
      go_wp2_with (with_reducible refine wpList_store_all rfl 25 (.tmp 2) (.tmp 17) rfl g0 Z V rfl rfl HR9.out HI9.out HZ9.out HO9.out ?_)
      exact ⟨rfl, .agg V, results_cell_row Tryd.results14 _ _ g0 25 V (0, 0) _ rfl HG3.out Tryd.underlying25 rfl HI9.out, V, rfl, HV.out, HX3.out⟩
    | succ g =>
      have hi : i < n := by omega
      have hiI : (i : Int) < (n : Int) := by omega
      obtain ⟨b1, o1, R1, c1, rfl, hc1, hl1, hr1⟩ := (HR.out.ext (HX1.out.trans hx)) i (by rw [HN.out]; exact hi)
      have hs := hx.size
      obtain ⟨B3, c3, rfl, hc3, _⟩ := hm.slice hsm
      have HOB := Lib.hid (fun k (e : (Value.slice B3 (jn (rows.take i)).length c3).ownBlock = some k) => (hm.block k e).1)
      have HTI := Lib.hid (cd_layT w1.heap.size _ (jn (rows.take i)) (ro rows i) R1 c1 wr hm hsm hr1 (by omega) (by have := HLS.out i hi; omega) hs)
      have HTKI := Lib.hid (HTK.out i hi)
      have hst := vt_sm (HSM.out i hi)
      obtain ⟨t, ht⟩ : ∃ t, ro rows i = t := ⟨_, rfl⟩
      rw [ht] at hc1 hl1 HTI HTKI hst
      obtain ⟨nt, hnt⟩ : ∃ nt, t.length = nt := ⟨_, rfl⟩
      rw [hnt] at hc1 hl1 HTI
      have HST := Lib.hid hst
      have HIG := Lib.hid hig
      obtain ⟨J, hJ⟩ : ∃ J, (jn (rows.take i)).length = J := ⟨_, rfl⟩
      rw [hJ] at HTI HOB hc3 HM ⊢
      clear hJ
      unfold Lays at HTI
      clear hm hsm hx hr1 ht hnt hst hig hlen
      go_wp2_with fail
      refine HTI.out.mono ?_
      rintro e w7 ⟨v7, rfl, hm7, hg7, _⟩
      rw [← HTKI.out] at hm7
      have HM7 := Lib.hid hm7
      have HX7 := Lib.hid (HX.out.more hg7 (fun k e => HOB.out k e))
      clear hm7 hg7
      go_wp2
      go_roundg g
      case measure => omega
      case rel => exact ⟨i + 1, by have := HIG.out; omega, by go_num, HM7.out, by rw [HTKI.out]; exact sm_app HS.out HST.out, HX7.out⟩
end Go.Proofs.YtfhmafncpodlbaaDoor

/-
  What Less of layer 10 and bytes.Compare do. Conditions: none but that what is held against each other reads as bytes.
-/
namespace Go.Proofs.YtfhmafncpodlbaaDoor
open Go.RowKit
open Pol (co Sm)

/-- The bytes of a list. -/
def b8 (a : List Nat) : ByteArray := ⟨(a.map Nat.toUInt8).toArray⟩
theorem b8_size (a : List Nat) : (b8 a).size = a.length := by simp [b8, ByteArray.size]
theorem b8_at (a : List Nat) (i : Nat) (h : i < a.length) : (b8 a)[i]! = (co a i).toUInt8 := by
  have hs : i < (b8 a).size := by rw [b8_size]; exact h
  rw [getElem!_pos (b8 a) i hs]
  show (b8 a).data[i] = _
  unfold b8 co
  rw [List.getElem?_eq_getElem h]
  show (a.map Nat.toUInt8).toArray[i]'(by simpa using h) = _
  rw [List.getElem_toArray, List.getElem_map]
  rfl
theorem u8_ne {x y : Nat} (hx : x < 256) (hy : y < 256) : (x.toUInt8 != y.toUInt8) = decide (x ≠ y) := by
  by_cases e : x = y
  · subst e; simp
  · have : x.toUInt8 ≠ y.toUInt8 := fun h => e (by
      have := congrArg UInt8.toNat h
      simp only [Nat.toUInt8, UInt8.toNat_ofNat'] at this
      omega)
    simp [this, e]
theorem u8_lt {x y : Nat} (hx : x < 256) (hy : y < 256) : x.toUInt8 < y.toUInt8 ↔ x < y := by
  rw [UInt8.lt_iff_toNat_lt]
  simp only [Nat.toUInt8, UInt8.toNat_ofNat']
  omega
theorem cmp_lss (a b : List Nat) (ha : Sm a) (hb : Sm b) (hl : a.length = b.length) : decide (Extern.BytealgCompare.cmp (b8 a) (b8 b) < 0) = lss a b := by
  have hp : ∀ i, i < a.length → ((b8 a)[i]! != (b8 b)[i]!) = decide (co a i ≠ co b i) := fun i hi => by
    rw [b8_at a i hi, b8_at b i (by omega)]
    exact u8_ne (ha i) (hb i)
  unfold Extern.BytealgCompare.cmp
  rw [b8_size, b8_size, ← hl, Nat.min_self]
  cases h : (List.range a.length).find? (fun i => (b8 a)[i]! != (b8 b)[i]!) with
  | none =>
    rw [List.find?_range_eq_none] at h
    have e : a = b := by
      refine List.ext_getElem hl (fun i h1 h2 => ?_)
      have := h i h1
      rw [hp i h1] at this
      have := of_decide_eq_false (p := co a i ≠ co b i) (by simpa using this)
      have := Classical.not_not.1 this
      unfold co at this
      rw [List.getElem?_eq_getElem h1, List.getElem?_eq_getElem h2] at this
      exact this
    subst e
    rw [lss_self]
    simp
  | some i =>
    rw [List.find?_range_eq_some] at h
    obtain ⟨h1, h2, h3⟩ := h
    have hi : i < a.length := by simpa using h2
    rw [hp i hi] at h1
    have hne := of_decide_eq_true h1
    have hsame : ∀ j, j < i → co a j = co b j := fun j hj => by
      have := h3 j hj
      rw [hp j (by omega)] at this
      exact Classical.not_not.1 (of_decide_eq_false (p := co a j ≠ co b j) (by simpa using this))
    show decide ((if (b8 a)[i]! < (b8 b)[i]! then (-1 : Int) else 1) < 0) = lss a b
    rw [lss_at a b i hl hi hsame hne, b8_at a i hi, b8_at b i (by omega)]
    by_cases hlt : co a i < co b i
    · simp [(u8_lt (ha i) (hb i)).2 hlt, hlt]
    · have : ¬ (co a i).toUInt8 < (co b i).toUInt8 := fun h => hlt ((u8_lt (ha i) (hb i)).1 h)
      simp [this, hlt]
theorem load_b8 {P : Program} (w : World) (a : List Nat) (b o : Nat) (hc : ∀ i, i < a.length → w.cell? ⟨b, o + i, none⟩ = some (.int .u8 ((co a i : Nat) : Int))) (n c : Nat) (hn : a.length = n) :
    (Extern.Bytes.bytesOf (.slice (some ⟨b, o, none⟩) n c)).run P w = .ok (b8 a) w := by
  have hl := Lib.run_loadBytesX (P := P) w (a.map Int.ofNat) ⟨b, o, none⟩ .empty (fun j x hj => by
    rw [List.getElem?_map] at hj
    obtain ⟨y, hy, rfl⟩ := Option.map_eq_some_iff.1 hj
    have hjl := (List.getElem?_eq_some_iff.1 hy).1
    have e : (⟨b, o, none⟩ : Addr).add j = ⟨b, o + j, none⟩ := by unfold Addr.add; split <;> simp_all
    rw [e, hc j hjl]
    unfold co
    rw [hy]
    rfl)
  rw [List.length_map, hn] at hl
  unfold Extern.Bytes.bytesOf
  rw [hl]
  congr 1
  apply ByteArray.ext
  simp [Lib.bytesOf, b8]
theorem sh_compare (a b : List Nat) (ga gb ca cb n : Nat) (w : World) (hca : ∀ i, i < n → w.cell? ⟨ga, i, none⟩ = some (.int .u8 ((co a i : Nat) : Int))) (hcb : ∀ i, i < n → w.cell? ⟨gb, i, none⟩ = some (.int .u8 ((co b i : Nat) : Int))) (ha : a.length = n) (hb : b.length = n) :
    Calls Tryd.prog 28 #[.slice (some ⟨ga, 0, none⟩) n ca, .slice (some ⟨gb, 0, none⟩) n cb] w (fun e w' => e = .returned (.int .i64 (Extern.BytealgCompare.cmp (b8 a) (b8 b))) ∧ w = w') := by
  have hcall : (callFunc 35 #[.slice (some ⟨ga, 0, none⟩) n ca, .slice (some ⟨gb, 0, none⟩) n cb]).run Tryd.prog w = .ok (.value (.int .i64 (Extern.BytealgCompare.cmp (b8 a) (b8 b)))) w := by
    rw [run_callFunc_extern (e := Extern.BytealgCompare.compare) Tryd.func35 (by kernel_rfl) (by kernel_rfl) (by kernel_rfl) (by kernel_rfl)]
    have e1 := load_b8 (P := Tryd.prog) w a ga 0 (fun i hi => by rw [Nat.zero_add]; exact hca i (by omega)) n ca ha
    have e2 := load_b8 (P := Tryd.prog) w b gb 0 (fun i hi => by rw [Nat.zero_add]; exact hcb i (by omega)) n cb hb
    change (Sem.run Tryd.prog (do pure (goInt (Extern.BytealgCompare.cmp (← Extern.Bytes.bytesOf (.slice (some ⟨ga, 0, none⟩) n ca)) (← Extern.Bytes.bytesOf (.slice (some ⟨gb, 0, none⟩) n cb))))) w).andThen _ = _
    simp only [Sem.run_bind, e1, e2, Result.andThen, Sem.run_pure, goInt]
  go_enter Tryd.func28, Tryd.ntmps28
  go_wp2
  go_ret
  exact ⟨rfl, rfl⟩

set_option maxHeartbeats 800000 in
theorem sh_less (c d : Array Value) (a b : List Nat) (w : World) (hc : Dgc c a) (hd : Dgc d b) (ha : a.length = 32) (hb : b.length = 32) (hsa : Sm a) (hsb : Sm b) :
    Calls Tryd.prog 18 #[.agg c, .agg d] w (Tells (.bool (lss a b)) w) := by
  obtain ⟨g, hg⟩ : ∃ g, w.heap.size = g := ⟨_, rfl⟩
  obtain ⟨h, hh⟩ : ∃ h, g + 1 = h := ⟨_, rfl⟩
  have HS := Lib.hid (fun (T U : TypeId) => show TwoD g h a b w ((w.alloc (.cells c T)).alloc (.cells d U)) from by
    rw [← hh, ← hg]; exact TwoD.start w hc hd T U)
  have HCM := Lib.hid (fun W (hW : TwoD g h a b w W) => sh_compare a b g h 32 32 32 W hW.ca hW.cb ha hb)
  have HZ := Lib.hid (cmp_lss a b hsa hsb (by rw [ha, hb]))
  obtain ⟨z, hz⟩ : ∃ z, Extern.BytealgCompare.cmp (b8 a) (b8 b) = z := ⟨_, rfl⟩
  rw [hz] at HCM HZ
  clear hz hc hd ha hb hsa hsb
  go_enter Tryd.func18, Tryd.ntmps18
  go_wp2_with fail
  refine wp_region_plan (TwoD g h a b w) [0, 1, 2] (.yes 0 (.yes 1 (.yes 2 (.one 3 (.one 4 .done))))) (by kernel_rfl) (fun c a a' w e h => ⟨e ▸ h.1, h.2⟩) (by kernel_rfl) ((HS.out _ _).drewN 1) ?_
  refine plan_yes rfl (fun K hK => ?_); go_simp; refine ⟨_, fun _ _ => rfl, hK _ ?_⟩; clear hK K
  refine plan_yes rfl (fun K hK => ?_); go_simp; refine ⟨_, fun _ _ => rfl, hK _ ?_⟩; clear hK K
  refine plan_call rfl (fun K hK => ?_); go_simp; refine ⟨_, _, fun W _ => ⟨rfl, rfl⟩, _, fun W hW => HCM.out W hW, hK _ ?_⟩; clear hK K
  refine plan_one rfl (fun K hK => ?_)
  go_wp2
  refine ⟨fun h => absurd h (by decide), ?_⟩
  refine plan_one rfl (fun K hK => ?_)
  go_wp2
  refine ⟨fun h => absurd h (by decide), ?_⟩
  unfold wpPlan
  go_wp2
  rw [HZ.out]
  go_ret
  exact ⟨rfl, ((HS.out _ _).drewN 1).x⟩
end Go.Proofs.YtfhmafncpodlbaaDoor

/-
  What make([]byte, 0, n) does. Conditions: no more than 2^40 bytes.
-/
namespace Go.Proofs.YtfhmafncpodlbaaDoor
open Go.RowKit
open Pol (co Sm)

set_option maxRecDepth 100000 in
/-- make([]byte, 0, n). -/
theorem run_make_cap (n : Nat) (N : Int) (hN : N = (n : Int)) (hn : n ≤ 1099511627776) (w : World) :
    (Instr.makeSlice 22 (.int .i64 0) (.int .i64 N)).run Tryd.prog w = .ok (.slice (some ⟨w.heap.size, 0, none⟩) 0 n) (w.alloc (.cells (bt n fun _ => 0) 5)) := by
  subst hN
  obtain ⟨i0, hi, hz0, hz1, hz2⟩ := info_parts u8_info
  have h := run_make (P := Tryd.prog) w 22 5 i0 (.int .u8 0) Tryd.underlying22 hi hz0 .i64 .i64 0 n (by omega) (by omega) (by rw [hz2]; omega) (by omega)
  simp only [Int.toNat_natCast, hz1, Nat.mul_one] at h
  rw [h, ← bt_made]
  rfl
theorem mine_made (w : World) (n : Nat) (hn : n ≤ 1099511627776) : Mine (w.alloc (.cells (bt n fun _ => 0) 5)) w.heap.size (.slice (some ⟨w.heap.size, 0, none⟩) 0 n) [] :=
  World.ownsRow_made w (bt n fun _ => 0) n (Nat.le_refl _) (by unfold maxLen; omega) (by rw [bt_size, Nat.mul_one])
end Go.Proofs.YtfhmafncpodlbaaDoor

/-
  Digits of a text, one by one. Conditions: none; no function is named here.
-/
namespace Go.Proofs.YtfhmafncpodlbaaDoor
open Go.RowKit
open Pol (co Sm)

theorem hxb_size (l : List Nat) : (hxb l).size = 2 * l.length := by
  show (hxs l).toArray.size = _
  rw [List.size_toArray, hxs_len]
theorem hxs_at : ∀ (l : List Nat) (i : Nat), i < l.length → (hxs l)[2 * i]? = some (hxd (co l i / 16)) ∧ (hxs l)[2 * i + 1]? = some (hxd (co l i % 16))
  | x :: l, 0, _ => ⟨rfl, rfl⟩
  | x :: l, i + 1, h => by
    have ih := hxs_at l i (by simpa using h)
    rw [Pol.co_succ]
    exact ⟨ih.1, ih.2⟩
  | [], _, h => by simp at h

theorem idxL (L : List UInt8) (k : IntKind) (i : Nat) (v : UInt8) (hv : L[i]? = some v) (W : World) : (Instr.index 9 (.string ⟨L.toArray⟩) (.int k (i : Int))).run Tryd.prog W = .ok (.int .u8 ((v.toNat : Nat) : Int)) W := by
  have hi : i < L.length := (List.getElem?_eq_some_iff.1 hv).1
  have hs : (⟨L.toArray⟩ : ByteArray).size = L.length := by show L.toArray.size = _; simp
  rw [run_index_string W 9 _ k _ Tryd.underlying9]
  rw [dif_pos ⟨by omega, by rw [hs]; omega⟩]
  have e : (⟨L.toArray⟩ : ByteArray)[(i : Int).toNat]'(by rw [hs]; omega) = v := by
    show L.toArray[(i : Int).toNat]'(by simp; omega) = v
    simp only [Int.toNat_natCast, List.getElem_toArray]
    exact (List.getElem?_eq_some_iff.1 hv).2
  rw [e]
def dgs : List UInt8 := [48, 49, 50, 51, 52, 53, 54, 55, 56, 57, 97, 98, 99, 100, 101, 102]
theorem dgs_at : ∀ x, x < 16 → dgs[x]? = some (hxd x) := by decide
end Go.Proofs.YtfhmafncpodlbaaDoor

/-
  What Hex of layer 10 does. Conditions: none but that the digest reads as bytes.
-/
namespace Go.Proofs.YtfhmafncpodlbaaDoor
open Go.RowKit
open Pol (co Sm)

/-- The digits as numbers. -/
def hxn (l : List Nat) : List Nat := (hxs l).map UInt8.toNat
theorem hxn_len (l : List Nat) : (hxn l).length = 2 * l.length := by unfold hxn; rw [List.length_map, hxs_len]
theorem hxn_sm (l : List Nat) : Sm (hxn l) := Pol.co_lt_of fun x hx => by
  unfold hxn at hx
  obtain ⟨y, _, rfl⟩ := List.mem_map.1 hx
  exact y.toNat_lt
theorem hxs_append : ∀ a b : List Nat, hxs (a ++ b) = hxs a ++ hxs b
  | [], _ => rfl
  | x :: a, b => by rw [List.cons_append, hxs, hxs, hxs_append a b]; rfl
theorem hxn_more (l : List Nat) (i : Nat) (h : i < l.length) : hxn (l.take (i + 1)) = hxn (l.take i) ++ [(hxd (co l i / 16)).toNat, (hxd (co l i % 16)).toNat] := by
  unfold hxn
  rw [List.take_succ_eq_append_getElem h, hxs_append, List.map_append]
  have e : co l i = l[i] := by unfold co; rw [List.getElem?_eq_getElem h]; rfl
  rw [e]
  rfl
theorem foldl_push : ∀ (L : List UInt8) (acc : ByteArray), (L.map (fun x => (x.toNat : Int))).foldl (fun (r : ByteArray) n => r.push (UInt8.ofNat n.toNat)) acc = ⟨acc.data ++ L.toArray⟩
  | [], acc => by simp
  | x :: L, acc => by
    rw [List.map_cons, List.foldl_cons, foldl_push L]
    apply ByteArray.ext
    simp [ByteArray.push]
theorem hex_text (w : World) (b o : Nat) (l : List Nat) (n c : Nat) (hn : (hxn l).length = n) (h : Rd w (some ⟨b, o, none⟩) (hxn l)) :
    (Conv.bytesToString (.slice (some ⟨b, o, none⟩) n c)).run Tryd.prog w = .ok (.string (hxb l)) w := by
  have e0 : ((hxs l).map (fun x => (x.toNat : Int))).map (Value.int .u8) = (List.range n).map (fun j => Value.int .u8 ((co (hxn l) j : Nat) : Int)) := by
    apply List.ext_getElem
    · rw [List.length_map, List.length_map, List.length_map, List.length_range, ← hn]; unfold hxn; rw [List.length_map]
    · intro j h1 h2
      have hj : j < (hxs l).length := by simpa using h1
      simp only [List.getElem_map, List.getElem_range]
      congr 2
      unfold hxn co
      rw [List.getElem?_map, List.getElem?_eq_getElem hj]
      rfl
  have hl := run_bytesToString (P := Tryd.prog) w ⟨b, o, none⟩ n c ((hxs l).map (fun x => (x.toNat : Int))) (by
    rw [e0]
    have h2 := run_loadCells (P := Tryd.prog) (w := w) ⟨b, o, none⟩ n (fun j => Value.int .u8 ((co (hxn l) j : Nat) : Int)) (fun j hj => by
      obtain ⟨b', o', e1, hc⟩ := h.2 j (by omega)
      injection e1 with e1
      injection e1 with e2 e3
      subst e2; subst e3
      have e : (⟨b, o, none⟩ : Addr).add j = ⟨b, o + j, none⟩ := by unfold Addr.add; split <;> simp_all
      rw [e]
      exact hc)
    rw [h2])
  rw [hl, foldl_push]
  congr 1
  congr 1
  apply ByteArray.ext
  simp [hxb]

set_option maxRecDepth 100000 in
theorem and15 : ∀ x : Nat, x < 256 → bits .and .u8 (x : Int) 15 = ((x % 16 : Nat) : Int) := by decide
set_option maxHeartbeats 1600000 in
set_option maxRecDepth 100000 in
theorem sh_hex (c : Array Value) (d : List Nat) (w : World) (hc : Dgc c d) (hd : d.length = 32) (hsm : Sm d) :
    Calls Tryd.prog 17 #[.agg c] w (HexS d w) := by
  unfold HexS
  have hi1 : (Tryd.prog.info? 25).map (·.size) = some c.size := by rw [hc.1]; exact zero_digest.2
  have hmk := fun W => run_make_cap 64 64 rfl (by decide) W
  obtain ⟨B64, hB64⟩ : ∃ B, (bt 64 fun _ => 0) = B := ⟨_, rfl⟩
  have HMM := Lib.hid (fun W => mine_made W 64 (by decide))
  rw [hB64] at HMM
  simp only [hB64] at hmk
  have hw1 : Ext w ((w.alloc (.cells c 25)).alloc (.cells B64 5)) := ((Ext.refl w).alloc _).alloc _
  have HX1 := Lib.hid hw1
  have HG1 := Lib.hid (show ((w.alloc (.cells c 25)).alloc (.cells B64 5)).heap[w.heap.size]? = some (.cells c 25 (0, 0)) from by rw [heap_alloc_old _ _ (by simp)]; exact heap_alloc_new w _)
  have HS1 := Lib.hid (show w.heap.size + 1 ≤ ((w.alloc (.cells c 25)).alloc (.cells B64 5)).heap.size from by simp)
  have HM1 := Lib.hid (show Mine ((w.alloc (.cells c 25)).alloc (.cells B64 5)) (w.heap.size + 1) (.slice (some ⟨w.heap.size + 1, 0, none⟩) 0 64) (hxn (d.take 0)) from by
    have h := HMM.out (w.alloc (.cells c 25))
    have e : (w.alloc (.cells c 25)).heap.size = w.heap.size + 1 := by simp
    rw [e] at h
    exact h)
  have HI1 := Lib.hid hi1
  have HCX := Lib.hid (fun (i : Nat) (hi : i < 32) => show ∀ W, (Instr.index 25 (.agg c) (.int .i64 (i : Int))).run Tryd.prog W = .ok (.int .u8 ((co d i : Nat) : Int)) W from fun W => idx_arr Tryd.underlying25 (by kernel_rfl) (by kernel_rfl) ⟨_, rfl⟩ _ i _ hi (hc.2 i hi) W)
  have HDX := Lib.hid (fun (i : Nat) (hi : i < 16) => show ∀ W, (Instr.index 9 (.string { data := #[48, 49, 50, 51, 52, 53, 54, 55, 56, 57, 97, 98, 99, 100, 101, 102] }) (.int .u8 (i : Int))).run Tryd.prog W = .ok (.int .u8 (((hxd i).toNat : Nat) : Int)) W from fun W => idxL dgs .u8 i (hxd i) (dgs_at i hi) W)
  have HMO := Lib.hid (fun i (hi : i < 32) => hxn_more d i (by rw [hd]; exact hi))
  have HSM := Lib.hid (fun i => show co d i < 256 from hsm i)
  have HLN := Lib.hid (fun i (hi : i ≤ 32) => show (hxn (d.take i)).length = 2 * i from by rw [hxn_len, List.length_take, hd, Nat.min_eq_left hi])
  have HAL := Lib.hid (show d.take 32 = d from by rw [← hd, List.take_length])
  clear hc hd hsm hi1 hB64 hw1
  go_enter Tryd.func17, Tryd.ntmps17
  go_wp2_with (with_reducible refine wpList_load_row rfl 25 (.tmp 1) rfl w.heap.size rfl 25 c (0, 0) _ HG1.out Tryd.underlying25 rfl HI1.out ?_)
  obtain ⟨base, hb⟩ : ∃ b, w.heap.size + 1 = b := ⟨_, rfl⟩
  rw [hb] at HM1 HS1 ⊢
  have HB := Lib.hid hb
  generalize (w.alloc (.cells c 25)).alloc (.cells B64 5) = w1 at HX1 HG1 HM1 HS1 ⊢
  clear hb HMM HG1 hmk
  go_loopg [3, 8] 32 (fun gk s3 s8 wx => ∃ i : Nat, i + gk = 32 ∧ s8 = .int .i64 (i : Int) ∧ Mine wx base s3 (hxn (d.take i)) ∧ Ext w wx ∧ base ≤ wx.heap.size)
  case atStart => exact ⟨0, by omega, rfl, HM1.out, HX1.out, HS1.out⟩
  case round =>
    obtain ⟨i, hig, rfl, hm, hx, hbs⟩ := hrel
    have HM := Lib.hid hm
    have HX := Lib.hid hx
    have HBS := Lib.hid hbs
    obtain ⟨B3, c3, rfl, hc3, hr3⟩ := hm.slice (hxn_sm _)
    cases gk with
    | zero =>
      obtain rfl : i = 32 := by omega
      have hl := HLN.out 32 (Nat.le_refl _)
      rw [HAL.out] at hl hr3
      rw [HAL.out, hl]
      obtain ⟨b, o, eB, _⟩ := hr3.2 0 (by rw [hl]; decide)
      subst eB
      have hcv : (convert 22 9 (.slice (some ⟨b, o, none⟩) (2 * 32) c3)).run Tryd.prog wr = .ok (.string (hxb d)) wr := by
        rw [run_convert_bytes_string wr 22 9 5 _ _ _ Tryd.underlying22 (by kernel_rfl) Tryd.underlying9]
        exact hex_text wr b o d _ c3 hl hr3
      clear hr3 hl hc3 HM hm hig
      go_wp2
      go_ret
      exact ⟨rfl, HX.out⟩
    | succ gk =>
      have hi : i < 32 := by omega
      have hiI : (i : Int) < 32 := by omega
      have hix := HCX.out i hi
      have HMI := Lib.hid (HMO.out i hi)
      have hl := HLN.out i (by omega)
      rw [hl] at HM hc3 ⊢
      have HLI := Lib.hid hl
      have hxb := HSM.out i
      obtain ⟨x, hx'⟩ : ∃ x, co d i = x := ⟨_, rfl⟩
      rw [hx'] at hix HMI hxb
      obtain ⟨q, hq⟩ : ∃ q, x / 16 = q := ⟨_, rfl⟩
      obtain ⟨r, hr⟩ : ∃ r, x % 16 = r := ⟨_, rfl⟩
      have e1 : (x : Int) / 16 = (q : Int) := by omega
      have e2 : bits .and .u8 (x : Int) 15 = (r : Int) := by rw [and15 x hxb, hr]
      have hdq := HDX.out q (by omega)
      have hdr := HDX.out r (by omega)
      rw [hq, hr] at HMI
      have hyq := (hxd q).toNat_lt
      have hyr := (hxd r).toNat_lt
      obtain ⟨yq, hyq'⟩ : ∃ y, (hxd q).toNat = y := ⟨_, rfl⟩
      obtain ⟨yr, hyr'⟩ : ∃ y, (hxd r).toNat = y := ⟨_, rfl⟩
      rw [hyq'] at hdq HMI hyq
      rw [hyr'] at hdr HMI hyr
      have HIG := Lib.hid hig
      have HSQ := Lib.hid (show Sm [yq, yr] from Sm.cons (by omega) (Sm.cons (by omega) Sm.nil))
      obtain ⟨L, hL⟩ : ∃ L, 2 * i = L := ⟨_, rfl⟩
      rw [hL] at HM hc3 HLI ⊢
      have hLb : L ≤ 64 := by omega
      clear hm hx hbs hr3 hl hx' hq hr hyq' hyr' hL hig
      go_wp2_with fail
      refine wp_region_plan (AfterT wr) [0, 1, 2, 3, 4, 5, 6, 7] (.yes 0 (.yes 1 (.yes 2 (.yes 3 (.yes 4 (.yes 5 (.yes 6 (.one 7 (.one 8 (.one 9 .done)))))))))) (by kernel_rfl) (fun c a a' w e h => ⟨e ▸ h.1, h.2⟩) (by kernel_rfl) ((Ext.refl wr).drew) ?_
      refine plan_yes rfl (fun K hK => ?_); go_simp; refine ⟨_, fun _ _ => rfl, hK _ ?_⟩; clear hK K
      refine plan_yes rfl (fun K hK => ?_); go_simp; refine ⟨_, fun _ _ => rfl, hK _ ?_⟩; clear hK K
      refine plan_yes rfl (fun K hK => ?_); go_simp; refine ⟨_, fun _ _ => rfl, hK _ ?_⟩; clear hK K
      refine plan_yes rfl (fun K hK => ?_); go_simp; refine ⟨_, fun _ _ => rfl, hK _ ?_⟩; clear hK K
      refine plan_yes rfl (fun K hK => ?_); go_simp; refine ⟨_, fun _ _ => rfl, hK _ ?_⟩; clear hK K
      refine plan_yes rfl (fun K hK => ?_); go_simp; refine ⟨_, fun _ _ => rfl, hK _ ?_⟩; clear hK K
      refine plan_yes rfl (fun K hK => ?_); go_simp; refine ⟨_, fun _ _ => rfl, hK _ ?_⟩; clear hK K
      refine plan_one rfl (fun K hK => ?_)
      go_wp2
      have HXA := Lib.hid (show AfterT wr (World.drew (World.alloc wr (.cells #[.int .u8 (yq : Int), .int .u8 (yr : Int)] 5))) from (Ext.alloc (Ext.refl wr) _).drew)
      refine ⟨fun _ => HXA.out, ?_⟩
      refine plan_one rfl (fun K hK => ?_)
      go_wp2_with (at_builtin; refine wpList_append_rd rfl (.tmp 11) (.tmp 18) rfl base (.slice B3 L c3) (hxn (d.take i)) [yq, yr] rfl (mine_ext HM.out HXA.out) (some ⟨wr.heap.size, 0, none⟩) 2 2 rfl rfl (Rd.ext (rd_lit wr [yq, yr] HSQ.out) ((Ext.refl _).drew)) (by rw [HLI.out]; simp; omega) (by have := HBS.out; simp; omega) ?_; intro v9 w9 hown9 hg9 hat9; rw [← HMI.out] at hown9; have HX9 := Lib.hid ((HX.out.trans HXA.out).more hg9 (fun q hq => by have := (HM.out.block q hq).1; have := HB.out; omega)); have HM9 := Lib.hid hown9; have HS9 := Lib.hid (show base ≤ w9.heap.size from by have := hg9.size; have := HXA.out.size; have := HBS.out; omega); clear hown9 hg9 hat9)
      refine ⟨fun h => absurd h (by decide), ?_⟩
      refine plan_one rfl (fun K hK => ?_)
      go_wp2
      refine ⟨fun h => absurd h (by decide), ?_⟩
      unfold wpPlan
      go_wp2
      go_roundg gk
      case measure => omega
      case rel => exact ⟨i + 1, by have := HIG.out; omega, by go_num, HM9.out, HX9.out, HS9.out⟩
end Go.Proofs.YtfhmafncpodlbaaDoor

/-
  What layer 10's own functions do, as one statement. Conditions: no more than 2^16 bytes; the constants lie where they were laid.
-/
namespace Go.Proofs.YtfhmafncpodlbaaDoor
open Go.RowKit
open Pol (co Sm)

theorem shaSaid : ShaSaid where
  of b A c w hg hr hc hl := sh_of b A c w hg hr hc hl
  parts rows A c w hg hr _ h2 h3 h4 := sh_parts rows A c w hg hr h2 h3 h4
  hex c d w hc hd hs := sh_hex c d w hc hd hs
  less c d a b w hc hd ha hb hsa hsb := sh_less c d a b w hc hd ha hb hsa hsb
end Go.Proofs.YtfhmafncpodlbaaDoor
