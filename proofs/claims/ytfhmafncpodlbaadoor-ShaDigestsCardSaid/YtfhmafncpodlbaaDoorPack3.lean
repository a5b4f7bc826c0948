/-
  Part 3 of the texts that the seat's proofs stand on; each part of it begins with its own sentence and conditions. Conditions: those that each theorem names.
-/
import Derived.Test.YtfhmafncpodlbaaDoorPack2
import Derived.Lib.SlBytesConst
import Derived.Laws.Strings
import Derived.DeepKeys
import Derived.StillTail
import Derived.Deep.Quiet
import Derived.Deep.QuietTactic
import Derived.BigQuiet
import Derived.KernelRfl

/-
  What layer 10's own functions are to do, as one statement; digests as text. Conditions: no more than 2^16 bytes.
-/
namespace Go.Proofs.YtfhmafncpodlbaaDoor
open Go.RowKit
open Pol (co Sm)

/-- A digit of sixteen; a digest's text. -/
def hxd (x : Nat) : UInt8 := if x < 10 then (48 + x).toUInt8 else (87 + x).toUInt8
def hxs : List Nat → List UInt8
  | [] => []
  | x :: l => hxd (x / 16) :: hxd (x % 16) :: hxs l
theorem hxs_len : ∀ l, (hxs l).length = 2 * l.length
  | [] => rfl
  | x :: l => by rw [hxs, List.length_cons, List.length_cons, hxs_len l, List.length_cons]; omega
theorem hxd_eq : ∀ x, x < 16 → ∀ y, y < 16 → (hxd x == hxd y) = decide (x = y) := by decide
theorem hxd_lt : ∀ x, x < 16 → ∀ y, y < 16 → (decide (hxd x < hxd y)) = decide (x < y) := by decide
theorem hxs_inj : ∀ a b : List Nat, Sm a → Sm b → hxs a = hxs b → a = b
  | [], [], _, _, _ => rfl
  | [], _ :: _, _, _, h => by cases h
  | _ :: _, [], _, _, h => by cases h
  | x :: a, y :: b, ha, hb, h => by
    rw [hxs, hxs, List.cons.injEq, List.cons.injEq] at h
    have hx := sm_head ha
    have hy := sm_head hb
    have h1 := hxd_eq (x / 16) (by omega) (y / 16) (by omega)
    have h2 := hxd_eq (x % 16) (by omega) (y % 16) (by omega)
    rw [h.1, beq_self_eq_true] at h1
    rw [h.2.1, beq_self_eq_true] at h2
    have e1 := of_decide_eq_true h1.symm
    have e2 := of_decide_eq_true h2.symm
    rw [show x = y by omega, hxs_inj a b (sm_tail ha) (sm_tail hb) h.2.2]
theorem hxs_less : ∀ a b : List Nat, a.length = b.length → Sm a → Sm b → Op.bytesLess (hxs a) (hxs b) = lss a b
  | [], [], _, _, _ => rfl
  | [], _ :: _, h, _, _ => by simp at h
  | _ :: _, [], h, _, _ => by simp at h
  | x :: a, y :: b, hl, ha, hb => by
    have ih := hxs_less a b (by simpa using hl) (sm_tail ha) (sm_tail hb)
    have hx := sm_head ha
    have hy := sm_head hb
    have h1 := hxd_eq (x / 16) (by omega) (y / 16) (by omega)
    have h2 := hxd_eq (x % 16) (by omega) (y % 16) (by omega)
    have h3 := hxd_lt (x / 16) (by omega) (y / 16) (by omega)
    have h4 := hxd_lt (x % 16) (by omega) (y % 16) (by omega)
    rw [hxs, hxs, Op.bytesLess, Op.bytesLess, ih, h1, h2, h3, h4, lss]
    by_cases e : x = y
    · subst e
      simp
    · rw [if_neg e]
      by_cases e1 : x / 16 = y / 16
      · have e2 : x % 16 ≠ y % 16 := fun h => e (by omega)
        rw [decide_eq_false (show ¬ x / 16 < y / 16 by omega), decide_eq_true e1, decide_eq_false e2, Bool.false_or, Bool.true_and, Bool.false_and, Bool.or_false]
        by_cases h : x % 16 < y % 16
        · rw [decide_eq_true h, decide_eq_true (show x < y by omega)]
        · rw [decide_eq_false h, decide_eq_false (show ¬ x < y by omega)]
      · rw [decide_eq_false e1, Bool.false_and, Bool.or_false]
        by_cases h : x / 16 < y / 16
        · rw [decide_eq_true h, decide_eq_true (show x < y by omega)]
        · rw [decide_eq_false h, decide_eq_false (show ¬ x < y by omega)]
def DgS (l : List Nat) (w : World) (e : Ending) (w' : World) : Prop := ∃ c, e = .returned (.agg c) ∧ Dgc c l ∧ Ext w w'
def hxb (l : List Nat) : ByteArray := ⟨(hxs l).toArray⟩
theorem hxb_list (l : List Nat) : (hxb l).toList = hxs l := by rw [ByteArray.toList_eq]; rfl
def HexS (l : List Nat) (w : World) (e : Ending) (w' : World) : Prop := Tells (.string (hxb l)) w e w'
structure ShaSaid : Prop where
  of : ∀ (b : List Nat) (A : Option Addr) (c : Nat) (w : World), GL w → Rd w A b → b.length ≤ c → b.length ≤ 65536 → Calls Tryd.prog 10 #[.slice A b.length c] w (DgS (sha b) w)
  parts : ∀ (rows : List (List Nat)) (A : Option Addr) (c : Nat) (w : World), GL w → RRd w A rows → rows.length ≤ c → rows.length ≤ 1024 → (∀ i, i < rows.length → (ro rows i).length ≤ 1024) → (jn rows).length ≤ 65536 →
    Calls Tryd.prog 14 #[.slice A rows.length c] w (DgS (sha (jn rows)) w)
  hex : ∀ (c : Array Value) (d : List Nat) (w : World), Dgc c d → d.length = 32 → Sm d → Calls Tryd.prog 17 #[.agg c] w (HexS d w)
  less : ∀ (c d : Array Value) (a b : List Nat) (w : World), Dgc c a → Dgc d b → a.length = 32 → b.length = 32 → Sm a → Sm b → Calls Tryd.prog 18 #[.agg c, .agg d] w (Tells (.bool (lss a b)) w)
end Go.Proofs.YtfhmafncpodlbaaDoor

/-
  Two digests are compared byte by byte. Conditions: none; no function is named here.
-/
namespace Go.Proofs.YtfhmafncpodlbaaDoor
open Go.RowKit
open Pol (co Sm)

theorem mapM_some {α β : Type} {F : α → Option β} {G : α → β} : ∀ (l : List α), (∀ x ∈ l, F x = some (G x)) → l.mapM F = some (l.map G)
  | [], _ => rfl
  | x :: l, h => by
    rw [List.mapM_cons, h x (by simp), mapM_some l (fun y hy => h y (by simp [hy]))]
    rfl
theorem drop_one (l : List Value) (i : Nat) (h : i < l.length) : (l.drop i).take 1 = [l[i]] := by
  rw [List.drop_eq_getElem_cons h]; rfl
theorem cells32 : Tryd.prog.cellsOf 25 = 32 := by kernel_rfl
theorem cells_u8 : Tryd.prog.cellsOf 5 = 1 := by kernel_rfl
theorem lit_u8 (n : Nat) (h : n < 256) (d : Nat) : Tryd.prog.keyLits (d + 1) 5 [.int .u8 (n : Int)] = some [.int .u8 (n : Int)] := by
  have hw : (Lit.int .u8 (n : Int)).wf = true := by
    simp [Lit.wf, IntKind.min, IntKind.max, IntKind.signed, IntKind.bits]
    omega
  simp [Program.keyLits, Tryd.underlying5, hw]
theorem lits32 (f : Nat → Nat) (hf : ∀ i, i < 32 → f i < 256) : Tryd.prog.keyLits 2 25 (bt 32 f).toList = some ((List.range 32).map fun i => [Lit.int .u8 ((f i : Nat) : Int)]).flatten := by
  have hl : (bt 32 f).toList.length = 32 := by simp [bt_size]
  have hm : (List.range 32).mapM (fun i => Tryd.prog.keyLits 1 5 (((bt 32 f).toList.drop (i * 1)).take 1)) = some ((List.range 32).map fun i => [Lit.int .u8 ((f i : Nat) : Int)]) := mapM_some _ fun i hi => by
    have hi := List.mem_range.1 hi
    rw [Nat.mul_one, drop_one _ i (by rw [hl]; exact hi), show (bt 32 f).toList[i]'(by rw [hl]; exact hi) = .int .u8 ((f i : Nat) : Int) from by
      have h := bt_at 32 f i hi
      rw [← Option.some_inj, ← List.getElem?_eq_getElem, ← h]
      simp]
    exact lit_u8 _ (hf i hi) 0
  unfold Program.keyLits
  rw [Tryd.underlying25]
  simp only [cells32, cells_u8, hl, if_true, hm, Option.map_some]
theorem flat_inj (f g : Nat → Nat) : ∀ n, ((List.range n).map fun i => [Lit.int .u8 ((f i : Nat) : Int)]).flatten = ((List.range n).map fun i => [Lit.int .u8 ((g i : Nat) : Int)]).flatten ↔ ∀ i, i < n → f i = g i := fun n => by
  have e : ∀ h : Nat → Nat, ((List.range n).map fun i => [Lit.int .u8 ((h i : Nat) : Int)]).flatten = (List.range n).map fun i => Lit.int .u8 ((h i : Nat) : Int) := fun h => by
    induction (List.range n) with
    | nil => rfl
    | cons x l ih => simp only [List.map_cons, List.flatten_cons, ih]; rfl
  rw [e, e]
  constructor
  · intro h i hi
    have h1 := congrArg (fun l => l[i]?) h
    simp only [List.getElem?_map, List.getElem?_range hi, Option.map_some, Option.some.injEq, Lit.int.injEq, true_and] at h1
    omega
  · intro h
    exact List.map_congr_left fun i hi => by rw [h i (List.mem_range.1 hi)]
theorem eq32 (f g : Nat → Nat) (hf : ∀ i, i < 32 → f i < 256) (hg : ∀ i, i < 32 → g i < 256) (w : World) : ∃ r : Bool, (Op.equalIn 10000 25 (.agg (bt 32 f)) (.agg (bt 32 g))).run Tryd.prog w = .ok r w ∧ (r = true ↔ ∀ i, i < 32 → f i = g i) := by
  have hk : Tryd.prog.keyTypeAt 2 25 = true := by kernel_rfl
  have hform : ∀ h : Nat → Nat, (Value.agg (bt 32 h)).formed Tryd.prog 25 = true := fun h => by
    simp [Value.formed, Tryd.underlying25, bt_size, cells32]
  obtain ⟨r, h1, h2⟩ := run_equalIn_deep 9998 2 25 hk w 2 2 (.agg (bt 32 f)) (.agg (bt 32 g)) _ _ (hform f) (hform g) (lits32 f hf) (lits32 g hg)
  exact ⟨r, h1, h2.trans (flat_inj f g 32)⟩
theorem eq32_same (f : Nat → Nat) (hf : ∀ i, i < 32 → f i < 256) (w : World) : (Op.equalIn 10000 25 (.agg (bt 32 f)) (.agg (bt 32 f))).run Tryd.prog w = .ok true w := by
  obtain ⟨r, h1, h2⟩ := eq32 f f hf hf w
  rw [h1, h2.2 (fun _ _ => rfl)]
end Go.Proofs.YtfhmafncpodlbaaDoor

/-
  Blocks that hold a digest: thirty-two bytes as a function of the place. Conditions: none; no function is named here.
-/
namespace Go.Proofs.YtfhmafncpodlbaaDoor
open Go.RowKit
open Pol (co Sm)

/-! ### Digests -/
/-- Thirty-two bytes, as far as they go. -/
def dig (s : List Nat) : List Nat := tab 32 (co s)
theorem dig_len (s : List Nat) : (dig s).length = 32 := tab_len _ _
theorem dig_sm {s : List Nat} (h : Sm s) : Sm (dig s) := tab_sm _ _ fun i _ => h i
def DBlk (w : World) (g : Nat) (f : Nat → Nat) : Prop := w.heap[g]? = some (.cells (bt 32 f) 25 (0, 0))
theorem DBlk.cell {w : World} {g : Nat} {f : Nat → Nat} (h : DBlk w g f) (i : Nat) (hi : i < 32) : w.cell? ⟨g, i, none⟩ = some (.int .u8 ((f i : Nat) : Int)) := by rw [cell_of_row w g i _ _ _ h, bt_at 32 f i hi]
theorem DBlk.frozen {w : World} {g : Nat} {f : Nat → Nat} (h : DBlk w g f) (i : Nat) : w.frozen? ⟨g, i, none⟩ = false := frozen_of_row w g i _ _ h
theorem DBlk.store {w : World} {g : Nat} {f : Nat → Nat} (h : DBlk w g f) (k v : Nat) : DBlk (w.setCell ⟨g, k, none⟩ (.int .u8 (v : Int))) g (upd f k v) := by
  unfold DBlk
  rw [heap_setCell_same w g k _ _ _ h, bt_set]
theorem DBlk.congr {w : World} {g : Nat} {f f' : Nat → Nat} (h : DBlk w g f) (hf : ∀ i, i < 32 → f i = f' i) : DBlk w g f' := by
  have e : bt 32 f = bt 32 f' := by
    apply Array.ext (by simp [bt])
    intro i h1 h2
    have hi : i < 32 := by simpa [bt] using h1
    simp [bt, hf i hi]
  unfold DBlk
  rw [← e]
  exact h
theorem zero_digest : (∀ w, (zeroValue 25).run Tryd.prog w = .ok (.agg (bt 32 fun _ => 0)) w) ∧ (Tryd.prog.info? 25).map (·.size) = some 32 := by
  have e : bt 32 (fun _ => 0) = Array.replicate 32 (.int .u8 0) := by
    apply Array.ext (by simp [bt])
    intro i h1 h2
    simp [bt]
  rw [e]
  exact zero_of_info (by kernel_rfl)
theorem bt_one (n : Nat) (f : Nat → Nat) : (bt n f).all (·.oneCell') = true := by
  rw [Array.all_eq_true]; intro i h; simp [bt, Value.oneCell']
theorem bt_dig (s : List Nat) : bt 32 (co s) = (bv (dig s)).toArray := by
  apply Array.ext
  · rw [bt_size]; simp [bv_len, dig_len]
  · intro i h1 h2
    rw [bt_size] at h1
    rw [← Option.some_inj, ← Array.getElem?_eq_getElem, ← Array.getElem?_eq_getElem, bt_at _ _ _ h1, List.getElem?_toArray, bv_at _ _ (by rw [dig_len]; exact h1)]
    unfold dig
    rw [co_tab, if_pos h1]

theorem info32 (f : Nat → Nat) : (Tryd.prog.info? 25).map (·.size) = some (bt 32 f).size := by rw [bt_size]; exact zero_digest.2
theorem load32 (w : World) (g : Nat) (f : Nat → Nat) (hg : DBlk w g f) : (Instr.loadAt 25 (.pointer (some ⟨g, 0, none⟩))).run Tryd.prog w = .ok (.agg (bt 32 f)) w :=
  run_load_all w g 25 _ 32 5 Tryd.underlying25 hg (info32 f)
theorem store32 (w : World) (g : Nat) (f f' : Nat → Nat) (hg : DBlk w g f) : (storeCells ⟨g, 0, none⟩ (bt 32 f').toList).run Tryd.prog w = .ok () (w.setRow g (bt 32 f')) := by
  have h := run_storeCells_from (P := Tryd.prog) g 25 (bt 32 f').toList 0 (bt 32 f) w hg (by simp [bt_size]) (fun v hv => (Array.all_eq_true_iff_forall_mem.1 (bt_one 32 f')) v (by simpa using hv))
  simpa using h
end Go.Proofs.YtfhmafncpodlbaaDoor

/-
  The laws' first call, and the law ShaHexes, walked, under what layer 10's functions are to do. Conditions: none.
-/
namespace Go.Proofs.YtfhmafncpodlbaaDoor
open Go.RowKit
open Pol (co Sm)

theorem Dgc.is {c : Array Value} {l : List Nat} (h : Dgc c l) : c = bt 32 (co l) := by
  apply Array.ext
  · rw [h.1, bt_size]
  · intro i h1 h2
    have hi : i < 32 := by rw [← h.1]; exact h1
    rw [← Option.some_inj, ← Array.getElem?_eq_getElem, ← Array.getElem?_eq_getElem, h.2 i hi, bt_at 32 _ i hi]
theorem bt_dgc (l : List Nat) : Dgc (bt 32 (co l)) l := ⟨bt_size _ _, fun i hi => bt_at 32 _ i hi⟩
theorem co_ext32 {a b : List Nat} (ha : a.length = 32) (hb : b.length = 32) (h : ∀ i, i < 32 → co a i = co b i) : a = b := by
  apply List.ext_getElem (by omega)
  intro j h1 h2
  have := h j (by omega)
  unfold co at this
  rw [List.getElem?_eq_getElem h1, List.getElem?_eq_getElem h2] at this
  exact this
/-- Two digests compared. -/
theorem eq_dgc {c d : Array Value} {a b : List Nat} (hc : Dgc c a) (hd : Dgc d b) (ha : a.length = 32) (hb : b.length = 32) (hsa : Sm a) (hsb : Sm b) (W : World) : (Op.equalIn 10000 25 (.agg c) (.agg d)).run Tryd.prog W = .ok (decide (a = b)) W := by
  obtain ⟨r, h1, h2⟩ := eq32 (co a) (co b) (fun i _ => hsa i) (fun i _ => hsb i) W
  rw [hc.is, hd.is, h1]
  by_cases e : a = b
  · rw [decide_eq_true e, h2.2 (fun i _ => by rw [e])]
  · have hr : r = false := by
      cases r
      · rfl
      · exact absurd (co_ext32 ha hb (h2.1 rfl)) e
    rw [decide_eq_false e, hr]
theorem run_eq_dgc {c d : Array Value} {a b : List Nat} (hc : Dgc c a) (hd : Dgc d b) (ha : a.length = 32) (hb : b.length = 32) (hsa : Sm a) (hsb : Sm b) (W : World) : (binOp .eql 25 (.agg c) (.agg d)).run Tryd.prog W = .ok (.bool (decide (a = b))) W := by
  simp only [binOp]
  simp [Op.equal, Op.maxDepth, eq_dgc hc hd ha hb hsa hsb W]
def AfterH (u w : World) : Prop := Ext u w
def one32 (x : Nat) : List Nat := x :: List.replicate 31 0
theorem one32_len (x : Nat) : (one32 x).length = 32 := rfl
theorem rd_mark10 (w : World) (l : List Nat) (fr : Nat × Nat) (h : Sm l) : Rd (w.alloc (.cells (bv l).toArray 5 fr)) (some ⟨w.heap.size, 0, none⟩) l :=
  ⟨h, fun i hi => ⟨w.heap.size, 0, rfl, by
    rw [cell_of_row _ _ _ _ _ _ (heap_alloc_new w _), Nat.zero_add]
    simpa using bv_at l i hi⟩⟩
theorem bv_dgc {l : List Nat} (h : l.length = 32) : Dgc (bv l).toArray l := ⟨by simp [bv_len, h], fun i hi => by rw [List.getElem?_toArray]; exact bv_at l i (by omega)⟩
def shabc : List Nat := sha [97, 98, 99]
theorem shabc_is : shabc = [186, 120, 22, 191, 143, 1, 207, 234, 65, 65, 64, 222, 93, 174, 34, 35, 176, 3, 97, 163, 150, 23, 122, 156, 180, 16, 255, 97, 242, 0, 21, 173] := sha_abc

set_option maxHeartbeats 800000 in
set_option maxRecDepth 100000 in
theorem awake10 (C : ShaSaid) (w : World) (hgl : GL w) : Calls Tryd.prog 9 #[] w (Holds w) := by
  have HO := Lib.hid (fun W (h : Ext w W) => C.of [97, 98, 99] (some ⟨W.heap.size, 0, none⟩) 3 (W.alloc (.cells (bv [97, 98, 99]).toArray 5 (3, 4))) ((hgl.ext h).ext ((Ext.refl _).alloc _)) (rd_mark10 W _ (3, 4) (Pol.co_lt_of (by decide))) (by decide) (by decide))
  have HH := Lib.hid (fun c W (h : Dgc c shabc) => C.hex c shabc W h (sha_len _) (sha_sm _))
  have HL := Lib.hid (fun W => show Calls Tryd.prog 18 #[.agg #[.int .u8 1, .int .u8 0, .int .u8 0, .int .u8 0, .int .u8 0, .int .u8 0, .int .u8 0, .int .u8 0, .int .u8 0, .int .u8 0, .int .u8 0, .int .u8 0, .int .u8 0, .int .u8 0, .int .u8 0, .int .u8 0, .int .u8 0, .int .u8 0, .int .u8 0, .int .u8 0, .int .u8 0, .int .u8 0, .int .u8 0, .int .u8 0, .int .u8 0, .int .u8 0, .int .u8 0, .int .u8 0, .int .u8 0, .int .u8 0, .int .u8 0, .int .u8 0], .agg #[.int .u8 2, .int .u8 0, .int .u8 0, .int .u8 0, .int .u8 0, .int .u8 0, .int .u8 0, .int .u8 0, .int .u8 0, .int .u8 0, .int .u8 0, .int .u8 0, .int .u8 0, .int .u8 0, .int .u8 0, .int .u8 0, .int .u8 0, .int .u8 0, .int .u8 0, .int .u8 0, .int .u8 0, .int .u8 0, .int .u8 0, .int .u8 0, .int .u8 0, .int .u8 0, .int .u8 0, .int .u8 0, .int .u8 0, .int .u8 0, .int .u8 0, .int .u8 0]] W (Tells (.bool true) W) from
    C.less (bv (one32 1)).toArray (bv (one32 2)).toArray (one32 1) (one32 2) W (bv_dgc rfl) (bv_dgc rfl) rfl rfl (Pol.co_lt_of (by decide)) (Pol.co_lt_of (by decide)))
  rw [show sha [97, 98, 99] = shabc from rfl] at HO
  have HT := Lib.hid (show hxs shabc = hxs [186, 120, 22, 191, 143, 1, 207, 234, 65, 65, 64, 222, 93, 174, 34, 35, 176, 3, 97, 163, 150, 23, 122, 156, 180, 16, 255, 97, 242, 0, 21, 173] from by rw [shabc_is])
  have kc := fun (w : World) (C : Array Value) (n c : Nat) => Lib.run_convert_bytes_const (P := Tryd.prog) w 22 5 C n c Tryd.underlying22 Tryd.underlying5
  clear C hgl
  go_enter Tryd.func9, Tryd.ntmps9
  go_wp2_with fail
  refine (HO.out _ (Ext.refl w)).mono ?_
  rintro e w1 ⟨c1, rfl, hc1, hx1⟩
  have HX1 := Lib.hid (((Ext.refl w).alloc (.cells (bv [97, 98, 99]).toArray 5 (3, 4))).trans hx1)
  have HHC := Lib.hid (fun W => HH.out c1 W hc1)
  clear hc1 hx1
  go_wp2_with fail
  refine (HHC.out _).mono ?_
  rintro e w2 ⟨rfl, hx2⟩
  have HX2 := Lib.hid (HX1.out.trans hx2)
  obtain ⟨s, hse⟩ : ∃ s, hxb shabc = s := ⟨_, rfl⟩
  have hs : s.toList = hxs [186, 120, 22, 191, 143, 1, 207, 234, 65, 65, 64, 222, 93, 174, 34, 35, 176, 3, 97, 163, 150, 23, 122, 156, 180, 16, 255, 97, 242, 0, 21, 173] := by rw [← hse, hxb_list]; exact HT.out
  rw [hse]
  clear hx2 hse
  go_wp2_with fail
  refine (HL.out _).mono ?_
  rintro e w3 ⟨rfl, hx3⟩
  have HX3 := Lib.hid (HX2.out.trans hx3)
  clear hx3
  go_wp2
  go_ret
  exact ⟨rfl, HX3.out⟩

set_option maxHeartbeats 800000 in
set_option maxRecDepth 100000 in
theorem hexes10_walk (C : ShaSaid) (c d : Array Value) (a b : List Nat) (w : World) (hgl : GL w) (hc : Dgc c a) (hd : Dgc d b) (ha : a.length = 32) (hb : b.length = 32) (hsa : Sm a) (hsb : Sm b) :
    Calls Tryd.prog 8 #[.agg c, .agg d] w (Holds w) := by
  have HAW := Lib.hid (fun W (h : Ext w W) => awake10 C W (hgl.ext h))
  have HHA := Lib.hid (fun W => C.hex c a W hc ha hsa)
  have HHB := Lib.hid (fun W => C.hex d b W hd hb hsb)
  have HEQ := Lib.hid (fun W => run_eq_dgc hc hd ha hb hsa hsb W)
  have HIJ := Lib.hid (show hxs a = hxs b ↔ a = b from ⟨hxs_inj a b hsa hsb, fun h => by rw [h]⟩)
  have hi1 : (Tryd.prog.info? 25).map (·.size) = some c.size := by rw [hc.1]; exact zero_digest.2
  have hi2 : (Tryd.prog.info? 25).map (·.size) = some d.size := by rw [hd.1]; exact zero_digest.2
  have HI1 := Lib.hid hi1
  have HI2 := Lib.hid hi2
  have hg1 := (heap_alloc_old (w.alloc (.cells c 25)) (.cells d 25) (r := w.heap.size) (by simp)).trans (heap_alloc_new w (.cells c 25))
  have hg2 := heap_alloc_new (w.alloc (.cells c 25)) (.cells d 25)
  rw [show (w.alloc (.cells c 25)).heap.size = w.heap.size + 1 from by simp] at hg2
  obtain ⟨W0, hW0⟩ : ∃ W, (w.alloc (.cells c 25)).alloc (.cells d 25) = W := ⟨_, rfl⟩
  have hx0 : Ext w W0 := by rw [← hW0]; exact ((Ext.refl w).alloc _).alloc _
  rw [hW0] at hg1 hg2
  obtain ⟨g, hg⟩ : ∃ g, w.heap.size = g := ⟨_, rfl⟩
  obtain ⟨h, hh⟩ : ∃ h, g + 1 = h := ⟨_, rfl⟩
  rw [hg] at hg1 hg2
  rw [hh] at hg2
  have FA := Lib.hid (show ∀ W, Ext W0 W → W.heap[g]? = some (.cells c 25 (0, 0)) from fun W hW => (hW.below.block g (by have := (Array.getElem?_eq_some_iff.1 hg1).1; exact this)).trans hg1)
  have FB := Lib.hid (show ∀ W, Ext W0 W → W.heap[h]? = some (.cells d 25 (0, 0)) from fun W hW => (hW.below.block h (by have := (Array.getElem?_eq_some_iff.1 hg2).1; exact this)).trans hg2)
  have HX0 := Lib.hid hx0
  have HW0 := Lib.hid hW0
  have HG := Lib.hid hg
  have HH := Lib.hid hh
  clear C hgl hc hd ha hb hsa hsb hi1 hi2 hg1 hg2 hx0 hW0 hg hh
  go_enter Tryd.func8, Tryd.ntmps8
  go_wp2_with fail
  rw [HW0.out, HG.out, HH.out]
  refine (HAW.out _ HX0.out).mono ?_
  rintro e w1 ⟨rfl, hx1⟩
  have HX1 := Lib.hid hx1
  have HA1 := Lib.hid (FA.out _ hx1)
  clear hx1
  have LA := Lib.hid (show ∀ W, AfterH w1 W → (Instr.loadAt 25 (.pointer (some ⟨g, 0, none⟩))).run Tryd.prog W = .ok (.agg c) W from fun W hW => run_load_all W g 25 _ 32 5 Tryd.underlying25 (FA.out W (HX1.out.trans hW)) HI1.out)
  have LB := Lib.hid (show ∀ W, AfterH w1 W → (Instr.loadAt 25 (.pointer (some ⟨h, 0, none⟩))).run Tryd.prog W = .ok (.agg d) W from fun W hW => run_load_all W h 25 _ 32 5 Tryd.underlying25 (FB.out W (HX1.out.trans hW)) HI2.out)
  obtain ⟨sa, hsa⟩ : ∃ s, hxb a = s := ⟨_, rfl⟩
  obtain ⟨sb, hsb⟩ : ∃ s, hxb b = s := ⟨_, rfl⟩
  have CA := Lib.hid (show ∀ W, AfterH w1 W → Calls Tryd.prog 17 #[.agg c] W (fun e w' => e = .returned (.string sa) ∧ AfterH w1 w') from fun W hW => (HHA.out W).mono fun _ _ h => ⟨by rw [h.1, hsa], Ext.trans hW h.2⟩)
  have CB := Lib.hid (show ∀ W, AfterH w1 W → Calls Tryd.prog 17 #[.agg d] W (fun e w' => e = .returned (.string sb) ∧ AfterH w1 w') from fun W hW => (HHB.out W).mono fun _ _ h => ⟨by rw [h.1, hsb], Ext.trans hW h.2⟩)
  obtain ⟨r, hr⟩ : ∃ r, decide (a = b) = r := ⟨_, rfl⟩
  have qs : (sa.toList == sb.toList) = r := by
    rw [← hr, ← hsa, ← hsb, hxb_list, hxb_list]
    by_cases e : a = b
    · rw [decide_eq_true e, e]; simp
    · rw [decide_eq_false e]; exact beq_eq_false_iff_ne.2 (fun h => e (HIJ.out.1 h))
  have qd : ∀ W, (binOp .eql 25 (.agg c) (.agg d)).run Tryd.prog W = .ok (.bool r) W := fun W => by rw [HEQ.out, hr]
  have HX2 := Lib.hid (HX0.out.trans HX1.out)
  clear hsa hsb hr
  go_wp2
  refine wp_region_quiet (C := AfterH w1) (by kernel_rfl) (by kernel_rfl) (show AfterH w1 w1.drew from (Ext.refl w1).drew) ?_
  refine wpQuiet_load rfl 25 (.tmp 2) rfl (.agg c) (fun W hW => LA.out W hW) ?_
  refine wpQuiet_step (fun K hK => ?_); go_simp; refine ⟨_, fun W hW => CA.out W hW, hK _ ?_⟩; clear hK K
  refine wpQuiet_load rfl 25 (.tmp 3) rfl (.agg d) (fun W hW => LB.out W hW) ?_
  refine wpQuiet_step (fun K hK => ?_); go_simp; refine ⟨_, fun W hW => CB.out W hW, hK _ ?_⟩; clear hK K
  refine wpQuiet_step (fun K hK => ?_); go_simp; refine ⟨_, fun _ _ => rfl, hK _ ?_⟩; clear hK K
  refine wpQuiet_load rfl 25 (.tmp 2) rfl (.agg c) (fun W hW => LA.out W hW) ?_
  refine wpQuiet_load rfl 25 (.tmp 3) rfl (.agg d) (fun W hW => LB.out W hW) ?_
  repeat (refine wpQuiet_step (fun K hK => ?_); go_simp; refine ⟨_, fun _ _ => rfl, hK _ ?_⟩; clear hK K)
  refine wpQuiet_nil ?_
  intro w3 hx3
  have HX3 := Lib.hid (HX2.out.trans hx3)
  clear hx3
  go_wp2
  go_ret
  exact ⟨rfl, HX3.out⟩
end Go.Proofs.YtfhmafncpodlbaaDoor

/-
  The law ShaDigests, walked, under what layer 10's functions and the document's own digest are to do. Conditions: none.
-/
namespace Go.Proofs.YtfhmafncpodlbaaDoor
open Go.RowKit
open Pol (co Sm)

/-- What the document's own digest is to do. -/
def RefOf : Prop := ∀ (b : List Nat) (A : Option Addr) (cb : Nat) (w : World), Rd w A b → b.length ≤ 262144 → Calls Tryd.prog 11 #[.slice A b.length cb] w (DgS (sha b) w)

set_option maxHeartbeats 800000 in
set_option maxRecDepth 100000 in
theorem digests10_walk (C : ShaSaid) (R : RefOf) (b : List Nat) (A : Option Addr) (cb : Nat) (w : World) (hgl : GL w) (hr : Rd w A b) (hc : b.length ≤ cb) :
    Calls Tryd.prog 3 #[.slice A b.length cb] w (Holds w) := by
  have HAW := Lib.hid (fun W (h : Ext w W) => awake10 C W (hgl.ext h))
  by_cases hbig : b.length ≤ 300
  · have HO := Lib.hid (fun W (h : Ext w W) => C.of b A cb W (hgl.ext h) (hr.ext h) hc (by omega))
    have HR := Lib.hid (fun W (h : Ext w W) => R b A cb W (hr.ext h) (by omega))
    have HSL := Lib.hid (sha_len b)
    have HSM := Lib.hid (sha_sm b)
    obtain ⟨D, hD⟩ : ∃ D, sha b = D := ⟨_, rfl⟩
    rw [hD] at HO HR HSL HSM
    have d1 : decide (300 < (b.length : Int)) = false := decide_eq_false (by omega)
    generalize b.length = n at *
    clear C R hgl hr hc hD
    go_enter Tryd.func3, Tryd.ntmps3
    go_wp2_with fail
    refine (HAW.out _ (Ext.refl w)).mono ?_
    rintro e w1 ⟨rfl, hx1⟩
    have HX1 := Lib.hid hx1
    clear hx1
    go_wp2_with fail
    refine (HO.out _ HX1.out).mono ?_
    rintro e w2 ⟨c1, rfl, hc1, hx2⟩
    have HX2 := Lib.hid (HX1.out.trans hx2)
    have HC1 := Lib.hid hc1
    clear hc1 hx2
    go_wp2_with fail
    refine (HR.out _ HX2.out).mono ?_
    rintro e w3 ⟨c2, rfl, hc2, hx3⟩
    have HX3 := Lib.hid (HX2.out.trans hx3)
    have qd : ∀ W, (binOp .eql 25 (.agg c1) (.agg c2)).run Tryd.prog W = .ok (.bool true) W := fun W => by
      rw [run_eq_dgc HC1.out hc2 HSL.out HSL.out HSM.out HSM.out W, decide_eq_true rfl]
    clear hc2 hx3
    go_wp2
    go_ret
    exact ⟨rfl, HX3.out⟩
  · have d1 : decide (300 < (b.length : Int)) = true := decide_eq_true (by omega)
    generalize b.length = n at *
    clear C R hgl hr hc hbig
    go_enter Tryd.func3, Tryd.ntmps3
    go_wp2_with fail
    refine (HAW.out _ (Ext.refl w)).mono ?_
    rintro e w1 ⟨rfl, hx1⟩
    have HX1 := Lib.hid hx1
    clear hx1
    go_wp2_with fail
    refine (HAW.out _ HX1.out).mono ?_
    rintro e w2 ⟨rfl, hx2⟩
    have HX2 := Lib.hid (HX1.out.trans hx2)
    clear hx2
    go_wp2
    go_ret
    exact ⟨rfl, HX2.out⟩
end Go.Proofs.YtfhmafncpodlbaaDoor

/-
  Slices of numbers of one kind that read as a list, and such slices of a call's own: what append does with them. Conditions: the lengths add up to no more than 2^20.
-/
namespace Go.Proofs.YtfhmafncpodlbaaDoor
open Go.RowKit
open Pol (co Sm)

/-- S is the type of slices of T, numbers of kind k. -/
structure NumT (S T : TypeId) (k : IntKind) : Prop where
  sl : Tryd.prog.underlying S = some (.slice T)
  info : ∃ m, m ≤ 8 ∧ 0 < m ∧ (Tryd.prog.info? T).map (fun i => (i.zero, i.size, i.bytes)) = some (some (.int k 0), 1, m)
  el : Tryd.prog.elem S = T
theorem nt64 : NumT 42 46 .u64 := ⟨Tryd.underlying42, ⟨8, by decide, by decide, by kernel_rfl⟩, by kernel_rfl⟩
theorem nt32 : NumT 44 38 .u32 := ⟨Tryd.underlying44, ⟨4, by decide, by decide, by kernel_rfl⟩, by kernel_rfl⟩

section
variable {S T : TypeId} {k : IntKind}
def nv (k : IntKind) (l : List Nat) : List Value := l.map fun x : Nat => Value.int k (x : Int)
theorem nv_len (l : List Nat) : (nv k l).length = l.length := by simp [nv]
theorem nv_at (l : List Nat) (i : Nat) (h : i < l.length) : (nv k l)[i]? = some (.int k ((co l i : Nat) : Int)) := by simp [nv, co, List.getElem?_eq_getElem h]
theorem nv_append (l m : List Nat) : nv k (l ++ m) = nv k l ++ nv k m := by simp [nv]
/-- From address A on lie the numbers l. -/
def NRd (k : IntKind) (w : World) (A : Option Addr) (l : List Nat) : Prop := ∀ i, i < l.length → ∃ b o, A = some ⟨b, o, none⟩ ∧ w.cell? ⟨b, o + i, none⟩ = some (.int k ((co l i : Nat) : Int))
theorem NRd.ext {w w' : World} {A : Option Addr} {l : List Nat} (h : NRd k w A l) (hx : Ext w w') : NRd k w' A l := fun i hi => by
  obtain ⟨b, o, e, hc⟩ := h i hi
  exact ⟨b, o, e, (hx.below.cell (p := ⟨b, o + i, none⟩) (block_lt_of_cell hc)).trans hc⟩
theorem NRd.nil (w : World) (A : Option Addr) : NRd k w A [] := fun i hi => absurd hi (by simp)
/-- A slice of numbers of the call's own. -/
def NMine (T : TypeId) (k : IntKind) (w : World) (base : Nat) (v : Value) (l : List Nat) : Prop := w.ownsRow base T 1 v l.length (nv k l)
theorem NMine.nil (w : World) (base : Nat) : NMine T k w base (.slice none 0 0) [] := World.ownsRow_nil w base _ _
theorem NMine.slice {w : World} {base : Nat} {v : Value} {l : List Nat} (h : NMine T k w base v l) : ∃ B c, v = .slice B l.length c ∧ l.length ≤ c ∧ NRd k w B l := by
  rcases h.2 with ⟨rfl, hn⟩ | ⟨g, cap, cur, rfl, _, hg, hnc, _, _, htake⟩
  · have : l = [] := List.eq_nil_of_length_eq_zero hn
    subst this
    exact ⟨none, 0, rfl, Nat.le_refl _, NRd.nil _ _⟩
  · refine ⟨_, cap, rfl, hnc, fun i hi => ⟨g, 0, rfl, ?_⟩⟩
    rw [Nat.zero_add, cell_of_row w g i cur _ _ hg, ← nv_at l i hi, ← htake, List.getElem?_take, if_pos (by omega)]
    simp
theorem NMine.ext {w w' : World} {base : Nat} {v : Value} {l : List Nat} (h : NMine T k w base v l) (hx : Ext w w') : NMine T k w' base v l :=
  World.ownsRow.kept h (row := none) ⟨hx.below.os, hx.below.tape, hx.below.output, hx.below.size, fun k hk _ => hx.below.block k hk⟩ (by
    cases hb : v.ownBlock with
    | none => exact .inl rfl
    | some k => exact .inr (by simp))
theorem NMine.keep {w w' : World} {base : Nat} {v : Value} {l : List Nat} {row : Option Nat} (h : NMine T k w base v l) (hg : w.grownBy w' row) (hne : ∀ k, v.ownBlock = some k → some k ≠ row) : NMine T k w' base v l :=
  World.ownsRow.kept h hg (by
    cases hb : v.ownBlock with
    | none => exact .inl rfl
    | some k => exact .inr (hne k hb))
theorem NMine.down {w : World} {base base' : Nat} {v : Value} {l : List Nat} (h : NMine T k w base v l) (hb : base' ≤ base) : NMine T k w base' v l :=
  ⟨h.1, h.2.imp id fun ⟨g, cap, cur, h1, h2, h3⟩ => ⟨g, cap, cur, h1, Nat.le_trans hb h2, h3⟩⟩
theorem NMine.block {w : World} {base : Nat} {v : Value} {l : List Nat} (h : NMine T k w base v l) : ∀ k, v.ownBlock = some k → base ≤ k ∧ k < w.heap.size := fun k hk => World.ownsRow.lt h k hk
theorem nmine_lit (w : World) (l : List Nat) (h : l.length ≤ 1048576) : NMine T k (w.alloc (.cells (nv k l).toArray T)) w.heap.size (.slice (some ⟨w.heap.size, 0, none⟩) l.length l.length) l := by
  have h1 := World.ownsRow_lit w (e := T) (size := 1) (base := w.heap.size) (nv k l).toArray l.length (Nat.le_refl _) (by unfold maxLen; omega) (by simp [nv_len])
  exact h1
theorem nrd_lit (w : World) (l : List Nat) : NRd k (w.alloc (.cells (nv k l).toArray T)) (some ⟨w.heap.size, 0, none⟩) l := fun i hi =>
  ⟨w.heap.size, 0, rfl, by
    rw [cell_of_row _ _ _ _ _ _ (heap_alloc_new w _), Nat.zero_add]
    simpa using nv_at l i hi⟩
set_option maxRecDepth 100000 in
theorem wpList_append_nums (nt : NumT S T k) {ops : Array Oper} {rest : List Oper} {o : Oper} {a : Act} {w : World} {Q : Exit → Act → World → Prop} (hgd : o.guard = none) (s x : Operand)
    (ho : o.op = .call { callee := .builtin .append, args := #[s, x], argTypes := #[S, S] })
    (base : Nat) (v : Value) (l m : List Nat) (hs : a.eval s = v) (hown : NMine T k w base v l) (b p n c : Nat) (hx : a.eval x = .slice (some ⟨b, p, none⟩) n c) (hn : m.length = n) (hr : ∀ i, i < m.length → w.cell? ⟨b, p + i, none⟩ = some (.int k ((co m i : Nat) : Int)))
    (hlen : l.length + m.length ≤ 1048576) (hbase : base ≤ w.heap.size)
    (h : ∀ v' w', NMine T k w' base v' (l ++ m) → w.grownBy w' v.ownBlock → (v'.ownBlock = v.ownBlock ∨ v'.ownBlock = some w.heap.size) → wpList Tryd.prog ops Q rest (a.put o.dst v') w') :
    wpList Tryd.prog ops Q (o :: rest) a w := by
  subst hn
  refine wpList_plain hgd fun K hK => ?_
  obtain ⟨z, hz8, hz0', hinf⟩ := nt.info
  obtain ⟨i0, hi, hz0, hz1, hz2⟩ := info_parts hinf
  obtain ⟨v', w', h1, h2, h3, _, h5⟩ := run_append_own_at (P := Tryd.prog) w base S o.type T i0 (.int k 0) 1 z nt.sl hi hz0 hz1 hz2 rfl (by omega) v l.length (nv k l) hown ⟨b, p, none⟩ m.length c (nv k m) (by rw [nv_len, Nat.mul_one])
    (fun j u hu => by
      have hj : j < m.length := by
        have := (List.getElem?_eq_some_iff.1 hu).1
        rwa [nv_len] at this
      rw [addr_add, hr j hj, ← nv_at m j hj, hu]) (fun u hu => by
      obtain ⟨y, _, rfl⟩ := List.mem_map.1 hu
      rfl) (by unfold maxLen; omega) (by
        have : (l.length + m.length) * z ≤ 1048576 * 8 := Nat.mul_le_mul hlen hz8
        omega) hbase
  unfold Oper.wp execOp
  simp only [ho, resolve, invoke, builtin, Sem.run_bind, Sem.run_pure, Result.andThen_ok, List.map_toArray, List.map_cons, List.map_nil, hs, hx, h1]
  exact hK _ _ (h v' w' (by unfold NMine; rw [List.length_append, nv_append]; exact h2) h3 h5)
/-- One number that a literal holds. -/
theorem one_num {w : World} {x : Nat} {T : TypeId} : ∀ i, i < [x].length → (w.alloc (.cells #[.int k (x : Int)] T)).cell? ⟨w.heap.size, 0 + i, none⟩ = some (.int k ((co [x] i : Nat) : Int)) := fun i hi => by
  have h0 : i = 0 := by simpa using hi
  subst h0
  rw [cell_of_row _ _ _ _ _ _ (heap_alloc_new w _)]
  rfl
end
end Go.Proofs.YtfhmafncpodlbaaDoor

/-
  What the document's own times of layer 10 does. Conditions: no more than 2^16 digits.
-/
namespace Go.Proofs.YtfhmafncpodlbaaDoor
open Go.RowKit
open Pol (co Sm)

/-- Numbers of a call's own. -/
def GivesN (k : IntKind) (T : TypeId) (l : List Nat) (w : World) (e : Ending) (w' : World) : Prop := ∃ v, e = .returned v ∧ NMine T k w' w.heap.size v l ∧ Ext w w'
theorem drop_co (l : List Nat) (i : Nat) (h : i < l.length) : l.drop i = co l i :: l.drop (i + 1) := by
  rw [List.drop_eq_getElem_cons h, show co l i = l[i] from by simp [co, List.getElem?_eq_getElem h]]

set_option maxHeartbeats 800000 in
set_option maxRecDepth 100000 in
theorem ref10_times (l : List Nat) (n : Nat) (b o c : Nat) (w : World) (hr : ∀ i, i < l.length → w.cell? ⟨b, o + i, none⟩ = some (.int .u64 ((co l i : Nat) : Int))) (hl : l.length ≤ 65536) (hd : Dg l) (hn : n < 1099511627776) :
    Calls Tryd.prog 37 #[.slice (some ⟨b, o, none⟩) l.length c, .int .u64 (n : Int)] w (GivesN .u64 46 (tms n 0 l) w) := by
  unfold GivesN
  have hok := tms_ok n (by omega) l 0 hd (Nat.zero_le _)
  have HLEN := Lib.hid hok.2.2
  have HD := Lib.hid hd
  have HR := Lib.hid hr
  obtain ⟨L, hL⟩ : ∃ L, l.length = L := ⟨_, rfl⟩
  have HL := Lib.hid hL
  rw [hL] at hl HLEN HR ⊢
  obtain ⟨V, hV⟩ : ∃ V, tms n 0 l = V := ⟨_, rfl⟩
  have HV := Lib.hid (show [] ++ tms n 0 (l.drop 0) = V from hV)
  rw [hV] at HLEN ⊢
  clear hr hL hV hok hd
  go_enter Tryd.func37, Tryd.ntmps37
  go_wp2
  go_loopg [5, 6, 7] V.length (fun g s5 s6 s7 wx => ∃ (i cy : Nat) (out : List Nat), out ++ tms n cy (l.drop i) = V ∧ (tms n cy (l.drop i)).length = g ∧ cy ≤ n ∧ out.length = i ∧ s7 = .int .i64 (i : Int) ∧ s6 = .int .u64 (cy : Int) ∧ NMine 46 .u64 wx w.heap.size s5 out ∧ Ext w wx)
  case atStart => exact ⟨0, 0, [], HV.out, by rw [← HV.out]; rfl, Nat.zero_le _, rfl, rfl, rfl, NMine.nil _ _, Ext.refl _⟩
  case round =>
    obtain ⟨i, cy, out, hov, hg, hcy, hiV, rfl, rfl, hm, hx⟩ := hrel
    have hVl : V.length ≤ 65540 := by have := HLEN.out; omega
    have HM := Lib.hid hm
    have HX := Lib.hid hx
    obtain ⟨B5, c5, rfl, hc5, _⟩ := hm.slice
    have hol : out.length + gk = V.length := by rw [← hov, List.length_append, hg]
    have hs := hx.size
    obtain ⟨lo, hlo⟩ : ∃ lo, out.length = lo := ⟨_, rfl⟩
    have HLO := Lib.hid hlo
    rw [hlo] at hol HM hc5 hiV ⊢
    have hiV2 := hiV.symm
    clear hiV
    subst hiV2
    clear hm hx hlo
    by_cases hi : i < L
    · have d1 : decide ((i : Int) < (L : Int)) = true := decide_eq_true (by omega)
      have hiI : (i : Int) < (L : Int) := by omega
      have hcell := (HX.out.below.cell (p := ⟨b, o + i, none⟩) (block_lt_of_cell (HR.out i hi))).trans (HR.out i hi)
      have hd16 : co l i < 65536 := HD.out.at i
      rw [drop_co l i (by rw [HL.out]; exact hi), tms_cons] at hov hg
      obtain ⟨dd, hdd⟩ : ∃ dd, co l i = dd := ⟨_, rfl⟩
      rw [hdd] at hcell hd16 hov hg
      obtain ⟨x1, hx1⟩ : ∃ x, dd * n = x := ⟨_, rfl⟩
      have hx1b : x1 ≤ 65535 * n := by rw [← hx1]; exact Nat.mul_le_mul_right _ (by omega)
      rw [hx1] at hov hg
      obtain ⟨x, hx⟩ : ∃ x, cy + x1 = x := ⟨_, rfl⟩
      rw [hx] at hov hg
      have e1 : (dd : Int) * (n : Int) = (x1 : Int) := by rw [← hx1]; exact (Int.natCast_mul dd n).symm
      have e2 : (cy : Int) + (x1 : Int) = (x : Int) := by omega
      obtain ⟨y, hy⟩ : ∃ y, x % 65536 = y := ⟨_, rfl⟩
      obtain ⟨z, hz⟩ : ∃ z, x / 65536 = z := ⟨_, rfl⟩
      rw [hy, hz] at hov hg
      have e3 : (x : Int) % 65536 = (y : Int) := by omega
      have e4 : (x : Int) / 65536 = (z : Int) := by omega
      have hzn : z ≤ n := by omega
      have hxb : x < 18446744073709551616 := by omega
      have hx1b2 : x1 < 18446744073709551616 := by omega
      have hyb : y < 65536 := by omega
      cases gk with
      | zero => rw [List.length_cons] at hg; omega
      | succ g =>
        have HOV := Lib.hid (show (out ++ [y]) ++ tms n z (l.drop (i + 1)) = V from by rw [List.append_assoc]; exact hov)
        have HG := Lib.hid (show (tms n z (l.drop (i + 1))).length = g from by rw [List.length_cons] at hg; omega)
        clear hov hg hdd hx1 hx hy hz
        go_wp2_with (at_builtin; refine wpList_append_nums nt64 rfl (.tmp 32) (.tmp 35) rfl w.heap.size (.slice B5 i c5) out [y] rfl (HM.out.ext ((Ext.refl _).alloc _)) wr.heap.size 0 1 1 rfl rfl one_num (by rw [HLO.out]; simp; omega) (by simp; omega) ?_; intro v7 w7 hown7 hg7 hat7; have HX7 := Lib.hid ((HX.out.alloc (.cells #[.int .u64 (y : Int)] 46)).more hg7 (fun q hq => (HM.out.block q hq).1)); have HM7 := Lib.hid hown7; clear hown7 hg7 hat7)
        go_roundg g
        case measure => omega
        case rel => exact ⟨i + 1, z, out ++ [y], HOV.out, HG.out, hzn, by rw [List.length_append, HLO.out]; rfl, by go_num, rfl, HM7.out, HX7.out⟩
    · have d1 : decide ((i : Int) < (L : Int)) = false := decide_eq_false (by omega)
      rw [List.drop_eq_nil_of_le (by rw [HL.out]; omega)] at hov hg
      by_cases h0 : cy = 0
      · subst h0
        rw [tms_zero, List.append_nil] at hov
        subst hov
        go_wp2
        go_ret
        exact ⟨_, rfl, HM.out, HX.out⟩
      · have d2 : decide (0 < (cy : Int)) = true := decide_eq_true (by omega)
        have d3 : decide (0 < cy) = true := decide_eq_true (by omega)
        rw [tms_more n cy h0] at hov hg
        obtain ⟨y, hy⟩ : ∃ y, cy % 65536 = y := ⟨_, rfl⟩
        obtain ⟨z, hz⟩ : ∃ z, cy / 65536 = z := ⟨_, rfl⟩
        rw [hy, hz] at hov hg
        have e3 : (cy : Int) % 65536 = (y : Int) := by omega
        have e4 : (cy : Int) / 65536 = (z : Int) := by omega
        have hzn : z ≤ n := by omega
        have hyb : y < 65536 := by omega
        cases gk with
        | zero => rw [List.length_cons] at hg; omega
        | succ g =>
          have HOV := Lib.hid (show (out ++ [y]) ++ tms n z (l.drop (i + 1)) = V from by rw [List.append_assoc, List.drop_eq_nil_of_le (by rw [HL.out]; omega)]; exact hov)
          have HG := Lib.hid (show (tms n z (l.drop (i + 1))).length = g from by rw [List.drop_eq_nil_of_le (by rw [HL.out]; omega)]; rw [List.length_cons] at hg; omega)
          clear hov hg hy hz
          go_wp2_with (at_builtin; refine wpList_append_nums nt64 rfl (.tmp 32) (.tmp 35) rfl w.heap.size (.slice B5 i c5) out [y] rfl (HM.out.ext ((Ext.refl _).alloc _)) wr.heap.size 0 1 1 rfl rfl one_num (by rw [HLO.out]; simp; omega) (by simp; omega) ?_; intro v7 w7 hown7 hg7 hat7; have HX7 := Lib.hid ((HX.out.alloc (.cells #[.int .u64 (y : Int)] 46)).more hg7 (fun q hq => (HM.out.block q hq).1)); have HM7 := Lib.hid hown7; clear hown7 hg7 hat7)
          go_roundg g
          case measure => omega
          case rel => exact ⟨i + 1, z, out ++ [y], HOV.out, HG.out, hzn, by rw [List.length_append, HLO.out]; rfl, by go_num, rfl, HM7.out, HX7.out⟩
end Go.Proofs.YtfhmafncpodlbaaDoor

/-
  What the document's own above of layer 10 does. Conditions: no more than three factors, below 2^40.
-/
namespace Go.Proofs.YtfhmafncpodlbaaDoor
open Go.RowKit
open Pol (co Sm)

/-- No block of one is the other's. -/
def NSp (u v : Value) : Prop := ∀ q, u.ownBlock = some q → v.ownBlock ≠ some q
theorem NSp.left {u u' v : Value} {n : Nat} (h : NSp u v) (ha : u'.ownBlock = u.ownBlock ∨ u'.ownBlock = some n) (hv : ∀ q, v.ownBlock = some q → q < n) : NSp u' v := fun q hq => by
  rcases ha with e | e
  · exact h q (e.symm.trans hq)
  · intro hv'
    rw [e] at hq
    injection hq with hq
    have := hv q hv'
    omega
theorem NSp.symm {u v : Value} (h : NSp u v) : NSp v u := fun q hq hu => h q hu hq
theorem prd_snoc : ∀ (l p : List Nat) (x : Nat), prd p (l ++ [x]) = tms x 0 (prd p l)
  | [], _, _ => rfl
  | f :: l, p, x => prd_snoc l (tms f 0 p) x
theorem tms_ne (n c : Nat) : ∀ l : List Nat, l ≠ [] → tms n c l ≠ []
  | [], h => absurd rfl h
  | d :: l, _ => by rw [tms_cons]; simp
theorem prd_ne : ∀ (fs p : List Nat), p ≠ [] → prd p fs ≠ []
  | [], _, h => h
  | f :: fs, p, h => prd_ne fs (tms f 0 p) (tms_ne f 0 p h)
theorem take_snoc (l : List Nat) (i : Nat) (h : i < l.length) : l.take (i + 1) = l.take i ++ [co l i] := by
  rw [List.take_succ_eq_append_getElem h, show co l i = l[i] from by simp [co, List.getElem?_eq_getElem h]]
theorem zs_succ (n : Nat) : zs (n + 1) = zs n ++ [0] := by unfold zs; rw [List.replicate_succ']
theorem zs_len (n : Nat) : (zs n).length = n := by simp [zs]
/-- A slice of the call's own that has an element shows where it lies. -/
theorem NMine.filled {T : TypeId} {k : IntKind} {w : World} {base : Nat} {v : Value} {l : List Nat} (h : NMine T k w base v l) (hl : l ≠ []) : ∃ g c, v = .slice (some ⟨g, 0, none⟩) l.length c ∧ l.length ≤ c ∧ base ≤ g ∧ g < w.heap.size ∧ ∀ i, i < l.length → w.cell? ⟨g, 0 + i, none⟩ = some (.int k ((co l i : Nat) : Int)) := by
  have hb := h.block
  obtain ⟨B, c, rfl, hc, hr⟩ := h.slice
  obtain ⟨b, o, rfl, hcell⟩ := hr 0 (List.length_pos_iff.2 hl)
  rcases h.2 with ⟨e, _⟩ | ⟨g, cap, cur, e, hg, _⟩
  · cases e
  · injection e with e1 _ _
    injection e1 with e1
    injection e1 with e1 e2
    subst e1; subst e2
    refine ⟨b, c, rfl, hc, (hb b rfl).1, (hb b rfl).2, fun i hi => ?_⟩
    obtain ⟨b', o', e', hc'⟩ := hr i hi
    injection e' with e'
    injection e' with e1 e2
    subst e1; subst e2
    exact hc'

set_option maxHeartbeats 1600000 in
set_option maxRecDepth 100000 in
theorem ref10_above (fs : List Nat) (p m : Nat) (b o c : Nat) (w : World) (hr : ∀ i, i < fs.length → w.cell? ⟨b, o + i, none⟩ = some (.int .u64 ((co fs i : Nat) : Int))) (hf : ∀ f ∈ fs, f < 1099511627776) (hfl : fs.length ≤ 3) (hp : p < 65536) (hm : m ≤ 3) :
    Calls Tryd.prog 32 #[.slice (some ⟨b, o, none⟩) fs.length c, .int .u64 (p : Int), .int .i64 (m : Int)] w (Tells (.bool (decide (p * 65536 ^ (2 * m) < fs.foldl (· * ·) 1))) w) := by
  have hpk := prd_ok fs [1] (fun f h => by have := hf f h; omega) (Dg.cons (by decide) Dg.nil)
  have HPK := Lib.hid hpk
  have HFI := Lib.hid (fun i (hi : i < fs.length) => show co fs i < 1099511627776 from by
    unfold co; rw [List.getElem?_eq_getElem hi]; exact hf _ (List.getElem_mem hi))
  have HTK := Lib.hid (fun i => prd_ok (fs.take i) [1] (fun f h => by have := hf f (List.mem_of_mem_take h); omega) (Dg.cons (by decide) Dg.nil))
  have HTS := Lib.hid (fun i (hi : i < fs.length) => show prd [1] (fs.take (i + 1)) = tms (co fs i) 0 (prd [1] (fs.take i)) from by rw [take_snoc fs i hi, prd_snoc])
  have HR := Lib.hid hr
  obtain ⟨F, hF⟩ : ∃ F, fs.length = F := ⟨_, rfl⟩
  have HF := Lib.hid hF
  have HFT := Lib.hid (show fs.take F = fs from by rw [← hF, List.take_length])
  rw [hF] at HFI HTS HR hfl ⊢
  obtain ⟨ans, hans⟩ : ∃ ans, decide (p * 65536 ^ (2 * m) < fs.foldl (· * ·) 1) = ans := ⟨_, rfl⟩
  have HANS := Lib.hid hans
  rw [hans]
  have HCN := Lib.hid (fun W => nmine_lit (k := .u64) (T := 46) W [1] (by decide))
  have HCP := Lib.hid (fun W => nmine_lit (k := .u64) (T := 46) W [p] (by simp))
  have HCZ := Lib.hid (fun W => nmine_lit (k := .u64) (T := 46) W [0] (by decide))
  clear hr hf hpk hF hans
  go_enter Tryd.func32, Tryd.ntmps32
  go_wp2
  go_loopg [7, 15] F (fun g s7 s15 wx => ∃ i : Nat, i + g = F ∧ s15 = .int .i64 (i : Int) ∧ NMine 46 .u64 wx w.heap.size s7 (prd [1] (fs.take i)) ∧ Ext w wx)
  case atStart => exact ⟨0, by omega, rfl, (HCN.out w), (Ext.refl w).alloc _⟩
  case round =>
    obtain ⟨i, hig, rfl, hmn, hx⟩ := hrel
    have HM := Lib.hid hmn
    have HX := Lib.hid hx
    cases gk with
    | zero =>
      obtain rfl : i = F := by omega
      rw [HFT.out] at HM
      obtain ⟨A, hA⟩ : ∃ A, prd [1] fs = A := ⟨_, rfl⟩
      rw [hA] at HM HPK
      have hAl : A.length ≤ 10 := by have h := HPK.out.2.2; rw [HF.out] at h; simp at h; omega
      have hAne : A ≠ [] := by rw [← hA]; exact prd_ne fs [1] (by simp)
      obtain ⟨g7, c7, rfl, hc7, hg7, hg7s, _⟩ := HM.out.filled hAne
      obtain ⟨La, hLa⟩ : ∃ La, A.length = La := ⟨_, rfl⟩
      have HLA := Lib.hid hLa
      rw [hLa] at HM hc7 hAl ⊢
      have e2m : 2 * (m : Int) = ((2 * m : Nat) : Int) := by omega
      obtain ⟨M, hM⟩ : ∃ M, 2 * m = M := ⟨_, rfl⟩
      have e2 : 2 * (m : Int) = (M : Int) := by omega
      have HMM := Lib.hid hM
      have hM6 : M ≤ 6 := by omega
      have HWS := Lib.hid hx.size
      have hAnz := hAne
      clear hig hmn hx hA hLa e2m hM hAne
      go_wp2
      obtain ⟨w1, hw1⟩ : ∃ q, q = wr := ⟨_, rfl⟩
      subst hw1
      go_loopg [9, 10] M (fun g s9 s10 wx => ∃ j : Nat, j + g = M ∧ s10 = .int .i64 (j : Int) ∧ NMine 46 .u64 wx w1.heap.size s9 (zs j ++ [p]) ∧ Ext w1 wx)
      case atStart => exact ⟨0, by omega, rfl, (HCP.out w1), (Ext.refl w1).alloc _⟩
      case round =>
        obtain ⟨j, hjg, rfl, hmn, hx⟩ := hrel
        have HM2 := Lib.hid hmn
        have HX2 := Lib.hid hx
        obtain ⟨g9, c9, rfl, hc9, hg9, hg9s, hcell9⟩ := hmn.filled (by simp)
        have hl9 : (zs j ++ [p]).length = j + 1 := by rw [List.length_append, zs_len]; rfl
        obtain ⟨L9, hL9⟩ : ∃ L9, (zs j ++ [p]).length = L9 := ⟨_, rfl⟩
        have HL9 := Lib.hid hL9
        have HC9 := Lib.hid hcell9
        have hs1 := hx.size
        have hws := HWS.out
        rw [hL9] at hc9 hl9 HM2 HC9 ⊢
        have HL9E := Lib.hid hl9
        have hL98 : L9 ≤ 7 := by omega
        clear hmn hx hcell9 hL9 hl9
        cases gk with
        | zero =>
          obtain rfl : j = M := by omega
          clear hjg
          have d1 : decide ((j : Int) < (j : Int)) = false := decide_eq_false (by omega)
          have HSP := Lib.hid (show NSp (.slice (some ⟨g7, 0, none⟩) La c7) (.slice (some ⟨g9, 0, none⟩) L9 c9) from fun q hq => by
            intro e
            have e1 : g7 = q := Option.some.inj hq
            have e2 : g9 = q := Option.some.inj e
            omega)
          have HM7 := Lib.hid (HM.out.ext HX2.out)
          have HX7 := Lib.hid (HX.out.trans HX2.out)
          go_wp2
          go_loopg [7] (L9 - La) (fun g s7 wx => ∃ x : Nat, L9 - (La + x) = g ∧ NMine 46 .u64 wx w.heap.size s7 (A ++ zs x) ∧ NMine 46 .u64 wx w1.heap.size (.slice (some ⟨g9, 0, none⟩) L9 c9) (zs j ++ [p]) ∧ NSp s7 (.slice (some ⟨g9, 0, none⟩) L9 c9) ∧ x ≤ 10 ∧ Ext w wx)
          case atStart => exact ⟨0, by omega, by rw [show zs 0 = [] from rfl, List.append_nil]; exact HM7.out, HM2.out, HSP.out, by omega, HX7.out⟩
          case round =>
            obtain ⟨x, hxg, hmp, hmw, hsp, hx10, hx⟩ := hrel
            have HMP := Lib.hid hmp
            have HMW := Lib.hid hmw
            have HSPX := Lib.hid hsp
            have HXX := Lib.hid hx
            have hwb := (hmw.block g9 rfl).2
            have hsz := hx.size
            have hAx : A ++ zs x ≠ [] := by
              intro e
              have := congrArg List.length e
              rw [List.length_append, HLA.out] at this
              have hA0 : 0 < La := by
                rcases Nat.eq_zero_or_pos La with h | h
                · exfalso
                  have hA0 : A = [] := List.eq_nil_of_length_eq_zero (HLA.out.trans h)
                  exact hAnz hA0
                · exact h
              simp at this
              omega
            obtain ⟨ga, ca, rfl, hca, hga, hgas, hcella⟩ := hmp.filled hAx
            have hlx : (A ++ zs x).length = La + x := by rw [List.length_append, zs_len, HLA.out]
            obtain ⟨Lx, hLx⟩ : ∃ Lx, (A ++ zs x).length = Lx := ⟨_, rfl⟩
            have HLX := Lib.hid hLx
            rw [hLx] at hlx hca HMP HSPX ⊢
            have HLXE := Lib.hid hlx
            have hLx20 : Lx ≤ 20 := by omega
            clear hmp hmw hsp hx hLx hAx hlx
            by_cases hlt : Lx < L9
            · have t1 : decide ((Lx : Int) < (L9 : Int)) = true := decide_eq_true (by omega)
              go_wp2_with (at_builtin; refine wpList_append_nums nt64 rfl (.tmp 41) (.tmp 42) rfl w.heap.size (.slice (some ⟨ga, 0, none⟩) Lx ca) (A ++ zs x) [0] rfl (HMP.out.ext ((Ext.refl wr).alloc _)) wr.heap.size 0 1 1 rfl rfl one_num (by rw [HLX.out]; simp; omega) (by simp; omega) ?_; intro v7 w7 hown7 hgg7 hat7; rw [List.append_assoc, ← zs_succ] at hown7; have HX8 := Lib.hid ((HXX.out.alloc (.cells #[.int .u64 0] 46)).more hgg7 (fun q hq => (HMP.out.block q hq).1)); have HM8 := Lib.hid hown7; have HW8 := Lib.hid ((HMW.out.ext ((Ext.refl wr).alloc (.cells #[.int .u64 0] 46))).keep hgg7 (fun q hq e => HSPX.out q e.symm hq)); have HS8 := Lib.hid (HSPX.out.left hat7 (fun q hq => by have h := (HMW.out.block q hq).2; simp; omega)); clear hown7 hgg7 hat7)
              go_roundg (L9 - (La + (x + 1)))
              case measure => have := HLXE.out; omega
              case rel => exact ⟨x + 1, rfl, HM8.out, HW8.out, HS8.out, by have := HLXE.out; omega, HX8.out⟩
            · have t1 : decide ((Lx : Int) < (L9 : Int)) = false := decide_eq_false (by omega)
              clear hxg
              obtain ⟨PL, hPL⟩ : ∃ PL, A ++ zs x = PL := ⟨_, rfl⟩
              have HPL := Lib.hid (show Dg PL ∧ dv PL = fs.foldl (· * ·) 1 from by
                rw [← hPL]
                refine ⟨HPK.out.2.1.app (dg_zs x), ?_⟩
                rw [dv_pad, HPK.out.1]
                simp [dv])
              obtain ⟨WL, hWL⟩ : ∃ WL, zs j ++ [p] = WL := ⟨_, rfl⟩
              have HWL := Lib.hid (show Dg WL ∧ dv WL = p * 65536 ^ (2 * m) from by
                rw [← hWL]
                exact ⟨(dg_zs j).app (Dg.cons hp Dg.nil), by rw [dv_lead, HMM.out]⟩)
              rw [hPL] at HMP HLX
              rw [hWL] at HMW HL9
              have hw1s : w.heap.size ≤ w1.heap.size := hws
              clear hPL hWL hca hga
              go_wp2
              go_loopg [9] (Lx - L9) (fun g s9 wx => ∃ y : Nat, Lx - (L9 + y) = g ∧ NMine 46 .u64 wx w1.heap.size s9 (WL ++ zs y) ∧ NMine 46 .u64 wx w.heap.size (.slice (some ⟨ga, 0, none⟩) Lx ca) PL ∧ NSp s9 (.slice (some ⟨ga, 0, none⟩) Lx ca) ∧ L9 + y ≤ Lx ∧ Ext w wx)
              case atStart => exact ⟨0, by omega, by rw [show zs 0 = [] from rfl, List.append_nil]; exact HMW.out, HMP.out, HSPX.out.symm, by omega, HXX.out⟩
              case round =>
                obtain ⟨y, hyg, hmw, hmp, hsp, hyl, hx⟩ := hrel
                have HMP2 := Lib.hid hmp
                have HMW2 := Lib.hid hmw
                have HSP2 := Lib.hid hsp
                have HX2' := Lib.hid hx
                have hsz2 := hx.size
                have hgab := (hmp.block ga rfl).2
                have hlw : (WL ++ zs y).length = L9 + y := by rw [List.length_append, zs_len, HL9.out]
                have hWne : WL ++ zs y ≠ [] := by
                  intro e
                  have h0 := congrArg List.length e
                  rw [hlw] at h0
                  have := HL9E.out
                  simp at h0
                  omega
                obtain ⟨gw, cw, rfl, hcw, hgw, hgws, hcellw⟩ := hmw.filled hWne
                have HCW := Lib.hid hcellw
                obtain ⟨Lw, hLw⟩ : ∃ Lw, (WL ++ zs y).length = Lw := ⟨_, rfl⟩
                have HLW := Lib.hid hLw
                have HLWE := Lib.hid (hLw.symm.trans hlw)
                rw [hLw] at hcw HMW2 HSP2 HCW ⊢
                have hLw20 : Lw ≤ Lx := by omega
                clear hmw hmp hsp hx hlw hWne hcellw hLw
                by_cases hlt2 : Lw < Lx
                · have t2 : decide ((Lw : Int) < (Lx : Int)) = true := decide_eq_true (by omega)
                  go_wp2_with (at_builtin; refine wpList_append_nums nt64 rfl (.tmp 49) (.tmp 50) rfl w1.heap.size (.slice (some ⟨gw, 0, none⟩) Lw cw) (WL ++ zs y) [0] rfl (HMW2.out.ext ((Ext.refl wr).alloc _)) wr.heap.size 0 1 1 rfl rfl one_num (by rw [HLW.out]; simp; omega) (by simp; omega) ?_; intro v7 w7 hown7 hgg7 hat7; rw [List.append_assoc, ← zs_succ] at hown7; have HX8 := Lib.hid ((HX2'.out.alloc (.cells #[.int .u64 0] 46)).more hgg7 (fun q hq => Nat.le_trans hw1s (HMW2.out.block q hq).1)); have HM8 := Lib.hid hown7; have HW8 := Lib.hid ((HMP2.out.ext ((Ext.refl wr).alloc (.cells #[.int .u64 0] 46))).keep hgg7 (fun q hq e => HSP2.out q e.symm hq)); have HS8 := Lib.hid (HSP2.out.left hat7 (fun q hq => by have h := (HMP2.out.block q hq).2; simp; omega)); clear hown7 hgg7 hat7)
                  go_roundg (Lx - (L9 + (y + 1)))
                  case measure => have := HLWE.out; omega
                  case rel => exact ⟨y + 1, rfl, HM8.out, HW8.out, HS8.out, by have := HLWE.out; omega, HX8.out⟩
                · have t2 : decide ((Lw : Int) < (Lx : Int)) = false := decide_eq_false (by omega)
                  obtain rfl : Lw = Lx := by omega
                  clear hyg hyl
                  obtain ⟨Q, hQ⟩ : ∃ Q, WL ++ zs y = Q := ⟨_, rfl⟩
                  have HQ := Lib.hid (show Dg Q ∧ dv Q = p * 65536 ^ (2 * m) from by
                    rw [← hQ, dv_pad]
                    exact ⟨HWL.out.1.app (dg_zs y), HWL.out.2⟩)
                  rw [hQ] at HLW HCW
                  obtain ⟨_, _, eP, _, _, _, hcellp⟩ := HMP2.out.filled (by
                    intro e
                    have h := HLX.out
                    rw [e] at h
                    have := HL9E.out
                    have := HLWE.out
                    simp at h
                    omega)
                  injection eP with eP1 eP2 eP3
                  clear eP2 eP3
                  injection eP1 with eP1
                  injection eP1 with eP1 eP2
                  clear eP2
                  subst eP1
                  rw [HLX.out] at hcellp
                  have HCP := Lib.hid hcellp
                  have HEQ := Lib.hid (show PL.length = Q.length from by rw [HLX.out, HLW.out])
                  clear hQ hcellp
                  go_wp2
                  obtain ⟨w4, hw4⟩ : ∃ q, q = wr := ⟨_, rfl⟩
                  subst hw4
                  go_loopg [11] Lw (fun g s11 wx => ∃ q : Nat, g ≤ Lw ∧ s11 = .int .i64 ((g : Int) - 1) ∧ (∀ i, g ≤ i → i < Lw → co PL i = co Q i) ∧ wx = w4.drewN q)
                  case atStart => exact ⟨0, Nat.le_refl _, rfl, fun i h1 h2 => by omega, rfl⟩
                  case round =>
                    obtain ⟨q, hgl, rfl, hsame, rfl⟩ := hrel
                    have HSA := Lib.hid hsame
                    clear hsame
                    cases gk with
                    | zero =>
                      have hA : false = ans := by
                        rw [← HANS.out]
                        symm
                        apply decide_eq_false
                        rw [← HQ.out.2, ← HPL.out.2, list_same PL Q HEQ.out (fun i hi => HSA.out i (Nat.zero_le _) (by rw [← HLX.out]; exact hi))]
                        omega
                      have HXF := Lib.hid (HX2'.out.drewN q)
                      subst hA
                      go_wp2
                      go_ret
                      exact ⟨rfl, HXF.out⟩
                    | succ g =>
                      have hgI : (g : Int) < (Lw : Int) := by omega
                      have eg : ((g + 1 : Nat) : Int) - 1 = (g : Int) := by omega
                      rw [eg]
                      have hc1 := HCP.out g (by omega)
                      have hc2 := HCW.out g (by omega)
                      rw [Nat.zero_add] at hc1 hc2
                      have d1 : decide ((0 : Int) ≤ (g : Int)) = true := decide_eq_true (by omega)
                      have HCMP := Lib.hid (fun h => dv_cmp PL Q HPL.out.1 HQ.out.1 HEQ.out g (by rw [HLX.out]; omega) (fun i h1 h2 => HSA.out i (by omega) (by rw [← HLX.out]; exact h2)) h)
                      obtain ⟨a1, ha1⟩ : ∃ a, co PL g = a := ⟨_, rfl⟩
                      obtain ⟨a2, ha2⟩ : ∃ a, co Q g = a := ⟨_, rfl⟩
                      have HA1 := Lib.hid ha1
                      have HA2 := Lib.hid ha2
                      rw [ha1] at hc1
                      rw [ha2] at hc2
                      rw [ha1, ha2] at HCMP
                      clear ha1 ha2 eg
                      by_cases haa : a1 = a2
                      · subst haa
                        have d2 : ((a1 : Int) != (a1 : Int)) = false := by simp
                        go_wp2
                        go_quiet (fail)
                        go_wp2
                        go_roundg g
                        case measure => omega
                        case rel => exact ⟨_, by omega, by go_num, fun i h1 h2 => (by
                          by_cases e : i = g
                          · rw [e, HA1.out, HA2.out]
                          · exact HSA.out i (by omega) h2), rfl⟩
                      · have d2 : ((a1 : Int) != (a2 : Int)) = true := by simp; omega
                        have d3 : decide (a1 = a2) = false := decide_eq_false haa
                        have d4 : ((a1 : Int) == (a2 : Int)) = false := by simp; omega
                        have hA : decide ((a2 : Int) < (a1 : Int)) = ans := by
                          rw [← HANS.out, ← HQ.out.2, ← HPL.out.2]
                          rw [decide_eq_decide]
                          rw [HCMP.out haa]
                          omega
                        by_cases hlt3 : (a2 : Int) < (a1 : Int)
                        · have d5 : decide ((a2 : Int) < (a1 : Int)) = true := decide_eq_true hlt3
                          have d6 : decide (a2 < a1) = true := decide_eq_true (by omega)
                          rw [d5] at hA
                          subst hA
                          go_wp2
                          go_quiet (fail)
                          go_wp2
                          go_quiet (fail)
                          go_wp2
                          go_ret
                          exact ⟨rfl, (((HX2'.out.drewN _).drewN _).drewN _)⟩
                        · have d5 : decide ((a2 : Int) < (a1 : Int)) = false := decide_eq_false hlt3
                          have d6 : decide (a2 < a1) = false := decide_eq_false (by omega)
                          rw [d5] at hA
                          subst hA
                          go_wp2
                          go_quiet (fail)
                          go_wp2
                          go_quiet (fail)
                          go_wp2
                          go_ret
                          exact ⟨rfl, (((HX2'.out.drewN _).drewN _).drewN _)⟩
        | succ g =>
          have d1 : decide ((j : Int) < (M : Int)) = true := decide_eq_true (by omega)
          have hjI : (j : Int) < (M : Int) := by omega
          have HZ := Lib.hid (show [0] ++ (zs j ++ [p]) = zs (j + 1) ++ [p] from rfl)
          go_wp2_with (at_builtin; refine wpList_append_nums nt64 rfl (.tmp 33) (.tmp 34) rfl wr.heap.size (.slice (some ⟨wr.heap.size, 0, none⟩) 1 1) [0] (zs j ++ [p]) rfl (HCZ.out wr) g9 0 L9 c9 rfl HL9.out (fun q hq => (((Ext.refl wr).alloc _).below.cell (p := ⟨g9, 0 + q, none⟩) (by show g9 < _; exact hg9s)).trans (HC9.out q (by rw [← HL9.out]; exact hq))) (by rw [HL9.out]; simp; omega) (by simp) ?_; intro v7 w7 hown7 hgg7 hat7; rw [HZ.out] at hown7; have HX7 := Lib.hid (HX2.out.trans (((Ext.refl wr).alloc (.cells #[.int .u64 0] 46)).more hgg7 (fun q hq => (by simp [Value.ownBlock] at hq; omega)))); have HM7 := Lib.hid (hown7.down hs1); clear hown7 hgg7 hat7)
          go_roundg g
          case measure => omega
          case rel => exact ⟨j + 1, by omega, by go_num, HM7.out, HX7.out⟩
    | succ g =>
      have hi : i < F := by omega
      have hiI : (i : Int) < (F : Int) := by omega
      have hcell := (hx.below.cell (p := ⟨b, o + i, none⟩) (block_lt_of_cell (HR.out i hi))).trans (HR.out i hi)
      have hne : prd [1] (fs.take i) ≠ [] := prd_ne _ [1] (by simp)
      obtain ⟨g7, c7, rfl, hc7, hg7, hg7s, hcell7⟩ := hmn.filled hne
      have hk := HTK.out i
      have hlen : (prd [1] (fs.take i)).length ≤ 10 := by
        have h := hk.2.2
        rw [List.length_take, HF.out] at h
        simp at h
        omega
      have HTI := Lib.hid (HTS.out i hi)
      have HTM := Lib.hid (ref10_times (prd [1] (fs.take i)) (co fs i) g7 0 c7 wr hcell7 (by omega) hk.2.1 (HFI.out i hi))
      have hfi := HFI.out i hi
      obtain ⟨f, hf⟩ : ∃ f, co fs i = f := ⟨_, rfl⟩
      rw [hf] at hcell HTI HTM hfi
      obtain ⟨Li, hLi⟩ : ∃ Li, (prd [1] (fs.take i)).length = Li := ⟨_, rfl⟩
      rw [hLi] at HTM ⊢
      clear hmn hx hcell7 hk hlen hf hLi hc7
      go_wp2_with fail
      refine HTM.out.mono ?_
      rintro e w2 ⟨v2, rfl, hm2, hx2⟩
      rw [← HTI.out] at hm2
      have HX2 := Lib.hid (HX.out.trans hx2)
      have HM2 := Lib.hid (hm2.down HX.out.size)
      clear hm2 hx2
      go_wp2
      go_roundg g
      case measure => omega
      case rel => exact ⟨i + 1, by omega, by go_num, HM2.out, HX2.out⟩
end Go.Proofs.YtfhmafncpodlbaaDoor

/-
  What the walk of layer 10's digest reckons: the constants one by one, the padding, the length's bytes. Conditions: none; no function is named here.
-/
namespace Go.Proofs.YtfhmafncpodlbaaDoor
open Go.RowKit
open Pol (co Sm)

theorem PR_len : PR.length = 64 := by decide
theorem PR_lt : ∀ i, co PR i < 65536 := fun i => by
  by_cases h : i < 64
  · have : ∀ i, i < 64 → co PR i < 65536 := by decide +kernel
    exact this i h
  · rw [Pol.co_out PR i (by rw [PR_len]; omega)]; omega
theorem co_map (f : Nat → Nat) (l : List Nat) (i : Nat) (h : i < l.length) : co (l.map f) i = f (co l i) := by
  unfold co
  rw [List.getElem?_map, List.getElem?_eq_getElem h]
  rfl
theorem map_snoc (f : Nat → Nat) (l : List Nat) (i : Nat) (h : i < l.length) : (l.map f).take (i + 1) = (l.map f).take i ++ [f (co l i)] := by
  rw [take_snoc _ i (by rw [List.length_map]; exact h), co_map f l i h]
theorem co_take (l : List Nat) (m i : Nat) (h : i < m) : co (l.take m) i = co l i := by
  unfold co
  rw [List.getElem?_take, if_pos h]
/-- The constants, one more. -/
theorem HH_snoc (i : Nat) (h : i < 8) : HH.take (i + 1) = HH.take i ++ [rtx 2 (co PR i) 37 0 % 4294967296] := by
  have e := map_snoc (fun p => rtx 2 p 37 0 % 4294967296) (PR.take 8) i (by rw [List.length_take, PR_len]; omega)
  rw [co_take PR 8 i h] at e
  exact e
theorem KK_snoc (i : Nat) (h : i < 64) : KK.take (i + 1) = KK.take i ++ [rtx 3 (co PR i) 37 0 % 4294967296] :=
  map_snoc (fun p => rtx 3 p 37 0 % 4294967296) PR i (by rw [PR_len]; exact h)
theorem HH_len : HH.length = 8 := by unfold HH; rw [List.length_map, List.length_take, PR_len]; rfl
theorem KK_len : KK.length = 64 := by unfold KK; rw [List.length_map, PR_len]

theorem padz_stop (n j : Nat) (h : j ≤ padz n) : (n + 1 + j) % 64 = 56 ↔ j = padz n := by
  unfold padz at h ⊢
  omega

theorem len8_at (n j v : Nat) (h : 8 * j + v = 56) : (n : Int) * 8 / 2 ^ min (IntKind.u64.wrap (v : Int)).toNat 64 % 256 = ((len8 n j : Nat) : Int) := by
  have e : v = 8 * (7 - j) := by omega
  have ew : (IntKind.u64.wrap (v : Int)).toNat = v := by rw [IntKind.wrap_u64]; omega
  have em : min v 64 = v := by omega
  rw [ew, em, e]
  unfold len8
  have ep : (2 : Nat) ^ (8 * (7 - j)) = 256 ^ (7 - j) := by rw [Nat.pow_mul]
  have ep' : (2 : Int) ^ (8 * (7 - j)) = ((256 ^ (7 - j) : Nat) : Int) := by rw [← ep]; simp
  rw [ep', Int.mul_comm]
  simp
end Go.Proofs.YtfhmafncpodlbaaDoor

/-
  Numbers of one kind in a block of a call's own, that are changed one by one; what stays while other blocks are written. Conditions: none.
-/
namespace Go.Proofs.YtfhmafncpodlbaaDoor
open Go.RowKit
open Pol (co Sm)

section
variable {k : IntKind}
/-- The first n cells of block g are the numbers F of kind k, and may be written. -/
def NCells (k : IntKind) (w : World) (g n : Nat) (F : Nat → Nat) : Prop := ∀ i, i < n → w.cell? ⟨g, i, none⟩ = some (.int k ((F i : Nat) : Int)) ∧ w.frozen? ⟨g, i, none⟩ = false
theorem NCells.drewN {w : World} {g n : Nat} {F : Nat → Nat} (h : NCells k w g n F) (q : Nat) : NCells k (w.drewN q) g n F := h
theorem NCells.congr {w : World} {g n : Nat} {F F' : Nat → Nat} (h : NCells k w g n F) (hf : ∀ i, i < n → F i = F' i) : NCells k w g n F' := fun i hi => ⟨by rw [(h i hi).1, hf i hi], (h i hi).2⟩
theorem NCells.store {w : World} {g n : Nat} {F : Nat → Nat} (h : NCells k w g n F) (j v : Nat) : NCells k (w.setCell ⟨g, j, none⟩ (.int k (v : Int))) g n (upd F j v) := fun i hi => by
  refine ⟨?_, by rw [World.frozen?_setCell]; exact (h i hi).2⟩
  unfold upd
  by_cases e : i = j
  · subst e
    rw [if_pos rfl]
    exact World.cell?_setCell_same' _ _ _ (by rw [(h i hi).1]; rfl)
  · rw [if_neg e, World.cell?_setCell_other _ _ _ _ (fun h => e (by cases h; rfl))]
    exact (h i hi).1
theorem NCells.keep {w w' : World} {g n : Nat} {F : Nat → Nat} {row : Option Nat} (h : NCells k w g n F) (hg : w.grownBy w' row) (hne : some g ≠ row) : NCells k w' g n F := fun i hi =>
  ⟨hg.cell (h i hi).1 hne, (World.frozen?_of_block (a := ⟨g, i, none⟩) (hg.block g (block_lt_of_cell (h i hi).1) hne)).trans (h i hi).2⟩
theorem NCells.ext {w w' : World} {g n : Nat} {F : Nat → Nat} (h : NCells k w g n F) (hx : Ext w w') : NCells k w' g n F := fun i hi =>
  ⟨(hx.below.cell (p := ⟨g, i, none⟩) (block_lt_of_cell (h i hi).1)).trans (h i hi).1, (hx.below.frozen (p := ⟨g, i, none⟩) (block_lt_of_cell (h i hi).1)).trans (h i hi).2⟩
theorem NRd.keep {w w' : World} {A : Option Addr} {l : List Nat} {row : Option Nat} (h : NRd k w A l) (hg : w.grownBy w' row) (hne : ∀ b o, A = some ⟨b, o, none⟩ → 0 < l.length → some b ≠ row) : NRd k w' A l := fun i hi => by
  obtain ⟨b, o, e, hc⟩ := h i hi
  exact ⟨b, o, e, hg.cell hc (hne b o e (by omega))⟩
theorem NMine.cells {T : TypeId} {w : World} {base : Nat} {v : Value} {l : List Nat} (hm : NMine T k w base v l) : ∃ A c g, v = .slice A l.length c ∧ l.length ≤ c ∧ (0 < l.length → A = some ⟨g, 0, none⟩ ∧ base ≤ g) ∧ NCells k w g l.length (co l) := by
  rcases hm.2 with ⟨rfl, hn⟩ | ⟨g, cap, cur, rfl, hb, hg, hnc, _, _, htake⟩
  · have : l = [] := List.eq_nil_of_length_eq_zero hn
    subst this
    exact ⟨none, 0, 0, rfl, Nat.le_refl _, fun h => absurd h (by simp), fun i hi => absurd hi (by simp)⟩
  · refine ⟨_, cap, g, rfl, hnc, fun _ => ⟨rfl, hb⟩, fun i hi => ⟨?_, frozen_of_row w g i cur _ hg⟩⟩
    rw [cell_of_row w g i cur _ _ hg, ← nv_at l i hi, ← htake, List.getElem?_take, if_pos (by omega)]
    simp
end
end Go.Proofs.YtfhmafncpodlbaaDoor

/-
  What the document's own square and cube of layer 10 do. Conditions: a number below 2^16.
-/
namespace Go.Proofs.YtfhmafncpodlbaaDoor
open Go.RowKit
open Pol (co Sm)

set_option maxHeartbeats 800000 in
set_option maxRecDepth 100000 in
theorem ref10_square (p : Nat) (w : World) (hp : p < 65536) :
    Calls Tryd.prog 23 #[.int .u64 (p : Int)] w (Tells (.int .u32 ((rtx 2 p 37 0 % 4294967296 : Nat) : Int)) w) := by
  have HAB := Lib.hid (fun (x : Nat) (ans : Bool) (W : World) (hx : x < 1099511627776) (ha : decide (p * 65536 ^ (2 * 2) < x ^ 2) = ans) => show Calls Tryd.prog 32 #[.slice (some ⟨W.heap.size, 0, none⟩) 2 2, .int .u64 (p : Int), .int .i64 2] (W.alloc (.cells (nv .u64 [x, x]).toArray 46)) (Tells (.bool ans) (W.alloc (.cells (nv .u64 [x, x]).toArray 46))) from by
    have h := ref10_above [x, x] p 2 W.heap.size 0 2 (W.alloc (.cells (nv .u64 [x, x]).toArray 46)) (fun i hi => by
      obtain ⟨b, o, e, hc⟩ := nrd_lit (k := .u64) (T := 46) W [x, x] i hi
      injection e with e
      injection e with e1 e2
      subst e1; subst e2
      exact hc) (fun f hf => by simp at hf; omega) (by simp) hp (by decide)
    rw [show [x, x].foldl (· * ·) 1 = x ^ 2 from by simp [Nat.pow_succ], ha] at h
    exact h)
  obtain ⟨R, hR⟩ : ∃ R, rtx 2 p 37 0 = R := ⟨_, rfl⟩
  have HRR := Lib.hid hR
  have hRb : R < 137438953472 := by rw [← hR]; have := rtx_lt 2 p 37 0; omega
  rw [hR]
  clear hR
  go_enter Tryd.func23, Tryd.ntmps23
  go_wp2
  go_loopg [3, 4] 37 (fun g s3 s4 wx => ∃ (r bit : Nat), s3 = .int .u64 (r : Int) ∧ s4 = .int .u64 (bit : Int) ∧ bit = 2 ^ g / 2 ∧ g ≤ 37 ∧ r + 2 ^ g ≤ 137438953472 ∧ rtx 2 p g r = R ∧ Ext w wx)
  case atStart => exact ⟨0, 68719476736, rfl, rfl, by decide, Nat.le_refl _, by decide, HRR.out, Ext.refl _⟩
  case round =>
    obtain ⟨r, bit, rfl, rfl, hbit, hg37, hrb, hrt, hx⟩ := hrel
    have HX := Lib.hid hx
    clear hx
    cases gk with
    | zero =>
      have hb0 : bit = 0 := by rw [hbit]
      subst hb0
      have hrr : r = R := hrt
      obtain ⟨y, hy⟩ : ∃ y, R % 4294967296 = y := ⟨_, rfl⟩
      have e1 : (R : Int) % 4294967296 = (y : Int) := by omega
      have e2 : IntKind.u32.wrap (y : Int) = (y : Int) := by rw [IntKind.wrap_u32]; omega
      have HY := Lib.hid hy
      clear hbit hrt hy
      subst hrr
      go_wp2
      go_ret
      exact ⟨ret_int (by rw [HY.out]), HX.out⟩
    | succ g =>
      have hbg : bit = 2 ^ g := by rw [hbit, Nat.pow_succ, Nat.mul_div_cancel _ (by decide)]
      have hbp : 0 < bit := by rw [hbg]; exact Nat.two_pow_pos g
      have d1 : decide ((0 : Int) < (bit : Int)) = true := decide_eq_true (by omega)
      have d2 : decide (0 < bit) = true := decide_eq_true hbp
      rw [Nat.pow_succ, ← hbg] at hrb
      rw [rtx, ← hbg] at hrt
      obtain ⟨x, hxx⟩ : ∃ x, r + bit = x := ⟨_, rfl⟩
      rw [hxx] at hrt
      have e1 : (r : Int) + (bit : Int) = (x : Int) := by omega
      obtain ⟨b2, hb2⟩ : ∃ b2, bit / 2 = b2 := ⟨_, rfl⟩
      have e2 : (bit : Int) / 2 = (b2 : Int) := by omega
      have HB2 := Lib.hid (show b2 = 2 ^ g / 2 by rw [← hb2, hbg])
      have HBG := Lib.hid hbg
      have hxb : x < 1099511627776 := by omega
      have hx64 : x < 18446744073709551616 := by omega
      by_cases hab : p * 65536 ^ (2 * 2) < x ^ 2
      · have HA := Lib.hid (HAB.out x true wr hxb (decide_eq_true hab))
        rw [if_pos hab] at hrt
        have HRT := Lib.hid hrt
        have HFIT := Lib.hid (show r + 2 ^ g ≤ 137438953472 by rw [← hbg]; omega)
        clear hab hrt hbit hbg hxx hb2
        go_wp2_with fail
        refine HA.out.mono ?_
        rintro e w1 ⟨rfl, hx1⟩
        have HX1 := Lib.hid ((HX.out.alloc _).trans hx1)
        clear hx1
        go_wp2
        go_roundg g
        case measure => omega
        case rel => exact ⟨r, b2, rfl, by go_num, HB2.out, by omega, HFIT.out, HRT.out, HX1.out⟩
      · have HA := Lib.hid (HAB.out x false wr hxb (decide_eq_false hab))
        rw [if_neg hab] at hrt
        have HRT := Lib.hid hrt
        have HFIT := Lib.hid (show x + 2 ^ g ≤ 137438953472 by rw [← hbg]; omega)
        clear hab hrt hbit hbg hxx hb2
        go_wp2_with fail
        refine HA.out.mono ?_
        rintro e w1 ⟨rfl, hx1⟩
        have HX1 := Lib.hid ((HX.out.alloc _).trans hx1)
        clear hx1
        go_wp2
        go_roundg g
        case measure => omega
        case rel => exact ⟨x, b2, rfl, by go_num, HB2.out, by omega, HFIT.out, HRT.out, HX1.out⟩

set_option maxHeartbeats 800000 in
set_option maxRecDepth 100000 in
theorem ref10_cube (p : Nat) (w : World) (hp : p < 65536) :
    Calls Tryd.prog 24 #[.int .u64 (p : Int)] w (Tells (.int .u32 ((rtx 3 p 37 0 % 4294967296 : Nat) : Int)) w) := by
  have HAB := Lib.hid (fun (x : Nat) (ans : Bool) (W : World) (hx : x < 1099511627776) (ha : decide (p * 65536 ^ (2 * 3) < x ^ 3) = ans) => show Calls Tryd.prog 32 #[.slice (some ⟨W.heap.size, 0, none⟩) 3 3, .int .u64 (p : Int), .int .i64 3] (W.alloc (.cells (nv .u64 [x, x, x]).toArray 46)) (Tells (.bool ans) (W.alloc (.cells (nv .u64 [x, x, x]).toArray 46))) from by
    have h := ref10_above [x, x, x] p 3 W.heap.size 0 3 (W.alloc (.cells (nv .u64 [x, x, x]).toArray 46)) (fun i hi => by
      obtain ⟨b, o, e, hc⟩ := nrd_lit (k := .u64) (T := 46) W [x, x, x] i hi
      injection e with e
      injection e with e1 e2
      subst e1; subst e2
      exact hc) (fun f hf => by simp at hf; omega) (by simp) hp (by decide)
    rw [show [x, x, x].foldl (· * ·) 1 = x ^ 3 from by simp [Nat.pow_succ], ha] at h
    exact h)
  obtain ⟨R, hR⟩ : ∃ R, rtx 3 p 37 0 = R := ⟨_, rfl⟩
  have HRR := Lib.hid hR
  have hRb : R < 137438953472 := by rw [← hR]; have := rtx_lt 3 p 37 0; omega
  rw [hR]
  clear hR
  go_enter Tryd.func24, Tryd.ntmps24
  go_wp2
  go_loopg [3, 4] 37 (fun g s3 s4 wx => ∃ (r bit : Nat), s3 = .int .u64 (r : Int) ∧ s4 = .int .u64 (bit : Int) ∧ bit = 2 ^ g / 2 ∧ g ≤ 37 ∧ r + 2 ^ g ≤ 137438953472 ∧ rtx 3 p g r = R ∧ Ext w wx)
  case atStart => exact ⟨0, 68719476736, rfl, rfl, by decide, Nat.le_refl _, by decide, HRR.out, Ext.refl _⟩
  case round =>
    obtain ⟨r, bit, rfl, rfl, hbit, hg37, hrb, hrt, hx⟩ := hrel
    have HX := Lib.hid hx
    clear hx
    cases gk with
    | zero =>
      have hb0 : bit = 0 := by rw [hbit]
      subst hb0
      have hrr : r = R := hrt
      obtain ⟨y, hy⟩ : ∃ y, R % 4294967296 = y := ⟨_, rfl⟩
      have e1 : (R : Int) % 4294967296 = (y : Int) := by omega
      have e2 : IntKind.u32.wrap (y : Int) = (y : Int) := by rw [IntKind.wrap_u32]; omega
      have HY := Lib.hid hy
      clear hbit hrt hy
      subst hrr
      go_wp2
      go_ret
      exact ⟨ret_int (by rw [HY.out]), HX.out⟩
    | succ g =>
      have hbg : bit = 2 ^ g := by rw [hbit, Nat.pow_succ, Nat.mul_div_cancel _ (by decide)]
      have hbp : 0 < bit := by rw [hbg]; exact Nat.two_pow_pos g
      have d1 : decide ((0 : Int) < (bit : Int)) = true := decide_eq_true (by omega)
      have d2 : decide (0 < bit) = true := decide_eq_true hbp
      rw [Nat.pow_succ, ← hbg] at hrb
      rw [rtx, ← hbg] at hrt
      obtain ⟨x, hxx⟩ : ∃ x, r + bit = x := ⟨_, rfl⟩
      rw [hxx] at hrt
      have e1 : (r : Int) + (bit : Int) = (x : Int) := by omega
      obtain ⟨b2, hb2⟩ : ∃ b2, bit / 2 = b2 := ⟨_, rfl⟩
      have e2 : (bit : Int) / 2 = (b2 : Int) := by omega
      have HB2 := Lib.hid (show b2 = 2 ^ g / 2 by rw [← hb2, hbg])
      have HBG := Lib.hid hbg
      have hxb : x < 1099511627776 := by omega
      have hx64 : x < 18446744073709551616 := by omega
      by_cases hab : p * 65536 ^ (2 * 3) < x ^ 3
      · have HA := Lib.hid (HAB.out x true wr hxb (decide_eq_true hab))
        rw [if_pos hab] at hrt
        have HRT := Lib.hid hrt
        have HFIT := Lib.hid (show r + 2 ^ g ≤ 137438953472 by rw [← hbg]; omega)
        clear hab hrt hbit hbg hxx hb2
        go_wp2_with fail
        refine HA.out.mono ?_
        rintro e w1 ⟨rfl, hx1⟩
        have HX1 := Lib.hid ((HX.out.alloc _).trans hx1)
        clear hx1
        go_wp2
        go_roundg g
        case measure => omega
        case rel => exact ⟨r, b2, rfl, by go_num, HB2.out, by omega, HFIT.out, HRT.out, HX1.out⟩
      · have HA := Lib.hid (HAB.out x false wr hxb (decide_eq_false hab))
        rw [if_neg hab] at hrt
        have HRT := Lib.hid hrt
        have HFIT := Lib.hid (show x + 2 ^ g ≤ 137438953472 by rw [← hbg]; omega)
        clear hab hrt hbit hbg hxx hb2
        go_wp2_with fail
        refine HA.out.mono ?_
        rintro e w1 ⟨rfl, hx1⟩
        have HX1 := Lib.hid ((HX.out.alloc _).trans hx1)
        clear hx1
        go_wp2
        go_roundg g
        case measure => omega
        case rel => exact ⟨x, b2, rfl, by go_num, HB2.out, by omega, HFIT.out, HRT.out, HX1.out⟩
end Go.Proofs.YtfhmafncpodlbaaDoor

/-
  What the document's own primes of layer 10 does, of sixty-four. Conditions: none.
-/
namespace Go.Proofs.YtfhmafncpodlbaaDoor
open Go.RowKit
open Pol (co Sm)

theorem prs_pos : ∀ n, ∀ q ∈ prs n, 2 ≤ q ∧ q < n
  | 0, q, h => by cases h
  | n + 1, q, h => by
    rw [prs] at h
    split at h
    · rename_i hc
      rcases List.mem_append.1 h with h | h
      · have := prs_pos n q h; omega
      · have : q = n := by simpa using h
        omega
    · have := prs_pos n q h; omega
theorem all_take (l : List Nat) (f : Nat → Bool) (i : Nat) (h : i < l.length) : (l.take (i + 1)).all f = ((l.take i).all f && f (co l i)) := by
  rw [take_snoc l i h, List.all_append]
  simp

set_option maxHeartbeats 800000 in
set_option maxRecDepth 100000 in
theorem ref10_primes (w : World) : Calls Tryd.prog 22 #[.int .i64 64] w (GivesN .u64 46 PR w) := by
  unfold GivesN
  have HPR := Lib.hid prs_last
  have HFEW := Lib.hid prs_few
  have HPOS := Lib.hid prs_pos
  generalize PR = V at *
  have HV64 := Lib.hid (show (prs 312).length = 64 from by rw [prs_last]; rfl)
  go_enter Tryd.func22, Tryd.ntmps22
  go_wp2
  go_loopg [3, 4] 310 (fun g s3 s4 wx => ∃ n : Nat, n + g = 312 ∧ 2 ≤ n ∧ s4 = .int .u64 (n : Int) ∧ NMine 46 .u64 wx w.heap.size s3 (prs n) ∧ Ext w wx)
  case atStart => exact ⟨2, by decide, by decide, rfl, NMine.nil _ _, Ext.refl _⟩
  case round =>
    obtain ⟨n, hng, hn2, rfl, hm, hx⟩ := hrel
    have HM := Lib.hid hm
    have HX := Lib.hid hx
    obtain ⟨B3, c3, rfl, hc3, hr3⟩ := hm.slice
    have HR3 := Lib.hid hr3
    have hs := hx.size
    clear hm hx hr3
    cases gk with
    | zero =>
      obtain rfl : n = 312 := by omega
      have hl := HV64.out
      obtain ⟨LL, hLL⟩ : ∃ LL, (prs 312).length = LL := ⟨_, rfl⟩
      rw [hLL] at hl HM ⊢
      obtain rfl : LL = 64 := hl
      rw [HPR.out] at HM
      clear hLL
      go_wp2
      go_ret
      exact ⟨_, rfl, HM.out, HX.out⟩
    | succ g =>
      have hn : n < 312 := by omega
      have hlt := HFEW.out n hn
      have HPN := Lib.hid (HPOS.out n)
      have HST := Lib.hid (show prs (n + 1) = if (prs n).all (fun q => n % q != 0) then prs n ++ [n] else prs n from by
        rw [prs]
        by_cases h : ((prs n).all fun q => n % q != 0) = true
        · rw [if_pos ⟨hn2, h⟩, if_pos h]
        · rw [if_neg (fun h' => h h'.2), if_neg h])
      obtain ⟨P, hP⟩ : ∃ P, prs n = P := ⟨_, rfl⟩
      rw [hP] at HM HR3 hlt HPN HST hc3 ⊢
      obtain ⟨L, hL⟩ : ∃ L, P.length = L := ⟨_, rfl⟩
      have HL := Lib.hid hL
      rw [hL] at HM hlt hc3 ⊢
      have d1 : decide ((L : Int) < 64) = true := decide_eq_true (by omega)
      have HNG := Lib.hid hng
      clear hP hL hng
      go_wp2
      obtain ⟨wq, hwq⟩ : ∃ q, q = wr := ⟨_, rfl⟩
      subst hwq
      go_loopg [5, 15] L (fun g s5 s15 wx => ∃ i : Nat, i + g = L ∧ s15 = .int .i64 (i : Int) ∧ s5 = .bool ((P.take i).all (fun q => n % q != 0)) ∧ wq = wx)
      case atStart => exact ⟨0, by omega, rfl, rfl, rfl⟩
      case round =>
        obtain ⟨i, hig, rfl, rfl, rfl⟩ := hrel
        cases gk with
        | zero =>
          obtain rfl : i = L := by omega
          have hT : P.take i = P := by rw [← HL.out, List.take_length]
          rw [hT]
          by_cases hall : (P.all fun q => n % q != 0) = true
          · have HS2 := Lib.hid (HST.out.trans (if_pos hall))
            rw [hall]
            clear hig hall hT
            go_wp2_with (at_builtin; refine wpList_append_nums nt64 rfl (.tmp 30) (.tmp 32) rfl w.heap.size (.slice B3 i c3) P [n] rfl (HM.out.ext ((Ext.refl _).alloc _)) wq.heap.size 0 1 1 rfl rfl one_num (by rw [HL.out]; simp; omega) (by simp; omega) ?_; intro v7 w7 hown7 hg7 hat7; rw [← HS2.out] at hown7; have HX7 := Lib.hid ((HX.out.alloc (.cells #[.int .u64 (n : Int)] 46)).more hg7 (fun q hq => (HM.out.block q hq).1)); have HM7 := Lib.hid hown7; clear hown7 hg7 hat7)
            go_roundg g
            case measure => omega
            case rel => exact ⟨n + 1, by have := HNG.out; omega, by omega, by go_num, HM7.out, HX7.out⟩
          · have hall' : (P.all fun q => n % q != 0) = false := by simpa using hall
            have HS2 := Lib.hid (HST.out.trans (if_neg hall))
            rw [hall']
            clear hig hall hT hall'
            go_wp2
            go_roundg g
            case measure => omega
            case rel => exact ⟨n + 1, by have := HNG.out; omega, by omega, by go_num, by rw [HS2.out]; exact HM.out, HX.out⟩
        | succ g2 =>
          have hi : i < L := by omega
          have hiI : (i : Int) < (L : Int) := by omega
          obtain ⟨b, o, rfl, hc⟩ := HR3.out i (by rw [HL.out]; exact hi)
          have HAT := Lib.hid (all_take P (fun q => n % q != 0) i (by rw [HL.out]; exact hi))
          have hq := HPN.out (co P i) (by unfold co; rw [List.getElem?_eq_getElem (by rw [HL.out]; exact hi)]; exact List.getElem_mem _)
          obtain ⟨q, hqe⟩ : ∃ q, co P i = q := ⟨_, rfl⟩
          rw [hqe] at hc hq HAT
          obtain ⟨r, hr⟩ : ∃ r, n % q = r := ⟨_, rfl⟩
          have e1 : (n : Int) % (q : Int) = (r : Int) := by rw [← hr]; omega
          have hqI : (q : Int) ≠ 0 := by omega
          clear hqe
          cases hb : (P.take i).all (fun q => n % q != 0) with
          | false =>
            have HB := Lib.hid (show (P.take (i + 1)).all (fun q => n % q != 0) = false from by rw [HAT.out, hb]; rfl)
            clear hb hr
            go_wp2
            go_roundg g2
            case measure => omega
            case rel => exact ⟨i + 1, by omega, by go_num, by rw [HB.out], rfl⟩
          | true =>
            have HB := Lib.hid (show (P.take (i + 1)).all (fun q => n % q != 0) = (r != 0) from by rw [HAT.out, hb, hr]; rfl)
            clear hb hr
            by_cases hr0 : r = 0
            · subst hr0
              go_wp2
              go_roundg g2
              case measure => omega
              case rel => exact ⟨i + 1, by omega, by go_num, by rw [HB.out]; rfl, rfl⟩
            · have d2 : ((r : Int) != 0) = true := by simp; omega
              have d3 : (r != 0) = true := by simp; omega
              have d4 : decide (r = 0) = false := decide_eq_false hr0
              have d5 : ((r : Int) == 0) = false := by simp; omega
              go_wp2
              go_roundg g2
              case measure => omega
              case rel => exact ⟨i + 1, by omega, by go_num, by rw [HB.out, d3], rfl⟩
end Go.Proofs.YtfhmafncpodlbaaDoor

/-
  What the document's own turn, Less and Join of layer 10 do. Conditions: no more than 2^16 bytes.
-/
namespace Go.Proofs.YtfhmafncpodlbaaDoor
open Go.RowKit
open Pol (co Sm)

set_option maxHeartbeats 400000 in
theorem ref10_turn (x n : Nat) (w : World) (hx : x < 4294967296) (hn : n < 32) :
    Calls Tryd.prog 25 #[.int .u32 (x : Int), .int .u64 (n : Int)] w (fun e w' => e = .returned (.int .u32 ((tw x n : Nat) : Int)) ∧ w = w') := by
  obtain ⟨m, hm⟩ : ∃ m, 32 - n = m := ⟨_, rfl⟩
  obtain ⟨q, hq⟩ : ∃ q, x / 2 ^ n = q := ⟨_, rfl⟩
  obtain ⟨y, hy⟩ : ∃ y, x * 2 ^ m % 4294967296 = y := ⟨_, rfl⟩
  obtain ⟨z, hz⟩ : ∃ z, tw x n = z := ⟨_, rfl⟩
  have e1 : IntKind.u64.wrap (32 - (n : Int)) = (m : Int) := by rw [IntKind.wrap_u64]; omega
  have e1' : 32 - (n : Int) = (m : Int) := by omega
  have e2 : (x : Int) / 2 ^ n = (q : Int) := by rw [← hq]; simp
  have e3 : IntKind.u32.wrap ((x : Int) * 2 ^ m) = (y : Int) := by
    rw [IntKind.wrap_u32, ← hy]
    simp
  have hqb : q < 4294967296 := by rw [← hq]; exact Nat.lt_of_le_of_lt (Nat.div_le_self _ _) hx
  have hyb : y < 4294967296 := by rw [← hy]; exact Nat.mod_lt _ (by decide)
  have e4 : bits .or .u32 (q : Int) (y : Int) = (z : Int) := by
    rw [u32_or_nat q y hqb hyb, ← hz]
    unfold tw
    rw [hm, hq, hy]
  rw [hz]
  clear hm hq hy hz
  go_enter Tryd.func25, Tryd.ntmps25
  go_wp2
  go_ret
  exact ⟨rfl, rfl⟩

set_option maxHeartbeats 800000 in
set_option maxRecDepth 100000 in
theorem ref10_join (rows : List (List Nat)) (A : Option Addr) (ca : Nat) (w : World) (hr : RRd w A rows) (hl : rows.length ≤ 1024) (hls : ∀ i, i < rows.length → (ro rows i).length ≤ 1024) :
    Calls Tryd.prog 13 #[.slice A rows.length ca] w (OwnE (jn rows) w) := by
  unfold OwnE
  have HR := Lib.hid hr
  have HSM := Lib.hid (fun i (hi : i < rows.length) => show Sm (ro rows i) from hr.sm _ (ro_in rows i hi))
  have HT := Lib.hid (fun t A c W (h : Rd W A t) (h2 : t.length ≤ 1048576) => ref8_text t A c W h h2)
  have HTK := Lib.hid (fun i (hi : i < rows.length) => show jn (rows.take (i + 1)) = jn (rows.take i) ++ vt (ro rows i) from by
    rw [List.take_succ_eq_append_getElem hi, jn_snoc, show ro rows i = rows[i] from by unfold ro; rw [List.getElem?_eq_getElem hi]; rfl])
  have HLS := Lib.hid hls
  obtain ⟨n, hn⟩ : ∃ n, rows.length = n := ⟨_, rfl⟩
  have HN := Lib.hid hn
  have HALL := Lib.hid (show rows.take n = rows from by rw [← hn, List.take_length])
  rw [hn] at hl HSM HTK HLS ⊢
  unfold OwnE at HT
  clear hr hn hls
  go_enter Tryd.func13, Tryd.ntmps13
  go_wp2
  go_loopg [3, 7] n (fun g s3 s7 wx => ∃ i : Nat, i + g = n ∧ s7 = .int .i64 (i : Int) ∧ Mine wx w.heap.size s3 (jn (rows.take i)) ∧ Sm (jn (rows.take i)) ∧ (jn (rows.take i)).length ≤ 1034 * i ∧ Ext w wx)
  case atStart => exact ⟨0, by omega, rfl, Mine.nil _ _, Sm.nil, Nat.zero_le _, Ext.refl _⟩
  case round =>
    obtain ⟨i, hig, rfl, hm, hsm, hlen, hx⟩ := hrel
    have HM := Lib.hid hm
    have HX := Lib.hid hx
    have HS := Lib.hid hsm
    obtain ⟨B3, c3, rfl, hc3, _⟩ := hm.slice hsm
    cases gk with
    | zero =>
      obtain rfl : i = n := by omega
      rw [HALL.out] at HM ⊢
      clear hm hsm hx hig
      go_wp2
      go_ret
      exact ⟨_, rfl, HM.out, HX.out⟩
    | succ g =>
      have hi : i < n := by omega
      have hiI : (i : Int) < (n : Int) := by omega
      obtain ⟨b1, o1, R1, c1, rfl, hc1, hl1, hr1⟩ := (HR.out.ext hx) i (by rw [HN.out]; exact hi)
      have HTI := Lib.hid (HT.out (ro rows i) R1 c1 wr hr1 (by have := HLS.out i hi; omega))
      have HTKI := Lib.hid (HTK.out i hi)
      have hst := vt_sm (HSM.out i hi)
      have hvl : (vt (ro rows i)).length ≤ 1034 := by
        unfold vt
        rw [List.length_append]
        have := HLS.out i hi
        have := vn_ten (n := (ro rows i).length) (by omega)
        omega
      obtain ⟨t, ht⟩ : ∃ t, ro rows i = t := ⟨_, rfl⟩
      rw [ht] at hc1 hl1 HTI HTKI hst hvl
      obtain ⟨nt, hnt⟩ : ∃ nt, t.length = nt := ⟨_, rfl⟩
      rw [hnt] at hc1 hl1 HTI
      obtain ⟨J, hJ⟩ : ∃ J, (jn (rows.take i)).length = J := ⟨_, rfl⟩
      have HJ := Lib.hid hJ
      rw [hJ] at hlen hc3 HM ⊢
      have hs := hx.size
      have HST := Lib.hid hst
      have HVL := Lib.hid hvl
      have HIG := Lib.hid hig
      have hJb : J ≤ 1034 * 1024 := Nat.le_trans hlen (Nat.mul_le_mul_left _ (by omega))
      have HLEN := Lib.hid hlen
      clear hm hsm hx hr1 ht hnt hJ hst hvl hig hlen
      go_wp2_with fail
      refine HTI.out.mono ?_
      rintro e w1 ⟨v1, rfl, hm1, hx1⟩
      obtain ⟨B1, cc1, rfl, hcc1, hrv1⟩ := hm1.slice HST.out
      have HX1 := Lib.hid (HX.out.trans hx1)
      have HM1 := Lib.hid (mine_ext HM.out hx1)
      have HRV := Lib.hid hrv1
      obtain ⟨V, hV⟩ : ∃ V, (vt t).length = V := ⟨_, rfl⟩
      have HV := Lib.hid hV
      have hVb : V ≤ 1034 := by rw [← hV]; exact HVL.out
      have hs1 := hx1.size
      rw [hV] at hcc1 ⊢
      clear hm1 hx1 hrv1 hV
      go_wp2_with (at_builtin; refine wpList_append_rd rfl (.tmp 10) (.tmp 15) rfl w.heap.size (.slice B3 J c3) (jn (rows.take i)) (vt t) rfl HM1.out B1 V cc1 rfl HV.out HRV.out (by rw [HJ.out, HV.out]; omega) (by omega) ?_; intro v7 w7 hown7 hg7 hat7; rw [← HTKI.out] at hown7; have HX7 := Lib.hid (HX1.out.more hg7 (fun q hq => (HM1.out.block q hq).1)); have HM7 := Lib.hid hown7; clear hown7 hg7 hat7)
      go_roundg g
      case measure => omega
      case rel => exact ⟨i + 1, by have := HIG.out; omega, by go_num, HM7.out, by rw [HTKI.out]; exact sm_app HS.out HST.out, by rw [HTKI.out, List.length_append, HJ.out, HV.out]; have := HLEN.out; omega, HX7.out⟩
end Go.Proofs.YtfhmafncpodlbaaDoor

/-
  A region that draws its order, whose first operations leave every world of a class in that class and yield the same values in all of them, and whose last operations follow in a forced order: one walk of the text's order serves every order. Conditions: none; of no program in particular.
-/
namespace Go.Proofs.YtfhmafncpodlbaaDoor
open Go

section
variable {P : Program} {ops : Array Oper} {md : Region.Mode} {C : World → Prop}

/-- f operations below n come up in whatever order, each quiet in the class; then L. -/
def ahead (P : Program) (md : Region.Mode) (ops : Array Oper) (C : World → Prop) (n : Nat) (L : Array Bool → Act → Prop) : Nat → Array Bool → Act → Prop
  | 0, listed, a => L listed a
  | f + 1, listed, a => Region.ready md ops listed ≠ [] ∧ ∀ i, i ∈ Region.ready md ops listed → i < n ∧ qOp P ops C i (ahead P md ops C n L f (listed.setIfInBounds i true)) a

theorem wpAny_of_ahead {n g : Nat} {L : Array Bool → Act → Prop} {Q' : Exit → Act → World → Prop} (hL : ∀ listed a w, C w → L listed a → wpAny P md ops Q' g listed a w) (f : Nat) :
    ∀ (listed : Array Bool) (a : Act) (w : World), C w → ahead P md ops C n L f listed a → wpAny P md ops Q' (f + g) listed a w := by
  induction f with
  | zero => intro listed a w hw h; rw [Nat.zero_add]; exact hL _ _ _ hw h
  | succ f ih =>
    intro listed a w hw h
    rw [Nat.succ_add]
    exact ⟨fun h0 => absurd h0 h.1, fun i hi => wpOp_of_qOp hw (fun a' w' hw' h' => ih _ a' w' hw' h') (h.2 i hi).2⟩

/-- What may come up now may be taken first. -/
theorem ahead_first {n i : Nat} {oi : Oper} {v : Value} {L : Array Bool → Act → Prop} (hi : ops[i]? = some oi) (hsel : ∀ (j : Nat) (o : Oper) cs b, ops[j]? = some o → o.op ≠ .select cs b)
    (hs : Region.sinkB md ops n = true) (hc : Region.chainB md ops n = true) (hn : n < ops.size) (hin : i < n)
    (hdone : ∀ listed a, L listed a → ∀ j ∈ Region.ready md ops listed, n ≤ j) (f : Nat) :
    ∀ (listed : Array Bool) (a : Act), HeadInv md ops n listed →
      (∀ j oj, ops[j]? = some oj → j ≠ i → listed.getD j true = false → (∀ e ∈ oj.after, Region.binds md e = true → e.on ≠ i) → oi.apart ops oj = true) →
      i ∈ Region.ready md ops listed → YieldsIn P ops C oi v a →
      ahead P md ops C n L f (listed.setIfInBounds i true) (a.put oi.dst v) → ahead P md ops C n L (f + 1) listed a := by
  induction f with
  | zero =>
    intro listed a inv _ hr hy H
    refine ⟨List.ne_nil_of_mem hr, fun j hj => ?_⟩
    have hjn : j < n := Nat.lt_of_not_le fun h => tail_waits hs hc hn inv _ i rfl hin (mem_ready.1 hr).1 j h hj
    by_cases hji : j = i
    · subst hji; exact ⟨hjn, hy.qOp hi H⟩
    · exact absurd (hdone _ _ H j (ready_mono hj hji)) (by omega)
  | succ f ih =>
    intro listed a inv hfree hr hy H
    have hun := (mem_ready.1 hr).1
    refine ⟨List.ne_nil_of_mem hr, fun j hj => ?_⟩
    have hjn : j < n := Nat.lt_of_not_le fun h => tail_waits hs hc hn inv _ i rfl hin hun j h hj
    by_cases hji : j = i
    · subst hji; exact ⟨hjn, hy.qOp hi H⟩
    obtain ⟨hjun, oj, hoj, hall⟩ := mem_ready.1 hj
    have hap := hfree j oj hoj hji hjun fun e he hb heq => by
      have h1 := hall e he hb
      rw [heq, getD_both hun] at h1
      cases h1
    refine ⟨hjn, qOp_mono (fun a' h3 => ih (listed.setIfInBounds j true) a' (inv.set hj hjn) ?_ (ready_mono hr (Ne.symm hji)) h3.1 ?_)
      (qOp_put hoj hap (fun cs b => hsel i oi cs b hi) (fun cs b => hsel j oj cs b hoj) hy (H.2 j (ready_mono hj hji)).2)⟩
    · intro k ok hk hki hu hno
      refine hfree k ok hk hki ?_ hno
      by_cases hjk : j = k
      · subst hjk; exact hjun
      · rwa [getD_set_ne true hjk] at hu
    · rw [Array.setIfInBounds_comm _ _ hji]; exact h3.2

theorem ahead_lex {n g : Nat} {Lq : Act → Prop} (hsel : Region.noSelect ops = true) (hs : Region.sinkB md ops n = true) (hc : Region.chainB md ops n = true) (hn : n < ops.size) (l : List Oper) :
    ∀ (k : Nat) (listed : Array Bool) (a : Act), (∀ j, j < l.length → l[j]? = ops[k + j]?) → k + l.length = n → HeadInv md ops n listed →
    Region.lexHead md ops g l.length k listed = true → wpQuiet P ops C Lq l a →
    ahead P md ops C n (fun listed' a' => Region.seqB md ops g n listed' = true ∧ Lq a') l.length listed a := by
  induction l with
  | nil =>
    intro k listed a _ hk _ hB h
    obtain rfl : k = n := by simpa using hk
    exact ⟨by simpa [Region.lexHead] using hB, h⟩
  | cons o l ih =>
    intro k listed a hl hk inv hB h
    have h0 : ops[k]? = some o := by simpa using (hl 0 (by simp)).symm
    simp only [List.length_cons, Region.lexHead, Bool.and_eq_true] at hB hk
    have hr : k ∈ Region.ready md ops listed := by simpa using hB.1.1
    obtain ⟨v, hy, hK⟩ := yieldsIn_of_qOp (C := C) (K := wpQuiet P ops C Lq l) h0 (by unfold qOp; simp only [h0]; exact h)
    refine ahead_first h0 (Region.noSelect_spec hsel) hs hc hn (by omega) (fun _ _ hL => seqB_ready hL.1) l.length listed a inv (Region.free_spec h0 hB.1.2) hr hy ?_
    exact ih (k + 1) _ _ (fun j hj => by have := hl (j + 1) (by simp; omega); simpa [Nat.add_assoc, Nat.add_comm 1 j] using this) (by omega) (inv.set hr (by omega)) hB.2 hK

theorem any_quiet_tail {Q : Exit → Act → World → Prop} {a : Act} {w : World} {l : List Oper} (n : Nat) (C : World → Prop) (hB : Region.lexTailB .any l.toArray n = true) (hC : C w.drew)
    (h : wpQuiet P l.toArray C (fun a' => ∀ w', C w' → wpList P l.toArray Q (l.drop n) a' w') (l.take n) a) : wpAny P .any l.toArray Q l.toArray.size (Array.replicate l.toArray.size false) a w.drew := by
  simp only [Region.lexTailB, Bool.and_eq_true, decide_eq_true_eq] at hB
  obtain ⟨⟨⟨⟨hsel, hn⟩, hs⟩, hc⟩, hlex⟩ := hB
  have hn' : n < l.length := by simpa using hn
  have htl : (l.take n).length = n := by rw [List.length_take]; omega
  have hdl : (l.drop n).length = l.toArray.size - n := by simp
  have inv0 : HeadInv .any l.toArray n (Array.replicate l.toArray.size false) :=
    ⟨by simp, fun j oj _ hl => (by rw [getD_replicate_false] at hl; cases hl), fun t _ ht => getD_in (by simpa using ht) (getD_replicate_false _ _)⟩
  have H := ahead_lex (md := .any) (g := l.toArray.size - n) (C := C) hsel hs hc hn (l.take n) 0 _ a (fun j hj => by
    have hj' : j < n := by rwa [htl] at hj
    simp [hj']) (by rw [htl]; exact Nat.zero_add n) inv0 (by rw [htl]; exact hlex) h
  have key := wpAny_of_ahead (C := C) (Q' := Q) (g := l.toArray.size - n) (fun listed a' w' hw' hL => by
    have := wpAny_of_seq (md := .any) (Q' := Q) (l.drop n) n listed a' w' (fun j => by simp [List.getElem?_drop]) (by rw [hdl]; exact hL.1) (hL.2 w' hw')
    rwa [hdl] at this) _ _ _ _ hC H
  rw [htl, show n + (l.toArray.size - n) = l.toArray.size by omega] at key
  exact key
theorem wp_region_quiet_tail {id : Nat} {Q : Exit → Act → World → Prop} {a : Act} {w : World} {l : List Oper} (n : Nat) (C : World → Prop) (hm : P.follows .mixedOrders = true) (hB : Region.lexTailB .any l.toArray n = true) (hC : C w.drew)
    (h : wpQuiet P l.toArray C (fun a' => ∀ w', C w' → wpList P l.toArray Q (l.drop n) a' w') (l.take n) a) : (Code.region id l.toArray true).wp P Q a w :=
  wp_region_any hm (any_quiet_tail n C hB hC h)
end
end Go.Proofs.YtfhmafncpodlbaaDoor
