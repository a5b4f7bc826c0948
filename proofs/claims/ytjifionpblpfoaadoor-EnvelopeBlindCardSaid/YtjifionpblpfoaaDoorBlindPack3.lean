/-
  Part 3 of the texts that the seat's proofs stand on; each part of it begins with its own sentence and conditions. Conditions: those that each theorem names.
-/
import Derived.Test.YtjifionpblpfoaaDoorBlindPack2

/-
  What the document's own Encode of layer 14 does. Conditions: no more than 2^16 bytes.
-/
namespace Go.Proofs.YtjifionpblpfoaaDoor
open Go.RowKit
open Pol (co Sm)

/-- The bytes of an order, and the error's number. -/
def EncR (o : Od) (w : World) (e : Ending) (w' : World) : Prop :=
  Ext w w' ∧ ∃ B n c, e = .returned (.tuple #[.slice B n c, .int .i64 ((o.code : Nat) : Int)]) ∧ o.bytes.length = n ∧ n ≤ c ∧ Rd w' B o.bytes
theorem EncR.no {o : Od} {w : World} (h : ¬ o.right) {w' : World} (hx : Ext w w') : EncR o w (.returned (.tuple #[.slice none 0 0, .int .i64 1])) w' := by
  refine ⟨hx, none, 0, 0, ?_, ?_, Nat.le_refl _, ?_⟩
  · unfold Od.code; rw [if_neg h]; rfl
  · unfold Od.bytes; rw [if_neg h]; rfl
  · unfold Od.bytes; rw [if_neg h]; exact Rd.nil _ _
theorem mine_two14 (w : World) (x y : Nat) : Mine (w.alloc (.cells #[.int .u8 (x : Int), .int .u8 (y : Int)] 5)) w.heap.size (.slice (some ⟨w.heap.size, 0, none⟩) 2 2) [x, y] :=
  World.ownsRow_lit w #[.int .u8 (x : Int), .int .u8 (y : Int)] 2 (Nat.le_refl _) (by decide) rfl
theorem right_is {k t : Int} {a : Nat} {m : List Nat} {n : Nat} (h : m.length = n) : decide (RightN k t a n) = decide (Od.right ⟨k, t, a, m⟩) := by
  subst h
  exact decide_eq_decide.2 Iff.rfl
set_option maxHeartbeats 3200000 in
set_option maxRecDepth 100000 in
theorem ref14_encode (k t : Int) (a n c : Nat) (m : List Nat) (A : Option Addr) (w : World) (hn : m.length = n) (hr : Rd w A m) (hl : n ≤ 65536) (ha : a < 18446744073709551616) :
    Calls Tryd.prog 20 #[.agg #[.int .i64 k, .int .i64 t, .int .u64 (a : Int), .slice A n c]] w (EncR ⟨k, t, a, m⟩ w) := by
  have HRI := Lib.hid (fun u => ref14_right k t a n c A u)
  rw [right_is hn] at HRI
  have hx0 := (Ext.refl w).alloc (.cells #[.int .i64 k, .int .i64 t, .int .u64 (a : Int), .slice A n c] 46)
  have HX0 := Lib.hid hx0
  by_cases ho : Od.right ⟨k, t, a, m⟩
  · rw [decide_eq_true ho] at HRI
    obtain ⟨b1, b2, b3, b4, _⟩ := Od.right_bounds ho
    dsimp only at b1 b2 b3 b4
    have HE := Lib.hid (show Od.bytes ⟨k, t, a, m⟩ = [k.toNat, t.toNat] ++ vn a ++ vt m ∧ Od.code ⟨k, t, a, m⟩ = 0 from by
      unfold Od.bytes Od.code Od.enc
      rw [if_pos ho, if_pos ho]
      dsimp only
      rw [vn_lt (show k.toNat < 128 by omega), vn_lt (show t.toNat < 128 by omega)]
      exact ⟨rfl, rfl⟩)
    have HSM := Lib.hid (Od.bytes_sm (o := ⟨k, t, a, m⟩) hr.1)
    obtain ⟨kk, rfl⟩ : ∃ q : Nat, (q : Int) = k := ⟨k.toNat, by omega⟩
    obtain ⟨tt, rfl⟩ : ∃ q : Nat, (q : Int) = t := ⟨t.toNat, by omega⟩
    rw [Int.toNat_natCast, Int.toNat_natCast] at HE
    have w8 : IntKind.u8.wrap (kk : Int) = (kk : Int) := by rw [IntKind.wrap_u8]; omega
    have w8' : IntKind.u8.wrap (tt : Int) = (tt : Int) := by rw [IntKind.wrap_u8]; omega
    have HNUM := Lib.hid (fun u => ref8_number a u ha)
    have HTEN := Lib.hid (vn_ten ha)
    have HSMN := Lib.hid (vn_sm a)
    have HTXT := Lib.hid (fun u (h : Ext w u) => show Calls Tryd.prog 36 #[.slice A n c] u (OwnE (vt m) u) from by
      have h := ref8_text m A c u (hr.ext h) (by omega)
      rwa [hn] at h)
    have HSMT := Lib.hid (vt_sm hr.1)
    have HVT := Lib.hid (show (vt m).length ≤ 65546 from by
      unfold vt
      have h1 := vn_ten (n := m.length) (by omega)
      rw [List.length_append]
      omega)
    unfold EncR
    rw [HE.out.2]
    rw [HE.out.1] at HSM ⊢
    have hkI : (0 : Int) ≤ (kk : Int) := by omega
    clear hr ho HE b1 b2 b3 b4 hx0
    obtain ⟨VA, hVA⟩ : ∃ V, vn a = V := ⟨_, rfl⟩
    obtain ⟨VT, hVT⟩ : ∃ V, vt m = V := ⟨_, rfl⟩
    rw [hVA] at HNUM HTEN HSMN HSM ⊢
    rw [hVT] at HTXT HSMT HVT HSM ⊢
    clear hVA hVT
    have b0 := cell_of_row _ w.heap.size 0 _ _ _ (heap_alloc_new w (.cells #[.int .i64 (kk : Int), .int .i64 (tt : Int), .int .u64 (a : Int), .slice A n c] 46))
    have b1 := cell_of_row _ w.heap.size 1 _ _ _ (heap_alloc_new w (.cells #[.int .i64 (kk : Int), .int .i64 (tt : Int), .int .u64 (a : Int), .slice A n c] 46))
    have b2 := cell_of_row _ w.heap.size 2 _ _ _ (heap_alloc_new w (.cells #[.int .i64 (kk : Int), .int .i64 (tt : Int), .int .u64 (a : Int), .slice A n c] 46))
    have b3 := cell_of_row _ w.heap.size 3 _ _ _ (heap_alloc_new w (.cells #[.int .i64 (kk : Int), .int .i64 (tt : Int), .int .u64 (a : Int), .slice A n c] 46))
    simp only [List.getElem?_toArray, List.getElem?_cons_zero, List.getElem?_cons_succ] at b0 b1 b2 b3
    have HB := Lib.hid (And.intro b0 (And.intro b1 (And.intro b2 b3)))
    clear b0 b1 b2 b3
    go_enter Tryd.func20, Tryd.ntmps20
    go_wp2_with fail
    refine (HRI.out _).mono ?_
    rintro e w1 ⟨rfl, hx1⟩
    obtain ⟨q0, q1, q2, q3⟩ := HB.out
    have c0 := hx1.at q0
    have c1 := hx1.at q1
    have hx2 := hx1.trans ((Ext.refl w1).alloc (.cells #[.int .u8 (kk : Int), .int .u8 (tt : Int)] 5))
    have c2 := hx2.at q2
    have HX2 := Lib.hid (HX0.out.trans hx2)
    have HB2 := Lib.hid (hx2.at q3)
    have HM2 := Lib.hid (mine_two14 w1 kk tt)
    have HS1 := Lib.hid (HX0.out.trans hx1).size
    have HS1' := Lib.hid (show w.heap.size + 1 ≤ w1.heap.size from by have h := hx1.size; simp at h; exact h)
    clear hx1 hx2 q0 q1 q2 q3
    go_wp2_with fail
    refine (HNUM.out _).mono ?_
    rintro e w3 ⟨v3, rfl, hm3, hx3⟩
    obtain ⟨B3, c3, rfl, hc3, hr3⟩ := hm3.slice HSMN.out
    have HX3 := Lib.hid (HX2.out.trans hx3)
    have HB3 := Lib.hid (hx3.at HB2.out)
    have HM3 := Lib.hid ((mine_ext HM2.out hx3).down (base' := w.heap.size) HS1.out)
    have HR3 := Lib.hid hr3
    obtain ⟨la, hla⟩ : ∃ q, VA.length = q := ⟨_, rfl⟩
    have HLA := Lib.hid hla
    rw [hla] at hc3 HTEN ⊢
    clear hx3 hm3 hr3 hla HM2 HB2
    go_wp2_with (first | (at_builtin; refine wpList_append_rd rfl (.tmp 15) (.tmp 18) rfl w.heap.size _ [kk, tt] VA rfl HM3.out B3 la c3 rfl HLA.out HR3.out (by rw [HLA.out]; have := HTEN.out; simp; omega) HX3.out.size ?_; intro v4 w4 hm4 hg4 _; have hx4 := HX3.out.more hg4 (fun r e => (HM3.out.block r e).1); have HX4 := Lib.hid hx4; have hb4 := hg4.cell HB3.out (fun e => by change some _ = some _ at e; injection e with e; dsimp only at e; have h := HS1'.out; omega); have HM4 := Lib.hid hm4; clear hm4 hg4 hx4) | fail)
    refine (HTXT.out _ HX4.out).mono ?_
    rintro e w5 ⟨v5, rfl, hm5, hx5⟩
    obtain ⟨B5, c5, rfl, hc5, hr5⟩ := hm5.slice HSMT.out
    have HX5 := Lib.hid (HX4.out.trans hx5)
    have HM5 := Lib.hid (mine_ext HM4.out hx5)
    have HR5 := Lib.hid hr5
    obtain ⟨lt, hlt⟩ : ∃ q, VT.length = q := ⟨_, rfl⟩
    have HLT := Lib.hid hlt
    rw [hlt] at hc5 HVT ⊢
    clear hx5 hm5 hr5 hlt HM4 hb4 HM3 HB3
    go_wp2_with (first | (at_builtin; refine wpList_append_rd rfl (.tmp 20) (.tmp 23) rfl w.heap.size _ ([kk, tt] ++ VA) VT rfl HM5.out B5 lt c5 rfl HLT.out HR5.out (by rw [HLT.out, List.length_append, HLA.out]; have := HTEN.out; have := HVT.out; simp; omega) HX5.out.size ?_; intro v6 w6 hm6 hg6 _; have HX6 := Lib.hid (HX5.out.more hg6 (fun r e => (HM5.out.block r e).1)); obtain ⟨B6, c6, rfl, hc6, hr6⟩ := hm6.slice HSM.out; have HR6 := Lib.hid hr6; have HC6 := Lib.hid hc6; clear hm6 hg6 hr6 hc6) | fail)
    go_ret2
    have h6 := HC6.out
    simp only [List.length_append, List.length_cons, List.length_nil] at h6
    exact ⟨HX6.out, _, _, _, rfl, by simp, by omega, HR6.out⟩
  · rw [decide_eq_false ho] at HRI
    have HO := Lib.hid ho
    clear hr hx0 ho
    go_enter Tryd.func20, Tryd.ntmps20
    go_wp2_with fail
    refine (HRI.out _).mono ?_
    rintro e w1 ⟨rfl, hx1⟩
    have HX1 := Lib.hid (HX0.out.trans hx1)
    clear hx1
    go_wp2
    go_ret2
    exact EncR.no HO.out HX1.out
end Go.Proofs.YtjifionpblpfoaaDoor

/-
  Bytes in a block of a call's own, that are changed one by one; what stays while other blocks are written. Conditions: none.
-/
namespace Go.Proofs.YtjifionpblpfoaaDoor
open Go.RowKit
open Pol (co Sm trim)

/-- The first n cells of block g are the bytes F, and may be written. -/
def Cells (w : World) (g n : Nat) (F : Nat → Nat) : Prop := ∀ i, i < n → w.cell? ⟨g, i, none⟩ = some (.int .u8 ((F i : Nat) : Int)) ∧ w.frozen? ⟨g, i, none⟩ = false
theorem Blk.cells {w : World} {g n : Nat} {F : Nat → Nat} (h : Blk w g n F) : Cells w g n F := fun i hi => ⟨h.cell i hi, h.frozen i⟩
theorem Cells.drewN {w : World} {g n : Nat} {F : Nat → Nat} (h : Cells w g n F) (k : Nat) : Cells (w.drewN k) g n F := h
theorem Cells.congr {w : World} {g n : Nat} {F F' : Nat → Nat} (h : Cells w g n F) (hf : ∀ i, i < n → F i = F' i) : Cells w g n F' := fun i hi => ⟨by rw [(h i hi).1, hf i hi], (h i hi).2⟩
theorem Cells.store {w : World} {g n : Nat} {F : Nat → Nat} (h : Cells w g n F) (k v : Nat) : Cells (w.setCell ⟨g, k, none⟩ (.int .u8 (v : Int))) g n (upd F k v) := fun i hi => by
  refine ⟨?_, by rw [World.frozen?_setCell]; exact (h i hi).2⟩
  unfold upd
  by_cases e : i = k
  · subst e
    rw [if_pos rfl]
    exact World.cell?_setCell_same' _ _ _ (by rw [(h i hi).1]; rfl)
  · rw [if_neg e, World.cell?_setCell_other _ _ _ _ (fun h => e (by cases h; rfl))]
    exact (h i hi).1
theorem Cells.keep {w w' : World} {g n : Nat} {F : Nat → Nat} {row : Option Nat} (h : Cells w g n F) (hg : w.grownBy w' row) (hne : some g ≠ row) : Cells w' g n F := fun i hi =>
  ⟨hg.cell (h i hi).1 hne, (World.frozen?_of_block (a := ⟨g, i, none⟩) (hg.block g (block_lt_of_cell (h i hi).1) hne)).trans (h i hi).2⟩
theorem Cells.ext {w w' : World} {g n : Nat} {F : Nat → Nat} (h : Cells w g n F) (hx : Ext w w') : Cells w' g n F := fun i hi =>
  ⟨(hx.below.cell (p := ⟨g, i, none⟩) (block_lt_of_cell (h i hi).1)).trans (h i hi).1, (hx.below.frozen (p := ⟨g, i, none⟩) (block_lt_of_cell (h i hi).1)).trans (h i hi).2⟩
theorem Cells.reads {w : World} {g n : Nat} {F : Nat → Nat} (h : Cells w g n F) (hs : ∀ i, i < n → F i < 256) : Rd w (some ⟨g, 0, none⟩) (tab n F) :=
  ⟨tab_sm n F hs, fun i hi => ⟨g, 0, rfl, by
    rw [tab_len] at hi
    rw [Nat.zero_add, (h i hi).1, co_tab, if_pos hi]⟩⟩
theorem Rd.keep {w w' : World} {A : Option Addr} {l : List Nat} {row : Option Nat} (h : Rd w A l) (hg : w.grownBy w' row) (hne : ∀ b o, A = some ⟨b, o, none⟩ → 0 < l.length → some b ≠ row) : Rd w' A l :=
  ⟨h.1, fun i hi => by
    obtain ⟨b, o, e, hc⟩ := h.2 i hi
    exact ⟨b, o, e, hg.cell hc (hne b o e (by omega))⟩⟩
theorem grown_set (w : World) (g o : Nat) (v : Value) : w.grownBy (w.setCell ⟨g, o, none⟩ v) (some g) :=
  ⟨rfl, rfl, rfl, by simp [World.setCell], fun k _ hk => Below.heap_setCell _ _ _ k (fun e => hk (by rw [e]))⟩
theorem grown_drewN (w : World) (n : Nat) (row : Option Nat) : w.grownBy (w.drewN n) row := ⟨rfl, rfl, rfl, Nat.le_refl _, fun _ _ _ => rfl⟩
theorem Ext.grown {w w' : World} (h : Ext w w') (row : Option Nat) : w.grownBy w' row := ⟨h.below.os, h.below.tape, h.below.output, h.below.size, fun k hk _ => h.below.block k hk⟩

/-- s[l:] of bytes, where the capacity goes on. -/
theorem run_from_u8 (g o len cap l : Nat) (h : l ≤ len) (hc : l < cap) (W : World) :
    (Instr.slice 23 (.slice (some ⟨g, o, none⟩) len cap) (some (.int .i64 (l : Int))) none none).run Tryd.prog W = .ok (.slice (some ⟨g, o + l, none⟩) (len - l) (cap - l)) W := by
  obtain ⟨i0, hi, hz0, hz1, hz2⟩ := info_parts u8_info
  have he : Tryd.prog.elem 23 = 5 := by kernel_rfl
  rw [run_slice_l W 23 _ len cap (by rw [he]; exact Tryd.underlying23) .i64 (l : Int) (by omega) (by omega), he]
  simp [sizeOf, typeInfo, hi, hz1, Result.andThen, sliced, addr_add]
  omega

/-- A slice of the call's own, as cells that may be written. -/
theorem Mine.cells {w : World} {base : Nat} {v : Value} {l : List Nat} (hm : Mine w base v l) : ∃ A c g, v = .slice A l.length c ∧ l.length ≤ c ∧ (0 < l.length → A = some ⟨g, 0, none⟩ ∧ base ≤ g) ∧ Cells w g l.length (co l) := by
  rcases hm.2 with ⟨rfl, hn⟩ | ⟨g, cap, cur, rfl, hb, hg, hnc, _, _, htake⟩
  · have : l = [] := List.eq_nil_of_length_eq_zero hn
    subst this
    exact ⟨none, 0, 0, rfl, Nat.le_refl _, fun h => absurd h (by simp), fun i hi => absurd hi (by simp)⟩
  · refine ⟨_, cap, g, rfl, hnc, fun _ => ⟨rfl, hb⟩, fun i hi => ⟨?_, frozen_of_row w g i cur _ hg⟩⟩
    rw [cell_of_row w g i cur _ _ hg, ← bv_at l i hi, ← htake, List.getElem?_take, if_pos (by omega)]
    simp
end Go.Proofs.YtjifionpblpfoaaDoor

/-
  The document's Make of layer 16. Conditions: no more than 2^16 bytes.
-/
namespace Go.Proofs.YtjifionpblpfoaaDoor
open Go.RowKit
open Pol (co Sm)

theorem ev_in16 {a b c d e : Value} : (Tryd.prog.info? 25).map (·.size) = some (#[a, b, c, d, e] : Array Value).size := by kernel_rfl
theorem tx_in16 {a b c d : Value} : (Tryd.prog.info? 46).map (·.size) = some (#[a, b, c, d] : Array Value).size := by kernel_rfl
theorem ev_size16 : (#[.int .i64 0, .int .u64 0, .int .u64 0, .int .u64 0, .slice none 0 0] : Array Value).size = (#[.int .i64 0, .int .u64 0, .int .u64 0, .int .u64 0, .slice none 0 0] : Array Value).size := rfl
theorem results_ev16 {fn : Func} {p u : Tmp} (h : fn.results = #[.cell p 25, .tmp u]) (tmps : Array Value) (w : World) (g : Nat) (t : TypeId) (cs : Array Value) (fr : Nat × Nat)
    (hp : tmps.getD p undef = .pointer (some ⟨g, 0, none⟩)) (hg : w.heap[g]? = some (.cells cs t fr)) (hi : (Tryd.prog.info? 25).map (·.size) = some cs.size) :
    (results fn tmps).run Tryd.prog w = .ok (.tuple #[.agg cs, tmps.getD u undef]) w := by
  have hl := run_loadVar_row w g t 25 cs fr _ hg Tryd.underlying25 rfl hi
  rw [results_cell_tmp h, hp]
  simp [asAddr, Result.andThen, hl]
/-- An envelope that is handed back, and the error's number. -/
def EvR (r : Nat × Ev) (w : World) (e : Ending) (w' : World) : Prop :=
  Ext w w' ∧ ∃ B k c, e = .returned (.tuple #[evv r.2.s r.2.n r.2.f r.2.x B k c, .int .i64 ((r.1 : Nat) : Int)]) ∧ r.2.b.length = k ∧ k ≤ c ∧ Rd w' B r.2.b
theorem evR_no {r : Nat × Ev} {w w' : World} {m : Nat} (h : r = (m, Ev.zero)) (hx : Ext w w') : EvR r w (.returned (.tuple #[.agg #[.int .i64 0, .int .u64 0, .int .u64 0, .int .u64 0, .slice none 0 0], .int .i64 (m : Int)])) w' := by
  subst h
  exact ⟨hx, none, 0, 0, rfl, rfl, Nat.le_refl _, Rd.nil _ _⟩
end Go.Proofs.YtjifionpblpfoaaDoor

/-
  Two slices that read as one list are the same to the statements' own comparison. Conditions: none.
-/
namespace Go.Proofs.YtjifionpblpfoaaDoor
open Go.RowKit
open Pol (co Sm)

set_option maxHeartbeats 400000 in
set_option maxRecDepth 100000 in
theorem same_true (l : List Nat) (A B : Option Addr) (ca cb : Nat) (w : World) (ha : Rd w A l) (hb : Rd w B l) (hl : l.length ≤ 1048576) :
    Calls Tryd.prog 15 #[.slice A l.length ca, .slice B l.length cb] w (Hands (.bool true) w) := by
  generalize hn : l.length = n at *
  have HA := Lib.hid ha
  have HB := Lib.hid hb
  have HN := Lib.hid hn
  clear ha hb hn
  go_enter Tryd.func15, Tryd.ntmps15
  go_wp2
  go_loopg [13] n (fun g s wx => ∃ k m : Nat, k + g = n ∧ s = .int .i64 (k : Int) ∧ wx = w.drewN m)
  case atStart => exact ⟨0, 0, by omega, rfl, rfl⟩
  case round =>
    obtain ⟨k, m, hkg, rfl, rfl⟩ := hrel
    cases gk with
    | zero =>
      obtain rfl : k = n := by omega
      clear hkg
      go_wp2
      go_ret
      exact ⟨rfl, m, rfl⟩
    | succ g =>
      have hk : k < n := by omega
      obtain ⟨b, o, rfl, hc⟩ := HA.out.2 k (by rw [HN.out]; exact hk)
      obtain ⟨b', o', rfl, hc'⟩ := HB.out.2 k (by rw [HN.out]; exact hk)
      have hkI : (k : Int) < (n : Int) := by omega
      go_wp2
      go_quiet (fail)
      go_wp2
      go_roundg g
      case measure => omega
      case rel => exact ⟨k + 1, _, by omega, by go_num, rfl⟩
theorem same_tells (l : List Nat) (A B : Option Addr) (ca cb : Nat) (w : World) (ha : Rd w A l) (hb : Rd w B l) (hl : l.length ≤ 1048576) :
    Calls Tryd.prog 15 #[.slice A l.length ca, .slice B l.length cb] w (Tells (.bool true) w) := (same_true l A B ca cb w ha hb hl).mono fun _ _ h => h.tells
end Go.Proofs.YtjifionpblpfoaaDoor

/-
  What it is to lay something behind bytes of a call's own. Conditions: none; no function is named here.
-/
namespace Go.Proofs.YtjifionpblpfoaaDoor
open Go.RowKit
open Pol (co Sm)

/-- What lays something behind bytes of a call's own. -/
def Lays (base : Nat) (v : Value) (l : List Nat) (w : World) (e : Ending) (w' : World) : Prop :=
  ∃ v', e = .returned v' ∧ Mine w' base v' l ∧ w.grownBy w' v.ownBlock ∧ (v'.ownBlock = v.ownBlock ∨ ∃ k, v'.ownBlock = some k ∧ w.heap.size ≤ k)
/-- From v in world w on, vx has come in world wx. -/
def LayS (w wx : World) (v vx : Value) : Prop := w.grownBy wx v.ownBlock ∧ (vx.ownBlock = v.ownBlock ∨ ∃ k, vx.ownBlock = some k ∧ w.heap.size ≤ k)
theorem LayS.refl (w : World) (v : Value) : LayS w w v v := ⟨⟨rfl, rfl, rfl, Nat.le_refl _, fun _ _ _ => rfl⟩, .inl rfl⟩
theorem LayS.step {w wx w' : World} {v vx v' : Value} (h : LayS w wx v vx) (hg : wx.grownBy w' vx.ownBlock) (ha : v'.ownBlock = vx.ownBlock ∨ v'.ownBlock = some wx.heap.size) : LayS w w' v v' := by
  refine ⟨⟨hg.os.trans h.1.os, hg.tape.trans h.1.tape, hg.output.trans h.1.output, Nat.le_trans h.1.size hg.size, fun k hk hne => (hg.block k (Nat.lt_of_lt_of_le hk h.1.size) ?_).trans (h.1.block k hk hne)⟩, ?_⟩
  · intro e
    rcases h.2 with e' | ⟨b, e', hb⟩
    · exact hne (e.trans e')
    · rw [e'] at e
      injection e with e
      omega
  · rcases ha with e | e
    · rcases h.2 with e' | ⟨b, e', hb⟩
      · exact .inl (e.trans e')
      · exact .inr ⟨b, e.trans e', hb⟩
    · exact .inr ⟨_, e, h.1.size⟩
theorem LayS.alloc {w wx : World} {v vx : Value} (h : LayS w wx v vx) (o : Obj) : LayS w (wx.alloc o) v vx :=
  ⟨⟨h.1.os, h.1.tape, h.1.output, by simp; have := h.1.size; omega, fun k hk hne => (heap_alloc_old _ _ (Nat.lt_of_lt_of_le hk h.1.size)).trans (h.1.block k hk hne)⟩, h.2⟩
theorem LayS.lays {w w' : World} {base : Nat} {v v' : Value} {l : List Nat} (h : LayS w w' v v') (hm : Mine w' base v' l) : Lays base v l w (.returned v') w' := ⟨v', rfl, hm, h.1, h.2⟩

set_option maxRecDepth 100000 in
theorem or8_128 : ∀ b : Nat, b < 256 → bits .or .u8 (b : Int) 128 = ((b % 128 + 128 : Nat) : Int) := by decide

theorem LayS.ext {w wx wy : World} {v vx : Value} (h : LayS w wx v vx) (hx : Ext wx wy) : LayS w wy v vx :=
  ⟨⟨hx.below.os.trans h.1.os, hx.below.tape.trans h.1.tape, hx.below.output.trans h.1.output, Nat.le_trans h.1.size hx.size, fun k hk hne => (hx.below.block k (Nat.lt_of_lt_of_le hk h.1.size)).trans (h.1.block k hk hne)⟩, h.2⟩

end Go.Proofs.YtjifionpblpfoaaDoor

/-
  The statements' own comparison of bytes tells lists that are unlike from those that are alike. Conditions: no more than 2^20 bytes.
-/
namespace Go.Proofs.YtjifionpblpfoaaDoor
open Go.RowKit
open Pol (co Sm)

set_option maxHeartbeats 400000 in
set_option maxRecDepth 100000 in
theorem same_no (l m : List Nat) (A B : Option Addr) (ca cb : Nat) (w : World) (ha : Rd w A l) (hb : Rd w B m) (hl : l.length ≤ 1048576) (h : l ≠ m) :
    Calls Tryd.prog 15 #[.slice A l.length ca, .slice B m.length cb] w (Hands (.bool false) w) := by
  by_cases hlm : l.length = m.length
  · rw [← hlm]
    have HNE := Lib.hid (fun (k : ∀ j, j < l.length → co l j = co m j) => h (Lin.list_ext hlm k))
    have HLM := Lib.hid hlm
    generalize hn : l.length = n at *
    have HA := Lib.hid ha
    have HB := Lib.hid hb
    have HN := Lib.hid hn
    clear ha hb hn h hlm
    go_enter Tryd.func15, Tryd.ntmps15
    go_wp2
    go_loopg [13] n (fun g s wx => ∃ k q : Nat, k + g = n ∧ s = .int .i64 (k : Int) ∧ wx = w.drewN q ∧ ∀ j, j < k → co l j = co m j)
    case atStart => exact ⟨0, 0, by omega, rfl, rfl, fun j hj => by omega⟩
    case round =>
      obtain ⟨k, q, hkg, rfl, rfl, hsame⟩ := hrel
      have HSA := Lib.hid hsame
      clear hsame
      cases gk with
      | zero =>
        obtain rfl : k = n := by omega
        exact absurd HSA.out HNE.out
      | succ g =>
        have hk : k < n := by omega
        obtain ⟨b, o, rfl, hc⟩ := HA.out.2 k (by rw [HN.out]; exact hk)
        obtain ⟨b', o', rfl, hc'⟩ := HB.out.2 k (by rw [← HLM.out]; exact hk)
        have hkI : (k : Int) < (n : Int) := by omega
        obtain ⟨x, hx⟩ : ∃ x, co l k = x := ⟨_, rfl⟩
        obtain ⟨y, hy⟩ : ∃ y, co m k = y := ⟨_, rfl⟩
        rw [hx] at hc
        rw [hy] at hc'
        by_cases e : x = y
        · have t : ((x : Int) != (y : Int)) = false := by subst e; simp
          have HE := Lib.hid (show co l k = co m k by rw [hx, hy]; exact e)
          clear e hx hy
          go_wp2
          go_quiet (fail)
          go_wp2
          go_roundg g
          case measure => omega
          case rel => exact ⟨k + 1, _, by omega, by go_num, rfl, fun j hj => by
            by_cases e : j = k
            · subst e; exact HE.out
            · exact HSA.out j (by omega)⟩
        · have t : ((x : Int) != (y : Int)) = true := by simp; omega
          clear e hx hy
          go_wp2
          go_quiet (fail)
          go_wp2
          go_ret
          exact ⟨rfl, q + nq, by rw [World.drewN_drewN]⟩
  · have t : ((l.length : Int) != (m.length : Int)) = true := by simp; omega
    generalize l.length = n at *
    generalize m.length = n' at *
    clear ha hb h
    go_enter Tryd.func15, Tryd.ntmps15
    go_wp2
    go_ret
    exact ⟨rfl, 0, rfl⟩
end Go.Proofs.YtjifionpblpfoaaDoor

/-
  What a reader of layer 8 is in memory (which the code decides), and how a reading ends. Conditions: none.
-/
namespace Go.Proofs.YtjifionpblpfoaaDoor
open Go.RowKit
open Pol (co Sm)

/-- The blocks from lo on, below hi. -/
def Btw (lo hi k : Nat) : Prop := lo ≤ k ∧ k < hi
/-- What a reader is in memory: between which blocks its own lie, where its bytes lie, where it is, and what is left; and how a reading ends with an error. -/
structure Rdr where
  RI : Nat → Nat → Option Addr → Addr → World → List Nat → Prop
  St : Nat → Nat → Option Addr → Addr → World → Nat → List PanicEntry → Prop
/-- A call of a reader's method. -/
def Reads {α : Type} (I : Rdr) (lo hi : Nat) (B : Option Addr) (ρ : Addr) (V : Value → World → α → Prop) (r : Rs α) (w : World) (e : Ending) (w' : World) : Prop :=
  Only (Btw lo hi) w w' ∧ match r with
    | .ok a rest => ∃ v, e = .returned v ∧ V v w' a ∧ I.RI lo hi B ρ w' rest
    | .er n => ∃ ch, e = .panicked ch ∧ I.St lo hi B ρ w' n ch
/-- Bytes of a call's own. -/
def OwnB (base : Nat) (v : Value) (w : World) (t : List Nat) : Prop := ∃ B c, v = .slice B t.length c ∧ t.length ≤ c ∧ Rd w B t ∧ ∀ b o, B = some ⟨b, o, none⟩ → 0 < t.length → base ≤ b
def dg (t : List Nat) : Value := .agg (bv t).toArray
/-- What the function that reads does: it comes to its end, or ends by an error of the reader's, or panics by itself with an integer. -/
inductive By where
  | done (l : List Nat)
  | fails (n : Nat)
  | dies (x : Int)
def ByE (I : Rdr) (lo hi : Nat) (B : Option Addr) (ρ : Addr) (J : Nat → World → By → Prop) (e : Ending) (w : World) : Prop :=
  (∃ l v, e = .returned v ∧ I.RI lo hi B ρ w l ∧ J hi w (.done l)) ∨ (∃ n ch, e = .panicked ch ∧ I.St lo hi B ρ w n ch ∧ J hi w (.fails n)) ∨
  (∃ x, e = .panicked [{ v := .iface 3 (.int .i64 x), recovered := false }] ∧ (∃ l, I.RI lo hi B ρ w l) ∧ J hi w (.dies x))
def endOf : By → Ending → Prop
  | .done l, e => e = .returned (.int .i64 (if l = [] then 0 else 3))
  | .fails n, e => e = .returned (.int .i64 (n : Int))
  | .dies x, e => ∃ older : List PanicEntry, e = .panicked ({ v := .iface 3 (.int .i64 x), recovered := false } :: older) ∧ ∀ p ∈ older, p.goexit = false
def ReadE (J : Nat → World → By → Prop) (w : World) (e : Ending) (w' : World) : Prop := ∃ hi w2 y, w.heap.size ≤ hi ∧ J hi w2 y ∧ Only (Btw w.heap.size hi) w2 w' ∧ endOf y e
theorem ByE.mono {I : Rdr} {lo hi : Nat} {B : Option Addr} {ρ : Addr} {J J' : Nat → World → By → Prop} {e : Ending} {w : World} (h : ByE I lo hi B ρ J e w) (hJ : ∀ w y, J hi w y → J' hi w y) : ByE I lo hi B ρ J' e w := by
  rcases h with ⟨l, v, h1, h2, h3⟩ | ⟨n, ch, h1, h2, h3⟩ | ⟨x, h1, h2, h3⟩
  · exact .inl ⟨l, v, h1, h2, hJ _ _ h3⟩
  · exact .inr (.inl ⟨n, ch, h1, h2, hJ _ _ h3⟩)
  · exact .inr (.inr ⟨x, h1, h2, hJ _ _ h3⟩)
theorem Rd.block' {w : World} {A : Option Addr} {l : List Nat} (h : Rd w A l) : ∀ b o, A = some ⟨b, o, none⟩ → 0 < l.length → b < w.heap.size := fun b o e hl => by
  obtain ⟨b', o', e', hc⟩ := h.2 0 hl
  rw [e] at e'
  injection e' with e'
  injection e' with e' _
  rw [e']
  exact block_lt_of_cell hc
/-- Where bytes lie, if there are any. -/
def nz (b : List Nat) (B : Option Addr) : Option Addr := if b = [] then none else B
theorem nz_some {b : List Nat} {B : Option Addr} {a : Addr} (h : nz b B = some a) : B = some a ∧ 0 < b.length := by
  unfold nz at h
  split at h
  · cases h
  · rename_i hb
    exact ⟨h, List.length_pos_iff.2 hb⟩
theorem mine_only {X : Nat → Prop} {w w' : World} {base : Nat} {v : Value} {l : List Nat} (h : Mine w base v l) (ho : Only X w w') (hx : ∀ k, v.ownBlock = some k → ¬ X k) : Mine w' base v l := by
  refine ⟨h.1, ?_⟩
  rcases h.2 with h0 | ⟨g, cap, cur, e, hb, hg, h3⟩
  · exact .inl h0
  · refine .inr ⟨g, cap, cur, e, hb, ?_, h3⟩
    rw [ho.block g (World.ownsRow.lt h g (by rw [e]; rfl)).2 (hx g (by rw [e]; rfl))]
    exact hg
/-- A function with a body, as Go code has it. -/
def HasBody (fn : FuncId) : Prop := ∃ F c, Tryd.prog.funcs[fn]? = some F ∧ F.body = some c ∧ (F.name == "runtime.NumGoroutine") = false

theorem grown_set' (w : World) (g o : Nat) (v : Value) : w.grownBy (w.setCell ⟨g, o, none⟩ v) (some g) :=
  ⟨rfl, rfl, rfl, by simp [World.setCell], fun k _ hk => Below.heap_setCell _ _ _ k (fun e => hk (by rw [e]))⟩

end Go.Proofs.YtjifionpblpfoaaDoor

/-
  What the document's own reader of layer 8 does. Conditions: no more than 2^16 bytes.
-/
namespace Go.Proofs.YtjifionpblpfoaaDoor
open Go.RowKit
open Pol (co Sm)

/-- A reader of the document's in block g: its bytes, where it is, its error. -/
structure RR (w : World) (g : Nat) (B : Option Addr) (n cb a e : Nat) : Prop where
  c0 : w.cell? ⟨g, 0, none⟩ = some (.slice B n cb)
  c1 : w.cell? ⟨g, 1, none⟩ = some (.int .i64 (a : Int))
  c2 : w.cell? ⟨g, 2, none⟩ = some (.int .i64 (e : Int))
  z1 : w.frozen? ⟨g, 1, none⟩ = false
  z2 : w.frozen? ⟨g, 2, none⟩ = false
theorem off_ne8 (g : Nat) {a b : Nat} (h : a ≠ b) : (⟨g, a, none⟩ : Addr) ≠ ⟨g, b, none⟩ := fun e => h (by injection e)
theorem RR.drewN {w : World} {g : Nat} {B : Option Addr} {n cb a e : Nat} (h : RR w g B n cb a e) (q : Nat) : RR (w.drewN q) g B n cb a e := ⟨h.c0, h.c1, h.c2, h.z1, h.z2⟩
theorem RR.set1 {w : World} {g : Nat} {B : Option Addr} {n cb a e : Nat} (h : RR w g B n cb a e) (a' : Nat) : RR (w.setCell ⟨g, 1, none⟩ (.int .i64 (a' : Int))) g B n cb a' e :=
  ⟨(World.cell?_setCell_other _ _ _ _ (off_ne8 g (by omega))).trans h.c0, World.cell?_setCell_same' _ _ _ (by rw [h.c1]; rfl), (World.cell?_setCell_other _ _ _ _ (off_ne8 g (by omega))).trans h.c2, by rw [World.frozen?_setCell]; exact h.z1, by rw [World.frozen?_setCell]; exact h.z2⟩
theorem RR.set2 {w : World} {g : Nat} {B : Option Addr} {n cb a e : Nat} (h : RR w g B n cb a e) (e' : Nat) : RR (w.setCell ⟨g, 2, none⟩ (.int .i64 (e' : Int))) g B n cb a e' :=
  ⟨(World.cell?_setCell_other _ _ _ _ (off_ne8 g (by omega))).trans h.c0, (World.cell?_setCell_other _ _ _ _ (off_ne8 g (by omega))).trans h.c1, World.cell?_setCell_same' _ _ _ (by rw [h.c2]; rfl), by rw [World.frozen?_setCell]; exact h.z1, by rw [World.frozen?_setCell]; exact h.z2⟩
theorem RR.ext {w w' : World} {g : Nat} {B : Option Addr} {n cb a e : Nat} (h : RR w g B n cb a e) (hx : Ext w w') : RR w' g B n cb a e :=
  ⟨(hx.below.cell (p := ⟨g, 0, none⟩) (block_lt_of_cell h.c0)).trans h.c0, (hx.below.cell (p := ⟨g, 1, none⟩) (block_lt_of_cell h.c1)).trans h.c1, (hx.below.cell (p := ⟨g, 2, none⟩) (block_lt_of_cell h.c2)).trans h.c2, (hx.below.frozen (p := ⟨g, 1, none⟩) (block_lt_of_cell h.c1)).trans h.z1, (hx.below.frozen (p := ⟨g, 2, none⟩) (block_lt_of_cell h.c2)).trans h.z2⟩
theorem RR.only {X : Nat → Prop} {w w' : World} {g : Nat} {B : Option Addr} {n cb a e : Nat} (h : RR w g B n cb a e) (ho : Only X w w') (hx : ¬ X g) : RR w' g B n cb a e :=
  ⟨ho.cell h.c0 hx, ho.cell h.c1 hx, ho.cell h.c2 hx, (ho.frozen (o := 1) (block_lt_of_cell h.c1) hx).trans h.z1, (ho.frozen (o := 2) (block_lt_of_cell h.c2) hx).trans h.z2⟩
theorem rd_keep {w w' : World} {A : Option Addr} {l : List Nat} {g : Nat} (h : Rd w A l) (ho : Only (fun k => k = g) w w') (hne : ∀ b o, A = some ⟨b, o, none⟩ → 0 < l.length → b ≠ g) : Rd w' A l :=
  ⟨h.1, fun i hi => by
    obtain ⟨b, o, e, hc⟩ := h.2 i hi
    exact ⟨b, o, e, ho.cell hc (hne b o e (by omega))⟩⟩
/-- What a method of the document's reader leaves, of bytes l of which rest is left. -/
def RefE {α : Type} (l : List Nat) (g : Nat) (B : Option Addr) (cb : Nat) (V : Value → World → Option α → Prop) (r : Rs α) (w : World) (e : Ending) (w' : World) : Prop :=
  Only (fun k => k = g) w w' ∧ match r with
    | .ok a rest => ∃ v, e = .returned v ∧ V v w' (some a) ∧ RR w' g B l.length cb (l.length - rest.length) 0
    | .er n => ∃ v at', e = .returned v ∧ V v w' none ∧ RR w' g B l.length cb at' n

set_option maxHeartbeats 3200000 in
set_option maxRecDepth 100000 in
theorem ref8r_number (l rest : List Nat) (g : Nat) (B : Option Addr) (cb most : Nat) (w : World) (hr : Rd w B l) (hfar : ∀ b o, B = some ⟨b, o, none⟩ → 0 < l.length → b ≠ g) (hl : l.length ≤ 65536) (hd : ∃ pre, l = pre ++ rest) (hR : RR w g B l.length cb (l.length - rest.length) 0) (_hm : most < 18446744073709551616) :
    Calls Tryd.prog 32 #[.pointer (some ⟨g, 0, none⟩), .int .u64 (most : Int)] w (RefE l g B cb (fun v _ n => v = .int .u64 ((n.getD 0 : Nat) : Int)) (rdN most rest) w) := by
  have HR := Lib.hid hr
  have HFAR := Lib.hid hfar
  have HD := Lib.hid hd
  have HRR := Lib.hid hR
  obtain ⟨res, hres⟩ : ∃ res, rdN most rest = res := ⟨_, rfl⟩
  have HRES := Lib.hid hres
  rw [hres]
  clear hr hfar hd hR hres
  generalize hn : l.length = n at *
  have HN := Lib.hid hn
  clear hn
  go_enter Tryd.func32, Tryd.ntmps32
  go_wp2
  go_loopg [5, 6, 7] rest.length (fun gh s5 s6 s7 wx => ∃ (i acc sc : Nat) (rs pre : List Nat), rs.length = gh ∧ l = pre ++ rs ∧ i ≤ 9 ∧ s7 = .int .i64 (i : Int) ∧ s5 = .int .u64 (acc : Int) ∧ s6 = .int .u64 (sc : Int) ∧ sc = 128 ^ i ∧ acc < 128 ^ i ∧ rv most i acc rs = res ∧ RR wx g B n cb pre.length 0 ∧ Only (fun k => k = g) w wx)
  case atStart =>
    obtain ⟨pre, hp⟩ := HD.out
    have hpl : n - rest.length = pre.length := by rw [← HN.out, hp, List.length_append]; omega
    exact ⟨0, 0, 1, rest, pre, rfl, hp, by omega, rfl, rfl, rfl, rfl, by omega, HRES.out, by rw [← hpl]; exact HRR.out, Only.refl _ _⟩
  case round =>
    obtain ⟨i, acc, sc, rs, pre, hgh, hlp, hi9, rfl, rfl, rfl, hsc, hacc, hrv, hrr, ho⟩ := hrel
    have HR1 := Lib.hid hrr
    have HO := Lib.hid ho
    have z0 := hrr.c0
    have z1 := hrr.c1
    have z2 := hrr.c2
    have y1 := hrr.z1
    have y2 := hrr.z2
    obtain ⟨pa, hpa⟩ : ∃ pa, pre.length = pa := ⟨_, rfl⟩
    have hpn : pa + rs.length = n := by rw [← HN.out, hlp, List.length_append, hpa]
    have HLP := Lib.hid hlp
    rw [hpa] at z1 HR1
    clear ho hrr hlp
    cases rs with
    | nil =>
      obtain rfl : gk = 0 := by simpa using hgh.symm
      have hpn' : n ≤ pa := by simp at hpn; omega
      have d1 : decide (n ≤ pa) = true := decide_eq_true hpn'
      have hrs : res = .er 2 := by rw [← hrv, rv]
      subst hrs
      clear hrv hgh
      go_wp2
      go_quiet (fail)
      go_wp2
      go_ret
      exact ⟨(HO.out.drewN nq).trans (Only.of_grown (grown_set' _ _ _ _) (fun k e => by cases e; rfl)), _, _, rfl, rfl, HN.out ▸ (HR1.out.drewN nq).set2 2⟩
    | cons b rs =>
      cases gk with
      | zero => simp at hgh
      | succ gh =>
      obtain rfl : rs.length = gh := by simpa using hgh
      have hpn' : pa < n := by simp at hpn; omega
      have hpnI : (pa : Int) < (n : Int) := by omega
      have d1 : decide (n ≤ pa) = false := decide_eq_false (by omega)
      obtain ⟨pa1, hpa1⟩ : ∃ pa1, pa + 1 = pa1 := ⟨_, rfl⟩
      have ep : IntKind.i64.wrap ((pa : Int) + 1) = (pa1 : Int) := by rw [IntWalk.i64_in _ (by omega)]; omega
      have hcb : co l pa = b := by rw [HLP.out, ← hpa]; unfold co; rw [List.getElem?_append_right (Nat.le_refl _), Nat.sub_self]; rfl
      obtain ⟨b1, o1, e1, hc1⟩ := (rd_keep HR.out HO.out (by rw [HN.out]; exact HFAR.out)).2 pa (by rw [HN.out]; exact hpn')
      subst e1
      have hbb := HR.out.1 pa
      rw [hcb] at hc1 hbb
      have hne : b1 ≠ g := HFAR.out b1 o1 rfl (by omega)
      have HPB := Lib.hid (show (pre ++ [b]).length = pa1 by rw [List.length_append, hpa]; exact hpa1)
      have hpn1 : pa1 + rs.length = n := by simp at hpn; omega
      clear hcb hpa hpn hgh
      have HR2' := Lib.hid (fun q => (HR1.out.drewN q).set1 pa1)
      have HO2' := Lib.hid (fun q => (HO.out.drewN q).trans (Only.of_grown (grown_set' (wr.drewN q) g 1 (.int .i64 (pa1 : Int))) (fun k e => by cases e; rfl)))
      obtain ⟨y, hy⟩ : ∃ y, b % 128 = y := ⟨_, rfl⟩
      have e2 : (b : Int) % 128 = (y : Int) := by omega
      have e2' : (b : Int).tmod 128 = (y : Int) := by rw [Int.tmod_eq_emod_of_nonneg (by omega)]; exact e2
      have e3 : IntKind.u8.wrap (y : Int) = (y : Int) := IntWalk.u8_in _ (by omega)
      have e4 : IntKind.u64.wrap (y : Int) = (y : Int) := by rw [IntKind.wrap_u64]; omega
      rw [rv] at hrv
      have hval : acc + b % 128 * 128 ^ i = acc + y * sc := by rw [hy, hsc]
      rw [hval] at hrv
      clear hy
      go_wp2
      go_quiet (fail)
      revert nq
      intro q1
      go_wp2
      go_quiet (fail)
      have HR2 := Lib.hid ((HR1.out.drewN (q1 + nq)).set1 pa1)
      have HO2 := Lib.hid ((HO.out.drewN (q1 + nq)).trans (Only.of_grown (grown_set' (wr.drewN (q1 + nq)) g 1 (.int .i64 (pa1 : Int))) (fun k e => by cases e; rfl)))
      have c2' := HR2.out.c2
      have y2' := HR2.out.z2
      by_cases h9 : i = 9
      · have t9 : ((i : Int) == 9) = true := by rw [h9]; rfl
        by_cases hb1 : 1 < b
        · have d2 : decide (1 < (b : Int)) = true := decide_eq_true (by omega)
          rw [if_pos (.inl ⟨h9, hb1⟩)] at hrv
          subst hrv
          clear hval hsc hacc h9
          go_wp2
          go_ret
          exact ⟨HO2.out.trans (Only.of_grown (grown_set' _ g 2 (.int .i64 14)) (fun k e => by cases e; rfl)), _, _, rfl, rfl, HN.out ▸ HR2.out.set2 14⟩
        · have d2 : decide (1 < (b : Int)) = false := decide_eq_false (by omega)
          have d3 : decide (0 < (i : Int)) = true := decide_eq_true (by omega)
          have d3n : decide (0 < i) = true := decide_eq_true (by omega)
          by_cases hb0 : b = 0
          · have d4 : ((b : Int) == 0) = true := by rw [hb0]; rfl
            have d4n : decide (b = 0) = true := decide_eq_true hb0
            have d4m : (b == 0) = true := by rw [hb0]; rfl
            rw [if_pos (.inr ⟨by omega, hb0⟩)] at hrv
            subst hrv
            clear hval hsc hacc h9 hb0
            go_wp2
            go_ret
            exact ⟨HO2.out.trans (Only.of_grown (grown_set' _ g 2 (.int .i64 14)) (fun k e => by cases e; rfl)), _, _, rfl, rfl, HN.out ▸ HR2.out.set2 14⟩
          · have d4 : ((b : Int) == 0) = false := beq_eq_false_iff_ne.2 (by omega)
            have d4n : decide (b = 0) = false := decide_eq_false hb0
            have d4m : (b == 0) = false := beq_eq_false_iff_ne.2 hb0
            rw [if_neg (by omega)] at hrv
            have hbound : acc + y * sc < 18446744073709551616 := by
              have hy1 : y = 1 := by omega
              rw [hy1, hsc, h9]
              rw [h9] at hacc
              have h128 : (128 : Nat) ^ 9 = 9223372036854775808 := by decide
              omega
            have HSC := Lib.hid hsc
            have HAC := Lib.hid hacc
            clear hsc hacc h9
            obtain ⟨nv, hnv⟩ : ∃ nv, acc + y * sc = nv := ⟨_, rfl⟩
            have hnvb : nv < 18446744073709551616 := by rw [← hnv]; exact hbound
            rw [hnv] at hrv
            have e5 : IntKind.u64.wrap ((y : Int) * (sc : Int)) = ((y * sc : Nat) : Int) := by rw [← Int.natCast_mul, IntKind.wrap_u64]; omega
            obtain ⟨ys, hys⟩ : ∃ ys, y * sc = ys := ⟨_, rfl⟩
            rw [hys] at e5 hnv
            have e6 : IntKind.u64.wrap ((acc : Int) + (ys : Int)) = (nv : Int) := by rw [IntKind.wrap_u64]; omega
            by_cases h128 : b < 128
            · have d7 : decide ((b : Int) < 128) = true := decide_eq_true (by omega)
              rw [if_pos h128] at hrv
              by_cases hmo : most < nv
              · have d8 : decide (most < nv) = true := decide_eq_true hmo
                have d8' : decide ((most : Int) < (nv : Int)) = true := decide_eq_true (by omega)
                have hrs : res = .er 10 := by rw [← hrv, if_pos hmo]
                subst hrs
                clear hrv hval hnv hys hbound
                go_wp2
                go_ret
                exact ⟨HO2.out.trans (Only.of_grown (grown_set' _ g 2 (.int .i64 10)) (fun k e => by cases e; rfl)), _, _, rfl, rfl, HN.out ▸ HR2.out.set2 10⟩
              · have d8 : decide (most < nv) = false := decide_eq_false hmo
                have d8' : decide ((most : Int) < (nv : Int)) = false := decide_eq_false (by omega)
                have hrs : res = .ok nv rs := by rw [← hrv, if_neg hmo]
                subst hrs
                have HAT := Lib.hid (show n - rs.length = pa1 by omega)
                clear hrv hval hnv hys hbound
                go_wp2
                go_ret
                exact ⟨HO2.out, _, rfl, rfl, by rw [HN.out, HAT.out]; exact HR2.out⟩
            · have d7 : decide ((b : Int) < 128) = false := decide_eq_false (by omega)
              rw [if_neg h128] at hrv
              omega
      · have t9 : ((i : Int) == 9) = false := beq_eq_false_iff_ne.2 (by omega)
        have hscl : 128 * sc ≤ 9223372036854775808 := by
          have h1 : 128 * sc = 128 ^ (i + 1) := by rw [hsc, Nat.pow_succ, Nat.mul_comm]
          have h2 : (128 : Nat) ^ (i + 1) ≤ 128 ^ 9 := Nat.pow_le_pow_right (by omega) (by omega)
          have h3 : (128 : Nat) ^ 9 = 9223372036854775808 := by decide
          omega
        have hbound : acc + y * sc < 18446744073709551616 := by
          have h1 : y * sc ≤ 127 * sc := Nat.mul_le_mul_right sc (by omega)
          have h2 : acc < sc := by rw [hsc]; exact hacc
          omega
        by_cases hi0 : i = 0
        · have d3 : decide (0 < (i : Int)) = false := decide_eq_false (by omega)
          have d3n : decide (0 < i) = false := decide_eq_false (by omega)
          rw [if_neg (by omega)] at hrv
          have HSC := Lib.hid hsc
          have HAC := Lib.hid hacc
          clear hsc hacc hi0
          obtain ⟨nv, hnv⟩ : ∃ nv, acc + y * sc = nv := ⟨_, rfl⟩
          have hnvb : nv < 18446744073709551616 := by rw [← hnv]; exact hbound
          rw [hnv] at hrv
          have e5 : IntKind.u64.wrap ((y : Int) * (sc : Int)) = ((y * sc : Nat) : Int) := by rw [← Int.natCast_mul, IntKind.wrap_u64]; omega
          obtain ⟨ys, hys⟩ : ∃ ys, y * sc = ys := ⟨_, rfl⟩
          rw [hys] at e5 hnv
          have e6 : IntKind.u64.wrap ((acc : Int) + (ys : Int)) = (nv : Int) := by rw [IntKind.wrap_u64]; omega
          by_cases h128 : b < 128
          · have d7 : decide ((b : Int) < 128) = true := decide_eq_true (by omega)
            rw [if_pos h128] at hrv
            by_cases hmo : most < nv
            · have d8 : decide (most < nv) = true := decide_eq_true hmo
              have d8' : decide ((most : Int) < (nv : Int)) = true := decide_eq_true (by omega)
              have hrs : res = .er 10 := by rw [← hrv, if_pos hmo]
              subst hrs
              clear hrv hval hnv hys hbound
              go_wp2
              go_ret
              exact ⟨HO2.out.trans (Only.of_grown (grown_set' _ g 2 (.int .i64 10)) (fun k e => by cases e; rfl)), _, _, rfl, rfl, HN.out ▸ HR2.out.set2 10⟩
            · have d8 : decide (most < nv) = false := decide_eq_false hmo
              have d8' : decide ((most : Int) < (nv : Int)) = false := decide_eq_false (by omega)
              have hrs : res = .ok nv rs := by rw [← hrv, if_neg hmo]
              subst hrs
              have HAT := Lib.hid (show n - rs.length = pa1 by omega)
              clear hrv hval hnv hys hbound
              go_wp2
              go_ret
              exact ⟨HO2.out, _, rfl, rfl, by rw [HN.out, HAT.out]; exact HR2.out⟩
          · have d7 : decide ((b : Int) < 128) = false := decide_eq_false (by omega)
            rw [if_neg h128] at hrv
            have HRV := Lib.hid hrv
            obtain ⟨sc2, hsc2⟩ : ∃ sc2, sc * 128 = sc2 := ⟨_, rfl⟩
            have hsc3 : sc2 = 128 ^ (i + 1) := by rw [← hsc2, HSC.out, Nat.pow_succ]
            have hscb : sc2 < 18446744073709551616 := by rw [hsc3]; exact Nat.lt_of_le_of_lt (Nat.pow_le_pow_right (n := 128) (by omega) (show i + 1 ≤ 9 by omega)) (by decide)
            have e9 : IntKind.u64.wrap ((sc : Int) * 128) = (sc2 : Int) := by rw [IntKind.wrap_u64]; omega
            have hnv3 : nv < 128 ^ (i + 1) := by rw [← hsc3, ← hsc2, ← hnv, ← hys]; have : y * sc ≤ 127 * sc := Nat.mul_le_mul_right sc (by omega); have hacc := HAC.out; rw [← HSC.out] at hacc; omega
            have HHH := Lib.hid (show sc2 = 128 ^ (i + 1) ∧ nv < 128 ^ (i + 1) from ⟨hsc3, hnv3⟩)
            clear hrv hval hnv hys hbound hsc2 hsc3 hnv3
            go_wp2
            go_roundg rs.length
            case measure => omega
            case rel => exact ⟨i + 1, nv, sc2, rs, pre ++ [b], rfl, by rw [HLP.out, List.append_assoc]; rfl, by omega, by go_num, rfl, rfl, HHH.out.1, HHH.out.2, HRV.out, by rw [HPB.out]; exact HR2.out, HO2.out⟩
        · have d3 : decide (0 < (i : Int)) = true := decide_eq_true (by omega)
          have d3n : decide (0 < i) = true := decide_eq_true (by omega)
          by_cases hb0 : b = 0
          · have d4 : ((b : Int) == 0) = true := by rw [hb0]; rfl
            have d4n : decide (b = 0) = true := decide_eq_true hb0
            have d4m : (b == 0) = true := by rw [hb0]; rfl
            rw [if_pos (.inr ⟨by omega, hb0⟩)] at hrv
            subst hrv
            clear hval hsc hacc hb0 hbound hscl
            go_wp2
            go_ret
            exact ⟨HO2.out.trans (Only.of_grown (grown_set' _ g 2 (.int .i64 14)) (fun k e => by cases e; rfl)), _, _, rfl, rfl, HN.out ▸ HR2.out.set2 14⟩
          · have d4 : ((b : Int) == 0) = false := beq_eq_false_iff_ne.2 (by omega)
            have d4n : decide (b = 0) = false := decide_eq_false hb0
            have d4m : (b == 0) = false := beq_eq_false_iff_ne.2 hb0
            rw [if_neg (by omega)] at hrv
            have HSC := Lib.hid hsc
            have HAC := Lib.hid hacc
            clear hsc hacc
            obtain ⟨nv, hnv⟩ : ∃ nv, acc + y * sc = nv := ⟨_, rfl⟩
            have hnvb : nv < 18446744073709551616 := by rw [← hnv]; exact hbound
            rw [hnv] at hrv
            have e5 : IntKind.u64.wrap ((y : Int) * (sc : Int)) = ((y * sc : Nat) : Int) := by rw [← Int.natCast_mul, IntKind.wrap_u64]; omega
            obtain ⟨ys, hys⟩ : ∃ ys, y * sc = ys := ⟨_, rfl⟩
            rw [hys] at e5 hnv
            have e6 : IntKind.u64.wrap ((acc : Int) + (ys : Int)) = (nv : Int) := by rw [IntKind.wrap_u64]; omega
            by_cases h128 : b < 128
            · have d7 : decide ((b : Int) < 128) = true := decide_eq_true (by omega)
              rw [if_pos h128] at hrv
              by_cases hmo : most < nv
              · have d8 : decide (most < nv) = true := decide_eq_true hmo
                have d8' : decide ((most : Int) < (nv : Int)) = true := decide_eq_true (by omega)
                have hrs : res = .er 10 := by rw [← hrv, if_pos hmo]
                subst hrs
                clear hrv hval hnv hys hbound
                go_wp2
                go_ret
                exact ⟨HO2.out.trans (Only.of_grown (grown_set' _ g 2 (.int .i64 10)) (fun k e => by cases e; rfl)), _, _, rfl, rfl, HN.out ▸ HR2.out.set2 10⟩
              · have d8 : decide (most < nv) = false := decide_eq_false hmo
                have d8' : decide ((most : Int) < (nv : Int)) = false := decide_eq_false (by omega)
                have hrs : res = .ok nv rs := by rw [← hrv, if_neg hmo]
                subst hrs
                have HAT := Lib.hid (show n - rs.length = pa1 by omega)
                clear hrv hval hnv hys hbound
                go_wp2
                go_ret
                exact ⟨HO2.out, _, rfl, rfl, by rw [HN.out, HAT.out]; exact HR2.out⟩
            · have d7 : decide ((b : Int) < 128) = false := decide_eq_false (by omega)
              rw [if_neg h128] at hrv
              have HRV := Lib.hid hrv
              obtain ⟨sc2, hsc2⟩ : ∃ sc2, sc * 128 = sc2 := ⟨_, rfl⟩
              have hsc3 : sc2 = 128 ^ (i + 1) := by rw [← hsc2, HSC.out, Nat.pow_succ]
              have hscb : sc2 < 18446744073709551616 := by rw [hsc3]; exact Nat.lt_of_le_of_lt (Nat.pow_le_pow_right (n := 128) (by omega) (show i + 1 ≤ 9 by omega)) (by decide)
              have e9 : IntKind.u64.wrap ((sc : Int) * 128) = (sc2 : Int) := by rw [IntKind.wrap_u64]; omega
              have hnv3 : nv < 128 ^ (i + 1) := by rw [← hsc3, ← hsc2, ← hnv, ← hys]; have : y * sc ≤ 127 * sc := Nat.mul_le_mul_right sc (by omega); have hacc := HAC.out; rw [← HSC.out] at hacc; omega
              have HHH := Lib.hid (show sc2 = 128 ^ (i + 1) ∧ nv < 128 ^ (i + 1) from ⟨hsc3, hnv3⟩)
              clear hrv hval hnv hys hbound hsc2 hsc3 hnv3
              go_wp2
              go_roundg rs.length
              case measure => omega
              case rel => exact ⟨i + 1, nv, sc2, rs, pre ++ [b], rfl, by rw [HLP.out, List.append_assoc]; rfl, by omega, by go_num, rfl, rfl, HHH.out.1, HHH.out.2, HRV.out, by rw [HPB.out]; exact HR2.out, HO2.out⟩
end Go.Proofs.YtjifionpblpfoaaDoor

/-
  What the document's own reader of layer 8 does beside numbers: bytes, texts, its end. Conditions: no more than 2^16 bytes.
-/
namespace Go.Proofs.YtjifionpblpfoaaDoor
open Go.RowKit
open Pol (co Sm)

/-- Bytes that were handed back, or none. -/
def OptB (base : Nat) (v : Value) (w : World) (o : Option (List Nat)) : Prop := OwnB base v w (o.getD [])
theorem mine_own {w : World} {base : Nat} {v : Value} {l : List Nat} (h : Mine w base v l) (hs : Sm l) : OwnB base v w l := by
  obtain ⟨B, c, rfl, hc, hr⟩ := h.slice hs
  refine ⟨B, c, rfl, hc, hr, fun b o e hl => ?_⟩
  subst e
  rcases h.2 with ⟨e, hn⟩ | ⟨g, cap, cur, e, hb, _⟩
  · omega
  · injection e with e
    injection e with e
    injection e with e _
    rw [e]
    exact hb

set_option maxHeartbeats 3200000 in
set_option maxRecDepth 100000 in
theorem ref8r_bytes (l rest : List Nat) (g : Nat) (B : Option Addr) (cb m : Nat) (w : World) (hr : Rd w B l) (hcb : l.length ≤ cb) (hl : l.length ≤ 65536) (hd : ∃ pre, l = pre ++ rest) (hR : RR w g B l.length cb (l.length - rest.length) 0) (hm : m ≤ 1048576) :
    Calls Tryd.prog 52 #[.pointer (some ⟨g, 0, none⟩), .int .i64 (m : Int)] w (RefE l g B cb (OptB w.heap.size) (rdB m rest) w) := by
  obtain ⟨pre, hp⟩ := hd
  have hrl : pre.length + rest.length = l.length := by rw [hp, List.length_append]
  obtain ⟨pa, hpa⟩ : ∃ pa, pre.length = pa := ⟨_, rfl⟩
  rw [show l.length - rest.length = pa from by omega] at hR
  obtain ⟨rl, hrl2⟩ : ∃ rl, rest.length = rl := ⟨_, rfl⟩
  rw [hpa, hrl2] at hrl
  have HR := Lib.hid hr
  have HRR := Lib.hid hR
  have z0 := hR.c0
  have z1 := hR.c1
  have z2 := hR.c2
  have y1 := hR.z1
  have y2 := hR.z2
  have hgl := block_lt_of_cell hR.c0
  have HCUT := Lib.hid (fun k (hk : k ≤ rl) => show tab k (fun j => co l (pa + j)) = rest.take k from Lin.list_ext (by rw [tab_len, List.length_take]; omega) fun i hi => by
    rw [tab_len] at hi
    rw [co_tab, if_pos hi, hp, ← hpa]
    unfold co
    rw [List.getElem?_append_right (by omega), List.getElem?_take, if_pos hi]
    congr 2
    omega)
  have HSR := Lib.hid (show ∀ k, Sm (rest.take k) from fun k => Pol.co_lt_of fun z hz => hr.1.mem z (by rw [hp]; exact List.mem_append.2 (.inr (List.mem_of_mem_take hz))))
  have HRD := Lib.hid (show rdB m rest = if rl < m then .er 2 else .ok (rest.take m) (rest.drop m) from by unfold rdB; rw [hrl2])
  have HDL := Lib.hid (show (rest.drop m).length = rl - m by rw [List.length_drop, hrl2])
  have HTL := Lib.hid (fun k (hk : k ≤ rl) => show (rest.take k).length = k by rw [List.length_take, hrl2]; omega)
  rw [HRD.out]
  clear hr hR hp hpa hrl2
  generalize hn : l.length = n at *
  have HN := Lib.hid hn
  clear hn
  obtain ⟨df, hdf⟩ : ∃ df, n - pa = df := ⟨_, rfl⟩
  have e1 : IntKind.i64.wrap ((n : Int) - (pa : Int)) = (df : Int) := by rw [IntWalk.i64_in _ (by omega)]; omega
  by_cases hlt : rl < m
  · rw [if_pos hlt]
    have d1 : decide (df < m) = true := decide_eq_true (by omega)
    clear hdf HRD
    go_enter Tryd.func52, Tryd.ntmps52
    go_wp2
    go_quiet (fail)
    go_wp2
    go_ret
    exact ⟨((Only.refl _ w).drewN nq).trans (Only.of_grown (grown_set' _ g 2 (.int .i64 2)) (fun k e => by cases e; rfl)), _, _, rfl, ⟨none, 0, rfl, Nat.le_refl _, Rd.nil _ _, fun _ _ _ h => absurd h (by simp)⟩, HN.out ▸ (HRR.out.drewN nq).set2 2⟩
  · rw [if_neg hlt]
    have d1 : decide (df < m) = false := decide_eq_false (by omega)
    obtain ⟨p2, hp2⟩ : ∃ p2, pa + m = p2 := ⟨_, rfl⟩
    have e2 : IntKind.i64.wrap ((pa : Int) + (m : Int)) = (p2 : Int) := by rw [IntWalk.i64_in _ (by omega)]; omega
    obtain ⟨X, hX, hXr⟩ := run_cut_u8 B n cb pa p2 (by omega) (by omega)
    rw [show p2 - pa = m from by omega] at hX hXr
    obtain ⟨cx, hcx⟩ : ∃ cx, cb - pa = cx := ⟨_, rfl⟩
    rw [hcx] at hX
    have HXR := Lib.hid (fun W (hW : Ext w W) => show Rd W X (rest.take m) from by
      have h := hXr W l (HR.out.ext hW) (by rw [HN.out]; omega)
      rwa [HCUT.out m (by omega)] at h)
    have hp2n : p2 ≤ n := by omega
    have hpa2 : pa ≤ p2 := by omega
    have hp2c : p2 ≤ cb := by omega
    have HAT := Lib.hid (show n - (rl - m) = p2 by omega)
    have HT1 := Lib.hid (HTL.out m (by omega))
    have HS1 := Lib.hid (HSR.out m)
    clear hdf hXr hcx hp2 HRD HCUT
    generalize rest.take m = E at *
    go_enter Tryd.func52, Tryd.ntmps52
    go_wp2
    go_quiet (fail)
    revert nq
    intro q1
    go_wp2
    refine wp_region_stab (Two ⟨g, 0, none⟩ (.slice B n cb) ⟨g, 1, none⟩ (.int .i64 (pa : Int))) [0, 1, 2, 3, 4, 5, 6, 7, 8, 9, 10, 11, 12, 13, 14, 15] [(1, true), (2, true), (3, true), (4, true), (5, true), (6, true), (7, true), (8, true), (9, true), (10, true), (11, true), (12, true), (13, true), (14, true), (15, true), (0, false), (16, false), (17, false)] (by kernel_rfl) (fun c a a' w e h => ⟨e ▸ h.1, h.2⟩) (by kernel_rfl) ⟨z0, z1⟩ ?_
    refine stab_yes rfl (fun K hK => ?_)
    go_simp
    refine ⟨_, fun _ _ => rfl, hK _ ?_⟩
    clear hK K
    refine stab_yes rfl (fun K hK => ?_)
    go_simp
    refine ⟨_, fun _ _ => rfl, hK _ ?_⟩
    clear hK K
    refine stab_yes rfl (fun K hK => ?_)
    go_simp
    refine ⟨_, fun _ _ => rfl, hK _ ?_⟩
    clear hK K
    refine stab_yes rfl (fun K hK => ?_)
    go_simp
    refine ⟨(.slice B n cb), fun W hW => ?_, hK _ ?_⟩
    focus (have h1 := hW.1; go_simp; done)
    clear hK K
    refine stab_yes rfl (fun K hK => ?_)
    go_simp
    refine ⟨_, fun _ _ => rfl, hK _ ?_⟩
    clear hK K
    refine stab_yes rfl (fun K hK => ?_)
    go_simp
    refine ⟨_, fun _ _ => rfl, hK _ ?_⟩
    clear hK K
    refine stab_yes rfl (fun K hK => ?_)
    go_simp
    refine ⟨_, fun _ _ => rfl, hK _ ?_⟩
    clear hK K
    refine stab_yes rfl (fun K hK => ?_)
    go_simp
    refine ⟨(.int .i64 (pa : Int)), fun W hW => ?_, hK _ ?_⟩
    focus (have h1 := hW.2; go_simp; done)
    clear hK K
    refine stab_yes rfl (fun K hK => ?_)
    go_simp
    refine ⟨_, fun _ _ => rfl, hK _ ?_⟩
    clear hK K
    refine stab_yes rfl (fun K hK => ?_)
    go_simp
    refine ⟨_, fun _ _ => rfl, hK _ ?_⟩
    clear hK K
    refine stab_yes rfl (fun K hK => ?_)
    go_simp
    refine ⟨_, fun _ _ => rfl, hK _ ?_⟩
    clear hK K
    refine stab_yes rfl (fun K hK => ?_)
    go_simp
    refine ⟨(.int .i64 (pa : Int)), fun W hW => ?_, hK _ ?_⟩
    focus (have h1 := hW.2; go_simp; done)
    clear hK K
    refine stab_yes rfl (fun K hK => ?_)
    go_simp
    refine ⟨_, fun _ _ => rfl, hK _ ?_⟩
    clear hK K
    refine stab_yes rfl (fun K hK => ?_)
    go_simp
    refine ⟨_, fun _ _ => rfl, hK _ ?_⟩
    clear hK K
    refine stab_yes rfl (fun K hK => ?_)
    go_simp
    refine ⟨_, fun _ _ => rfl, hK _ ?_⟩
    clear hK K
    refine stab_one rfl (fun K hK => ?_)
    go_wp2
    have HRR1 := Lib.hid ((HRR.out.drewN (q1 + 1)).ext ((Ext.refl (w.drewN (q1 + 1))).alloc (.cells #[] 5)))
    have HXD := Lib.hid ((Ext.refl w).drewN (q1 + 1))
    have hsd : (w.drewN (q1 + 1)).heap.size = w.heap.size := rfl
    refine ⟨fun _ => ⟨HRR1.out.c0, HRR1.out.c1⟩, ?_⟩
    clear HRR1 z0 z1 z2 y1 y2
    refine stab_one rfl (fun K hK => ?_)
    go_wp2_with (at_builtin; refine wpList_append_rd rfl (.tmp 26) (.tmp 41) rfl w.heap.size _ [] E rfl (mine_empty (w.drewN (q1 + 1))) X m cx rfl HT1.out (HXR.out _ (HXD.out.alloc _)) (by rw [HT1.out]; simp; omega) (by simp) ?_; intro v' w3 hown' hg' hat'; rw [List.nil_append] at hown'; have hx3 := (HXD.out.alloc (.cells #[] 5)).more hg' (fun r e => by have := ((mine_empty (w.drewN (q1 + 1))).block r e).1; exact this); obtain ⟨Bv, cv, ev', hcv, _⟩ := hown'.slice HS1.out; rw [HT1.out] at ev' hcv; subst ev'; have HO := Lib.hid hown'; have HX3 := Lib.hid hx3; clear hown' hg' hat' hx3)
    have HR3 := Lib.hid (HRR.out.ext HX3.out)
    have z0 := HR3.out.c0
    have z1 := HR3.out.c1
    have y1 := HR3.out.z1
    refine ⟨fun h => absurd h (by decide), ?_⟩
    refine stab_one rfl (fun K hK => ?_)
    go_wp2
    refine ⟨fun h => absurd h (by decide), ?_⟩
    unfold wpStab
    go_wp2
    go_ret
    have hmv := mine_only (X := fun k => k = g) HO.out (Only.of_grown (grown_set' w3 g 1 (.int .i64 (p2 : Int))) (fun k e => by cases e; rfl)) (fun k hk e => by have := (HO.out.block k hk).1; omega)
    exact ⟨(Only.of_ext HX3.out).trans (Only.of_grown (grown_set' _ g 1 (.int .i64 (p2 : Int))) (fun k e => by cases e; rfl)), _, rfl, by
      have h := mine_own (hmv.down (base' := w.heap.size) (by omega)) HS1.out
      exact h, by rw [HN.out, HDL.out, HAT.out]; exact HR3.out.set1 p2⟩

theorem OwnB.down {base base' : Nat} {v : Value} {w : World} {l : List Nat} (h : OwnB base v w l) (hb : base' ≤ base) : OwnB base' v w l := by
  obtain ⟨B, c, e, hc, hr, hbl⟩ := h
  exact ⟨B, c, e, hc, hr, fun b o e hl => Nat.le_trans hb (hbl b o e hl)⟩
set_option maxHeartbeats 800000 in
theorem ref8r_none (g : Nat) (B : Option Addr) (n cb a e : Nat) (m : Int) (w : World) (hR : RR w g B n cb a e) (he : 0 < e) :
    Calls Tryd.prog 52 #[.pointer (some ⟨g, 0, none⟩), .int .i64 m] w (fun en w' => en = .returned (.slice none 0 0) ∧ w = w') := by
  have z2 := hR.c2
  have t0 : ((e : Int) != 0) = true := by simp; omega
  clear hR he
  go_enter Tryd.func52, Tryd.ntmps52
  go_wp2
  go_ret
  exact ⟨rfl, rfl⟩

set_option maxHeartbeats 1600000 in
set_option maxRecDepth 100000 in
theorem ref8r_text (l rest : List Nat) (g : Nat) (B : Option Addr) (cb m : Nat) (w : World) (hr : Rd w B l) (hcb : l.length ≤ cb) (hfar : ∀ b o, B = some ⟨b, o, none⟩ → 0 < l.length → b ≠ g) (hl : l.length ≤ 65536) (hd : ∃ pre, l = pre ++ rest) (hR : RR w g B l.length cb (l.length - rest.length) 0) (hm : m ≤ 5000) :
    Calls Tryd.prog 33 #[.pointer (some ⟨g, 0, none⟩), .int .i64 (m : Int)] w (RefE l g B cb (OptB w.heap.size) (rdT m rest) w) := by
  have HN := Lib.hid (ref8r_number l rest g B cb m w hr hfar hl hd hR (by omega))
  have e0 : max (m : Int) 0 = (m : Int) := by omega
  have e0' : max 0 (m : Int) = (m : Int) := by omega
  have e1 : IntKind.u64.wrap (m : Int) = (m : Int) := by rw [IntKind.wrap_u64]; omega
  have hsr : Sm rest := by obtain ⟨pre, hp⟩ := hd; rw [hp] at hr; exact (sm_split hr.1).2
  unfold rdT
  cases hres : rdN m rest with
  | er e =>
    rw [hres] at HN
    have he := (rdN_er hres).1
    clear hr hR hd hfar hres hsr
    go_enter Tryd.func33, Tryd.ntmps33
    go_wp2_with fail
    refine HN.out.mono ?_
    rintro en w1 ⟨ho, v, a, rfl, rfl, hrr⟩
    have HO := Lib.hid ho
    have HRR := Lib.hid hrr
    clear ho hrr
    go_wp2_with fail
    refine (ref8r_none g B l.length cb a e 0 w1 HRR.out he).mono ?_
    rintro en w2 ⟨rfl, rfl⟩
    go_wp2
    go_ret
    exact ⟨HO.out, _, a, rfl, ⟨none, 0, rfl, Nat.le_refl _, Rd.nil _ _, fun _ _ _ h => absurd h (by simp)⟩, HRR.out⟩
  | ok k r =>
    rw [hres] at HN
    obtain ⟨hk1, _, hk3⟩ := vn_rdN hsr hres
    have hkm : k ≤ 5000 := by omega
    have e2 : IntKind.i64.wrap (k : Int) = (k : Int) := IntWalk.i64_in _ (by omega)
    have HB := Lib.hid (fun w1 (ho : Only (fun k => k = g) w w1) (hrr : RR w1 g B l.length cb (l.length - r.length) 0) => ref8r_bytes l r g B cb k w1 (rd_keep hr ho hfar) hcb hl (by
      obtain ⟨pre, hp⟩ := hd
      exact ⟨pre ++ vn k, by rw [List.append_assoc, ← hk1]; exact hp⟩) hrr (by omega))
    show Calls _ _ _ _ (RefE l g B cb (OptB w.heap.size) (rdB k r) w)
    clear hr hR hd hfar hres hsr hk1 hk3
    go_enter Tryd.func33, Tryd.ntmps33
    go_wp2_with fail
    refine HN.out.mono ?_
    rintro en w1 ⟨ho, v, rfl, rfl, hrr⟩
    have HO := Lib.hid ho
    have HB1 := Lib.hid (HB.out w1 ho hrr)
    have hs1 := ho.size
    clear ho hrr
    go_wp2_with fail
    refine HB1.out.mono ?_
    intro en w2 h2
    cases hrd : rdB k r with
    | ok t r2 =>
      rw [hrd] at h2
      obtain ⟨ho2, v2, rfl, hv2, hrr2⟩ := h2
      have HH := Lib.hid (show Only (fun k => k = g) w w2 ∧ OwnB w.heap.size v2 w2 t ∧ RR w2 g B l.length cb (l.length - r2.length) 0 from ⟨HO.out.trans ho2, OwnB.down hv2 hs1, hrr2⟩)
      have HRD := Lib.hid hrd
      clear ho2 hv2 hrr2 hrd
      go_wp2
      go_ret
      refine ⟨HH.out.1, ?_⟩
      rw [HRD.out]
      exact ⟨_, rfl, HH.out.2.1, HH.out.2.2⟩
    | er e =>
      rw [hrd] at h2
      obtain ⟨ho2, v2, a, rfl, hv2, hrr2⟩ := h2
      have HH := Lib.hid (show Only (fun k => k = g) w w2 ∧ OwnB w.heap.size v2 w2 [] ∧ RR w2 g B l.length cb a e from ⟨HO.out.trans ho2, OwnB.down hv2 hs1, hrr2⟩)
      have HRD := Lib.hid hrd
      clear ho2 hv2 hrr2 hrd
      go_wp2
      go_ret
      refine ⟨HH.out.1, ?_⟩
      rw [HRD.out]
      exact ⟨_, a, rfl, HH.out.2.1, HH.out.2.2⟩

set_option maxHeartbeats 1600000 in
set_option maxRecDepth 100000 in
theorem ref8r_end (rest : List Nat) (g : Nat) (B : Option Addr) (n cb : Nat) (w : World) (hR : RR w g B n cb (n - rest.length) 0) (hl : rest.length ≤ n) :
    Calls Tryd.prog 34 #[.pointer (some ⟨g, 0, none⟩)] w (fun e w' => e = .returned (.int .i64 (if rest = [] then 0 else 3)) ∧ Only (fun k => k = g) w w') := by
  have z0 := hR.c0
  have z1 := hR.c1
  have z2 := hR.c2
  have y2 := hR.z2
  have HZ := Lib.hid (fun q v => World.cell?_setCell_same' (w.drewN q) ⟨g, 2, none⟩ v (by rw [show (w.drewN q).cell? ⟨g, 2, none⟩ = w.cell? ⟨g, 2, none⟩ from rfl, hR.c2]; rfl))
  clear hR
  cases rest with
  | nil =>
    rw [if_pos rfl]
    have d1 : decide (n - ([] : List Nat).length < n) = false := decide_eq_false (by simp)
    generalize n - ([] : List Nat).length = a at *
    clear hl
    go_enter Tryd.func34, Tryd.ntmps34
    go_wp2
    go_quiet (fail)
    go_wp2
    go_ret
    exact ⟨rfl, (Only.refl _ w).drewN nq⟩
  | cons x r =>
    rw [if_neg (by simp)]
    obtain ⟨a, ha⟩ : ∃ a, n - (x :: r).length = a := ⟨_, rfl⟩
    rw [ha] at z1
    have d1 : decide (a < n) = true := decide_eq_true (by simp at ha hl; omega)
    clear hl ha
    go_enter Tryd.func34, Tryd.ntmps34
    go_wp2
    go_quiet (fail)
    have z3 := HZ.out nq (.int .i64 3)
    go_wp2
    go_ret
    exact ⟨rfl, ((Only.refl _ w).drewN nq).trans (Only.of_grown (grown_set' _ g 2 (.int .i64 3)) (fun k e => by cases e; rfl))⟩
end Go.Proofs.YtjifionpblpfoaaDoor

/-
  The document's own reader of layer 8, whatever it has read before: numbers, texts, the end. Conditions: no more than 2^16 bytes.
-/
namespace Go.Proofs.YtjifionpblpfoaaDoor
open Go.RowKit
open Pol (co Sm)

/-- Where the reader of l stands: what is left, or its error. -/
def Stn (l : List Nat) (g : Nat) (B : Option Addr) (cb : Nat) (w : World) (r : Rs Unit) : Prop :=
  match r with
  | .ok _ rest => (∃ pre, l = pre ++ rest) ∧ RR w g B l.length cb (l.length - rest.length) 0
  | .er n => 0 < n ∧ ∃ a, RR w g B l.length cb a n
def Rs.unit {α : Type} (r : Rs α) : Rs Unit := match r with | .ok _ rest => .ok () rest | .er n => .er n
def Rs.val {α : Type} (r : Rs α) (z : α) : α := match r with | .ok a _ => a | .er _ => z
theorem Stn.ext {l : List Nat} {g cb : Nat} {B : Option Addr} {w w' : World} {r : Rs Unit} (h : Stn l g B cb w r) (hx : Ext w w') : Stn l g B cb w' r := by
  cases r with
  | ok u rest => exact ⟨h.1, h.2.ext hx⟩
  | er n =>
    obtain ⟨h0, a, h1⟩ := h
    exact ⟨h0, a, h1.ext hx⟩
theorem Stn.only {X : Nat → Prop} {l : List Nat} {g cb : Nat} {B : Option Addr} {w w' : World} {r : Rs Unit} (h : Stn l g B cb w r) (ho : Only X w w') (hx : ¬ X g) : Stn l g B cb w' r := by
  cases r with
  | ok u rest => exact ⟨h.1, h.2.only ho hx⟩
  | er n =>
    obtain ⟨h0, a, h1⟩ := h
    exact ⟨h0, a, h1.only ho hx⟩
theorem Stn.lt {l : List Nat} {g cb : Nat} {B : Option Addr} {w : World} {r : Rs Unit} (h : Stn l g B cb w r) : g < w.heap.size := by
  cases r with
  | ok u rest => exact block_lt_of_cell h.2.c0
  | er n =>
    obtain ⟨_, a, h1⟩ := h
    exact block_lt_of_cell h1.c0
set_option maxHeartbeats 1600000 in
theorem rd14_none (g : Nat) (B : Option Addr) (n cb a e most : Nat) (w : World) (hR : RR w g B n cb a e) (he : 0 < e) :
    Calls Tryd.prog 32 #[.pointer (some ⟨g, 0, none⟩), .int .u64 (most : Int)] w (fun en w' => en = .returned (.int .u64 0) ∧ w = w') := by
  have z2 := hR.c2
  have t0 : ((e : Int) == 0) = false := by simp; omega
  have t1 : decide ((e : Int) = 0) = false := decide_eq_false (by omega)
  have t2 : decide (e = 0) = false := decide_eq_false (by omega)
  clear hR he
  go_enter Tryd.func32, Tryd.ntmps32
  go_wp2
  go_loopg [5, 6, 7] 0 (fun gk s5 s6 s7 wx => w = wx)
  case atStart => rfl
  case round =>
    subst hrel
    go_wp2
    go_ret
    exact ⟨rfl, rfl⟩
set_option maxHeartbeats 1600000 in
theorem rd14_tnone (g : Nat) (B : Option Addr) (n cb a e : Nat) (most : Nat) (w : World) (hR : RR w g B n cb a e) (he : 0 < e) (hm : most < 9223372036854775808) :
    Calls Tryd.prog 33 #[.pointer (some ⟨g, 0, none⟩), .int .i64 (most : Int)] w (fun en w' => en = .returned (.slice none 0 0) ∧ w = w') := by
  have HN := Lib.hid (rd14_none g B n cb a e most w hR he)
  have HB := Lib.hid (ref8r_none g B n cb a e 0 w hR he)
  have e1 : IntKind.u64.wrap (most : Int) = (most : Int) := by rw [IntKind.wrap_u64]; omega
  have m1 : max (most : Int) 0 = (most : Int) := by omega
  clear hR he
  go_enter Tryd.func33, Tryd.ntmps33
  go_wp2_with fail
  refine HN.out.mono ?_
  rintro en w1 ⟨rfl, rfl⟩
  go_wp2_with fail
  refine HB.out.mono ?_
  rintro en w2 ⟨rfl, rfl⟩
  go_wp2
  go_ret
  exact ⟨rfl, rfl⟩
theorem rd14_number (l : List Nat) (g : Nat) (B : Option Addr) (cb most : Nat) (w : World) (r : Rs Unit) (hr : Rd w B l) (hfar : ∀ b o, B = some ⟨b, o, none⟩ → 0 < l.length → b ≠ g) (hl : l.length ≤ 65536) (hm : most < 18446744073709551616) (h : Stn l g B cb w r) :
    Calls Tryd.prog 32 #[.pointer (some ⟨g, 0, none⟩), .int .u64 (most : Int)] w
      (fun e w' => Only (fun k => k = g) w w' ∧ e = .returned (.int .u64 (((r.bind fun _ rest => rdN most rest).val 0 : Nat) : Int)) ∧ Stn l g B cb w' (r.bind fun _ rest => rdN most rest).unit) := by
  cases r with
  | er n =>
    obtain ⟨h0, a, h1⟩ := h
    refine (rd14_none g B l.length cb a n most w h1 h0).mono ?_
    rintro e w' ⟨rfl, rfl⟩
    exact ⟨Only.refl _ _, rfl, h0, a, h1⟩
  | ok u rest =>
    obtain ⟨⟨pre, hp⟩, h1⟩ := h
    have hs : Sm rest := by have h := hr.1; rw [hp] at h; exact (sm_split h).2
    refine (ref8r_number l rest g B cb most w hr hfar hl ⟨pre, hp⟩ h1 hm).mono ?_
    rintro e w' ⟨ho, h⟩
    show Only _ _ _ ∧ e = .returned (.int .u64 (((rdN most rest).val 0 : Nat) : Int)) ∧ Stn l g B cb w' (rdN most rest).unit
    cases hq : rdN most rest with
    | ok n rest' =>
      rw [hq] at h
      obtain ⟨v, he, hv, hR⟩ := h
      subst hv
      obtain ⟨e1, _, _⟩ := vn_rdN hs hq
      exact ⟨ho, he, ⟨pre ++ vn n, by rw [List.append_assoc, ← e1]; exact hp⟩, hR⟩
    | er n =>
      rw [hq] at h
      obtain ⟨v, a, he, hv, hR⟩ := h
      subst hv
      exact ⟨ho, he, (rdN_er hq).1, a, hR⟩
theorem rd14_text (l : List Nat) (g : Nat) (B : Option Addr) (cb most : Nat) (w : World) (r : Rs Unit) (hr : Rd w B l) (hcb : l.length ≤ cb) (hfar : ∀ b o, B = some ⟨b, o, none⟩ → 0 < l.length → b ≠ g) (hl : l.length ≤ 65536) (hm : most ≤ 5000) (h : Stn l g B cb w r) :
    Calls Tryd.prog 33 #[.pointer (some ⟨g, 0, none⟩), .int .i64 (most : Int)] w
      (fun e w' => Only (fun k => k = g) w w' ∧ (∃ D n c, e = .returned (.slice D n c) ∧ ((r.bind fun _ rest => rdT most rest).val []).length = n ∧ n ≤ c ∧ Rd w' D ((r.bind fun _ rest => rdT most rest).val []) ∧ ∀ b o, D = some ⟨b, o, none⟩ → 0 < n → w.heap.size ≤ b) ∧ Stn l g B cb w' (r.bind fun _ rest => rdT most rest).unit) := by
  cases r with
  | er n =>
    obtain ⟨h0, a, h1⟩ := h
    refine (rd14_tnone g B l.length cb a n most w h1 h0 (by omega)).mono ?_
    rintro e w' ⟨rfl, rfl⟩
    exact ⟨Only.refl _ _, ⟨none, 0, 0, rfl, rfl, Nat.le_refl _, Rd.nil _ _, fun b o h => by cases h⟩, h0, a, h1⟩
  | ok u rest =>
    obtain ⟨⟨pre, hp⟩, h1⟩ := h
    have hs : Sm rest := by have h := hr.1; rw [hp] at h; exact (sm_split h).2
    refine (ref8r_text l rest g B cb most w hr hcb hfar hl ⟨pre, hp⟩ h1 hm).mono ?_
    rintro e w' ⟨ho, h⟩
    show Only _ _ _ ∧ (∃ D n c, e = .returned (.slice D n c) ∧ ((rdT most rest).val []).length = n ∧ n ≤ c ∧ Rd w' D ((rdT most rest).val []) ∧ ∀ b o, D = some ⟨b, o, none⟩ → 0 < n → w.heap.size ≤ b) ∧ Stn l g B cb w' (rdT most rest).unit
    cases hq : rdT most rest with
    | ok n rest' =>
      rw [hq] at h
      obtain ⟨v, he, ⟨D, c, rfl, hc, hD, hb⟩, hR⟩ := h
      obtain ⟨e1, _, _⟩ := vt_rdT hs hq
      exact ⟨ho, ⟨D, _, c, he, rfl, hc, hD, fun b o e hn => hb b o e hn⟩, ⟨pre ++ vt n, by rw [List.append_assoc, ← e1]; exact hp⟩, hR⟩
    | er n =>
      rw [hq] at h
      obtain ⟨v, a, he, ⟨D, c, rfl, hc, hD, hb⟩, hR⟩ := h
      exact ⟨ho, ⟨D, _, c, he, rfl, hc, hD, fun b o e hn => hb b o e hn⟩, (rdT_er hq).1, a, hR⟩
/-- The error's number at the end. -/
def endc (r : Rs Unit) : Nat := match r with | .ok _ rest => if rest = [] then 0 else 3 | .er n => n
set_option maxHeartbeats 800000 in
theorem rd14_end (l : List Nat) (g : Nat) (B : Option Addr) (cb : Nat) (w : World) (r : Rs Unit) (h : Stn l g B cb w r) :
    Calls Tryd.prog 34 #[.pointer (some ⟨g, 0, none⟩)] w (fun e w' => e = .returned (.int .i64 ((endc r : Nat) : Int)) ∧ Only (fun k => k = g) w w') := by
  cases r with
  | ok u rest =>
    obtain ⟨⟨pre, hp⟩, h1⟩ := h
    refine (ref8r_end rest g B l.length cb w h1 (by rw [hp, List.length_append]; omega)).mono ?_
    rintro e w' ⟨he, ho⟩
    refine ⟨?_, ho⟩
    rw [he]
    unfold endc
    dsimp only
    split <;> rfl
  | er n =>
    obtain ⟨h0, a, h1⟩ := h
    have z2 := h1.c2
    have t0 : ((n : Int) == 0) = false := by simp; omega
    have t1 : decide ((n : Int) = 0) = false := decide_eq_false (by omega)
    have t2 : decide (n = 0) = false := decide_eq_false (by omega)
    clear h1 h0
    show Calls _ _ _ _ (fun e w' => e = .returned (.int .i64 (n : Int)) ∧ _)
    go_enter Tryd.func34, Tryd.ntmps34
    go_wp2
    go_quiet (fail)
    go_wp2
    go_ret
    exact ⟨rfl, (Only.refl _ w).drewN nq⟩
end Go.Proofs.YtjifionpblpfoaaDoor

/-
  What the document's own Decode of layer 14 does. Conditions: no more than 2^16 bytes.
-/
namespace Go.Proofs.YtjifionpblpfoaaDoor
open Go.RowKit
open Pol (co Sm)

/-- An order that was read, and the error's number. -/
def DecR (b : List Nat) (w : World) (e : Ending) (w' : World) : Prop :=
  Ext w w' ∧ ∃ B n c, e = .returned (.tuple #[.agg #[.int .i64 (dec14 b).2.k, .int .i64 (dec14 b).2.t, .int .u64 (((dec14 b).2.a : Nat) : Int), .slice B n c], .int .i64 (((dec14 b).1 : Nat) : Int)]) ∧ (dec14 b).2.m.length = n ∧ n ≤ c ∧ Rd w' B (dec14 b).2.m
/-- The reader's steps, and what they come to. -/
theorem dec14_steps (b : List Nat) : ∃ (r1 : Rs Nat) (r2 : Rs Nat) (r3 : Rs Nat) (r4 : Rs (List Nat)), r1 = (Rs.ok () b).bind (fun _ rest => rdN 2 rest) ∧ r2 = r1.unit.bind (fun _ rest => rdN 5 rest) ∧ r3 = r2.unit.bind (fun _ rest => rdN 18446744073709551615 rest) ∧ r4 = r3.unit.bind (fun _ rest => rdT 16 rest) ∧
    dec14 b = (if endc r4.unit ≠ 0 then (endc r4.unit, Od.zero) else if Od.right ⟨((r1.val 0 : Nat) : Int), ((r2.val 0 : Nat) : Int), r3.val 0, r4.val []⟩ then (0, ⟨((r1.val 0 : Nat) : Int), ((r2.val 0 : Nat) : Int), r3.val 0, r4.val []⟩) else (14, Od.zero)) := by
  refine ⟨_, _, _, _, rfl, rfl, rfl, rfl, ?_⟩
  unfold dec14 rdO
  show _ = _
  cases h1 : rdN 2 b with
  | er n =>
    have hn := (rdN_er h1).1
    simp only [Rs.bind, h1, Rs.unit, Rs.val, endc]
    rw [if_pos (by omega)]
  | ok k b1 =>
    cases h2 : rdN 5 b1 with
    | er n =>
      have hn := (rdN_er h2).1
      simp only [Rs.bind, h1, h2, Rs.unit, Rs.val, endc]
      rw [if_pos (by omega)]
    | ok t b2 =>
      cases h3 : rdN 18446744073709551615 b2 with
      | er n =>
        have hn := (rdN_er h3).1
        simp only [Rs.bind, h1, h2, h3, Rs.unit, Rs.val, endc]
        rw [if_pos (by omega)]
      | ok a b3 =>
        cases h4 : rdT 16 b3 with
        | er n =>
          have hn := (rdT_er h4).1
          simp only [Rs.bind, h1, h2, h3, h4, Rs.unit, Rs.val, endc]
          rw [if_pos (by omega)]
        | ok m b4 =>
          simp only [Rs.bind, h1, h2, h3, h4, Rs.unit, Rs.val, endc]
          by_cases hb : b4 = []
          · rw [if_pos hb, if_neg (by simpa using hb), if_neg (show ¬ (0 ≠ 0) from fun h => h rfl)]
          · rw [if_neg hb, if_pos hb, if_pos (by simp)]
theorem rdN_val_le {m : Nat} {l : List Nat} (hs : Sm l) : (rdN m l).val 0 ≤ m := by
  cases h : rdN m l with
  | er n => exact Nat.zero_le _
  | ok n rest => exact (vn_rdN hs h).2.2
theorem stn_val {l : List Nat} {g cb m : Nat} {B : Option Addr} {w : World} {r : Rs Unit} (h : Stn l g B cb w r) (hs : Sm l) : (r.bind fun _ rest => rdN m rest).val 0 ≤ m := by
  cases r with
  | er n => exact Nat.zero_le _
  | ok u rest =>
    obtain ⟨⟨pre, hp⟩, _⟩ := h
    rw [hp] at hs
    exact rdN_val_le (sm_split hs).2
theorem results_tx14 {fn : Func} {p u : Tmp} (h : fn.results = #[.cell p 46, .tmp u]) (tmps : Array Value) (w : World) (g : Nat) (t : TypeId) (cs : Array Value) (fr : Nat × Nat)
    (hp : tmps.getD p undef = .pointer (some ⟨g, 0, none⟩)) (hg : w.heap[g]? = some (.cells cs t fr)) (hi : (Tryd.prog.info? 46).map (·.size) = some cs.size) :
    (results fn tmps).run Tryd.prog w = .ok (.tuple #[.agg cs, tmps.getD u undef]) w := by
  have hl := run_loadVar_row w g t 46 cs fr _ hg Tryd.underlying46 rfl hi
  rw [results_cell_tmp h, hp]
  simp [asAddr, Result.andThen, hl]
theorem tx_size14 : (#[.int .i64 0, .int .i64 0, .int .u64 0, .slice none 0 0] : Array Value).size = (#[.int .i64 0, .int .i64 0, .int .u64 0, .slice none 0 0] : Array Value).size := rfl
end Go.Proofs.YtjifionpblpfoaaDoor

/-
  The document's Open of layer 16. Conditions: no more than 2^16 bytes.
-/
namespace Go.Proofs.YtjifionpblpfoaaDoor
open Go.RowKit
open Pol (co Sm)

/-- An order that is handed back, and the error's number. -/
def OdR (r : Nat × Od) (w : World) (e : Ending) (w' : World) : Prop :=
  Ext w w' ∧ ∃ B k c, e = .returned (.tuple #[.agg #[.int .i64 r.2.k, .int .i64 r.2.t, .int .u64 ((r.2.a : Nat) : Int), .slice B k c], .int .i64 ((r.1 : Nat) : Int)]) ∧ r.2.m.length = k ∧ k ≤ c ∧ Rd w' B r.2.m
theorem odR_no {r : Nat × Od} {w w' : World} {m : Nat} (h : r = (m, Od.zero)) (hx : Ext w w') : OdR r w (.returned (.tuple #[.agg #[.int .i64 0, .int .i64 0, .int .u64 0, .slice none 0 0], .int .i64 (m : Int)])) w' := by
  subst h
  exact ⟨hx, none, 0, 0, rfl, rfl, Nat.le_refl _, Rd.nil _ _⟩
theorem open16_chk {e : Ev} {p : List Nat} (h : e.chk ≠ 0) : open16 e p = (e.chk, Od.zero) := by unfold open16; rw [if_pos h]
theorem open16_len {e : Ev} {p : List Nat} (h : e.chk = 0) (hl : p.length ≠ e.b.length) : open16 e p = (1, Od.zero) := by unfold open16; rw [if_neg (by simpa using h), if_pos hl]
theorem open16_tail {e : Ev} {p : List Nat} (h : e.chk = 0) (hl : p.length = e.b.length) (ht : ¬ Tail0 (lx e.b p)) : open16 e p = (15, Od.zero) := by unfold open16; rw [if_neg (by simpa using h), if_neg (by simpa using hl), if_pos ht]
theorem open16_dec {e : Ev} {p : List Nat} (h : e.chk = 0) (hl : p.length = e.b.length) (ht : Tail0 (lx e.b p)) : open16 e p = if (dec14 (strp (lx e.b p))).1 ≠ 0 then (15, Od.zero) else dec14 (strp (lx e.b p)) := by
  unfold open16
  rw [if_neg (by simpa using h), if_neg (by simpa using hl), if_neg (by simpa using ht)]
theorem far_of_row {w : World} {g : Nat} {B : Option Addr} {l : List Nat} (h : Rd w B l) (hg : w.heap[g]? = some (.cells #[.int .i64 0, .int .i64 0, .int .u64 0, .slice none 0 0] 46)) : ∀ q o, B = some ⟨q, o, none⟩ → 0 < l.length → q ≠ g := fun q o e h0 e2 => by
  obtain ⟨b, o', e3, hc⟩ := h.2 0 h0
  rw [e] at e3
  injection e3 with e3
  injection e3 with e4 e5
  subst e4 e5 e2
  rw [cell_of_row _ _ _ _ _ _ hg] at hc
  match o, hc with
  | 0, hc => simp at hc
  | 1, hc => simp at hc
  | 2, hc => simp at hc
  | 3, hc => simp at hc
  | n + 4, hc => simp at hc
theorem slice_eta {v : Value} {w : World} {l : List Nat} (h : Sl w v l) : ∃ B n c, v = .slice B n c ∧ l.length = n ∧ n ≤ c ∧ Rd w B l := by
  obtain ⟨B, c, rfl, h1, h2⟩ := h
  exact ⟨B, _, c, rfl, rfl, h1, h2⟩
end Go.Proofs.YtjifionpblpfoaaDoor

/-
  What the laws of layer 16 that make and open envelopes stand on, over any code; and that the law's own awake holds. Conditions: those of EnvMk.
-/
namespace Go.Proofs.YtjifionpblpfoaaDoor
open Go.RowKit
open Pol (co Sm)

structure EnvMk : Prop where
  check : ∀ (s : Int) (n f x k c : Nat) (b : List Nat) (A : Option Addr) (w : World), b.length = k → k ≤ c → Rd w A b → k ≤ 65536 → n < 18446744073709551616 → f < 18446744073709551616 → x < 18446744073709551616 →
    Calls Tryd.prog 14 #[evv s n f x A k c] w (Tells (.int .i64 ((Ev.chk ⟨s, n, f, x, b⟩ : Nat) : Int)) w)
  make : ∀ (s : Int) (nn f x : Nat) (k t : Int) (a n c : Nat) (m p : List Nat) (A B : Option Addr) (np cp : Nat) (w : World), m.length = n → n ≤ c → Rd w A m → n ≤ 65536 → a < 18446744073709551616 → p.length = np → np ≤ cp → Rd w B p → np ≤ 65536 →
    nn < 18446744073709551616 → f < 18446744073709551616 → x < 18446744073709551616 →
    Calls Tryd.prog 23 #[.int .i64 s, .int .u64 (nn : Int), .int .u64 (f : Int), .int .u64 (x : Int), .agg #[.int .i64 k, .int .i64 t, .int .u64 (a : Int), .slice A n c], .slice B np cp] w (EvR (make16 s nn f x ⟨k, t, a, m⟩ p) w)
  opens : ∀ (s : Int) (nn f x kb c : Nat) (b p : List Nat) (A B : Option Addr) (np cp : Nat) (w : World), b.length = kb → kb ≤ c → Rd w A b → kb ≤ 65536 → p.length = np → np ≤ cp → Rd w B p → np ≤ 65536 →
    nn < 18446744073709551616 → f < 18446744073709551616 → x < 18446744073709551616 →
    Calls Tryd.prog 22 #[evv s nn f x A kb c, .slice B np cp] w (OdR (open16 ⟨s, nn, f, x, b⟩ p) w)

theorem tx_in16x {a b c d : Value} : (Tryd.prog.info? 50).map (·.size) = some (#[a, b, c, d] : Array Value).size := by kernel_rfl
theorem ex16_right : Od.right ⟨2, 0, 0, []⟩ := by decide
theorem ex16_make : make16 1 2 3 4 ⟨2, 0, 0, []⟩ [9, 9, 9, 9, 9, 9] = (0, ⟨1, 2, 3, 4, [13, 11, 9, 9, 9, 9]⟩) := by
  have e : Od.bytes ⟨2, 0, 0, []⟩ = [2, 0, 0, 0] := by
    unfold Od.bytes Od.enc vt
    rw [if_pos ex16_right]
    dsimp only
    rw [show vn (Int.toNat 2) = [2] from vn_lt (by decide), show vn (Int.toNat 0) = [0] from vn_lt (by decide), show vn 0 = [0] from vn_lt (by decide), show vn ([] : List Nat).length = [0] from vn_lt (by decide)]
    rfl
  unfold make16
  rw [if_neg (by simpa using ex16_right), e, if_neg (by simpa using (show FillOk [2, 0, 0, 0].length ((([9, 9, 9, 9, 9, 9] : List Nat).length : Nat) : Int) by decide)),
    show lx (fil [2, 0, 0, 0] ([9, 9, 9, 9, 9, 9] : List Nat).length) [9, 9, 9, 9, 9, 9] = [13, 11, 9, 9, 9, 9] by decide +kernel, if_neg (by decide)]
theorem ex16_sm : Sm [9, 9, 9, 9, 9, 9] := Sm.cons (by decide) (Sm.cons (by decide) (Sm.cons (by decide) (Sm.cons (by decide) (Sm.cons (by decide) (Sm.cons (by decide) Sm.nil)))))
theorem ex16_open : open16 ⟨1, 2, 3, 4, [13, 11, 9, 9, 9, 9]⟩ [9, 9, 9, 9, 9, 9] = (0, ⟨2, 0, 0, []⟩) := by
  have h := open_make (s := 1) (n := 2) (f := 3) (x := 4) (o := ⟨2, 0, 0, []⟩) (p := [9, 9, 9, 9, 9, 9]) (by decide) (by rw [ex16_make])
  rwa [ex16_make] at h
theorem ex16_check : Ev.chk ⟨0, 0, 0, 0, []⟩ = 5 := by decide
set_option maxHeartbeats 1600000 in
theorem awake16 (C : EnvMk) (w : World) : Calls Tryd.prog 8 #[] w (Holds w) := by
  have HM := Lib.hid (C.make 1 2 3 4 2 0 0 0 0 [] [9, 9, 9, 9, 9, 9] none (some ⟨w.heap.size, 0, none⟩) 6 6 (w.alloc (.cells #[.int .u8 9, .int .u8 9, .int .u8 9, .int .u8 9, .int .u8 9, .int .u8 9] 5)) rfl (Nat.le_refl _) (Rd.nil _ _) (by decide) (by decide) rfl (Nat.le_refl _) (rd_lit w [9, 9, 9, 9, 9, 9] ex16_sm) (by decide) (by decide) (by decide) (by decide))
  have HC := Lib.hid (fun u => C.check 0 0 0 0 0 0 [] none u rfl (Nat.le_refl _) (Rd.nil _ _) (by decide) (by decide) (by decide) (by decide))
  rw [ex16_check] at HC
  have HO := Lib.hid C.opens
  clear C
  go_enter Tryd.func8, Tryd.ntmps8
  go_wp2_with fail
  refine HM.out.mono ?_
  rintro e w1 ⟨hx1, B1, n1, c1, rfl, hn1, hc1, hr1⟩
  rw [ex16_make] at hn1 hr1 ⊢
  dsimp only at hn1 hr1 ⊢
  obtain rfl : n1 = 6 := hn1.symm
  have HX1 := Lib.hid (((Ext.refl w).alloc _).trans hx1)
  have HR1 := Lib.hid hr1
  have hxa := (Ext.refl w1).alloc (.cells #[.int .i64 1, .int .u64 2, .int .u64 3, .int .u64 4, .slice B1 6 c1] 25)
  have hrow := heap_alloc_new w1 (.cells #[.int .i64 1, .int .u64 2, .int .u64 3, .int .u64 4, .slice B1 6 c1] 25)
  have HZ := Lib.hid (heap_alloc_new w1 (.cells #[.int .i64 0, .int .u64 0, .int .u64 0, .int .u64 0, .slice none 0 0] 25))
  have HSV := Lib.hid (show (#[.int .i64 0, .int .u64 0, .int .u64 0, .int .u64 0, .slice none 0 0] : Array Value).size = (#[.int .i64 1, .int .u64 2, .int .u64 3, .int .u64 4, .slice B1 6 c1] : Array Value).size from rfl)
  have hone : (#[.int .i64 1, .int .u64 2, .int .u64 3, .int .u64 4, .slice B1 6 c1] : Array Value).all (·.oneCell') = true := by simp [Value.oneCell']
  have HXa := Lib.hid (HX1.out.trans hxa)
  have HRW := Lib.hid hrow
  have HRa := Lib.hid (HR1.out.ext hxa)
  have HC1 := Lib.hid hc1
  have HSM6 := Lib.hid (show Sm [13, 11, 9, 9, 9, 9] from HR1.out.1)
  clear hx1 hr1 hxa hrow hc1
  go_wp2_with (first | (with_reducible refine wpList_store_all rfl 25 (.tmp 1) (.tmp 9) rfl w1.heap.size _ #[.int .i64 1, .int .u64 2, .int .u64 3, .int .u64 4, .slice B1 6 c1] rfl rfl HZ.out ev_in16 HSV.out hone ?_; rw [World.setRow_alloc_new]; generalize w1.alloc (.cells #[.int .i64 1, .int .u64 2, .int .u64 3, .int .u64 4, .slice B1 6 c1] 25) = wa at *) | (with_reducible refine wpList_load_row rfl 25 (.tmp 1) rfl w1.heap.size rfl 25 #[.int .i64 1, .int .u64 2, .int .u64 3, .int .u64 4, .slice B1 6 c1] (0, 0) _ HRW.out Tryd.underlying25 rfl ev_in16 ?_))
  have hxb := (Ext.refl wa).alloc (.cells #[.int .u8 9, .int .u8 9, .int .u8 9, .int .u8 9, .int .u8 9, .int .u8 9] 5)
  refine (HO.out 1 2 3 4 6 c1 [13, 11, 9, 9, 9, 9] [9, 9, 9, 9, 9, 9] B1 (some ⟨wa.heap.size, 0, none⟩) 6 6 (wa.alloc (.cells #[.int .u8 9, .int .u8 9, .int .u8 9, .int .u8 9, .int .u8 9, .int .u8 9] 5)) rfl HC1.out (HRa.out.ext hxb) (by decide) rfl (Nat.le_refl _) (rd_lit wa [9, 9, 9, 9, 9, 9] ex16_sm) (by decide) (by decide) (by decide) (by decide)).mono ?_
  rintro e w2 ⟨hx2, B2, n2, c2, rfl, hn2, hc2, hr2⟩
  rw [ex16_open] at hn2 hr2 ⊢
  dsimp only at hn2 hr2 ⊢
  obtain rfl : n2 = 0 := hn2.symm
  have HX2 := Lib.hid (HXa.out.trans (hxb.trans hx2))
  have HW2 := Lib.hid ((hxb.trans hx2).row HRW.out)
  have HZ2 := Lib.hid (heap_alloc_new w2 (.cells #[.int .i64 0, .int .i64 0, .int .u64 0, .slice none 0 0] 50))
  have HSV2 := Lib.hid (show (#[.int .i64 0, .int .i64 0, .int .u64 0, .slice none 0 0] : Array Value).size = (#[.int .i64 2, .int .i64 0, .int .u64 0, .slice B2 0 c2] : Array Value).size from rfl)
  have hone2 : (#[.int .i64 2, .int .i64 0, .int .u64 0, .slice B2 0 c2] : Array Value).all (·.oneCell') = true := by simp [Value.oneCell']
  have hxc := (Ext.refl w2).alloc (.cells #[.int .i64 2, .int .i64 0, .int .u64 0, .slice B2 0 c2] 50)
  have HX3 := Lib.hid (HX2.out.trans hxc)
  have q1 := cell_of_row _ w1.heap.size 4 _ _ _ (hxc.row HW2.out)
  have q2 := cell_of_row _ w2.heap.size 0 _ _ _ (heap_alloc_new w2 (.cells #[.int .i64 2, .int .i64 0, .int .u64 0, .slice B2 0 c2] 50))
  have HQ := Lib.hid (And.intro q1 q2)
  clear hx2 hr2 hc2 hxb hxc q1 q2
  go_wp2_with (first | (with_reducible refine wpList_store_all rfl 50 (.tmp 3) (.tmp 15) rfl w2.heap.size _ #[.int .i64 2, .int .i64 0, .int .u64 0, .slice B2 0 c2] rfl rfl HZ2.out tx_in16x HSV2.out hone2 ?_; rw [World.setRow_alloc_new]; generalize w2.alloc (.cells #[.int .i64 2, .int .i64 0, .int .u64 0, .slice B2 0 c2] 50) = w3 at *; obtain ⟨q1, q2⟩ := HQ.out))
  refine (HC.out _).mono ?_
  rintro e w4 ⟨rfl, hx4⟩
  have HX4 := Lib.hid (HX3.out.trans hx4)
  clear hx4
  go_wp2
  go_ret
  exact ⟨rfl, HX4.out⟩
end Go.Proofs.YtjifionpblpfoaaDoor

/-
  What the document's own Bytes of layer 16 does. Conditions: an envelope that can be, with no more than 2^16 bytes.
-/
namespace Go.Proofs.YtjifionpblpfoaaDoor
open Go.RowKit
open Pol (co Sm)

set_option maxHeartbeats 6400000 in
set_option maxRecDepth 100000 in
theorem ref16_bytes (s nn f x k c : Nat) (b : List Nat) (A : Option Addr) (w : World) (hn : b.length = k) (hr : Rd w A b) (hl : k ≤ 65536) (h0 : s < 6) (h1 : nn < 18446744073709551616) (h2 : f < 18446744073709551616) (h3 : x < 18446744073709551616) :
    Calls Tryd.prog 13 #[evv (s : Int) nn f x A k c] w (OwnE (Ev.enc ⟨(s : Int), nn, f, x, b⟩) w) := by
  unfold OwnE
  have HX0 := Lib.hid ((Ext.refl w).alloc (.cells #[.int .i64 (s : Int), .int .u64 (nn : Int), .int .u64 (f : Int), .int .u64 (x : Int), .slice A k c] 25))
  have HG := Lib.hid (heap_alloc_new w (.cells #[.int .i64 (s : Int), .int .u64 (nn : Int), .int .u64 (f : Int), .int .u64 (x : Int), .slice A k c] 25))
  have HE := Lib.hid (show Ev.enc ⟨(s : Int), nn, f, x, b⟩ = vn s ++ vn nn ++ vn f ++ vn x ++ vt b from by
    unfold Ev.enc
    dsimp only
    rw [Int.toNat_natCast])
  have w8 : IntKind.u64.wrap (s : Int) = (s : Int) := by rw [IntKind.wrap_u64]; omega
  have HN0 := Lib.hid (fun u => ref8_number s u (by omega))
  have HN1 := Lib.hid (fun u => ref8_number nn u h1)
  have HN2 := Lib.hid (fun u => ref8_number f u h2)
  have HN3 := Lib.hid (fun u => ref8_number x u h3)
  have HTXT := Lib.hid (fun u (h : Ext w u) => show Calls Tryd.prog 36 #[.slice A k c] u (OwnE (vt b) u) from by
    have h := ref8_text b A c u (hr.ext h) (by omega)
    rwa [hn] at h)
  have T0 := Lib.hid (And.intro (vn_ten (show s < 18446744073709551616 by omega)) (vn_sm s))
  have T1 := Lib.hid (And.intro (vn_ten h1) (vn_sm nn))
  have T2 := Lib.hid (And.intro (vn_ten h2) (vn_sm f))
  have T3 := Lib.hid (And.intro (vn_ten h3) (vn_sm x))
  have T4 := Lib.hid (And.intro (show (vt b).length ≤ 65546 from by
    unfold vt
    have h1 := vn_ten (n := b.length) (by omega)
    rw [List.length_append]
    omega) (vt_sm hr.1))
  rw [HE.out]
  have q0 := cell_of_row _ w.heap.size 0 _ _ _ HG.out
  clear hr HE
  generalize vn s = V0 at *
  generalize vn nn = V1 at *
  generalize vn f = V2 at *
  generalize vn x = V3 at *
  generalize vt b = V4 at *
  go_enter Tryd.func13, Tryd.ntmps13
  go_wp2_with fail
  refine (HN0.out _).mono ?_
  rintro e w0 ⟨v0, rfl, hm, hx⟩
  have HX := Lib.hid (HX0.out.trans hx)
  have HR0 := Lib.hid (hx.row HG.out)
  have HM0 := Lib.hid (hm.down (base' := w.heap.size + 1) (by simp))
  clear hm hx q0
  have q1 := cell_of_row _ w.heap.size 1 _ _ _ HR0.out
  go_wp2_with fail
  refine (HN1.out _).mono ?_
  rintro e u1 ⟨v, rfl, hm, hx⟩
  obtain ⟨B1, c1, rfl, hc1, hr1⟩ := hm.slice T1.out.2
  have HY1 := Lib.hid (HX.out.trans hx)
  have HQ1 := Lib.hid (hx.row HR0.out)
  have HP1 := Lib.hid (mine_ext HM0.out hx)
  have HS1 := Lib.hid hr1
  obtain ⟨n1, hn1⟩ : ∃ q, V1.length = q := ⟨_, rfl⟩
  have HL1 := Lib.hid hn1
  rw [hn1] at hc1 ⊢
  clear hx hm hr1 hn1 q1 HX HR0 HM0
  go_wp2_with (first | (at_builtin; refine wpList_append_rd rfl (.tmp 8) (.tmp 11) rfl (w.heap.size + 1) _ (V0) V1 rfl HP1.out B1 n1 c1 rfl HL1.out HS1.out (by have := T0.out.1; have := T1.out.1; have := T2.out.1; have := T3.out.1; have := T4.out.1; (try simp only [List.length_append]); omega) (Nat.le_trans (by have := HQ1.out; exact row_lt this) (Nat.le_refl _)) ?_; intro v1 w1 hm hg _; have HX := Lib.hid (HY1.out.more hg (fun r e => by have h1 := (HP1.out.block r e).1; omega)); have HM1 := Lib.hid hm; have HR1 := Lib.hid ((Only.of_grown (X := fun k => w.heap.size < k) hg (fun k e => by have h1 := (HP1.out.block k e).1; omega)).row HQ1.out (by omega)); have q2 := cell_of_row _ w.heap.size 2 _ _ _ HR1.out; clear hm hg HY1 HQ1 HP1 HS1 HL1) | fail)
  go_wp2_with fail
  refine (HN2.out _).mono ?_
  rintro e u2 ⟨v, rfl, hm, hx⟩
  obtain ⟨B2, c2, rfl, hc2, hr2⟩ := hm.slice T2.out.2
  have HY2 := Lib.hid (HX.out.trans hx)
  have HQ2 := Lib.hid (hx.row HR1.out)
  have HP2 := Lib.hid (mine_ext HM1.out hx)
  have HS2 := Lib.hid hr2
  obtain ⟨n2, hn2⟩ : ∃ q, V2.length = q := ⟨_, rfl⟩
  have HL2 := Lib.hid hn2
  rw [hn2] at hc2 ⊢
  clear hx hm hr2 hn2 q2 HX HR1 HM1
  go_wp2_with (first | (at_builtin; refine wpList_append_rd rfl (.tmp 13) (.tmp 16) rfl (w.heap.size + 1) _ (V0 ++ V1) V2 rfl HP2.out B2 n2 c2 rfl HL2.out HS2.out (by have := T0.out.1; have := T1.out.1; have := T2.out.1; have := T3.out.1; have := T4.out.1; (try simp only [List.length_append]); omega) (Nat.le_trans (by have := HQ2.out; exact row_lt this) (Nat.le_refl _)) ?_; intro v2 w2 hm hg _; have HX := Lib.hid (HY2.out.more hg (fun r e => by have h1 := (HP2.out.block r e).1; omega)); have HM2 := Lib.hid hm; have HR2 := Lib.hid ((Only.of_grown (X := fun k => w.heap.size < k) hg (fun k e => by have h1 := (HP2.out.block k e).1; omega)).row HQ2.out (by omega)); have q3 := cell_of_row _ w.heap.size 3 _ _ _ HR2.out; clear hm hg HY2 HQ2 HP2 HS2 HL2) | fail)
  go_wp2_with fail
  refine (HN3.out _).mono ?_
  rintro e u3 ⟨v, rfl, hm, hx⟩
  obtain ⟨B3, c3, rfl, hc3, hr3⟩ := hm.slice T3.out.2
  have HY3 := Lib.hid (HX.out.trans hx)
  have HQ3 := Lib.hid (hx.row HR2.out)
  have HP3 := Lib.hid (mine_ext HM2.out hx)
  have HS3 := Lib.hid hr3
  obtain ⟨n3, hn3⟩ : ∃ q, V3.length = q := ⟨_, rfl⟩
  have HL3 := Lib.hid hn3
  rw [hn3] at hc3 ⊢
  clear hx hm hr3 hn3 q3 HX HR2 HM2
  go_wp2_with (first | (at_builtin; refine wpList_append_rd rfl (.tmp 18) (.tmp 21) rfl (w.heap.size + 1) _ (V0 ++ V1 ++ V2) V3 rfl HP3.out B3 n3 c3 rfl HL3.out HS3.out (by have := T0.out.1; have := T1.out.1; have := T2.out.1; have := T3.out.1; have := T4.out.1; (try simp only [List.length_append]); omega) (Nat.le_trans (by have := HQ3.out; exact row_lt this) (Nat.le_refl _)) ?_; intro v3 w3 hm hg _; have HX := Lib.hid (HY3.out.more hg (fun r e => by have h1 := (HP3.out.block r e).1; omega)); have HM3 := Lib.hid hm; have HR3 := Lib.hid ((Only.of_grown (X := fun k => w.heap.size < k) hg (fun k e => by have h1 := (HP3.out.block k e).1; omega)).row HQ3.out (by omega)); have q4 := cell_of_row _ w.heap.size 4 _ _ _ HR3.out; clear hm hg HY3 HQ3 HP3 HS3 HL3) | fail)
  go_wp2_with fail
  refine (HTXT.out _ HX.out).mono ?_
  rintro e u4 ⟨v, rfl, hm, hx⟩
  obtain ⟨B4, c4, rfl, hc4, hr4⟩ := hm.slice T4.out.2
  have HY4 := Lib.hid (HX.out.trans hx)
  have HQ4 := Lib.hid (hx.row HR3.out)
  have HP4 := Lib.hid (mine_ext HM3.out hx)
  have HS4 := Lib.hid hr4
  obtain ⟨n4, hn4⟩ : ∃ q, V4.length = q := ⟨_, rfl⟩
  have HL4 := Lib.hid hn4
  rw [hn4] at hc4 ⊢
  clear hx hm hr4 hn4 q4 HX HR3 HM3
  go_wp2_with (first | (at_builtin; refine wpList_append_rd rfl (.tmp 23) (.tmp 26) rfl (w.heap.size + 1) _ (V0 ++ V1 ++ V2 ++ V3) V4 rfl HP4.out B4 n4 c4 rfl HL4.out HS4.out (by have := T0.out.1; have := T1.out.1; have := T2.out.1; have := T3.out.1; have := T4.out.1; (try simp only [List.length_append]); omega) (Nat.le_trans (by have := HQ4.out; exact row_lt this) (Nat.le_refl _)) ?_; intro v4 w4 hm hg _; have HX := Lib.hid (HY4.out.more hg (fun r e => by have h1 := (HP4.out.block r e).1; omega)); have HM4 := Lib.hid hm; have HR4 := Lib.hid ((Only.of_grown (X := fun k => w.heap.size < k) hg (fun k e => by have h1 := (HP4.out.block k e).1; omega)).row HQ4.out (by omega)); clear hm hg HY4 HQ4 HP4 HS4 HL4) | fail)
  go_ret
  exact ⟨_, rfl, HM4.out.down (by omega), HX.out⟩
end Go.Proofs.YtjifionpblpfoaaDoor
