/-
  Part 4 of the texts that the seat's proofs stand on; each part of it begins with its own sentence and conditions. Conditions: those that each theorem names.
-/
import Derived.Test.YtnfgokbopndmgaaTellsPack3
import Derived.Lib.Hide
import Derived.ProofKit
import Derived.OpenShut
import Derived.SizedLaws
import Derived.ChangeSame
import Derived.Deep.Slices
import Derived.Deep.SlicePairs
import Derived.Lib.SmallJoins

/-
  What a ledger is in memory; what has, Balance, Nonce and Treasury do. Conditions: no more than 6 accounts.
-/
namespace Go.Proofs.Ytnfgokbopndmgaa
open Go.RowKit
open Pol (co)

/-- The ledger at block σ: its accounts in block g, with room for c, what is held back in block b. -/
structure LM (X : Nat → Prop) (σ g c b : Nat) (w : World) (m : Nat) (s : Lgr) : Prop where
  head : w.heap[σ]? = some (.cells #[.slice (some ⟨g, 0, none⟩) m c, .map (some b), .int .u64 ((s.t : Nat) : Int)] 76)
  acc : RowA w g m c s.b s.n
  map : Hm w b m s.f s.d
  xσ : X σ
  xg : X g
  xb : X b
  far : σ ≠ g ∧ σ ≠ b ∧ g ≠ b
def LgI : LgrP := fun X σ w m s => ∃ g c b, LM X σ g c b w m s
theorem LM.stay {X : Nat → Prop} {σ g c b m : Nat} {w w' : World} {s : Lgr} (h : LM X σ g c b w m s) (hk : ∀ k, X k → w'.heap[k]? = w.heap[k]?) : LM X σ g c b w' m s :=
  ⟨(hk σ h.xσ).trans h.head, h.acc.stay (hk _ h.xg), h.map.stay (hk _ h.xb), h.xσ, h.xg, h.xb, h.far⟩
theorem lgKeeps : Keeps LgI := ⟨fun ⟨g, c, b, h⟩ hk => ⟨g, c, b, h.stay hk⟩⟩
theorem LM.only {X Y : Nat → Prop} {σ g c b m : Nat} {w w' : World} {s : Lgr} (h : LM X σ g c b w m s) (ho : Only Y w w') (hY : ¬ Y σ ∧ ¬ Y g ∧ ¬ Y b) : LM X σ g c b w' m s :=
  ⟨(ho.block σ (row_lt h.head) hY.1).trans h.head, h.acc.stay (ho.block g h.acc.lt hY.2.1), h.map.stay (ho.block b h.map.lt hY.2.2), h.xσ, h.xg, h.xb, h.far⟩
theorem LM.ext {X : Nat → Prop} {σ g c b m : Nat} {w w' : World} {s : Lgr} (h : LM X σ g c b w m s) (hx : Ext w w') : LM X σ g c b w' m s := h.only (Y := fun _ => False) (Only.of_ext hx) ⟨id, id, id⟩
section
variable {X : Nat → Prop} {σ g c b m : Nat} {w : World} {s : Lgr}
theorem LM.c0 (h : LM X σ g c b w m s) : w.cell? ⟨σ, 0, none⟩ = some (.slice (some ⟨g, 0, none⟩) m c) := by rw [cell_of_row w σ 0 _ _ _ h.head]; rfl
theorem LM.c1 (h : LM X σ g c b w m s) : w.cell? ⟨σ, 1, none⟩ = some (.map (some b)) := by rw [cell_of_row w σ 1 _ _ _ h.head]; rfl
theorem LM.c2 (h : LM X σ g c b w m s) : w.cell? ⟨σ, 2, none⟩ = some (.int .u64 ((s.t : Nat) : Int)) := by rw [cell_of_row w σ 2 _ _ _ h.head]; rfl
theorem LM.free (h : LM X σ g c b w m s) (i : Nat) : w.frozen? ⟨σ, i, none⟩ = false := frozen_of_row w σ i _ _ h.head
theorem LM.set_b {i x : Nat} (h : LM X σ g c b w m s) : LM X σ g c b (w.setCell ⟨g, i * 2, none⟩ (.int .u64 (x : Int))) m { s with b := s.b.set i x } :=
  ⟨(heap_setCell_other w ⟨g, i * 2, none⟩ σ _ h.far.1).trans h.head, h.acc.set_b, h.map.stay (heap_setCell_other w ⟨g, i * 2, none⟩ b _ h.far.2.2.symm), h.xσ, h.xg, h.xb, h.far⟩
theorem LM.set_n {i x : Nat} (h : LM X σ g c b w m s) (hx : x < 18446744073709551616) : LM X σ g c b (w.setCell ⟨g, i * 2 + 1, none⟩ (.int .u64 (x : Int))) m { s with n := s.n.set i x } :=
  ⟨(heap_setCell_other w ⟨g, i * 2 + 1, none⟩ σ _ h.far.1).trans h.head, h.acc.set_d hx, h.map.stay (heap_setCell_other w ⟨g, i * 2 + 1, none⟩ b _ h.far.2.2.symm), h.xσ, h.xg, h.xb, h.far⟩
theorem LM.set_t {x : Nat} (h : LM X σ g c b w m s) : LM X σ g c b (w.setCell ⟨σ, 2, none⟩ (.int .u64 (x : Int))) m { s with t := x } :=
  ⟨heap_setCell_same w σ 2 _ _ _ h.head, h.acc.stay (heap_setCell_other w ⟨σ, 2, none⟩ g _ h.far.1.symm), h.map.stay (heap_setCell_other w ⟨σ, 2, none⟩ b _ h.far.2.1.symm), h.xσ, h.xg, h.xb, h.far⟩
end
set_option maxHeartbeats 800000 in
theorem lg_has {X : Nat → Prop} {σ g c b m : Nat} {s : Lgr} (w : World) (h : LM X σ g c b w m s) (who : Int) :
    Calls Try.prog 44 #[.pointer (some ⟨σ, 0, none⟩), .int .i64 who] w (fun e w' => e = .returned (.bool (decide (Inn m who))) ∧ w = w') := by
  have c0 := h.c0
  clear h
  by_cases h1 : 0 ≤ who
  · have d1 : decide (who ≥ 0) = true := decide_eq_true (by omega)
    have d1' : decide (0 ≤ who) = true := decide_eq_true (by omega)
    rw [show decide (Inn m who) = decide (who < (m : Int)) from decide_eq_decide.2 (by unfold Inn; omega)]
    go_enter Try.func44, Try.ntmps44
    go_wp2
    go_ret
    exact ⟨rfl, rfl⟩
  · have d1 : decide (who ≥ 0) = false := decide_eq_false (by omega)
    have d1' : decide (0 ≤ who) = false := decide_eq_false (by omega)
    rw [show decide (Inn m who) = false from decide_eq_false (by unfold Inn; omega)]
    go_enter Try.func44, Try.ntmps44
    go_wp2
    go_ret
    exact ⟨rfl, rfl⟩
set_option maxHeartbeats 800000 in
theorem lg_nhas (w : World) (who : Int) :
    Calls Try.prog 44 #[.pointer none, .int .i64 who] w (fun e w' => e = .returned (.bool false) ∧ w = w') := by
  go_enter Try.func44, Try.ntmps44
  go_wp2
  go_ret
  exact ⟨rfl, rfl⟩
set_option maxHeartbeats 800000 in
theorem lg_balance {X : Nat → Prop} {σ g c b m : Nat} {s : Lgr} (who : Int) (w : World) (h : LM X σ g c b w m s) :
    Calls Try.prog 20 #[.pointer (some ⟨σ, 0, none⟩), .int .i64 who] w (Tells (.int .u64 (((if Inn m who then co s.b who.toNat else 0) : Nat) : Int)) w) := by
  have HI := Lib.hid (lg_has w h who)
  have c0 := h.c0
  by_cases hin : Inn m who
  · rw [decide_eq_true hin] at HI
    rw [if_pos hin]
    obtain ⟨h0, h1⟩ := hin
    obtain ⟨i, rfl⟩ : ∃ i : Nat, (i : Int) = who := ⟨who.toNat, by omega⟩
    have hi : i < m := by omega
    have ci := h.acc.at_b hi
    rw [Int.toNat_natCast]
    clear h
    go_enter Try.func20, Try.ntmps20
    go_wp2_with fail
    refine HI.out.mono ?_
    rintro e w1 ⟨rfl, rfl⟩
    go_wp2
    go_ret
    exact ⟨rfl, Ext.refl _⟩
  · rw [decide_eq_false hin] at HI
    rw [if_neg hin]
    clear h
    go_enter Try.func20, Try.ntmps20
    go_wp2_with fail
    refine HI.out.mono ?_
    rintro e w1 ⟨rfl, rfl⟩
    go_wp2
    go_ret
    exact ⟨rfl, Ext.refl _⟩
set_option maxHeartbeats 800000 in
theorem lg_nonce {X : Nat → Prop} {σ g c b m : Nat} {s : Lgr} (who : Int) (w : World) (h : LM X σ g c b w m s) :
    Calls Try.prog 23 #[.pointer (some ⟨σ, 0, none⟩), .int .i64 who] w (Tells (.int .u64 (((if Inn m who then co s.n who.toNat else 0) : Nat) : Int)) w) := by
  have HI := Lib.hid (lg_has w h who)
  have c0 := h.c0
  by_cases hin : Inn m who
  · rw [decide_eq_true hin] at HI
    rw [if_pos hin]
    obtain ⟨h0, h1⟩ := hin
    obtain ⟨i, rfl⟩ : ∃ i : Nat, (i : Int) = who := ⟨who.toNat, by omega⟩
    have hi : i < m := by omega
    have ci := h.acc.at_d hi
    rw [Int.toNat_natCast]
    clear h
    go_enter Try.func23, Try.ntmps23
    go_wp2_with fail
    refine HI.out.mono ?_
    rintro e w1 ⟨rfl, rfl⟩
    go_wp2
    go_ret
    exact ⟨rfl, Ext.refl _⟩
  · rw [decide_eq_false hin] at HI
    rw [if_neg hin]
    clear h
    go_enter Try.func23, Try.ntmps23
    go_wp2_with fail
    refine HI.out.mono ?_
    rintro e w1 ⟨rfl, rfl⟩
    go_wp2
    go_ret
    exact ⟨rfl, Ext.refl _⟩
theorem lg_nbalance (who : Int) (w : World) : Calls Try.prog 20 #[.pointer none, .int .i64 who] w (Tells (.int .u64 0) w) := by
  have HI := Lib.hid (lg_nhas w who)
  go_enter Try.func20, Try.ntmps20
  go_wp2_with fail
  refine HI.out.mono ?_
  rintro e w1 ⟨rfl, rfl⟩
  go_wp2
  go_ret
  exact ⟨rfl, Ext.refl _⟩
theorem lg_treasury {X : Nat → Prop} {σ g c b m : Nat} {s : Lgr} (w : World) (h : LM X σ g c b w m s) :
    Calls Try.prog 26 #[.pointer (some ⟨σ, 0, none⟩)] w (Tells (.int .u64 ((s.t : Nat) : Int)) w) := by
  have c2 := h.c2
  clear h
  go_enter Try.func26, Try.ntmps26
  go_wp2
  go_ret
  exact ⟨rfl, Ext.refl _⟩
end Go.Proofs.Ytnfgokbopndmgaa

/-
  What Move does. Conditions: no more than 6 accounts, a total of no more than 2^60.
-/
namespace Go.Proofs.Ytnfgokbopndmgaa
open Go.RowKit
open Pol (co)

theorem only_set {X : Nat → Prop} {g : Nat} (w : World) (o : Nat) (v : Value) (hg : X g) : Only X w (w.setCell ⟨g, o, none⟩ v) := Only.of_grown (grown_set w g o v) (fun k e => by injection e with e; rw [← e]; exact hg)
set_option maxHeartbeats 1600000 in
theorem lg_move {X : Nat → Prop} {σ g c b m M x : Nat} {s : Lgr} (from' to' : Int) (w : World) (h : LM X σ g c b w m s) (hk : Good s m M) (hx : x < 18446744073709551616) :
    Calls Try.prog 41 #[.pointer (some ⟨σ, 0, none⟩), .int .i64 from', .int .i64 to', .int .u64 (x : Int)] w (OpP LgI X σ m w (if Inn m from' ∧ Inn m to' then s.move from'.toNat to'.toNat x else (1, s))) := by
  have HI := Lib.hid (lg_has w h from')
  have HJ := Lib.hid (lg_has w h to')
  have HR := Lib.hid h
  have c0 := h.c0
  by_cases hin : Inn m from'
  · by_cases hjn : Inn m to'
    · rw [decide_eq_true hin] at HI
      rw [decide_eq_true hjn] at HJ
      rw [if_pos ⟨hin, hjn⟩]
      obtain ⟨h0, h1⟩ := hin
      obtain ⟨h2, h3⟩ := hjn
      obtain ⟨i, rfl⟩ : ∃ i : Nat, (i : Int) = from' := ⟨from'.toNat, by omega⟩
      obtain ⟨j, rfl⟩ : ∃ i : Nat, (i : Int) = to' := ⟨to'.toNat, by omega⟩
      have hi : i < m := by omega
      have hj : j < m := by omega
      have ci := h.acc.at_b hi
      have zi := h.acc.free (i * 2)
      rw [Int.toNat_natCast, Int.toNat_natCast]
      obtain ⟨v, hv⟩ : ∃ v, co s.b i = v := ⟨_, rfl⟩
      rw [hv] at ci
      have HT := Lib.hid (show s.move i j x = if v < x then (9, s) else (0, { s with b := (s.b.set i (v - x)).set j (co (s.b.set i (v - x)) j + x) }) by rw [← hv]; rfl)
      by_cases h4 : v < x
      · rw [HT.out, if_pos h4]
        have d1 : decide ((v : Int) < (x : Int)) = true := decide_eq_true (by omega)
        have d2 : decide (v < x) = true := decide_eq_true h4
        clear h hk hv
        go_enter Try.func41, Try.ntmps41
        go_wp2_with fail
        refine HI.out.mono ?_
        rintro e w1 ⟨rfl, rfl⟩
        go_wp2_with fail
        refine HJ.out.mono ?_
        rintro e w1 ⟨rfl, rfl⟩
        go_wp2
        go_ret
        exact ⟨rfl, Only.refl _ _, _, _, _, HR.out⟩
      · rw [HT.out, if_neg h4]
        have d1 : decide ((v : Int) < (x : Int)) = false := decide_eq_false (by omega)
        have d2 : decide (v < x) = false := decide_eq_false h4
        have hle := (hk.ok.le i).1
        rw [hv] at hle
        have hM := hk.tot
        have HB := fun (u : Nat) (hu : co (s.b.set i (v - x)) j = u) => show u + x ≤ M from by
          have h1 := sum_set13 s.b i (v - x) (by rw [hk.ok.lb]; exact hi)
          have h2 := co_le_sum13 (s.b.set i (v - x)) j
          have h3 := hk.ok.sum
          rw [hv] at h1
          omega
        obtain ⟨y, hy⟩ : ∃ y, v - x = y := ⟨_, rfl⟩
        have e1 : IntKind.u64.wrap ((v : Int) - (x : Int)) = (y : Int) := by rw [IntKind.wrap_u64]; omega
        rw [hy] at HB ⊢
        have H1 := h.set_b (i := i) (x := y)
        have c0' := H1.c0
        have cj := H1.acc.at_b hj
        have zj := H1.acc.free (j * 2)
        change World.cell? _ _ = some (.int .u64 ((co (s.b.set i y) j : Nat) : Int)) at cj
        obtain ⟨u, hu⟩ : ∃ u, co (s.b.set i y) j = u := ⟨_, rfl⟩
        have hux := HB u hu
        rw [hu] at cj ⊢
        obtain ⟨z, hz⟩ : ∃ z, u + x = z := ⟨_, rfl⟩
        have e2 : IntKind.u64.wrap ((u : Int) + (x : Int)) = (z : Int) := by rw [IntKind.wrap_u64]; omega
        rw [hz]
        have H2 := Lib.hid (H1.set_b (i := j) (x := z))
        clear h hk hv HB hu hz hux hy H1 hM hle HT
        go_enter Try.func41, Try.ntmps41
        go_wp2_with fail
        refine HI.out.mono ?_
        rintro e w1 ⟨rfl, rfl⟩
        go_wp2_with fail
        refine HJ.out.mono ?_
        rintro e w1 ⟨rfl, rfl⟩
        go_wp2
        go_ret
        exact ⟨rfl, (only_set _ _ _ HR.out.xg).trans (only_set _ _ _ HR.out.xg), _, _, _, H2.out⟩
    · rw [decide_eq_true hin] at HI
      rw [decide_eq_false hjn] at HJ
      rw [if_neg (fun h => hjn h.2)]
      clear h hk hin hjn
      go_enter Try.func41, Try.ntmps41
      go_wp2_with fail
      refine HI.out.mono ?_
      rintro e w1 ⟨rfl, rfl⟩
      go_wp2_with fail
      refine HJ.out.mono ?_
      rintro e w1 ⟨rfl, rfl⟩
      go_wp2
      go_ret
      exact ⟨rfl, Only.refl _ _, _, _, _, HR.out⟩
  · rw [decide_eq_false hin] at HI
    rw [if_neg (fun h => hin h.1)]
    clear h hk hin HJ
    go_enter Try.func41, Try.ntmps41
    go_wp2_with fail
    refine HI.out.mono ?_
    rintro e w1 ⟨rfl, rfl⟩
    go_wp2
    go_ret
    exact ⟨rfl, Only.refl _ _, _, _, _, HR.out⟩
theorem lg_nmove (a b : Int) (x : Nat) (w : World) : Calls Try.prog 41 #[.pointer none, .int .i64 a, .int .i64 b, .int .u64 (x : Int)] w (Tells (.int .i64 1) w) := by
  have HI := Lib.hid (lg_nhas w a)
  go_enter Try.func41, Try.ntmps41
  go_wp2_with fail
  refine HI.out.mono ?_
  rintro e w1 ⟨rfl, rfl⟩
  go_wp2
  go_ret
  exact ⟨rfl, Ext.refl _⟩
end Go.Proofs.Ytnfgokbopndmgaa

/-
  What back, Fees, Deposits and Total do. Conditions: no more than 6 accounts, a total of no more than 2^60.
-/
namespace Go.Proofs.Ytnfgokbopndmgaa
open Go.RowKit
open Pol (co)

/-- The sum of the accounts that are still to come. -/
def lsum (left : Lit → Bool) (l : List Nat) : Nat → Nat
  | 0 => 0
  | m + 1 => lsum left l m + if left (ak m) then co l m else 0
theorem lsum_none {left : Lit → Bool} (l : List Nat) (h : ∀ k, left k = false) : ∀ m, lsum left l m = 0
  | 0 => rfl
  | m + 1 => by unfold lsum; rw [lsum_none l h m, h]; rfl
theorem lsum_take {left : Lit → Bool} (l : List Nat) : ∀ m, m ≤ l.length → (∀ i, i < m → left (ak i) = false → co l i = 0) → lsum left l m = (l.take m).sum
  | 0, _, _ => by simp [lsum]
  | m + 1, hm, h => by
    unfold lsum
    rw [lsum_take l m (by omega) (fun i hi => h i (by omega)), take_sum13 l m (by omega)]
    cases hl : left (ak m)
    · rw [h m (by omega) hl]; simp
    · simp
theorem lsum_all {left : Lit → Bool} (l : List Nat) {m : Nat} (hm : l.length = m) (h : ∀ i, i < m → left (ak i) = false → co l i = 0) : lsum left l m = l.sum := by
  rw [lsum_take l m (by omega) h, ← hm, List.take_length]
theorem lsum_other {left : Lit → Bool} (l : List Nat) {i : Nat} : ∀ m, m ≤ i → lsum (fun z => left z && !z.sameKey (ak i)) l m = lsum left l m
  | 0, _ => rfl
  | m + 1, hm => by
    unfold lsum
    rw [lsum_other l m (by omega)]
    rw [show (left (ak m) && !(ak m).sameKey (ak i)) = left (ak m) from by rw [Maps.sameKey_ne (ak_ne (by omega))]; simp]
theorem lsum_step {left : Lit → Bool} (l : List Nat) {i : Nat} (hl : left (ak i) = true) : ∀ m, i < m → lsum left l m = co l i + lsum (fun z => left z && !z.sameKey (ak i)) l m
  | 0, h => absurd h (by omega)
  | m + 1, h => by
    unfold lsum
    by_cases e : i = m
    · subst e
      rw [lsum_other l i (Nat.le_refl _), hl, show (true && !(ak i).sameKey (ak i)) = false from by rw [WideAt.sameKey_self (ak_key i)]; rfl]
      simp
      omega
    · rw [lsum_step l hl m (by omega), show (left (ak m) && !(ak m).sameKey (ak i)) = left (ak m) from by rw [Maps.sameKey_ne (ak_ne (fun h => e h.symm))]; simp]
      omega
set_option maxHeartbeats 3200000 in
theorem lg_back {X : Nat → Prop} {σ g c b m M : Nat} {s : Lgr} (w : World) (h : LM X σ g c b w m s) (hk : Good s m M) :
    Calls Try.prog 46 #[.pointer (some ⟨σ, 0, none⟩)] w (Tells (.agg #[.int .u64 ((s.f.sum : Nat) : Int), .int .u64 ((s.d.sum : Nat) : Int)]) w) := by
  have hm := hk.few
  have hx0 : Ext w ((w.alloc (.cells #[.int .u64 0, .int .u64 0] 84)).alloc (.cells #[.int .u64 0, .int .u64 0] 84)) := ((Ext.refl _).alloc _).alloc _
  have H0 := h.ext hx0
  have c1 := H0.c1
  have hbl := h.map.lt
  obtain ⟨D, ho, hhas, hat⟩ := H0.map
  have hR : ((w.alloc (.cells #[.int .u64 0, .int .u64 0] 84)).alloc (.cells #[.int .u64 0, .int .u64 0] 84)).heap[w.heap.size]? = some (.cells #[.int .u64 0, .int .u64 0] 84) := by
    rw [heap_alloc_old _ _ (by simp)]
    exact heap_alloc_new w _
  have hA : ((w.alloc (.cells #[.int .u64 0, .int .u64 0] 84)).alloc (.cells #[.int .u64 0, .int .u64 0] 84)).heap[w.heap.size + 1]? = some (.cells #[.int .u64 0, .int .u64 0] 84) := by
    have h := heap_alloc_new (w.alloc (.cells #[.int .u64 0, .int .u64 0] 84)) (.cells #[.int .u64 0, .int .u64 0] 84)
    rwa [show (w.alloc (.cells #[.int .u64 0, .int .u64 0] 84)).heap.size = w.heap.size + 1 from by simp] at h
  have hz : ((w.alloc (.cells #[.int .u64 0, .int .u64 0] 84)).alloc (.cells #[.int .u64 0, .int .u64 0] 84)).heap.size = w.heap.size + 2 := by simp
  have HR := Lib.hid hR
  have HA := Lib.hid hA
  have HX0 := Lib.hid hx0
  have HZ := Lib.hid hz
  have HK := Lib.hid hk
  have HHAS := Lib.hid hhas
  have HAT := Lib.hid hat
  have HBL := Lib.hid hbl
  clear h hk H0 hR hA hx0 hz hhas hat hbl
  go_enter Try.func46, Try.ntmps46
  go_wp2_with (first | (at_range; refine wpList_range_own _ rfl _ 73 rfl 3 84 KI Try.underlying73 RA b m D rfl ho ?_; intro w1 hrg hg1 hs1) | fail)
  go_frame
  rw [HZ.out] at hrg hs1 ⊢
  have HR1 := Lib.hid ((hg1.block _ (by rw [HZ.out]; omega) (by simp)).trans HR.out)
  have HA1 := Lib.hid ((hg1.block _ (by rw [HZ.out]; omega) (by simp)).trans HA.out)
  have HX1 := Lib.hid (HX0.out.more hg1 (fun k e => by cases e))
  obtain ⟨B, hB⟩ : ∃ B, w.heap.size = B := ⟨_, rfl⟩
  rw [hB] at HR1 HA1 HBL hrg hs1 ⊢
  clear c1 ho HR HA HX0 HZ hg1 hs1
  go_loopg [] (Maps.size D) (fun gk wx => ∃ (left : Lit → Bool) (F E : Nat), wx.ranges Try.prog 3 RA b (B + 2) m D left gk ∧ wx.heap[B]? = some (.cells #[.int .u64 0, .int .u64 0] 84) ∧ wx.heap[B + 1]? = some (.cells #[.int .u64 (F : Int), .int .u64 (E : Int)] 84) ∧
    F + lsum left s.f m = s.f.sum ∧ E + lsum left s.d m = s.d.sum ∧ (∀ kl, left kl = true → ∃ i, i < m ∧ kl = ak i) ∧ Ext w wx)
  case atStart =>
    have hz0 : ∀ i, i < m → Maps.has D (ak i) = false → co s.f i = 0 ∧ co s.d i = 0 := fun i hi hn => by
      have h1 := HAT.out i hi
      rw [Maps.atKey_of_not_has hn] at h1
      obtain ⟨e1, e2⟩ := amt_inj h1
      omega
    exact ⟨Maps.has D, 0, 0, hrg, HR1.out, HA1.out, by rw [Nat.zero_add]; exact lsum_all _ HK.out.ok.lf (fun i hi hn => (hz0 i hi hn).1), by rw [Nat.zero_add]; exact lsum_all _ HK.out.ok.ld (fun i hi hn => (hz0 i hi hn).2), HHAS.out, HX1.out⟩
  case round =>
    obtain ⟨left, F, E, hrg', hRr, hAr, hF, hE, hleft, hxr⟩ := hrel
    have HRr := Lib.hid hRr
    have HAr := Lib.hid hAr
    have HF := Lib.hid hF
    have HE := Lib.hid hE
    have HL := Lib.hid hleft
    have HXr := Lib.hid hxr
    clear hRr hAr hF hE hleft hxr hrg HX1 HA1 HR1 HHAS
    go_wp2_with (first | (at_next; refine wpList_next_ranges _ rfl _ rfl 3 KI RA (Value.int .i64) (fun p : Int × Int => Value.agg #[.int .u64 p.1, .int .u64 p.2]) (fun key kl hkey => by obtain ⟨x, rfl, _⟩ := Maps.keyOf_int_inv Try.underlying3 hkey; exact ⟨x, rfl⟩) (fun v y hv => by obtain ⟨f, d, rfl, _⟩ := RA_inv hv; exact ⟨(f, d), rfl⟩) b (B + 2) m D left gk rfl hrg' ?_ ?_) | fail)
    · intro _ hl0
      have HFs := Lib.hid (show s.f.sum = F by have := HF.out; rw [lsum_none s.f hl0] at this; omega)
      have HEs := Lib.hid (show s.d.sum = E by have := HE.out; rw [lsum_none s.d hl0] at this; omega)
      have a0 := cell_of_row _ (B + 1) 0 _ _ _ HAr.out
      have a1 := cell_of_row _ (B + 1) 1 _ _ _ HAr.out
      simp only [List.getElem?_toArray, List.getElem?_cons_zero, List.getElem?_cons_succ] at a0 a1
      have r0 := cell_of_row _ B 0 _ _ _ HRr.out
      have r1 := cell_of_row _ B 1 _ _ _ HRr.out
      simp only [List.getElem?_toArray, List.getElem?_cons_zero, List.getElem?_cons_succ] at r0 r1
      have z0 : wr.frozen? ⟨B, 0, none⟩ = false := frozen_of_row _ B 0 _ _ HRr.out
      have h1 : (wr.setCell ⟨B, 0, none⟩ (.int .u64 (F : Int))).heap[B]? = some (.cells #[.int .u64 (F : Int), .int .u64 0] 84) := heap_setCell_same wr B 0 _ _ _ HRr.out
      have r1' := cell_of_row _ B 1 _ _ _ h1
      simp only [List.getElem?_toArray, List.getElem?_cons_zero, List.getElem?_cons_succ] at r1'
      have z1 : (wr.setCell ⟨B, 0, none⟩ (.int .u64 (F : Int))).frozen? ⟨B, 1, none⟩ = false := frozen_of_row _ B 1 _ _ h1
      have h2 : ((wr.setCell ⟨B, 0, none⟩ (.int .u64 (F : Int))).setCell ⟨B, 1, none⟩ (.int .u64 (E : Int))).heap[B]? = some (.cells #[.int .u64 (F : Int), .int .u64 (E : Int)] 84) := heap_setCell_same _ B 1 _ _ _ h1
      have H2 := Lib.hid h2
      have HXX := Lib.hid (show Ext w ((wr.setCell ⟨B, 0, none⟩ (.int .u64 (F : Int))).setCell ⟨B, 1, none⟩ (.int .u64 (E : Int))) from (HXr.out.setCell (p := ⟨B, 0, none⟩) (by rw [hB]; exact Nat.le_refl _) _).setCell (p := ⟨B, 1, none⟩) (by rw [hB]; exact Nat.le_refl _) _)
      clear hl0 hrg' h1 h2
      go_wp2
      refine bodyPost_ret (results_cell_row Try.results46 _ _ B 84 _ (0, 0) _ rfl H2.out Try.underlying84 rfl (by kernel_rfl)) rfl ?_
      exact ⟨by rw [HFs.out, HEs.out], HXX.out⟩
    · intro x p1 p2 kl yd ypl w2 cnt' hkey hlk hv hat hrg2 hlt hg2 hs2 hen
      obtain ⟨i, hi, rfl⟩ := HL.out kl hlk
      rw [RA_mk] at hv
      injection hv with hv
      injection hv with hv _
      have h1 := hat (amt 0 0)
      rw [HAT.out i hi, ← hv] at h1
      obtain ⟨e3, e4⟩ := amt_inj h1
      subst e3 e4
      have hsf := HF.out
      have hsd := HE.out
      rw [lsum_step s.f hlk m hi] at hsf
      rw [lsum_step s.d hlk m hi] at hsd
      have hM := HK.out.ok.sum
      have hM2 := HK.out.tot
      obtain ⟨p, hp⟩ : ∃ p, co s.f i = p := ⟨_, rfl⟩
      obtain ⟨q, hq⟩ : ∃ q, co s.d i = q := ⟨_, rfl⟩
      rw [hp] at hen hsf
      rw [hq] at hen hsd
      obtain ⟨F2, hF2⟩ : ∃ f, F + p = f := ⟨_, rfl⟩
      obtain ⟨E2, hE2⟩ : ∃ f, E + q = f := ⟨_, rfl⟩
      have w1 : IntKind.u64.wrap ((F : Int) + (p : Int)) = (F2 : Int) := by rw [IntKind.wrap_u64]; omega
      have w2' : IntKind.u64.wrap ((E : Int) + (q : Int)) = (E2 : Int) := by rw [IntKind.wrap_u64]; omega
      have HSF := Lib.hid (show F2 + lsum (fun z => left z && !z.sameKey (ak i)) s.f m = s.f.sum by omega)
      have HSD := Lib.hid (show E2 + lsum (fun z => left z && !z.sameKey (ak i)) s.d m = s.d.sum by omega)
      have HL2 := Lib.hid (show ∀ kl, (left kl && !kl.sameKey (ak i)) = true → ∃ j, j < m ∧ kl = ak j from fun kl h => HL.out kl (by simp at h; exact h.1))
      have hA2 : w2.heap[B + 1]? = some (.cells #[.int .u64 (F : Int), .int .u64 (E : Int)] 84) := (hg2.block _ (row_lt HAr.out) (fun e => by injection e with e; omega)).trans HAr.out
      have hR2 : w2.heap[B]? = some (.cells #[.int .u64 0, .int .u64 0] 84) := (hg2.block _ (row_lt HRr.out) (fun e => by injection e with e; omega)).trans HRr.out
      have hAa : (w2.alloc (.cells #[.int .u64 (p : Int), .int .u64 (q : Int)] 84)).heap[B + 1]? = some (.cells #[.int .u64 (F : Int), .int .u64 (E : Int)] 84) := by
        rw [heap_alloc_old _ _ (row_lt hA2)]; exact hA2
      have hNa := heap_alloc_new w2 (.cells #[.int .u64 (p : Int), .int .u64 (q : Int)] 84)
      have hlA := row_lt hA2
      have hlR := row_lt hR2
      have a0 := cell_of_row _ (B + 1) 0 _ _ _ hAa
      have zA0 : (w2.alloc (.cells #[.int .u64 (p : Int), .int .u64 (q : Int)] 84)).frozen? ⟨B + 1, 0, none⟩ = false := frozen_of_row _ (B + 1) 0 _ _ hAa
      have n0 := cell_of_row _ w2.heap.size 0 _ _ _ hNa
      have hAb : ((w2.alloc (.cells #[.int .u64 (p : Int), .int .u64 (q : Int)] 84)).setCell ⟨B + 1, 0, none⟩ (.int .u64 (F2 : Int))).heap[B + 1]? = some (.cells #[.int .u64 (F2 : Int), .int .u64 (E : Int)] 84) := heap_setCell_same _ (B + 1) 0 _ _ _ hAa
      have hNb := (heap_setCell_other (w2.alloc (.cells #[.int .u64 (p : Int), .int .u64 (q : Int)] 84)) ⟨B + 1, 0, none⟩ w2.heap.size (.int .u64 (F2 : Int)) (by dsimp only; omega)).trans hNa
      have a1 := cell_of_row _ (B + 1) 1 _ _ _ hAb
      have zA1 : ((w2.alloc (.cells #[.int .u64 (p : Int), .int .u64 (q : Int)] 84)).setCell ⟨B + 1, 0, none⟩ (.int .u64 (F2 : Int))).frozen? ⟨B + 1, 1, none⟩ = false := frozen_of_row _ (B + 1) 1 _ _ hAb
      have n1 := cell_of_row _ w2.heap.size 1 _ _ _ hNb
      simp only [List.getElem?_toArray, List.getElem?_cons_zero, List.getElem?_cons_succ] at a0 a1 n0 n1
      have hAc : (((w2.alloc (.cells #[.int .u64 (p : Int), .int .u64 (q : Int)] 84)).setCell ⟨B + 1, 0, none⟩ (.int .u64 (F2 : Int))).setCell ⟨B + 1, 1, none⟩ (.int .u64 (E2 : Int))).heap[B + 1]? = some (.cells #[.int .u64 (F2 : Int), .int .u64 (E2 : Int)] 84) := heap_setCell_same _ (B + 1) 1 _ _ _ hAb
      have HAc := Lib.hid hAc
      have HRc := Lib.hid (show (((w2.alloc (.cells #[.int .u64 (p : Int), .int .u64 (q : Int)] 84)).setCell ⟨B + 1, 0, none⟩ (.int .u64 (F2 : Int))).setCell ⟨B + 1, 1, none⟩ (.int .u64 (E2 : Int))).heap[B]? = some (.cells #[.int .u64 0, .int .u64 0] 84) by
        rw [heap_setCell_other _ ⟨B + 1, 1, none⟩ B _ (by dsimp only; omega), heap_setCell_other _ ⟨B + 1, 0, none⟩ B _ (by dsimp only; omega), heap_alloc_old _ _ hlR]; exact hR2)
      have hbB := HBL.out
      have HRG := Lib.hid (((hrg2.alloc (.cells #[.int .u64 (p : Int), .int .u64 (q : Int)] 84)).kept (grown_set _ (B + 1) 0 (.int .u64 (F2 : Int))) (fun e => by injection e with e; omega) (fun e => by injection e with e; omega)).kept (grown_set _ (B + 1) 1 (.int .u64 (E2 : Int))) (fun e => by injection e with e; omega) (fun e => by injection e with e; omega))
      have HXc := Lib.hid ((((HXr.out.more hg2 (fun k e => by injection e with e; omega)).alloc (.cells #[.int .u64 (p : Int), .int .u64 (q : Int)] 84)).setCell (p := ⟨B + 1, 0, none⟩) (by dsimp only; omega) (.int .u64 (F2 : Int))).setCell (p := ⟨B + 1, 1, none⟩) (by dsimp only; omega) (.int .u64 (E2 : Int)))
      clear hkey hlk hv hat h1 hsf hsd hM hM2 hp hq hF2 hE2 hA2 hR2 hAa hNa hlA hlR hAb hNb hAc hbB hrg2 hg2 hs2 hrg'
      go_wp2
      go_roundg cnt'
      case measure => exact hlt
      case rel => exact ⟨_, F2, E2, HRG.out, HRc.out, HAc.out, HSF.out, HSD.out, HL2.out, HXc.out⟩
end Go.Proofs.Ytnfgokbopndmgaa

/-
  What Fees, Deposits and Total do. Conditions: no more than 6 accounts, a total of no more than 2^60.
-/
namespace Go.Proofs.Ytnfgokbopndmgaa
open Go.RowKit
open Pol (co)

theorem fld13a (a b : Value) (W : World) : (Instr.field 84 (.agg #[a, b]) 0).run Try.prog W = .ok a W := by
  simp [Instr.field, run_underlying Try.underlying84, asAgg, part, isAgg, run_underlying Try.underlying22]
theorem fld13b (a b : Value) (W : World) : (Instr.field 84 (.agg #[a, b]) 1).run Try.prog W = .ok b W := by
  simp [Instr.field, run_underlying Try.underlying84, asAgg, part, isAgg, run_underlying Try.underlying22]
set_option maxHeartbeats 800000 in
theorem lg_fees {X : Nat → Prop} {σ g c b m M : Nat} {s : Lgr} (w : World) (h : LM X σ g c b w m s) (hk : Good s m M) :
    Calls Try.prog 24 #[.pointer (some ⟨σ, 0, none⟩)] w (Tells (.int .u64 ((s.f.sum : Nat) : Int)) w) := by
  have HB := Lib.hid (lg_back w h hk)
  clear h hk
  have qf := fld13a
  go_enter Try.func24, Try.ntmps24
  go_wp2_with fail
  refine HB.out.mono ?_
  rintro e w1 ⟨rfl, hx⟩
  have HX := Lib.hid hx
  clear hx
  go_wp2
  go_ret
  exact ⟨rfl, HX.out⟩
set_option maxHeartbeats 800000 in
theorem lg_deposits {X : Nat → Prop} {σ g c b m M : Nat} {s : Lgr} (w : World) (h : LM X σ g c b w m s) (hk : Good s m M) :
    Calls Try.prog 25 #[.pointer (some ⟨σ, 0, none⟩)] w (Tells (.int .u64 ((s.d.sum : Nat) : Int)) w) := by
  have HB := Lib.hid (lg_back w h hk)
  clear h hk
  have qf := fld13b
  go_enter Try.func25, Try.ntmps25
  go_wp2_with fail
  refine HB.out.mono ?_
  rintro e w1 ⟨rfl, hx⟩
  have HX := Lib.hid hx
  clear hx
  go_wp2
  go_ret
  exact ⟨rfl, HX.out⟩
set_option maxHeartbeats 800000 in
theorem lg_nback (w : World) : Calls Try.prog 46 #[.pointer none] w (Tells (.agg #[.int .u64 0, .int .u64 0]) w) := by
  have hx0 : Ext w ((w.alloc (.cells #[.int .u64 0, .int .u64 0] 84)).alloc (.cells #[.int .u64 0, .int .u64 0] 84)) := ((Ext.refl _).alloc _).alloc _
  have hR : ((w.alloc (.cells #[.int .u64 0, .int .u64 0] 84)).alloc (.cells #[.int .u64 0, .int .u64 0] 84)).heap[w.heap.size]? = some (.cells #[.int .u64 0, .int .u64 0] 84) := by
    rw [heap_alloc_old _ _ (by simp)]
    exact heap_alloc_new w _
  have HRR := Lib.hid hR
  have HX := Lib.hid hx0
  clear hR hx0
  go_enter Try.func46, Try.ntmps46
  go_wp2
  refine bodyPost_ret (results_cell_row Try.results46 _ _ w.heap.size 84 _ (0, 0) _ rfl HRR.out Try.underlying84 rfl (by kernel_rfl)) rfl ?_
  exact ⟨rfl, HX.out⟩
theorem lg_nfees (w : World) : Calls Try.prog 24 #[.pointer none] w (Tells (.int .u64 0) w) := by
  have HB := Lib.hid (lg_nback w)
  have qf := fld13a
  go_enter Try.func24, Try.ntmps24
  go_wp2_with fail
  refine HB.out.mono ?_
  rintro e w1 ⟨rfl, hx⟩
  have HX := Lib.hid hx
  clear hx
  go_wp2
  go_ret
  exact ⟨rfl, HX.out⟩
theorem lg_ntotal (w : World) : Calls Try.prog 21 #[.pointer none] w (Tells (.int .u64 0) w) := by
  go_enter Try.func21, Try.ntmps21
  go_wp2
  go_ret
  exact ⟨rfl, Ext.refl _⟩
def Cls13 (u w : World) : Prop := Ext u w
set_option maxHeartbeats 1600000 in
theorem lg_total {X : Nat → Prop} {σ g c b m M : Nat} {s : Lgr} (w : World) (h : LM X σ g c b w m s) (hk : Good s m M) :
    Calls Try.prog 21 #[.pointer (some ⟨σ, 0, none⟩)] w (Tells (.int .u64 (M : Int)) w) := by
  have HR := Lib.hid h
  have hs := hk.ok.sum
  have hM := hk.tot
  obtain ⟨t, ht⟩ : ∃ t, s.t = t := ⟨_, rfl⟩
  obtain ⟨f, hf⟩ : ∃ f, s.f.sum = f := ⟨_, rfl⟩
  obtain ⟨d, hd⟩ : ∃ d, s.d.sum = d := ⟨_, rfl⟩
  have FT := Lib.hid (show ∀ W, Cls13 w W → W.cell? ⟨σ, 2, none⟩ = some (.int .u64 (t : Int)) from fun W hW => by rw [(h.ext hW).c2, ht])
  have FF := Lib.hid (show ∀ W, Cls13 w W → Calls Try.prog 24 #[.pointer (some ⟨σ, 0, none⟩)] W (fun e w' => e = .returned (.int .u64 (f : Int)) ∧ Cls13 w w') from fun W hW =>
    (lg_fees W (h.ext hW) hk).mono fun _ _ h => ⟨by rw [h.1, hf], Ext.trans hW h.2⟩)
  have FD := Lib.hid (show ∀ W, Cls13 w W → Calls Try.prog 25 #[.pointer (some ⟨σ, 0, none⟩)] W (fun e w' => e = .returned (.int .u64 (d : Int)) ∧ Cls13 w w') from fun W hW =>
    (lg_deposits W (h.ext hW) hk).mono fun _ _ h => ⟨by rw [h.1, hd], Ext.trans hW h.2⟩)
  rw [ht, hf, hd] at hs
  obtain ⟨y, hy⟩ : ∃ y, f + d = y := ⟨_, rfl⟩
  obtain ⟨z, hz⟩ : ∃ z, y + t = z := ⟨_, rfl⟩
  have e1 : IntKind.u64.wrap ((f : Int) + (d : Int)) = (y : Int) := by rw [IntKind.wrap_u64]; omega
  have e2 : IntKind.u64.wrap ((y : Int) + (t : Int)) = (z : Int) := by rw [IntKind.wrap_u64]; omega
  have HS := Lib.hid (show z + s.b.sum = M ∧ M ≤ 1152921504606846976 by omega)
  have HT := Lib.hid (fun i (hi : i < m) => take_sum13 s.b i (by rw [hk.ok.lb]; exact hi))
  have HTL := Lib.hid (fun i => take_sum_le13 s.b i)
  have HFL := Lib.hid (show s.b.take m = s.b from by rw [← hk.ok.lb, List.take_length])
  have hm := hk.few
  clear h hk hs hM ht hf hd hy hz
  go_enter Try.func21, Try.ntmps21
  go_wp2
  refine wp_region_quiet (C := Cls13 w) (by kernel_rfl) (by kernel_rfl) (show Cls13 w w.drew from (Ext.refl w).drew) ?_
  repeat (first
    | (refine wpQuiet_step (fun K hK => ?_); go_simp; refine ⟨_, fun _ _ => rfl, hK _ ?_⟩; clear hK K)
    | (refine wpQuiet_step (fun K hK => ?_); go_simp; refine ⟨.int .u64 (t : Int), fun W hW => ?_, hK _ ?_⟩; (focus (have h1 := FT.out W hW; go_simp; done)); clear hK K)
    | (refine wpQuiet_step (fun K hK => ?_); go_simp; refine ⟨_, fun W hW => FF.out W hW, hK _ ?_⟩; clear hK K)
    | (refine wpQuiet_step (fun K hK => ?_); go_simp; refine ⟨_, fun W hW => FD.out W hW, hK _ ?_⟩; clear hK K))
  refine wpQuiet_nil ?_
  intro w1 hu1
  have HX1 := Lib.hid (show Ext w w1 from hu1)
  have c0 := (HR.out.ext HX1.out).c0
  clear hu1 FT FF FD
  go_wp2
  go_loopg [3, 23] m (fun gk s3 s23 wx => ∃ i v : Nat, i + gk = m ∧ z + (s.b.take i).sum = v ∧ s3 = .int .u64 (v : Int) ∧ s23 = .int .i64 (i : Int) ∧ Ext w wx)
  case atStart => exact ⟨0, z, by omega, by simp, rfl, rfl, HX1.out⟩
  case round =>
    obtain ⟨i, v, hig, hv, rfl, rfl, hxr⟩ := hrel
    have HXr := Lib.hid hxr
    clear hxr
    cases gk with
    | zero =>
      obtain rfl : i = m := by omega
      have HV := Lib.hid (show M = v by rw [← hv, HFL.out]; exact HS.out.1.symm)
      have d1 : decide ((i : Int) < (i : Int)) = false := decide_eq_false (by omega)
      clear hv
      go_wp2
      go_ret
      exact ⟨by rw [HV.out]; rfl, HXr.out⟩
    | succ gk =>
      have hi : i < m := by omega
      have hiI : (i : Int) < (m : Int) := by omega
      have cb := (HR.out.ext HXr.out).acc.at_b hi
      have cn := (HR.out.ext HXr.out).acc.at_d hi
      have e3 := HT.out i hi
      have e4 := HTL.out (i + 1)
      have e5 := HS.out
      obtain ⟨x, hx⟩ : ∃ x, co s.b i = x := ⟨_, rfl⟩
      obtain ⟨n, hn⟩ : ∃ n, co s.n i = n := ⟨_, rfl⟩
      rw [hx] at cb e3
      rw [hn] at cn
      obtain ⟨v2, hv2⟩ : ∃ v2, v + x = v2 := ⟨_, rfl⟩
      have HE := Lib.hid (show z + (s.b.take (i + 1)).sum = v2 by omega)
      have e6 : IntKind.u64.wrap ((v : Int) + (x : Int)) = (v2 : Int) := by rw [IntKind.wrap_u64]; omega
      clear e3 e4 e5 hx hn hv hv2
      go_wp2
      go_roundg gk
      case measure => omega
      case rel => exact ⟨i + 1, v2, by omega, HE.out, rfl, by go_num, HXr.out.alloc _⟩
end Go.Proofs.Ytnfgokbopndmgaa

/-
  What New does. Conditions: none.
-/
namespace Go.Proofs.Ytnfgokbopndmgaa
open Go.RowKit
open Pol (co)

theorem co_zeros_l13 (n i : Nat) : co (List.replicate n 0) i = 0 := by
  unfold co
  rw [List.getElem?_replicate]
  split <;> rfl
theorem take_snoc13 (l : List Nat) (i : Nat) (h : i < l.length) : l.take (i + 1) = l.take i ++ [co l i] := by
  rw [List.take_succ_eq_append_getElem h]
  unfold co
  rw [List.getElem?_eq_getElem h]
  rfl
theorem AMine.shape {w : World} {base : Nat} {v : Value} {b d : List Nat} (h : AMine w base v b d) : ∃ A n c, v = .slice A n c := by
  rcases h.2 with ⟨rfl, _⟩ | ⟨g, cap, cur, rfl, _⟩
  · exact ⟨_, _, _, rfl⟩
  · exact ⟨_, _, _, rfl⟩
/-- A ledger under way, i of whose accounts are laid. -/
structure NewSt (l : List Nat) (w : World) (B i : Nat) (v : Value) (wx : World) : Prop where
  row : wx.heap[B + 1]? = some (.cells #[v, .map (some B), .int .u64 0] 76)
  map : wx.heap[B]? = some (.map #[] 0)
  acc : AMine wx B v (l.take i) (List.replicate i 0)
  far : ∀ k, v.ownBlock = some k → B + 1 < k
  ext : Ext w wx
theorem NewSt.step {l : List Nat} {w : World} {B i x : Nat} {v v' : Value} {wx w3 : World} (h : NewSt l w B i v wx) (hw : w.heap.size = B) (hT : l.take (i + 1) = l.take i ++ [x])
    (hv3 : AMine w3 B v' (l.take i ++ [x]) (List.replicate i 0 ++ [0])) (hg3 : (wx.alloc (.cells #[.int .u64 (x : Int), .int .u64 0] 78)).grownBy w3 v.ownBlock)
    (hat3 : v'.ownBlock = v.ownBlock ∨ v'.ownBlock = some (wx.alloc (.cells #[.int .u64 (x : Int), .int .u64 0] 78)).heap.size) :
    w3.cell? ⟨B + 1, 0, none⟩ = some v ∧ w3.frozen? ⟨B + 1, 0, none⟩ = false ∧ NewSt l w B (i + 1) v' (w3.setCell ⟨B + 1, 0, none⟩ v') := by
  have hlb := row_lt h.row
  have hlm := row_lt h.map
  have h2 := ((Ext.refl wx).alloc (.cells #[.int .u64 (x : Int), .int .u64 0] 78)).size
  have hσ3 : w3.heap[B + 1]? = some (.cells #[v, .map (some B), .int .u64 0] 76) := (hg3.block _ (by omega) (fun e => by have := h.far _ e.symm; omega)).trans ((heap_alloc_old _ _ hlb).trans h.row)
  have hb3 : w3.heap[B]? = some (.map #[] 0) := (hg3.block _ (by omega) (fun e => by have := h.far _ e.symm; omega)).trans ((heap_alloc_old _ _ hlm).trans h.map)
  have hvb3 : ∀ k, v'.ownBlock = some k → B + 1 < k := fun k hk => by
    rcases hat3 with e | e
    · exact h.far k (e ▸ hk)
    · rw [e] at hk
      injection hk with hk
      omega
  have s0 := cell_of_row _ (B + 1) 0 _ _ _ hσ3
  refine ⟨by rw [s0]; rfl, frozen_of_row _ (B + 1) 0 _ _ hσ3, heap_setCell_same w3 (B + 1) 0 _ _ v' hσ3, (heap_setCell_other w3 ⟨B + 1, 0, none⟩ B v' (by dsimp only; omega)).trans hb3, ?_, hvb3,
    ((h.ext.alloc (.cells #[.int .u64 (x : Int), .int .u64 0] 78)).more hg3 (fun k e => by have := h.far k e; omega)).setCell (p := ⟨B + 1, 0, none⟩) (by dsimp only; omega) v'⟩
  rw [hT, List.replicate_succ']
  exact hv3.keep (grown_set w3 (B + 1) 0 v') (fun k hk e => by have := hvb3 k hk; injection e with e; omega)
set_option maxHeartbeats 3200000 in
set_option maxRecDepth 100000 in
theorem lg_new (l : List Nat) (A : Option Addr) (n c : Nat) (w : World) (hn : l.length = n) (hr : URd w A l) : Calls Try.prog 16 #[.slice A n c] w (NewP LgI l w) := by
  unfold NewP
  have HR := Lib.hid hr
  have HN := Lib.hid hn
  have HT := Lib.hid (fun i (hi : i < l.length) => take_sum13 l i hi)
  have HTL := Lib.hid (fun i => take_sum_le13 l i)
  have HF := Lib.hid (show l.take n = l from by rw [← hn, List.take_length])
  by_cases h1 : n = 0
  · have hc : newc l = 1 := by unfold newc; rw [if_pos (Or.inl (by omega))]
    rw [hc]
    have d1 : ((n : Int) == 0) = true := by simp; omega
    have d1' : decide ((n : Int) = 0) = true := decide_eq_true (by omega)
    subst h1
    clear hr
    go_enter Try.func16, Try.ntmps16
    go_wp2
    go_ret2
    exact ⟨Ext.refl _, .inr ⟨by decide, rfl⟩⟩
  · have d1 : ((n : Int) == 0) = false := by simp; omega
    have d1' : decide ((n : Int) = 0) = false := decide_eq_false (by omega)
    by_cases h2 : 6 < n
    · have hc : newc l = 1 := by unfold newc; rw [if_pos (Or.inr (by omega))]
      rw [hc]
      have d2 : decide ((n : Int) > 6) = true := decide_eq_true (by omega)
      have d2' : decide (6 < (n : Int)) = true := decide_eq_true (by omega)
      clear hr hn
      go_enter Try.func16, Try.ntmps16
      go_wp2
      go_ret2
      exact ⟨Ext.refl _, .inr ⟨by decide, rfl⟩⟩
    · have d2 : decide ((n : Int) > 6) = false := decide_eq_false (by omega)
      have d2' : decide (6 < (n : Int)) = false := decide_eq_false (by omega)
      have HC := Lib.hid (show newc l = if 1152921504606846976 < l.sum then 10 else 0 from by unfold newc; rw [if_neg (by omega)])
      clear hr hn
      have hmm := @run_makeMap Try.prog
      go_enter Try.func16, Try.ntmps16
      go_wp2
      have hR0 : ((w.alloc (.map #[] 0)).alloc (.cells #[.slice none 0 0, .map (some w.heap.size), .int .u64 0] 76)).heap[w.heap.size + 1]? = some (.cells #[.slice none 0 0, .map (some w.heap.size), .int .u64 0] 76) := by
        have h := heap_alloc_new (w.alloc (.map #[] 0)) (.cells #[.slice none 0 0, .map (some w.heap.size), .int .u64 0] 76)
        rwa [show (w.alloc (.map #[] 0)).heap.size = w.heap.size + 1 from by simp] at h
      have hM0 : ((w.alloc (.map #[] 0)).alloc (.cells #[.slice none 0 0, .map (some w.heap.size), .int .u64 0] 76)).heap[w.heap.size]? = some (.map #[] 0) := by
        rw [heap_alloc_old _ _ (by simp)]
        exact heap_alloc_new w _
      have HX0 := Lib.hid (show Ext w ((w.alloc (.map #[] 0)).alloc (.cells #[.slice none 0 0, .map (some w.heap.size), .int .u64 0] 76)) from ((Ext.refl _).alloc _).alloc _)
      have HMM := Lib.hid (fun wx (h : wx.heap[w.heap.size]? = some (.map #[] 0)) => (Hm.made w n).stay (w' := wx) (h.trans (heap_alloc_new w _).symm))
      have HR0 := Lib.hid hR0
      have HM0 := Lib.hid hM0
      clear hR0 hM0 hmm
      obtain ⟨B, hB⟩ : ∃ B, w.heap.size = B := ⟨_, rfl⟩
      have HB := Lib.hid hB
      rw [hB] at HR0 HM0 HX0 HMM ⊢
      clear hB
      generalize (w.alloc (.map #[] 0)).alloc (.cells #[.slice none 0 0, .map (some B), .int .u64 0] 76) = w0 at HR0 HM0 HX0 ⊢
      go_loopg [5, 21] n (fun gk s5 s21 wx => ∃ (i t : Nat) (v : Value), i + gk = n ∧ (l.take i).sum + t = 1152921504606846976 ∧ s5 = .int .u64 (t : Int) ∧ s21 = .int .i64 (i : Int) ∧
        NewSt l w B i v wx)
      case atStart => exact ⟨0, 1152921504606846976, .slice none 0 0, by omega, by simp, rfl, rfl, HR0.out, HM0.out, by simpa using AMine.nil w0 B, fun k h => by simp [Value.ownBlock] at h, HX0.out⟩
      case round =>
        obtain ⟨i, t, v, hig, ht, rfl, rfl, hst⟩ := hrel
        have HST := Lib.hid hst
        clear hst
        cases gk with
        | zero =>
          obtain rfl : i = n := by omega
          have HZ := Lib.hid (show newc l = 0 by rw [HC.out, if_neg]; rw [HF.out] at ht; omega)
          have d3 : decide ((i : Int) < (i : Int)) = false := decide_eq_false (by omega)
          clear ht
          go_wp2
          go_ret2
          obtain ⟨g, c', rfl, hg, hrow⟩ := HST.out.acc.row (n := i) (by rw [List.length_take, HN.out, Nat.min_self]) (by simp) (by omega) (fun j => by rw [co_zeros_l13]; decide)
          have hgb := HST.out.far g rfl
          rw [HF.out] at hrow
          have hlb := row_lt HST.out.row
          have hlg := hrow.lt
          have hBB := HB.out
          refine ⟨HST.out.ext, .inl ⟨HZ.out, B + 1, rfl, ?_⟩⟩
          rw [HN.out]
          refine ⟨g, c', B, HST.out.row, ?_, ?_, ⟨by omega, hlb⟩, ⟨by omega, hlg⟩, ⟨by omega, by omega⟩, by omega, by omega, by omega⟩
          · rw [show (Lgr.new l).n = List.replicate i 0 from by rw [← HN.out]; rfl]; exact hrow
          · rw [show (Lgr.new l).f = List.replicate i 0 from by rw [← HN.out]; rfl, show (Lgr.new l).d = List.replicate i 0 from by rw [← HN.out]; rfl]
            exact HMM.out _ HST.out.map
        | succ gk =>
          have hi : i < n := by omega
          have hiI : (i : Int) < (n : Int) := by omega
          obtain ⟨b0, o, rfl, hcb⟩ := (HR.out.ext HST.out.ext).2 i (by rw [HN.out]; exact hi)
          have e1 := HT.out i (by rw [HN.out]; exact hi)
          have e2 := HTL.out (i + 1)
          obtain ⟨x, hx⟩ : ∃ x, co l i = x := ⟨_, rfl⟩
          have HTK := Lib.hid (show l.take (i + 1) = l.take i ++ [x] from by rw [← hx]; exact take_snoc13 l i (by rw [HN.out]; exact hi))
          rw [hx] at hcb e1
          by_cases hxt : t < x
          · have HZ := Lib.hid (show newc l = 10 by rw [HC.out, if_pos]; omega)
            have d4 : decide ((x : Int) > (t : Int)) = true := decide_eq_true (by omega)
            have d4' : decide ((t : Int) < (x : Int)) = true := decide_eq_true (by omega)
            have d4'' : decide (t < x) = true := decide_eq_true hxt
            clear e1 e2 ht hx
            go_wp2
            go_ret2
            rw [HZ.out]
            exact ⟨HST.out.ext, .inr ⟨by decide, rfl⟩⟩
          · have d4 : decide ((x : Int) > (t : Int)) = false := decide_eq_false (by omega)
            have d4' : decide ((t : Int) < (x : Int)) = false := decide_eq_false (by omega)
            have d4'' : decide (t < x) = false := decide_eq_false hxt
            obtain ⟨y, hy⟩ : ∃ y, t - x = y := ⟨_, rfl⟩
            have e3 : IntKind.u64.wrap ((t : Int) - (x : Int)) = (y : Int) := by rw [IntKind.wrap_u64]; omega
            have HE := Lib.hid (show (l.take (i + 1)).sum + y = 1152921504606846976 by omega)
            have s0 := cell_of_row _ (B + 1) 0 _ _ _ HST.out.row
            simp only [List.getElem?_toArray, List.getElem?_cons_zero] at s0
            clear e1 e2 ht hx hy
            have HV1 := Lib.hid (HST.out.acc.keep (((Ext.refl wr).alloc (.cells #[.int .u64 (x : Int), .int .u64 0] 78)).grown none) (fun k _ => by simp))
            have hbw : B ≤ (wr.alloc (.cells #[.int .u64 (x : Int), .int .u64 0] 78)).heap.size := by
              have h1 := row_lt HST.out.row
              have h2 := ((Ext.refl wr).alloc (.cells #[.int .u64 (x : Int), .int .u64 0] 78)).size
              omega
            have hli : (l.take i).length ≤ 1048576 := by rw [List.length_take]; omega
            have hlr : (l.take i).length = (List.replicate i 0).length := by rw [List.length_take, List.length_replicate, HN.out]; omega
            have HTO := Lib.hid HTK.out
            go_wp2_with (first | (at_builtin; refine wpList_append_acc rfl (.tmp 35) (.tmp 38) rfl B v (l.take i) (List.replicate i 0) x 0 rfl HV1.out hlr ⟨wr.heap.size, 0, none⟩ 1 rfl (acc_new wr x 0) hli hbw ?_; intro v' w3 hv3 hg3 hat3; obtain ⟨A', n', c', rfl⟩ := hv3.shape; obtain ⟨q0, q1, q2⟩ := HST.out.step HB.out HTO.out hv3 hg3 hat3; have HS4 := Lib.hid q2; clear hv3 hg3 hat3 q2) | fail)
            go_roundg gk
            case measure => omega
            case rel => exact ⟨i + 1, y, _, by omega, HE.out, rfl, by go_num, HS4.out⟩
end Go.Proofs.Ytnfgokbopndmgaa

/-
  Layer 14: the ledger's calls that its laws use, of the landed ledger; what is done with an order is left open. Conditions: those of LedQ.
-/
namespace Go.Proofs.Ytnfgokbopndmgaa
open Go.RowKit
open Pol (co Sm)

/-- What is done with an order. -/
def RunQ (I : LgrP) : Prop := ∀ {X : Nat → Prop} {σ m M base : Nat} {s : Lgr} (who k t : Int) (a n c : Nat) (l : List Nat) (A : Option Addr) (w : World), Lq I X σ w m s M base → l.length = n → Rd w A l → n ≤ c → n ≤ 65536 → a < 18446744073709551616 →
    Calls Try.prog 18 #[.pointer (some ⟨σ, 0, none⟩), .int .i64 who, .agg #[.int .i64 k, .int .i64 t, .int .u64 (a : Int), .slice A n c]] w (LqP I X σ m M base w (s.run m who ⟨k, t, a, l⟩))
theorem ledQ14 (hrun : RunQ LgI) : LedQ LgI where
  keeps := lgKeeps
  new := fun l A n c w hn hr => by
    refine (lg_new l A n c w hn hr).mono ?_
    rintro e w' ⟨hx, h⟩
    refine ⟨hx, h.imp (fun ⟨h0, σ, he, hi⟩ => ⟨h0, σ, _, he, by rw [hn] at hi; exact hi, ⟨?_, ?_, ?_⟩, fun b hb => hb⟩) id⟩
    · rw [← hn]; exact Lgr.new_ok l
    · unfold newc at h0
      split at h0
      · cases h0
      · split at h0
        · cases h0
        · omega
    · unfold newc at h0
      split at h0
      · cases h0
      · omega
  run := hrun
  balance := fun who w h => by obtain ⟨⟨_, _, _, h1⟩, _, _⟩ := h; exact lg_balance who w h1
  nonce := fun who w h => by obtain ⟨⟨_, _, _, h1⟩, _, _⟩ := h; exact lg_nonce who w h1
  fees := fun w h => by obtain ⟨⟨_, _, _, h1⟩, h2, _⟩ := h; exact lg_fees w h1 h2
  deposits := fun w h => by obtain ⟨⟨_, _, _, h1⟩, h2, _⟩ := h; exact lg_deposits w h1 h2
  treasury := fun w h => by obtain ⟨⟨_, _, _, h1⟩, _, _⟩ := h; exact lg_treasury w h1
  total := fun w h => by obtain ⟨⟨_, _, _, h1⟩, h2, _⟩ := h; exact lg_total w h1 h2
end Go.Proofs.Ytnfgokbopndmgaa

/-
  The code's own Run of layer 14. Conditions: no more than 6 accounts, a total of no more than 2^60.
-/
namespace Go.Proofs.Ytnfgokbopndmgaa
open Go.RowKit
open Pol (co Sm)

theorem move_none14 (s : Lgr) (i : Nat) (hi : i < s.b.length) : s.move i i 0 = (0, s) := by
  unfold Lgr.move
  rw [if_neg (by omega), List.set_set]
  have e : s.b.set i (co (s.b.set i (co s.b i - 0)) i + 0) = s.b := by
    rw [co_set13, if_pos ⟨rfl, hi⟩, Nat.sub_zero, Nat.add_zero]
    apply List.ext_getElem?
    intro j
    rw [List.getElem?_set]
    by_cases h : i = j
    · subst h
      rw [if_pos rfl, if_pos hi]
      unfold co
      rw [List.getElem?_eq_getElem hi]
      rfl
    · rw [if_neg h]
  rw [e]
set_option maxHeartbeats 3200000 in
theorem tx_run : RunQ LgI := by
  intro X σ m M base s who k t a n c l A w h hn hr hc hl ha
  obtain ⟨g, cc, b, hm⟩ := h.mem
  have HQ := Lib.hid h
  have HV := Lib.hid (fun u => tx_valid k t a n c A u)
  rw [right_is hn] at HV
  have HX0 := Lib.hid ((Ext.refl w).alloc (.cells #[.int .i64 k, .int .i64 t, .int .u64 (a : Int), .slice A n c] 30))
  have HG := Lib.hid (heap_alloc_new w (.cells #[.int .i64 k, .int .i64 t, .int .u64 (a : Int), .slice A n c] 30))
  have HMV := Lib.hid (fun (x : Int) (y : Nat) u (hu : Ext w u) (hy : y < 18446744073709551616) => lg_move who x u (hm.ext hu) h.good hy)
  by_cases ho : Od.right ⟨k, t, a, l⟩
  · rw [decide_eq_true ho] at HV
    by_cases h1 : k = 1
    · have HE := Lib.hid (show s.run m who ⟨k, t, a, l⟩ = if Inn m who ∧ Inn m t then s.move who.toNat t.toNat a else (1, s) from by unfold Lgr.run; rw [if_pos ho]; dsimp only; rw [if_pos h1])
      have HGD := Lib.hid (Lgr.run_good (who := who) (o := ⟨k, t, a, l⟩) h.good)
      rw [HE.out] at HGD ⊢
      subst h1
      have HM := Lib.hid (fun u (hu : Ext w u) => HMV.out t a u hu ha)
      clear h hr hm HMV HE ho
      generalize (if Inn m who ∧ Inn m t then s.move who.toNat t.toNat a else (1, s)) = r at *
      go_enter Try.func18, Try.ntmps18
      go_wp2_with fail
      refine (HV.out _).mono ?_
      rintro e w1 ⟨rfl, hx1⟩
      have g1 := hx1.row HG.out
      have q0 : w1.cell? ⟨w.heap.size, 0, none⟩ = some (.int .i64 1) := cell_of_row _ _ 0 _ _ _ g1
      have q1 : w1.cell? ⟨w.heap.size, 1, none⟩ = some (.int .i64 t) := cell_of_row _ _ 1 _ _ _ g1
      have q2 : w1.cell? ⟨w.heap.size, 2, none⟩ = some (.int .u64 (a : Int)) := cell_of_row _ _ 2 _ _ _ g1
      have HX1 := Lib.hid (HX0.out.trans hx1)
      clear hx1 g1
      go_wp2_with fail
      refine (HM.out w1 HX1.out).mono ?_
      rintro e w2 hop
      have HL := Lib.hid (hop.lq (HQ.out.ext lgKeeps HX1.out) HGD.out)
      clear hop
      obtain ⟨rfl, ho2, hq2⟩ := HL.out
      have HO2 := Lib.hid ((Only.of_ext HX1.out).trans ho2)
      have HQ2 := Lib.hid hq2
      clear ho2 hq2 HL
      go_wp2
      go_ret
      exact ⟨rfl, HO2.out, HQ2.out⟩
    · obtain h2 : k = 2 := by
        have := ho.2
        dsimp only at this
        omega
      have HE := Lib.hid (show s.run m who ⟨k, t, a, l⟩ = if Inn m who ∧ Inn m who then s.move who.toNat who.toNat 0 else (1, s) from by
        unfold Lgr.run
        rw [if_pos ho]
        dsimp only
        rw [if_neg h1]
        by_cases hin : Inn m who
        · rw [if_pos hin, if_pos ⟨hin, hin⟩, move_none14 s _ (by rw [h.good.ok.lb]; exact hin.lt)]
        · rw [if_neg hin, if_neg (fun h => hin h.1)])
      have HGD := Lib.hid (Lgr.run_good (who := who) (o := ⟨k, t, a, l⟩) h.good)
      rw [HE.out] at HGD ⊢
      subst h2
      have HM := Lib.hid (fun u (hu : Ext w u) => HMV.out who 0 u hu (by decide))
      clear h hr hm HMV HE ho
      generalize (if Inn m who ∧ Inn m who then s.move who.toNat who.toNat 0 else (1, s)) = r at *
      go_enter Try.func18, Try.ntmps18
      go_wp2_with fail
      refine (HV.out _).mono ?_
      rintro e w1 ⟨rfl, hx1⟩
      have g1 := hx1.row HG.out
      have q0 : w1.cell? ⟨w.heap.size, 0, none⟩ = some (.int .i64 2) := cell_of_row _ _ 0 _ _ _ g1
      have HX1 := Lib.hid (HX0.out.trans hx1)
      clear hx1 g1
      go_wp2_with fail
      refine (HM.out w1 HX1.out).mono ?_
      rintro e w2 hop
      have HL := Lib.hid (hop.lq (HQ.out.ext lgKeeps HX1.out) HGD.out)
      clear hop
      obtain ⟨rfl, ho2, hq2⟩ := HL.out
      have HO2 := Lib.hid ((Only.of_ext HX1.out).trans ho2)
      have HQ2 := Lib.hid hq2
      clear ho2 hq2 HL
      go_wp2
      go_ret
      exact ⟨rfl, HO2.out, HQ2.out⟩
  · rw [decide_eq_false ho] at HV
    rw [show s.run m who ⟨k, t, a, l⟩ = (1, s) from by unfold Lgr.run; rw [if_neg ho]]
    clear h hr hm HMV ho
    go_enter Try.func18, Try.ntmps18
    go_wp2_with fail
    refine (HV.out _).mono ?_
    rintro e w1 ⟨rfl, hx1⟩
    have HX1 := Lib.hid (HX0.out.trans hx1)
    clear hx1
    go_wp2
    go_ret
    exact ⟨rfl, Only.of_ext HX1.out, HQ.out.ext lgKeeps HX1.out⟩
end Go.Proofs.Ytnfgokbopndmgaa

/-
  Layer 14's own functions do what they are to do. Conditions: those of TxSaid and LedQ.
-/
namespace Go.Proofs.Ytnfgokbopndmgaa
open Go.RowKit
open Pol (co Sm)

theorem txSaid : TxSaid where
  enc := fun k t a n c m A w hn hr _ hl ha => tx_encode k t a n c m A w hn hr hl ha
  dec := fun b A n c w hn hr _ hl => tx_decode b A n c w hn hr hl
theorem ledQ : LedQ LgI := ledQ14 tx_run
end Go.Proofs.Ytnfgokbopndmgaa

/-
  An argument that is a slice of bytes, or of points, reads as a list. Conditions: none.
-/
namespace Go.Proofs.Ytnfgokbopndmgaa
open Go.RowKit
open Go.ChangeShapes Go.WideShapes Go.ChangeAt
open Pol (co Sm)

section
variable {H : Type} {enc : TypeId × Value → H} {w : World} {base : Nat} {spare : Nat → Bool} {held : Bool}
theorem open_bytes {fuel len cap : Nat} {a : Option Addr} {x : DataW H × List MemPlace} (h : DataW.trod enc Try.prog w base spare held fuel 23 [.slice a len cap] = some x) :
    ∃ l : List Nat, l.length = len ∧ len ≤ cap ∧ Rd w a l := by
  rcases open_ints Try.underlying23 Try.underlying5 (by kernel_rfl) h with ⟨hcs, _⟩ | ⟨a', len', cap', zs, hcs, _, hl, _, hz, _, hcell, hwz⟩
  · simp at hcs
    obtain ⟨rfl, rfl, rfl⟩ := hcs
    exact ⟨[], rfl, Nat.le_refl _, Rd.nil _ _⟩
  · simp at hcs
    obtain ⟨rfl, rfl, rfl⟩ := hcs
    have hlz : len ≤ zs.length := by rw [hz]; split <;> omega
    have hnat : ∀ i, i < zs.length → ∃ n : Nat, zs.getD i 0 = (n : Int) ∧ n < 256 := fun i hi => by
      have hm : zs.getD i 0 ∈ zs := by rw [List.getD_eq_getElem?_getD, List.getElem?_eq_getElem hi]; exact List.getElem_mem hi
      exact nat_u8 (hwz _ hm)
    refine ⟨(List.range len).map (fun i => (zs.getD i 0).toNat), by simp, hl, ?_, fun i hi => ?_⟩
    · refine Pol.co_lt_of (fun v hv => ?_)
      obtain ⟨i, hi, rfl⟩ := List.mem_map.1 hv
      obtain ⟨n, hn, hn'⟩ := hnat i (by have := List.mem_range.1 hi; omega)
      show (zs.getD i 0).toNat < 256
      rw [hn]; omega
    · have hi' : i < len := by simpa using hi
      obtain ⟨b, o, rfl, hc⟩ := ints_at hcell (by omega)
      refine ⟨b, o, rfl, ?_⟩
      rw [hc i (by omega)]
      obtain ⟨n, hn, _⟩ := hnat i (by omega)
      congr 2
      unfold co
      rw [List.getElem?_map, List.getElem?_range hi']
      show zs.getD i 0 = (((zs.getD i 0).toNat : Nat) : Int)
      rw [hn]; omega
end
end Go.Proofs.Ytnfgokbopndmgaa

/-
  Slices of orders that read as a list. Conditions: none.
-/
namespace Go.Proofs.Ytnfgokbopndmgaa
open Go.RowKit
open Pol (co Sm)

def od (l : List Od) (i : Nat) : Od := l[i]?.getD Od.zero
/-- Where an order lies. -/
def TxAt (b o : Nat) (k t : Int) (a : Nat) (B : Option Addr) (n c : Nat) (W : World) : Prop :=
  W.cell? ⟨b, o, none⟩ = some (.int .i64 k) ∧ W.cell? ⟨b, o + 1, none⟩ = some (.int .i64 t) ∧ W.cell? ⟨b, o + 2, none⟩ = some (.int .u64 (a : Int)) ∧ W.cell? ⟨b, o + 3, none⟩ = some (.slice B n c)
theorem TxAt.ext {b o : Nat} {k t : Int} {a : Nat} {B : Option Addr} {n c : Nat} {W W' : World} (h : TxAt b o k t a B n c W) (hx : Ext W W') : TxAt b o k t a B n c W' := ⟨hx.at h.1, hx.at h.2.1, hx.at h.2.2.1, hx.at h.2.2.2⟩
/-- From address A on lie these orders. -/
def XRd (w : World) (A : Option Addr) (l : List Od) : Prop :=
  ∀ i, i < l.length → ∃ b o B c, A = some ⟨b, o, none⟩ ∧ TxAt b (o + i * 4) (od l i).k (od l i).t (od l i).a B (od l i).m.length c w ∧ (od l i).m.length ≤ c ∧ Rd w B (od l i).m ∧ (od l i).a < 18446744073709551616
theorem XRd.at {w w' : World} {A : Option Addr} {l : List Od} (h : XRd w A l) (hx : Ext w w') {i : Nat} (hi : i < l.length) :
    ∃ b o B c, A = some ⟨b, o, none⟩ ∧ (∀ W, Ext w' W → TxAt b (o + i * 4) (od l i).k (od l i).t (od l i).a B (od l i).m.length c W) ∧ (od l i).m.length ≤ c ∧ Rd w' B (od l i).m ∧ (od l i).a < 18446744073709551616 := by
  obtain ⟨b, o, B, c, e, h1, h2, h3, h4⟩ := h i hi
  exact ⟨b, o, B, c, e, fun W hW => h1.ext (hx.trans hW), h2, h3.ext hx, h4⟩
end Go.Proofs.Ytnfgokbopndmgaa

/-
  An argument that is a slice of uint64 reads as a list of numbers. Conditions: none.
-/
namespace Go.Proofs.Ytnfgokbopndmgaa
open Go.RowKit
open Go.ChangeShapes Go.WideShapes Go.ChangeAt
open Pol (co)

section
variable {H : Type} {enc : TypeId × Value → H} {w : World} {base : Nat} {spare : Nat → Bool} {held : Bool}
theorem open_u64s {fuel len cap : Nat} {a : Option Addr} {x : DataW H × List MemPlace} (h : DataW.trod enc Try.prog w base spare held fuel 40 [.slice a len cap] = some x) :
    ∃ l : List Nat, l.length = len ∧ len ≤ cap ∧ URd w a l := by
  rcases open_ints Try.underlying40 Try.underlying22 (by kernel_rfl) h with ⟨hcs, _⟩ | ⟨a', len', cap', zs, hcs, _, hl, _, hz, _, hcell, hwz⟩
  · simp at hcs
    obtain ⟨rfl, rfl, rfl⟩ := hcs
    exact ⟨[], rfl, Nat.le_refl _, URd.nil _ _⟩
  · simp at hcs
    obtain ⟨rfl, rfl, rfl⟩ := hcs
    have hlz : len ≤ zs.length := by rw [hz]; split <;> omega
    have hat : ∀ i, i < len → co ((List.range len).map fun i => (zs.getD i 0).toNat) i = (zs.getD i 0).toNat := fun i hi => by
      unfold co
      rw [List.getElem?_map, List.getElem?_range hi]
      rfl
    have hb : ∀ i, i < len → ∃ n : Nat, zs.getD i 0 = (n : Int) ∧ n < 18446744073709551616 := fun i hi => by
      have hm : zs.getD i 0 ∈ zs := by rw [List.getD_eq_getElem?_getD, List.getElem?_eq_getElem (by omega)]; exact List.getElem_mem (by omega)
      exact nat_u64 (hwz _ hm)
    refine ⟨(List.range len).map (fun i => (zs.getD i 0).toNat), by simp, hl, fun i => ?_, fun i hi => ?_⟩
    · by_cases hi : i < len
      · rw [hat i hi]
        obtain ⟨n, h1, h2⟩ := hb i hi
        omega
      · unfold co
        rw [List.getElem?_eq_none (by simp; omega)]
        decide
    · have hi' : i < len := by simpa using hi
      obtain ⟨b, o, rfl, hc⟩ := ints_at hcell (by omega)
      refine ⟨b, o, rfl, ?_⟩
      obtain ⟨n, h1, h2⟩ := hb i hi'
      rw [hc i (by omega), hat i hi', h1]
      rfl
end
end Go.Proofs.Ytnfgokbopndmgaa

/-
  An order that comes in, and a slice of them that reads as a list. Conditions: none.
-/
namespace Go.Proofs.Ytnfgokbopndmgaa
open Go.RowKit
open Go.ChangeShapes Go.WideShapes Go.ChangeAt
open Pol (co Sm)

section
variable {H : Type} {enc : TypeId × Value → H} {w : World} {base : Nat} {spare : Nat → Bool} {held : Bool}
theorem tx_bytes {fuel : Nat} {v : Value} {x : DataW H × List MemPlace} (h : DataW.trod enc Try.prog w base spare held fuel 23 [v] = some x) :
    ∃ (q : List Nat) (B : Option Addr) (c : Nat), v = .slice B q.length c ∧ q.length ≤ c ∧ Rd w B q := by
  obtain ⟨B, n, c, hv⟩ : ∃ B n c, v = .slice B n c := by
    rcases Go.Deep.open_slice Try.underlying23 h with ⟨e, _⟩ | ⟨a2, l2, c2, _, _, _, _, e, _⟩
    · exact ⟨none, 0, 0, by simpa using e⟩
    · exact ⟨some a2, l2, c2, by simpa using e⟩
  subst hv
  obtain ⟨q, hq, hqc, hqr⟩ := open_bytes h
  exact ⟨q, B, c, by rw [hq], by rw [hq]; exact hqc, hqr⟩
/-- An order by value. -/
theorem open_tx {r : Reach} {b0 : Nat} {v : Value} {d : DataW H} {p : List MemPlace} (hv : Value.okWide Try.prog w r b0 25 v) (h : DataW.Trod enc Try.prog w base spare held 25 v d p) :
    ∃ (k t : Int) (a n c : Nat) (m : List Nat) (B : Option Addr), v = .agg #[.int .i64 k, .int .i64 t, .int .u64 (a : Int), .slice B n c] ∧ m.length = n ∧ n ≤ c ∧ a < 18446744073709551616 ∧ Rd w B m := by
  obtain ⟨v0, v1, v2, v3, y0, y1, y2, y3, m, rfl, _, _, g0, g1, g2, g3⟩ := Go.Joins.open_agg4 Try.underlying25 (by kernel_rfl) (by kernel_rfl) hv h
  obtain ⟨k, e0, _, _⟩ := DataW.trod_int Try.underlying3 g0
  obtain ⟨t, e1, _, _⟩ := DataW.trod_int Try.underlying3 g1
  obtain ⟨z, e2, _, w2⟩ := DataW.trod_int Try.underlying22 g2
  obtain ⟨a, rfl, ha⟩ := nat_u64 w2
  obtain ⟨q, B, c, rfl, h1, h2⟩ := tx_bytes g3
  simp only [List.cons.injEq, and_true] at e0 e1 e2
  subst e0; subst e1; subst e2
  exact ⟨k, t, a, q.length, c, q, B, rfl, rfl, h1, ha, h2⟩
/-- One order, by its four cells. -/
theorem open_txc {fuel : Nat} {cs : List Value} {x : DataW H × List MemPlace} (h : DataW.trod enc Try.prog w base spare held fuel 25 cs = some x) :
    ∃ (k t : Int) (a : Nat) (q : List Nat) (B : Option Addr) (c : Nat), cs = [.int .i64 k, .int .i64 t, .int .u64 (a : Int), .slice B q.length c] ∧ a < 18446744073709551616 ∧ q.length ≤ c ∧ Rd w B q := by
  obtain ⟨xs, m, _, _, hl, hxl, hf⟩ := DataW.trod_struct Try.underlying25 h
  have hc : cs.length = 4 := by rw [hl]; kernel_rfl
  have ci : Try.prog.cellsOf 3 = 1 := by kernel_rfl
  have cu : Try.prog.cellsOf 22 = 1 := by kernel_rfl
  have cb : Try.prog.cellsOf 23 = 1 := by kernel_rfl
  match cs, hc with
  | [v0, v1, v2, v3], _ =>
    match xs, hxl with
    | [y0, y1, y2, y3], _ =>
      have g0 := hf 0 _ rfl
      have g1 := hf 1 _ rfl
      have g2 := hf 2 _ rfl
      have g3 := hf 3 _ rfl
      simp [ci, cu, cb] at g0 g1 g2 g3
      obtain ⟨k, e0, _, _⟩ := DataW.trod_int Try.underlying3 g0
      obtain ⟨t, e1, _, _⟩ := DataW.trod_int Try.underlying3 g1
      obtain ⟨z, e2, _, w2⟩ := DataW.trod_int Try.underlying22 g2
      obtain ⟨a, rfl, ha⟩ := nat_u64 w2
      obtain ⟨q, B, c, rfl, h1, h2⟩ := tx_bytes g3
      simp only [List.cons.injEq, and_true] at e0 e1 e2
      subst e0; subst e1; subst e2
      exact ⟨k, t, a, q, B, c, rfl, ha, h1, h2⟩
theorem open_txs {fuel len cap : Nat} {a : Option Addr} {x : DataW H × List MemPlace} (h : DataW.trod enc Try.prog w base spare held fuel 41 [.slice a len cap] = some x) :
    ∃ l : List Od, l.length = len ∧ len ≤ cap ∧ XRd w a l := by
  rcases Go.Deep.open_slice Try.underlying41 h with ⟨hcs, _⟩ | ⟨a', len', cap', m, n, D, Pl, hcs, _, hl, hcm, hm, _, hall⟩
  · simp at hcs
    obtain ⟨rfl, rfl, rfl⟩ := hcs
    exact ⟨[], rfl, Nat.le_refl _, fun i hi => absurd hi (by simp)⟩
  · simp at hcs
    obtain ⟨rfl, rfl, rfl⟩ := hcs
    have hlm : len ≤ m := by rw [hm]; split <;> omega
    have ce : Try.prog.cellsOf 25 = 4 := by kernel_rfl
    rw [ce] at hall
    have each : ∀ i, i < len → ∃ q : Od, q.a < 18446744073709551616 ∧ w.cell? (a'.add (i * 4)) = some (.int .i64 q.k) ∧ w.cell? (a'.add (i * 4 + 1)) = some (.int .i64 q.t) ∧ w.cell? (a'.add (i * 4 + 2)) = some (.int .u64 (q.a : Int)) ∧ ∃ B c, w.cell? (a'.add (i * 4 + 3)) = some (.slice B q.m.length c) ∧ q.m.length ≤ c ∧ Rd w B q.m := fun i hi => by
      obtain ⟨cs', h1, h2⟩ := hall i (by omega)
      obtain ⟨_, hlen, hcell⟩ := World.cells?_some h1
      obtain ⟨k, t, a, q, B, c, rfl, h3, h4, h5⟩ := open_txc h2
      have e0 := hcell 0 (by omega)
      have e1 := hcell 1 (by omega)
      have e2 := hcell 2 (by omega)
      have e3 := hcell 3 (by omega)
      rw [Go.Deep.add_add] at e0 e1 e2 e3
      exact ⟨⟨k, t, a, q⟩, h3, by simpa using e0, by simpa using e1, by simpa using e2, B, c, by simpa using e3, h4, h5⟩
    have _ : Inhabited Od := ⟨Od.zero⟩
    obtain ⟨q, hq⟩ := Go.Deep.choose_lt each
    have hat : ∀ i, i < len → od ((List.range len).map q) i = q i := fun i hi => by unfold od; rw [List.getElem?_map, List.getElem?_range hi]; rfl
    refine ⟨(List.range len).map q, by simp, hl, fun i hi => ?_⟩
    have hi' : i < len := by simpa using hi
    obtain ⟨h0, h1, h2, h3, B, c, h4, h5, h6⟩ := hq i hi'
    obtain ⟨b, o, spot⟩ := a'
    have hspot : spot = none := by
      have h0 := (hq 0 (by omega)).2.1
      simpa [Addr.add] using World.cell?_spot h0
    subst hspot
    rw [hat i hi']
    exact ⟨b, o, B, c, rfl, ⟨by rw [← Addr.add_mid]; exact h1, by rw [Nat.add_assoc, ← Addr.add_mid]; exact h2, by rw [Nat.add_assoc, ← Addr.add_mid]; exact h3, by rw [Nat.add_assoc, ← Addr.add_mid]; exact h4⟩, h5, h6, h0⟩
end
end Go.Proofs.Ytnfgokbopndmgaa
