/-
  Part 3 of the texts that the seat's proofs stand on; each part of it begins with its own sentence and conditions. Conditions: those that each theorem names.
-/
import Derived.Test.YtoelkmmdnhnljaaCopiesPack2
import Derived.ArgAppend
import Derived.Lib.Hide
import Derived.StillTail
import Derived.Shelf.SlMaps.Clone
import Derived.Lib.SliceRun
import Derived.ProofKit
import Derived.OpenShut

/-
  Accounts, a balance and a nonce each, in a block of a call's own: read, written, appended to, cloned. Conditions: no more of them than 2^20.
-/
namespace Go.Proofs.Ytoelkmmdnhnljaa
open Go.RowKit
open Pol (co)

theorem acc_info : (Try.prog.info? 55).map (fun i => (i.zero, i.size, i.bytes)) = some (some (.agg #[.int .u64 0, .int .u64 0]), 2, 16) := by kernel_rfl
def av : List Nat → List Nat → List Value
  | x :: b, y :: d => .int .u64 (x : Int) :: .int .u64 (y : Int) :: av b d
  | _, _ => []
theorem av_len : ∀ (b d : List Nat), b.length = d.length → (av b d).length = b.length * 2
  | [], [], _ => rfl
  | [], _ :: _, h => by simp at h
  | _ :: _, [], h => by simp at h
  | x :: b, y :: d, h => by
    have := av_len b d (by simpa using h)
    simp only [av, List.length_cons, this]
    omega
theorem av_append : ∀ (b d : List Nat) (x y : Nat), b.length = d.length → av (b ++ [x]) (d ++ [y]) = av b d ++ [.int .u64 (x : Int), .int .u64 (y : Int)]
  | [], [], _, _, _ => rfl
  | [], _ :: _, _, _, h => by simp at h
  | _ :: _, [], _, _, h => by simp at h
  | u :: b, v :: d, x, y, h => by
    have := av_append b d x y (by simpa using h)
    simp only [List.cons_append, av, this]
theorem av_one : ∀ (b d : List Nat), ∀ u ∈ av b d, u.oneCell' = true
  | [], _, u, h => by simp [av] at h
  | _ :: _, [], u, h => by simp [av] at h
  | x :: b, y :: d, u, h => by
    simp only [av, List.mem_cons] at h
    rcases h with rfl | rfl | h
    · rfl
    · rfl
    · exact av_one b d u h
theorem av_at : ∀ (b d : List Nat) (i : Nat), b.length = d.length → i < b.length → (av b d)[i * 2]? = some (.int .u64 ((co b i : Nat) : Int)) ∧ (av b d)[i * 2 + 1]? = some (.int .u64 ((co d i : Nat) : Int))
  | [], _, _, _, h => by simp at h
  | _ :: _, [], _, h, _ => by simp at h
  | x :: b, y :: d, 0, _, _ => by simp [av, co]
  | x :: b, y :: d, i + 1, h, hi => by
    have := av_at b d i (by simpa using h) (by simpa using hi)
    rw [show (i + 1) * 2 = i * 2 + 2 by omega]
    simp only [av, co, List.getElem?_cons_succ] at this ⊢
    exact this
theorem av_set_b : ∀ (b d : List Nat) (i x : Nat), b.length = d.length → av (b.set i x) d = (av b d).set (i * 2) (.int .u64 (x : Int))
  | [], [], _, _, _ => rfl
  | [], _ :: _, _, _, h => by simp at h
  | _ :: _, [], _, _, h => by simp at h
  | u :: b, v :: d, 0, x, _ => rfl
  | u :: b, v :: d, i + 1, x, h => by
    have := av_set_b b d i x (by simpa using h)
    rw [show (i + 1) * 2 = i * 2 + 2 by omega]
    simp only [List.set_cons_succ, av, this]
theorem av_set_d : ∀ (b d : List Nat) (i x : Nat), b.length = d.length → av b (d.set i x) = (av b d).set (i * 2 + 1) (.int .u64 (x : Int))
  | [], [], _, _, _ => rfl
  | [], _ :: _, _, _, h => by simp at h
  | _ :: _, [], _, _, h => by simp at h
  | u :: b, v :: d, 0, x, _ => rfl
  | u :: b, v :: d, i + 1, x, h => by
    have := av_set_d b d i x (by simpa using h)
    rw [show (i + 1) * 2 + 1 = i * 2 + 1 + 2 by omega]
    simp only [List.set_cons_succ, av, this]
/-- Block g holds n accounts, of the balances b and the nonces d, with room for c. -/
structure RowA (w : World) (g n c : Nat) (b d : List Nat) : Prop where
  lb : b.length = n
  ld : d.length = n
  cap : n ≤ c
  num : U64 d
  row : ∃ cur, w.heap[g]? = some (.cells cur 55) ∧ c * 2 ≤ cur.size ∧ cur.toList.take (n * 2) = av b d
theorem RowA.stay {w w' : World} {g n c : Nat} {b d : List Nat} (h : RowA w g n c b d) (hk : w'.heap[g]? = w.heap[g]?) : RowA w' g n c b d := ⟨h.lb, h.ld, h.cap, h.num, by
  obtain ⟨cur, h1, h2, h3⟩ := h.row
  exact ⟨cur, hk.trans h1, h2, h3⟩⟩
theorem RowA.lt {w : World} {g n c : Nat} {b d : List Nat} (h : RowA w g n c b d) : g < w.heap.size := by
  obtain ⟨cur, h1, _⟩ := h.row
  exact row_lt h1
theorem RowA.cell {w : World} {g n c : Nat} {b d : List Nat} (h : RowA w g n c b d) {j : Nat} (hj : j < n * 2) : w.cell? ⟨g, j, none⟩ = (av b d)[j]? := by
  obtain ⟨cur, h1, h2, h3⟩ := h.row
  rw [cell_of_row w g j cur _ _ h1, ← h3, List.getElem?_take, if_pos hj]
  simp
theorem RowA.at_b {w : World} {g n c i : Nat} {b d : List Nat} (h : RowA w g n c b d) (hi : i < n) : w.cell? ⟨g, i * 2, none⟩ = some (.int .u64 ((co b i : Nat) : Int)) := by
  have hl := h.lb
  rw [h.cell (by omega), (av_at b d i (by rw [h.lb, h.ld]) (by omega)).1]
theorem RowA.at_d {w : World} {g n c i : Nat} {b d : List Nat} (h : RowA w g n c b d) (hi : i < n) : w.cell? ⟨g, i * 2 + 1, none⟩ = some (.int .u64 ((co d i : Nat) : Int)) := by
  have hl := h.lb
  rw [h.cell (by omega), (av_at b d i (by rw [h.lb, h.ld]) (by omega)).2]
theorem RowA.free {w : World} {g n c : Nat} {b d : List Nat} (h : RowA w g n c b d) (i : Nat) : w.frozen? ⟨g, i, none⟩ = false := by
  obtain ⟨cur, h1, _⟩ := h.row
  exact frozen_of_row w g i cur _ h1
theorem RowA.set_b {w : World} {g n c i x : Nat} {b d : List Nat} (h : RowA w g n c b d) : RowA (w.setCell ⟨g, i * 2, none⟩ (.int .u64 (x : Int))) g n c (b.set i x) d := by
  obtain ⟨cur, h1, h2, h3⟩ := h.row
  refine ⟨by rw [List.length_set]; exact h.lb, h.ld, h.cap, h.num, cur.setIfInBounds (i * 2) (.int .u64 (x : Int)), heap_setCell_same w g (i * 2) cur _ _ h1, by simpa using h2, ?_⟩
  rw [Array.toList_setIfInBounds, List.take_set, h3, av_set_b b d i x (by rw [h.lb, h.ld])]
theorem RowA.set_d {w : World} {g n c i x : Nat} {b d : List Nat} (h : RowA w g n c b d) (hx : x < 18446744073709551616) : RowA (w.setCell ⟨g, i * 2 + 1, none⟩ (.int .u64 (x : Int))) g n c b (d.set i x) := by
  obtain ⟨cur, h1, h2, h3⟩ := h.row
  refine ⟨h.lb, by rw [List.length_set]; exact h.ld, h.cap, fun j => ?_, cur.setIfInBounds (i * 2 + 1) (.int .u64 (x : Int)), heap_setCell_same w g (i * 2 + 1) cur _ _ h1, by simpa using h2, ?_⟩
  · rw [co_set13]
    split
    · exact hx
    · exact h.num j
  · rw [Array.toList_setIfInBounds, List.take_set, h3, av_set_d b d i x (by rw [h.lb, h.ld])]
/-- Accounts of a call's own. -/
def AMine (w : World) (base : Nat) (v : Value) (b d : List Nat) : Prop := w.ownsRow base 55 2 v b.length (av b d)
theorem AMine.nil (w : World) (base : Nat) : AMine w base (.slice none 0 0) [] [] := World.ownsRow_nil w base _ _
theorem AMine.block {w : World} {base : Nat} {v : Value} {b d : List Nat} (h : AMine w base v b d) : ∀ k, v.ownBlock = some k → base ≤ k ∧ k < w.heap.size := fun k hk => World.ownsRow.lt h k hk
theorem AMine.keep {w w' : World} {base : Nat} {v : Value} {b d : List Nat} {row : Option Nat} (h : AMine w base v b d) (hg : w.grownBy w' row) (hne : ∀ k, v.ownBlock = some k → some k ≠ row) : AMine w' base v b d :=
  World.ownsRow.kept h hg (by
    cases hb : v.ownBlock with
    | none => exact .inl rfl
    | some k => exact .inr (hne k hb))
theorem AMine.row {w : World} {base n : Nat} {v : Value} {b d : List Nat} (h : AMine w base v b d) (hb : b.length = n) (hd : d.length = n) (h0 : 0 < n) (hu : U64 d) : ∃ g c, v = .slice (some ⟨g, 0, none⟩) n c ∧ base ≤ g ∧ RowA w g n c b d := by
  rcases h.2 with ⟨_, e⟩ | ⟨g, cap, cur, rfl, hbg, hg, hnc, _, hcs, htake⟩
  · omega
  · refine ⟨g, cap, by rw [hb], hbg, hb, hd, by omega, hu, cur, hg, by omega, ?_⟩
    rw [← hb, ← htake]
theorem acc_new (w : World) (x y : Nat) : ∀ j u, [Value.int .u64 (x : Int), .int .u64 (y : Int)][j]? = some u → (w.alloc (.cells #[.int .u64 (x : Int), .int .u64 (y : Int)] 55)).cell? ((⟨w.heap.size, 0, none⟩ : Addr).add j) = some u := by
  intro j u hj
  rw [addr_add, cell_of_row _ _ _ _ _ _ (heap_alloc_new w _), ← hj, Nat.zero_add]
  simp
/-- An account is appended to accounts of a call's own. -/
theorem wpList_append_acc {ops : Array Oper} {rest : List Oper} {o : Oper} {a : Act} {w : World} {Q : Exit → Act → World → Prop} (hgd : o.guard = none) (s x : Operand)
    (ho : o.op = .call { callee := .builtin .append, args := #[s, x], argTypes := #[51, 51] })
    (base : Nat) (v : Value) (b d : List Nat) (y z : Nat) (hs : a.eval s = v) (hown : AMine w base v b d) (hl : b.length = d.length) (A : Addr) (c : Nat) (hx : a.eval x = .slice (some A) 1 c)
    (hc : ∀ j u, [Value.int .u64 (y : Int), .int .u64 (z : Int)][j]? = some u → w.cell? (A.add j) = some u) (hlen : b.length ≤ 1048576) (hbase : base ≤ w.heap.size)
    (h : ∀ v' w', AMine w' base v' (b ++ [y]) (d ++ [z]) → w.grownBy w' v.ownBlock → (v'.ownBlock = v.ownBlock ∨ v'.ownBlock = some w.heap.size) → wpList Try.prog ops Q rest (a.put o.dst v') w') :
    wpList Try.prog ops Q (o :: rest) a w := by
  refine wpList_plain hgd fun K hK => ?_
  obtain ⟨i0, hi, hz0, hz1, hz2⟩ := info_parts acc_info
  obtain ⟨v', w', hrun, h2, h3, _, h4⟩ := run_append_own_at (P := Try.prog) w base 51 o.type 55 i0 (.agg #[.int .u64 0, .int .u64 0]) 2 16 Try.underlying51 hi hz0 hz1 hz2 rfl (by omega) v b.length (av b d) hown A 1 c [.int .u64 (y : Int), .int .u64 (z : Int)] rfl hc
    (by intro u hu; simp at hu; rcases hu with rfl | rfl <;> rfl) (by unfold maxLen; omega) (by omega) hbase
  unfold Oper.wp execOp
  simp only [ho, resolve, invoke, builtin, Sem.run_bind, Sem.run_pure, Result.andThen_ok, List.map_toArray, List.map_cons, List.map_nil, hs, hx, hrun]
  exact hK _ _ (h v' w' (by unfold AMine; rw [List.length_append, av_append b d y z hl]; exact h2) h3 h4)
/-- An append to a literal of no accounts. -/
theorem wpList_append_accs {ops : Array Oper} {rest : List Oper} {o : Oper} {a : Act} {w : World} {Q : Exit → Act → World → Prop} (hgd : o.guard = none) (s x : Operand)
    (ho : o.op = .call { callee := .builtin .append, args := #[s, x], argTypes := #[51, 51] })
    (g g' n c c' : Nat) (b d : List Nat) (hs : a.eval s = .slice (some ⟨g, 0, none⟩) 0 0) (hx : a.eval x = .slice (some ⟨g', 0, none⟩) n c') (hr : RowA w g' n c b d) (h0 : 0 < n) (hlen : n ≤ 1048576)
    (h : ∀ v' w', (∃ g c, v' = .slice (some ⟨g, 0, none⟩) n c ∧ w.heap.size ≤ g ∧ RowA w' g n c b d) → Ext w w' → wpList Try.prog ops Q rest (a.put o.dst v') w') : wpList Try.prog ops Q (o :: rest) a w := by
  refine wpList_plain hgd fun K hK => ?_
  obtain ⟨i0, hi, hz0, hz1, hz2⟩ := info_parts acc_info
  have hlb := hr.lb
  have hcells : ∀ j u, (av b d)[j]? = some u → w.cell? ((⟨g', 0, none⟩ : Addr).add j) = some u := fun j u hu => by
    have hj : j < n * 2 := by
      have := (List.getElem?_eq_some_iff.1 hu).1
      rwa [av_len b d (by rw [hr.lb, hr.ld]), hlb] at this
    rw [addr_add, Nat.zero_add, hr.cell hj, hu]
  obtain ⟨v', w', h1, h2, h3⟩ := run_append_arg_grows (P := Try.prog) w 51 o.type 55 i0 (.agg #[.int .u64 0, .int .u64 0]) 2 16 Try.underlying51 hi hz0 hz1 hz2 rfl (by omega) ⟨g, 0, none⟩ 0 0 [] rfl (fun j u hu => by simp at hu)
    ⟨g', 0, none⟩ n c' (av b d) (by rw [av_len b d (by rw [hr.lb, hr.ld]), hlb]) hcells (by omega) (by unfold maxLen; omega) (by omega)
  unfold Oper.wp execOp
  simp only [ho, resolve, invoke, builtin, Sem.run_bind, Sem.run_pure, Result.andThen_ok, List.map_toArray, List.map_cons, List.map_nil, hs, hx, h1]
  exact hK _ _ (h v' w' (AMine.row (by unfold AMine; rw [hlb]; simpa using h2) hr.lb hr.ld h0 hr.num) ((Ext.refl w).more h3 (fun k e => by cases e)))
end Go.Proofs.Ytoelkmmdnhnljaa

/-
  What a ledger is in memory; what has, Balance, Nonce and Treasury do. Conditions: no more than 6 accounts.
-/
namespace Go.Proofs.Ytoelkmmdnhnljaa
open Go.RowKit
open Pol (co)

/-- The ledger at block σ: its accounts in block g, with room for c, what is held back in block b. -/
structure LM (X : Nat → Prop) (σ g c b : Nat) (w : World) (m : Nat) (s : Lgr) : Prop where
  head : w.heap[σ]? = some (.cells #[.slice (some ⟨g, 0, none⟩) m c, .map (some b), .int .u64 ((s.t : Nat) : Int)] 53)
  acc : RowA w g m c s.b s.n
  map : Hm w b m s.f s.d
  xσ : X σ
  xg : X g
  xb : X b
  far : σ ≠ g ∧ σ ≠ b ∧ g ≠ b
def LgI : LgrP := fun X σ w m s => ∃ g c b, LM X σ g c b w m s
theorem LM.stay {X : Nat → Prop} {σ g c b m : Nat} {w w' : World} {s : Lgr} (h : LM X σ g c b w m s) (hk : ∀ k, X k → w'.heap[k]? = w.heap[k]?) : LM X σ g c b w' m s :=
  ⟨(hk σ h.xσ).trans h.head, h.acc.stay (hk _ h.xg), h.map.stay (hk _ h.xb), h.xσ, h.xg, h.xb, h.far⟩
theorem LM.only {X Y : Nat → Prop} {σ g c b m : Nat} {w w' : World} {s : Lgr} (h : LM X σ g c b w m s) (ho : Only Y w w') (hY : ¬ Y σ ∧ ¬ Y g ∧ ¬ Y b) : LM X σ g c b w' m s :=
  ⟨(ho.block σ (row_lt h.head) hY.1).trans h.head, h.acc.stay (ho.block g h.acc.lt hY.2.1), h.map.stay (ho.block b h.map.lt hY.2.2), h.xσ, h.xg, h.xb, h.far⟩
theorem LM.ext {X : Nat → Prop} {σ g c b m : Nat} {w w' : World} {s : Lgr} (h : LM X σ g c b w m s) (hx : Ext w w') : LM X σ g c b w' m s := h.only (Y := fun _ => False) (Only.of_ext hx) ⟨id, id, id⟩
section
variable {X : Nat → Prop} {σ g c b m : Nat} {w : World} {s : Lgr}
theorem LM.c0 (h : LM X σ g c b w m s) : w.cell? ⟨σ, 0, none⟩ = some (.slice (some ⟨g, 0, none⟩) m c) := by rw [cell_of_row w σ 0 _ _ _ h.head]; rfl
theorem LM.c1 (h : LM X σ g c b w m s) : w.cell? ⟨σ, 1, none⟩ = some (.map (some b)) := by rw [cell_of_row w σ 1 _ _ _ h.head]; rfl
theorem LM.c2 (h : LM X σ g c b w m s) : w.cell? ⟨σ, 2, none⟩ = some (.int .u64 ((s.t : Nat) : Int)) := by rw [cell_of_row w σ 2 _ _ _ h.head]; rfl
theorem LM.free (h : LM X σ g c b w m s) (i : Nat) : w.frozen? ⟨σ, i, none⟩ = false := frozen_of_row w σ i _ _ h.head
theorem LM.set_b {i x : Nat} (h : LM X σ g c b w m s) : LM X σ g c b (w.setCell ⟨g, i * 2, none⟩ (.int .u64 (x : Int))) m { s with b := s.b.set i x } :=
  ⟨(heap_setCell_other w ⟨g, i * 2, none⟩ σ _ h.far.1).trans h.head, h.acc.set_b, h.map.stay (heap_setCell_other w ⟨g, i * 2, none⟩ b _ h.far.2.2.symm), h.xσ, h.xg, h.xb, h.far⟩
theorem LM.set_n {i x : Nat} (h : LM X σ g c b w m s) (hx : x < 18446744073709551616) : LM X σ g c b (w.setCell ⟨g, i * 2 + 1, none⟩ (.int .u64 (x : Int))) m { s with n := s.n.set i x } :=
  ⟨(heap_setCell_other w ⟨g, i * 2 + 1, none⟩ σ _ h.far.1).trans h.head, h.acc.set_d hx, h.map.stay (heap_setCell_other w ⟨g, i * 2 + 1, none⟩ b _ h.far.2.2.symm), h.xσ, h.xg, h.xb, h.far⟩
theorem LM.set_t {x : Nat} (h : LM X σ g c b w m s) : LM X σ g c b (w.setCell ⟨σ, 2, none⟩ (.int .u64 (x : Int))) m { s with t := x } :=
  ⟨heap_setCell_same w σ 2 _ _ _ h.head, h.acc.stay (heap_setCell_other w ⟨σ, 2, none⟩ g _ h.far.1.symm), h.map.stay (heap_setCell_other w ⟨σ, 2, none⟩ b _ h.far.2.1.symm), h.xσ, h.xg, h.xb, h.far⟩
end
set_option maxHeartbeats 800000 in
theorem lg_has {X : Nat → Prop} {σ g c b m : Nat} {s : Lgr} (w : World) (h : LM X σ g c b w m s) (who : Int) :
    Calls Try.prog 35 #[.pointer (some ⟨σ, 0, none⟩), .int .i64 who] w (fun e w' => e = .returned (.bool (decide (Inn m who))) ∧ w = w') := by
  have c0 := h.c0
  clear h
  by_cases h1 : 0 ≤ who
  · have d1 : decide (who ≥ 0) = true := decide_eq_true (by omega)
    have d1' : decide (0 ≤ who) = true := decide_eq_true (by omega)
    rw [show decide (Inn m who) = decide (who < (m : Int)) from decide_eq_decide.2 (by unfold Inn; omega)]
    go_enter Try.func35, Try.ntmps35
    go_wp2
    go_ret
    exact ⟨rfl, rfl⟩
  · have d1 : decide (who ≥ 0) = false := decide_eq_false (by omega)
    have d1' : decide (0 ≤ who) = false := decide_eq_false (by omega)
    rw [show decide (Inn m who) = false from decide_eq_false (by unfold Inn; omega)]
    go_enter Try.func35, Try.ntmps35
    go_wp2
    go_ret
    exact ⟨rfl, rfl⟩
set_option maxHeartbeats 800000 in
theorem lg_nhas (w : World) (who : Int) :
    Calls Try.prog 35 #[.pointer none, .int .i64 who] w (fun e w' => e = .returned (.bool false) ∧ w = w') := by
  go_enter Try.func35, Try.ntmps35
  go_wp2
  go_ret
  exact ⟨rfl, rfl⟩
set_option maxHeartbeats 800000 in
theorem lg_balance {X : Nat → Prop} {σ g c b m : Nat} {s : Lgr} (who : Int) (w : World) (h : LM X σ g c b w m s) :
    Calls Try.prog 16 #[.pointer (some ⟨σ, 0, none⟩), .int .i64 who] w (Tells (.int .u64 (((if Inn m who then co s.b who.toNat else 0) : Nat) : Int)) w) := by
  have HI := Lib.hid (lg_has w h who)
  have c0 := h.c0
  by_cases hin : Inn m who
  · rw [decide_eq_true hin] at HI
    rw [if_pos hin]
    obtain ⟨h0, h1⟩ := hin
    obtain ⟨i, rfl⟩ : ∃ i : Nat, (i : Int) = who := ⟨who.toNat, by omega⟩
    have hi : i < m := by omega
    have ci := h.acc.at_b hi
    rw [Int.toNat_natCast]
    clear h
    go_enter Try.func16, Try.ntmps16
    go_wp2_with fail
    refine HI.out.mono ?_
    rintro e w1 ⟨rfl, rfl⟩
    go_wp2
    go_ret
    exact ⟨rfl, Ext.refl _⟩
  · rw [decide_eq_false hin] at HI
    rw [if_neg hin]
    clear h
    go_enter Try.func16, Try.ntmps16
    go_wp2_with fail
    refine HI.out.mono ?_
    rintro e w1 ⟨rfl, rfl⟩
    go_wp2
    go_ret
    exact ⟨rfl, Ext.refl _⟩
set_option maxHeartbeats 800000 in
theorem lg_nonce {X : Nat → Prop} {σ g c b m : Nat} {s : Lgr} (who : Int) (w : World) (h : LM X σ g c b w m s) :
    Calls Try.prog 17 #[.pointer (some ⟨σ, 0, none⟩), .int .i64 who] w (Tells (.int .u64 (((if Inn m who then co s.n who.toNat else 0) : Nat) : Int)) w) := by
  have HI := Lib.hid (lg_has w h who)
  have c0 := h.c0
  by_cases hin : Inn m who
  · rw [decide_eq_true hin] at HI
    rw [if_pos hin]
    obtain ⟨h0, h1⟩ := hin
    obtain ⟨i, rfl⟩ : ∃ i : Nat, (i : Int) = who := ⟨who.toNat, by omega⟩
    have hi : i < m := by omega
    have ci := h.acc.at_d hi
    rw [Int.toNat_natCast]
    clear h
    go_enter Try.func17, Try.ntmps17
    go_wp2_with fail
    refine HI.out.mono ?_
    rintro e w1 ⟨rfl, rfl⟩
    go_wp2
    go_ret
    exact ⟨rfl, Ext.refl _⟩
  · rw [decide_eq_false hin] at HI
    rw [if_neg hin]
    clear h
    go_enter Try.func17, Try.ntmps17
    go_wp2_with fail
    refine HI.out.mono ?_
    rintro e w1 ⟨rfl, rfl⟩
    go_wp2
    go_ret
    exact ⟨rfl, Ext.refl _⟩
theorem lg_nbalance (who : Int) (w : World) : Calls Try.prog 16 #[.pointer none, .int .i64 who] w (Tells (.int .u64 0) w) := by
  have HI := Lib.hid (lg_nhas w who)
  go_enter Try.func16, Try.ntmps16
  go_wp2_with fail
  refine HI.out.mono ?_
  rintro e w1 ⟨rfl, rfl⟩
  go_wp2
  go_ret
  exact ⟨rfl, Ext.refl _⟩
theorem lg_treasury {X : Nat → Prop} {σ g c b m : Nat} {s : Lgr} (w : World) (h : LM X σ g c b w m s) :
    Calls Try.prog 20 #[.pointer (some ⟨σ, 0, none⟩)] w (Tells (.int .u64 ((s.t : Nat) : Int)) w) := by
  have c2 := h.c2
  clear h
  go_enter Try.func20, Try.ntmps20
  go_wp2
  go_ret
  exact ⟨rfl, Ext.refl _⟩
end Go.Proofs.Ytoelkmmdnhnljaa

/-
  What Turn and Move do. Conditions: no more than 6 accounts, a total of no more than 2^60.
-/
namespace Go.Proofs.Ytoelkmmdnhnljaa
open Go.RowKit
open Pol (co)

theorem only_set {X : Nat → Prop} {g : Nat} (w : World) (o : Nat) (v : Value) (hg : X g) : Only X w (w.setCell ⟨g, o, none⟩ v) := Only.of_grown (grown_set w g o v) (fun k e => by injection e with e; rw [← e]; exact hg)
set_option maxHeartbeats 1600000 in
theorem lg_turn {X : Nat → Prop} {σ g c b m x : Nat} {s : Lgr} (who : Int) (w : World) (h : LM X σ g c b w m s) (hx : x < 18446744073709551616) :
    Calls Try.prog 26 #[.pointer (some ⟨σ, 0, none⟩), .int .i64 who, .int .u64 (x : Int)] w (OpP LgI X σ m w (if Inn m who then s.turn who.toNat x else (1, s))) := by
  have HI := Lib.hid (lg_has w h who)
  have HR := Lib.hid h
  have c0 := h.c0
  by_cases hin : Inn m who
  · rw [decide_eq_true hin] at HI
    rw [if_pos hin]
    obtain ⟨h0, h1⟩ := hin
    obtain ⟨i, rfl⟩ : ∃ i : Nat, (i : Int) = who := ⟨who.toNat, by omega⟩
    have hi : i < m := by omega
    have cn := h.acc.at_d hi
    have zn := h.acc.free (i * 2 + 1)
    rw [Int.toNat_natCast]
    obtain ⟨v, hv⟩ : ∃ v, co s.n i = v := ⟨_, rfl⟩
    rw [hv] at cn
    have HT := Lib.hid (show s.turn i x = if v ≠ x then (11, s) else if x = 18446744073709551615 then (10, s) else (0, { s with n := s.n.set i (x + 1) }) by rw [← hv]; rfl)
    clear h hv
    by_cases h1 : v = x
    · subst h1
      by_cases h2 : v = 18446744073709551615
      · rw [HT.out, if_neg (by simp), if_pos h2]
        subst h2
        go_enter Try.func26, Try.ntmps26
        go_wp2_with fail
        refine HI.out.mono ?_
        rintro e w1 ⟨rfl, rfl⟩
        go_wp2
        go_ret
        exact ⟨rfl, Only.refl _ _, _, _, _, HR.out⟩
      · rw [HT.out, if_neg (by simp), if_neg h2]
        have d2 : ((v : Int) == 18446744073709551615) = false := by simp; omega
        have d3 : decide ((v : Int) = 18446744073709551615) = false := decide_eq_false (by omega)
        have hb : v + 1 < 18446744073709551616 := by omega
        have e1 : IntKind.u64.wrap ((v : Int) + 1) = ((v + 1 : Nat) : Int) := by rw [IntKind.wrap_u64]; omega
        go_enter Try.func26, Try.ntmps26
        go_wp2_with fail
        refine HI.out.mono ?_
        rintro e w1 ⟨rfl, rfl⟩
        go_wp2
        go_ret
        exact ⟨rfl, only_set _ _ _ HR.out.xg, _, _, _, HR.out.set_n hb⟩
    · rw [HT.out, if_pos h1]
      have d2 : ((v : Int) == (x : Int)) = false := by simp; omega
      have d3 : ((v : Int) != (x : Int)) = true := by simp; omega
      go_enter Try.func26, Try.ntmps26
      go_wp2_with fail
      refine HI.out.mono ?_
      rintro e w1 ⟨rfl, rfl⟩
      go_wp2
      go_ret
      exact ⟨rfl, Only.refl _ _, _, _, _, HR.out⟩
  · rw [decide_eq_false hin] at HI
    rw [if_neg hin]
    clear h hin
    go_enter Try.func26, Try.ntmps26
    go_wp2_with fail
    refine HI.out.mono ?_
    rintro e w1 ⟨rfl, rfl⟩
    go_wp2
    go_ret
    exact ⟨rfl, Only.refl _ _, _, _, _, HR.out⟩
theorem lg_nturn (who : Int) (x : Nat) (w : World) : Calls Try.prog 26 #[.pointer none, .int .i64 who, .int .u64 (x : Int)] w (Tells (.int .i64 1) w) := by
  have HI := Lib.hid (lg_nhas w who)
  go_enter Try.func26, Try.ntmps26
  go_wp2_with fail
  refine HI.out.mono ?_
  rintro e w1 ⟨rfl, rfl⟩
  go_wp2
  go_ret
  exact ⟨rfl, Ext.refl _⟩
set_option maxHeartbeats 1600000 in
theorem lg_move {X : Nat → Prop} {σ g c b m M x : Nat} {s : Lgr} (from' to' : Int) (w : World) (h : LM X σ g c b w m s) (hk : Good s m M) (hx : x < 18446744073709551616) :
    Calls Try.prog 28 #[.pointer (some ⟨σ, 0, none⟩), .int .i64 from', .int .i64 to', .int .u64 (x : Int)] w (OpP LgI X σ m w (if Inn m from' ∧ Inn m to' then s.move from'.toNat to'.toNat x else (1, s))) := by
  have HI := Lib.hid (lg_has w h from')
  have HJ := Lib.hid (lg_has w h to')
  have HR := Lib.hid h
  have c0 := h.c0
  by_cases hin : Inn m from'
  · by_cases hjn : Inn m to'
    · rw [decide_eq_true hin] at HI
      rw [decide_eq_true hjn] at HJ
      rw [if_pos ⟨hin, hjn⟩]
      obtain ⟨h0, h1⟩ := hin
      obtain ⟨h2, h3⟩ := hjn
      obtain ⟨i, rfl⟩ : ∃ i : Nat, (i : Int) = from' := ⟨from'.toNat, by omega⟩
      obtain ⟨j, rfl⟩ : ∃ i : Nat, (i : Int) = to' := ⟨to'.toNat, by omega⟩
      have hi : i < m := by omega
      have hj : j < m := by omega
      have ci := h.acc.at_b hi
      have zi := h.acc.free (i * 2)
      rw [Int.toNat_natCast, Int.toNat_natCast]
      obtain ⟨v, hv⟩ : ∃ v, co s.b i = v := ⟨_, rfl⟩
      rw [hv] at ci
      have HT := Lib.hid (show s.move i j x = if v < x then (9, s) else (0, { s with b := (s.b.set i (v - x)).set j (co (s.b.set i (v - x)) j + x) }) by rw [← hv]; rfl)
      by_cases h4 : v < x
      · rw [HT.out, if_pos h4]
        have d1 : decide ((v : Int) < (x : Int)) = true := decide_eq_true (by omega)
        have d2 : decide (v < x) = true := decide_eq_true h4
        clear h hk hv
        go_enter Try.func28, Try.ntmps28
        go_wp2_with fail
        refine HI.out.mono ?_
        rintro e w1 ⟨rfl, rfl⟩
        go_wp2_with fail
        refine HJ.out.mono ?_
        rintro e w1 ⟨rfl, rfl⟩
        go_wp2
        go_ret
        exact ⟨rfl, Only.refl _ _, _, _, _, HR.out⟩
      · rw [HT.out, if_neg h4]
        have d1 : decide ((v : Int) < (x : Int)) = false := decide_eq_false (by omega)
        have d2 : decide (v < x) = false := decide_eq_false h4
        have hle := (hk.ok.le i).1
        rw [hv] at hle
        have hM := hk.tot
        have HB := fun (u : Nat) (hu : co (s.b.set i (v - x)) j = u) => show u + x ≤ M from by
          have h1 := sum_set13 s.b i (v - x) (by rw [hk.ok.lb]; exact hi)
          have h2 := co_le_sum13 (s.b.set i (v - x)) j
          have h3 := hk.ok.sum
          rw [hv] at h1
          omega
        obtain ⟨y, hy⟩ : ∃ y, v - x = y := ⟨_, rfl⟩
        have e1 : IntKind.u64.wrap ((v : Int) - (x : Int)) = (y : Int) := by rw [IntKind.wrap_u64]; omega
        rw [hy] at HB ⊢
        have H1 := h.set_b (i := i) (x := y)
        have c0' := H1.c0
        have cj := H1.acc.at_b hj
        have zj := H1.acc.free (j * 2)
        change World.cell? _ _ = some (.int .u64 ((co (s.b.set i y) j : Nat) : Int)) at cj
        obtain ⟨u, hu⟩ : ∃ u, co (s.b.set i y) j = u := ⟨_, rfl⟩
        have hux := HB u hu
        rw [hu] at cj ⊢
        obtain ⟨z, hz⟩ : ∃ z, u + x = z := ⟨_, rfl⟩
        have e2 : IntKind.u64.wrap ((u : Int) + (x : Int)) = (z : Int) := by rw [IntKind.wrap_u64]; omega
        rw [hz]
        have H2 := Lib.hid (H1.set_b (i := j) (x := z))
        clear h hk hv HB hu hz hux hy H1 hM hle HT
        go_enter Try.func28, Try.ntmps28
        go_wp2_with fail
        refine HI.out.mono ?_
        rintro e w1 ⟨rfl, rfl⟩
        go_wp2_with fail
        refine HJ.out.mono ?_
        rintro e w1 ⟨rfl, rfl⟩
        go_wp2
        go_ret
        exact ⟨rfl, (only_set _ _ _ HR.out.xg).trans (only_set _ _ _ HR.out.xg), _, _, _, H2.out⟩
    · rw [decide_eq_true hin] at HI
      rw [decide_eq_false hjn] at HJ
      rw [if_neg (fun h => hjn h.2)]
      clear h hk hin hjn
      go_enter Try.func28, Try.ntmps28
      go_wp2_with fail
      refine HI.out.mono ?_
      rintro e w1 ⟨rfl, rfl⟩
      go_wp2_with fail
      refine HJ.out.mono ?_
      rintro e w1 ⟨rfl, rfl⟩
      go_wp2
      go_ret
      exact ⟨rfl, Only.refl _ _, _, _, _, HR.out⟩
  · rw [decide_eq_false hin] at HI
    rw [if_neg (fun h => hin h.1)]
    clear h hk hin HJ
    go_enter Try.func28, Try.ntmps28
    go_wp2_with fail
    refine HI.out.mono ?_
    rintro e w1 ⟨rfl, rfl⟩
    go_wp2
    go_ret
    exact ⟨rfl, Only.refl _ _, _, _, _, HR.out⟩
theorem lg_nmove (a b : Int) (x : Nat) (w : World) : Calls Try.prog 28 #[.pointer none, .int .i64 a, .int .i64 b, .int .u64 (x : Int)] w (Tells (.int .i64 1) w) := by
  have HI := Lib.hid (lg_nhas w a)
  go_enter Try.func28, Try.ntmps28
  go_wp2_with fail
  refine HI.out.mono ?_
  rintro e w1 ⟨rfl, rfl⟩
  go_wp2
  go_ret
  exact ⟨rfl, Ext.refl _⟩
end Go.Proofs.Ytoelkmmdnhnljaa

/-
  What Hold does. Conditions: no more than 6 accounts, a total of no more than 2^60.
-/
namespace Go.Proofs.Ytoelkmmdnhnljaa
open Go.RowKit
open Pol (co)

/-- A store into the map, at the operation. -/
theorem wpList_store_amt {ops : Array Oper} {rest : List Oper} {o : Oper} {a : Act} {w : World} {Q : Exit → Act → World → Prop} (hg : o.guard = none) (m x v : Operand) (hop : o.op = Op.mapUpdate 50 m x v)
    {b n i p q : Nat} {f d : List Nat} (h : Hm w b n f d) (hi : i < n) (hn : n ≤ 1048576) (hf : f.length = n) (hd : d.length = n) (hm : a.eval m = .map (some b)) (hx : a.eval x = .int .i64 (i : Int)) (hv : a.eval v = .agg #[.int .u64 (p : Int), .int .u64 (q : Int)])
    (hK : ∀ w', Hm w' b n (f.set i p) (d.set i q) → w.grownBy w' (some b) → wpList Try.prog ops Q rest (a.put o.dst undef) w') : wpList Try.prog ops Q (o :: rest) a w := by
  refine wpList_plain hg fun K' hK' => ?_
  obtain ⟨w', hrun, r1, r2, _⟩ := h.store (x := p) (y := q) hi hn hf hd
  unfold Oper.wp
  simp [execOp, hop, hm, hx, hv, hrun, Result.andThen]
  exact hK' _ _ (hK w' r1 r2)
theorem LM.stored {X : Nat → Prop} {σ g c b m : Nat} {w w' : World} {s : Lgr} {f d : List Nat} (h : LM X σ g c b w m s) (hm : Hm w' b m f d) (hg : w.grownBy w' (some b)) : LM X σ g c b w' m { s with f := f, d := d } :=
  ⟨(hg.block σ (row_lt h.head) (fun e => h.far.2.1 (by injection e))).trans h.head, h.acc.stay (hg.block g h.acc.lt (fun e => h.far.2.2 (by injection e))), hm, h.xσ, h.xg, h.xb, h.far⟩
set_option maxHeartbeats 3200000 in
theorem lg_hold {X : Nat → Prop} {σ g c b m M x : Nat} {s : Lgr} (who : Int) (w : World) (h : LM X σ g c b w m s) (hk : Good s m M) (hx : x < 18446744073709551616) :
    Calls Try.prog 22 #[.pointer (some ⟨σ, 0, none⟩), .int .i64 who, .int .u64 (x : Int)] w (OpP LgI X σ m w (if Inn m who then s.hold who.toNat x else (1, s))) := by
  have HI := Lib.hid (lg_has w h who)
  have HR := Lib.hid h
  have c0 := h.c0
  by_cases hin : Inn m who
  · rw [decide_eq_true hin] at HI
    rw [if_pos hin]
    obtain ⟨h0, h1⟩ := hin
    obtain ⟨i, rfl⟩ : ∃ i : Nat, (i : Int) = who := ⟨who.toNat, by omega⟩
    have hi : i < m := by omega
    have ci := h.acc.at_b hi
    have zi := h.acc.free (i * 2)
    rw [Int.toNat_natCast]
    obtain ⟨v, hv⟩ : ∃ v, co s.b i = v := ⟨_, rfl⟩
    obtain ⟨f, hf⟩ : ∃ f, co s.f i = f := ⟨_, rfl⟩
    obtain ⟨d, hd⟩ : ∃ d, co s.d i = d := ⟨_, rfl⟩
    rw [hv] at ci
    have HT := Lib.hid (show s.hold i x = if v < 50 ∨ v - 50 < x then (9, s) else (0, { s with b := s.b.set i (v - x - 50), f := s.f.set i (f + x), d := s.d.set i (d + 50) }) by rw [← hv, ← hf, ← hd]; rfl)
    have hle := hk.ok.le i
    have hM := hk.tot
    have hm := hk.few
    have hM0 := hk.ok.sum
    have hs1 := co_le_sum13 s.b i
    have hs2 := co_le_sum13 s.f i
    have hs3 := co_le_sum13 s.d i
    rw [hv] at hle hs1
    rw [hf] at hle hs2
    rw [hd] at hle hs3
    by_cases h2 : v < 50
    · rw [HT.out, if_pos (Or.inl h2)]
      have d1 : decide ((v : Int) < 50) = true := decide_eq_true (by omega)
      clear h hk hv hf hd
      go_enter Try.func22, Try.ntmps22
      go_wp2_with fail
      refine HI.out.mono ?_
      rintro e w1 ⟨rfl, rfl⟩
      go_wp2
      go_ret
      exact ⟨rfl, Only.refl _ _, _, _, _, HR.out⟩
    · have d1 : decide ((v : Int) < 50) = false := decide_eq_false (by omega)
      obtain ⟨u, hu⟩ : ∃ u, v - 50 = u := ⟨_, rfl⟩
      have e0 : IntKind.u64.wrap ((v : Int) - 50) = (u : Int) := by rw [IntKind.wrap_u64]; omega
      by_cases h3 : v - 50 < x
      · rw [HT.out, if_pos (Or.inr h3)]
        have d2 : decide ((u : Int) < (x : Int)) = true := decide_eq_true (by omega)
        have d2' : decide (u < x) = true := decide_eq_true (by omega)
        clear h hk hv hf hd
        go_enter Try.func22, Try.ntmps22
        go_wp2_with fail
        refine HI.out.mono ?_
        rintro e w1 ⟨rfl, rfl⟩
        go_wp2
        go_ret
        exact ⟨rfl, Only.refl _ _, _, _, _, HR.out⟩
      · rw [HT.out, if_neg (by omega)]
        have d2 : decide ((u : Int) < (x : Int)) = false := decide_eq_false (by omega)
        have d2' : decide (u < x) = false := decide_eq_false (by omega)
        obtain ⟨z, hz⟩ : ∃ z, x + 50 = z := ⟨_, rfl⟩
        obtain ⟨y, hy⟩ : ∃ y, v - x - 50 = y := ⟨_, rfl⟩
        obtain ⟨p, hp⟩ : ∃ p, f + x = p := ⟨_, rfl⟩
        obtain ⟨q, hq⟩ : ∃ q, d + 50 = q := ⟨_, rfl⟩
        have e1 : IntKind.u64.wrap ((x : Int) + 50) = (z : Int) := by rw [IntKind.wrap_u64]; omega
        have e2 : IntKind.u64.wrap ((v : Int) - (z : Int)) = (y : Int) := by rw [IntKind.wrap_u64]; omega
        have e3 : IntKind.u64.wrap ((f : Int) + (x : Int)) = (p : Int) := by rw [IntKind.wrap_u64]; omega
        have e4 : IntKind.u64.wrap ((d : Int) + 50) = (q : Int) := by rw [IntKind.wrap_u64]; omega
        rw [hy, hp, hq]
        have H1 := h.set_b (i := i) (x := y)
        have c1 := H1.c1
        have hlk := H1.map.look hi (by omega)
        change Sem.run _ _ _ = .ok (Value.agg #[.int .u64 ((co s.f i : Nat) : Int), .int .u64 ((co s.d i : Nat) : Int)]) _ at hlk
        rw [hf, hd] at hlk
        have HH1 := Lib.hid H1
        have HLF := Lib.hid (And.intro hk.ok.lf hk.ok.ld)
        clear h hk hv hf hd H1 HT hle hM hM0 hs1 hs2 hs3 hu hz hy hp hq
        go_enter Try.func22, Try.ntmps22
        go_wp2_with fail
        refine HI.out.mono ?_
        rintro e w1 ⟨rfl, rfl⟩
        go_wp2
        have HW := Lib.hid (HH1.out.ext ((Ext.refl _).alloc (.cells #[.int .u64 (p : Int), .int .u64 (q : Int)] 63)))
        have HO := Lib.hid (show Only X w ((w.setCell ⟨g, i * 2, none⟩ (.int .u64 (y : Int))).alloc (.cells #[.int .u64 (p : Int), .int .u64 (q : Int)] 63)) from (only_set _ _ _ HR.out.xg).trans (Only.of_ext ((Ext.refl _).alloc _)))
        have hB : ((w.setCell ⟨g, i * 2, none⟩ (.int .u64 (y : Int))).alloc (.cells #[.int .u64 (p : Int), .int .u64 (q : Int)] 63)).heap[w.heap.size]? = some (.cells #[.int .u64 (p : Int), .int .u64 (q : Int)] 63) := by
          have h := heap_alloc_new (w.setCell ⟨g, i * 2, none⟩ (.int .u64 (y : Int))) (.cells #[.int .u64 (p : Int), .int .u64 (q : Int)] 63)
          rwa [show (w.setCell ⟨g, i * 2, none⟩ (.int .u64 (y : Int))).heap.size = w.heap.size from by simp [World.setCell]] at h
        have b0 := cell_of_row _ w.heap.size 0 _ _ _ hB
        have b1 := cell_of_row _ w.heap.size 1 _ _ _ hB
        simp only [List.getElem?_toArray, List.getElem?_cons_zero, List.getElem?_cons_succ] at b0 b1
        clear hlk c1 hB HH1 ci zi c0
        generalize w.heap.size = B at b0 b1 ⊢
        generalize ((w.setCell ⟨g, i * 2, none⟩ (.int .u64 (y : Int))).alloc (.cells #[.int .u64 (p : Int), .int .u64 (q : Int)] 63)) = W at HW HO b0 b1 ⊢
        have c1 := HW.out.c1
        refine wp_region_quiet_tail 6 (fun w' => ∃ q, w' = W.drewN q) (by kernel_rfl) (by kernel_rfl) ⟨1, rfl⟩ ?_
        simp only [List.take_succ_cons, List.take_zero, List.drop_succ_cons, List.drop_zero]
        repeat (quiet_step (fail))
        refine wpQuiet_nil ?_
        rintro _ ⟨n, rfl⟩
        have HN := Lib.hid (HW.out.stay (w' := W.drewN n) (fun _ _ => rfl))
        refine wpList_store_amt rfl (.tmp 60) (.tmp 61) (.tmp 62) rfl HN.out.map hi (by omega) HLF.out.1 HLF.out.2 rfl rfl rfl ?_
        intro w4 hm4 hg4
        have HE := Lib.hid (HN.out.stored hm4 hg4)
        have HO2 := Lib.hid ((HO.out.drewN n).trans (Only.of_grown hg4 (fun k e => by injection e with e; rw [← e]; exact HR.out.xb)))
        clear hm4 hg4
        go_wp2
        go_ret
        exact ⟨rfl, HO2.out, _, _, _, HE.out⟩
  · rw [decide_eq_false hin] at HI
    rw [if_neg hin]
    clear h hk hin
    go_enter Try.func22, Try.ntmps22
    go_wp2_with fail
    refine HI.out.mono ?_
    rintro e w1 ⟨rfl, rfl⟩
    go_wp2
    go_ret
    exact ⟨rfl, Only.refl _ _, _, _, _, HR.out⟩
theorem lg_nhold (who : Int) (x : Nat) (w : World) : Calls Try.prog 22 #[.pointer none, .int .i64 who, .int .u64 (x : Int)] w (Tells (.int .i64 1) w) := by
  have HI := Lib.hid (lg_nhas w who)
  go_enter Try.func22, Try.ntmps22
  go_wp2_with fail
  refine HI.out.mono ?_
  rintro e w1 ⟨rfl, rfl⟩
  go_wp2
  go_ret
  exact ⟨rfl, Ext.refl _⟩
end Go.Proofs.Ytoelkmmdnhnljaa

/-
  What release, Free, Pay and Slash do. Conditions: no more than 6 accounts, a total of no more than 2^60.
-/
namespace Go.Proofs.Ytoelkmmdnhnljaa
open Go.RowKit
open Pol (co)

set_option maxHeartbeats 1600000 in
theorem lg_release_out {X : Nat → Prop} {σ g c b m x : Nat} {s : Lgr} (who : Int) (w : World) (h : LM X σ g c b w m s) (hin : ¬ Inn m who) :
    Calls Try.prog 37 #[.pointer (some ⟨σ, 0, none⟩), .int .i64 who, .int .u64 (x : Int)] w (fun e w' => e = .returned (.int .i64 1) ∧ w = w') := by
  have HI := Lib.hid (lg_has w h who)
  rw [decide_eq_false hin] at HI
  clear h hin
  go_enter Try.func37, Try.ntmps37
  go_wp2_with fail
  refine HI.out.mono ?_
  rintro e w1 ⟨rfl, rfl⟩
  go_wp2
  go_ret
  exact ⟨rfl, rfl⟩
set_option maxHeartbeats 1600000 in
theorem lg_release_no {X : Nat → Prop} {σ g c b m i x : Nat} {s : Lgr} (w : World) (h : LM X σ g c b w m s) (hi : i < m) (hm : m ≤ 6) (hno : co s.f i < x ∨ co s.d i < 50) :
    Calls Try.prog 37 #[.pointer (some ⟨σ, 0, none⟩), .int .i64 (i : Int), .int .u64 (x : Int)] w (fun e w' => e = .returned (.int .i64 9) ∧ Ext w w') := by
  have HI := Lib.hid (lg_has w h (i : Int))
  rw [decide_eq_true (show Inn m (i : Int) from ⟨by omega, by omega⟩)] at HI
  have c1 := h.c1
  have hlk := h.map.look hi (by omega)
  obtain ⟨f, hf⟩ : ∃ f, co s.f i = f := ⟨_, rfl⟩
  obtain ⟨d, hd⟩ : ∃ d, co s.d i = d := ⟨_, rfl⟩
  rw [hf, hd] at hlk
  rw [hf, hd] at hno
  clear h hf hd
  by_cases h1 : f < x
  · have d1 : decide ((f : Int) < (x : Int)) = true := decide_eq_true (by omega)
    have d1' : decide (f < x) = true := decide_eq_true h1
    go_enter Try.func37, Try.ntmps37
    go_wp2_with fail
    refine HI.out.mono ?_
    rintro e w1 ⟨rfl, rfl⟩
    go_wp2
    go_ret
    exact ⟨rfl, (Ext.refl _).alloc _⟩
  · have d1 : decide ((f : Int) < (x : Int)) = false := decide_eq_false (by omega)
    have d1' : decide (f < x) = false := decide_eq_false h1
    have d2 : decide ((d : Int) < 50) = true := decide_eq_true (by omega)
    go_enter Try.func37, Try.ntmps37
    go_wp2_with fail
    refine HI.out.mono ?_
    rintro e w1 ⟨rfl, rfl⟩
    go_wp2
    go_ret
    exact ⟨rfl, (Ext.refl _).alloc _⟩
set_option maxHeartbeats 3200000 in
theorem lg_release_ok {X : Nat → Prop} {σ g c b m M i x : Nat} {s : Lgr} (w : World) (h : LM X σ g c b w m s) (hk : Good s m M) (hi : i < m) (h1 : x ≤ co s.f i) (h2 : 50 ≤ co s.d i) :
    Calls Try.prog 37 #[.pointer (some ⟨σ, 0, none⟩), .int .i64 (i : Int), .int .u64 (x : Int)] w
      (fun e w' => e = .returned (.int .i64 0) ∧ Only X w w' ∧ LM X σ g c b w' m { s with f := s.f.set i (co s.f i - x), d := s.d.set i (co s.d i - 50) }) := by
  have HI := Lib.hid (lg_has w h (i : Int))
  rw [decide_eq_true (show Inn m (i : Int) from ⟨by omega, by omega⟩)] at HI
  have c1 := h.c1
  have hm := hk.few
  have hlk := h.map.look hi (by omega)
  have hle := hk.ok.le i
  have hM := hk.tot
  obtain ⟨f, hf⟩ : ∃ f, co s.f i = f := ⟨_, rfl⟩
  obtain ⟨d, hd⟩ : ∃ d, co s.d i = d := ⟨_, rfl⟩
  rw [hf, hd] at hlk hle
  rw [hf] at h1 ⊢
  rw [hd] at h2 ⊢
  have d1 : decide ((f : Int) < (x : Int)) = false := decide_eq_false (by omega)
  have d1' : decide (f < x) = false := decide_eq_false (by omega)
  have d2 : decide ((d : Int) < 50) = false := decide_eq_false (by omega)
  obtain ⟨p, hp⟩ : ∃ p, f - x = p := ⟨_, rfl⟩
  obtain ⟨q, hq⟩ : ∃ q, d - 50 = q := ⟨_, rfl⟩
  have e3 : IntKind.u64.wrap ((f : Int) - (x : Int)) = (p : Int) := by rw [IntKind.wrap_u64]; omega
  have e4 : IntKind.u64.wrap ((d : Int) - 50) = (q : Int) := by rw [IntKind.wrap_u64]; omega
  rw [hp, hq]
  have HR := Lib.hid h
  have HLF := Lib.hid (And.intro hk.ok.lf hk.ok.ld)
  clear h hk hf hd hp hq hle hM h1 h2
  go_enter Try.func37, Try.ntmps37
  go_wp2_with fail
  refine HI.out.mono ?_
  rintro e w1 ⟨rfl, rfl⟩
  go_wp2
  have HW := Lib.hid (HR.out.ext ((Ext.refl _).alloc (.cells #[.int .u64 (p : Int), .int .u64 (q : Int)] 63)))
  have HO := Lib.hid (show Only X w (w.alloc (.cells #[.int .u64 (p : Int), .int .u64 (q : Int)] 63)) from Only.of_ext ((Ext.refl _).alloc _))
  have hB := heap_alloc_new w (.cells #[.int .u64 (p : Int), .int .u64 (q : Int)] 63)
  have b0 := cell_of_row _ w.heap.size 0 _ _ _ hB
  have b1 := cell_of_row _ w.heap.size 1 _ _ _ hB
  simp only [List.getElem?_toArray, List.getElem?_cons_zero, List.getElem?_cons_succ] at b0 b1
  clear hlk c1 hB
  generalize w.heap.size = B at b0 b1 ⊢
  generalize w.alloc (.cells #[.int .u64 (p : Int), .int .u64 (q : Int)] 63) = W at HW HO b0 b1 ⊢
  have c1 := HW.out.c1
  refine wp_region_quiet_tail 6 (fun w' => ∃ q, w' = W.drewN q) (by kernel_rfl) (by kernel_rfl) ⟨1, rfl⟩ ?_
  simp only [List.take_succ_cons, List.take_zero, List.drop_succ_cons, List.drop_zero]
  repeat (quiet_step (fail))
  refine wpQuiet_nil ?_
  rintro _ ⟨n, rfl⟩
  have HN := Lib.hid (HW.out.stay (w' := W.drewN n) (fun _ _ => rfl))
  refine wpList_store_amt rfl (.tmp 39) (.tmp 40) (.tmp 41) rfl HN.out.map hi (by omega) HLF.out.1 HLF.out.2 rfl rfl rfl ?_
  intro w4 hm4 hg4
  have HE := Lib.hid (HN.out.stored hm4 hg4)
  have HO2 := Lib.hid ((HO.out.drewN n).trans (Only.of_grown hg4 (fun k e => by injection e with e; rw [← e]; exact HR.out.xb)))
  clear hm4 hg4
  go_wp2
  go_ret
  exact ⟨rfl, HO2.out, HE.out⟩
theorem set_same_l13 : ∀ (l : List Nat) (i : Nat), i < l.length → l.set i (co l i) = l
  | [], _, h => absurd h (by simp)
  | x :: l, 0, _ => by simp [co]
  | x :: l, i + 1, h => by
    have := set_same_l13 l i (by simpa using h)
    unfold co at this ⊢
    simp at this ⊢
    exact this
set_option maxHeartbeats 3200000 in
theorem lg_free {X : Nat → Prop} {σ g c b m M x : Nat} {s : Lgr} (who : Int) (w : World) (h : LM X σ g c b w m s) (hk : Good s m M) (hx : x < 18446744073709551616) :
    Calls Try.prog 23 #[.pointer (some ⟨σ, 0, none⟩), .int .i64 who, .int .u64 (x : Int)] w (OpP LgI X σ m w (if Inn m who then s.back who.toNat x true true else (1, s))) := by
  have HR := Lib.hid h
  by_cases hin : Inn m who
  · rw [if_pos hin]
    obtain ⟨h0, h1⟩ := hin
    obtain ⟨i, rfl⟩ : ∃ i : Nat, (i : Int) = who := ⟨who.toNat, by omega⟩
    have hi : i < m := by omega
    rw [Int.toNat_natCast]
    have hdep := hk.ok.dep i
    have hm := hk.few
    by_cases h2 : co s.f i < x ∨ co s.d i = 0
    · have HI := Lib.hid (lg_release_no (x := x) w h hi hm (by omega))
      rw [show s.back i x true true = (9, s) from if_pos h2]
      clear h hk hdep h2
      go_enter Try.func23, Try.ntmps23
      go_wp2_with fail
      refine HI.out.mono ?_
      rintro e w1 ⟨rfl, hx1⟩
      have HX := Lib.hid hx1
      clear hx1
      go_wp2
      go_ret
      exact ⟨rfl, Only.of_ext HX.out, _, _, _, HR.out.ext HX.out⟩
    · have HI := Lib.hid (lg_release_ok (x := x) w h hk hi (by omega) (by omega))
      have hok := Lgr.back_ok (fee := x) (u := true) (v := true) hk.ok hi
      have HT := (show s.back i x true true = (0, _) from if_neg h2)
      rw [HT] at hok ⊢
      have hle2 := hok.le i
      have hb2 : ∀ y, co (s.b.set i y) i = y := fun y => by rw [co_set13, if_pos ⟨rfl, by rw [hk.ok.lb]; exact hi⟩]
      dsimp only at hle2 ⊢
      rw [hb2] at hle2
      have hM := hk.tot
      have hle := hk.ok.le i
      obtain ⟨v, hv⟩ : ∃ v, co s.b i = v := ⟨_, rfl⟩
      obtain ⟨t, ht⟩ : ∃ t, s.t = t := ⟨_, rfl⟩
      obtain ⟨p, hp⟩ : ∃ p, co s.f i - x = p := ⟨_, rfl⟩
      obtain ⟨q, hq⟩ : ∃ q, co s.d i - 50 = q := ⟨_, rfl⟩
      rw [hv, ht] at hle2 hle
      rw [hp, hq] at HI
      rw [hv, ht, hp, hq]
      simp only [if_true, Nat.add_zero] at hle2 ⊢
      obtain ⟨z, hz⟩ : ∃ z, x + 50 = z := ⟨_, rfl⟩
      obtain ⟨y, hy⟩ : ∃ y, v + x + 50 = y := ⟨_, rfl⟩
      have e1 : IntKind.u64.wrap ((x : Int) + 50) = (z : Int) := by rw [IntKind.wrap_u64]; omega
      have e2 : IntKind.u64.wrap ((v : Int) + (z : Int)) = (y : Int) := by rw [IntKind.wrap_u64]; omega
      rw [hy]
      have HV := Lib.hid hv
      have HTT := Lib.hid ht
      have HLB := Lib.hid (show i < s.b.length by rw [hk.ok.lb]; exact hi)
      clear h hk hdep h2 hok HT hle2 hle hM hb2 hv ht hp hq hz hy
      go_enter Try.func23, Try.ntmps23
      go_wp2_with fail
      refine HI.out.mono ?_
      rintro e w1 ⟨rfl, ho1, h1'⟩
      have HO := Lib.hid ho1
      have HL := Lib.hid h1'
      clear ho1
      have c0 := h1'.c0
      have ci := h1'.acc.at_b hi
      have zi := h1'.acc.free (i * 2)
      change World.cell? _ _ = some (.int .u64 ((co s.b i : Nat) : Int)) at ci
      rw [HV.out] at ci
      have HS := Lib.hid (h1'.set_b (i := i) (x := y))
      clear h1'
      go_wp2
      go_ret
      rw [← HTT.out]
      exact ⟨rfl, HO.out.trans (only_set _ _ _ HR.out.xg), _, _, _, HS.out⟩
  · have HI := Lib.hid (lg_release_out (x := x) who w h hin)
    rw [if_neg hin]
    clear h hk hin
    go_enter Try.func23, Try.ntmps23
    go_wp2_with fail
    refine HI.out.mono ?_
    rintro e w1 ⟨rfl, rfl⟩
    go_wp2
    go_ret
    exact ⟨rfl, Only.refl _ _, _, _, _, HR.out⟩
set_option maxHeartbeats 3200000 in
theorem lg_pay {X : Nat → Prop} {σ g c b m M x : Nat} {s : Lgr} (who : Int) (w : World) (h : LM X σ g c b w m s) (hk : Good s m M) :
    Calls Try.prog 24 #[.pointer (some ⟨σ, 0, none⟩), .int .i64 who, .int .u64 (x : Int)] w (OpP LgI X σ m w (if Inn m who then s.back who.toNat x false true else (1, s))) := by
  have HR := Lib.hid h
  by_cases hin : Inn m who
  · rw [if_pos hin]
    obtain ⟨h0, h1⟩ := hin
    obtain ⟨i, rfl⟩ : ∃ i : Nat, (i : Int) = who := ⟨who.toNat, by omega⟩
    have hi : i < m := by omega
    rw [Int.toNat_natCast]
    have hdep := hk.ok.dep i
    have hm := hk.few
    by_cases h2 : co s.f i < x ∨ co s.d i = 0
    · have HI := Lib.hid (lg_release_no (x := x) w h hi hm (by omega))
      rw [show s.back i x false true = (9, s) from if_pos h2]
      clear h hk hdep h2
      go_enter Try.func24, Try.ntmps24
      go_wp2_with fail
      refine HI.out.mono ?_
      rintro e w1 ⟨rfl, hx1⟩
      have HX := Lib.hid hx1
      clear hx1
      go_wp2
      go_ret
      exact ⟨rfl, Only.of_ext HX.out, _, _, _, HR.out.ext HX.out⟩
    · have HI := Lib.hid (lg_release_ok (x := x) w h hk hi (by omega) (by omega))
      have hok := Lgr.back_ok (fee := x) (u := false) (v := true) hk.ok hi
      have HT := (show s.back i x false true = (0, _) from if_neg h2)
      rw [HT] at hok ⊢
      have hle2 := hok.le i
      have hb2 : ∀ y, co (s.b.set i y) i = y := fun y => by rw [co_set13, if_pos ⟨rfl, by rw [hk.ok.lb]; exact hi⟩]
      dsimp only at hle2 ⊢
      rw [hb2] at hle2
      have hM := hk.tot
      have hle := hk.ok.le i
      obtain ⟨v, hv⟩ : ∃ v, co s.b i = v := ⟨_, rfl⟩
      obtain ⟨t, ht⟩ : ∃ t, s.t = t := ⟨_, rfl⟩
      obtain ⟨p, hp⟩ : ∃ p, co s.f i - x = p := ⟨_, rfl⟩
      obtain ⟨q, hq⟩ : ∃ q, co s.d i - 50 = q := ⟨_, rfl⟩
      rw [hv, ht] at hle2 hle
      rw [hp, hq] at HI
      rw [hv, ht, hp, hq]
      simp only [if_true, Bool.false_eq_true, if_false, Nat.add_zero] at hle2 ⊢
      obtain ⟨y, hy⟩ : ∃ y, v + 50 = y := ⟨_, rfl⟩
      obtain ⟨z, hz⟩ : ∃ z, t + x = z := ⟨_, rfl⟩
      have e1 : IntKind.u64.wrap ((v : Int) + 50) = (y : Int) := by rw [IntKind.wrap_u64]; omega
      have e2 : IntKind.u64.wrap ((t : Int) + (x : Int)) = (z : Int) := by rw [IntKind.wrap_u64]; omega
      rw [hy, hz]
      have HV := Lib.hid hv
      have HTT := Lib.hid ht
      have HLB := Lib.hid (show i < s.b.length by rw [hk.ok.lb]; exact hi)
      clear h hk hdep h2 hok HT hle2 hle hM hb2 hv ht hp hq hz hy
      go_enter Try.func24, Try.ntmps24
      go_wp2_with fail
      refine HI.out.mono ?_
      rintro e w1 ⟨rfl, ho1, h1'⟩
      have HO := Lib.hid ho1
      have HL := Lib.hid h1'
      clear ho1
      have c0 := h1'.c0
      have ci := h1'.acc.at_b hi
      have zi := h1'.acc.free (i * 2)
      change World.cell? _ _ = some (.int .u64 ((co s.b i : Nat) : Int)) at ci
      rw [HV.out] at ci
      have HS := Lib.hid (h1'.set_b (i := i) (x := y))
      have c2 := HS.out.c2
      have z2 := HS.out.free 2
      change World.cell? _ _ = some (.int .u64 ((s.t : Nat) : Int)) at c2
      rw [HTT.out] at c2
      have HS2 := Lib.hid (HS.out.set_t (x := z))
      clear h1'
      go_wp2
      go_ret
      exact ⟨rfl, HO.out.trans ((only_set _ _ _ HR.out.xg).trans (only_set _ _ _ HR.out.xσ)), _, _, _, HS2.out⟩
  · have HI := Lib.hid (lg_release_out (x := x) who w h hin)
    rw [if_neg hin]
    clear h hk hin
    go_enter Try.func24, Try.ntmps24
    go_wp2_with fail
    refine HI.out.mono ?_
    rintro e w1 ⟨rfl, rfl⟩
    go_wp2
    go_ret
    exact ⟨rfl, Only.refl _ _, _, _, _, HR.out⟩
set_option maxHeartbeats 3200000 in
theorem lg_slash {X : Nat → Prop} {σ g c b m M x : Nat} {s : Lgr} (who : Int) (w : World) (h : LM X σ g c b w m s) (hk : Good s m M) (hx : x < 18446744073709551616) :
    Calls Try.prog 25 #[.pointer (some ⟨σ, 0, none⟩), .int .i64 who, .int .u64 (x : Int)] w (OpP LgI X σ m w (if Inn m who then s.back who.toNat x false false else (1, s))) := by
  have HR := Lib.hid h
  by_cases hin : Inn m who
  · rw [if_pos hin]
    obtain ⟨h0, h1⟩ := hin
    obtain ⟨i, rfl⟩ : ∃ i : Nat, (i : Int) = who := ⟨who.toNat, by omega⟩
    have hi : i < m := by omega
    rw [Int.toNat_natCast]
    have hdep := hk.ok.dep i
    have hm := hk.few
    by_cases h2 : co s.f i < x ∨ co s.d i = 0
    · have HI := Lib.hid (lg_release_no (x := x) w h hi hm (by omega))
      rw [show s.back i x false false = (9, s) from if_pos h2]
      clear h hk hdep h2
      go_enter Try.func25, Try.ntmps25
      go_wp2_with fail
      refine HI.out.mono ?_
      rintro e w1 ⟨rfl, hx1⟩
      have HX := Lib.hid hx1
      clear hx1
      go_wp2
      go_ret
      exact ⟨rfl, Only.of_ext HX.out, _, _, _, HR.out.ext HX.out⟩
    · have HI := Lib.hid (lg_release_ok (x := x) w h hk hi (by omega) (by omega))
      have hok := Lgr.back_ok (fee := x) (u := false) (v := false) hk.ok hi
      have HT := (show s.back i x false false = (0, _) from if_neg h2)
      rw [HT] at hok ⊢
      have hle2 := hok.le i
      have hb2 : ∀ y, co (s.b.set i y) i = y := fun y => by rw [co_set13, if_pos ⟨rfl, by rw [hk.ok.lb]; exact hi⟩]
      dsimp only at hle2 ⊢
      rw [hb2] at hle2
      have hM := hk.tot
      have hle := hk.ok.le i
      obtain ⟨v, hv⟩ : ∃ v, co s.b i = v := ⟨_, rfl⟩
      obtain ⟨t, ht⟩ : ∃ t, s.t = t := ⟨_, rfl⟩
      obtain ⟨p, hp⟩ : ∃ p, co s.f i - x = p := ⟨_, rfl⟩
      obtain ⟨q, hq⟩ : ∃ q, co s.d i - 50 = q := ⟨_, rfl⟩
      rw [hv, ht] at hle2 hle
      rw [hp, hq] at HI
      rw [hv, ht, hp, hq]
      simp only [Bool.false_eq_true, if_false, Nat.add_zero] at hle2 ⊢
      obtain ⟨y, hy⟩ : ∃ y, x + 50 = y := ⟨_, rfl⟩
      obtain ⟨z, hz⟩ : ∃ z, t + x + 50 = z := ⟨_, rfl⟩
      have e1 : IntKind.u64.wrap ((x : Int) + 50) = (y : Int) := by rw [IntKind.wrap_u64]; omega
      have e2 : IntKind.u64.wrap ((t : Int) + (y : Int)) = (z : Int) := by rw [IntKind.wrap_u64]; omega
      rw [hz]
      have HV := Lib.hid hv
      have HTT := Lib.hid ht
      have HLB := Lib.hid (show i < s.b.length by rw [hk.ok.lb]; exact hi)
      clear h hk hdep h2 hok HT hle2 hle hM hb2 hv ht hp hq hz hy
      go_enter Try.func25, Try.ntmps25
      go_wp2_with fail
      refine HI.out.mono ?_
      rintro e w1 ⟨rfl, ho1, h1'⟩
      have HO := Lib.hid ho1
      have HL := Lib.hid h1'
      clear ho1
      have c2 := h1'.c2
      have z2 := h1'.free 2
      change World.cell? _ _ = some (.int .u64 ((s.t : Nat) : Int)) at c2
      rw [HTT.out] at c2
      have HS := Lib.hid (h1'.set_t (x := z))
      clear h1'
      go_wp2
      go_ret
      rw [show s.b.set i v = s.b from by rw [← HV.out]; exact set_same_l13 _ _ HLB.out]
      exact ⟨rfl, HO.out.trans (only_set _ _ _ HR.out.xσ), _, _, _, HS.out⟩
  · have HI := Lib.hid (lg_release_out (x := x) who w h hin)
    rw [if_neg hin]
    clear h hk hin
    go_enter Try.func25, Try.ntmps25
    go_wp2_with fail
    refine HI.out.mono ?_
    rintro e w1 ⟨rfl, rfl⟩
    go_wp2
    go_ret
    exact ⟨rfl, Only.refl _ _, _, _, _, HR.out⟩
end Go.Proofs.Ytoelkmmdnhnljaa

/-
  What back, Fees, Deposits and Total do. Conditions: no more than 6 accounts, a total of no more than 2^60.
-/
namespace Go.Proofs.Ytoelkmmdnhnljaa
open Go.RowKit
open Pol (co)

/-- The sum of the accounts that are still to come. -/
def lsum (left : Lit → Bool) (l : List Nat) : Nat → Nat
  | 0 => 0
  | m + 1 => lsum left l m + if left (ak m) then co l m else 0
theorem lsum_none {left : Lit → Bool} (l : List Nat) (h : ∀ k, left k = false) : ∀ m, lsum left l m = 0
  | 0 => rfl
  | m + 1 => by unfold lsum; rw [lsum_none l h m, h]; rfl
theorem lsum_take {left : Lit → Bool} (l : List Nat) : ∀ m, m ≤ l.length → (∀ i, i < m → left (ak i) = false → co l i = 0) → lsum left l m = (l.take m).sum
  | 0, _, _ => by simp [lsum]
  | m + 1, hm, h => by
    unfold lsum
    rw [lsum_take l m (by omega) (fun i hi => h i (by omega)), take_sum13 l m (by omega)]
    cases hl : left (ak m)
    · rw [h m (by omega) hl]; simp
    · simp
theorem lsum_all {left : Lit → Bool} (l : List Nat) {m : Nat} (hm : l.length = m) (h : ∀ i, i < m → left (ak i) = false → co l i = 0) : lsum left l m = l.sum := by
  rw [lsum_take l m (by omega) h, ← hm, List.take_length]
theorem lsum_other {left : Lit → Bool} (l : List Nat) {i : Nat} : ∀ m, m ≤ i → lsum (fun z => left z && !z.sameKey (ak i)) l m = lsum left l m
  | 0, _ => rfl
  | m + 1, hm => by
    unfold lsum
    rw [lsum_other l m (by omega)]
    rw [show (left (ak m) && !(ak m).sameKey (ak i)) = left (ak m) from by rw [Maps.sameKey_ne (ak_ne (by omega))]; simp]
theorem lsum_step {left : Lit → Bool} (l : List Nat) {i : Nat} (hl : left (ak i) = true) : ∀ m, i < m → lsum left l m = co l i + lsum (fun z => left z && !z.sameKey (ak i)) l m
  | 0, h => absurd h (by omega)
  | m + 1, h => by
    unfold lsum
    by_cases e : i = m
    · subst e
      rw [lsum_other l i (Nat.le_refl _), hl, show (true && !(ak i).sameKey (ak i)) = false from by rw [WideAt.sameKey_self (ak_key i)]; rfl]
      simp
      omega
    · rw [lsum_step l hl m (by omega), show (left (ak m) && !(ak m).sameKey (ak i)) = left (ak m) from by rw [Maps.sameKey_ne (ak_ne (fun h => e h.symm))]; simp]
      omega
set_option maxHeartbeats 3200000 in
theorem lg_back {X : Nat → Prop} {σ g c b m M : Nat} {s : Lgr} (w : World) (h : LM X σ g c b w m s) (hk : Good s m M) :
    Calls Try.prog 36 #[.pointer (some ⟨σ, 0, none⟩)] w (Tells (.agg #[.int .u64 ((s.f.sum : Nat) : Int), .int .u64 ((s.d.sum : Nat) : Int)]) w) := by
  have hm := hk.few
  have hx0 : Ext w ((w.alloc (.cells #[.int .u64 0, .int .u64 0] 63)).alloc (.cells #[.int .u64 0, .int .u64 0] 63)) := ((Ext.refl _).alloc _).alloc _
  have H0 := h.ext hx0
  have c1 := H0.c1
  have hbl := h.map.lt
  obtain ⟨D, ho, hhas, hat⟩ := H0.map
  have hR : ((w.alloc (.cells #[.int .u64 0, .int .u64 0] 63)).alloc (.cells #[.int .u64 0, .int .u64 0] 63)).heap[w.heap.size]? = some (.cells #[.int .u64 0, .int .u64 0] 63) := by
    rw [heap_alloc_old _ _ (by simp)]
    exact heap_alloc_new w _
  have hA : ((w.alloc (.cells #[.int .u64 0, .int .u64 0] 63)).alloc (.cells #[.int .u64 0, .int .u64 0] 63)).heap[w.heap.size + 1]? = some (.cells #[.int .u64 0, .int .u64 0] 63) := by
    have h := heap_alloc_new (w.alloc (.cells #[.int .u64 0, .int .u64 0] 63)) (.cells #[.int .u64 0, .int .u64 0] 63)
    rwa [show (w.alloc (.cells #[.int .u64 0, .int .u64 0] 63)).heap.size = w.heap.size + 1 from by simp] at h
  have hz : ((w.alloc (.cells #[.int .u64 0, .int .u64 0] 63)).alloc (.cells #[.int .u64 0, .int .u64 0] 63)).heap.size = w.heap.size + 2 := by simp
  have HR := Lib.hid hR
  have HA := Lib.hid hA
  have HX0 := Lib.hid hx0
  have HZ := Lib.hid hz
  have HK := Lib.hid hk
  have HHAS := Lib.hid hhas
  have HAT := Lib.hid hat
  have HBL := Lib.hid hbl
  clear h hk H0 hR hA hx0 hz hhas hat hbl
  go_enter Try.func36, Try.ntmps36
  go_wp2_with (first | (at_range; refine wpList_range_own _ rfl _ 50 rfl 3 63 KI Try.underlying50 RA b m D rfl ho ?_; intro w1 hrg hg1 hs1) | fail)
  go_frame
  rw [HZ.out] at hrg hs1 ⊢
  have HR1 := Lib.hid ((hg1.block _ (by rw [HZ.out]; omega) (by simp)).trans HR.out)
  have HA1 := Lib.hid ((hg1.block _ (by rw [HZ.out]; omega) (by simp)).trans HA.out)
  have HX1 := Lib.hid (HX0.out.more hg1 (fun k e => by cases e))
  obtain ⟨B, hB⟩ : ∃ B, w.heap.size = B := ⟨_, rfl⟩
  rw [hB] at HR1 HA1 HBL hrg hs1 ⊢
  clear c1 ho HR HA HX0 HZ hg1 hs1
  go_loopg [] (Maps.size D) (fun gk wx => ∃ (left : Lit → Bool) (F E : Nat), wx.ranges Try.prog 3 RA b (B + 2) m D left gk ∧ wx.heap[B]? = some (.cells #[.int .u64 0, .int .u64 0] 63) ∧ wx.heap[B + 1]? = some (.cells #[.int .u64 (F : Int), .int .u64 (E : Int)] 63) ∧
    F + lsum left s.f m = s.f.sum ∧ E + lsum left s.d m = s.d.sum ∧ (∀ kl, left kl = true → ∃ i, i < m ∧ kl = ak i) ∧ Ext w wx)
  case atStart =>
    have hz0 : ∀ i, i < m → Maps.has D (ak i) = false → co s.f i = 0 ∧ co s.d i = 0 := fun i hi hn => by
      have h1 := HAT.out i hi
      rw [Maps.atKey_of_not_has hn] at h1
      obtain ⟨e1, e2⟩ := amt_inj h1
      omega
    exact ⟨Maps.has D, 0, 0, hrg, HR1.out, HA1.out, by rw [Nat.zero_add]; exact lsum_all _ HK.out.ok.lf (fun i hi hn => (hz0 i hi hn).1), by rw [Nat.zero_add]; exact lsum_all _ HK.out.ok.ld (fun i hi hn => (hz0 i hi hn).2), HHAS.out, HX1.out⟩
  case round =>
    obtain ⟨left, F, E, hrg', hRr, hAr, hF, hE, hleft, hxr⟩ := hrel
    have HRr := Lib.hid hRr
    have HAr := Lib.hid hAr
    have HF := Lib.hid hF
    have HE := Lib.hid hE
    have HL := Lib.hid hleft
    have HXr := Lib.hid hxr
    clear hRr hAr hF hE hleft hxr hrg HX1 HA1 HR1 HHAS
    go_wp2_with (first | (at_next; refine wpList_next_ranges _ rfl _ rfl 3 KI RA (Value.int .i64) (fun p : Int × Int => Value.agg #[.int .u64 p.1, .int .u64 p.2]) (fun key kl hkey => by obtain ⟨x, rfl, _⟩ := Maps.keyOf_int_inv Try.underlying3 hkey; exact ⟨x, rfl⟩) (fun v y hv => by obtain ⟨f, d, rfl, _⟩ := RA_inv hv; exact ⟨(f, d), rfl⟩) b (B + 2) m D left gk rfl hrg' ?_ ?_) | fail)
    · intro _ hl0
      have HFs := Lib.hid (show s.f.sum = F by have := HF.out; rw [lsum_none s.f hl0] at this; omega)
      have HEs := Lib.hid (show s.d.sum = E by have := HE.out; rw [lsum_none s.d hl0] at this; omega)
      have a0 := cell_of_row _ (B + 1) 0 _ _ _ HAr.out
      have a1 := cell_of_row _ (B + 1) 1 _ _ _ HAr.out
      simp only [List.getElem?_toArray, List.getElem?_cons_zero, List.getElem?_cons_succ] at a0 a1
      have r0 := cell_of_row _ B 0 _ _ _ HRr.out
      have r1 := cell_of_row _ B 1 _ _ _ HRr.out
      simp only [List.getElem?_toArray, List.getElem?_cons_zero, List.getElem?_cons_succ] at r0 r1
      have z0 : wr.frozen? ⟨B, 0, none⟩ = false := frozen_of_row _ B 0 _ _ HRr.out
      have h1 : (wr.setCell ⟨B, 0, none⟩ (.int .u64 (F : Int))).heap[B]? = some (.cells #[.int .u64 (F : Int), .int .u64 0] 63) := heap_setCell_same wr B 0 _ _ _ HRr.out
      have r1' := cell_of_row _ B 1 _ _ _ h1
      simp only [List.getElem?_toArray, List.getElem?_cons_zero, List.getElem?_cons_succ] at r1'
      have z1 : (wr.setCell ⟨B, 0, none⟩ (.int .u64 (F : Int))).frozen? ⟨B, 1, none⟩ = false := frozen_of_row _ B 1 _ _ h1
      have h2 : ((wr.setCell ⟨B, 0, none⟩ (.int .u64 (F : Int))).setCell ⟨B, 1, none⟩ (.int .u64 (E : Int))).heap[B]? = some (.cells #[.int .u64 (F : Int), .int .u64 (E : Int)] 63) := heap_setCell_same _ B 1 _ _ _ h1
      have H2 := Lib.hid h2
      have HXX := Lib.hid (show Ext w ((wr.setCell ⟨B, 0, none⟩ (.int .u64 (F : Int))).setCell ⟨B, 1, none⟩ (.int .u64 (E : Int))) from (HXr.out.setCell (p := ⟨B, 0, none⟩) (by rw [hB]; exact Nat.le_refl _) _).setCell (p := ⟨B, 1, none⟩) (by rw [hB]; exact Nat.le_refl _) _)
      clear hl0 hrg' h1 h2
      go_wp2
      refine bodyPost_ret (results_cell_row Try.results36 _ _ B 63 _ (0, 0) _ rfl H2.out Try.underlying63 rfl (by kernel_rfl)) rfl ?_
      exact ⟨by rw [HFs.out, HEs.out], HXX.out⟩
    · intro x p1 p2 kl yd ypl w2 cnt' hkey hlk hv hat hrg2 hlt hg2 hs2 hen
      obtain ⟨i, hi, rfl⟩ := HL.out kl hlk
      rw [RA_mk] at hv
      injection hv with hv
      injection hv with hv _
      have h1 := hat (amt 0 0)
      rw [HAT.out i hi, ← hv] at h1
      obtain ⟨e3, e4⟩ := amt_inj h1
      subst e3 e4
      have hsf := HF.out
      have hsd := HE.out
      rw [lsum_step s.f hlk m hi] at hsf
      rw [lsum_step s.d hlk m hi] at hsd
      have hM := HK.out.ok.sum
      have hM2 := HK.out.tot
      obtain ⟨p, hp⟩ : ∃ p, co s.f i = p := ⟨_, rfl⟩
      obtain ⟨q, hq⟩ : ∃ q, co s.d i = q := ⟨_, rfl⟩
      rw [hp] at hen hsf
      rw [hq] at hen hsd
      obtain ⟨F2, hF2⟩ : ∃ f, F + p = f := ⟨_, rfl⟩
      obtain ⟨E2, hE2⟩ : ∃ f, E + q = f := ⟨_, rfl⟩
      have w1 : IntKind.u64.wrap ((F : Int) + (p : Int)) = (F2 : Int) := by rw [IntKind.wrap_u64]; omega
      have w2' : IntKind.u64.wrap ((E : Int) + (q : Int)) = (E2 : Int) := by rw [IntKind.wrap_u64]; omega
      have HSF := Lib.hid (show F2 + lsum (fun z => left z && !z.sameKey (ak i)) s.f m = s.f.sum by omega)
      have HSD := Lib.hid (show E2 + lsum (fun z => left z && !z.sameKey (ak i)) s.d m = s.d.sum by omega)
      have HL2 := Lib.hid (show ∀ kl, (left kl && !kl.sameKey (ak i)) = true → ∃ j, j < m ∧ kl = ak j from fun kl h => HL.out kl (by simp at h; exact h.1))
      have hA2 : w2.heap[B + 1]? = some (.cells #[.int .u64 (F : Int), .int .u64 (E : Int)] 63) := (hg2.block _ (row_lt HAr.out) (fun e => by injection e with e; omega)).trans HAr.out
      have hR2 : w2.heap[B]? = some (.cells #[.int .u64 0, .int .u64 0] 63) := (hg2.block _ (row_lt HRr.out) (fun e => by injection e with e; omega)).trans HRr.out
      have hAa : (w2.alloc (.cells #[.int .u64 (p : Int), .int .u64 (q : Int)] 63)).heap[B + 1]? = some (.cells #[.int .u64 (F : Int), .int .u64 (E : Int)] 63) := by
        rw [heap_alloc_old _ _ (row_lt hA2)]; exact hA2
      have hNa := heap_alloc_new w2 (.cells #[.int .u64 (p : Int), .int .u64 (q : Int)] 63)
      have hlA := row_lt hA2
      have hlR := row_lt hR2
      have a0 := cell_of_row _ (B + 1) 0 _ _ _ hAa
      have zA0 : (w2.alloc (.cells #[.int .u64 (p : Int), .int .u64 (q : Int)] 63)).frozen? ⟨B + 1, 0, none⟩ = false := frozen_of_row _ (B + 1) 0 _ _ hAa
      have n0 := cell_of_row _ w2.heap.size 0 _ _ _ hNa
      have hAb : ((w2.alloc (.cells #[.int .u64 (p : Int), .int .u64 (q : Int)] 63)).setCell ⟨B + 1, 0, none⟩ (.int .u64 (F2 : Int))).heap[B + 1]? = some (.cells #[.int .u64 (F2 : Int), .int .u64 (E : Int)] 63) := heap_setCell_same _ (B + 1) 0 _ _ _ hAa
      have hNb := (heap_setCell_other (w2.alloc (.cells #[.int .u64 (p : Int), .int .u64 (q : Int)] 63)) ⟨B + 1, 0, none⟩ w2.heap.size (.int .u64 (F2 : Int)) (by dsimp only; omega)).trans hNa
      have a1 := cell_of_row _ (B + 1) 1 _ _ _ hAb
      have zA1 : ((w2.alloc (.cells #[.int .u64 (p : Int), .int .u64 (q : Int)] 63)).setCell ⟨B + 1, 0, none⟩ (.int .u64 (F2 : Int))).frozen? ⟨B + 1, 1, none⟩ = false := frozen_of_row _ (B + 1) 1 _ _ hAb
      have n1 := cell_of_row _ w2.heap.size 1 _ _ _ hNb
      simp only [List.getElem?_toArray, List.getElem?_cons_zero, List.getElem?_cons_succ] at a0 a1 n0 n1
      have hAc : (((w2.alloc (.cells #[.int .u64 (p : Int), .int .u64 (q : Int)] 63)).setCell ⟨B + 1, 0, none⟩ (.int .u64 (F2 : Int))).setCell ⟨B + 1, 1, none⟩ (.int .u64 (E2 : Int))).heap[B + 1]? = some (.cells #[.int .u64 (F2 : Int), .int .u64 (E2 : Int)] 63) := heap_setCell_same _ (B + 1) 1 _ _ _ hAb
      have HAc := Lib.hid hAc
      have HRc := Lib.hid (show (((w2.alloc (.cells #[.int .u64 (p : Int), .int .u64 (q : Int)] 63)).setCell ⟨B + 1, 0, none⟩ (.int .u64 (F2 : Int))).setCell ⟨B + 1, 1, none⟩ (.int .u64 (E2 : Int))).heap[B]? = some (.cells #[.int .u64 0, .int .u64 0] 63) by
        rw [heap_setCell_other _ ⟨B + 1, 1, none⟩ B _ (by dsimp only; omega), heap_setCell_other _ ⟨B + 1, 0, none⟩ B _ (by dsimp only; omega), heap_alloc_old _ _ hlR]; exact hR2)
      have hbB := HBL.out
      have HRG := Lib.hid (((hrg2.alloc (.cells #[.int .u64 (p : Int), .int .u64 (q : Int)] 63)).kept (grown_set _ (B + 1) 0 (.int .u64 (F2 : Int))) (fun e => by injection e with e; omega) (fun e => by injection e with e; omega)).kept (grown_set _ (B + 1) 1 (.int .u64 (E2 : Int))) (fun e => by injection e with e; omega) (fun e => by injection e with e; omega))
      have HXc := Lib.hid ((((HXr.out.more hg2 (fun k e => by injection e with e; omega)).alloc (.cells #[.int .u64 (p : Int), .int .u64 (q : Int)] 63)).setCell (p := ⟨B + 1, 0, none⟩) (by dsimp only; omega) (.int .u64 (F2 : Int))).setCell (p := ⟨B + 1, 1, none⟩) (by dsimp only; omega) (.int .u64 (E2 : Int)))
      clear hkey hlk hv hat h1 hsf hsd hM hM2 hp hq hF2 hE2 hA2 hR2 hAa hNa hlA hlR hAb hNb hAc hbB hrg2 hg2 hs2 hrg'
      go_wp2
      go_roundg cnt'
      case measure => exact hlt
      case rel => exact ⟨_, F2, E2, HRG.out, HRc.out, HAc.out, HSF.out, HSD.out, HL2.out, HXc.out⟩
end Go.Proofs.Ytoelkmmdnhnljaa

/-
  What Fees, Deposits and Total do. Conditions: no more than 6 accounts, a total of no more than 2^60.
-/
namespace Go.Proofs.Ytoelkmmdnhnljaa
open Go.RowKit
open Pol (co)

theorem fld13a (a b : Value) (W : World) : (Instr.field 63 (.agg #[a, b]) 0).run Try.prog W = .ok a W := by
  simp [Instr.field, run_underlying Try.underlying63, asAgg, part, isAgg, run_underlying Try.underlying33]
theorem fld13b (a b : Value) (W : World) : (Instr.field 63 (.agg #[a, b]) 1).run Try.prog W = .ok b W := by
  simp [Instr.field, run_underlying Try.underlying63, asAgg, part, isAgg, run_underlying Try.underlying33]
set_option maxHeartbeats 800000 in
theorem lg_fees {X : Nat → Prop} {σ g c b m M : Nat} {s : Lgr} (w : World) (h : LM X σ g c b w m s) (hk : Good s m M) :
    Calls Try.prog 18 #[.pointer (some ⟨σ, 0, none⟩)] w (Tells (.int .u64 ((s.f.sum : Nat) : Int)) w) := by
  have HB := Lib.hid (lg_back w h hk)
  clear h hk
  have qf := fld13a
  go_enter Try.func18, Try.ntmps18
  go_wp2_with fail
  refine HB.out.mono ?_
  rintro e w1 ⟨rfl, hx⟩
  have HX := Lib.hid hx
  clear hx
  go_wp2
  go_ret
  exact ⟨rfl, HX.out⟩
set_option maxHeartbeats 800000 in
theorem lg_deposits {X : Nat → Prop} {σ g c b m M : Nat} {s : Lgr} (w : World) (h : LM X σ g c b w m s) (hk : Good s m M) :
    Calls Try.prog 19 #[.pointer (some ⟨σ, 0, none⟩)] w (Tells (.int .u64 ((s.d.sum : Nat) : Int)) w) := by
  have HB := Lib.hid (lg_back w h hk)
  clear h hk
  have qf := fld13b
  go_enter Try.func19, Try.ntmps19
  go_wp2_with fail
  refine HB.out.mono ?_
  rintro e w1 ⟨rfl, hx⟩
  have HX := Lib.hid hx
  clear hx
  go_wp2
  go_ret
  exact ⟨rfl, HX.out⟩
set_option maxHeartbeats 800000 in
theorem lg_nback (w : World) : Calls Try.prog 36 #[.pointer none] w (Tells (.agg #[.int .u64 0, .int .u64 0]) w) := by
  have hx0 : Ext w ((w.alloc (.cells #[.int .u64 0, .int .u64 0] 63)).alloc (.cells #[.int .u64 0, .int .u64 0] 63)) := ((Ext.refl _).alloc _).alloc _
  have hR : ((w.alloc (.cells #[.int .u64 0, .int .u64 0] 63)).alloc (.cells #[.int .u64 0, .int .u64 0] 63)).heap[w.heap.size]? = some (.cells #[.int .u64 0, .int .u64 0] 63) := by
    rw [heap_alloc_old _ _ (by simp)]
    exact heap_alloc_new w _
  have HRR := Lib.hid hR
  have HX := Lib.hid hx0
  clear hR hx0
  go_enter Try.func36, Try.ntmps36
  go_wp2
  refine bodyPost_ret (results_cell_row Try.results36 _ _ w.heap.size 63 _ (0, 0) _ rfl HRR.out Try.underlying63 rfl (by kernel_rfl)) rfl ?_
  exact ⟨rfl, HX.out⟩
theorem lg_nfees (w : World) : Calls Try.prog 18 #[.pointer none] w (Tells (.int .u64 0) w) := by
  have HB := Lib.hid (lg_nback w)
  have qf := fld13a
  go_enter Try.func18, Try.ntmps18
  go_wp2_with fail
  refine HB.out.mono ?_
  rintro e w1 ⟨rfl, hx⟩
  have HX := Lib.hid hx
  clear hx
  go_wp2
  go_ret
  exact ⟨rfl, HX.out⟩
theorem lg_ntotal (w : World) : Calls Try.prog 21 #[.pointer none] w (Tells (.int .u64 0) w) := by
  go_enter Try.func21, Try.ntmps21
  go_wp2
  go_ret
  exact ⟨rfl, Ext.refl _⟩
def Cls13 (u w : World) : Prop := Ext u w
set_option maxHeartbeats 1600000 in
theorem lg_total {X : Nat → Prop} {σ g c b m M : Nat} {s : Lgr} (w : World) (h : LM X σ g c b w m s) (hk : Good s m M) :
    Calls Try.prog 21 #[.pointer (some ⟨σ, 0, none⟩)] w (Tells (.int .u64 (M : Int)) w) := by
  have HR := Lib.hid h
  have hs := hk.ok.sum
  have hM := hk.tot
  obtain ⟨t, ht⟩ : ∃ t, s.t = t := ⟨_, rfl⟩
  obtain ⟨f, hf⟩ : ∃ f, s.f.sum = f := ⟨_, rfl⟩
  obtain ⟨d, hd⟩ : ∃ d, s.d.sum = d := ⟨_, rfl⟩
  have FT := Lib.hid (show ∀ W, Cls13 w W → W.cell? ⟨σ, 2, none⟩ = some (.int .u64 (t : Int)) from fun W hW => by rw [(h.ext hW).c2, ht])
  have FF := Lib.hid (show ∀ W, Cls13 w W → Calls Try.prog 18 #[.pointer (some ⟨σ, 0, none⟩)] W (fun e w' => e = .returned (.int .u64 (f : Int)) ∧ Cls13 w w') from fun W hW =>
    (lg_fees W (h.ext hW) hk).mono fun _ _ h => ⟨by rw [h.1, hf], Ext.trans hW h.2⟩)
  have FD := Lib.hid (show ∀ W, Cls13 w W → Calls Try.prog 19 #[.pointer (some ⟨σ, 0, none⟩)] W (fun e w' => e = .returned (.int .u64 (d : Int)) ∧ Cls13 w w') from fun W hW =>
    (lg_deposits W (h.ext hW) hk).mono fun _ _ h => ⟨by rw [h.1, hd], Ext.trans hW h.2⟩)
  rw [ht, hf, hd] at hs
  obtain ⟨y, hy⟩ : ∃ y, f + d = y := ⟨_, rfl⟩
  obtain ⟨z, hz⟩ : ∃ z, y + t = z := ⟨_, rfl⟩
  have e1 : IntKind.u64.wrap ((f : Int) + (d : Int)) = (y : Int) := by rw [IntKind.wrap_u64]; omega
  have e2 : IntKind.u64.wrap ((y : Int) + (t : Int)) = (z : Int) := by rw [IntKind.wrap_u64]; omega
  have HS := Lib.hid (show z + s.b.sum = M ∧ M ≤ 1152921504606846976 by omega)
  have HT := Lib.hid (fun i (hi : i < m) => take_sum13 s.b i (by rw [hk.ok.lb]; exact hi))
  have HTL := Lib.hid (fun i => take_sum_le13 s.b i)
  have HFL := Lib.hid (show s.b.take m = s.b from by rw [← hk.ok.lb, List.take_length])
  have hm := hk.few
  clear h hk hs hM ht hf hd hy hz
  go_enter Try.func21, Try.ntmps21
  go_wp2
  refine wp_region_quiet (C := Cls13 w) (by kernel_rfl) (by kernel_rfl) (show Cls13 w w.drew from (Ext.refl w).drew) ?_
  repeat (first
    | (refine wpQuiet_step (fun K hK => ?_); go_simp; refine ⟨_, fun _ _ => rfl, hK _ ?_⟩; clear hK K)
    | (refine wpQuiet_step (fun K hK => ?_); go_simp; refine ⟨.int .u64 (t : Int), fun W hW => ?_, hK _ ?_⟩; (focus (have h1 := FT.out W hW; go_simp; done)); clear hK K)
    | (refine wpQuiet_step (fun K hK => ?_); go_simp; refine ⟨_, fun W hW => FF.out W hW, hK _ ?_⟩; clear hK K)
    | (refine wpQuiet_step (fun K hK => ?_); go_simp; refine ⟨_, fun W hW => FD.out W hW, hK _ ?_⟩; clear hK K))
  refine wpQuiet_nil ?_
  intro w1 hu1
  have HX1 := Lib.hid (show Ext w w1 from hu1)
  have c0 := (HR.out.ext HX1.out).c0
  clear hu1 FT FF FD
  go_wp2
  go_loopg [3, 23] m (fun gk s3 s23 wx => ∃ i v : Nat, i + gk = m ∧ z + (s.b.take i).sum = v ∧ s3 = .int .u64 (v : Int) ∧ s23 = .int .i64 (i : Int) ∧ Ext w wx)
  case atStart => exact ⟨0, z, by omega, by simp, rfl, rfl, HX1.out⟩
  case round =>
    obtain ⟨i, v, hig, hv, rfl, rfl, hxr⟩ := hrel
    have HXr := Lib.hid hxr
    clear hxr
    cases gk with
    | zero =>
      obtain rfl : i = m := by omega
      have HV := Lib.hid (show M = v by rw [← hv, HFL.out]; exact HS.out.1.symm)
      have d1 : decide ((i : Int) < (i : Int)) = false := decide_eq_false (by omega)
      clear hv
      go_wp2
      go_ret
      exact ⟨by rw [HV.out]; rfl, HXr.out⟩
    | succ gk =>
      have hi : i < m := by omega
      have hiI : (i : Int) < (m : Int) := by omega
      have cb := (HR.out.ext HXr.out).acc.at_b hi
      have cn := (HR.out.ext HXr.out).acc.at_d hi
      have e3 := HT.out i hi
      have e4 := HTL.out (i + 1)
      have e5 := HS.out
      obtain ⟨x, hx⟩ : ∃ x, co s.b i = x := ⟨_, rfl⟩
      obtain ⟨n, hn⟩ : ∃ n, co s.n i = n := ⟨_, rfl⟩
      rw [hx] at cb e3
      rw [hn] at cn
      obtain ⟨v2, hv2⟩ : ∃ v2, v + x = v2 := ⟨_, rfl⟩
      have HE := Lib.hid (show z + (s.b.take (i + 1)).sum = v2 by omega)
      have e6 : IntKind.u64.wrap ((v : Int) + (x : Int)) = (v2 : Int) := by rw [IntKind.wrap_u64]; omega
      clear e3 e4 e5 hx hn hv hv2
      go_wp2
      go_roundg gk
      case measure => omega
      case rel => exact ⟨i + 1, v2, by omega, HE.out, rfl, by go_num, HXr.out.alloc _⟩
end Go.Proofs.Ytoelkmmdnhnljaa

/-
  What New does. Conditions: none.
-/
namespace Go.Proofs.Ytoelkmmdnhnljaa
open Go.RowKit
open Pol (co)

theorem co_zeros_l13 (n i : Nat) : co (List.replicate n 0) i = 0 := by
  unfold co
  rw [List.getElem?_replicate]
  split <;> rfl
theorem take_snoc13 (l : List Nat) (i : Nat) (h : i < l.length) : l.take (i + 1) = l.take i ++ [co l i] := by
  rw [List.take_succ_eq_append_getElem h]
  unfold co
  rw [List.getElem?_eq_getElem h]
  rfl
theorem AMine.shape {w : World} {base : Nat} {v : Value} {b d : List Nat} (h : AMine w base v b d) : ∃ A n c, v = .slice A n c := by
  rcases h.2 with ⟨rfl, _⟩ | ⟨g, cap, cur, rfl, _⟩
  · exact ⟨_, _, _, rfl⟩
  · exact ⟨_, _, _, rfl⟩
/-- A ledger under way, i of whose accounts are laid. -/
structure NewSt (l : List Nat) (w : World) (B i : Nat) (v : Value) (wx : World) : Prop where
  row : wx.heap[B + 1]? = some (.cells #[v, .map (some B), .int .u64 0] 53)
  map : wx.heap[B]? = some (.map #[] 0)
  acc : AMine wx B v (l.take i) (List.replicate i 0)
  far : ∀ k, v.ownBlock = some k → B + 1 < k
  ext : Ext w wx
theorem NewSt.step {l : List Nat} {w : World} {B i x : Nat} {v v' : Value} {wx w3 : World} (h : NewSt l w B i v wx) (hw : w.heap.size = B) (hT : l.take (i + 1) = l.take i ++ [x])
    (hv3 : AMine w3 B v' (l.take i ++ [x]) (List.replicate i 0 ++ [0])) (hg3 : (wx.alloc (.cells #[.int .u64 (x : Int), .int .u64 0] 55)).grownBy w3 v.ownBlock)
    (hat3 : v'.ownBlock = v.ownBlock ∨ v'.ownBlock = some (wx.alloc (.cells #[.int .u64 (x : Int), .int .u64 0] 55)).heap.size) :
    w3.cell? ⟨B + 1, 0, none⟩ = some v ∧ w3.frozen? ⟨B + 1, 0, none⟩ = false ∧ NewSt l w B (i + 1) v' (w3.setCell ⟨B + 1, 0, none⟩ v') := by
  have hlb := row_lt h.row
  have hlm := row_lt h.map
  have h2 := ((Ext.refl wx).alloc (.cells #[.int .u64 (x : Int), .int .u64 0] 55)).size
  have hσ3 : w3.heap[B + 1]? = some (.cells #[v, .map (some B), .int .u64 0] 53) := (hg3.block _ (by omega) (fun e => by have := h.far _ e.symm; omega)).trans ((heap_alloc_old _ _ hlb).trans h.row)
  have hb3 : w3.heap[B]? = some (.map #[] 0) := (hg3.block _ (by omega) (fun e => by have := h.far _ e.symm; omega)).trans ((heap_alloc_old _ _ hlm).trans h.map)
  have hvb3 : ∀ k, v'.ownBlock = some k → B + 1 < k := fun k hk => by
    rcases hat3 with e | e
    · exact h.far k (e ▸ hk)
    · rw [e] at hk
      injection hk with hk
      omega
  have s0 := cell_of_row _ (B + 1) 0 _ _ _ hσ3
  refine ⟨by rw [s0]; rfl, frozen_of_row _ (B + 1) 0 _ _ hσ3, heap_setCell_same w3 (B + 1) 0 _ _ v' hσ3, (heap_setCell_other w3 ⟨B + 1, 0, none⟩ B v' (by dsimp only; omega)).trans hb3, ?_, hvb3,
    ((h.ext.alloc (.cells #[.int .u64 (x : Int), .int .u64 0] 55)).more hg3 (fun k e => by have := h.far k e; omega)).setCell (p := ⟨B + 1, 0, none⟩) (by dsimp only; omega) v'⟩
  rw [hT, List.replicate_succ']
  exact hv3.keep (grown_set w3 (B + 1) 0 v') (fun k hk e => by have := hvb3 k hk; injection e with e; omega)
set_option maxHeartbeats 3200000 in
set_option maxRecDepth 100000 in
theorem lg_new (l : List Nat) (A : Option Addr) (n c : Nat) (w : World) (hn : l.length = n) (hr : URd w A l) : Calls Try.prog 10 #[.slice A n c] w (NewP LgI l w) := by
  unfold NewP
  have HR := Lib.hid hr
  have HN := Lib.hid hn
  have HT := Lib.hid (fun i (hi : i < l.length) => take_sum13 l i hi)
  have HTL := Lib.hid (fun i => take_sum_le13 l i)
  have HF := Lib.hid (show l.take n = l from by rw [← hn, List.take_length])
  by_cases h1 : n = 0
  · have hc : newc l = 1 := by unfold newc; rw [if_pos (Or.inl (by omega))]
    rw [hc]
    have d1 : ((n : Int) == 0) = true := by simp; omega
    have d1' : decide ((n : Int) = 0) = true := decide_eq_true (by omega)
    subst h1
    clear hr
    go_enter Try.func10, Try.ntmps10
    go_wp2
    go_ret2
    exact ⟨Ext.refl _, .inr ⟨by decide, rfl⟩⟩
  · have d1 : ((n : Int) == 0) = false := by simp; omega
    have d1' : decide ((n : Int) = 0) = false := decide_eq_false (by omega)
    by_cases h2 : 6 < n
    · have hc : newc l = 1 := by unfold newc; rw [if_pos (Or.inr (by omega))]
      rw [hc]
      have d2 : decide ((n : Int) > 6) = true := decide_eq_true (by omega)
      have d2' : decide (6 < (n : Int)) = true := decide_eq_true (by omega)
      clear hr hn
      go_enter Try.func10, Try.ntmps10
      go_wp2
      go_ret2
      exact ⟨Ext.refl _, .inr ⟨by decide, rfl⟩⟩
    · have d2 : decide ((n : Int) > 6) = false := decide_eq_false (by omega)
      have d2' : decide (6 < (n : Int)) = false := decide_eq_false (by omega)
      have HC := Lib.hid (show newc l = if 1152921504606846976 < l.sum then 10 else 0 from by unfold newc; rw [if_neg (by omega)])
      clear hr hn
      have hmm := @run_makeMap Try.prog
      go_enter Try.func10, Try.ntmps10
      go_wp2
      have hR0 : ((w.alloc (.map #[] 0)).alloc (.cells #[.slice none 0 0, .map (some w.heap.size), .int .u64 0] 53)).heap[w.heap.size + 1]? = some (.cells #[.slice none 0 0, .map (some w.heap.size), .int .u64 0] 53) := by
        have h := heap_alloc_new (w.alloc (.map #[] 0)) (.cells #[.slice none 0 0, .map (some w.heap.size), .int .u64 0] 53)
        rwa [show (w.alloc (.map #[] 0)).heap.size = w.heap.size + 1 from by simp] at h
      have hM0 : ((w.alloc (.map #[] 0)).alloc (.cells #[.slice none 0 0, .map (some w.heap.size), .int .u64 0] 53)).heap[w.heap.size]? = some (.map #[] 0) := by
        rw [heap_alloc_old _ _ (by simp)]
        exact heap_alloc_new w _
      have HX0 := Lib.hid (show Ext w ((w.alloc (.map #[] 0)).alloc (.cells #[.slice none 0 0, .map (some w.heap.size), .int .u64 0] 53)) from ((Ext.refl _).alloc _).alloc _)
      have HMM := Lib.hid (fun wx (h : wx.heap[w.heap.size]? = some (.map #[] 0)) => (Hm.made w n).stay (w' := wx) (h.trans (heap_alloc_new w _).symm))
      have HR0 := Lib.hid hR0
      have HM0 := Lib.hid hM0
      clear hR0 hM0 hmm
      obtain ⟨B, hB⟩ : ∃ B, w.heap.size = B := ⟨_, rfl⟩
      have HB := Lib.hid hB
      rw [hB] at HR0 HM0 HX0 HMM ⊢
      clear hB
      generalize (w.alloc (.map #[] 0)).alloc (.cells #[.slice none 0 0, .map (some B), .int .u64 0] 53) = w0 at HR0 HM0 HX0 ⊢
      go_loopg [5, 21] n (fun gk s5 s21 wx => ∃ (i t : Nat) (v : Value), i + gk = n ∧ (l.take i).sum + t = 1152921504606846976 ∧ s5 = .int .u64 (t : Int) ∧ s21 = .int .i64 (i : Int) ∧
        NewSt l w B i v wx)
      case atStart => exact ⟨0, 1152921504606846976, .slice none 0 0, by omega, by simp, rfl, rfl, HR0.out, HM0.out, by simpa using AMine.nil w0 B, fun k h => by simp [Value.ownBlock] at h, HX0.out⟩
      case round =>
        obtain ⟨i, t, v, hig, ht, rfl, rfl, hst⟩ := hrel
        have HST := Lib.hid hst
        clear hst
        cases gk with
        | zero =>
          obtain rfl : i = n := by omega
          have HZ := Lib.hid (show newc l = 0 by rw [HC.out, if_neg]; rw [HF.out] at ht; omega)
          have d3 : decide ((i : Int) < (i : Int)) = false := decide_eq_false (by omega)
          clear ht
          go_wp2
          go_ret2
          obtain ⟨g, c', rfl, hg, hrow⟩ := HST.out.acc.row (n := i) (by rw [List.length_take, HN.out, Nat.min_self]) (by simp) (by omega) (fun j => by rw [co_zeros_l13]; decide)
          have hgb := HST.out.far g rfl
          rw [HF.out] at hrow
          have hlb := row_lt HST.out.row
          have hlg := hrow.lt
          have hBB := HB.out
          refine ⟨HST.out.ext, .inl ⟨HZ.out, B + 1, rfl, ?_⟩⟩
          rw [HN.out]
          refine ⟨g, c', B, HST.out.row, ?_, ?_, ⟨by omega, hlb⟩, ⟨by omega, hlg⟩, ⟨by omega, by omega⟩, by omega, by omega, by omega⟩
          · rw [show (Lgr.new l).n = List.replicate i 0 from by rw [← HN.out]; rfl]; exact hrow
          · rw [show (Lgr.new l).f = List.replicate i 0 from by rw [← HN.out]; rfl, show (Lgr.new l).d = List.replicate i 0 from by rw [← HN.out]; rfl]
            exact HMM.out _ HST.out.map
        | succ gk =>
          have hi : i < n := by omega
          have hiI : (i : Int) < (n : Int) := by omega
          obtain ⟨b0, o, rfl, hcb⟩ := (HR.out.ext HST.out.ext).2 i (by rw [HN.out]; exact hi)
          have e1 := HT.out i (by rw [HN.out]; exact hi)
          have e2 := HTL.out (i + 1)
          obtain ⟨x, hx⟩ : ∃ x, co l i = x := ⟨_, rfl⟩
          have HTK := Lib.hid (show l.take (i + 1) = l.take i ++ [x] from by rw [← hx]; exact take_snoc13 l i (by rw [HN.out]; exact hi))
          rw [hx] at hcb e1
          by_cases hxt : t < x
          · have HZ := Lib.hid (show newc l = 10 by rw [HC.out, if_pos]; omega)
            have d4 : decide ((x : Int) > (t : Int)) = true := decide_eq_true (by omega)
            have d4' : decide ((t : Int) < (x : Int)) = true := decide_eq_true (by omega)
            have d4'' : decide (t < x) = true := decide_eq_true hxt
            clear e1 e2 ht hx
            go_wp2
            go_ret2
            rw [HZ.out]
            exact ⟨HST.out.ext, .inr ⟨by decide, rfl⟩⟩
          · have d4 : decide ((x : Int) > (t : Int)) = false := decide_eq_false (by omega)
            have d4' : decide ((t : Int) < (x : Int)) = false := decide_eq_false (by omega)
            have d4'' : decide (t < x) = false := decide_eq_false hxt
            obtain ⟨y, hy⟩ : ∃ y, t - x = y := ⟨_, rfl⟩
            have e3 : IntKind.u64.wrap ((t : Int) - (x : Int)) = (y : Int) := by rw [IntKind.wrap_u64]; omega
            have HE := Lib.hid (show (l.take (i + 1)).sum + y = 1152921504606846976 by omega)
            have s0 := cell_of_row _ (B + 1) 0 _ _ _ HST.out.row
            simp only [List.getElem?_toArray, List.getElem?_cons_zero] at s0
            clear e1 e2 ht hx hy
            have HV1 := Lib.hid (HST.out.acc.keep (((Ext.refl wr).alloc (.cells #[.int .u64 (x : Int), .int .u64 0] 55)).grown none) (fun k _ => by simp))
            have hbw : B ≤ (wr.alloc (.cells #[.int .u64 (x : Int), .int .u64 0] 55)).heap.size := by
              have h1 := row_lt HST.out.row
              have h2 := ((Ext.refl wr).alloc (.cells #[.int .u64 (x : Int), .int .u64 0] 55)).size
              omega
            have hli : (l.take i).length ≤ 1048576 := by rw [List.length_take]; omega
            have hlr : (l.take i).length = (List.replicate i 0).length := by rw [List.length_take, List.length_replicate, HN.out]; omega
            have HTO := Lib.hid HTK.out
            go_wp2_with (first | (at_builtin; refine wpList_append_acc rfl (.tmp 35) (.tmp 38) rfl B v (l.take i) (List.replicate i 0) x 0 rfl HV1.out hlr ⟨wr.heap.size, 0, none⟩ 1 rfl (acc_new wr x 0) hli hbw ?_; intro v' w3 hv3 hg3 hat3; obtain ⟨A', n', c', rfl⟩ := hv3.shape; obtain ⟨q0, q1, q2⟩ := HST.out.step HB.out HTO.out hv3 hg3 hat3; have HS4 := Lib.hid q2; clear hv3 hg3 hat3 q2) | fail)
            go_roundg gk
            case measure => omega
            case rel => exact ⟨i + 1, y, _, by omega, HE.out, rfl, by go_num, HS4.out⟩
end Go.Proofs.Ytoelkmmdnhnljaa

/-
  A region that draws its order, some of whose operations only read what stays: these may be taken ahead of the others, and the others come one after the other. Conditions: a check of the region's text (by the kernel); of no program in particular.
-/
namespace Go.Proofs.Ytoelkmmdnhnljaa
open Go

section
variable {P : Program} {ops : Array Oper} {Q : Exit → Act → World → Prop} {md : Region.Mode} {C : World → Prop}

/-- In every world of the class the operation yields v and leaves the world alone. -/
def YieldsC (P : Program) (ops : Array Oper) (C : World → Prop) (o : Oper) (v : Value) (a : Act) : Prop :=
  (Region.wanted o (yielded ops a.tmps) = true ∧ ∀ w, C w → (execOp a.eval o).run P w = .ok (.value v) w) ∨ (Region.wanted o (yielded ops a.tmps) = false ∧ v = undef) ∨
    (Region.wanted o (yielded ops a.tmps) = true ∧ ∃ f args, (∀ w, C w → (execOp a.eval o).run P w = .ok (.enter f args) w) ∧ ∀ w, C w → Calls P f args w (fun e w' => e = .returned v ∧ w = w'))
theorem YieldsC.wpOp {i : Nat} {o : Oper} {v : Value} {a : Act} (hi : ops[i]? = some o) (hy : YieldsC P ops C o v a) {K : Act → World → Prop} {w : World} (hw : C w) (h : K (a.put o.dst v) w) : wpOp P ops Q i K a w := by
  unfold Go.wpOp
  simp only [hi]
  rcases hy with ⟨hg, hv⟩ | ⟨hg, rfl⟩ | ⟨hg, f, args, hv, hc⟩
  · simp only [hg, if_true, Oper.wp, hv w hw, Oper.upon]; exact .inl h
  · simp only [hg, Bool.false_eq_true, if_false]; exact h
  · simp only [hg, if_true, Oper.wp, hv w hw, Oper.upon]
    refine .inl (Calls.mono (hc w hw) ?_)
    rintro e w' ⟨rfl, rfl⟩
    exact h
theorem YieldsC.of_same {o : Oper} {v : Value} {a a' : Act} (hy : YieldsC P ops C o v a) (he : execOp a'.eval o = execOp a.eval o) (hw : Region.wanted o (yielded ops a'.tmps) = Region.wanted o (yielded ops a.tmps)) : YieldsC P ops C o v a' := by
  unfold YieldsC at *
  rw [he, hw]
  exact hy
theorem wpOp_putC {j : Nat} {oi oj : Oper} {v : Value} (hj : ops[j]? = some oj) (hap : oi.apart ops oj = true) (hsi : ∀ cs b, oi.op ≠ .select cs b) (hsj : ∀ cs b, oj.op ≠ .select cs b)
    (hQ : ∀ c a w, Q (.panic c) (a.put oi.dst v) w → Q (.panic c) a w) {K : Act → World → Prop} {a : Act} {w : World} (hy : YieldsC P ops C oi v a) (h : wpOp P ops Q j K (a.put oi.dst v) w) :
    wpOp P ops Q j (fun a' w' => YieldsC P ops C oi v a' ∧ K (a'.put oi.dst v) w') a w := by
  obtain ⟨h1, h2, h3⟩ := Oper.apart_spec hap
  have keep : ∀ (a : Act), YieldsC P ops C oi v a → ∀ u, YieldsC P ops C oi v (a.put oj.dst u) := fun a hy u => hy.of_same (execOp_put oi hsi a oj.dst u h3) (wanted_put oi a oj.dst u h3)
  have keepD : ∀ d, YieldsC P ops C oi v { a with defers := d :: a.defers } := fun d => hy.of_same rfl rfl
  unfold wpOp at *
  simp only [hj] at *
  rw [wanted_put oj a oi.dst v h1] at h
  split
  · rename_i hw
    simp only [hw, if_true] at h
    rcases h with h | ⟨hasks, hlets⟩
    case inr => exact .inr ⟨by unfold Oper.asks at *; rw [execOp_put oj hsj a oi.dst v h1] at hasks; exact hasks, hlets⟩
    refine .inl ?_
    unfold Oper.wp at *
    rw [execOp_put oj hsj a oi.dst v h1] at h
    generalize (execOp a.eval oj).run P w = r at *
    cases r with
    | ok n w' =>
      cases n <;> simp only [Oper.upon] at h ⊢
      case value u => exact ⟨keep a hy u, by rw [← Act.put_comm a v u h2]; exact h⟩
      case skip => exact ⟨keep a hy _, by rw [← Act.put_comm a v undef h2]; exact h⟩
      case defer d =>
        refine ⟨keep _ (keepD d) _, ?_⟩
        rw [← Act.put_comm _ v undef h2, ← Act.put_defers]
        exact h
      case enter f args =>
        refine Calls.mono h fun e w'' he => ?_
        cases e with
        | returned u => exact ⟨keep a hy u, by rw [← Act.put_comm a v u h2]; exact he⟩
        | panicked c => exact hQ _ _ _ he
        | outgrown => exact he
      case row row args => exact Rows.mono h fun u w'' he => ⟨keep a hy u, by rw [← Act.put_comm a v u h2]; exact he⟩
    | halt x w' =>
      cases x <;> simp only [Oper.upon] at h ⊢
      case panic u => exact hQ _ _ _ h
  · rename_i hw
    simp only [hw] at h
    exact ⟨keep a hy _, by rw [← Act.put_comm a v undef h2]; exact h⟩

/-- As wpAny, and the operations of F leave the world in the class. -/
def wpAnyC (P : Program) (md : Region.Mode) (ops : Array Oper) (C : World → Prop) (F : Nat → Bool) (Q : Exit → Act → World → Prop) : Nat → Array Bool → Act → World → Prop
  | 0, listed, a, w => Region.ready md ops listed = [] ∧ Q .normal a w
  | fuel + 1, listed, a, w => (Region.ready md ops listed = [] → Q .normal a w) ∧ ∀ i ∈ Region.ready md ops listed, wpOp P ops Q i (fun a' w' => (F i = true → C w') ∧ wpAnyC P md ops C F Q fuel (listed.setIfInBounds i true) a' w') a w
theorem wpAny_of_C {F : Nat → Bool} : ∀ (fuel : Nat) (listed : Array Bool) (a : Act) (w : World), wpAnyC P md ops C F Q fuel listed a w → wpAny P md ops Q fuel listed a w
  | 0, _, _, _, h => h
  | fuel + 1, _, _, _, h => ⟨h.1, fun i hi => wpOp_mono (fun a' w' h' => wpAny_of_C fuel _ a' w' h'.2) (h.2 i hi)⟩
/-- What is listed waits for nothing that is not. -/
def Closed (md : Region.Mode) (ops : Array Oper) (listed : Array Bool) : Prop := ∀ j oj, ops[j]? = some oj → listed.getD j false = true → ∀ e ∈ oj.after, Region.binds md e = true → listed.getD e.on false = true
theorem Closed.set {listed : Array Bool} (h : Closed md ops listed) {i : Nat} (hi : i ∈ Region.ready md ops listed) : Closed md ops (listed.setIfInBounds i true) := fun j oj hoj hl e he hb => by
  by_cases hji : j = i
  · subst hji
    obtain ⟨_, o, ho, hall⟩ := mem_ready.1 hi
    rw [hoj] at ho
    injection ho with ho
    subst ho
    exact getD_set_true (hall e he hb)
  · rw [getD_set_ne false (fun h => hji h.symm)] at hl
    exact getD_set_true (h j oj hoj hl e he hb)
/-- What stands behind i; what is not of F does. -/
def bhStep (md : Region.Mode) (ops : Array Oper) (i : Nat) (acc : List Nat) (j : Nat) : List Nat :=
  match ops[j]? with
  | some oj => if oj.after.any (fun e => Region.binds md e && (e.on == i || acc.contains e.on)) then j :: acc else acc
  | none => acc
def behindB (md : Region.Mode) (ops : Array Oper) (F : Nat → Bool) (i : Nat) : Bool :=
  (List.range ops.size).all fun j => j == i || F j || ((List.range ops.size).foldl (bhStep md ops i) []).contains j
theorem bh_fold {i : Nat} {listed : Array Bool} (hc : Closed md ops listed) (hi : listed.getD i false = false) : ∀ (l acc : List Nat), (∀ j ∈ acc, listed.getD j false = false ∧ j ∉ Region.ready md ops listed) →
    ∀ j ∈ l.foldl (bhStep md ops i) acc, listed.getD j false = false ∧ j ∉ Region.ready md ops listed
  | [], acc, h => h
  | k :: l, acc, h => by
    refine bh_fold hc hi l (bhStep md ops i acc k) ?_
    unfold bhStep
    cases hk : ops[k]? with
    | none => exact h
    | some ok =>
      simp only
      split
      · rename_i hany
        intro j hj
        rcases List.mem_cons.1 hj with e | e
        · subst e
          obtain ⟨e, he, hb⟩ := Array.any_eq_true'.1 hany
          simp only [Bool.and_eq_true, Bool.or_eq_true, beq_iff_eq] at hb
          have hno : listed.getD e.on false = false := by
            rcases hb.2 with h2 | h2
            · rw [h2]; exact hi
            · exact (h e.on (by simpa using h2)).1
          constructor
          · cases hl : listed.getD j false with
            | false => rfl
            | true =>
              have := hc j ok hk hl e he hb.1
              rw [hno] at this
              cases this
          · intro hr
            obtain ⟨_, o, ho, hall⟩ := mem_ready.1 hr
            rw [hk] at ho
            injection ho with ho
            subst ho
            have := hall e he hb.1
            rw [hno] at this
            cases this
        · exact h j e
      · exact h
theorem behind_not {F : Nat → Bool} {i : Nat} (hB : behindB md ops F i = true) {listed : Array Bool} (hc : Closed md ops listed) (hi : listed.getD i false = false) :
    ∀ j, j < ops.size → j ≠ i → F j = false → listed.getD j false = false ∧ j ∉ Region.ready md ops listed := fun j hj hji hF => by
  have h1 := List.all_eq_true.1 hB j (List.mem_range.2 hj)
  simp only [hF, Bool.or_false, Bool.or_eq_true, beq_iff_eq, hji, false_or] at h1
  exact bh_fold hc hi _ [] (fun _ h => absurd h (by simp)) j (by simpa using h1)

theorem wpAnyC_first {F : Nat → Bool} {i : Nat} {oi : Oper} {v : Value} (hi : ops[i]? = some oi) (hsel : ∀ (j : Nat) (o : Oper) cs b, ops[j]? = some o → o.op ≠ .select cs b)
    (hQ : ∀ c a w, Q (.panic c) (a.put oi.dst v) w → Q (.panic c) a w) (hB : behindB md ops F i = true) :
    ∀ (fuel : Nat) (listed : Array Bool) (a : Act) (w : World), C w → Closed md ops listed →
      (∀ j oj, ops[j]? = some oj → j ≠ i → listed.getD j true = false → (∀ e ∈ oj.after, Region.binds md e = true → e.on ≠ i) → oi.apart ops oj = true) →
      i ∈ Region.ready md ops listed → YieldsC P ops C oi v a →
      wpAnyC P md ops C F Q fuel (listed.setIfInBounds i true) (a.put oi.dst v) w → wpAnyC P md ops C F Q (fuel + 1) listed a w := by
  intro fuel
  induction fuel with
  | zero =>
    intro listed a w hC _ _ hr hy H
    refine ⟨fun h => (by rw [h] at hr; cases hr), fun j hj => ?_⟩
    by_cases hji : j = i
    · subst hji; exact hy.wpOp hi hC ⟨fun _ => hC, H⟩
    · have := ready_mono hj hji
      rw [H.1] at this
      cases this
  | succ fuel ih =>
    intro listed a w hC hcl hfree hr hy H
    refine ⟨fun h => (by rw [h] at hr; cases hr), fun j hj => ?_⟩
    by_cases hji : j = i
    · subst hji; exact hy.wpOp hi hC ⟨fun _ => hC, H⟩
    · have h1 := H.2 j (ready_mono hj hji)
      obtain ⟨hjun, oj, hoj, hall⟩ := mem_ready.1 hj
      have hiun := (mem_ready.1 hr).1
      have hnot : ∀ e ∈ oj.after, Region.binds md e = true → e.on ≠ i := fun e he hb heq => by
        have h1 := hall e he hb
        rw [heq, getD_both hiun] at h1
        cases h1
      have hFj : F j = true := by
        cases hF : F j with
        | true => rfl
        | false => exact absurd hj (behind_not hB hcl (getD_both hiun) j (Array.getElem?_eq_some_iff.1 hoj).1 hji hF).2
      have h2 := wpOp_putC hoj (hfree j oj hoj hji hjun hnot) (fun cs b => hsel i oi cs b hi) (fun cs b => hsel j oj cs b hoj) hQ hy h1
      have hfree' : ∀ k ok, ops[k]? = some ok → k ≠ i → (listed.setIfInBounds j true).getD k true = false →
          (∀ e ∈ ok.after, Region.binds md e = true → e.on ≠ i) → oi.apart ops ok = true := fun k ok hk hki hun hno => by
        refine hfree k ok hk hki ?_ hno
        by_cases hjk : j = k
        · subst hjk; exact hjun
        · rw [getD_set_ne true hjk] at hun; exact hun
      refine wpOp_mono (fun a' w' h3 => ⟨fun _ => h3.2.1 hFj, ih (listed.setIfInBounds j true) a' w' (h3.2.1 hFj) (hcl.set hj) hfree' (ready_mono hr (Ne.symm hji)) h3.1 ?_⟩) h2
      rw [Array.setIfInBounds_comm _ _ hji]
      exact h3.2.2

/-- The walk: an operation that only reads what stays (true), or the only one that may come up (false). -/
def wpStab (P : Program) (l : List Oper) (C : World → Prop) (F : Nat → Bool) (Q : Exit → Act → World → Prop) : List (Nat × Bool) → Act → World → Prop
  | [], a, w => wpList P l.toArray Q [] a w
  | (i, true) :: π, a, w => ∃ o v, l[i]? = some o ∧ YieldsC P l.toArray C o v a ∧ wpStab P l C F Q π (a.put o.dst v) w
  | (i, false) :: π, a, w => ∃ o, l[i]? = some o ∧ wpList P l.toArray (Exit.then (fun a' w' => (F i = true → C w') ∧ wpStab P l C F Q π a' w') Q) [o] a w
theorem stab_yes {F : Nat → Bool} {l : List Oper} {i : Nat} {o : Oper} {π : List (Nat × Bool)} {a : Act} {w : World} (ho : l[i]? = some o)
    (h : ∀ K : Act → Prop, (∀ a', wpStab P l C F Q π a' w → K a') → Region.wanted o (yielded l.toArray a.tmps) = true ∧ ∃ v, (∀ W, C W → (execOp a.eval o).run P W = .ok (.value v) W) ∧ K (a.put o.dst v)) : wpStab P l C F Q ((i, true) :: π) a w := by
  obtain ⟨h1, v, h2, h3⟩ := h (fun a' => wpStab P l C F Q π a' w) (fun _ h => h)
  exact ⟨o, v, ho, .inl ⟨h1, h2⟩, h3⟩
theorem stab_call {F : Nat → Bool} {l : List Oper} {i : Nat} {o : Oper} {π : List (Nat × Bool)} {a : Act} {w : World} (ho : l[i]? = some o)
    (h : ∀ K : Act → Prop, (∀ a', wpStab P l C F Q π a' w → K a') → Region.wanted o (yielded l.toArray a.tmps) = true ∧ ∃ f args v, (∀ W, C W → (execOp a.eval o).run P W = .ok (.enter f args) W) ∧ (∀ W, C W → Calls P f args W (fun e w' => e = .returned v ∧ W = w')) ∧ K (a.put o.dst v)) : wpStab P l C F Q ((i, true) :: π) a w := by
  obtain ⟨h1, f, args, v, h2, h3, h4⟩ := h (fun a' => wpStab P l C F Q π a' w) (fun _ h => h)
  exact ⟨o, v, ho, .inr (.inr ⟨h1, f, args, h2, h3⟩), h4⟩
theorem stab_one {F : Nat → Bool} {l : List Oper} {i : Nat} {o : Oper} {π : List (Nat × Bool)} {a : Act} {w : World} (ho : l[i]? = some o)
    (h : ∀ K : Act → World → Prop, (∀ a' w', (F i = true → C w') ∧ wpStab P l C F Q π a' w' → K a' w') → wpList P l.toArray (Exit.then K Q) [o] a w) : wpStab P l C F Q ((i, false) :: π) a w :=
  ⟨o, ho, h _ (fun _ _ h => h)⟩
/-- The check: c says whether the world is in the class. -/
def stabB (md : Region.Mode) (ops : Array Oper) (F : Nat → Bool) : Bool → List (Nat × Bool) → Array Bool → Bool
  | _, [], listed => (Region.ready md ops listed).isEmpty
  | c, (i, true) :: π, listed => c && (Region.ready md ops listed).contains i && Region.free md ops listed i && behindB md ops F i && stabB md ops F c π (listed.setIfInBounds i true)
  | c, (i, false) :: π, listed => (Region.ready md ops listed == [i]) && stabB md ops F (c && F i) π (listed.setIfInBounds i true)
theorem wpAnyC_of_stab {F : Nat → Bool} {l : List Oper} (hsel : Region.noSelect l.toArray = true) (hQ : ∀ c a a' w, a.defers = a'.defers → Q (.panic c) a w → Q (.panic c) a' w) :
    ∀ (π : List (Nat × Bool)) (c : Bool) (listed : Array Bool) (a : Act) (w : World), (c = true → C w) → Closed md l.toArray listed → stabB md l.toArray F c π listed = true → wpStab P l C F Q π a w → wpAnyC P md l.toArray C F Q π.length listed a w
  | [], _, listed, a, w, _, _, hB, h => ⟨by simpa [stabB] using hB, h⟩
  | (i, true) :: π, c, listed, a, w, hC, hcl, hB, h => by
    obtain ⟨o, v, ho0, hy, hK⟩ := h
    have ho : l.toArray[i]? = some o := by simpa using ho0
    simp only [stabB, Bool.and_eq_true] at hB
    obtain ⟨⟨⟨⟨hc, hr⟩, hf⟩, hb⟩, hrest⟩ := hB
    have hr' : i ∈ Region.ready md l.toArray listed := by simpa using hr
    exact wpAnyC_first ho (Region.noSelect_spec hsel) (fun ch a w h => hQ ch _ _ w (by cases o.dst <;> rfl) h) hb π.length listed a w (hC hc) hcl (Region.free_spec ho hf) hr' hy
      (wpAnyC_of_stab hsel hQ π c _ _ _ hC (hcl.set hr') hrest hK)
  | (i, false) :: π, c, listed, a, w, hC, hcl, hB, h => by
    obtain ⟨o, ho0, hK⟩ := h
    have ho : l.toArray[i]? = some o := by simpa using ho0
    simp only [stabB, Bool.and_eq_true] at hB
    obtain ⟨hr, hrest⟩ := hB
    have hr1 : Region.ready md l.toArray listed = [i] := by simpa using hr
    have hr' : i ∈ Region.ready md l.toArray listed := by rw [hr1]; simp
    refine ⟨fun h0 => absurd h0 (by rw [hr1]; simp), fun j hj => ?_⟩
    obtain rfl : j = i := by rw [hr1] at hj; simpa using hj
    refine wpOp_mono (fun a' w' h' => ⟨h'.1, wpAnyC_of_stab hsel hQ π (c && F j) _ a' w' (fun hcf => ?_) (hcl.set hr') hrest h'.2⟩) (wpOp_of_one ho hK)
    rw [Bool.and_eq_true] at hcf
    exact h'.1 hcf.2
theorem wp_region_stab {id : Nat} {a : Act} {w : World} {l : List Oper} (C : World → Prop) (F : List Nat) (π : List (Nat × Bool)) (hm : P.follows .mixedOrders = true) (hQ : ∀ c a a' w, a.defers = a'.defers → Q (.panic c) a w → Q (.panic c) a' w)
    (hB : (Region.noSelect l.toArray && (π.length == l.length) && stabB .any l.toArray (fun i => F.contains i) true π (Array.replicate l.length false)) = true) (hC : C w.drew) (h : wpStab P l C (fun i => F.contains i) Q π a w.drew) : (Code.region id l.toArray true).wp P Q a w := by
  simp only [Bool.and_eq_true, beq_iff_eq] at hB
  obtain ⟨⟨hsel, hlen⟩, hst⟩ := hB
  refine wp_region_any hm (wpAny_of_C (C := C) (F := fun i => F.contains i) _ _ _ _ ?_)
  have h1 := wpAnyC_of_stab (P := P) (Q := Q) (C := C) (md := .any) hsel hQ π true (Array.replicate l.length false) a w.drew (fun _ => hC) (fun j oj _ hl => by rw [getD_replicate_false] at hl; cases hl) hst h
  rw [hlen] at h1
  have hsz : l.toArray.size = l.length := by simp
  rw [hsz]
  exact h1
end
/-- Two cells, and what they hold. -/
def Two (p : Addr) (v : Value) (q : Addr) (u : Value) (W : World) : Prop := W.cell? p = some v ∧ W.cell? q = some u
end Go.Proofs.Ytoelkmmdnhnljaa

/-
  A region that draws its order, walked by a plan: operations that only read what stays are taken ahead, one that alone may come up comes up, and where two or three may come up next each of them is walked. Conditions: a check of the region's text (by the kernel); of no program in particular.
-/
namespace Go.Proofs.Ytoelkmmdnhnljaa
open Go

/-- A plan: the end; an operation that only reads what stays; the only one that may come up; one of two; one of three. -/
inductive Plan where
  | done : Plan
  | yes : Nat → Plan → Plan
  | one : Nat → Plan → Plan
  | two : Nat → Plan → Nat → Plan → Plan
  | three : Nat → Plan → Nat → Plan → Nat → Plan → Plan

section
variable {P : Program} {Q : Exit → Act → World → Prop} {md : Region.Mode} {C : World → Prop}
/-- Operation i, and then K. -/
def wpStepP (P : Program) (l : List Oper) (Q : Exit → Act → World → Prop) (i : Nat) (K : Act → World → Prop) (a : Act) (w : World) : Prop :=
  ∃ o, l[i]? = some o ∧ wpList P l.toArray (Exit.then K Q) [o] a w
/-- The walk by a plan. -/
def wpPlan (P : Program) (l : List Oper) (C : World → Prop) (F : Nat → Bool) (Q : Exit → Act → World → Prop) : Plan → Act → World → Prop
  | .done, a, w => wpList P l.toArray Q [] a w
  | .yes i p, a, w => ∃ o v, l[i]? = some o ∧ YieldsC P l.toArray C o v a ∧ wpPlan P l C F Q p (a.put o.dst v) w
  | .one i p, a, w => wpStepP P l Q i (fun a' w' => (F i = true → C w') ∧ wpPlan P l C F Q p a' w') a w
  | .two i p j q, a, w => wpStepP P l Q i (fun a' w' => (F i = true → C w') ∧ wpPlan P l C F Q p a' w') a w ∧ wpStepP P l Q j (fun a' w' => (F j = true → C w') ∧ wpPlan P l C F Q q a' w') a w
  | .three i p j q k r, a, w => wpStepP P l Q i (fun a' w' => (F i = true → C w') ∧ wpPlan P l C F Q p a' w') a w ∧ wpStepP P l Q j (fun a' w' => (F j = true → C w') ∧ wpPlan P l C F Q q a' w') a w ∧ wpStepP P l Q k (fun a' w' => (F k = true → C w') ∧ wpPlan P l C F Q r a' w') a w
theorem plan_yes {F : Nat → Bool} {l : List Oper} {i : Nat} {o : Oper} {π : Plan} {a : Act} {w : World} (ho : l[i]? = some o)
    (h : ∀ K : Act → Prop, (∀ a', wpPlan P l C F Q π a' w → K a') → Region.wanted o (yielded l.toArray a.tmps) = true ∧ ∃ v, (∀ W, C W → (execOp a.eval o).run P W = .ok (.value v) W) ∧ K (a.put o.dst v)) : wpPlan P l C F Q (.yes i π) a w := by
  obtain ⟨h1, v, h2, h3⟩ := h (fun a' => wpPlan P l C F Q π a' w) (fun _ h => h)
  exact ⟨o, v, ho, .inl ⟨h1, h2⟩, h3⟩
theorem plan_call {F : Nat → Bool} {l : List Oper} {i : Nat} {o : Oper} {π : Plan} {a : Act} {w : World} (ho : l[i]? = some o)
    (h : ∀ K : Act → Prop, (∀ a', wpPlan P l C F Q π a' w → K a') → Region.wanted o (yielded l.toArray a.tmps) = true ∧ ∃ f args v, (∀ W, C W → (execOp a.eval o).run P W = .ok (.enter f args) W) ∧ (∀ W, C W → Calls P f args W (fun e w' => e = .returned v ∧ W = w')) ∧ K (a.put o.dst v)) : wpPlan P l C F Q (.yes i π) a w := by
  obtain ⟨h1, f, args, v, h2, h3, h4⟩ := h (fun a' => wpPlan P l C F Q π a' w) (fun _ h => h)
  exact ⟨o, v, ho, .inr (.inr ⟨h1, f, args, h2, h3⟩), h4⟩
theorem plan_load {F : Nat → Bool} {l : List Oper} {i : Nat} {o : Oper} {π : Plan} {a : Act} {w : World} (ho : l[i]? = some o) (ty : TypeId) (x : Operand) (hop : o.op = .load ty x) (v : Value)
    (hw : Region.wanted o (yielded l.toArray a.tmps) = true) (hrun : ∀ W, C W → (Instr.loadAt ty (a.eval x)).run P W = .ok v W) (h : wpPlan P l C F Q π (a.put o.dst v) w) : wpPlan P l C F Q (.yes i π) a w :=
  plan_yes ho (fun _ hK => ⟨hw, v, fun W hW => by simp only [execOp, hop, Sem.run_bind, hrun W hW, Result.andThen, Sem.run_pure], hK _ h⟩)
theorem plan_toArray {F : Nat → Bool} {l : List Oper} {i : Nat} {o : Oper} {π : Plan} {a : Act} {w : World} (ho : l[i]? = some o) (ty : TypeId) (x : Operand) (hop : o.op = .sliceToArrayPointer ty x) (v : Value)
    (hw : Region.wanted o (yielded l.toArray a.tmps) = true) (hrun : ∀ W, C W → (Instr.arrayAt ty (a.eval x)).run P W = .ok v W) (h : wpPlan P l C F Q π (a.put o.dst v) w) : wpPlan P l C F Q (.yes i π) a w :=
  plan_yes ho (fun _ hK => ⟨hw, v, fun W hW => by simp only [execOp, hop, Sem.run_bind, hrun W hW, Result.andThen, Sem.run_pure], hK _ h⟩)
theorem stepP_of {l : List Oper} {i : Nat} {o : Oper} {a : Act} {w : World} {K : Act → World → Prop} (ho : l[i]? = some o)
    (h : ∀ K' : Act → World → Prop, (∀ a' w', K a' w' → K' a' w') → wpList P l.toArray (Exit.then K' Q) [o] a w) : wpStepP P l Q i K a w := ⟨o, ho, h K (fun _ _ h => h)⟩
theorem plan_one {F : Nat → Bool} {l : List Oper} {i : Nat} {o : Oper} {π : Plan} {a : Act} {w : World} (ho : l[i]? = some o)
    (h : ∀ K : Act → World → Prop, (∀ a' w', (F i = true → C w') ∧ wpPlan P l C F Q π a' w' → K a' w') → wpList P l.toArray (Exit.then K Q) [o] a w) : wpPlan P l C F Q (.one i π) a w := stepP_of ho h
theorem plan_two {F : Nat → Bool} {l : List Oper} {i j : Nat} {o u : Oper} {p q : Plan} {a : Act} {w : World} (ho : l[i]? = some o) (hu : l[j]? = some u)
    (h1 : ∀ K : Act → World → Prop, (∀ a' w', (F i = true → C w') ∧ wpPlan P l C F Q p a' w' → K a' w') → wpList P l.toArray (Exit.then K Q) [o] a w)
    (h2 : ∀ K : Act → World → Prop, (∀ a' w', (F j = true → C w') ∧ wpPlan P l C F Q q a' w' → K a' w') → wpList P l.toArray (Exit.then K Q) [u] a w) : wpPlan P l C F Q (.two i p j q) a w := ⟨stepP_of ho h1, stepP_of hu h2⟩
/-- The check: c says whether the world is in the class; n operations are left. -/
def planB (md : Region.Mode) (ops : Array Oper) (F : Nat → Bool) : Nat → Bool → Plan → Array Bool → Bool
  | 0, _, .done, listed => (Region.ready md ops listed).isEmpty
  | n + 1, c, .yes i p, listed => c && (Region.ready md ops listed).contains i && Region.free md ops listed i && behindB md ops F i && planB md ops F n c p (listed.setIfInBounds i true)
  | n + 1, c, .one i p, listed => (Region.ready md ops listed == [i]) && planB md ops F n (c && F i) p (listed.setIfInBounds i true)
  | n + 1, c, .two i p j q, listed => (Region.ready md ops listed == [i, j]) && planB md ops F n (c && F i) p (listed.setIfInBounds i true) && planB md ops F n (c && F j) q (listed.setIfInBounds j true)
  | n + 1, c, .three i p j q k r, listed => (Region.ready md ops listed == [i, j, k]) && planB md ops F n (c && F i) p (listed.setIfInBounds i true) && planB md ops F n (c && F j) q (listed.setIfInBounds j true) && planB md ops F n (c && F k) r (listed.setIfInBounds k true)
  | _, _, _, _ => false
theorem wpAnyC_of_plan {F : Nat → Bool} {l : List Oper} (hsel : Region.noSelect l.toArray = true) (hQ : ∀ c a a' w, a.defers = a'.defers → Q (.panic c) a w → Q (.panic c) a' w) :
    ∀ (n : Nat) (π : Plan) (c : Bool) (listed : Array Bool) (a : Act) (w : World), (c = true → C w) → Closed md l.toArray listed → planB md l.toArray F n c π listed = true → wpPlan P l C F Q π a w → wpAnyC P md l.toArray C F Q n listed a w := by
  intro n
  induction n with
  | zero =>
    intro π c listed a w hC hcl hB h
    cases π <;> simp only [planB, Bool.false_eq_true] at hB
    exact ⟨by simpa using hB, h⟩
  | succ n ih =>
    have step : ∀ (i : Nat) (p : Plan) (c : Bool) (listed : Array Bool) (a : Act) (w : World), (c = true → C w) → Closed md l.toArray listed → i ∈ Region.ready md l.toArray listed → planB md l.toArray F n (c && F i) p (listed.setIfInBounds i true) = true →
        wpStepP P l Q i (fun a' w' => (F i = true → C w') ∧ wpPlan P l C F Q p a' w') a w → wpOp P l.toArray Q i (fun a' w' => (F i = true → C w') ∧ wpAnyC P md l.toArray C F Q n (listed.setIfInBounds i true) a' w') a w := by
      intro i p c listed a w hC hcl hr hB ⟨o, ho0, hK⟩
      have ho : l.toArray[i]? = some o := by simpa using ho0
      refine wpOp_mono (fun a' w' h' => ⟨h'.1, ih p (c && F i) _ a' w' (fun hcf => ?_) (hcl.set hr) hB h'.2⟩) (wpOp_of_one ho hK)
      rw [Bool.and_eq_true] at hcf
      exact h'.1 hcf.2
    intro π c listed a w hC hcl hB h
    cases π with
    | done => simp [planB] at hB
    | yes i p =>
      obtain ⟨o, v, ho0, hy, hK⟩ := h
      have ho : l.toArray[i]? = some o := by simpa using ho0
      simp only [planB, Bool.and_eq_true] at hB
      obtain ⟨⟨⟨⟨hc, hr⟩, hf⟩, hb⟩, hrest⟩ := hB
      have hr' : i ∈ Region.ready md l.toArray listed := by simpa using hr
      exact wpAnyC_first ho (Region.noSelect_spec hsel) (fun ch a w h => hQ ch _ _ w (by cases o.dst <;> rfl) h) hb n listed a w (hC hc) hcl (Region.free_spec ho hf) hr' hy (ih p c _ _ _ hC (hcl.set hr') hrest hK)
    | one i p =>
      simp only [planB, Bool.and_eq_true] at hB
      have hr : Region.ready md l.toArray listed = [i] := by simpa using hB.1
      refine ⟨fun h0 => absurd h0 (by rw [hr]; simp), fun j hj => ?_⟩
      obtain rfl : j = i := by rw [hr] at hj; simpa using hj
      exact step j p c listed a w hC hcl hj hB.2 h
    | two i p j q =>
      simp only [planB, Bool.and_eq_true] at hB
      have hr : Region.ready md l.toArray listed = [i, j] := by simpa using hB.1.1
      refine ⟨fun h0 => absurd h0 (by rw [hr]; simp), fun k hk => ?_⟩
      have hk' : k = i ∨ k = j := by rw [hr] at hk; simpa using hk
      rcases hk' with rfl | rfl
      · exact step k p c listed a w hC hcl hk hB.1.2 h.1
      · exact step k q c listed a w hC hcl hk hB.2 h.2
    | three i p j q k r =>
      simp only [planB, Bool.and_eq_true] at hB
      have hr : Region.ready md l.toArray listed = [i, j, k] := by simpa using hB.1.1.1
      refine ⟨fun h0 => absurd h0 (by rw [hr]; simp), fun m hm => ?_⟩
      have hm' : m = i ∨ m = j ∨ m = k := by rw [hr] at hm; simpa using hm
      rcases hm' with rfl | rfl | rfl
      · exact step m p c listed a w hC hcl hm hB.1.1.2 h.1
      · exact step m q c listed a w hC hcl hm hB.1.2 h.2.1
      · exact step m r c listed a w hC hcl hm hB.2 h.2.2
theorem wp_region_plan {id : Nat} {a : Act} {w : World} {l : List Oper} (C : World → Prop) (F : List Nat) (π : Plan) (hm : P.follows .mixedOrders = true) (hQ : ∀ c a a' w, a.defers = a'.defers → Q (.panic c) a w → Q (.panic c) a' w)
    (hB : (Region.noSelect l.toArray && planB .any l.toArray (fun i => F.contains i) l.length true π (Array.replicate l.length false)) = true) (hC : C w.drew) (h : wpPlan P l C (fun i => F.contains i) Q π a w.drew) : (Code.region id l.toArray true).wp P Q a w := by
  simp only [Bool.and_eq_true] at hB
  obtain ⟨hsel, hst⟩ := hB
  refine wp_region_any hm (wpAny_of_C (C := C) (F := fun i => F.contains i) _ _ _ _ ?_)
  have h1 := wpAnyC_of_plan (P := P) (Q := Q) (C := C) (md := .any) hsel hQ l.length π true (Array.replicate l.length false) a w.drew (fun _ => hC) (fun j oj _ hl => by rw [getD_replicate_false] at hl; cases hl) hst h
  have hsz : l.toArray.size = l.length := by simp
  rw [hsz]
  exact h1
end
end Go.Proofs.Ytoelkmmdnhnljaa

/-
  What the two clones and Copy do. Conditions: no more than 6 accounts.
-/
namespace Go.Proofs.Ytoelkmmdnhnljaa
open Go.RowKit
open Pol (co)

set_option maxHeartbeats 800000 in
theorem lg_mclone (b : Nat) (es : Array MapEntry) (clock : Nat) (w : World) (hb : w.heap[b]? = some (.map es clock)) :
    Calls Try.prog 39 #[.map (some b)] w (fun e w' => e = .returned (.map (some w.heap.size)) ∧ w' = w.alloc (.map es clock)) := by
  have hq := fun w => run_eql_map_nil_sl (P := Try.prog) w 50 _ _ (some b) Try.underlying50
  go_enter Try.func39, Try.ntmps39
  go_wp2
  rw [run_callFunc_extern (e := Extern.MapsClone.clone) Try.func40 (by kernel_rfl) (by kernel_rfl) (by kernel_rfl) (by kernel_rfl), run_maps_clone_sl w 50 hb]
  simp only [Result.andThen]
  rw [Oper.upon_value]
  go_wp2
  rw [run_typeAssert_map_sl _ 50 20 _ _ _ Try.underlying50]
  simp only [Result.andThen]
  rw [Oper.upon_value]
  go_wp2
  go_ret
  exact ⟨rfl, rfl⟩
theorem lg_hclone {b m : Nat} {f d : List Nat} (w : World) (h : Hm w b m f d) :
    Calls Try.prog 39 #[.map (some b)] w (fun e w' => Ext w w' ∧ ∃ b', e = .returned (.map (some b')) ∧ w.heap.size ≤ b' ∧ Hm w' b' m f d) := by
  obtain ⟨es, clock, hb, hc⟩ := h.clone
  refine (lg_mclone b es clock w hb).mono ?_
  rintro e w' ⟨rfl, rfl⟩
  exact ⟨(Ext.refl _).alloc _, _, rfl, Nat.le_refl _, hc _ _ (heap_alloc_new w _)⟩
set_option maxHeartbeats 800000 in
set_option maxRecDepth 100000 in
theorem lg_sclone {g n c : Nat} {b d : List Nat} (w : World) (h : RowA w g n c b d) (h0 : 0 < n) (hn : n ≤ 6) :
    Calls Try.prog 38 #[.slice (some ⟨g, 0, none⟩) n c] w (fun e w' => Ext w w' ∧ ∃ g' c', e = .returned (.slice (some ⟨g', 0, none⟩) n c') ∧ w.heap.size ≤ g' ∧ RowA w' g' n c' b d) := by
  have qn : ∀ (W : World) (B : Option Addr) (n c : Nat), (binOp .eql 51 (.slice B n c) (.slice none 0 0)).run Try.prog W = .ok (.bool B.isNone) W := fun W B n c => Lib.run_eql_slice_nil W _ _ B n c 0 0 Try.underlying51
  have hx := (Ext.refl w).alloc (.cells #[] 55)
  have HX := Lib.hid hx
  have HR := Lib.hid (h.stay (w' := w.alloc (.cells #[] 55)) (heap_alloc_old _ _ h.lt))
  have hle : n ≤ 1048576 := by omega
  clear h hx
  go_enter Try.func38, Try.ntmps38
  go_wp2_with (first | (at_builtin; refine wpList_append_accs rfl (.tmp 5) (.tmp 6) rfl w.heap.size g n c c b d rfl rfl HR.out h0 hle ?_; rintro v' w3 ⟨g', c', rfl, hg', hr'⟩ hx3; have HX3 := Lib.hid (HX.out.trans hx3); have HG := Lib.hid hg'; have HR3 := Lib.hid hr'; clear hg' hr' hx3) | fail)
  go_ret
  exact ⟨HX3.out, _, _, rfl, Nat.le_trans HX.out.size HG.out, HR3.out⟩
/-- Worlds in which the ledger's own cells stay. -/
def Thr (σ : Nat) (u v x : Value) (W : World) : Prop := W.cell? ⟨σ, 0, none⟩ = some u ∧ W.cell? ⟨σ, 1, none⟩ = some v ∧ W.cell? ⟨σ, 2, none⟩ = some x
theorem Thr.ext {σ : Nat} {u v x : Value} {W W' : World} (h : Thr σ u v x W) (hx : Ext W W') : Thr σ u v x W' := ⟨hx.at h.1, hx.at h.2.1, hx.at h.2.2⟩
theorem lm_laid {w w' : World} {m g c b : Nat} {s : Lgr} (hx : Ext w w') (hg : w.heap.size ≤ g) (hb : w.heap.size ≤ b) (hr : RowA w' g m c s.b s.n) (hm : Hm w' b m s.f s.d) :
    LgI (Fresh w (w'.alloc (.cells #[.slice (some ⟨g, 0, none⟩) m c, .map (some b), .int .u64 ((s.t : Nat) : Int)] 53))) w'.heap.size (w'.alloc (.cells #[.slice (some ⟨g, 0, none⟩) m c, .map (some b), .int .u64 ((s.t : Nat) : Int)] 53)) m s := by
  have h1 := hr.lt
  have h2 := hm.lt
  have h3 := hx.size
  have hz : (w'.alloc (.cells #[.slice (some ⟨g, 0, none⟩) m c, .map (some b), .int .u64 ((s.t : Nat) : Int)] 53)).heap.size = w'.heap.size + 1 := by simp
  have hne : g ≠ b := fun e => by
    subst e
    obtain ⟨cur, h4, _⟩ := hr.row
    obtain ⟨D, ⟨es, clock, h5, _⟩, _⟩ := hm
    rw [h4] at h5
    cases h5
  exact ⟨g, c, b, heap_alloc_new _ _, hr.stay (heap_alloc_old _ _ h1), hm.stay (heap_alloc_old _ _ h2), ⟨h3, by omega⟩, ⟨hg, by omega⟩, ⟨hb, by omega⟩, by omega, by omega, hne⟩
theorem lg_ncopy (w : World) : Calls Try.prog 27 #[.pointer none] w (Tells (.pointer none) w) := by
  go_enter Try.func27, Try.ntmps27
  go_wp2
  go_ret
  exact ⟨rfl, Ext.refl _⟩
set_option maxHeartbeats 3200000 in
set_option maxRecDepth 100000 in
theorem lg_copy {X : Nat → Prop} {σ g c b m : Nat} {s : Lgr} (w : World) (h : LM X σ g c b w m s) (h0 : 0 < m) (hm : m ≤ 6) :
    Calls Try.prog 27 #[.pointer (some ⟨σ, 0, none⟩)] w (fun e w' => Ext w w' ∧ ∃ τ, e = .returned (.pointer (some ⟨τ, 0, none⟩)) ∧ LgI (Fresh w w') τ w' m s) := by
  have HR := Lib.hid h
  have HT := Lib.hid (show Thr σ (.slice (some ⟨g, 0, none⟩) m c) (.map (some b)) (.int .u64 ((s.t : Nat) : Int)) w from ⟨h.c0, h.c1, h.c2⟩)
  have HC1 := Lib.hid (fun W (hx : Ext w W) => lg_sclone W ((h.ext hx).acc) h0 hm)
  have HC2 := Lib.hid (fun W (hx : Ext w W) => lg_hclone W ((h.ext hx).map))
  have HL := Lib.hid (fun w' g c b hx hg hb hr hm => lm_laid (w := w) (w' := w') (m := m) (g := g) (c := c) (b := b) (s := s) hx hg hb hr hm)
  clear h
  go_enter Try.func27, Try.ntmps27
  go_wp2
  refine wp_region_plan (Thr σ (.slice (some ⟨g, 0, none⟩) m c) (.map (some b)) (.int .u64 ((s.t : Nat) : Int))) [0, 1, 2, 3, 4, 5, 6, 7, 8, 9, 10, 11, 12, 13]
    (.yes 0 (.yes 1 (.yes 2 (.yes 3 (.yes 5 (.yes 6 (.yes 7 (.yes 8 (.yes 10 (.yes 11 (.yes 12 (.yes 13 (.one 4 (.one 9 (.one 14 (.one 15 (.one 16 .done))))))))))))))))) (by kernel_rfl) (fun c a a' w e h => ⟨e ▸ h.1, h.2⟩) (by kernel_rfl) HT.out ?_
  refine plan_yes rfl (fun K hK => ?_); go_simp; refine ⟨_, fun _ _ => rfl, hK _ ?_⟩; clear hK K
  refine plan_yes rfl (fun K hK => ?_); go_simp; refine ⟨_, fun _ _ => rfl, hK _ ?_⟩; clear hK K
  refine plan_yes rfl (fun K hK => ?_); go_simp; refine ⟨_, fun _ _ => rfl, hK _ ?_⟩; clear hK K
  refine plan_yes rfl (fun K hK => ?_); go_simp; refine ⟨.slice (some ⟨g, 0, none⟩) m c, fun W hW => ?_, hK _ ?_⟩
  · have h1 := hW.1
    go_simp
  clear hK K
  refine plan_yes rfl (fun K hK => ?_); go_simp; refine ⟨_, fun _ _ => rfl, hK _ ?_⟩; clear hK K
  refine plan_yes rfl (fun K hK => ?_); go_simp; refine ⟨_, fun _ _ => rfl, hK _ ?_⟩; clear hK K
  refine plan_yes rfl (fun K hK => ?_); go_simp; refine ⟨_, fun _ _ => rfl, hK _ ?_⟩; clear hK K
  refine plan_yes rfl (fun K hK => ?_); go_simp; refine ⟨.map (some b), fun W hW => ?_, hK _ ?_⟩
  · have h1 := hW.2.1
    go_simp
  clear hK K
  refine plan_yes rfl (fun K hK => ?_); go_simp; refine ⟨_, fun _ _ => rfl, hK _ ?_⟩; clear hK K
  refine plan_yes rfl (fun K hK => ?_); go_simp; refine ⟨_, fun _ _ => rfl, hK _ ?_⟩; clear hK K
  refine plan_yes rfl (fun K hK => ?_); go_simp; refine ⟨_, fun _ _ => rfl, hK _ ?_⟩; clear hK K
  refine plan_yes rfl (fun K hK => ?_); go_simp; refine ⟨.int .u64 ((s.t : Nat) : Int), fun W hW => ?_, hK _ ?_⟩
  · have h1 := hW.2.2
    go_simp
  clear hK K
  refine plan_one rfl (fun K hK => ?_)
  go_wp2_with fail
  refine (HC1.out _ (Ext.refl w).drew).mono ?_
  rintro e v1 ⟨hx, g', c', rfl, hg', hr'⟩
  have HX1 := Lib.hid ((Ext.refl w).drew.trans hx)
  have HG := Lib.hid (show w.heap.size ≤ g' from hg')
  have HR1 := Lib.hid hr'
  clear hx hg' hr'
  go_wp2
  refine ⟨fun _ => HT.out.ext HX1.out, ?_⟩
  refine plan_one rfl (fun K hK => ?_)
  go_wp2_with fail
  refine (HC2.out _ HX1.out).mono ?_
  rintro e v2 ⟨hx, b', rfl, hb', hm'⟩
  have HX2 := Lib.hid (HX1.out.trans hx)
  have HB := Lib.hid (Nat.le_trans HX1.out.size hb')
  have HM1 := Lib.hid hm'
  have HR2 := Lib.hid (HR1.out.stay (hx.below.block _ HR1.out.lt))
  clear hx hb' hm'
  go_wp2
  refine ⟨fun _ => HT.out.ext HX2.out, ?_⟩
  refine plan_one rfl (fun K hK => ?_)
  go_wp2
  refine ⟨fun h => absurd h (by decide), ?_⟩
  refine plan_one rfl (fun K hK => ?_)
  go_wp2
  refine ⟨fun h => absurd h (by decide), ?_⟩
  refine plan_one rfl (fun K hK => ?_)
  go_wp2
  refine ⟨fun h => absurd h (by decide), ?_⟩
  unfold wpPlan
  go_wp2
  go_ret
  exact ⟨HX2.out.alloc _, _, rfl, HL.out _ _ _ _ HX2.out HG.out HB.out HR2.out HM1.out⟩
end Go.Proofs.Ytoelkmmdnhnljaa

/-
  Layer 13's own functions do what they are to do. Conditions: those of LedgerSaid.
-/
namespace Go.Proofs.Ytoelkmmdnhnljaa
open Go.RowKit
open Pol (co)

theorem ledgerSaid : LedgerSaid LgI where
  keep := fun ⟨g, c, b, h⟩ hk => ⟨g, c, b, h.stay hk⟩
  new := fun l A n c w hn hr => lg_new l A n c w hn hr
  hold := fun who w ⟨_, _, _, h⟩ hk hx => lg_hold who w h hk hx
  free := fun who w ⟨_, _, _, h⟩ hk hx => lg_free who w h hk hx
  pay := fun who w ⟨_, _, _, h⟩ hk _ => lg_pay who w h hk
  slash := fun who w ⟨_, _, _, h⟩ hk hx => lg_slash who w h hk hx
  move := fun a b w ⟨_, _, _, h⟩ hk hx => lg_move a b w h hk hx
  turn := fun who w ⟨_, _, _, h⟩ _ hx => lg_turn who w h hx
  balance := fun who w ⟨_, _, _, h⟩ _ => lg_balance who w h
  nonce := fun who w ⟨_, _, _, h⟩ _ => lg_nonce who w h
  fees := fun w ⟨_, _, _, h⟩ hk => lg_fees w h hk
  deposits := fun w ⟨_, _, _, h⟩ hk => lg_deposits w h hk
  treasury := fun w ⟨_, _, _, h⟩ _ => lg_treasury w h
  total := fun w ⟨_, _, _, h⟩ hk => lg_total w h hk
  copy := fun w ⟨_, _, _, h⟩ hk h0 => lg_copy w h h0 hk.few
  ncopy := lg_ncopy
  nhold := lg_nhold
  nmove := lg_nmove
  nturn := lg_nturn
  ntotal := lg_ntotal
  nbalance := lg_nbalance
  nfees := lg_nfees
end Go.Proofs.Ytoelkmmdnhnljaa

/-
  An argument that is a slice of bytes, or of points, reads as a list. Conditions: none.
-/
namespace Go.Proofs.Ytoelkmmdnhnljaa
open Go.RowKit
open Go.ChangeShapes Go.WideShapes Go.ChangeAt
open Pol (co Sm)

section
variable {H : Type} {enc : TypeId × Value → H} {w : World} {base : Nat} {spare : Nat → Bool} {held : Bool}
theorem open_bytes {fuel len cap : Nat} {a : Option Addr} {x : DataW H × List MemPlace} (h : DataW.trod enc Try.prog w base spare held fuel 45 [.slice a len cap] = some x) :
    ∃ l : List Nat, l.length = len ∧ len ≤ cap ∧ Rd w a l := by
  rcases open_ints Try.underlying45 Try.underlying5 (by kernel_rfl) h with ⟨hcs, _⟩ | ⟨a', len', cap', zs, hcs, _, hl, _, hz, _, hcell, hwz⟩
  · simp at hcs
    obtain ⟨rfl, rfl, rfl⟩ := hcs
    exact ⟨[], rfl, Nat.le_refl _, Rd.nil _ _⟩
  · simp at hcs
    obtain ⟨rfl, rfl, rfl⟩ := hcs
    have hlz : len ≤ zs.length := by rw [hz]; split <;> omega
    have hnat : ∀ i, i < zs.length → ∃ n : Nat, zs.getD i 0 = (n : Int) ∧ n < 256 := fun i hi => by
      have hm : zs.getD i 0 ∈ zs := by rw [List.getD_eq_getElem?_getD, List.getElem?_eq_getElem hi]; exact List.getElem_mem hi
      exact nat_u8 (hwz _ hm)
    refine ⟨(List.range len).map (fun i => (zs.getD i 0).toNat), by simp, hl, ?_, fun i hi => ?_⟩
    · refine Pol.co_lt_of (fun v hv => ?_)
      obtain ⟨i, hi, rfl⟩ := List.mem_map.1 hv
      obtain ⟨n, hn, hn'⟩ := hnat i (by have := List.mem_range.1 hi; omega)
      show (zs.getD i 0).toNat < 256
      rw [hn]; omega
    · have hi' : i < len := by simpa using hi
      obtain ⟨b, o, rfl, hc⟩ := ints_at hcell (by omega)
      refine ⟨b, o, rfl, ?_⟩
      rw [hc i (by omega)]
      obtain ⟨n, hn, _⟩ := hnat i (by omega)
      congr 2
      unfold co
      rw [List.getElem?_map, List.getElem?_range hi']
      show zs.getD i 0 = (((zs.getD i 0).toNat : Nat) : Int)
      rw [hn]; omega
end
end Go.Proofs.Ytoelkmmdnhnljaa
