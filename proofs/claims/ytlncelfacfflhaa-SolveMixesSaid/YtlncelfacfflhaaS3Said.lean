/-
  What layer 3's own functions are to do, each as one statement; what the laws' small helpers do under that. Conditions: a field that New made, no more than 2^12 rows and elements.
-/
import Derived.Test.YtlncelfacfflhaaBase
import Derived.Test.YtlncelfacfflhaaS3Solve
namespace Go.Proofs.Ytlncelfacfflhaa
open Go.RowKit
open Pol (co Sm)
open Lin (SolSome SolNone Cnt NotFree Free KL)

structure SolveSaid : Prop where
  odd : ∀ (f : Nat) (rows : List (List Nat)) (A : Option Addr) (c : Nat) (w : World), IsField w f → RRd w A rows → rows.length ≤ c → rows.length ≤ 4096 → (∀ i, i < rows.length → (ro rows i).length ≤ 4096) → ¬ Rt rows →
    Calls Try.prog 13 #[.pointer (some ⟨f, 0, none⟩), .slice A rows.length c] w (GivesE [] 1 w)
  solve : ∀ (f : Nat) (rows : List (List Nat)) (A : Option Addr) (c : Nat) (w : World), IsField w f → RRd w A rows → rows.length ≤ c → rows.length ≤ 4096 → (∀ i, i < rows.length → (ro rows i).length ≤ 4096) → Rt rows →
    Calls Try.prog 13 #[.pointer (some ⟨f, 0, none⟩), .slice A rows.length c] w (SolveE rows w)
structure RankSaid : Prop where
  odd : ∀ (f : Nat) (rows : List (List Nat)) (A : Option Addr) (c : Nat) (w : World), IsField w f → RRd w A rows → rows.length ≤ c → rows.length ≤ 4096 → (∀ i, i < rows.length → (ro rows i).length ≤ 4096) → ¬ Rt rows →
    Calls Try.prog 15 #[.pointer (some ⟨f, 0, none⟩), .slice A rows.length c] w (Tells (.tuple #[.int .i64 0, .int .i64 1]) w)
  rank : ∀ (f : Nat) (rows : List (List Nat)) (A : Option Addr) (c : Nat) (w : World), IsField w f → RRd w A rows → rows.length ≤ c → rows.length ≤ 4096 → (∀ i, i < rows.length → (ro rows i).length ≤ 4096) → Rt rows →
    ∀ d : Nat, Cnt (NotFree (KR (wide rows) rows)) (wide rows) d → Calls Try.prog 15 #[.pointer (some ⟨f, 0, none⟩), .slice A rows.length c] w (Tells (.tuple #[.int .i64 (d : Int), .int .i64 0]) w)

/-! ### Kernels -/
theorem kr_iff (N : Nat) (rows : List (List Nat)) (x : Nat → Nat) : KR N rows x ↔ KL N rows x :=
  ⟨fun h r hr => by
    obtain ⟨i, hi, rfl⟩ := ro_mem hr
    exact h i hi, fun h i hi => h (ro rows i) (ro_in rows i hi)⟩
theorem kr_kl (N : Nat) (rows : List (List Nat)) : Lin.Alike (KR N rows) (KL N rows) := fun x _ => kr_iff N rows x
theorem kr_lin (N : Nat) (rows : List (List Nat)) (hb : Lin.Bytes rows) : Lin.IsLin (KR N rows) := by
  have h := Lin.kl_lin N rows hb
  exact ⟨fun x y hx hy h1 h2 => (kr_iff N rows _).2 (h.add x y hx hy ((kr_iff N rows _).1 h1) ((kr_iff N rows _).1 h2)), fun c x hc hx h1 => (kr_iff N rows _).2 (h.smul c x hc hx ((kr_iff N rows _).1 h1)),
    fun x y e h1 => (kr_iff N rows _).2 (h.cong x y e ((kr_iff N rows _).1 h1))⟩
theorem solve_is (C : SolveSaid) (f : Nat) (rows : List (List Nat)) (A : Option Addr) (c : Nat) (w : World) (hf : IsField w f) (hr : RRd w A rows) (hc : rows.length ≤ c) (hl : rows.length ≤ 4096) (hll : ∀ i, i < rows.length → (ro rows i).length ≤ 4096) (ht : Rt rows) (x : List Nat) (hx : SolSome (KR (wide rows) rows) (wide rows - 1) x) :
    Calls Try.prog 13 #[.pointer (some ⟨f, 0, none⟩), .slice A rows.length c] w (GivesE x 0 w) := (C.solve f rows A c w hf hr hc hl hll ht).mono fun _ _ h => by
  rcases h with ⟨y, hy, h⟩ | ⟨hn, _⟩
  · rwa [Lin.sol_one (kr_lin _ rows hr.sm) hy hx] at h
  · exact absurd hn hx.not_none
theorem solve_no (C : SolveSaid) (f : Nat) (rows : List (List Nat)) (A : Option Addr) (c : Nat) (w : World) (hf : IsField w f) (hr : RRd w A rows) (hc : rows.length ≤ c) (hl : rows.length ≤ 4096) (hll : ∀ i, i < rows.length → (ro rows i).length ≤ 4096) (ht : Rt rows) (hx : SolNone (KR (wide rows) rows) (wide rows - 1)) :
    Calls Try.prog 13 #[.pointer (some ⟨f, 0, none⟩), .slice A rows.length c] w (GivesE [] 7 w) := (C.solve f rows A c w hf hr hc hl hll ht).mono fun _ _ h => by
  rcases h with ⟨y, hy, _⟩ | ⟨_, h⟩
  · exact absurd hx hy.not_none
  · exact h
theorem ref_solve_is (rows : List (List Nat)) (A : Option Addr) (c : Nat) (w : World) (hr : RRd w A rows) (hl : rows.length ≤ 4096) (hll : ∀ i, i < rows.length → (ro rows i).length ≤ 4096) (ht : Rt rows) (x : List Nat) (hx : SolSome (KR (wide rows) rows) (wide rows - 1) x) :
    Calls Try.prog 14 #[.slice A rows.length c] w (GivesE x 0 w) := (ref_solve rows A c w hr (by omega) (fun i hi => by have := hll i hi; omega) ht).mono fun _ _ h => by
  rcases h with ⟨y, hy, h⟩ | ⟨hn, _⟩
  · rwa [Lin.sol_one (kr_lin _ rows hr.sm) hy hx] at h
  · exact absurd hn hx.not_none
theorem ref_solve_no (rows : List (List Nat)) (A : Option Addr) (c : Nat) (w : World) (hr : RRd w A rows) (hl : rows.length ≤ 4096) (hll : ∀ i, i < rows.length → (ro rows i).length ≤ 4096) (ht : Rt rows) (hx : SolNone (KR (wide rows) rows) (wide rows - 1)) :
    Calls Try.prog 14 #[.slice A rows.length c] w (GivesE [] 7 w) := (ref_solve rows A c w hr (by omega) (fun i hi => by have := hll i hi; omega) ht).mono fun _ _ h => by
  rcases h with ⟨y, hy, _⟩ | ⟨_, h⟩
  · exact absurd hx hy.not_none
  · exact h

/-! ### The example rows -/
def ex1 : List (List Nat) := [[1, 1, 3], [0, 1, 2]]
def ex2 : List (List Nat) := [[0, 0, 1]]
theorem dot_three (r x : Nat → Nat) : Lin.dot 3 r x = Gf.mul (r 0) (x 0) ^^^ Gf.mul (r 1) (x 1) ^^^ Gf.mul (r 2) (x 2) := by
  unfold Lin.dot
  simp only [Pol.xs, Nat.zero_xor]
theorem ex1_rt : Rt ex1 := ⟨by decide, fun i hi => by
  match i, hi with
  | 0, _ => exact ⟨by decide, rfl⟩
  | 1, _ => exact ⟨by decide, rfl⟩⟩
theorem ex2_rt : Rt ex2 := ⟨by decide, fun i hi => by
  match i, hi with
  | 0, _ => exact ⟨by decide, rfl⟩⟩
theorem ex1_k (x : Nat → Nat) (h : Gf.mul 1 (x 0) ^^^ Gf.mul 1 (x 1) ^^^ Gf.mul 3 (x 2) = 0) (h' : Gf.mul 0 (x 0) ^^^ Gf.mul 1 (x 1) ^^^ Gf.mul 2 (x 2) = 0) : KR 3 ex1 x := fun i hi => by
  match i, hi with
  | 0, _ => rw [dot_three]; exact h
  | 1, _ => rw [dot_three]; exact h'
theorem ex1_free0 : NotFree (KR 3 ex1) 0 := fun ⟨v, hv, hk, hne, htop⟩ => by
  have h := hk 0 (by decide)
  rw [dot_three, htop 1 (by omega), htop 2 (by omega), Gf.mul_zero, Gf.mul_zero, Nat.xor_zero, Nat.xor_zero] at h
  rw [show num ex1 0 0 = 1 from rfl, Gf.one_mul _ (hv 0)] at h
  exact hne h
theorem ex1_free1 : NotFree (KR 3 ex1) 1 := fun ⟨v, hv, hk, hne, htop⟩ => by
  have h := hk 1 (by decide)
  rw [dot_three, htop 2 (by omega), Gf.mul_zero, Nat.xor_zero] at h
  rw [show num ex1 1 0 = 0 from rfl, show num ex1 1 1 = 1 from rfl, Gf.zero_mul, Nat.zero_xor, Gf.one_mul _ (hv 1)] at h
  exact hne h
theorem ex1_v : KR 3 ex1 (Lin.ext1 2 (co [1, 2])) := ex1_k _ (by decide +kernel) (by decide +kernel)
theorem ex1_sol : SolSome (KR 3 ex1) 2 [1, 2] where
  len := rfl
  sm := Sm.cons (by omega) (Sm.cons (by omega) Sm.nil)
  sol := ex1_v
  zero := fun c hc hf => by
    match c, hc with
    | 0, _ => exact absurd hf ex1_free0
    | 1, _ => exact absurd hf ex1_free1
theorem ex1_free2 : Free (KR 3 ex1) 2 := ⟨_, Lin.ext1_by 2 _ ex1_sol.sm, ex1_v, by decide, fun j hj => by unfold Lin.ext1; rw [if_neg (by omega), if_neg (by omega)]⟩
theorem ex1_rank : Cnt (NotFree (KR 3 ex1)) 3 2 := .inr ⟨fun h => h ex1_free2, .inl ⟨ex1_free1, 1, rfl, .inl ⟨ex1_free0, 0, rfl, rfl⟩⟩⟩
theorem ex2_none : SolNone (KR 3 ex2) 2 := fun x _ hk => by
  have h := hk 0 (by decide)
  rw [dot_three, show num ex2 0 0 = 0 from rfl, show num ex2 0 1 = 0 from rfl, Gf.zero_mul, Gf.zero_mul, show Lin.ext1 2 x 2 = 1 from rfl, show num ex2 0 2 = 1 from rfl] at h
  revert h
  decide +kernel

/-! ### few -/
def Few (rows : List (List Nat)) : Prop := rows.length ≤ 12 ∧ ∀ i, i < rows.length → (ro rows i).length ≤ 12
set_option maxHeartbeats 400000 in
theorem few_says (rows : List (List Nat)) (A : Option Addr) (c : Nat) (w : World) (ha : RRd w A rows) (hmax : rows.length ≤ maxLen) : Calls Try.prog 11 #[.slice A rows.length c] w (Says (Few rows) w) := by
  generalize hn : rows.length = n at *
  have HA := Lib.hid ha
  have HN := Lib.hid hn
  clear ha hn
  unfold maxLen at hmax
  go_enter Try.func11, Try.ntmps11
  go_wp2
  go_loopg [6] n (fun g s wx => ∃ k : Nat, k + g = n ∧ s = .int .i64 (k : Int) ∧ w = wx ∧ ∀ i, i < k → (ro rows i).length ≤ 12)
  case atStart => exact ⟨0, by omega, rfl, rfl, fun i hi => by omega⟩
  case round =>
    obtain ⟨k, hkg, rfl, rfl, hok⟩ := hrel
    have HOK := Lib.hid hok
    clear hok
    cases gk with
    | zero =>
      obtain rfl : k = n := by omega
      clear hkg
      by_cases h12 : k ≤ 12
      · have t : (k : Int) ≤ 12 := by omega
        go_wp2
        go_ret
        exact .inl ⟨⟨by rw [HN.out]; exact h12, by rw [HN.out]; exact HOK.out⟩, rfl, 0, rfl⟩
      · have t : ¬ (k : Int) ≤ 12 := by omega
        have td : decide ((k : Int) ≤ 12) = false := by simp; omega
        go_wp2
        go_ret
        exact .inr ⟨fun h => h12 (by have := h.1; rwa [HN.out] at this), rfl, 0, rfl⟩
    | succ g =>
      have hk : k < n := by omega
      have hkI : (k : Int) < (n : Int) := by omega
      obtain ⟨b, o, Bk, ck, rfl, hck, hlk, _⟩ := HA.out k (by rw [HN.out]; exact hk)
      obtain ⟨nk, hnk⟩ : ∃ nk, (ro rows k).length = nk := ⟨_, rfl⟩
      rw [hnk] at hck hlk
      have HNK := Lib.hid hnk
      clear hnk
      by_cases h12 : 12 < nk
      · have t : (12 : Int) < (nk : Int) := by omega
        go_wp2
        go_ret
        exact .inr ⟨fun h => by have := h.2 k (by rw [HN.out]; exact hk); have := HNK.out; omega, rfl, 0, rfl⟩
      · have t : ¬ (12 : Int) < (nk : Int) := by omega
        go_wp2
        go_roundg g
        case measure => omega
        case rel => exact ⟨k + 1, by omega, by go_num, rfl, fun i hi => by
          by_cases e : i = k
          · rw [e]; have := HNK.out; omega
          · exact HOK.out i (by omega)⟩
end Go.Proofs.Ytlncelfacfflhaa
