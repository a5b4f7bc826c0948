/-
  Part 3 of the texts that the seat's proofs stand on; each part of it begins with its own sentence and conditions. Conditions: those that each theorem names.
-/
import Derived.Test.YtmjndomjnhjncaaPack2
import Derived.StillTailTactics

/-
  The law CrcSums, walked, under what layer 9's functions are to do. Conditions: none.
-/
namespace Go.Proofs.Ytmjndomjnhjncaa
open Go.RowKit
open Pol (co Sm)

theorem xor_three (a b c o : Nat) : a ^^^ (b ^^^ c) ^^^ o = (a ^^^ o) ^^^ (b ^^^ o) ^^^ (c ^^^ o) := by
  apply Nat.eq_of_testBit_eq
  intro i
  simp only [Nat.testBit_xor]
  cases a.testBit i <;> cases b.testBit i <;> cases c.testBit i <;> cases o.testBit i <;> rfl
/-- The sum of three, place by place. -/
theorem crcl_sum (a b c : List Nat) (n : Nat) (ha : a.length = n) (hb : b.length = n) (hc : c.length = n) :
    crcl (tab n fun i => co a i ^^^ (co b i ^^^ co c i)) = crcl a ^^^ crcl b ^^^ crcl c := by
  have h := crf_lin 4294967295 (4294967295 ^^^ 4294967295) (co a) (fun i => co b i ^^^ co c i) n
  rw [crf_lin 4294967295 4294967295 (co b) (co c) n, Nat.xor_self, Nat.xor_zero] at h
  unfold crcl
  rw [tab_len, ha, hb, hc, crf_congr (g := fun i => co a i ^^^ (co b i ^^^ co c i)) n (fun i hi => by rw [co_tab, if_pos hi]), h, xor_three]
def s3 (a b c : List Nat) (j i : Nat) : Nat := if i < j then co a i ^^^ (co b i ^^^ co c i) else co a i
theorem s3_lt {a b c : List Nat} (ha : Sm a) (hb : Sm b) (hc : Sm c) (j i : Nat) : s3 a b c j i < 256 := by
  unfold s3
  split
  · exact Nat.xor_lt_two_pow (n := 8) (ha i) (Nat.xor_lt_two_pow (n := 8) (hb i) (hc i))
  · exact ha i
theorem s3_step (a b c : List Nat) (j i : Nat) : upd (s3 a b c j) j (co a j ^^^ (co b j ^^^ co c j)) i = s3 a b c (j + 1) i := by
  unfold upd s3
  by_cases e : i = j
  · subst e; rw [if_pos rfl, if_pos (by omega)]
  · rw [if_neg e]
    by_cases h : i < j
    · rw [if_pos h, if_pos (by omega)]
    · rw [if_neg h, if_neg (by omega)]
theorem s3_all (a b c : List Nat) (n : Nat) : tab n (s3 a b c n) = tab n fun i => co a i ^^^ (co b i ^^^ co c i) := by
  unfold tab
  exact List.map_congr_left fun i hi => by unfold s3; rw [if_pos (List.mem_range.1 hi)]

set_option maxHeartbeats 3200000 in
set_option maxRecDepth 100000 in
theorem sums9_walk (C : CrcSaid) (l0 : List Nat) (a0 : Option Addr) (c0 : Nat) (l1 : List Nat) (a1 : Option Addr) (c1 : Nat) (l2 : List Nat) (a2 : Option Addr) (c2 : Nat) (w : World) (hr0 : Rd w a0 l0) (hc0 : l0.length ≤ c0) (hr1 : Rd w a1 l1) (hc1 : l1.length ≤ c1) (hr2 : Rd w a2 l2) (hc2 : l2.length ≤ c2) :
    Calls Try.prog 9 #[.slice a0 l0.length c0, .slice a1 l1.length c1, .slice a2 l2.length c2] w (Holds w) := by
  have HAW := Lib.hid (fun W => awake9 C W)
  by_cases hbig : l0.length ≤ 400 ∧ l1.length = l0.length ∧ l2.length = l0.length
  · obtain ⟨hb0, hb1, hb2⟩ := hbig
    have hs0 := crcl_lt hr0.1
    have hs1 := crcl_lt hr1.1
    have hs2 := crcl_lt hr2.1
    have H0 := Lib.hid (fun W (hx : Ext w W) => C.of l0 a0 c0 W (hr0.ext hx) hc0 (by omega))
    have H1 := Lib.hid (fun W (hx : Ext w W) => C.of l1 a1 c1 W (hr1.ext hx) hc1 (by omega))
    have H2 := Lib.hid (fun W (hx : Ext w W) => C.of l2 a2 c2 W (hr2.ext hx) hc2 (by omega))
    have HR0 := Lib.hid hr0
    have HR1 := Lib.hid hr1
    have HR2 := Lib.hid hr2
    have HSUM := Lib.hid (crcl_sum l0 l1 l2 l0.length rfl hb1 hb2)
    obtain ⟨x0, hx0⟩ : ∃ x, crcl l0 = x := ⟨_, rfl⟩
    obtain ⟨x1, hx1⟩ : ∃ x, crcl l1 = x := ⟨_, rfl⟩
    obtain ⟨x2, hx2⟩ : ∃ x, crcl l2 = x := ⟨_, rfl⟩
    rw [hx0] at H0 hs0 HSUM
    rw [hx1] at H1 hs1 HSUM
    rw [hx2] at H2 hs2 HSUM
    obtain ⟨y, hy⟩ : ∃ y, x0 ^^^ x1 = y := ⟨_, rfl⟩
    obtain ⟨z, hz⟩ : ∃ z, y ^^^ x2 = z := ⟨_, rfl⟩
    rw [hy, hz] at HSUM
    have hy32 : y < 4294967296 := by rw [← hy]; exact Nat.xor_lt_two_pow (n := 32) hs0 hs1
    have q1 : bits .xor .u32 (x0 : Int) (x1 : Int) = (y : Int) := by rw [u32_xor_nat _ _ hs0 hs1, hy]
    have q2 : bits .xor .u32 (y : Int) (x2 : Int) = (z : Int) := by rw [u32_xor_nat _ _ hy32 hs2, hz]
    obtain ⟨n, hn⟩ : ∃ n, l0.length = n := ⟨_, rfl⟩
    rw [hn] at hb0 hb1 hb2 hc0 H0 HSUM
    rw [hb1] at hc1 H1 ⊢
    rw [hb2] at hc2 H2 ⊢
    rw [hn]
    have HN0 := Lib.hid hn
    have HN1 := Lib.hid hb1
    have HN2 := Lib.hid hb2
    have HOF := Lib.hid (fun A c W (hr : Rd W A (tab n (s3 l0 l1 l2 n))) (hc : n ≤ c) => show Calls Try.prog 11 #[.slice A n c] W (Tells (.int .u32 (z : Int)) W) from by
      have h := C.of (tab n (s3 l0 l1 l2 n)) A c W hr (by rw [tab_len]; exact hc) (by rw [tab_len]; omega)
      rw [tab_len, s3_all, HSUM.out] at h
      exact h)
    have d1 : decide (400 < (n : Int)) = false := decide_eq_false (by omega)
    have d2 : ((n : Int) != (n : Int)) = false := by simp
    clear C hr0 hr1 hr2 hx0 hx1 hx2 hn hb1 hb2 hy hz HSUM
    go_enter Try.func9, Try.ntmps9
    go_wp2_with fail
    refine (HAW.out w).mono ?_
    rintro e v1 ⟨rfl, hv1⟩
    have HX1 := Lib.hid hv1
    clear hv1
    go_wp2_with (at_builtin; first
      | (refine wpList_append_rd rfl (.tmp 31) (.tmp 32) rfl v1.heap.size (.slice (some ⟨v1.heap.size, 0, none⟩) 0 0) [] l0 rfl (mine_empty v1) a0 n c0 rfl HN0.out (HR0.out.ext (HX1.out.alloc _)) (by rw [HN0.out]; simp; omega) (by simp) ?_; intro v7 w7 hown7 hg7 hat7
         rw [List.nil_append] at hown7
         have hx7 : Ext v1 w7 := ((Ext.refl v1).alloc _).more hg7 (fun q hq => by simp [Value.ownBlock] at hq; omega)
         obtain ⟨B7, cc7, g7, ev7, hc7, hB7, hcl7⟩ := hown7.cells
         rw [HN0.out] at ev7 hc7 hB7 hcl7
         subst ev7
         have HX7 := Lib.hid (HX1.out.trans hx7)
         have hs7 := HX1.out.size
         have HCL := Lib.hid hcl7
         have HB7 := Lib.hid hB7
         clear hown7 hg7 hat7 hx7 hB7 hcl7))
    go_loopg [36] n (fun g s wx => ∃ j : Nat, j + g = n ∧ s = .int .i64 (j : Int) ∧ Cells wx g7 n (s3 l0 l1 l2 j) ∧ Ext w wx)
    case atStart => exact ⟨0, by omega, rfl, HCL.out.congr (fun i _ => by unfold s3; rw [if_neg (by omega)]), HX7.out⟩
    case round =>
      obtain ⟨j, hjg, rfl, hblk, hx⟩ := hrel
      have HY := Lib.hid hx
      have HL := Lib.hid hblk
      clear hx hblk
      cases gk with
      | zero =>
        obtain rfl : j = n := by omega
        clear hjg
        have HRS := Lib.hid (show Rd wr B7 (tab j (s3 l0 l1 l2 j)) from by
          rcases Nat.eq_zero_or_pos j with h0 | h0
          · subst h0; exact Rd.nil _ _
          · rw [(HB7.out h0).1]
            exact HL.out.reads (fun i _ => s3_lt HR0.out.1 HR1.out.1 HR2.out.1 j i))
        go_wp2_with fail
        refine (HOF.out B7 cc7 _ HRS.out hc7).mono ?_
        rintro e u1 ⟨rfl, hz⟩
        have HZ1 := Lib.hid (HY.out.trans hz)
        clear hz
        go_wp2_with fail
        refine (H0.out _ HZ1.out).mono ?_
        rintro e u2 ⟨rfl, hz⟩
        have HZ2 := Lib.hid (HZ1.out.trans hz)
        clear hz
        go_wp2_with fail
        refine (H1.out _ HZ2.out).mono ?_
        rintro e u3 ⟨rfl, hz⟩
        have HZ3 := Lib.hid (HZ2.out.trans hz)
        clear hz
        go_wp2_with fail
        refine (H2.out _ HZ3.out).mono ?_
        rintro e u4 ⟨rfl, hz⟩
        have HZ4 := Lib.hid (HZ3.out.trans hz)
        clear hz
        go_wp2
        go_ret
        exact ⟨rfl, HZ4.out⟩
      | succ g =>
        have hj : j < n := by omega
        have hjI : (j : Int) < (n : Int) := by omega
        have hb7 := (HB7.out (by omega)).2
        have hB7e := (HB7.out (by omega)).1
        obtain ⟨b1, o1, e1, hc1'⟩ := (HR1.out.ext HY.out).2 j (by rw [HN1.out]; exact hj)
        obtain ⟨b2, o2, e2, hc2'⟩ := (HR2.out.ext HY.out).2 j (by rw [HN2.out]; exact hj)
        subst e1; subst e2; subst hB7e
        have hq1 := HR1.out.1 j
        have hq2 := HR2.out.1 j
        have hq0 := HR0.out.1 j
        obtain ⟨hc3, hfz⟩ := HL.out j hj
        have hsj : s3 l0 l1 l2 j j = co l0 j := by unfold s3; rw [if_neg (by omega)]
        rw [hsj] at hc3
        obtain ⟨p, hp⟩ : ∃ p, co l1 j ^^^ co l2 j = p := ⟨_, rfl⟩
        obtain ⟨r, hr⟩ : ∃ r, co l0 j ^^^ p = r := ⟨_, rfl⟩
        have hp8 : p < 256 := by rw [← hp]; exact Nat.xor_lt_two_pow (n := 8) hq1 hq2
        have HU := Lib.hid (((HL.out.drewN 1).store j r).congr (F' := s3 l0 l1 l2 (j + 1)) (fun i _ => by rw [← hr, ← hp]; exact s3_step l0 l1 l2 j i))
        have HE := Lib.hid ((HY.out.drewN 1).setCell (p := ⟨g7, j, none⟩) (by show w.heap.size ≤ g7; omega) (.int .u8 (r : Int)))
        have ex1 : bits .xor .u8 ((co l1 j : Nat) : Int) ((co l2 j : Nat) : Int) = (p : Int) := by rw [u8_xor_nat _ _ hq1 hq2, hp]
        have ex2 : bits .xor .u8 ((co l0 j : Nat) : Int) (p : Int) = (r : Int) := by rw [u8_xor_nat _ _ hq0 hp8, hr]
        generalize co l1 j = y1 at *
        generalize co l2 j = y2 at *
        generalize co l0 j = y0 at *
        clear hp hr hsj
        go_wp2
        go_still_tail 15, (by kernel_rfl)
        repeat still_step
        change wpList _ _ _ _ _ wr.drew
        go_wp2
        go_roundg g
        case measure => omega
        case rel => exact ⟨j + 1, by omega, by go_num, HU.out, HE.out⟩
  · have hor : decide (400 < (l0.length : Int)) = true ∨ (decide (400 < (l0.length : Int)) = false ∧ (((l1.length : Int) != (l0.length : Int)) = true ∨ (((l1.length : Int) != (l0.length : Int)) = false ∧ ((l2.length : Int) != (l0.length : Int)) = true))) := by
      by_cases h : 400 < (l0.length : Int)
      · exact .inl (decide_eq_true h)
      · refine .inr ⟨decide_eq_false h, ?_⟩
        by_cases h1 : l1.length = l0.length
        · exact .inr ⟨by simp [h1], by simp; omega⟩
        · exact .inl (by simp; omega)
    clear C hr0 hr1 hr2 hbig
    generalize l0.length = n0 at *
    generalize l1.length = n1 at *
    generalize l2.length = n2 at *
    rcases hor with d1 | ⟨d1, d2 | ⟨d2, d3⟩⟩
    all_goals
      go_enter Try.func9, Try.ntmps9
      go_wp2_with fail
      refine (HAW.out w).mono ?_
      rintro e v1 ⟨rfl, hv1⟩
      have HX1 := Lib.hid hv1
      clear hv1
      go_wp2_with fail
      refine (HAW.out v1).mono ?_
      rintro e v2 ⟨rfl, hv2⟩
      have HX2 := Lib.hid (HX1.out.trans hv2)
      clear hv2
      go_wp2
      go_ret
      exact ⟨rfl, HX2.out⟩
end Go.Proofs.Ytmjndomjnhjncaa
