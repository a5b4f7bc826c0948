/-
  What lead of layer 3 does: a row is divided by its element in a column, and taken off all others, from that column on. Conditions: a field that New made; rows in blocks of their own, apart from the field; the element is not 0.
-/
import Derived.Test.YtlncelfacfflhaaOnly
import Derived.Test.YtlncelfacfflhaaSAddM
import Derived.Test.YtlncelfacfflhaaFDiv
import Derived.Test.YtlncelfacfflhaaRed
namespace Go.Proofs.Ytlncelfacfflhaa
open Go.RowKit
open Pol (co Sm)
open Lin (stepF)

/-- k elements from place c on, times v. -/
def scl (c v : Nat) (f : Nat → Nat) (k j : Nat) : Nat := if c ≤ j ∧ j < c + k then Gf.mul (f j) v else f j
theorem scl_lt {c v N : Nat} {f : Nat → Nat} (h : ∀ j, j < N → f j < 256) (k j : Nat) (hj : j < N) : scl c v f k j < 256 := by
  unfold scl
  split
  · exact Gf.mul_lt _ _
  · exact h j hj
theorem scl_zero (c v : Nat) (f : Nat → Nat) (j : Nat) : f j = scl c v f 0 j := by
  unfold scl; rw [if_neg (by omega)]
theorem scl_at (c v : Nat) (f : Nat → Nat) (k : Nat) : scl c v f k (c + k) = f (c + k) := by
  unfold scl; rw [if_neg (by omega)]
theorem scl_step (c v : Nat) (f : Nat → Nat) (k j : Nat) : upd (scl c v f k) (c + k) (Gf.mul (f (c + k)) v) j = scl c v f (k + 1) j := by
  unfold upd
  by_cases h : j = c + k
  · subst h
    rw [if_pos rfl]
    unfold scl
    rw [if_pos (by omega)]
  · rw [if_neg h]
    unfold scl
    by_cases h' : c ≤ j ∧ j < c + k
    · rw [if_pos h', if_pos (by omega)]
    · rw [if_neg h', if_neg (by omega)]
/-- The rows when the first k are done. -/
def ldF (F : Nat → Nat → Nat) (d c v k : Nat) (i j : Nat) : Nat :=
  if j < c then F i j else if i = d then Gf.mul (F d j) v else if i < k then F i j ^^^ Gf.mul (F i c) (Gf.mul (F d j) v) else F i j
/-- All rows. -/
def leadF (F : Nat → Nat → Nat) (d c : Nat) (i j : Nat) : Nat :=
  if j < c then F i j else if i = d then Gf.mul (F d j) (Gf.quo 1 (F d c)) else F i j ^^^ Gf.mul (F i c) (Gf.mul (F d j) (Gf.quo 1 (F d c)))
theorem lead_step (F : Nat → Nat → Nat) (d t c : Nat) (h0 : ∀ j, j < c → F t j = 0) (i j : Nat) : leadF (fun r => F (swp d t r)) d c i j = stepF F d t c i j := by
  have hd : swp d t d = t := by unfold swp; rw [if_pos rfl]
  have hi : ∀ j, i ≠ d → F (swp d t i) j = if i = t then F d j else F i j := fun j hi => by
    unfold swp
    rw [if_neg hi]
    split <;> rfl
  unfold leadF stepF
  dsimp only
  rw [hd]
  by_cases hj : j < c
  · rw [if_pos hj, h0 j hj, Gf.zero_mul, Gf.zero_mul, Nat.xor_zero]
    by_cases e : i = d
    · rw [if_pos e, e, hd, h0 j hj]
    · rw [if_neg e, hi j e]
  · rw [if_neg hj]
    by_cases e : i = d
    · rw [if_pos e, if_pos e]
    · rw [if_neg e, if_neg e, hi j e, hi c e, Gf.mul_comm _ (Gf.mul _ _)]

/-- Lead's answer. -/
def Leads (g m N : Nat) (blk : Nat → Nat) (F' : Nat → Nat → Nat) (w : World) (e : Ending) (w' : World) : Prop :=
  e = .returned (.int .i64 0) ∧ Mat w' g m N blk F' ∧ Only (InRows m blk) w w'

set_option maxHeartbeats 1600000 in
set_option maxRecDepth 100000 in
theorem s_lead (f g m N cr d c : Nat) (blk : Nat → Nat) (F : Nat → Nat → Nat) (w : World) (hf : IsField w f) (hm : Mat w g m N blk F) (hF : ∀ i j, F i j < 256) (hfb : ∀ i, i < m → blk i ≠ f)
    (hd : d < m) (hc : c < N) (hne : F d c ≠ 0) (hmb : m ≤ 65536) (hNb : N ≤ 65536) :
    Calls Try.prog 31 #[.pointer (some ⟨f, 0, none⟩), .slice (some ⟨g, 0, none⟩) m cr, .int .i64 (d : Int), .int .i64 (c : Int)] w (Leads g m N blk (leadF F d c) w) := by
  obtain ⟨v, hv⟩ : ∃ v, Gf.quo 1 (F d c) = v := ⟨_, rfl⟩
  have hvb : v < 256 := by rw [← hv]; exact Gf.quo_lt _ _
  have HINV := Lib.hid (fun W (h : IsField W f) => inv_is f (F d c) v W h (hF d c) hne hv)
  obtain ⟨cd, hcd, hfd, hNd⟩ := hm.row d hd
  have hcc := ((hm.has d hd) c hc).1
  have hdI : (d : Int) < (m : Int) := by omega
  have hcI : (c : Int) < (N : Int) := by omega
  have HF := Lib.hid hf
  have HM := Lib.hid hm
  have HFF := Lib.hid hF
  have HFB := Lib.hid hfb
  have HV := Lib.hid hv
  clear hf hm hF hfb hv hne
  go_enter Try.func31, Try.ntmps31
  go_wp2_with fail
  refine (HINV.out w HF.out).mono ?_
  rintro e w1 ⟨rfl, q1, rfl⟩
  have hcd1 : (w.drewN q1).cell? ⟨g, d, none⟩ = some (.slice (some ⟨blk d, 0, none⟩) N cd) := hcd
  have hsl := fun W => run_from_u8 (blk d) 0 N cd c (by omega) (by omega) W
  obtain ⟨L, hL⟩ : ∃ L, N - c = L := ⟨_, rfl⟩
  rw [Nat.zero_add, hL] at hsl
  have hL1 : c + L ≤ N := by omega
  have hL2 : N ≤ c + L := by omega
  have HLL := Lib.hid hL
  clear HINV hcd hcc hL
  go_wp2
  clear hsl
  obtain ⟨w1, hw1⟩ : ∃ w1, w.drewN q1 = w1 := ⟨_, rfl⟩
  rw [hw1]
  have HM1 := Lib.hid (show Mat w1 g m N blk F from hw1 ▸ HM.out.drewN q1)
  have HF1 := Lib.hid (show IsField w1 f from hw1 ▸ HF.out.drewN q1)
  have HO1 := Lib.hid (show Only (InRows m blk) w w1 from hw1 ▸ (Only.refl _ w).drewN q1)
  clear hw1 hcd1 HM HF
  go_loopg [38] L (fun gk s wx => ∃ k : Nat, k + gk = L ∧ s = .int .i64 (k : Int) ∧ Cells wx (blk d) N (scl c v (F d) k) ∧ w1.grownBy wx (some (blk d)))
  case atStart => exact ⟨0, by omega, rfl, (HM1.out.has d hd).congr (fun j _ => scl_zero c v (F d) j), World.grownBy.refl _ _⟩
  case round =>
    obtain ⟨k, hkg, rfl, hcl, hg⟩ := hrel
    have HL := Lib.hid hcl
    have HG := Lib.hid hg
    clear hcl hg
    cases gk with
    | succ gk =>
      have hk : k < L := by omega
      have hkI : (k : Int) < (L : Int) := by omega
      have hc1 := (HL.out (c + k) (by omega)).1
      have hfz := (HL.out (c + k) (by omega)).2
      rw [scl_at] at hc1
      have hfield := HF1.out.keep HG.out (fun h => HFB.out d hd (by injection h with h; exact h.symm))
      have HMU := Lib.hid (mul_any f (F d (c + k)) v wr hfield (HFF.out d (c + k)) hvb)
      clear hfield
      go_wp2_with fail
      refine HMU.out.mono ?_
      rintro e w2 ⟨rfl, q, rfl⟩
      have hc2 : (wr.drewN q).cell? ⟨blk d, c + k, none⟩ = some (.int .u8 ((F d (c + k) : Nat) : Int)) := hc1
      have hfz2 : (wr.drewN q).frozen? ⟨blk d, c + k, none⟩ = false := hfz
      have HST := Lib.hid (((HL.out.drewN q).store (c + k) (Gf.mul (F d (c + k)) v)).congr (F' := scl c v (F d) (k + 1)) (fun j _ => scl_step c v (F d) k j))
      have HGG := Lib.hid ((HG.out.trans (grown_drewN wr q _)).trans (grown_set (wr.drewN q) (blk d) (c + k) (.int .u8 ((Gf.mul (F d (c + k)) v : Nat) : Int))))
      go_wp2
      go_roundg gk
      case measure => omega
      case rel => exact ⟨k + 1, by omega, by go_num, HST.out, HGG.out⟩
    | zero =>
      obtain rfl : L = k := by omega
      clear hkg
      have hmat := HM1.out.turn d hd _ HG.out HL.out
      have hmat2 : Mat wr g m N blk (ldF F d c v 0) := hmat.congr (fun i _ j hj => by
        unfold ldF
        by_cases e : i = d
        · rw [if_pos e, if_pos e]
          unfold scl
          by_cases h : j < c
          · rw [if_pos h, if_neg (by omega), e]
          · rw [if_neg h, if_pos (by omega)]
        · rw [if_neg e, if_neg e, if_neg (Nat.not_lt_zero i)]
          split <;> rfl)
      have honly : Only (InRows m blk) w wr := HO1.out.trans (Only.of_grown HG.out (fun k e => ⟨d, hd, by injection e with e; exact e.symm⟩))
      have HM2 := Lib.hid hmat2
      have HO2 := Lib.hid honly
      have HF2 := Lib.hid (HF1.out.keep HG.out (fun h => HFB.out d hd (by injection h with h; exact h.symm)))
      obtain ⟨w3, hw3⟩ : ∃ w3, w3 = wr := ⟨_, rfl⟩
      subst hw3
      clear hmat hmat2 honly HL HG HM1 HF1 HO1
      go_wp2
      go_loopg [54] m (fun gk s wx => ∃ k : Nat, k + gk = m ∧ s = .int .i64 (k : Int) ∧ Mat wx g m N blk (ldF F d c v k) ∧ Only (InRows m blk) w3 wx)
      case atStart => exact ⟨0, by omega, rfl, HM2.out, Only.refl _ _⟩
      case round =>
        obtain ⟨k, hkg, rfl, hmk, hok⟩ := hrel
        have HMK := Lib.hid hmk
        have HOK := Lib.hid hok
        clear hmk hok
        cases gk with
        | zero =>
          obtain rfl : k = m := by omega
          clear hkg
          have hend : Mat wr g k N blk (leadF F d c) := HMK.out.congr (fun i hi j _ => by
            unfold ldF leadF
            rw [HV.out, if_pos hi])
          have HE := Lib.hid hend
          clear hend
          go_wp2
          go_ret
          exact ⟨rfl, HE.out, HO2.out.trans HOK.out⟩
        | succ gk =>
          have hk : k < m := by omega
          have hkI : (k : Int) < (m : Int) := by omega
          obtain ⟨ck, hck, hfk, hNk⟩ := HMK.out.row k hk
          by_cases hkd : k = d
          · have tkd : ((k : Int) != (d : Int)) = false := by subst hkd; simp
            have HKD := Lib.hid hkd
            clear hkd
            have hnx : Mat wr g m N blk (ldF F d c v (k + 1)) := HMK.out.congr (fun i _ j _ => by
              unfold ldF
              by_cases e : i = d
              · rw [if_pos e, if_pos e]
              · rw [if_neg e, if_neg e]
                by_cases e2 : i < k
                · rw [if_pos e2, if_pos (show i < k + 1 by omega)]
                · rw [if_neg e2, if_neg (show ¬ i < k + 1 by have := HKD.out; omega)])
            have HNX := Lib.hid hnx
            clear hnx
            go_wp2
            go_roundg gk
            case measure => omega
            case rel => exact ⟨k + 1, by omega, by go_num, HNX.out, HOK.out⟩
          · have tkd : ((k : Int) != (d : Int)) = true := by simp; omega
            have hbk : blk d ≠ blk k := fun e => hkd (HMK.out.one d k hd hk e).symm
            have hlb : ∀ i j, i < m → j < N → ldF F d c v k i j < 256 := fun i j _ _ => by
              unfold ldF
              split
              · exact HFF.out _ _
              · split
                · exact Gf.mul_lt _ _
                · split
                  · exact Gf.xor_lt _ _ (HFF.out _ _) (Gf.mul_lt _ _)
                  · exact HFF.out _ _
            have hkc : ldF F d c v k k c = F k c := by
              unfold ldF
              rw [if_neg (Nat.lt_irrefl _), if_neg hkd, if_neg (Nat.lt_irrefl _)]
            have hcc := ((HMK.out.has k hk) c hc).1
            rw [hkc] at hcc
            have hrd := (HMK.out.has d hd).from (fun j hj => hlb d j hd hj) c (by omega)
            have hfw := HF2.out.only HOK.out (fun ⟨i, hi, e⟩ => HFB.out i hi e.symm)
            have hct := fun q => s_addm f (tab (N - c) fun j => ldF F d c v k d (c + j)) (some ⟨blk d, c, none⟩) (blk k) c N (ck - c) (cd - c) (F k c) (ldF F d c v k k) (wr.drewN q) (hfw.drewN q) (hrd.drewN q) (HFF.out k c) ((HMK.out.has k hk).drewN q) (fun j hj => hlb k j hk hj)
              (fun e => HFB.out k hk e.symm) (fun b o e _ => by injection e with e; injection e with e _; rw [← e]; exact hbk) (by rw [tab_len]; omega) (by rw [tab_len]; omega)
            rw [tab_len, HLL.out] at hct
            have HNJ := Lib.hid (show ∀ j, j < N → addm c (F k c) (tab L fun j => ldF F d c v k d (c + j)) (ldF F d c v k k) L j = ldF F d c v (k + 1) k j from fun j hj => by
              unfold addm
              by_cases h : j < c
              · rw [if_neg (by omega)]
                unfold ldF
                rw [if_pos h, if_pos h]
              · rw [if_pos (by omega), co_tab, if_pos (by omega), show c + (j - c) = j from by omega]
                unfold ldF
                rw [if_neg h, if_neg hkd, if_neg (Nat.lt_irrefl _), if_neg h, if_pos rfl, if_neg h, if_neg hkd, if_pos (Nat.lt_succ_self _)])
            have hsl := fun W => run_from_u8 (blk k) 0 N ck c (by omega) (by omega) W
            rw [Nat.zero_add, HLL.out] at hsl
            have HCT := Lib.hid hct
            have HBK := Lib.hid hbk
            have HKD := Lib.hid hkd
            clear hct hrd hfw hlb hkc hbk hkd
            go_wp2
            refine wp_region_quiet_tail 9 (fun w' => ∃ q, w' = wr.drewN q) (by kernel_rfl) (by kernel_rfl) ⟨1, rfl⟩ ?_
            simp only [List.take_succ_cons, List.take_zero, List.drop_succ_cons, List.drop_zero]
            repeat (quiet_step (fail))
            refine wpQuiet_nil ?_
            rintro _ ⟨q, rfl⟩
            go_wp2_with fail
            refine (HCT.out q).mono ?_
            rintro e w4 ⟨⟨v4, rfl⟩, hc4, hg4⟩
            have hm4 := ((HMK.out.drewN q).turn k hk _ hg4 (hc4.congr HNJ.out)).congr (F' := ldF F d c v (k + 1)) (fun i _ j _ => by
              by_cases e : i = k
              · rw [if_pos e, e]
              · rw [if_neg e]
                unfold ldF
                by_cases e2 : i < k
                · rw [if_pos e2, if_pos (show i < k + 1 by omega)]
                · rw [if_neg e2, if_neg (show ¬ i < k + 1 by omega)])
            have HM4 := Lib.hid hm4
            have HO4 := Lib.hid ((HOK.out.drewN q).trans (Only.of_grown hg4 (fun b e => ⟨k, hk, by injection e with e; exact e.symm⟩)))
            clear hc4 hg4 hm4 hsl
            go_wp2
            go_roundg gk
            case measure => omega
            case rel => exact ⟨k + 1, by omega, by go_num, HM4.out, HO4.out⟩
end Go.Proofs.Ytlncelfacfflhaa
