/-
  What Solve and Rank of layer 3 do: the one solution whose free unknowns are 0, the rank, or their errors. Conditions: a field that New made, no more than 2^12 elements and rows.
-/
import Derived.Test.YtlncelfacfflhaaSRect
import Derived.Test.YtlncelfacfflhaaSCopy
import Derived.Test.YtlncelfacfflhaaSReduce
import Derived.Test.YtlncelfacfflhaaS3Said
namespace Go.Proofs.Ytlncelfacfflhaa
open Go.RowKit
open Pol (co Sm)
open Lin (Red SolSome SolNone Cnt NotFree)

theorem num_lt {w : World} {A : Option Addr} {rows : List (List Nat)} (ha : RRd w A rows) (i k : Nat) : num rows i k < 256 := by
  unfold num
  by_cases h : i < rows.length
  · obtain ⟨_, _, _, _, _, _, _, hr⟩ := ha i h
    exact hr.1 k
  · unfold ro
    rw [List.getElem?_eq_none (by omega)]
    simp [Pol.co_nil]
/-- s[l:] of rows. -/
theorem run_from_rows (g o len cap l : Nat) (h : l ≤ len) : ∃ X, (l < cap → X = some (⟨g, o + l, none⟩ : Addr)) ∧ ∀ W,
    (Instr.slice 22 (.slice (some ⟨g, o, none⟩) len cap) (some (.int .i64 (l : Int))) none none).run Try.prog W = .ok (.slice X (len - l) (cap - l)) W := by
  obtain ⟨i0, hi, hz0, hz1, hz2⟩ := info_parts row_info
  have he : Try.prog.elem 22 = 27 := by kernel_rfl
  refine ⟨if cap = l then some ⟨g, o, none⟩ else some ⟨g, o + l, none⟩, fun hc => if_neg (by omega), fun W => ?_⟩
  rw [run_slice_l W 22 _ len cap (by rw [he]; exact Try.underlying22) .i64 (l : Int) (by omega) (by omega), he]
  simp [sizeOf, typeInfo, hi, hz1, Result.andThen, sliced, addr_add]

set_option maxHeartbeats 400000 in
theorem s_solve_odd (f : Nat) (rows : List (List Nat)) (A : Option Addr) (c : Nat) (w : World) (ha : RRd w A rows) (hl : rows.length ≤ 4096) (hll : ∀ i, i < rows.length → (ro rows i).length ≤ 4096) (h : ¬ Rt rows) :
    Calls Try.prog 13 #[.pointer (some ⟨f, 0, none⟩), .slice A rows.length c] w (GivesE [] 1 w) := by
  have HR := Lib.hid (s_rect rows A c w ha (by omega) (fun i hi => by have := hll i hi; omega))
  have HH := Lib.hid h
  clear ha hll h
  generalize rows.length = m at *
  go_enter Try.func13, Try.ntmps13
  go_wp2_with fail
  refine HR.out.mono ?_
  rintro e w1 (⟨hp, _⟩ | ⟨_, rfl, q, rfl⟩)
  · exact absurd hp HH.out
  · go_wp2
    go_ret2
    exact ⟨_, rfl, sl_none _, (Ext.refl w).drewN q⟩
set_option maxHeartbeats 400000 in
theorem s_rank_odd (f : Nat) (rows : List (List Nat)) (A : Option Addr) (c : Nat) (w : World) (ha : RRd w A rows) (hl : rows.length ≤ 4096) (hll : ∀ i, i < rows.length → (ro rows i).length ≤ 4096) (h : ¬ Rt rows) :
    Calls Try.prog 15 #[.pointer (some ⟨f, 0, none⟩), .slice A rows.length c] w (Tells (.tuple #[.int .i64 0, .int .i64 1]) w) := by
  have HR := Lib.hid (s_rect rows A c w ha (by omega) (fun i hi => by have := hll i hi; omega))
  have HH := Lib.hid h
  clear ha hll h
  generalize rows.length = m at *
  go_enter Try.func15, Try.ntmps15
  go_wp2_with fail
  refine HR.out.mono ?_
  rintro e w1 (⟨hp, _⟩ | ⟨_, rfl, q, rfl⟩)
  · exact absurd hp HH.out
  · go_wp2
    go_ret2
    exact ⟨rfl, (Ext.refl w).drewN q⟩

/-- Reduce behind copied: what is known of both. -/
theorem s_reduce_copies (f : Nat) (rows : List (List Nat)) (A : Option Addr) (N cols : Nat) (w w2 w3 : World) (hf : IsField w f) (ha : RRd w A rows) (hx : Ext w w2) (g cg : Nat) (blk : Nat → Nat)
    (hm : Mat w3 g rows.length N blk (fun i => co (ro rows i))) (hx3 : Ext w2 w3) (hg : w2.heap.size ≤ g) (hb : ∀ i, i < rows.length → w2.heap.size ≤ blk i) (hm0 : 0 < rows.length) (hN0 : 0 < N) (hcols : cols ≤ N) (hmb : rows.length ≤ 65536) (hNb : N ≤ 65536) :
    Calls Try.prog 26 #[.pointer (some ⟨f, 0, none⟩), .slice (some ⟨g, 0, none⟩) rows.length cg, .int .i64 (cols : Int)] w3 (fun e w4 => ∃ (B : Option Addr) (cb : Nat) (ps : List Nat) (blk' : Nat → Nat) (F' : Nat → Nat → Nat), e = .returned (.tuple #[.slice B ps.length cb, .int .i64 0]) ∧ ps.length ≤ cb ∧ IRd w4 B ps ∧ Mat w4 g rows.length N blk' F' ∧ Red rows.length N cols (KR N rows) F' ps ∧ Ext w w4) := by
  have hfl := hf.lt
  have hsz := hx.size
  refine (s_reduce f g rows.length N cg cols blk (KR N rows) (fun i => co (ro rows i)) w3 (hf.ext (hx.trans hx3)) hm (Lin.red_start rows.length N (num rows) (fun i k => num_lt ha i k)) (fun i hi e => by have := hb i hi; omega) (fun e => by omega) hm0 hN0 hcols hmb hNb).mono ?_
  rintro e w4 ⟨B, cb, ps, blk', F', h1, h2, h3, h4, h5, h6⟩
  refine ⟨B, cb, ps, blk', F', h1, h2, h3, h4, h5, h6.ext (hx.trans hx3) (fun k hk => ?_)⟩
  rcases hk with hk | ⟨i, hi, hk⟩
  · omega
  · have := hb i hi
    omega

set_option maxHeartbeats 2000000 in
set_option maxRecDepth 100000 in
theorem s_solve (f : Nat) (rows : List (List Nat)) (A : Option Addr) (ca : Nat) (w : World) (hf : IsField w f) (ha : RRd w A rows) (hml : rows.length ≤ 4096) (hll : ∀ i, i < rows.length → (ro rows i).length ≤ 4096) (h : Rt rows) :
    Calls Try.prog 13 #[.pointer (some ⟨f, 0, none⟩), .slice A rows.length ca] w (SolveE rows w) := by
  have HR := Lib.hid (s_rect rows A ca w ha (by omega) (fun i hi => by have := hll i hi; omega))
  have hm := h.1
  obtain ⟨n, hn⟩ : ∃ n, wide rows = n + 1 := ⟨wide rows - 1, by have := (h.2 0 hm).1; unfold wide; omega⟩
  have hn1 : n + 1 ≤ 4096 := by rw [← hn]; exact hll 0 hm
  have hlen : ∀ i, i < rows.length → (ro rows i).length = n + 1 := fun i hi => by rw [(h.2 i hi).2, ← hn]; rfl
  have HCO := Lib.hid (fun W (hW : Ext w W) => s_copied rows A ca (n + 1) W (ha.ext hW) (by omega) hlen (by omega) (by omega))
  have HRED := Lib.hid (fun W w3 (hW : Ext w W) g cg blk h1 h2 h3 h4 => s_reduce_copies f rows A (n + 1) n w W w3 hf ha hW g cg blk h1 h2 h3 h4 hm (by omega) (by omega) (by omega) (by omega))
  obtain ⟨b0, o0, B0, c0, hA0, hc0, _, _⟩ := ha 0 hm
  rw [hlen 0 hm, Nat.add_zero] at hc0
  subst hA0
  unfold SolveE
  rw [hn, Nat.add_sub_cancel]
  have HH := Lib.hid h
  have HC0 := Lib.hid hc0
  generalize KR (n + 1) rows = K at *
  generalize rows.length = m at *
  have hmI : (0 : Int) < (m : Int) := by omega
  clear hf ha hll h hlen hc0 hn
  go_enter Try.func13, Try.ntmps13
  go_wp2_with fail
  refine HR.out.mono ?_
  rintro e w1 (⟨_, rfl, q, rfl⟩ | ⟨hp, _⟩)
  rotate_left
  · exact absurd HH.out hp
  have hc1 : (w.drewN q).cell? ⟨b0, o0, none⟩ = some (.slice B0 (n + 1) c0) := HC0.out
  have hsub : ((n + 1 : Nat) : Int) - 1 = (n : Int) := by omega
  go_wp2_with fail
  refine (HCO.out (w.drewN q) ((Ext.refl w).drewN q)).mono ?_
  rintro e w3 ⟨g, cg, blk, rfl, hcg, hm3, hx3, hg3, hb3⟩
  have HRE := Lib.hid (HRED.out (w.drewN q) w3 ((Ext.refl w).drewN q) g cg blk hm3 hx3 hg3 hb3)
  clear hm3 hx3 hg3 hb3 hc1 HRED HCO HR HC0
  go_wp2_with fail
  refine HRE.out.mono ?_
  rintro e w2 ⟨B, cb, ps, bl, F, rfl, hcb, hir, hmat, hred, hx2⟩
  have HMT := Lib.hid hmat
  have HRD := Lib.hid hred
  have HIR := Lib.hid hir
  have HX2 := Lib.hid hx2
  have hdm := hred.few
  have hFb := Lib.hid hred.bytes
  clear hmat hred hir hx2 HRE
  obtain ⟨d, hd⟩ : ∃ d, ps.length = d := ⟨_, rfl⟩
  rw [hd] at hdm hcb ⊢
  have HD := Lib.hid hd
  clear hd
  obtain ⟨X, hX, hsl⟩ := run_from_rows g 0 m cg d hdm
  rw [Nat.zero_add] at hX
  obtain ⟨L, hL⟩ : ∃ L, m - d = L := ⟨_, rfl⟩
  have hL1 : d + L ≤ m := by omega
  have hL2 : m ≤ d + L := by omega
  rw [hL] at hsl
  have HLX := Lib.hid hX
  clear hL hX
  have hdmI : (d : Int) ≤ (m : Int) := by omega
  go_wp2
  clear hsl
  go_loopg [40] L (fun gh s wx => ∃ i : Nat, i + gh = L ∧ s = .int .i64 (i : Int) ∧ w2 = wx ∧ ∀ j, d ≤ j → j < d + i → F j n = 0)
  case atStart => exact ⟨0, by omega, rfl, rfl, fun j h1 h2 => by omega⟩
  case round =>
    obtain ⟨i, hig, rfl, rfl, hz⟩ := hrel
    have HZ := Lib.hid hz
    clear hz
    cases gk with
    | zero =>
      obtain rfl : L = i := by omega
      clear hig
      have hmk := fun W => run_make_u8 n (by omega) W
      go_wp2
      clear hmk
      go_loopg [54] d (fun gh s wx => ∃ k : Nat, k + gh = d ∧ s = .int .i64 (k : Int) ∧ Blk wx w2.heap.size n (outF F ps n k) ∧ Ext w2 wx)
      case atStart => exact ⟨0, by omega, rfl, Blk.new _ n (outF F ps n 0), (Ext.refl _).alloc _⟩
      case round =>
        obtain ⟨k, hkg, rfl, hblk, hx⟩ := hrel
        have HX := Lib.hid hx
        have HK := Lib.hid hblk
        clear hx hblk
        cases gk with
        | zero =>
          obtain rfl : k = d := by omega
          clear hkg
          have hsol := HRD.out.some (fun j h1 h2 => HZ.out j (by have := HD.out; omega) (by omega)) (outF F ps n k) (fun j hj => outF_at HRD.out n k (by have := HD.out; omega) (by have := HD.out; omega)) (fun j _ hno => outF_no k (by have := HD.out; omega) hno)
          have hrd := HK.out.reads (fun j _ => outF_lt hFb.out k j)
          have HSO := Lib.hid hsol
          have HRR := Lib.hid hrd
          clear hsol hrd
          go_wp2
          go_ret2
          exact .inl ⟨_, HSO.out, _, rfl, ⟨some ⟨w2.heap.size, 0, none⟩, n, by rw [show ((List.range n).map (outF F ps n k)).length = n from by simp]; rfl, by simp, HRR.out⟩, HX2.out.trans HX.out⟩
        | succ gh =>
          have hk : k < d := by omega
          have hkI : (k : Int) < (d : Int) := by omega
          have hkm : (k : Int) < (m : Int) := by omega
          obtain ⟨bi, oi, rfl, hci⟩ := (HIR.out.ext HX.out) k (by have := HD.out; omega)
          obtain ⟨ck, hck, _, hNk⟩ := (HMT.out.ext HX.out).row k (by omega)
          have hcv := (((HMT.out.ext HX.out).has k (by omega)) n (by omega)).1
          have hplt : co ps k < n := HRD.out.lt k (by have := HD.out; omega)
          obtain ⟨p, hp⟩ : ∃ p, co ps k = p := ⟨_, rfl⟩
          rw [hp] at hci hplt
          have hpI : (p : Int) < (n : Int) := by omega
          have hnI : (n : Int) < ((n + 1 : Nat) : Int) := by omega
          have hnI2 : (n : Int) < (n : Int) + 1 := by omega
          have hc2 := HK.out.cell p hplt
          have hfz := HK.out.frozen p
          have hst := HK.out.store p (F k n)
          have HST := Lib.hid (show Blk (wr.setCell ⟨w2.heap.size, p, none⟩ (.int .u8 ((F k n : Nat) : Int))) w2.heap.size n (outF F ps n (k + 1)) from by rw [outF, hp]; exact hst)
          have HEX := Lib.hid (HX.out.setCell (p := ⟨w2.heap.size, p, none⟩) (Nat.le_refl _) (.int .u8 ((F k n : Nat) : Int)))
          clear hst hp
          go_wp2
          go_roundg gh
          case measure => omega
          case rel => exact ⟨k + 1, by omega, by go_num, HST.out, HEX.out⟩
    | succ gh =>
      have hi : i < L := by omega
      have hiI : (i : Int) < (L : Int) := by omega
      have hXX := HLX.out (by omega)
      subst hXX
      obtain ⟨ck, hck, _, hNk⟩ := HMT.out.row (d + i) (by omega)
      have hcv := ((HMT.out.has (d + i) (by omega)) n (by omega)).1
      have hnI : (n : Int) < ((n + 1 : Nat) : Int) := by omega
      have hnI2 : (n : Int) < (n : Int) + 1 := by omega
      by_cases h0 : F (d + i) n = 0
      · have t0 : (((F (d + i) n : Nat) : Int) != 0) = false := by simp [h0]
        have H0 := Lib.hid h0
        clear h0
        go_wp2
        go_roundg gh
        case measure => omega
        case rel => exact ⟨i + 1, by omega, by go_num, rfl, fun j h1 h2 => by
          by_cases e : j = d + i
          · rw [e]; exact H0.out
          · exact HZ.out j h1 (by omega)⟩
      · have t0 : (((F (d + i) n : Nat) : Int) != 0) = true := by simp; omega
        have HNO := Lib.hid (HRD.out.none (i := d + i) (by have := HD.out; omega) (by omega) h0)
        clear h0
        go_wp2
        go_ret2
        exact .inr ⟨HNO.out, _, rfl, sl_none _, HX2.out⟩

set_option maxHeartbeats 2000000 in
set_option maxRecDepth 100000 in
theorem s_rank (f : Nat) (rows : List (List Nat)) (A : Option Addr) (ca : Nat) (w : World) (hf : IsField w f) (ha : RRd w A rows) (hml : rows.length ≤ 4096) (hll : ∀ i, i < rows.length → (ro rows i).length ≤ 4096) (h : Rt rows) (d : Nat) (hd : Cnt (NotFree (KR (wide rows) rows)) (wide rows) d) :
    Calls Try.prog 15 #[.pointer (some ⟨f, 0, none⟩), .slice A rows.length ca] w (Tells (.tuple #[.int .i64 (d : Int), .int .i64 0]) w) := by
  have HR := Lib.hid (s_rect rows A ca w ha (by omega) (fun i hi => by have := hll i hi; omega))
  have hm := h.1
  obtain ⟨N, hn⟩ : ∃ N, wide rows = N := ⟨_, rfl⟩
  rw [hn] at hd
  have hN0 : 0 < N := by rw [← hn]; exact (h.2 0 hm).1
  have hn1 : N ≤ 4096 := by rw [← hn]; exact hll 0 hm
  have hlen : ∀ i, i < rows.length → (ro rows i).length = N := fun i hi => by rw [(h.2 i hi).2, ← hn]; rfl
  have HCO := Lib.hid (fun W (hW : Ext w W) => s_copied rows A ca N W (ha.ext hW) (by omega) hlen (by omega) (by omega))
  have HRED := Lib.hid (fun W w3 (hW : Ext w W) g cg blk h1 h2 h3 h4 => s_reduce_copies f rows A N N w W w3 hf ha hW g cg blk h1 h2 h3 h4 hm (by omega) (by omega) (by omega) (by omega))
  obtain ⟨b0, o0, B0, c0, hA0, hc0, _, _⟩ := ha 0 hm
  rw [hlen 0 hm, Nat.add_zero] at hc0
  subst hA0
  have HH := Lib.hid h
  have HDD := Lib.hid hd
  have HC0 := Lib.hid hc0
  generalize KR N rows = K at *
  generalize rows.length = m at *
  have hmI : (0 : Int) < (m : Int) := by omega
  clear hf ha hll h hlen hc0 hn hd
  go_enter Try.func15, Try.ntmps15
  go_wp2_with fail
  refine HR.out.mono ?_
  rintro e w1 (⟨_, rfl, q, rfl⟩ | ⟨hp, _⟩)
  rotate_left
  · exact absurd HH.out hp
  go_upto_region 3 with (fail)
  obtain ⟨w1, hw1⟩ : ∃ w1, w.drewN q = w1 := ⟨_, rfl⟩
  rw [hw1]
  have hc1 : w1.cell? ⟨b0, o0, none⟩ = some (.slice B0 N c0) := by rw [← hw1]; exact HC0.out
  have HX1 := Lib.hid (show Ext w w1 from hw1 ▸ (Ext.refl w).drewN q)
  clear hw1
  have hlt0 : b0 < w1.heap.size := block_lt_of_cell hc1
  go_region_with
    (first
      | (go_at_call 25; refine (HCO.out _ (HX1.out.drew)).mono ?_; rintro e w3 ⟨g, cg, blk, rfl, hcg, hm3, hx3, hg3, hb3⟩
         have z1 : w3.cell? ⟨b0, o0, none⟩ = some (.slice B0 N c0) := (hx3.below.cell (p := ⟨b0, o0, none⟩) hlt0).trans hc1
         have HRE := Lib.hid (HRED.out _ w3 HX1.out.drew g cg blk hm3 hx3 hg3 hb3)
         clear hm3 hx3 hg3 hb3)
      | (go_at_call 26; refine HRE.out.mono ?_; rintro e w2 ⟨B, cb, ps, bl, F, rfl, hcb, hir, hmat, hred, hx2⟩
         have HRD := Lib.hid hred
         have HX2 := Lib.hid hx2
         clear hmat hred hir hx2))
  all_goals
    have hps : ps.length = d := Lin.cnt_same (fun _ _ => Iff.rfl) HRD.out.cnt HDD.out
    rw [hps] at hcb ⊢
    clear hps
    go_wp2
    go_ret2
    exact ⟨rfl, HX2.out⟩

theorem solveSaid : SolveSaid where
  odd := fun f rows A c w _ hr _ hl hll ht => s_solve_odd f rows A c w hr hl hll ht
  solve := fun f rows A c w hf hr _ hl hll ht => s_solve f rows A c w hf hr hl hll ht
theorem rankSaid : RankSaid where
  odd := fun f rows A c w _ hr _ hl hll ht => s_rank_odd f rows A c w hr hl hll ht
  rank := fun f rows A c w hf hr _ hl hll ht d hd => s_rank f rows A c w hf hr hl hll ht d hd
end Go.Proofs.Ytlncelfacfflhaa
