/-
  Part 6 of the texts that the seat's proofs stand on; each part of it begins with its own sentence and conditions. Conditions: those that each theorem names.
-/
import Derived.Test.YtfhmafncpodlbaaDoorPack5
import Derived.ChangeKeysEq
import Derived.Deep.MidRow
import Derived.Laws.Cover3
import Derived.Lib.Hide
import Derived.Lib.SliceRun

/-
  What mix of layer 10 does: sixty-four rounds. Conditions: the constants lie where they were laid.
-/
namespace Go.Proofs.YtfhmafncpodlbaaDoor
open Go.RowKit
open Pol (co Sm)


/-- The complement of a word; what is chosen; what most have. -/
theorem not_sub {x : Nat} (h : x < 4294967296) : x ^^^ 4294967295 = 4294967295 - x := by
  apply Nat.eq_of_testBit_eq
  intro i
  have h1 := Nat.testBit_two_pow_sub_succ (n := 32) h i
  rw [show (2 : Nat) ^ 32 - (x + 1) = 4294967295 - x from by omega] at h1
  have h2 := Nat.testBit_two_pow_sub_one 32 i
  rw [show (2 : Nat) ^ 32 - 1 = 4294967295 from rfl] at h2
  rw [Nat.testBit_xor, h2, h1]
  by_cases hi : i < 32
  · simp [hi]
  · have : x.testBit i = false := Nat.testBit_lt_two_pow (Nat.lt_of_lt_of_le h (Nat.le_trans (by decide : 4294967296 ≤ 2 ^ 32) (Nat.pow_le_pow_right (by decide) (by omega))))
    simp [hi, this]
theorem ch_or {e f g : Nat} (h : e < 4294967296) : (e &&& f) ||| ((4294967295 - e) &&& g) = (e &&& f) ^^^ ((4294967295 - e) &&& g) := by
  rw [← not_sub h]
  apply Nat.eq_of_testBit_eq
  intro i
  have h2 := Nat.testBit_two_pow_sub_one 32 i
  rw [show (2 : Nat) ^ 32 - 1 = 4294967295 from rfl] at h2
  simp only [Nat.testBit_or, Nat.testBit_xor, Nat.testBit_and, h2]
  by_cases hi : i < 32
  · simp only [hi, decide_true]
    cases e.testBit i <;> cases f.testBit i <;> cases g.testBit i <;> rfl
  · have : e.testBit i = false := Nat.testBit_lt_two_pow (Nat.lt_of_lt_of_le h (Nat.le_trans (by decide : 4294967296 ≤ 2 ^ 32) (Nat.pow_le_pow_right (by decide) (by omega))))
    simp [hi, this]
theorem maj_or (a b c : Nat) : (a &&& b ||| a &&& c) ||| b &&& c = (a &&& b ^^^ a &&& c) ^^^ b &&& c := by
  apply Nat.eq_of_testBit_eq
  intro i
  simp only [Nat.testBit_or, Nat.testBit_xor, Nat.testBit_and]
  cases a.testBit i <;> cases b.testBit i <;> cases c.testBit i <;> rfl
theorem not_u32 {x : Nat} (h : x < 4294967296) : bits .xor .u32 IntKind.u32.max (x : Int) = ((4294967295 - x : Nat) : Int) := by
  have h1 := u32_xor_nat 4294967295 x (by decide) h
  rw [Nat.xor_comm, not_sub h] at h1
  exact h1
/-- 'a[i]' of an array by value, of elements of one cell. -/
theorem idx_arr {t e : TypeId} {n : Nat} (h : Tryd.prog.underlying t = some (.array n e)) (he : Tryd.prog.plainKey e = true) (hs : Tryd.prog.cellsOf e = 1) (hi' : ∃ q, Tryd.prog.info? e = some q)
    (V : Array Value) (i : Nat) (v : Value) (hi : i < n) (hv : V[i]? = some v) (W : World) : (Instr.index t (.agg V) (.int .i64 (i : Int))).run Tryd.prog W = .ok v W := by
  obtain ⟨q, hq⟩ := hi'
  have hn : (0 : Int) ≤ (i : Int) ∧ (i : Int) < (n : Int) := by omega
  simp only [Instr.index, asIntOf, Sem.run_bind, Sem.run_pure, Result.andThen_ok, run_underlying h, hn, and_self, if_true, run_sizeOf W hq, hs]
  rw [show (i : Int).toNat * 1 = i from by omega]
  exact run_part_plain W he hv

/-- Where mix's rounds stand. -/
structure MixW (WL : List Nat) (g : Nat) (w W : World) : Prop where
  x : Ext w W
  c : ∀ i, i < 64 → W.cell? ⟨g + 1, i, none⟩ = some (.int .u32 ((co WL i : Nat) : Int))
  r : W.heap[g + 1 + 1]? = some (.cells (dt 8 fun _ => 0) 39 (0, 0))
theorem MixW.start {V0 V1 : Array Value} {WL : List Nat} (w : World) (h1 : ∀ i, i < 64 → V1[i]? = some (.int .u32 ((co WL i : Nat) : Int))) (T U : TypeId) (q : Nat) :
    MixW WL w.heap.size w ((((w.alloc (.cells V0 T)).alloc (.cells V1 U)).alloc (.cells (dt 8 fun _ => 0) 39)).drewN q) := by
  refine ⟨((((Ext.refl w).alloc _).alloc _).alloc _).drewN q, fun i hi => ?_, ?_⟩
  · show (((w.alloc (.cells V0 T)).alloc (.cells V1 U)).alloc _).cell? _ = _
    have e : w.heap.size + 1 = (w.alloc (.cells V0 T)).heap.size := by simp
    rw [World.cell?_alloc_lt _ _ _ (by simp), e, cell_of_row _ _ _ _ _ _ (heap_alloc_new (w.alloc (.cells V0 T)) _)]
    exact h1 i hi
  · have e : w.heap.size + 1 + 1 = ((w.alloc (.cells V0 T)).alloc (.cells V1 U)).heap.size := by simp
    rw [e]
    exact heap_alloc_new _ _
theorem MixW.drewN {WL : List Nat} {g : Nat} {w W : World} (h : MixW WL g w W) (q : Nat) : MixW WL g w (W.drewN q) := ⟨h.x.drewN q, h.c, h.r⟩
theorem rnd_at (k w : Nat) (S : List Nat) : co (rnd k w S) 0 = (one k w S + two S) % 4294967296 ∧ co (rnd k w S) 1 = co S 0 ∧ co (rnd k w S) 2 = co S 1 ∧ co (rnd k w S) 3 = co S 2 ∧ co (rnd k w S) 4 = (co S 3 + one k w S) % 4294967296 ∧ co (rnd k w S) 5 = co S 4 ∧ co (rnd k w S) 6 = co S 5 ∧ co (rnd k w S) 7 = co S 6 := ⟨rfl, rfl, rfl, rfl, rfl, rfl, rfl, rfl⟩

set_option maxHeartbeats 3200000 in
set_option maxRecDepth 100000 in
theorem sh_mix (S WL : List Nat) (w : World) (hgl : GL w) (hS : W32 S) (hW : W32 WL) :
    Calls Tryd.prog 29 #[.agg (dt 8 (co S)), .agg (dt 64 (co WL))] w (Tells (.agg (dt 8 (co (rds KK WL S 64)))) w) := by
  obtain ⟨V0, hV0⟩ : ∃ V, dt 8 (co S) = V := ⟨_, rfl⟩
  obtain ⟨V1, hV1⟩ : ∃ V, dt 64 (co WL) = V := ⟨_, rfl⟩
  have hc := fun i (hi : i < 8) => dt_at 8 (co S) i hi
  have hc1 := fun i (hi : i < 64) => dt_at 64 (co WL) i hi
  rw [hV0] at hc ⊢
  rw [hV1] at hc1 ⊢
  have h0 := hc 0 (by decide)
  have h1 := hc 1 (by decide)
  have h2 := hc 2 (by decide)
  have h3 := hc 3 (by decide)
  have h4 := hc 4 (by decide)
  have h5 := hc 5 (by decide)
  have h6 := hc 6 (by decide)
  have h7 := hc 7 (by decide)
  have HS := Lib.hid (fun (T U : TypeId) (q : Nat) => MixW.start (V0 := V0) w hc1 T U q)
  have HK := Lib.hid (show ∀ W, Ext w W → ∃ T, W.heap[1]? = some (.cells (dt 64 (co KK)) T (0, 0)) from fun W hW => (hgl.ext hW).2)
  have HRD := Lib.hid (fun i => rds_w32 KK WL S hS i)
  have HW := Lib.hid hW
  have HWK := Lib.hid KK_w32
  have HST := Lib.hid (fun i => show rds KK WL S (i + 1) = rnd (co KK i) (co WL i) (rds KK WL S i) from rfl)
  have hz : dt 8 (fun _ => 0) = #[.int .u32 0, .int .u32 0, .int .u32 0, .int .u32 0, .int .u32 0, .int .u32 0, .int .u32 0, .int .u32 0] := rfl
  rw [hz] at HS
  have HRT := Lib.hid (fun x r W h1 h2 h3 => sh_right x r W h1 h2 h3)
  have HZ8 := Lib.hid (show rds KK WL S 0 = S from rfl)
  clear hc hc1 hgl hS hW hV0 hV1
  go_enter Tryd.func29, Tryd.ntmps29
  go_wp2
  go_quiet (fail)
  generalize nq = q0
  go_wp2
  go_quiet (fail)
  have hm := HS.out 39 53 (q0 + nq)
  rw [World.drewN_drewN]
  obtain ⟨g, hg⟩ : ∃ g, w.heap.size = g := ⟨_, rfl⟩
  rw [hg] at hm ⊢
  generalize (((w.alloc (Obj.cells V0 39)).alloc (Obj.cells V1 53)).alloc (Obj.cells #[.int .u32 0, .int .u32 0, .int .u32 0, .int .u32 0, .int .u32 0, .int .u32 0, .int .u32 0, .int .u32 0] 39)).drewN (q0 + nq) = W3 at hm ⊢
  have HM := Lib.hid hm
  obtain ⟨TK, hgk⟩ := HK.out _ hm.x
  have HGK := Lib.hid hgk
  have HIK := Lib.hid (show (Tryd.prog.info? 53).map (·.size) = some (dt 64 (co KK)).size from by rw [dt_size]; kernel_rfl)
  have HIX := Lib.hid (fun (i : Nat) (hi : i < 64) => show ∀ W, (Instr.index 53 (.agg (dt 64 (co KK))) (.int .i64 (i : Int))).run Tryd.prog W = .ok (.int .u32 ((co KK i : Nat) : Int)) W from fun W => idx_arr Tryd.underlying53 (by kernel_rfl) (by kernel_rfl) ⟨_, rfl⟩ _ i _ hi (dt_at 64 _ i hi) W)
  have HG := Lib.hid hg
  clear hm hgk h0 h1 h2 h3 h4 h5 h6 h7 hz hg
  generalize hVK : dt 64 (co KK) = VK at HGK HIK HIX
  clear hVK HS HK
  go_wp2_with (with_reducible refine wpList_load_row rfl 53 (.global 1) rfl 1 rfl TK VK (0, 0) _ HGK.out Tryd.underlying53 rfl HIK.out ?_)
  go_loopg [5, 6, 7, 8, 9, 10, 11, 12, 36] 64 (fun gk s5 s6 s7 s8 s9 s10 s11 s12 s36 wx => ∃ i q : Nat, i + gk = 64 ∧ s36 = .int .i64 (i : Int) ∧ s5 = .int .u32 ((co (rds KK WL S i) 0 : Nat) : Int) ∧ s6 = .int .u32 ((co (rds KK WL S i) 1 : Nat) : Int) ∧ s7 = .int .u32 ((co (rds KK WL S i) 2 : Nat) : Int) ∧ s8 = .int .u32 ((co (rds KK WL S i) 3 : Nat) : Int) ∧ s9 = .int .u32 ((co (rds KK WL S i) 4 : Nat) : Int) ∧ s10 = .int .u32 ((co (rds KK WL S i) 5 : Nat) : Int) ∧ s11 = .int .u32 ((co (rds KK WL S i) 6 : Nat) : Int) ∧ s12 = .int .u32 ((co (rds KK WL S i) 7 : Nat) : Int) ∧ wx = W3.drewN q)
  case atStart => exact ⟨0, 0, by omega, rfl, by rw [HZ8.out], by rw [HZ8.out], by rw [HZ8.out], by rw [HZ8.out], by rw [HZ8.out], by rw [HZ8.out], by rw [HZ8.out], by rw [HZ8.out], rfl⟩
  case round =>
    obtain ⟨i, q, hig, rfl, rfl, rfl, rfl, rfl, rfl, rfl, rfl, rfl, rfl⟩ := hrel
    cases gk with
    | zero =>
      obtain rfl : i = 64 := by omega
      clear hig HIX HIK HGK HRT HST HWK HW HRD
      have HMQ := Lib.hid (HM.out.drewN q)
      have HR0 := Lib.hid HMQ.out.r
      generalize W3.drewN q = W4 at HMQ HR0 ⊢
      obtain ⟨R, hR⟩ : ∃ R, rds KK WL S 64 = R := ⟨_, rfl⟩
      have HIN := Lib.hid (show (Tryd.prog.info? 39).map (·.size) = some (dt 8 (co R)).size from by rw [dt_size]; kernel_rfl)
      have HSZ := Lib.hid (show (dt 8 fun _ => 0).size = (dt 8 (co R)).size from by rw [dt_size, dt_size])
      have HON := Lib.hid (dt_one 8 (co R))
      have HG3 := Lib.hid (setRow_heap W4 (g + 1 + 1) _ (dt 8 (co R)) _ _ HR0.out)
      have HX3 := Lib.hid (HMQ.out.x.setRow (g := g + 1 + 1) (by rw [HG.out]; omega) (dt 8 (co R)))
      have HE := Lib.hid (show Value.agg (dt 8 (co R)) = .agg #[.int .u32 ((co R 0 : Nat) : Int), .int .u32 ((co R 1 : Nat) : Int), .int .u32 ((co R 2 : Nat) : Int), .int .u32 ((co R 3 : Nat) : Int), .int .u32 ((co R 4 : Nat) : Int), .int .u32 ((co R 5 : Nat) : Int), .int .u32 ((co R 6 : Nat) : Int), .int .u32 ((co R 7 : Nat) : Int)] from rfl)
      have HVE := Lib.hid (show Value.agg (dt 8 (co R)) = Value.agg (dt 8 (co (rds KK WL S 64))) from by rw [hR])
      rw [hR]
      generalize dt 8 (co R) = V at HIN HSZ HON HG3 HX3 HE HVE
      generalize hZ : dt 8 (fun _ => 0) = Z at HR0 HSZ
      clear hZ hR HM HZ8
      go_wp2_with (refine wpList_store_all rfl 39 (.tmp 4) (.tmp 108) rfl (g + 1 + 1) Z V rfl HE.out.symm HR0.out HIN.out HSZ.out HON.out ?_)
      exact ⟨rfl, .agg V, results_cell_row Tryd.results29 _ _ (g + 1 + 1) 39 V (0, 0) _ rfl HG3.out Tryd.underlying39 rfl HIN.out, by rw [HVE.out], HX3.out⟩
    | succ gk =>
      have hi : i < 64 := by omega
      have hiI : (i : Int) < 64 := by omega
      have HR := Lib.hid (HRD.out i)
      have HN := Lib.hid (HST.out i)
      have hix := HIX.out i hi
      have hcw := (HM.out.drewN q).c i hi
      obtain ⟨T, hT⟩ : ∃ T, rds KK WL S i = T := ⟨_, rfl⟩
      have hwb := HW.out.at i
      have hkb := HWK.out.at i
      rw [hT] at HR HN ⊢
      clear hT
      obtain ⟨kk, hkk⟩ : ∃ x, co KK i = x := ⟨_, rfl⟩
      obtain ⟨ww, hww⟩ : ∃ x, co WL i = x := ⟨_, rfl⟩
      rw [hkk] at hix hkb HN
      rw [hww] at hcw hwb HN
      obtain ⟨na, hna⟩ : ∃ x, (one kk ww T + two T) % 4294967296 = x := ⟨_, rfl⟩
      obtain ⟨ne, hne⟩ : ∃ x, (co T 3 + one kk ww T) % 4294967296 = x := ⟨_, rfl⟩
      have hrn := rnd_at kk ww T
      rw [hna, hne, ← HN.out] at hrn
      unfold one two at hna
      unfold one at hne
      have ba := HR.out.at 0
      have bb := HR.out.at 1
      have bc := HR.out.at 2
      have bd := HR.out.at 3
      have be := HR.out.at 4
      have bf := HR.out.at 5
      have bg := HR.out.at 6
      have bh := HR.out.at 7
      have HRN := Lib.hid hrn
      clear hrn
      generalize co T 0 = a at *
      generalize co T 1 = b at *
      generalize co T 2 = c at *
      generalize co T 3 = d at *
      generalize co T 4 = e at *
      generalize co T 5 = f at *
      generalize co T 6 = gg at *
      generalize co T 7 = h at *
      obtain ⟨n1, hn1⟩ : ∃ x, 4294967295 - e = x := ⟨_, rfl⟩
      have bn1 : n1 < 4294967296 := by omega
      have en : bits .xor .u32 IntKind.u32.max (e : Int) = (n1 : Int) := by rw [not_u32 be, hn1]
      obtain ⟨x1, hx1⟩ : ∃ x, e &&& f = x := ⟨_, rfl⟩
      obtain ⟨x2, hx2⟩ : ∃ x, n1 &&& gg = x := ⟨_, rfl⟩
      obtain ⟨ch, hch⟩ : ∃ x, x1 ||| x2 = x := ⟨_, rfl⟩
      have bx1 : x1 < 4294967296 := by rw [← hx1]; exact Nat.lt_of_le_of_lt Nat.and_le_left be
      have bx2 : x2 < 4294967296 := by rw [← hx2]; exact Nat.lt_of_le_of_lt Nat.and_le_left bn1
      have bch : ch < 4294967296 := by rw [← hch]; exact Nat.or_lt_two_pow (n := 32) bx1 bx2
      have e1 : bits .and .u32 (e : Int) (f : Int) = (x1 : Int) := by rw [u32_and_nat e f be bf, hx1]
      have e2 : bits .and .u32 (n1 : Int) (gg : Int) = (x2 : Int) := by rw [u32_and_nat n1 gg bn1 bg, hx2]
      have e3 : bits .or .u32 (x1 : Int) (x2 : Int) = (ch : Int) := by rw [u32_or_nat x1 x2 bx1 bx2, hch]
      have hcx : x1 ^^^ x2 = ch := by rw [← hch, ← hx1, ← hx2, ← hn1]; exact (ch_or be).symm
      obtain ⟨y1, hy1⟩ : ∃ x, a &&& b = x := ⟨_, rfl⟩
      obtain ⟨y2, hy2⟩ : ∃ x, a &&& c = x := ⟨_, rfl⟩
      obtain ⟨y3, hy3⟩ : ∃ x, y1 ||| y2 = x := ⟨_, rfl⟩
      obtain ⟨y4, hy4⟩ : ∃ x, b &&& c = x := ⟨_, rfl⟩
      obtain ⟨mj, hmj⟩ : ∃ x, y3 ||| y4 = x := ⟨_, rfl⟩
      have by1 : y1 < 4294967296 := by rw [← hy1]; exact Nat.lt_of_le_of_lt Nat.and_le_left ba
      have by2 : y2 < 4294967296 := by rw [← hy2]; exact Nat.lt_of_le_of_lt Nat.and_le_left ba
      have by3 : y3 < 4294967296 := by rw [← hy3]; exact Nat.or_lt_two_pow (n := 32) by1 by2
      have by4 : y4 < 4294967296 := by rw [← hy4]; exact Nat.lt_of_le_of_lt Nat.and_le_left bb
      have bmj : mj < 4294967296 := by rw [← hmj]; exact Nat.or_lt_two_pow (n := 32) by3 by4
      have f1 : bits .and .u32 (a : Int) (b : Int) = (y1 : Int) := by rw [u32_and_nat a b ba bb, hy1]
      have f2 : bits .and .u32 (a : Int) (c : Int) = (y2 : Int) := by rw [u32_and_nat a c ba bc, hy2]
      have f3 : bits .or .u32 (y1 : Int) (y2 : Int) = (y3 : Int) := by rw [u32_or_nat y1 y2 by1 by2, hy3]
      have f4 : bits .and .u32 (b : Int) (c : Int) = (y4 : Int) := by rw [u32_and_nat b c bb bc, hy4]
      have f5 : bits .or .u32 (y3 : Int) (y4 : Int) = (mj : Int) := by rw [u32_or_nat y3 y4 by3 by4, hmj]
      have hmx : y1 ^^^ y2 ^^^ y4 = mj := by rw [← hmj, ← hy3, ← hy1, ← hy2, ← hy4]; exact (maj_or a b c).symm
      rw [hn1, hx1, hx2, hcx] at hna hne
      rw [hy1, hy2, hy4, hmx] at hna
      clear hn1 hx1 hx2 hch hy1 hy2 hy3 hy4 hmj hcx hmx
      have b6 := tw_lt (n := 6) be
      have b11 := tw_lt (n := 11) be
      have b25 := tw_lt (n := 25) be
      have b2 := tw_lt (n := 2) ba
      have b13 := tw_lt (n := 13) ba
      have b22 := tw_lt (n := 22) ba
      have HT6 := Lib.hid (fun W => show Calls Tryd.prog 36 #[.int .u32 (e : Int), .int .i64 6] W (fun e' w' => e' = .returned (.int .u32 ((tw e 6 : Nat) : Int)) ∧ W = w') from HRT.out e 6 W be (by decide) (by decide))
      have HT11 := Lib.hid (fun W => show Calls Tryd.prog 36 #[.int .u32 (e : Int), .int .i64 11] W (fun e' w' => e' = .returned (.int .u32 ((tw e 11 : Nat) : Int)) ∧ W = w') from HRT.out e 11 W be (by decide) (by decide))
      have HT25 := Lib.hid (fun W => show Calls Tryd.prog 36 #[.int .u32 (e : Int), .int .i64 25] W (fun e' w' => e' = .returned (.int .u32 ((tw e 25 : Nat) : Int)) ∧ W = w') from HRT.out e 25 W be (by decide) (by decide))
      have HT2 := Lib.hid (fun W => show Calls Tryd.prog 36 #[.int .u32 (a : Int), .int .i64 2] W (fun e' w' => e' = .returned (.int .u32 ((tw a 2 : Nat) : Int)) ∧ W = w') from HRT.out a 2 W ba (by decide) (by decide))
      have HT13 := Lib.hid (fun W => show Calls Tryd.prog 36 #[.int .u32 (a : Int), .int .i64 13] W (fun e' w' => e' = .returned (.int .u32 ((tw a 13 : Nat) : Int)) ∧ W = w') from HRT.out a 13 W ba (by decide) (by decide))
      have HT22 := Lib.hid (fun W => show Calls Tryd.prog 36 #[.int .u32 (a : Int), .int .i64 22] W (fun e' w' => e' = .returned (.int .u32 ((tw a 22 : Nat) : Int)) ∧ W = w') from HRT.out a 22 W ba (by decide) (by decide))
      generalize tw e 6 = r6 at *
      generalize tw e 11 = r11 at *
      generalize tw e 25 = r25 at *
      generalize tw a 2 = r2 at *
      generalize tw a 13 = r13 at *
      generalize tw a 22 = r22 at *
      obtain ⟨t1, ht1⟩ : ∃ x, r6 ^^^ r11 = x := ⟨_, rfl⟩
      obtain ⟨t2, ht2⟩ : ∃ x, t1 ^^^ r25 = x := ⟨_, rfl⟩
      obtain ⟨v1, hv1⟩ : ∃ x, r2 ^^^ r13 = x := ⟨_, rfl⟩
      obtain ⟨v2, hv2⟩ : ∃ x, v1 ^^^ r22 = x := ⟨_, rfl⟩
      have bt1 : t1 < 4294967296 := by rw [← ht1]; exact Nat.xor_lt_two_pow (n := 32) b6 b11
      have bt2 : t2 < 4294967296 := by rw [← ht2]; exact Nat.xor_lt_two_pow (n := 32) bt1 b25
      have bv1 : v1 < 4294967296 := by rw [← hv1]; exact Nat.xor_lt_two_pow (n := 32) b2 b13
      have bv2 : v2 < 4294967296 := by rw [← hv2]; exact Nat.xor_lt_two_pow (n := 32) bv1 b22
      have g1 : bits .xor .u32 (r6 : Int) (r11 : Int) = (t1 : Int) := by rw [u32_xor_nat r6 r11 b6 b11, ht1]
      have g2 : bits .xor .u32 (t1 : Int) (r25 : Int) = (t2 : Int) := by rw [u32_xor_nat t1 r25 bt1 b25, ht2]
      have g3 : bits .xor .u32 (r2 : Int) (r13 : Int) = (v1 : Int) := by rw [u32_xor_nat r2 r13 b2 b13, hv1]
      have g4 : bits .xor .u32 (v1 : Int) (r22 : Int) = (v2 : Int) := by rw [u32_xor_nat v1 r22 bv1 b22, hv2]
      rw [ht1, ht2] at hna hne
      rw [hv1, hv2] at hna
      clear ht1 ht2 hv1 hv2
      obtain ⟨u1, hu1⟩ : ∃ x, (h + t2) % 4294967296 = x := ⟨_, rfl⟩
      obtain ⟨u2, hu2⟩ : ∃ x, (u1 + ch) % 4294967296 = x := ⟨_, rfl⟩
      obtain ⟨u3, hu3⟩ : ∃ x, (u2 + kk) % 4294967296 = x := ⟨_, rfl⟩
      obtain ⟨u4, hu4⟩ : ∃ x, (u3 + ww) % 4294967296 = x := ⟨_, rfl⟩
      obtain ⟨u5, hu5⟩ : ∃ x, (v2 + mj) % 4294967296 = x := ⟨_, rfl⟩
      have w1 : IntKind.u32.wrap ((h : Int) + (t2 : Int)) = (u1 : Int) := by rw [IntKind.wrap_u32]; omega
      have w2 : IntKind.u32.wrap ((u1 : Int) + (ch : Int)) = (u2 : Int) := by rw [IntKind.wrap_u32]; omega
      have w3 : IntKind.u32.wrap ((u2 : Int) + (kk : Int)) = (u3 : Int) := by rw [IntKind.wrap_u32]; omega
      have w4 : IntKind.u32.wrap ((u3 : Int) + (ww : Int)) = (u4 : Int) := by rw [IntKind.wrap_u32]; omega
      have w5 : IntKind.u32.wrap ((v2 : Int) + (mj : Int)) = (u5 : Int) := by rw [IntKind.wrap_u32]; omega
      have eo : (h + t2 + ch + kk + ww) % 4294967296 = u4 := by omega
      rw [eo, hu5] at hna
      rw [eo] at hne
      have w6 : IntKind.u32.wrap ((u4 : Int) + (u5 : Int)) = (na : Int) := by rw [IntKind.wrap_u32]; omega
      have w7 : IntKind.u32.wrap ((d : Int) + (u4 : Int)) = (ne : Int) := by rw [IntKind.wrap_u32]; omega
      have bu1 : u1 < 4294967296 := by omega
      have bu2 : u2 < 4294967296 := by omega
      have bu3 : u3 < 4294967296 := by omega
      have bu4 : u4 < 4294967296 := by omega
      have bu5 : u5 < 4294967296 := by omega
      have HIG := Lib.hid hig
      clear hna hne hu1 hu2 hu3 hu4 hu5 eo hig hkk hww
      generalize hWQ : W3.drewN q = Wq at hcw ⊢
      have HWQ := Lib.hid hWQ
      clear hWQ
      go_wp2
      go_quiet (first | (go_at_call 36; with_reducible exact quiet_same (HT6.out _)) | (go_at_call 36; with_reducible exact quiet_same (HT11.out _)) | (go_at_call 36; with_reducible exact quiet_same (HT25.out _)))
      go_wp2_with fail
      refine (HT2.out _).mono ?_
      rintro e' w' ⟨rfl, rfl⟩
      go_wp2_with fail
      refine (HT13.out _).mono ?_
      rintro e' w' ⟨rfl, rfl⟩
      go_wp2_with fail
      refine (HT22.out _).mono ?_
      rintro e' w' ⟨rfl, rfl⟩
      go_wp2
      go_roundg gk
      case measure => omega
      case rel => exact ⟨i + 1, q + nq, by have := HIG.out; omega, by go_num, by rw [HRN.out.1], by rw [HRN.out.2.1], by rw [HRN.out.2.2.1], by rw [HRN.out.2.2.2.1], by rw [HRN.out.2.2.2.2.1], by rw [HRN.out.2.2.2.2.2.1], by rw [HRN.out.2.2.2.2.2.2.1], by rw [HRN.out.2.2.2.2.2.2.2], by rw [← HWQ.out, World.drewN_drewN]⟩
end Go.Proofs.YtfhmafncpodlbaaDoor

/-
  What schedule of layer 10 does: a block's sixty-four words. Conditions: none.
-/
namespace Go.Proofs.YtfhmafncpodlbaaDoor
open Go.RowKit
open Pol (co Sm)

/-- The first m bytes of a word. -/
def pw (B : Nat → Nat) (j : Nat) : Nat → Nat
  | 0 => 0
  | m + 1 => pw B j m * 256 + B (4 * j + m)
theorem pw_lt {B : Nat → Nat} (hB : ∀ i, B i < 256) (j : Nat) : ∀ m, pw B j m < 256 ^ m
  | 0 => Nat.one_pos
  | m + 1 => by
    have := pw_lt hB j m
    have := hB (4 * j + m)
    rw [pw, Nat.pow_succ]
    omega
/-- The words, when k bytes are in. -/
def pws (B : Nat → Nat) (k j : Nat) : Nat := pw B j (min 4 (k - 4 * j))
theorem pws_zero (B : Nat → Nat) (j : Nat) : pws B 0 j = 0 := by unfold pws; rw [show min 4 (0 - 4 * j) = 0 by omega]; rfl
theorem pws_step (B : Nat → Nat) (k q j : Nat) (hq : k / 4 = q) : upd (pws B k) q (pws B k q * 256 + B k) j = pws B (k + 1) j := by
  unfold upd
  by_cases e : j = q
  · subst e
    rw [if_pos rfl]
    unfold pws
    rw [show min 4 (k - 4 * j) = k - 4 * j by omega, show min 4 (k + 1 - 4 * j) = k - 4 * j + 1 by omega, pw, show 4 * j + (k - 4 * j) = k by omega]
  · rw [if_neg e]
    unfold pws
    by_cases h : j < q
    · rw [show min 4 (k - 4 * j) = 4 by omega, show min 4 (k + 1 - 4 * j) = 4 by omega]
    · rw [show min 4 (k - 4 * j) = 0 by omega, show min 4 (k + 1 - 4 * j) = 0 by omega]
theorem pws_lt {B : Nat → Nat} (hB : ∀ i, B i < 256) (k q : Nat) (hq : k / 4 = q) : pws B k q < 16777216 := by
  unfold pws
  have h := pw_lt hB q (min 4 (k - 4 * q))
  exact Nat.lt_of_lt_of_le h (Nat.le_trans (Nat.pow_le_pow_right (by decide) (show min 4 (k - 4 * q) ≤ 3 by omega)) (by decide))
def wof (B : Nat → Nat) (j : Nat) : Nat := B (4 * j) * 16777216 + B (4 * j + 1) * 65536 + B (4 * j + 2) * 256 + B (4 * j + 3)
theorem pw_four (B : Nat → Nat) (j : Nat) : pw B j 4 = wof B j := by
  simp only [pw, wof, Nat.zero_mul, Nat.zero_add, Nat.add_zero]
  omega
theorem wof_lt {B : Nat → Nat} (hB : ∀ i, B i < 256) (j : Nat) : wof B j < 4294967296 := by
  have h0 := hB (4 * j)
  have h1 := hB (4 * j + 1)
  have h2 := hB (4 * j + 2)
  have h3 := hB (4 * j + 3)
  unfold wof
  omega
theorem or_byte (x y : Nat) (hy : y < 256) : x * 256 ||| y = x * 256 + y := by
  have h := Nat.two_pow_add_eq_or_of_lt (i := 8) (b := y) hy x
  rw [Nat.mul_comm x, ← show (2 : Nat) ^ 8 = 256 from rfl, ← h]
theorem wl_end (F : Nat → Nat) (j x : Nat) : co (wl F j ++ [x]) j = x := by unfold co; rw [List.getElem?_append_right (by rw [wl_len]; exact Nat.le_refl _), wl_len, Nat.sub_self]; rfl
theorem wl_in (F : Nat → Nat) (j x i : Nat) (h : i < j) : co (wl F j ++ [x]) i = co (wl F j) i := by unfold co; rw [List.getElem?_append_left (by rw [wl_len]; exact h)]
/-- The words grow at their end alone. -/
theorem wl_pre (F : Nat → Nat) (j : Nat) : ∀ m, j < m → co (wl F m) j = co (wl F (j + 1)) j
  | 0, h => by omega
  | m + 1, h => by
    by_cases e : j = m
    · rw [e]
    · rw [wl, wl_in F m _ j (by omega)]
      exact wl_pre F j m (by omega)
theorem wl_at (F : Nat → Nat) (j m : Nat) (h : j < m) (hm : m ≤ 64) : co (wl F m) j = co (wl F 64) j := by rw [wl_pre F j m h, wl_pre F j 64 (by omega)]
theorem wl_low (F : Nat → Nat) (j : Nat) (h : j < 16) : co (wl F 64) j = F j := by
  rw [wl_pre F j 64 (by omega), wl, wl_end, if_pos h]
theorem wl_high (F : Nat → Nat) (j : Nat) (h : 16 ≤ j) (h64 : j < 64) : co (wl F 64) j = (co (wl F 64) (j - 16) + co (wl F 64) (j - 7) + sg0 (co (wl F 64) (j - 15)) + sg1 (co (wl F 64) (j - 2))) % 4294967296 := by
  rw [wl_pre F j 64 (by omega), wl, wl_end, if_neg (by omega)]
  show wnx (wl F j) j = _
  unfold wnx
  rw [wl_at F (j - 16) j (by omega) (by omega), wl_at F (j - 7) j (by omega) (by omega), wl_at F (j - 15) j (by omega) (by omega), wl_at F (j - 2) j (by omega) (by omega)]
theorem zero_words : (∀ w, (zeroValue 53).run Tryd.prog w = .ok (.agg (dt 64 fun _ => 0)) w) ∧ (Tryd.prog.info? 53).map (·.size) = some 64 := by
  rw [dt_zero]
  exact zero_of_info (by kernel_rfl)
theorem store_dt {n : Nat} {T : TypeId} (w : World) (g : Nat) (f f' : Nat → Nat) (hg : WBlk T n w g f) : (storeCells ⟨g, 0, none⟩ (dt n f').toList).run Tryd.prog w = .ok () (w.setRow g (dt n f')) := by
  have h := run_storeCells_from (P := Tryd.prog) g T (dt n f').toList 0 (dt n f) w hg (by simp [dt_size]) (fun v hv => (Array.all_eq_true_iff_forall_mem.1 (dt_one n f')) v (by simpa using hv))
  simpa using h

/-- Where schedule's loops stand: the block's bytes behind g, the result, the words. -/
structure SchW (B f : Nat → Nat) (g : Nat) (w W : World) : Prop where
  x : Ext w W
  b : W.heap[g]? = some (.cells (bt 64 B) 55 (0, 0))
  r : WBlk 53 64 W (g + 1) (fun _ => 0)
  ws : WBlk 53 64 W (g + 1 + 1) f
theorem SchW.start (B : Nat → Nat) (w : World) : SchW B (fun _ => 0) w.heap.size w (((w.alloc (.cells (bt 64 B) 55)).alloc (.cells (dt 64 fun _ => 0) 53)).alloc (.cells (dt 64 fun _ => 0) 53)) := by
  have e1 : w.heap.size + 1 = (w.alloc (.cells (bt 64 B) 55)).heap.size := by simp
  have e2 : w.heap.size + 1 + 1 = ((w.alloc (.cells (bt 64 B) 55)).alloc (.cells (dt 64 fun _ => 0) 53)).heap.size := by simp
  refine ⟨(((Ext.refl w).alloc _).alloc _).alloc _, ?_, ?_, ?_⟩
  · rw [heap_alloc_old _ _ (by simp; omega), heap_alloc_old _ _ (by simp)]
    exact heap_alloc_new w _
  · unfold WBlk
    rw [heap_alloc_old _ _ (by rw [e1]; simp), e1]
    exact heap_alloc_new _ _
  · rw [e2]
    exact WBlk.new _ _
theorem SchW.store {B f : Nat → Nat} {g : Nat} {w W : World} (h : SchW B f g w W) (hg : w.heap.size = g) (j v : Nat) : SchW B (upd f j v) g w (W.setCell ⟨g + 1 + 1, j, none⟩ (.int .u32 (v : Int))) :=
  ⟨h.x.setCell (by rw [hg]; show g ≤ g + 1 + 1; omega) _, (heap_setCell_other W ⟨g + 1 + 1, j, none⟩ g _ (by simp; omega)).trans h.b, (heap_setCell_other W ⟨g + 1 + 1, j, none⟩ (g + 1) _ (by simp)).trans h.r, h.ws.store j v⟩
theorem SchW.congr {B f f' : Nat → Nat} {g : Nat} {w W : World} (h : SchW B f g w W) (hf : ∀ i, i < 64 → f i = f' i) : SchW B f' g w W := ⟨h.x, h.b, h.r, h.ws.congr hf⟩
theorem SchW.drewN {B f : Nat → Nat} {g : Nat} {w W : World} (h : SchW B f g w W) (q : Nat) : SchW B f g w (W.drewN q) := ⟨h.x.drewN q, h.b, h.r, h.ws⟩
theorem info_words (f : Nat → Nat) : (Tryd.prog.info? 53).map (·.size) = some (dt 64 f).size := by rw [dt_size]; exact zero_words.2
theorem info_block (f : Nat → Nat) : (Tryd.prog.info? 55).map (·.size) = some (bt 64 f).size := by rw [bt_size]; kernel_rfl

set_option maxHeartbeats 3200000 in
set_option maxRecDepth 100000 in
theorem sh_schedule (B : Nat → Nat) (w : World) (hB : ∀ i, B i < 256) :
    Calls Tryd.prog 30 #[.agg (bt 64 B)] w (Tells (.agg (dt 64 (co (wl (wof B) 64)))) w) := by
  obtain ⟨g, hg⟩ : ∃ g, w.heap.size = g := ⟨_, rfl⟩
  have HG := Lib.hid hg
  have hst := SchW.start B w
  have HB := Lib.hid hB
  have HIX := Lib.hid (fun (i : Nat) (hi : i < 64) => show ∀ W, (Instr.index 55 (.agg (bt 64 B)) (.int .i64 (i : Int))).run Tryd.prog W = .ok (.int .u8 ((B i : Nat) : Int)) W from fun W => idx_arr Tryd.underlying55 (by kernel_rfl) (by kernel_rfl) ⟨_, rfl⟩ _ i _ hi (bt_at 64 B i hi) W)
  have HIB := Lib.hid (info_block B)
  have hz := zero_words.1
  have hzs : (dt 64 fun _ => 0).size = 64 := dt_size _ _
  have hzo := dt_one 64 (fun _ => 0)
  have hs2 := store_dt (n := 64) (T := 53) _ _ _ (fun _ => 0) hst.ws
  rw [setRow_same _ _ _ _ hst.ws] at hs2
  have HBB := Lib.hid hst.b
  rw [hg] at HBB hst
  have HST := Lib.hid hst
  clear hst hB
  generalize hVB : bt 64 B = VB at *
  generalize hZ : (dt 64 fun _ => 0) = Z at *
  clear hVB hg
  go_enter Tryd.func30, Tryd.ntmps30
  go_wp2_with (with_reducible refine wpList_load_row rfl 55 (.tmp 1) rfl w.heap.size rfl 55 VB (0, 0) _ (by rw [HG.out]; exact HBB.out) Tryd.underlying55 rfl HIB.out ?_)
  rw [HG.out]
  rw [HG.out] at hs2
  generalize ((w.alloc (Obj.cells VB 55)).alloc (Obj.cells Z 53)).alloc (Obj.cells Z 53) = W3 at HST
  have HIZ := Lib.hid (show Z.size = 64 from hzs)
  have HZ := Lib.hid hZ
  clear hz hzs hzo hs2 hZ
  go_loopg [11] 64 (fun gk s11 wx => ∃ k : Nat, k + gk = 64 ∧ s11 = .int .i64 (k : Int) ∧ SchW B (pws B k) g w wx)
  case atStart => exact ⟨0, by omega, rfl, HST.out.congr (fun j _ => (pws_zero B j).symm)⟩
  case round =>
    obtain ⟨k, hkg, rfl, hw⟩ := hrel
    have HW := Lib.hid hw
    have HKG := Lib.hid hkg
    clear hw
    cases gk with
    | zero =>
      obtain rfl : k = 64 := by omega
      have HF := Lib.hid (HW.out.congr (f' := fun j => if j < 16 then co (wl (wof B) 64) j else 0) (fun j hj => by
        unfold pws
        by_cases h : j < 16
        · rw [if_pos h, show min 4 (64 - 4 * j) = 4 by omega, pw_four, wl_low _ j h]
        · rw [if_neg h, show min 4 (64 - 4 * j) = 0 by omega]; rfl))
      have HWH := Lib.hid (fun j h h64 => wl_high (wof B) j h h64)
      have HWB := Lib.hid (fun j => (wl_w32 (wof B) (wof_lt HB.out) 64).at j)
      have HRT := Lib.hid (fun x r W h1 h2 h3 => sh_right x r W h1 h2 h3)
      clear HW HIX HB HST HBB hkg
      generalize wl (wof B) 64 = L at *
      go_wp2_with fail
      go_loopg [6] 48 (fun gk s6 wx => ∃ i : Nat, i + gk = 64 ∧ 16 ≤ i ∧ s6 = .int .i64 (i : Int) ∧ SchW B (fun j => if j < i then co L j else 0) g w wx)
      case atStart => exact ⟨16, by omega, by omega, rfl, HF.out⟩
      case round =>
        obtain ⟨i, hig, hi16, rfl, hw⟩ := hrel
        have HW := Lib.hid hw
        have HIG := Lib.hid hig
        clear hw
        cases gk with
        | zero =>
          obtain rfl : i = 64 := by omega
          have hb : WBlk 53 64 wr (g + 1 + 1) (co L) := (HW.out.congr (fun j hj => if_pos hj)).ws
          have hr := HW.out.r
          unfold WBlk at hb hr
          rw [HZ.out] at hr
          have HR0 := Lib.hid hr
          have HBL := Lib.hid hb
          have HIN := Lib.hid (info_words (co L))
          have HSZ := Lib.hid (show Z.size = (dt 64 (co L)).size from by rw [HIZ.out, dt_size])
          have HON := Lib.hid (dt_one 64 (co L))
          have HG3 := Lib.hid (setRow_heap wr (g + 1) _ (dt 64 (co L)) _ _ hr)
          have HX3 := Lib.hid (HW.out.x.setRow (g := g + 1) (by rw [HG.out]; omega) (dt 64 (co L)))
          have HVE := Lib.hid (show Value.agg (dt 64 (co L)) = Value.agg (dt 64 (co L)) from rfl)
          generalize dt 64 (co L) = V at *
          clear hb hr hig
          go_wp2_with (first | (with_reducible refine wpList_load_row rfl 53 (.tmp 3) rfl (g + 1 + 1) rfl 53 V (0, 0) _ HBL.out Tryd.underlying53 rfl HIN.out ?_) | (with_reducible refine wpList_store_all rfl 53 (.tmp 2) (.tmp 70) rfl (g + 1) Z V rfl rfl HR0.out HIN.out HSZ.out HON.out ?_))
          exact ⟨rfl, .agg V, results_cell_row Tryd.results30 _ _ (g + 1) 53 V (0, 0) _ rfl HG3.out Tryd.underlying53 rfl HIN.out, rfl, HX3.out⟩
        | succ gk =>
          have hi : i < 64 := by omega
          have hiI : (i : Int) < 64 := by omega
          have HN := Lib.hid (fun q => ((HW.out.drewN q).store HG.out i (co L i)).congr (f' := fun j => if j < i + 1 then co L j else 0) (fun j _ => by
            unfold upd
            by_cases h : j = i
            · subst h; rw [if_pos rfl, if_pos (by omega)]
            · rw [if_neg h]
              show (if j < i then co L j else 0) = if j < i + 1 then co L j else 0
              by_cases h2 : j < i
              · rw [if_pos h2, if_pos (by omega)]
              · rw [if_neg h2, if_neg (by omega)]))
          obtain ⟨p16, hp16⟩ : ∃ p, i - 16 = p := ⟨_, rfl⟩
          obtain ⟨p15, hp15⟩ : ∃ p, i - 15 = p := ⟨_, rfl⟩
          obtain ⟨p7, hp7⟩ : ∃ p, i - 7 = p := ⟨_, rfl⟩
          obtain ⟨p2, hp2⟩ : ∃ p, i - 2 = p := ⟨_, rfl⟩
          have hwh := HWH.out i hi16 hi
          rw [hp16, hp15, hp7, hp2] at hwh
          have c16 := HW.out.ws.cell p16 (by omega)
          rw [if_pos (by omega)] at c16
          have c15 := HW.out.ws.cell p15 (by omega)
          rw [if_pos (by omega)] at c15
          have c7 := HW.out.ws.cell p7 (by omega)
          rw [if_pos (by omega)] at c7
          have c2 := HW.out.ws.cell p2 (by omega)
          rw [if_pos (by omega)] at c2
          have b16 := HWB.out p16
          have b15 := HWB.out p15
          have b7 := HWB.out p7
          have b2 := HWB.out p2
          have hci := HW.out.ws.cell i hi
          have hfz := HW.out.ws.frozen i
          rw [if_neg (by omega)] at hci
          have k16 : (p16 : Int) < 64 := by omega
          have k15 : (p15 : Int) < 64 := by omega
          have k7 : (p7 : Int) < 64 := by omega
          have k2 : (p2 : Int) < 64 := by omega
          have m16 : wrap64 ((i : Int) - 16) = (p16 : Int) := by unfold wrap64; omega
          have m15 : wrap64 ((i : Int) - 15) = (p15 : Int) := by unfold wrap64; omega
          have m7 : wrap64 ((i : Int) - 7) = (p7 : Int) := by unfold wrap64; omega
          have m2 : wrap64 ((i : Int) - 2) = (p2 : Int) := by unfold wrap64; omega
          have W16 : IntKind.i64.wrap (p16 : Int) = (p16 : Int) := IntWalk.i64_in _ (by omega)
          have W7 : IntKind.i64.wrap (p7 : Int) = (p7 : Int) := IntWalk.i64_in _ (by omega)
          have M16 : (i : Int) - 16 = (p16 : Int) := by omega
          have M15 : (i : Int) - 15 = (p15 : Int) := by omega
          have M7 : (i : Int) - 7 = (p7 : Int) := by omega
          have M2 : (i : Int) - 2 = (p2 : Int) := by omega
          obtain ⟨v, hv⟩ : ∃ v, co L i = v := ⟨_, rfl⟩
          rw [hv] at hwh HN
          generalize co L p16 = a16 at *
          generalize co L p15 = a15 at *
          generalize co L p7 = a7 at *
          generalize co L p2 = a2 at *
          unfold sg0 sg1 at hwh
          clear hp16 hp15 hp7 hp2 hv hig
          have b7' := tw_lt (n := 7) b15
          have b18 := tw_lt (n := 18) b15
          have b17 := tw_lt (n := 17) b2
          have b19 := tw_lt (n := 19) b2
          have HT7 := Lib.hid (fun W => show Calls Tryd.prog 36 #[.int .u32 (a15 : Int), .int .i64 7] W (fun e' w' => e' = .returned (.int .u32 ((tw a15 7 : Nat) : Int)) ∧ W = w') from HRT.out a15 7 W b15 (by decide) (by decide))
          have HT18 := Lib.hid (fun W => show Calls Tryd.prog 36 #[.int .u32 (a15 : Int), .int .i64 18] W (fun e' w' => e' = .returned (.int .u32 ((tw a15 18 : Nat) : Int)) ∧ W = w') from HRT.out a15 18 W b15 (by decide) (by decide))
          have HT17 := Lib.hid (fun W => show Calls Tryd.prog 36 #[.int .u32 (a2 : Int), .int .i64 17] W (fun e' w' => e' = .returned (.int .u32 ((tw a2 17 : Nat) : Int)) ∧ W = w') from HRT.out a2 17 W b2 (by decide) (by decide))
          have HT19 := Lib.hid (fun W => show Calls Tryd.prog 36 #[.int .u32 (a2 : Int), .int .i64 19] W (fun e' w' => e' = .returned (.int .u32 ((tw a2 19 : Nat) : Int)) ∧ W = w') from HRT.out a2 19 W b2 (by decide) (by decide))
          generalize tw a15 7 = r7 at *
          generalize tw a15 18 = r18 at *
          generalize tw a2 17 = r17 at *
          generalize tw a2 19 = r19 at *
          obtain ⟨d3, hd3⟩ : ∃ d, a15 / 8 = d := ⟨_, rfl⟩
          obtain ⟨d10, hd10⟩ : ∃ d, a2 / 1024 = d := ⟨_, rfl⟩
          obtain ⟨x1, hx1⟩ : ∃ x, r7 ^^^ r18 = x := ⟨_, rfl⟩
          obtain ⟨x2, hx2⟩ : ∃ x, x1 ^^^ d3 = x := ⟨_, rfl⟩
          obtain ⟨y1, hy1⟩ : ∃ x, r17 ^^^ r19 = x := ⟨_, rfl⟩
          obtain ⟨y2, hy2⟩ : ∃ x, y1 ^^^ d10 = x := ⟨_, rfl⟩
          rw [hd3, hd10, hx1, hx2, hy1, hy2] at hwh
          have bd3 : d3 < 4294967296 := by omega
          have bd10 : d10 < 4294967296 := by omega
          have bx1 : x1 < 4294967296 := by rw [← hx1]; exact Nat.xor_lt_two_pow (n := 32) b7' b18
          have bx2 : x2 < 4294967296 := by rw [← hx2]; exact Nat.xor_lt_two_pow (n := 32) bx1 bd3
          have by1 : y1 < 4294967296 := by rw [← hy1]; exact Nat.xor_lt_two_pow (n := 32) b17 b19
          have by2 : y2 < 4294967296 := by rw [← hy2]; exact Nat.xor_lt_two_pow (n := 32) by1 bd10
          have g1 : bits .xor .u32 (r7 : Int) (r18 : Int) = (x1 : Int) := by rw [u32_xor_nat r7 r18 b7' b18, hx1]
          have g2 : bits .xor .u32 (x1 : Int) (d3 : Int) = (x2 : Int) := by rw [u32_xor_nat x1 d3 bx1 bd3, hx2]
          have g3 : bits .xor .u32 (r17 : Int) (r19 : Int) = (y1 : Int) := by rw [u32_xor_nat r17 r19 b17 b19, hy1]
          have g4 : bits .xor .u32 (y1 : Int) (d10 : Int) = (y2 : Int) := by rw [u32_xor_nat y1 d10 by1 bd10, hy2]
          have t3 : (a15 : Int).tdiv 8 = (d3 : Int) := by rw [Int.tdiv_eq_ediv_of_nonneg (by omega)]; omega
          have t3' : (a15 : Int) / 8 = (d3 : Int) := by omega
          have t10 : (a2 : Int).tdiv 1024 = (d10 : Int) := by rw [Int.tdiv_eq_ediv_of_nonneg (by omega)]; omega
          have t10' : (a2 : Int) / 1024 = (d10 : Int) := by omega
          obtain ⟨u1, hu1⟩ : ∃ x, (a16 + x2) % 4294967296 = x := ⟨_, rfl⟩
          obtain ⟨u2, hu2⟩ : ∃ x, (u1 + a7) % 4294967296 = x := ⟨_, rfl⟩
          have w1 : IntKind.u32.wrap ((a16 : Int) + (x2 : Int)) = (u1 : Int) := by rw [IntKind.wrap_u32]; omega
          have w2 : IntKind.u32.wrap ((u1 : Int) + (a7 : Int)) = (u2 : Int) := by rw [IntKind.wrap_u32]; omega
          have w3 : IntKind.u32.wrap ((u2 : Int) + (y2 : Int)) = (v : Int) := by rw [IntKind.wrap_u32]; omega
          have bu1 : u1 < 4294967296 := by omega
          have bu2 : u2 < 4294967296 := by omega
          have HI16 := Lib.hid hi16
          clear hi16 hwh hd3 hd10 hx1 hx2 hy1 hy2 hu1 hu2
          go_wp2
          go_quiet (fail)
          generalize nq = q1
          have HN1 := Lib.hid (fun q => HN.out (q1 + q))
          have C16 : (wr.drewN q1).cell? ⟨g + 1 + 1, p16, none⟩ = some (.int .u32 (a16 : Int)) := c16
          have C7 : (wr.drewN q1).cell? ⟨g + 1 + 1, p7, none⟩ = some (.int .u32 (a7 : Int)) := c7
          have CI : (wr.drewN q1).cell? ⟨g + 1 + 1, i, none⟩ = some (.int .u32 ((0 : Nat) : Int)) := hci
          have FI : (wr.drewN q1).frozen? ⟨g + 1 + 1, i, none⟩ = false := hfz
          simp only [← World.drewN_drewN] at HN1
          generalize wr.drewN q1 = W1 at HN1 C16 C7 CI FI ⊢
          clear hci hfz c16 c15 c7 c2
          go_wp2_with fail
          refine (HT7.out _).mono ?_
          rintro e' w' ⟨rfl, rfl⟩
          go_wp2_with fail
          refine (HT18.out _).mono ?_
          rintro e' w' ⟨rfl, rfl⟩
          go_wp2_with fail
          refine (HT17.out _).mono ?_
          rintro e' w' ⟨rfl, rfl⟩
          go_wp2_with fail
          refine (HT19.out _).mono ?_
          rintro e' w' ⟨rfl, rfl⟩
          go_wp2
          refine wp_region_quiet_tail 15 (fun w' => ∃ q, w' = W1.drewN q) (by kernel_rfl) (by kernel_rfl) ⟨1, rfl⟩ ?_
          simp only [List.take_succ_cons, List.take_zero, List.drop_succ_cons, List.drop_zero]
          repeat (quiet_step (fail))
          refine wpQuiet_nil ?_
          rintro _ ⟨q2, rfl⟩
          go_wp2
          go_roundg gk
          case measure => omega
          case rel => exact ⟨i + 1, by have := HIG.out; omega, by have := HI16.out; omega, by go_num, HN1.out q2⟩
    | succ gk =>
      have hk : k < 64 := by omega
      have hkI : (k : Int) < 64 := by omega
      have hix := HIX.out k hk
      have hy8 := HB.out k
      obtain ⟨q, hq⟩ : ∃ q, k / 4 = q := ⟨_, rfl⟩
      have hq64 : q < 64 := by omega
      have hqI : (q : Int) < 64 := by omega
      have hc := HW.out.ws.cell q hq64
      have hfz := HW.out.ws.frozen q
      have hx24 := pws_lt HB.out k q hq
      have hn := HW.out.store HG.out q (pws B k q * 256 + B k)
      have HN := Lib.hid (hn.congr (fun j _ => pws_step B k q j hq))
      clear hn
      obtain ⟨x, hx⟩ : ∃ x, pws B k q = x := ⟨_, rfl⟩
      obtain ⟨y, hy⟩ : ∃ y, B k = y := ⟨_, rfl⟩
      rw [hx] at hc hx24 HN
      rw [hy] at hix hy8 HN
      obtain ⟨x8, hx8⟩ : ∃ v, x * 256 = v := ⟨_, rfl⟩
      obtain ⟨z, hz⟩ : ∃ v, x8 + y = v := ⟨_, rfl⟩
      rw [hx8, hz] at HN
      have e1 : (k : Int) / 4 = (q : Int) := by omega
      have e1' : (k : Int).tdiv 4 = (q : Int) := by rw [Int.tdiv_eq_ediv_of_nonneg (by omega)]; omega
      have e2 : IntKind.u32.wrap ((x : Int) * 256) = (x8 : Int) := by rw [IntKind.wrap_u32]; omega
      have e2' : (x : Int) * 256 = (x8 : Int) := by omega
      have e4 : (x8 : Int) % 4294967296 = (x8 : Int) := by omega
      have e3 : bits .or .u32 (x8 : Int) (y : Int) = (z : Int) := by rw [u32_or_nat x8 y (by omega) (by omega), ← hx8, or_byte x y hy8, hx8, hz]
      clear hq hx hy hx8 hz hkg hx24
      go_wp2
      go_roundg gk
      case measure => omega
      case rel => exact ⟨k + 1, by have := HKG.out; omega, by go_num, HN.out⟩
end Go.Proofs.YtfhmafncpodlbaaDoor

/-
  Parts of slices of bytes. Conditions: none; no function is named here.
-/
namespace Go.Proofs.YtfhmafncpodlbaaDoor
open Go.RowKit
open Pol (co Sm)

/-- s[:h] of bytes. -/
theorem run_to_u8 (A : Option Addr) (len cap h : Nat) (hh : h ≤ cap) (W : World) :
    (Instr.slice 22 (.slice A len cap) none (some (.int .i64 (h : Int))) none).run Tryd.prog W = .ok (.slice A h cap) W := by
  obtain ⟨i0, hi, hz0, hz1, hz2⟩ := info_parts u8_info
  have he : Tryd.prog.elem 22 = 5 := by kernel_rfl
  rw [run_slice_h W 22 _ len cap (by rw [he]; exact Tryd.underlying22) .i64 (h : Int) (by omega) (by omega), he]
  cases A <;> simp [sizeOf, typeInfo, hi, hz1, Result.andThen, sliced, Addr.add]
/-- s[a:b] of bytes. -/
theorem run_cut_u8 (A : Option Addr) (len cap a b : Nat) (hab : a ≤ b) (hb : b ≤ cap) : ∃ X : Option Addr, (∀ W, (Instr.slice 22 (.slice A len cap) (some (.int .i64 (a : Int))) (some (.int .i64 (b : Int))) none).run Tryd.prog W = .ok (.slice X (b - a) (cap - a)) W) ∧
    ∀ w l, Rd w A l → b ≤ l.length → Rd w X (tab (b - a) (fun j => co l (a + j))) := by
  obtain ⟨i0, hi, hz0, hz1, hz2⟩ := info_parts u8_info
  have he : Tryd.prog.elem 22 = 5 := by kernel_rfl
  refine ⟨if cap = a then A else A.map (·.add a), fun W => ?_, fun w l h hl => ⟨tab_sm _ _ fun _ _ => h.1 _, fun i hi => ?_⟩⟩
  · rw [run_slice_lh W 22 _ len cap (by rw [he]; exact Tryd.underlying22) .i64 .i64 (a : Int) (b : Int) (by omega) (by omega) (by omega), he]
    cases A <;> simp [sizeOf, typeInfo, hi, hz1, Result.andThen, sliced]
  · rw [tab_len] at hi
    obtain ⟨b', o', e, hc⟩ := h.2 (a + i) (by omega)
    subst e
    refine ⟨b', o' + a, by rw [if_neg (by omega)]; simp [addr_add], ?_⟩
    rw [co_tab, if_pos hi, Nat.add_assoc]
    exact hc
/-- s[l:] of bytes, whole. -/
theorem run_rest_u8 (A : Option Addr) (len cap l : Nat) (hl : l ≤ len) (hc : len ≤ cap) : ∃ X : Option Addr, (∀ W, (Instr.slice 22 (.slice A len cap) (some (.int .i64 (l : Int))) none none).run Tryd.prog W = .ok (.slice X (len - l) (cap - l)) W) ∧
    (∀ w L, Rd w A L → L.length = len → Rd w X (tab (len - l) (fun j => co L (l + j)))) ∧ (∀ b o, l < cap → A = some ⟨b, o, none⟩ → X = some ⟨b, o + l, none⟩) := by
  obtain ⟨i0, hi, hz0, hz1, hz2⟩ := info_parts u8_info
  have he : Tryd.prog.elem 22 = 5 := by kernel_rfl
  refine ⟨if cap = l then A else A.map (·.add l), fun W => ?_, fun w L h hL => ⟨tab_sm _ _ fun _ _ => h.1 _, fun i hi => ?_⟩, fun b o h e => ?_⟩
  · rw [run_slice_l W 22 _ len cap (by rw [he]; exact Tryd.underlying22) .i64 (l : Int) (by omega) (by omega), he]
    cases A <;> simp [sizeOf, typeInfo, hi, hz1, Result.andThen, sliced]
  · rw [tab_len] at hi
    obtain ⟨b', o', e, hc⟩ := h.2 (l + i) (by omega)
    subst e
    refine ⟨b', o' + l, by rw [if_neg (by omega)]; simp [addr_add], ?_⟩
    rw [co_tab, if_pos hi, Nat.add_assoc]
    exact hc
  · subst e
    rw [if_neg (by omega)]
    simp [addr_add]

end Go.Proofs.YtfhmafncpodlbaaDoor

/-
  A region that draws its order, walked by a plan: operations that only read what stays are taken ahead, one that alone may come up comes up, and where two or three may come up next each of them is walked. Conditions: a check of the region's text (by the kernel); of no program in particular.
-/
namespace Go.Proofs.YtfhmafncpodlbaaDoor
open Go

/-- A plan: the end; an operation that only reads what stays; the only one that may come up; one of two; one of three. -/
inductive Plan where
  | done : Plan
  | yes : Nat → Plan → Plan
  | one : Nat → Plan → Plan
  | two : Nat → Plan → Nat → Plan → Plan
  | three : Nat → Plan → Nat → Plan → Nat → Plan → Plan

section
variable {P : Program} {Q : Exit → Act → World → Prop} {md : Region.Mode} {C : World → Prop}
/-- Operation i, and then K. -/
def wpStepP (P : Program) (l : List Oper) (Q : Exit → Act → World → Prop) (i : Nat) (K : Act → World → Prop) (a : Act) (w : World) : Prop :=
  ∃ o, l[i]? = some o ∧ wpList P l.toArray (Exit.then K Q) [o] a w
/-- The walk by a plan. -/
def wpPlan (P : Program) (l : List Oper) (C : World → Prop) (F : Nat → Bool) (Q : Exit → Act → World → Prop) : Plan → Act → World → Prop
  | .done, a, w => wpList P l.toArray Q [] a w
  | .yes i p, a, w => ∃ o v, l[i]? = some o ∧ YieldsC P l.toArray C o v a ∧ wpPlan P l C F Q p (a.put o.dst v) w
  | .one i p, a, w => wpStepP P l Q i (fun a' w' => (F i = true → C w') ∧ wpPlan P l C F Q p a' w') a w
  | .two i p j q, a, w => wpStepP P l Q i (fun a' w' => (F i = true → C w') ∧ wpPlan P l C F Q p a' w') a w ∧ wpStepP P l Q j (fun a' w' => (F j = true → C w') ∧ wpPlan P l C F Q q a' w') a w
  | .three i p j q k r, a, w => wpStepP P l Q i (fun a' w' => (F i = true → C w') ∧ wpPlan P l C F Q p a' w') a w ∧ wpStepP P l Q j (fun a' w' => (F j = true → C w') ∧ wpPlan P l C F Q q a' w') a w ∧ wpStepP P l Q k (fun a' w' => (F k = true → C w') ∧ wpPlan P l C F Q r a' w') a w
theorem plan_yes {F : Nat → Bool} {l : List Oper} {i : Nat} {o : Oper} {π : Plan} {a : Act} {w : World} (ho : l[i]? = some o)
    (h : ∀ K : Act → Prop, (∀ a', wpPlan P l C F Q π a' w → K a') → Region.wanted o (yielded l.toArray a.tmps) = true ∧ ∃ v, (∀ W, C W → (execOp a.eval o).run P W = .ok (.value v) W) ∧ K (a.put o.dst v)) : wpPlan P l C F Q (.yes i π) a w := by
  obtain ⟨h1, v, h2, h3⟩ := h (fun a' => wpPlan P l C F Q π a' w) (fun _ h => h)
  exact ⟨o, v, ho, .inl ⟨h1, h2⟩, h3⟩
theorem plan_call {F : Nat → Bool} {l : List Oper} {i : Nat} {o : Oper} {π : Plan} {a : Act} {w : World} (ho : l[i]? = some o)
    (h : ∀ K : Act → Prop, (∀ a', wpPlan P l C F Q π a' w → K a') → Region.wanted o (yielded l.toArray a.tmps) = true ∧ ∃ f args v, (∀ W, C W → (execOp a.eval o).run P W = .ok (.enter f args) W) ∧ (∀ W, C W → Calls P f args W (fun e w' => e = .returned v ∧ W = w')) ∧ K (a.put o.dst v)) : wpPlan P l C F Q (.yes i π) a w := by
  obtain ⟨h1, f, args, v, h2, h3, h4⟩ := h (fun a' => wpPlan P l C F Q π a' w) (fun _ h => h)
  exact ⟨o, v, ho, .inr (.inr ⟨h1, f, args, h2, h3⟩), h4⟩
theorem plan_load {F : Nat → Bool} {l : List Oper} {i : Nat} {o : Oper} {π : Plan} {a : Act} {w : World} (ho : l[i]? = some o) (ty : TypeId) (x : Operand) (hop : o.op = .load ty x) (v : Value)
    (hw : Region.wanted o (yielded l.toArray a.tmps) = true) (hrun : ∀ W, C W → (Instr.loadAt ty (a.eval x)).run P W = .ok v W) (h : wpPlan P l C F Q π (a.put o.dst v) w) : wpPlan P l C F Q (.yes i π) a w :=
  plan_yes ho (fun _ hK => ⟨hw, v, fun W hW => by simp only [execOp, hop, Sem.run_bind, hrun W hW, Result.andThen, Sem.run_pure], hK _ h⟩)
theorem plan_toArray {F : Nat → Bool} {l : List Oper} {i : Nat} {o : Oper} {π : Plan} {a : Act} {w : World} (ho : l[i]? = some o) (ty : TypeId) (x : Operand) (hop : o.op = .sliceToArrayPointer ty x) (v : Value)
    (hw : Region.wanted o (yielded l.toArray a.tmps) = true) (hrun : ∀ W, C W → (Instr.arrayAt ty (a.eval x)).run P W = .ok v W) (h : wpPlan P l C F Q π (a.put o.dst v) w) : wpPlan P l C F Q (.yes i π) a w :=
  plan_yes ho (fun _ hK => ⟨hw, v, fun W hW => by simp only [execOp, hop, Sem.run_bind, hrun W hW, Result.andThen, Sem.run_pure], hK _ h⟩)
theorem stepP_of {l : List Oper} {i : Nat} {o : Oper} {a : Act} {w : World} {K : Act → World → Prop} (ho : l[i]? = some o)
    (h : ∀ K' : Act → World → Prop, (∀ a' w', K a' w' → K' a' w') → wpList P l.toArray (Exit.then K' Q) [o] a w) : wpStepP P l Q i K a w := ⟨o, ho, h K (fun _ _ h => h)⟩
theorem plan_one {F : Nat → Bool} {l : List Oper} {i : Nat} {o : Oper} {π : Plan} {a : Act} {w : World} (ho : l[i]? = some o)
    (h : ∀ K : Act → World → Prop, (∀ a' w', (F i = true → C w') ∧ wpPlan P l C F Q π a' w' → K a' w') → wpList P l.toArray (Exit.then K Q) [o] a w) : wpPlan P l C F Q (.one i π) a w := stepP_of ho h
theorem plan_two {F : Nat → Bool} {l : List Oper} {i j : Nat} {o u : Oper} {p q : Plan} {a : Act} {w : World} (ho : l[i]? = some o) (hu : l[j]? = some u)
    (h1 : ∀ K : Act → World → Prop, (∀ a' w', (F i = true → C w') ∧ wpPlan P l C F Q p a' w' → K a' w') → wpList P l.toArray (Exit.then K Q) [o] a w)
    (h2 : ∀ K : Act → World → Prop, (∀ a' w', (F j = true → C w') ∧ wpPlan P l C F Q q a' w' → K a' w') → wpList P l.toArray (Exit.then K Q) [u] a w) : wpPlan P l C F Q (.two i p j q) a w := ⟨stepP_of ho h1, stepP_of hu h2⟩
/-- The check: c says whether the world is in the class; n operations are left. -/
def planB (md : Region.Mode) (ops : Array Oper) (F : Nat → Bool) : Nat → Bool → Plan → Array Bool → Bool
  | 0, _, .done, listed => (Region.ready md ops listed).isEmpty
  | n + 1, c, .yes i p, listed => c && (Region.ready md ops listed).contains i && Region.free md ops listed i && behindB md ops F i && planB md ops F n c p (listed.setIfInBounds i true)
  | n + 1, c, .one i p, listed => (Region.ready md ops listed == [i]) && planB md ops F n (c && F i) p (listed.setIfInBounds i true)
  | n + 1, c, .two i p j q, listed => (Region.ready md ops listed == [i, j]) && planB md ops F n (c && F i) p (listed.setIfInBounds i true) && planB md ops F n (c && F j) q (listed.setIfInBounds j true)
  | n + 1, c, .three i p j q k r, listed => (Region.ready md ops listed == [i, j, k]) && planB md ops F n (c && F i) p (listed.setIfInBounds i true) && planB md ops F n (c && F j) q (listed.setIfInBounds j true) && planB md ops F n (c && F k) r (listed.setIfInBounds k true)
  | _, _, _, _ => false
theorem wpAnyC_of_plan {F : Nat → Bool} {l : List Oper} (hsel : Region.noSelect l.toArray = true) (hQ : ∀ c a a' w, a.defers = a'.defers → Q (.panic c) a w → Q (.panic c) a' w) :
    ∀ (n : Nat) (π : Plan) (c : Bool) (listed : Array Bool) (a : Act) (w : World), (c = true → C w) → Closed md l.toArray listed → planB md l.toArray F n c π listed = true → wpPlan P l C F Q π a w → wpAnyC P md l.toArray C F Q n listed a w := by
  intro n
  induction n with
  | zero =>
    intro π c listed a w hC hcl hB h
    cases π <;> simp only [planB, Bool.false_eq_true] at hB
    exact ⟨by simpa using hB, h⟩
  | succ n ih =>
    have step : ∀ (i : Nat) (p : Plan) (c : Bool) (listed : Array Bool) (a : Act) (w : World), (c = true → C w) → Closed md l.toArray listed → i ∈ Region.ready md l.toArray listed → planB md l.toArray F n (c && F i) p (listed.setIfInBounds i true) = true →
        wpStepP P l Q i (fun a' w' => (F i = true → C w') ∧ wpPlan P l C F Q p a' w') a w → wpOp P l.toArray Q i (fun a' w' => (F i = true → C w') ∧ wpAnyC P md l.toArray C F Q n (listed.setIfInBounds i true) a' w') a w := by
      intro i p c listed a w hC hcl hr hB ⟨o, ho0, hK⟩
      have ho : l.toArray[i]? = some o := by simpa using ho0
      refine wpOp_mono (fun a' w' h' => ⟨h'.1, ih p (c && F i) _ a' w' (fun hcf => ?_) (hcl.set hr) hB h'.2⟩) (wpOp_of_one ho hK)
      rw [Bool.and_eq_true] at hcf
      exact h'.1 hcf.2
    intro π c listed a w hC hcl hB h
    cases π with
    | done => simp [planB] at hB
    | yes i p =>
      obtain ⟨o, v, ho0, hy, hK⟩ := h
      have ho : l.toArray[i]? = some o := by simpa using ho0
      simp only [planB, Bool.and_eq_true] at hB
      obtain ⟨⟨⟨⟨hc, hr⟩, hf⟩, hb⟩, hrest⟩ := hB
      have hr' : i ∈ Region.ready md l.toArray listed := by simpa using hr
      exact wpAnyC_first ho (Region.noSelect_spec hsel) (fun ch a w h => hQ ch _ _ w (by cases o.dst <;> rfl) h) hb n listed a w (hC hc) hcl (Region.free_spec ho hf) hr' hy (ih p c _ _ _ hC (hcl.set hr') hrest hK)
    | one i p =>
      simp only [planB, Bool.and_eq_true] at hB
      have hr : Region.ready md l.toArray listed = [i] := by simpa using hB.1
      refine ⟨fun h0 => absurd h0 (by rw [hr]; simp), fun j hj => ?_⟩
      obtain rfl : j = i := by rw [hr] at hj; simpa using hj
      exact step j p c listed a w hC hcl hj hB.2 h
    | two i p j q =>
      simp only [planB, Bool.and_eq_true] at hB
      have hr : Region.ready md l.toArray listed = [i, j] := by simpa using hB.1.1
      refine ⟨fun h0 => absurd h0 (by rw [hr]; simp), fun k hk => ?_⟩
      have hk' : k = i ∨ k = j := by rw [hr] at hk; simpa using hk
      rcases hk' with rfl | rfl
      · exact step k p c listed a w hC hcl hk hB.1.2 h.1
      · exact step k q c listed a w hC hcl hk hB.2 h.2
    | three i p j q k r =>
      simp only [planB, Bool.and_eq_true] at hB
      have hr : Region.ready md l.toArray listed = [i, j, k] := by simpa using hB.1.1.1
      refine ⟨fun h0 => absurd h0 (by rw [hr]; simp), fun m hm => ?_⟩
      have hm' : m = i ∨ m = j ∨ m = k := by rw [hr] at hm; simpa using hm
      rcases hm' with rfl | rfl | rfl
      · exact step m p c listed a w hC hcl hm hB.1.1.2 h.1
      · exact step m q c listed a w hC hcl hm hB.1.2 h.2.1
      · exact step m r c listed a w hC hcl hm hB.2 h.2.2
theorem wp_region_plan {id : Nat} {a : Act} {w : World} {l : List Oper} (C : World → Prop) (F : List Nat) (π : Plan) (hm : P.follows .mixedOrders = true) (hQ : ∀ c a a' w, a.defers = a'.defers → Q (.panic c) a w → Q (.panic c) a' w)
    (hB : (Region.noSelect l.toArray && planB .any l.toArray (fun i => F.contains i) l.length true π (Array.replicate l.length false)) = true) (hC : C w.drew) (h : wpPlan P l C (fun i => F.contains i) Q π a w.drew) : (Code.region id l.toArray true).wp P Q a w := by
  simp only [Bool.and_eq_true] at hB
  obtain ⟨hsel, hst⟩ := hB
  refine wp_region_any hm (wpAny_of_C (C := C) (F := fun i => F.contains i) _ _ _ _ ?_)
  have h1 := wpAnyC_of_plan (P := P) (Q := Q) (C := C) (md := .any) hsel hQ l.length π true (Array.replicate l.length false) a w.drew (fun _ => hC) (fun j oj _ hl => by rw [getD_replicate_false] at hl; cases hl) hst h
  have hsz : l.toArray.size = l.length := by simp
  rw [hsz]
  exact h1
end
end Go.Proofs.YtfhmafncpodlbaaDoor

/-
  What through of layer 10 does: the state behind blocks. Conditions: whole blocks, no more than 2^20 bytes; the constants lie where they were laid.
-/
namespace Go.Proofs.YtfhmafncpodlbaaDoor
open Go.RowKit
open Pol (co Sm)

/-- What is behind the first k. -/
def dr (t : List Nat) (k : Nat) : List Nat := tab (t.length - k) (fun j => co t (k + j))
theorem dr_len (t : List Nat) (k : Nat) : (dr t k).length = t.length - k := tab_len _ _
theorem dr_at (t : List Nat) (k j : Nat) (h : k + j < t.length) : co (dr t k) j = co t (k + j) := by unfold dr; rw [co_tab, if_pos (by omega)]
theorem dr_ext {a b : List Nat} (hl : a.length = b.length) (h : ∀ i, i < a.length → co a i = co b i) : a = b := by
  apply List.ext_getElem hl
  intro i h1 h2
  have := h i h1
  unfold co at this
  rw [List.getElem?_eq_getElem h1, List.getElem?_eq_getElem h2] at this
  exact this
theorem dr_zero (t : List Nat) : dr t 0 = t := dr_ext (by rw [dr_len]; rfl) (fun i hi => by rw [dr_len] at hi; rw [dr_at t 0 i (by omega), Nat.zero_add])
theorem dr_more (t : List Nat) (k l : Nat) : tab ((dr t k).length - l) (fun j => co (dr t k) (l + j)) = dr t (k + l) := by
  refine dr_ext (by rw [tab_len, dr_len, dr_len]; omega) (fun i hi => ?_)
  rw [tab_len, dr_len] at hi
  rw [co_tab, if_pos (by rw [dr_len]; exact hi), dr_at t k (l + i) (by omega), dr_at t (k + l) i (by omega), Nat.add_assoc]
theorem wof_word (t : List Nat) (a : Nat) : wof (fun j => co t (a + j)) = fun i => word t (a + 4 * i) := by
  funext i
  unfold wof word
  simp only [Nat.add_assoc]
/-- Sixty-four bytes of a slice, as an array. -/
theorem range_of {w : World} {b o : Nat} {l : List Nat} (h : Rd w (some ⟨b, o, none⟩) l) (h64 : 64 ≤ l.length) : w.rangeAt b o (bt 64 (co l)).toList := by
  intro j v hv
  have hj : j < 64 := by
    have := (List.getElem?_eq_some_iff.1 hv).1
    simpa [bt_size] using this
  have e := bt_at 64 (co l) j hj
  generalize bt 64 (co l) = V at hv e
  obtain ⟨b', o', e1, hc⟩ := h.2 j (by omega)
  rw [← Array.getElem?_toList, hv] at e
  injection e1 with e1
  injection e1 with e2 e3
  subst e2; subst e3
  rw [hc, e]
theorem info_state (f : Nat → Nat) : (Tryd.prog.info? 39).map (·.size) = some (dt 8 f).size := by rw [dt_size]; kernel_rfl
theorem zero_state : (∀ w, (zeroValue 39).run Tryd.prog w = .ok (.agg (dt 8 fun _ => 0)) w) ∧ (Tryd.prog.info? 39).map (·.size) = some 8 := by
  rw [dt_zero]
  exact zero_of_info (by kernel_rfl)

theorem dr_co (t : List Nat) (k : Nat) : co (dr t k) = fun j => co t (k + j) := by
  funext j
  unfold dr
  rw [co_tab]
  by_cases h : j < t.length - k
  · rw [if_pos h]
  · rw [if_neg h]
    unfold co
    rw [List.getElem?_eq_none (by omega)]
    rfl
/-- Where through stands: the state behind g, the result. -/
structure ThrW (f : Nat → Nat) (g : Nat) (w W : World) : Prop where
  x : Ext w W
  s : WBlk 39 8 W g f
  r : WBlk 39 8 W (g + 1) (fun _ => 0)
theorem ThrW.start (f : Nat → Nat) (w : World) : ThrW f w.heap.size w ((w.alloc (.cells (dt 8 f) 39)).alloc (.cells (dt 8 fun _ => 0) 39)) := by
  have e1 : w.heap.size + 1 = (w.alloc (.cells (dt 8 f) 39)).heap.size := by simp
  refine ⟨((Ext.refl w).alloc _).alloc _, ?_, ?_⟩
  · exact (WBlk.new w f).ext ((Ext.refl _).alloc _)
  · rw [e1]
    exact WBlk.new _ _
theorem ThrW.ext {f : Nat → Nat} {g : Nat} {w W W' : World} (h : ThrW f g w W) (hx : Ext W W') : ThrW f g w W' := ⟨h.x.trans hx, h.s.ext hx, h.r.ext hx⟩
theorem ThrW.store {f : Nat → Nat} {g : Nat} {w W : World} (h : ThrW f g w W) (hg : w.heap.size = g) (j v : Nat) : ThrW (upd f j v) g w (W.setCell ⟨g, j, none⟩ (.int .u32 (v : Int))) :=
  ⟨h.x.setCell (by rw [hg]; exact Nat.le_refl _) _, h.s.store j v, (heap_setCell_other W ⟨g, j, none⟩ (g + 1) _ (by simp)).trans h.r⟩
theorem ThrW.congr {f f' : Nat → Nat} {g : Nat} {w W : World} (h : ThrW f g w W) (hf : ∀ i, i < 8 → f i = f' i) : ThrW f' g w W := ⟨h.x, h.s.congr hf, h.r⟩
theorem ThrW.drewN {f : Nat → Nat} {g : Nat} {w W : World} (h : ThrW f g w W) (q : Nat) : ThrW f g w (W.drewN q) := ⟨h.x.drewN q, h.s, h.r⟩
def AfterT (u w : World) : Prop := Ext u w

set_option maxHeartbeats 3200000 in
set_option maxRecDepth 100000 in
theorem sh_through (S t : List Nat) (A : Option Addr) (ca : Nat) (w : World) (hgl : GL w) (hS : W32 S) (hSl : S.length = 8) (hr : Rd w A t) (hc : t.length ≤ ca) (h64 : t.length % 64 = 0) (hl : t.length ≤ 1048576) :
    Calls Tryd.prog 20 #[.agg (dt 8 (co S)), .slice A t.length ca] w (Tells (.agg (dt 8 (co (hsh S KK t (t.length / 64))))) w) := by
  obtain ⟨g, hg⟩ : ∃ g, w.heap.size = g := ⟨_, rfl⟩
  have HG := Lib.hid hg
  have hst := ThrW.start (co S) w
  rw [hg] at hst
  have HST := Lib.hid hst
  have HGL := Lib.hid (fun W (h : Ext w W) => hgl.ext h)
  have HSM := Lib.hid hr.1
  have HR := Lib.hid hr
  obtain ⟨n, hn⟩ : ∃ n, t.length = n := ⟨_, rfl⟩
  have HN := Lib.hid hn
  obtain ⟨M, hM⟩ : ∃ M, n / 64 = M := ⟨_, rfl⟩
  rw [hn] at hc h64 hl ⊢
  rw [hM]
  have HM := Lib.hid (show n = 64 * M by omega)
  have HHL := Lib.hid (fun m => hsh_len S KK t hSl m)
  have HHW := Lib.hid (fun m => hsh_w32 S KK t hS m)
  have HH0 := Lib.hid (show hsh S KK t 0 = S from rfl)
  have HHS := Lib.hid (fun m => show hsh S KK t (m + 1) = blk KK (fun i => word t (64 * m + 4 * i)) (hsh S KK t m) from rfl)
  obtain ⟨V0, hV0⟩ : ∃ V, dt 8 (co S) = V := ⟨_, rfl⟩
  rw [hV0]
  generalize hsh S KK t = H at *
  have hz : dt 8 (fun _ => 0) = #[.int .u32 0, .int .u32 0, .int .u32 0, .int .u32 0, .int .u32 0, .int .u32 0, .int .u32 0, .int .u32 0] := rfl
  rw [hV0, hz] at HST
  have HD0 := Lib.hid (show Rd w A (dr t 0) from by rw [dr_zero]; exact hr)
  clear hgl hS hSl hr hn hst hM h64 hV0
  go_enter Tryd.func20, Tryd.ntmps20
  go_wp2_with fail
  generalize (w.alloc (Obj.cells V0 39)).alloc (Obj.cells #[.int .u32 0, .int .u32 0, .int .u32 0, .int .u32 0, .int .u32 0, .int .u32 0, .int .u32 0, .int .u32 0] 39) = W3 at HST ⊢
  clear hz hg
  go_loopg [1] M (fun gk s1 wx => ∃ (m a N c : Nat) (X : Option Addr), m + gk = M ∧ a = 64 * m ∧ N = n - a ∧ s1 = .slice X N c ∧ N ≤ c ∧ Rd w X (dr t a) ∧ ThrW (co (H m)) g w wx)
  case atStart => exact ⟨0, 0, n, ca, A, by omega, rfl, rfl, rfl, hc, HD0.out, by rw [HH0.out]; exact HST.out⟩
  case round =>
    obtain ⟨m, a, N, c, X, hmg, hma, hN, rfl, hNc, hrd, hw⟩ := hrel
    have HW := Lib.hid hw
    have HMG := Lib.hid hmg
    have HMA := Lib.hid hma
    have HRD := Lib.hid hrd
    clear hw hrd
    cases gk with
    | zero =>
      have hN0 : N = 0 := by have := HM.out; omega
      have hNI : decide (0 < (N : Int)) = false := decide_eq_false (by omega)
      have hmM : m = M := by omega
      rw [hmM] at HW
      clear hN hmg hma hNc
      have HIN := Lib.hid (info_state (co (H M)))
      have HSZ := Lib.hid (show (dt 8 fun _ => 0).size = (dt 8 (co (H M))).size from by rw [dt_size, dt_size])
      have HON := Lib.hid (dt_one 8 (co (H M)))
      have HG3 := Lib.hid (setRow_heap wr (g + 1) _ (dt 8 (co (H M))) _ _ HW.out.r)
      have HX3 := Lib.hid (HW.out.x.setRow (g := g + 1) (by rw [HG.out]; omega) (dt 8 (co (H M))))
      have hs := HW.out.s
      have hr := HW.out.r
      unfold WBlk at hs hr
      have HS0 := Lib.hid hs
      have HR0 := Lib.hid hr
      clear hs hr
      obtain ⟨V, hV⟩ : ∃ V, dt 8 (co (H M)) = V := ⟨_, rfl⟩
      have HVE := Lib.hid (show Value.agg V = Value.agg (dt 8 (co (H M))) from by rw [hV])
      rw [hV] at HIN HSZ HON HG3 HX3 HS0
      clear hV
      generalize dt 8 (fun _ => 0) = Z at HSZ HR0
      go_wp2_with (first | (with_reducible refine wpList_load_row rfl 39 (.tmp 2) rfl g rfl 39 V (0, 0) _ HS0.out Tryd.underlying39 rfl HIN.out ?_) | refine wpList_store_all rfl 39 (.tmp 4) (.tmp 31) rfl (g + 1) Z V rfl rfl HR0.out HIN.out HSZ.out HON.out ?_)
      exact ⟨rfl, .agg V, results_cell_row Tryd.results20 _ _ (g + 1) 39 V (0, 0) _ rfl HG3.out Tryd.underlying39 rfl HIN.out, by rw [HVE.out], HX3.out⟩
    | succ gh =>
      have hN64 : 64 ≤ N := by have := HM.out; omega
      have hNb : N ≤ 1048576 := by omega
      have hNI : decide (0 < (N : Int)) = true := decide_eq_true (by omega)
      obtain ⟨X2, hx2, hxr, _⟩ := run_rest_u8 X N c 64 hN64 hNc
      rw [show ((64 : Nat) : Int) = 64 from rfl] at hx2
      have HA := Lib.hid (fun W => run_arrayAt (P := Tryd.prog) W 55 5 64 X N c Tryd.underlying55 hN64)
      have hB : Sm (dr t a) := HRD.out.1
      obtain ⟨G, hG⟩ : ∃ G, H m = G := ⟨_, rfl⟩
      have HGW := Lib.hid (show W32 G from by rw [← hG]; exact HHW.out m)
      have HGL8 := Lib.hid (show G.length = 8 from by rw [← hG]; exact HHL.out m)
      rw [hG] at HW
      have HGE := Lib.hid hG
      obtain ⟨bx, ox, eX, _⟩ := HRD.out.2 0 (by rw [dr_len, HN.out, ← hN]; omega)
      subst eX
      have HLD := Lib.hid (fun W (h : AfterT wr W) => run_loadAt_mid (P := Tryd.prog) W bx ox 55 (bt 64 (co (dr t a))).toList (.array 64 5) (range_of (HRD.out.ext (HW.out.x.trans h)) (by rw [dr_len, HN.out, ← hN]; exact hN64)) Tryd.underlying55 rfl (by rw [Array.length_toList]; exact info_block _))
      have HLS := Lib.hid (fun W (h : AfterT wr W) => run_load_all W g 39 (dt 8 (co G)) 8 38 Tryd.underlying39 ((HW.out.ext h).s) (info_state _))
      have HSC := Lib.hid (fun W => sh_schedule (co (dr t a)) W (fun i => hB i))
      have HMX := Lib.hid (fun W (h : AfterT wr W) => sh_mix G (wl (wof (co (dr t a))) 64) W (HGL.out W (HW.out.x.trans h)) HGW.out (wl_w32 _ (wof_lt (fun i => hB i)) 64))
      obtain ⟨WL, hWL⟩ : ∃ l, wl (wof (co (dr t a))) 64 = l := ⟨_, rfl⟩
      rw [hWL] at HSC HMX
      obtain ⟨R, hR⟩ : ∃ l, rds KK WL G 64 = l := ⟨_, rfl⟩
      rw [hR] at HMX
      have HWLE := Lib.hid (fun (_ : Unit) => hWL)
      have HRE := Lib.hid (fun (_ : Unit) => hR)
      simp only [Array.toArray_toList] at HLD
      obtain ⟨VB, hVB⟩ : ∃ V, bt 64 (co (dr t a)) = V := ⟨_, rfl⟩
      obtain ⟨VL, hVL⟩ : ∃ V, dt 64 (co WL) = V := ⟨_, rfl⟩
      obtain ⟨VG, hVG⟩ : ∃ V, dt 8 (co G) = V := ⟨_, rfl⟩
      have HIR := Lib.hid (info_state (co R))
      have HSR := Lib.hid (show (dt 8 fun _ => 0).size = (dt 8 (co R)).size from by rw [dt_size, dt_size])
      have HOR := Lib.hid (dt_one 8 (co R))
      have HZL := Lib.hid (show dt 8 (fun _ => 0) = #[.int .u32 0, .int .u32 0, .int .u32 0, .int .u32 0, .int .u32 0, .int .u32 0, .int .u32 0, .int .u32 0] from rfl)
      have HVR := Lib.hid (fun (i : Nat) (hi : i < 8) => show ∀ W, (Instr.index 39 (.agg (dt 8 (co R))) (.int .i64 (i : Int))).run Tryd.prog W = .ok (.int .u32 ((co R i : Nat) : Int)) W from fun W => idx_arr Tryd.underlying39 (by kernel_rfl) (by kernel_rfl) ⟨_, rfl⟩ _ i _ hi (dt_at 8 _ i hi) W)
      obtain ⟨VR, hVR⟩ : ∃ V, dt 8 (co R) = V := ⟨_, rfl⟩
      rw [hVB] at HLD HSC
      rw [hVL] at HSC HMX
      rw [hVG] at HLS HMX
      rw [hVR] at HMX HIR HSR HOR HVR
      have HNE := Lib.hid hN
      have HXR := Lib.hid hxr
      clear hVB hVL hVG hVR hWL hR hG hB hN hmg hma hxr
      go_wp2
      refine wp_region_plan (AfterT wr) [0, 1, 2, 3, 4, 5, 6] (.yes 0 (.yes 1 (.yes 2 (.yes 3 (.two 4 (.two 5 (.one 6 (.one 7 .done)) 6 (.one 5 (.one 7 .done))) 6 (.one 4 (.one 5 (.one 7 .done)))))))) (by kernel_rfl) (fun c a a' w e h => ⟨e ▸ h.1, h.2⟩) (by kernel_rfl) ((Ext.refl wr).drew) ?_
      refine plan_load rfl 39 (.tmp 2) rfl (.agg VG) (by first | rfl | go_simp) (fun W hW => HLS.out W hW) ?_
      refine plan_yes rfl (fun K hK => ?_); go_simp; refine ⟨_, fun _ _ => rfl, hK _ ?_⟩; clear hK K
      refine plan_toArray rfl 55 (.tmp 14) rfl (.pointer (some ⟨bx, ox, none⟩)) (by first | rfl | go_simp) (fun W hW => HA.out W) ?_
      refine plan_load rfl 55 (.tmp 15) rfl (.agg VB) (by first | rfl | go_simp) (fun W hW => HLD.out W hW) ?_
      refine plan_two rfl rfl (fun K hK => ?_) (fun K hK => ?_)
      · go_wp2_with fail
        refine (HSC.out _).mono ?_
        rintro e v4 ⟨rfl, hx4⟩
        have HX4 := Lib.hid (show AfterT wr v4 from Ext.trans ((Ext.refl wr).drew) hx4)
        clear hx4
        go_wp2
        refine ⟨fun _ => HX4.out, ?_⟩
        refine plan_two rfl rfl (fun K hK => ?_) (fun K hK => ?_)
        · go_wp2_with fail
          refine (HMX.out _ HX4.out).mono ?_
          rintro e v5 ⟨rfl, hx5⟩
          have HX5 := Lib.hid (show AfterT wr v5 from Ext.trans HX4.out hx5)
          clear hx5
          go_wp2
          refine ⟨fun _ => HX5.out, ?_⟩
          refine plan_one rfl (fun K hK => ?_)
          go_wp2
          have HX6 := Lib.hid (show AfterT wr (World.alloc v5 (.cells (dt 8 fun _ => 0) 39)) from Ext.alloc HX5.out _)
          have HB6 := Lib.hid (WBlk.new (T := 39) (n := 8) v5 (fun _ => 0))
          have HGX := Lib.hid (show wr.heap.size ≤ (v5).heap.size from Ext.size HX5.out)
          rw [HZL.out] at HX6 HB6
          refine ⟨fun _ => HX6.out, ?_⟩
          generalize hgx : (v5).heap.size = gx at HB6 HGX ⊢
          generalize World.alloc v5 _ = v6 at HX6 HB6 ⊢
          clear hgx
          refine plan_one rfl (fun K hK => ?_)
          have HG7 := Lib.hid (setRow_heap _ gx _ VR _ _ HB6.out)
          have HX7 := Lib.hid (Ext.setRow HX6.out HGX.out VR)
          have hb0 := HB6.out
          unfold WBlk at hb0
          have HB0 := Lib.hid hb0
          clear hb0
          go_wp2_with (with_reducible refine wpList_store_all rfl 39 (.tmp 5) (.tmp 18) rfl gx (dt 8 fun _ => 0) VR rfl rfl HB0.out HIR.out HSR.out HOR.out ?_)
          refine ⟨fun h => absurd h (by decide), ?_⟩
          unfold wpPlan
          obtain ⟨wz, hwz⟩ : ∃ q, World.setRow v6 gx VR = q := ⟨_, rfl⟩
          rw [hwz] at HG7 HX7 ⊢
          clear hwz
          have HWZ := Lib.hid (HW.out.ext HX7.out)
          go_wp2_with (with_reducible refine wpList_load_row rfl 39 (.tmp 5) rfl gx rfl 39 VR (0, 0) _ HG7.out Tryd.underlying39 rfl HIR.out ?_)
          go_loopg [20] 8 (fun gj s20 wx => ∃ j : Nat, j + gj = 8 ∧ s20 = .int .i64 (j : Int) ∧ ThrW (fun k => if k < j then sumw G R k else co G k) g w wx)
          case atStart => exact ⟨0, by omega, rfl, HWZ.out.congr (fun k _ => rfl)⟩
          case round =>
            obtain ⟨j, hjg, rfl, hj⟩ := hrel
            cases gk with
            | zero =>
              obtain rfl : j = 8 := by omega
              have HJ := Lib.hid hj
              clear hj hjg
              have HN2 := Lib.hid (HJ.out.congr (f' := co (H (m + 1))) (fun k hk => by
                rw [if_pos hk, HHS.out m, HGE.out, ← HMA.out]
                unfold blk
                rw [co_map _ _ _ (by rw [List.length_range]; exact hk), show co (List.range 8) k = k from by unfold co; rw [List.getElem?_range hk]; rfl, ← HRE.out (), ← HWLE.out (), dr_co, wof_word]))
              have HRX := Lib.hid (show Rd w X2 (dr t (a + 64)) from by
                have h := HXR.out w _ HRD.out (by rw [dr_len, HN.out, HNE.out])
                have e := dr_more t a 64
                rw [dr_len, HN.out, ← HNE.out] at e
                rw [e] at h
                exact h)
              go_wp2
              go_roundg gh
              case measure => exact Nat.lt_succ_self _
              case rel => exact ⟨m + 1, a + 64, N - 64, c - 64, X2, by have := HMG.out; omega, by have := HMA.out; omega, by have := HNE.out; omega, rfl, by omega, HRX.out, HN2.out⟩
            | succ gk =>
              have hj8 : j < 8 := by omega
              have hjI : (j : Int) < 8 := by omega
              have HJG := Lib.hid hjg
              have hcl := hj.s.cell j hj8
              have hfz := hj.s.frozen j
              rw [if_neg (Nat.lt_irrefl j)] at hcl
              have hix := HVR.out j hj8
              obtain ⟨z, hz⟩ : ∃ z, sumw G R j = z := ⟨_, rfl⟩
              have HU := Lib.hid (fun (_ : Unit) => hz)
              unfold sumw at hz
              have bG := HGW.out.at j
              generalize co G j = x at hcl hz bG
              generalize co R j = y at hix hz
              have HJ := Lib.hid hj
              clear hj hjg
              have hsum : IntKind.u32.wrap ((x : Int) + (y : Int)) = (z : Int) := by
                rw [← hz]
                rw [IntKind.wrap_u32]
                omega
              have HNX := Lib.hid ((HJ.out.store HG.out j z).congr (f' := fun k => if k < j + 1 then sumw G R k else co G k) (fun k _ => by
                unfold upd
                show (if k = j then z else if k < j then sumw G R k else co G k) = if k < j + 1 then sumw G R k else co G k
                by_cases e : k = j
                · subst e; rw [if_pos rfl, if_pos (Nat.lt_succ_self _), HU.out ()]
                · rw [if_neg e]
                  by_cases h : k < j
                  · rw [if_pos h, if_pos (by omega)]
                  · rw [if_neg h, if_neg (by omega)]))
              go_wp2
              go_roundg gk
              case measure => exact Nat.lt_succ_self _
              case rel => exact ⟨j + 1, by have := HJG.out; omega, by go_num, HNX.out⟩
        · go_wp2
          have HX6 := Lib.hid (show AfterT wr (World.alloc v4 (.cells (dt 8 fun _ => 0) 39)) from Ext.alloc HX4.out _)
          have HB6 := Lib.hid (WBlk.new (T := 39) (n := 8) v4 (fun _ => 0))
          have HGX := Lib.hid (show wr.heap.size ≤ (v4).heap.size from Ext.size HX4.out)
          rw [HZL.out] at HX6 HB6
          refine ⟨fun _ => HX6.out, ?_⟩
          generalize hgx : (v4).heap.size = gx at HB6 HGX ⊢
          generalize World.alloc v4 _ = v6 at HX6 HB6 ⊢
          clear hgx
          refine plan_one rfl (fun K hK => ?_)
          go_wp2_with fail
          refine (HMX.out _ HX6.out).mono ?_
          rintro e v5 ⟨rfl, hx5⟩
          have HX5 := Lib.hid (show AfterT wr v5 from Ext.trans HX6.out hx5)
          have HB5 := Lib.hid (WBlk.ext HB6.out hx5)
          clear hx5
          go_wp2
          refine ⟨fun _ => HX5.out, ?_⟩
          refine plan_one rfl (fun K hK => ?_)
          have HG7 := Lib.hid (setRow_heap _ gx _ VR _ _ HB5.out)
          have HX7 := Lib.hid (Ext.setRow HX5.out HGX.out VR)
          have hb0 := HB5.out
          unfold WBlk at hb0
          have HB0 := Lib.hid hb0
          clear hb0
          go_wp2_with (with_reducible refine wpList_store_all rfl 39 (.tmp 5) (.tmp 18) rfl gx (dt 8 fun _ => 0) VR rfl rfl HB0.out HIR.out HSR.out HOR.out ?_)
          refine ⟨fun h => absurd h (by decide), ?_⟩
          unfold wpPlan
          obtain ⟨wz, hwz⟩ : ∃ q, World.setRow v5 gx VR = q := ⟨_, rfl⟩
          rw [hwz] at HG7 HX7 ⊢
          clear hwz
          have HWZ := Lib.hid (HW.out.ext HX7.out)
          go_wp2_with (with_reducible refine wpList_load_row rfl 39 (.tmp 5) rfl gx rfl 39 VR (0, 0) _ HG7.out Tryd.underlying39 rfl HIR.out ?_)
          go_loopg [20] 8 (fun gj s20 wx => ∃ j : Nat, j + gj = 8 ∧ s20 = .int .i64 (j : Int) ∧ ThrW (fun k => if k < j then sumw G R k else co G k) g w wx)
          case atStart => exact ⟨0, by omega, rfl, HWZ.out.congr (fun k _ => rfl)⟩
          case round =>
            obtain ⟨j, hjg, rfl, hj⟩ := hrel
            cases gk with
            | zero =>
              obtain rfl : j = 8 := by omega
              have HJ := Lib.hid hj
              clear hj hjg
              have HN2 := Lib.hid (HJ.out.congr (f' := co (H (m + 1))) (fun k hk => by
                rw [if_pos hk, HHS.out m, HGE.out, ← HMA.out]
                unfold blk
                rw [co_map _ _ _ (by rw [List.length_range]; exact hk), show co (List.range 8) k = k from by unfold co; rw [List.getElem?_range hk]; rfl, ← HRE.out (), ← HWLE.out (), dr_co, wof_word]))
              have HRX := Lib.hid (show Rd w X2 (dr t (a + 64)) from by
                have h := HXR.out w _ HRD.out (by rw [dr_len, HN.out, HNE.out])
                have e := dr_more t a 64
                rw [dr_len, HN.out, ← HNE.out] at e
                rw [e] at h
                exact h)
              go_wp2
              go_roundg gh
              case measure => exact Nat.lt_succ_self _
              case rel => exact ⟨m + 1, a + 64, N - 64, c - 64, X2, by have := HMG.out; omega, by have := HMA.out; omega, by have := HNE.out; omega, rfl, by omega, HRX.out, HN2.out⟩
            | succ gk =>
              have hj8 : j < 8 := by omega
              have hjI : (j : Int) < 8 := by omega
              have HJG := Lib.hid hjg
              have hcl := hj.s.cell j hj8
              have hfz := hj.s.frozen j
              rw [if_neg (Nat.lt_irrefl j)] at hcl
              have hix := HVR.out j hj8
              obtain ⟨z, hz⟩ : ∃ z, sumw G R j = z := ⟨_, rfl⟩
              have HU := Lib.hid (fun (_ : Unit) => hz)
              unfold sumw at hz
              have bG := HGW.out.at j
              generalize co G j = x at hcl hz bG
              generalize co R j = y at hix hz
              have HJ := Lib.hid hj
              clear hj hjg
              have hsum : IntKind.u32.wrap ((x : Int) + (y : Int)) = (z : Int) := by
                rw [← hz]
                rw [IntKind.wrap_u32]
                omega
              have HNX := Lib.hid ((HJ.out.store HG.out j z).congr (f' := fun k => if k < j + 1 then sumw G R k else co G k) (fun k _ => by
                unfold upd
                show (if k = j then z else if k < j then sumw G R k else co G k) = if k < j + 1 then sumw G R k else co G k
                by_cases e : k = j
                · subst e; rw [if_pos rfl, if_pos (Nat.lt_succ_self _), HU.out ()]
                · rw [if_neg e]
                  by_cases h : k < j
                  · rw [if_pos h, if_pos (by omega)]
                  · rw [if_neg h, if_neg (by omega)]))
              go_wp2
              go_roundg gk
              case measure => exact Nat.lt_succ_self _
              case rel => exact ⟨j + 1, by have := HJG.out; omega, by go_num, HNX.out⟩
      · go_wp2
        have HX6 := Lib.hid (show AfterT wr (World.drew (World.alloc wr (.cells (dt 8 fun _ => 0) 39))) from (Ext.alloc (Ext.refl wr) _).drew)
        have HB6 := Lib.hid (show WBlk 39 8 (World.drew (World.alloc wr (.cells (dt 8 fun _ => 0) 39))) wr.heap.size (fun _ => 0) from WBlk.new (T := 39) (n := 8) wr (fun _ => 0))
        rw [HZL.out] at HX6 HB6
        refine ⟨fun _ => HX6.out, ?_⟩
        generalize hgx : wr.heap.size = gx at HB6 ⊢
        have HGX := Lib.hid (Nat.le_of_eq hgx)
        generalize (World.alloc wr _).drew = v6 at HX6 HB6 ⊢
        clear hgx
        refine plan_one rfl (fun K hK => ?_)
        go_wp2_with fail
        refine (HSC.out _).mono ?_
        rintro e v4 ⟨rfl, hx4⟩
        have HX4 := Lib.hid (show AfterT wr v4 from Ext.trans HX6.out hx4)
        have HB4 := Lib.hid (WBlk.ext HB6.out hx4)
        clear hx4
        go_wp2
        refine ⟨fun _ => HX4.out, ?_⟩
        refine plan_one rfl (fun K hK => ?_)
        go_wp2_with fail
        refine (HMX.out _ HX4.out).mono ?_
        rintro e v5 ⟨rfl, hx5⟩
        have HX5 := Lib.hid (show AfterT wr v5 from Ext.trans HX4.out hx5)
        have HB5 := Lib.hid (WBlk.ext HB4.out hx5)
        clear hx5
        go_wp2
        refine ⟨fun _ => HX5.out, ?_⟩
        refine plan_one rfl (fun K hK => ?_)
        have HG7 := Lib.hid (setRow_heap _ gx _ VR _ _ HB5.out)
        have HX7 := Lib.hid (Ext.setRow HX5.out HGX.out VR)
        have hb0 := HB5.out
        unfold WBlk at hb0
        have HB0 := Lib.hid hb0
        clear hb0
        go_wp2_with (with_reducible refine wpList_store_all rfl 39 (.tmp 5) (.tmp 18) rfl gx (dt 8 fun _ => 0) VR rfl rfl HB0.out HIR.out HSR.out HOR.out ?_)
        refine ⟨fun h => absurd h (by decide), ?_⟩
        unfold wpPlan
        obtain ⟨wz, hwz⟩ : ∃ q, World.setRow v5 gx VR = q := ⟨_, rfl⟩
        rw [hwz] at HG7 HX7 ⊢
        clear hwz
        have HWZ := Lib.hid (HW.out.ext HX7.out)
        go_wp2_with (with_reducible refine wpList_load_row rfl 39 (.tmp 5) rfl gx rfl 39 VR (0, 0) _ HG7.out Tryd.underlying39 rfl HIR.out ?_)
        go_loopg [20] 8 (fun gj s20 wx => ∃ j : Nat, j + gj = 8 ∧ s20 = .int .i64 (j : Int) ∧ ThrW (fun k => if k < j then sumw G R k else co G k) g w wx)
        case atStart => exact ⟨0, by omega, rfl, HWZ.out.congr (fun k _ => rfl)⟩
        case round =>
          obtain ⟨j, hjg, rfl, hj⟩ := hrel
          cases gk with
          | zero =>
            obtain rfl : j = 8 := by omega
            have HJ := Lib.hid hj
            clear hj hjg
            have HN2 := Lib.hid (HJ.out.congr (f' := co (H (m + 1))) (fun k hk => by
              rw [if_pos hk, HHS.out m, HGE.out, ← HMA.out]
              unfold blk
              rw [co_map _ _ _ (by rw [List.length_range]; exact hk), show co (List.range 8) k = k from by unfold co; rw [List.getElem?_range hk]; rfl, ← HRE.out (), ← HWLE.out (), dr_co, wof_word]))
            have HRX := Lib.hid (show Rd w X2 (dr t (a + 64)) from by
              have h := HXR.out w _ HRD.out (by rw [dr_len, HN.out, HNE.out])
              have e := dr_more t a 64
              rw [dr_len, HN.out, ← HNE.out] at e
              rw [e] at h
              exact h)
            go_wp2
            go_roundg gh
            case measure => exact Nat.lt_succ_self _
            case rel => exact ⟨m + 1, a + 64, N - 64, c - 64, X2, by have := HMG.out; omega, by have := HMA.out; omega, by have := HNE.out; omega, rfl, by omega, HRX.out, HN2.out⟩
          | succ gk =>
            have hj8 : j < 8 := by omega
            have hjI : (j : Int) < 8 := by omega
            have HJG := Lib.hid hjg
            have hcl := hj.s.cell j hj8
            have hfz := hj.s.frozen j
            rw [if_neg (Nat.lt_irrefl j)] at hcl
            have hix := HVR.out j hj8
            obtain ⟨z, hz⟩ : ∃ z, sumw G R j = z := ⟨_, rfl⟩
            have HU := Lib.hid (fun (_ : Unit) => hz)
            unfold sumw at hz
            have bG := HGW.out.at j
            generalize co G j = x at hcl hz bG
            generalize co R j = y at hix hz
            have HJ := Lib.hid hj
            clear hj hjg
            have hsum : IntKind.u32.wrap ((x : Int) + (y : Int)) = (z : Int) := by
              rw [← hz]
              rw [IntKind.wrap_u32]
              omega
            have HNX := Lib.hid ((HJ.out.store HG.out j z).congr (f' := fun k => if k < j + 1 then sumw G R k else co G k) (fun k _ => by
              unfold upd
              show (if k = j then z else if k < j then sumw G R k else co G k) = if k < j + 1 then sumw G R k else co G k
              by_cases e : k = j
              · subst e; rw [if_pos rfl, if_pos (Nat.lt_succ_self _), HU.out ()]
              · rw [if_neg e]
                by_cases h : k < j
                · rw [if_pos h, if_pos (by omega)]
                · rw [if_neg h, if_neg (by omega)]))
            go_wp2
            go_roundg gk
            case measure => exact Nat.lt_succ_self _
            case rel => exact ⟨j + 1, by have := HJG.out; omega, by go_num, HNX.out⟩
end Go.Proofs.YtfhmafncpodlbaaDoor

/-
  What bytes.Clone does. Conditions: no more than 2^16 bytes.
-/
namespace Go.Proofs.YtfhmafncpodlbaaDoor
open Go.RowKit
open Pol (co Sm)

/-- Bytes of a call's own that read as these. -/
def CloneS (t : List Nat) (w : World) (e : Ending) (w' : World) : Prop := Ext w w' ∧ ∃ v, e = .returned v ∧ Mine w' w.heap.size v t
set_option maxHeartbeats 800000 in
set_option maxRecDepth 100000 in
theorem cr_clone (t : List Nat) (A : Option Addr) (c : Nat) (w : World) (hr : Rd w A t) (hl : t.length ≤ 65536) : Calls Tryd.prog 31 #[.slice A t.length c] w (CloneS t w) := by
  unfold CloneS
  have HR := Lib.hid hr
  obtain ⟨n, hn⟩ : ∃ n, t.length = n := ⟨_, rfl⟩
  have HN := Lib.hid hn
  rw [hn] at hl ⊢
  have qn : ∀ (W : World) (B : Option Addr) (n c : Nat), (binOp .eql 22 (.slice B n c) (.slice none 0 0)).run Tryd.prog W = .ok (.bool B.isNone) W := fun W B n c => Lib.run_eql_slice_nil W _ _ B n c 0 0 Tryd.underlying22
  cases A with
  | none =>
    have ht : t = [] := by
      rcases Nat.eq_zero_or_pos t.length with h | h
      · exact List.eq_nil_of_length_eq_zero h
      · obtain ⟨_, _, e, _⟩ := hr.2 0 h; cases e
    have HT := Lib.hid ht
    clear hr hn ht
    go_enter Tryd.func31, Tryd.ntmps31
    go_wp2
    skip
    go_ret
    exact ⟨Ext.refl _, _, rfl, by rw [HT.out]; exact Mine.nil _ _⟩
  | some a =>
    have hx := (Ext.refl w).alloc (.cells #[] 5)
    have HX := Lib.hid hx
    have HM := Lib.hid (mine_empty w)
    clear hr hn hx
    go_enter Tryd.func31, Tryd.ntmps31
    go_wp2_with (at_builtin; refine wpList_append_rd rfl (.tmp 5) (.tmp 6) rfl w.heap.size (.slice (some ⟨w.heap.size, 0, none⟩) 0 0) [] t rfl HM.out (some a) n c rfl HN.out (HR.out.ext HX.out) (by rw [HN.out]; simp; omega) HX.out.size ?_; intro v' w3 hown' hg' hat'; rw [List.nil_append] at hown'; have HM2 := Lib.hid hown'; have HX2 := Lib.hid (HX.out.more hg' (fun k e => (HM.out.block k e).1)); clear hown' hg' hat')
    go_ret
    exact ⟨HX2.out, _, rfl, HM2.out⟩
end Go.Proofs.YtfhmafncpodlbaaDoor

/-
  What ending of layer 10 does: the bytes behind the last whole block, filled up. Conditions: no more than 2^20 bytes in all; fewer than 64 are left.
-/
namespace Go.Proofs.YtfhmafncpodlbaaDoor
open Go.RowKit
open Pol (co Sm)

/-- What stands behind an input of n bytes, of which r are left. -/
def endb (r : List Nat) (n : Nat) : List Nat := r ++ [128] ++ List.replicate (padz n) 0 ++ (List.range 8).map (len8 n)
theorem padz_mod (r n : Nat) (h : r = n % 64) : padz r = padz n := by
  subst h
  unfold padz
  omega
theorem endb_len (r : List Nat) (n : Nat) : (endb r n).length = r.length + 1 + padz n + 8 := by
  unfold endb
  simp only [List.length_append, List.length_singleton, List.length_replicate, List.length_map, List.length_range]
theorem endb_padded (t : List Nat) (k : Nat) : t.take k ++ endb (t.drop k) t.length = padded t := by
  unfold endb padded
  simp only [← List.append_assoc, List.take_append_drop]
theorem endb_sm {r : List Nat} (h : Sm r) (n : Nat) : Sm (endb r n) := by
  unfold endb
  refine sm_app (sm_app (sm_app h (Sm.cons (by omega) Sm.nil)) (Pol.co_lt_of fun x hx => by rw [(List.mem_replicate.1 hx).2]; omega)) (Pol.co_lt_of fun x hx => ?_)
  obtain ⟨q, _, rfl⟩ := List.mem_map.1 hx
  exact Nat.mod_lt _ (by decide)

set_option maxHeartbeats 1600000 in
set_option maxRecDepth 100000 in
theorem sh_ending (b : List Nat) (A : Option Addr) (ca N : Nat) (w : World) (hr : Rd w A b) (h64 : b.length = N % 64) (hN : N ≤ 1048576) :
    Calls Tryd.prog 21 #[.slice A b.length ca, .int .i64 (N : Int)] w (Gives (endb b N) w) := by
  obtain ⟨base, hbase⟩ : ∃ g, w.heap.size = g := ⟨_, rfl⟩
  have HB := Lib.hid hbase
  have HCL := Lib.hid (cr_clone b A ca w hr (by omega))
  have HE8 := Lib.hid (endb_sm hr.1 N)
  obtain ⟨n, hn⟩ : ∃ n, b.length = n := ⟨_, rfl⟩
  have HN := Lib.hid hn
  have HR := Lib.hid hr.1
  rw [hn] at h64 HCL ⊢
  have hn64 : n < 64 := by omega
  have HNM := Lib.hid h64
  have hpm := padz_mod n N h64
  clear hr hn h64 hbase
  go_enter Tryd.func21, Tryd.ntmps21
  go_wp2_with fail
  refine (HCL.out).mono ?_
  rintro e wc ⟨hxc, v7, rfl, hmc⟩
  rw [HB.out] at hmc
  have HX7 := Lib.hid hxc
  have HM7 := Lib.hid hmc
  clear hxc hmc
  go_wp2_with (at_builtin; refine wpList_append_rd rfl (.tmp 9) (.tmp 10) rfl base v7 b [128] rfl (mine_ext HM7.out ((Ext.refl _).alloc _)) (some ⟨wc.heap.size, 0, none⟩) 1 1 rfl rfl (rd_one wc 128 (by omega)) (by rw [HN.out]; simp; omega) (by have := HX7.out.size; have := HB.out; simp; omega) ?_; intro v8 w8 hown8 hg8 hat8; have HX8 := Lib.hid ((HX7.out.alloc (.cells #[.int .u8 128] 5)).more hg8 (fun q hq => by rw [HB.out]; exact (HM7.out.block q hq).1)); have HM8 := Lib.hid hown8; clear hown8 hg8 hat8)
  have HS8 := Lib.hid (show Sm (b ++ [128]) from sm_app HR.out (Sm.cons (by omega) Sm.nil))
  obtain ⟨pz, hpz⟩ : ∃ pz, padz n = pz := ⟨_, rfl⟩
  have hpz64 : pz < 64 := by rw [← hpz]; unfold padz; omega
  have HPZ := Lib.hid (fun j (h : j ≤ pz) => show (n + 1 + j) % 64 = 56 ↔ j = pz from by rw [← hpz] at h ⊢; exact padz_stop n j h)
  have HZP := Lib.hid (fun (_ : Unit) => show padz N = pz from by rw [← hpm, hpz])
  have HLZ := Lib.hid (fun j => show (b ++ [128] ++ List.replicate j 0).length = n + 1 + j from by simp [HN.out]; omega)
  have HZS := Lib.hid (fun j => show b ++ [128] ++ List.replicate (j + 1) 0 = b ++ [128] ++ List.replicate j 0 ++ [0] from by rw [List.replicate_succ', ← List.append_assoc])
  have HSZ := Lib.hid (fun j => show Sm (b ++ [128] ++ List.replicate j 0) from sm_app HS8.out (Pol.co_lt_of fun x hx => by rw [(List.mem_replicate.1 hx).2]; omega))
  have HM8' := Lib.hid (show Mine w8 base v8 (b ++ [128] ++ List.replicate 0 0) from by rw [List.replicate_zero, List.append_nil]; exact HM8.out)
  clear hpz hpm
  go_loopg [5] pz (fun gk s5 wx => ∃ j : Nat, j + gk = pz ∧ Mine wx base s5 (b ++ [128] ++ List.replicate j 0) ∧ Ext w wx)
  case atStart => exact ⟨0, by omega, HM8'.out, HX8.out⟩
  case round =>
    obtain ⟨j, hjg, hm, hx⟩ := hrel
    have HM := Lib.hid hm
    have HXX := Lib.hid hx
    obtain ⟨B7, c7, rfl, hc7, _⟩ := hm.slice (HSZ.out j)
    rw [HLZ.out] at hc7 HM ⊢
    have hs7 := hx.size
    rw [HB.out] at hs7
    have HJG := Lib.hid hjg
    clear hm hx
    obtain ⟨L, hL⟩ : ∃ L, n + 1 + j = L := ⟨_, rfl⟩
    have HL := Lib.hid hL
    have hz := HPZ.out j (by omega)
    rw [hL] at hc7 HM hz ⊢
    have hLb : L < 1048576 := by omega
    have em : (L : Int).tmod 64 = ((L % 64 : Nat) : Int) := by rw [Int.tmod_eq_emod_of_nonneg (by omega)]; omega
    clear hL
    cases gk with
    | zero =>
      obtain rfl : j = pz := by omega
      have hz' : L % 64 = 56 := hz.2 rfl
      have em' : (L : Int) % 64 = 56 := by omega
      clear hz hjg em hz'
      have ew : IntKind.u64.wrap (N : Int) = (N : Int) := by rw [IntKind.wrap_u64]; omega
      have ew8 : IntKind.u64.wrap (8 * (N : Int)) = (N : Int) * 8 := by rw [IntKind.wrap_u64]; omega
      go_wp2_with fail
      rw [← HZP.out ()] at HM
      have HMT := Lib.hid (show Mine wr base (.slice B7 L c7) (b ++ [128] ++ List.replicate (padz N) 0 ++ (List.range 0).map (len8 N)) from by rw [List.range_zero, List.map_nil, List.append_nil]; exact HM.out)
      have HXT := HXX
      have HST := Lib.hid (fun j => show Sm (b ++ [128] ++ List.replicate (padz N) 0 ++ (List.range j).map (len8 N)) from sm_app (HSZ.out _) (Pol.co_lt_of fun x hx => by
        obtain ⟨q, _, rfl⟩ := List.mem_map.1 hx
        exact Nat.mod_lt _ (by decide)))
      have HLT := Lib.hid (fun j => show (b ++ [128] ++ List.replicate (padz N) 0 ++ (List.range j).map (len8 N)).length = n + 1 + padz N + j from by rw [List.length_append, HLZ.out, List.length_map, List.length_range])
      have HTS := Lib.hid (fun j => show b ++ [128] ++ List.replicate (padz N) 0 ++ (List.range (j + 1)).map (len8 N) = b ++ [128] ++ List.replicate (padz N) 0 ++ (List.range j).map (len8 N) ++ [len8 N j] from by rw [List.range_succ, List.map_append, ← List.append_assoc]; rfl)
      have HV := Lib.hid (fun j => len8_at N j)
      have hp64 : padz N < 64 := by unfold padz; omega
      clear HM HXX hc7 hs7 hLb HL em' hpz64 ew ew8
      obtain ⟨wt, hwt⟩ : ∃ q, q = wr := ⟨_, rfl⟩
      subst hwt
      go_loopg [5, 22] 8 (fun gk s5 s22 wx => ∃ j : Nat, j + gk = 8 ∧ s22 = .int .i64 (j : Int) ∧ Mine wx base s5 (b ++ [128] ++ List.replicate (padz N) 0 ++ (List.range j).map (len8 N)) ∧ Ext w wx)
      case atStart => exact ⟨0, by omega, rfl, HMT.out, HXT.out⟩
      case round =>
        obtain ⟨j, hjg, rfl, hm, hx⟩ := hrel
        have HM := Lib.hid hm
        have HXX := Lib.hid hx
        obtain ⟨B7, c7, rfl, hc7, _⟩ := hm.slice (HST.out j)
        rw [HLT.out] at hc7 HM ⊢
        have hs7 := hx.size
        rw [HB.out] at hs7
        have HJG := Lib.hid hjg
        clear hm hx
        cases gk with
        | zero =>
          obtain rfl : j = 8 := by omega
          go_wp2
          go_ret
          exact gives_of HM.out rfl HE8.out HXX.out
        | succ gk =>
          have hj8 : j < 8 := by omega
          have hjI : (j : Int) < 8 := by omega
          obtain ⟨v, hv⟩ : ∃ v, 56 - 8 * j = v := ⟨_, rfl⟩
          have hvI : 56 - 8 * (j : Int) = (v : Int) := by omega
          have hq2 := HV.out j v (by omega)
          obtain ⟨d, hd⟩ : ∃ d, len8 N j = d := ⟨_, rfl⟩
          have hd8 : d < 256 := by rw [← hd]; exact Nat.mod_lt _ (by decide)
          have HTJ := Lib.hid (fun (_ : Unit) => HTS.out j)
          rw [hd] at HTJ hq2
          have hq3 : (N : Int) * 8 / 2 ^ v % 256 = (d : Int) := by
            have e : min (IntKind.u64.wrap (v : Int)).toNat 64 = v := by rw [IntKind.wrap_u64]; omega
            rw [e] at hq2
            exact hq2
          clear hq2
          have e1 : wrap64 (8 * (j : Int)) = 8 * (j : Int) := by unfold wrap64; omega
          have e2 : wrap64 (56 - 8 * (j : Int)) = (v : Int) := by unfold wrap64; omega
          obtain ⟨L, hL⟩ : ∃ L, n + 1 + padz N + j = L := ⟨_, rfl⟩
          have HL := Lib.hid hL
          rw [hL] at hc7 HM ⊢
          have hLb : L < 1048576 := by omega
          clear hL hd hv hjg
          go_wp2_with (at_builtin; refine wpList_append_rd rfl (.tmp 25) (.tmp 32) rfl base (.slice B7 L c7) (b ++ [128] ++ List.replicate (padz N) 0 ++ (List.range j).map (len8 N)) [d] rfl (mine_ext HM.out ((Ext.refl _).alloc _)) (some ⟨wr.heap.size, 0, none⟩) 1 1 rfl rfl (rd_one wr d hd8) (by rw [HLT.out, HL.out]; simp; omega) (by simp; omega) ?_; intro v9 w9 hown9 hg9 hat9; rw [← (HTJ.out ())] at hown9; have HX9 := Lib.hid ((HXX.out.alloc (.cells #[.int .u8 (d : Int)] 5)).more hg9 (fun q hq => by rw [HB.out]; exact (HM.out.block q hq).1)); have HM9 := Lib.hid hown9; clear hown9 hg9 hat9)
          go_roundg gk
          case measure => omega
          case rel => exact ⟨j + 1, by have := HJG.out; omega, by go_num, HM9.out, HX9.out⟩
    | succ gk =>
      have hz' : L % 64 ≠ 56 := fun h => by have := hz.1 h; omega
      have em' : (L : Int) % 64 ≠ 56 := by omega
      clear hz hjg em hz'
      go_wp2_with (at_builtin; refine wpList_append_rd rfl (.tmp 16) (.tmp 17) rfl base (.slice B7 L c7) (b ++ [128] ++ List.replicate j 0) [0] rfl (mine_ext HM.out ((Ext.refl _).alloc _)) (some ⟨wr.heap.size, 0, none⟩) 1 1 rfl rfl (rd_one wr 0 (by omega)) (by rw [HLZ.out, HL.out]; simp; omega) (by simp; omega) ?_; intro v9 w9 hown9 hg9 hat9; rw [← HZS.out] at hown9; have HX9 := Lib.hid ((HXX.out.alloc (.cells #[.int .u8 0] 5)).more hg9 (fun q hq => by rw [HB.out]; exact (HM.out.block q hq).1)); have HM9 := Lib.hid hown9; clear hown9 hg9 hat9)
      go_roundg gk
      case measure => omega
      case rel => exact ⟨j + 1, by have := HJG.out; omega, HM9.out, HX9.out⟩
end Go.Proofs.YtfhmafncpodlbaaDoor
