/-
  Part 6 of the texts that the seat's proofs stand on; each part of it begins with its own sentence and conditions. Conditions: those that each theorem names.
-/
import Derived.Test.YthbfodmpoheahaaDoorGrowsPack5
import Derived.Laws.BytesString
import Derived.Laws.ResultCell
import Derived.Lib.TrailingZeros
import Derived.Lib.Hide

/-
  What Hex of layer 10 does. Conditions: none but that the digest reads as bytes.
-/
namespace Go.Proofs.YthbfodmpoheahaaDoor
open Go.RowKit
open Pol (co Sm)

/-- The digits as numbers. -/
def hxn (l : List Nat) : List Nat := (hxs l).map UInt8.toNat
theorem hxn_len (l : List Nat) : (hxn l).length = 2 * l.length := by unfold hxn; rw [List.length_map, hxs_len]
theorem hxn_sm (l : List Nat) : Sm (hxn l) := Pol.co_lt_of fun x hx => by
  unfold hxn at hx
  obtain ⟨y, _, rfl⟩ := List.mem_map.1 hx
  exact y.toNat_lt
theorem hxs_append : ∀ a b : List Nat, hxs (a ++ b) = hxs a ++ hxs b
  | [], _ => rfl
  | x :: a, b => by rw [List.cons_append, hxs, hxs, hxs_append a b]; rfl
theorem hxn_more (l : List Nat) (i : Nat) (h : i < l.length) : hxn (l.take (i + 1)) = hxn (l.take i) ++ [(hxd (co l i / 16)).toNat, (hxd (co l i % 16)).toNat] := by
  unfold hxn
  rw [List.take_succ_eq_append_getElem h, hxs_append, List.map_append]
  have e : co l i = l[i] := by unfold co; rw [List.getElem?_eq_getElem h]; rfl
  rw [e]
  rfl
theorem foldl_push : ∀ (L : List UInt8) (acc : ByteArray), (L.map (fun x => (x.toNat : Int))).foldl (fun (r : ByteArray) n => r.push (UInt8.ofNat n.toNat)) acc = ⟨acc.data ++ L.toArray⟩
  | [], acc => by simp
  | x :: L, acc => by
    rw [List.map_cons, List.foldl_cons, foldl_push L]
    apply ByteArray.ext
    simp [ByteArray.push]
theorem hex_text (w : World) (b o : Nat) (l : List Nat) (n c : Nat) (hn : (hxn l).length = n) (h : Rd w (some ⟨b, o, none⟩) (hxn l)) :
    (Conv.bytesToString (.slice (some ⟨b, o, none⟩) n c)).run Tryd.prog w = .ok (.string (hxb l)) w := by
  have e0 : ((hxs l).map (fun x => (x.toNat : Int))).map (Value.int .u8) = (List.range n).map (fun j => Value.int .u8 ((co (hxn l) j : Nat) : Int)) := by
    apply List.ext_getElem
    · rw [List.length_map, List.length_map, List.length_map, List.length_range, ← hn]; unfold hxn; rw [List.length_map]
    · intro j h1 h2
      have hj : j < (hxs l).length := by simpa using h1
      simp only [List.getElem_map, List.getElem_range]
      congr 2
      unfold hxn co
      rw [List.getElem?_map, List.getElem?_eq_getElem hj]
      rfl
  have hl := run_bytesToString (P := Tryd.prog) w ⟨b, o, none⟩ n c ((hxs l).map (fun x => (x.toNat : Int))) (by
    rw [e0]
    have h2 := run_loadCells (P := Tryd.prog) (w := w) ⟨b, o, none⟩ n (fun j => Value.int .u8 ((co (hxn l) j : Nat) : Int)) (fun j hj => by
      obtain ⟨b', o', e1, hc⟩ := h.2 j (by omega)
      injection e1 with e1
      injection e1 with e2 e3
      subst e2; subst e3
      have e : (⟨b, o, none⟩ : Addr).add j = ⟨b, o + j, none⟩ := by unfold Addr.add; split <;> simp_all
      rw [e]
      exact hc)
    rw [h2])
  rw [hl, foldl_push]
  congr 1
  congr 1
  apply ByteArray.ext
  simp [hxb]

set_option maxRecDepth 100000 in
theorem and15 : ∀ x : Nat, x < 256 → bits .and .u8 (x : Int) 15 = ((x % 16 : Nat) : Int) := by decide
set_option maxHeartbeats 1600000 in
set_option maxRecDepth 100000 in
theorem sh_hex (c : Array Value) (d : List Nat) (w : World) (hc : Dgc c d) (hd : d.length = 32) (hsm : Sm d) :
    Calls Tryd.prog 23 #[.agg c] w (HexS d w) := by
  unfold HexS
  have hi1 : (Tryd.prog.info? 30).map (·.size) = some c.size := by rw [hc.1]; exact zero_digest.2
  have hmk := fun W => run_make_cap 64 64 rfl (by decide) W
  obtain ⟨B64, hB64⟩ : ∃ B, (bt 64 fun _ => 0) = B := ⟨_, rfl⟩
  have HMM := Lib.hid (fun W => mine_made W 64 (by decide))
  rw [hB64] at HMM
  simp only [hB64] at hmk
  have hw1 : Ext w ((w.alloc (.cells c 30)).alloc (.cells B64 5)) := ((Ext.refl w).alloc _).alloc _
  have HX1 := Lib.hid hw1
  have HG1 := Lib.hid (show ((w.alloc (.cells c 30)).alloc (.cells B64 5)).heap[w.heap.size]? = some (.cells c 30 (0, 0)) from by rw [heap_alloc_old _ _ (by simp)]; exact heap_alloc_new w _)
  have HS1 := Lib.hid (show w.heap.size + 1 ≤ ((w.alloc (.cells c 30)).alloc (.cells B64 5)).heap.size from by simp)
  have HM1 := Lib.hid (show Mine ((w.alloc (.cells c 30)).alloc (.cells B64 5)) (w.heap.size + 1) (.slice (some ⟨w.heap.size + 1, 0, none⟩) 0 64) (hxn (d.take 0)) from by
    have h := HMM.out (w.alloc (.cells c 30))
    have e : (w.alloc (.cells c 30)).heap.size = w.heap.size + 1 := by simp
    rw [e] at h
    exact h)
  have HI1 := Lib.hid hi1
  have HCX := Lib.hid (fun (i : Nat) (hi : i < 32) => show ∀ W, (Instr.index 30 (.agg c) (.int .i64 (i : Int))).run Tryd.prog W = .ok (.int .u8 ((co d i : Nat) : Int)) W from fun W => idx_arr Tryd.underlying30 (by kernel_rfl) (by kernel_rfl) ⟨_, rfl⟩ _ i _ hi (hc.2 i hi) W)
  have HDX := Lib.hid (fun (i : Nat) (hi : i < 16) => show ∀ W, (Instr.index 9 (.string { data := #[48, 49, 50, 51, 52, 53, 54, 55, 56, 57, 97, 98, 99, 100, 101, 102] }) (.int .u8 (i : Int))).run Tryd.prog W = .ok (.int .u8 (((hxd i).toNat : Nat) : Int)) W from fun W => idxL dgs .u8 i (hxd i) (dgs_at i hi) W)
  have HMO := Lib.hid (fun i (hi : i < 32) => hxn_more d i (by rw [hd]; exact hi))
  have HSM := Lib.hid (fun i => show co d i < 256 from hsm i)
  have HLN := Lib.hid (fun i (hi : i ≤ 32) => show (hxn (d.take i)).length = 2 * i from by rw [hxn_len, List.length_take, hd, Nat.min_eq_left hi])
  have HAL := Lib.hid (show d.take 32 = d from by rw [← hd, List.take_length])
  clear hc hd hsm hi1 hB64 hw1
  go_enter Tryd.func23, Tryd.ntmps23
  go_wp2_with (with_reducible refine wpList_load_row rfl 30 (.tmp 1) rfl w.heap.size rfl 30 c (0, 0) _ HG1.out Tryd.underlying30 rfl HI1.out ?_)
  obtain ⟨base, hb⟩ : ∃ b, w.heap.size + 1 = b := ⟨_, rfl⟩
  rw [hb] at HM1 HS1 ⊢
  have HB := Lib.hid hb
  generalize (w.alloc (.cells c 30)).alloc (.cells B64 5) = w1 at HX1 HG1 HM1 HS1 ⊢
  clear hb HMM HG1 hmk
  go_loopg [3, 8] 32 (fun gk s3 s8 wx => ∃ i : Nat, i + gk = 32 ∧ s8 = .int .i64 (i : Int) ∧ Mine wx base s3 (hxn (d.take i)) ∧ Ext w wx ∧ base ≤ wx.heap.size)
  case atStart => exact ⟨0, by omega, rfl, HM1.out, HX1.out, HS1.out⟩
  case round =>
    obtain ⟨i, hig, rfl, hm, hx, hbs⟩ := hrel
    have HM := Lib.hid hm
    have HX := Lib.hid hx
    have HBS := Lib.hid hbs
    obtain ⟨B3, c3, rfl, hc3, hr3⟩ := hm.slice (hxn_sm _)
    cases gk with
    | zero =>
      obtain rfl : i = 32 := by omega
      have hl := HLN.out 32 (Nat.le_refl _)
      rw [HAL.out] at hl hr3
      rw [HAL.out, hl]
      obtain ⟨b, o, eB, _⟩ := hr3.2 0 (by rw [hl]; decide)
      subst eB
      have hcv : (convert 35 9 (.slice (some ⟨b, o, none⟩) (2 * 32) c3)).run Tryd.prog wr = .ok (.string (hxb d)) wr := by
        rw [run_convert_bytes_string wr 35 9 5 _ _ _ Tryd.underlying35 (by kernel_rfl) Tryd.underlying9]
        exact hex_text wr b o d _ c3 hl hr3
      clear hr3 hl hc3 HM hm hig
      go_wp2
      go_ret
      exact ⟨rfl, HX.out⟩
    | succ gk =>
      have hi : i < 32 := by omega
      have hiI : (i : Int) < 32 := by omega
      have hix := HCX.out i hi
      have HMI := Lib.hid (HMO.out i hi)
      have hl := HLN.out i (by omega)
      rw [hl] at HM hc3 ⊢
      have HLI := Lib.hid hl
      have hxb := HSM.out i
      obtain ⟨x, hx'⟩ : ∃ x, co d i = x := ⟨_, rfl⟩
      rw [hx'] at hix HMI hxb
      obtain ⟨q, hq⟩ : ∃ q, x / 16 = q := ⟨_, rfl⟩
      obtain ⟨r, hr⟩ : ∃ r, x % 16 = r := ⟨_, rfl⟩
      have e1 : (x : Int) / 16 = (q : Int) := by omega
      have e2 : bits .and .u8 (x : Int) 15 = (r : Int) := by rw [and15 x hxb, hr]
      have hdq := HDX.out q (by omega)
      have hdr := HDX.out r (by omega)
      rw [hq, hr] at HMI
      have hyq := (hxd q).toNat_lt
      have hyr := (hxd r).toNat_lt
      obtain ⟨yq, hyq'⟩ : ∃ y, (hxd q).toNat = y := ⟨_, rfl⟩
      obtain ⟨yr, hyr'⟩ : ∃ y, (hxd r).toNat = y := ⟨_, rfl⟩
      rw [hyq'] at hdq HMI hyq
      rw [hyr'] at hdr HMI hyr
      have HIG := Lib.hid hig
      have HSQ := Lib.hid (show Sm [yq, yr] from Sm.cons (by omega) (Sm.cons (by omega) Sm.nil))
      obtain ⟨L, hL⟩ : ∃ L, 2 * i = L := ⟨_, rfl⟩
      rw [hL] at HM hc3 HLI ⊢
      have hLb : L ≤ 64 := by omega
      clear hm hx hbs hr3 hl hx' hq hr hyq' hyr' hL hig
      go_wp2_with fail
      refine wp_region_plan (AfterT wr) [0, 1, 2, 3, 4, 5, 6, 7] (.yes 0 (.yes 1 (.yes 2 (.yes 3 (.yes 4 (.yes 5 (.yes 6 (.one 7 (.one 8 (.one 9 .done)))))))))) (by kernel_rfl) (fun c a a' w e h => ⟨e ▸ h.1, h.2⟩) (by kernel_rfl) ((Ext.refl wr).drew) ?_
      refine plan_yes rfl (fun K hK => ?_); go_simp; refine ⟨_, fun _ _ => rfl, hK _ ?_⟩; clear hK K
      refine plan_yes rfl (fun K hK => ?_); go_simp; refine ⟨_, fun _ _ => rfl, hK _ ?_⟩; clear hK K
      refine plan_yes rfl (fun K hK => ?_); go_simp; refine ⟨_, fun _ _ => rfl, hK _ ?_⟩; clear hK K
      refine plan_yes rfl (fun K hK => ?_); go_simp; refine ⟨_, fun _ _ => rfl, hK _ ?_⟩; clear hK K
      refine plan_yes rfl (fun K hK => ?_); go_simp; refine ⟨_, fun _ _ => rfl, hK _ ?_⟩; clear hK K
      refine plan_yes rfl (fun K hK => ?_); go_simp; refine ⟨_, fun _ _ => rfl, hK _ ?_⟩; clear hK K
      refine plan_yes rfl (fun K hK => ?_); go_simp; refine ⟨_, fun _ _ => rfl, hK _ ?_⟩; clear hK K
      refine plan_one rfl (fun K hK => ?_)
      go_wp2
      have HXA := Lib.hid (show AfterT wr (World.drew (World.alloc wr (.cells #[.int .u8 (yq : Int), .int .u8 (yr : Int)] 5))) from (Ext.alloc (Ext.refl wr) _).drew)
      refine ⟨fun _ => HXA.out, ?_⟩
      refine plan_one rfl (fun K hK => ?_)
      go_wp2_with (at_builtin; refine wpList_append_rd rfl (.tmp 11) (.tmp 18) rfl base (.slice B3 L c3) (hxn (d.take i)) [yq, yr] rfl (mine_ext HM.out HXA.out) (some ⟨wr.heap.size, 0, none⟩) 2 2 rfl rfl (Rd.ext (rd_lit wr [yq, yr] HSQ.out) ((Ext.refl _).drew)) (by rw [HLI.out]; simp; omega) (by have := HBS.out; simp; omega) ?_; intro v9 w9 hown9 hg9 hat9; rw [← HMI.out] at hown9; have HX9 := Lib.hid ((HX.out.trans HXA.out).more hg9 (fun q hq => by have := (HM.out.block q hq).1; have := HB.out; omega)); have HM9 := Lib.hid hown9; have HS9 := Lib.hid (show base ≤ w9.heap.size from by have := hg9.size; have := HXA.out.size; have := HBS.out; omega); clear hown9 hg9 hat9)
      refine ⟨fun h => absurd h (by decide), ?_⟩
      refine plan_one rfl (fun K hK => ?_)
      go_wp2
      refine ⟨fun h => absurd h (by decide), ?_⟩
      unfold wpPlan
      go_wp2
      go_roundg gk
      case measure => omega
      case rel => exact ⟨i + 1, by have := HIG.out; omega, by go_num, HM9.out, HX9.out, HS9.out⟩
end Go.Proofs.YthbfodmpoheahaaDoor

/-
  What Of and Hex of layer 10 do, as one statement, for the layers above it. Conditions: no more than 2^16 bytes; the constants lie where they were laid.
-/
namespace Go.Proofs.YthbfodmpoheahaaDoor
open Go.RowKit
open Pol (co Sm)

structure ShaOH : Prop where
  of : ∀ (b : List Nat) (A : Option Addr) (c : Nat) (w : World), GL w → Rd w A b → b.length ≤ c → b.length ≤ 65536 → Calls Tryd.prog 22 #[.slice A b.length c] w (DgS (sha b) w)
  hex : ∀ (c : Array Value) (d : List Nat) (w : World), Dgc c d → d.length = 32 → Sm d → Calls Tryd.prog 23 #[.agg c] w (HexS d w)
theorem shaOH : ShaOH where
  of b A c w hg hr hc hl := sh_of b A c w hg hr hc hl
  hex c d w hc hd hs := sh_hex c d w hc hd hs
end Go.Proofs.YthbfodmpoheahaaDoor

/-
  What leaf and join of layer 11 do. Conditions: no more than 2^16 bytes less one; the constants of layer 10 lie where they were laid.
-/
namespace Go.Proofs.YthbfodmpoheahaaDoor
open Go.RowKit
open Pol (co Sm)

theorem rowsV_2 {W : World} {v1 v2 : Value} {a b : List Nat} (h1 : Sl W v1 a) (h2 : Sl W v2 b) : RowsV W [v1, v2] [a, b] := (rowsV_one h1).append (rowsV_one h2)
theorem rowsV_3 {W : World} {v1 v2 v3 : Value} {a b c : List Nat} (h1 : Sl W v1 a) (h2 : Sl W v2 b) (h3 : Sl W v3 c) : RowsV W [v1, v2, v3] [a, b, c] := ((rowsV_one h1).append (rowsV_one h2)).append (rowsV_one h3)
theorem sl_lit1 (W : World) (g x : Nat) (hx : x < 256) (hg : W.heap.size = g) : Sl (W.alloc (.cells #[.int .u8 (x : Int)] 5)) (.slice (some ⟨g, 0, none⟩) 1 1) [x] := by
  subst hg
  exact ⟨some ⟨W.heap.size, 0, none⟩, 1, rfl, Nat.le_refl _, rd_one W x hx⟩
set_option maxHeartbeats 1600000 in
set_option maxRecDepth 100000 in
theorem mk_leaf (S : ShaOH) (t : List Nat) (A : Option Addr) (c : Nat) (w : World) (hgl : GL w) (hr : Rd w A t) (hc : t.length ≤ c) (hl : t.length ≤ 65535) :
    Calls Tryd.prog 25 #[.slice A t.length c] w (Tells (dgv (lf sha t)) w) := by
  obtain ⟨g0, hg0⟩ : ∃ g, w.heap.size = g := ⟨_, rfl⟩
  have HW0 := Lib.hid hg0
  have HT := Lib.hid (show ([[0], t] : List (List Nat)).flatten.length = t.length + 1 ∧ ([[0], t] : List (List Nat)).flatten = 0 :: t ∧ Sm (0 :: t) ∧ (0 :: t).length = t.length + 1 from ⟨by simp, by simp, Sm.cons (by omega) hr.1, by simp⟩)
  have HOF := Lib.hid (fun A c W (hg : GL W) (h : Rd W A (0 :: t)) (hc : (0 :: t).length ≤ c) => S.of (0 :: t) A c W hg h hc (by simp; omega))
  have HCT := Lib.hid (fun A c W (h : RRd W A [[0], t]) => show Calls Tryd.prog 42 #[.slice A 2 c] W (CloneS ([[0], t] : List (List Nat)).flatten W) from mk_cat [[0], t] A c W h (by simp) (by rw [HT.out.1]; omega))
  have HSL := Lib.hid (show Sl w (.slice A t.length c) t from ⟨A, c, rfl, hc, hr⟩)
  rw [HT.out.2.1] at HCT
  rw [HT.out.2.2.2] at HOF
  have HGL := Lib.hid hgl
  obtain ⟨n, hn⟩ : ∃ n, t.length = n := ⟨_, rfl⟩
  have HN := Lib.hid hn
  rw [hn] at hl hc HT HOF HSL ⊢
  have hz := zero_digest.1
  have HZ32 := Lib.hid (fun (_ : Unit) => show (bt 32 fun _ => 0).size = 32 from bt_size _ _)
  obtain ⟨Z, hZ⟩ : ∃ Z, (bt 32 fun _ => 0) = Z := ⟨_, rfl⟩
  rw [hZ] at hz HZ32
  unfold DgS at HOF
  unfold CloneS at HCT
  have HL := Lib.hid (show sha (0 :: t) = lf sha t from rfl)
  rw [HL.out] at HOF
  clear HL
  obtain ⟨D, hD⟩ : ∃ D, lf sha t = D := ⟨_, rfl⟩
  rw [hD] at HOF ⊢
  have hx1 := (Ext.refl w).alloc (.cells Z 30)
  have hr0 : (w.alloc (.cells Z 30)).heap[g0]? = some (.cells Z 30 (0, 0)) := by rw [← hg0]; exact heap_alloc_new w _
  have hs1 : (w.alloc (.cells Z 30)).heap.size = g0 + 1 := by rw [← hg0]; simp
  obtain ⟨w1, hw1⟩ : ∃ q, w.alloc (.cells Z 30) = q := ⟨_, rfl⟩
  rw [hw1] at hx1 hr0 hs1
  have HW1 := Lib.hid hw1
  have HX1 := Lib.hid hx1
  have HR0 := Lib.hid hr0
  have hx2 : Ext w1 (w1.alloc (.cells #[.int .u8 0] 5)) := (Ext.refl w1).alloc _
  have HRV := Lib.hid (show RowsV (w1.alloc (.cells #[.int .u8 0] 5)) [.slice (some ⟨g0 + 1, 0, none⟩) 1 1, .slice A n c] [[0], t] from rowsV_2 (sl_lit1 w1 (g0 + 1) 0 (by omega) hs1) ((HSL.out.ext HX1.out).ext hx2))
  have HS2 := Lib.hid (show (w1.alloc (.cells #[.int .u8 0] 5)).heap.size = g0 + 1 + 1 from by rw [← hs1]; simp)
  have HRR := Lib.hid (show RRd ((w1.alloc (.cells #[.int .u8 0] 5)).alloc (.cells #[.slice (some ⟨g0 + 1, 0, none⟩) 1 1, .slice A n c] 35)) (some ⟨g0 + 1 + 1, 0, none⟩) [[0], t] from by
    have h := rrd_lit _ _ _ HRV.out
    rw [HS2.out] at h
    exact h)
  have HX3 := Lib.hid (show Ext w1 ((w1.alloc (.cells #[.int .u8 0] 5)).alloc (.cells #[.slice (some ⟨g0 + 1, 0, none⟩) 1 1, .slice A n c] 35)) from hx2.alloc _)
  have HZ1 := Lib.hid hs1
  clear hx1 hr0 hw1 hs1 hx2 hr hc hl hn hZ hD hgl
  go_enter Tryd.func25, Tryd.ntmps25
  go_wp2_with fail
  rw [HW1.out]
  refine (HCT.out _ 2 _ HRR.out).mono ?_
  rintro e w5 ⟨hx5, v5, rfl, hm5⟩
  obtain ⟨B5, c5, rfl, hc5, hr5⟩ := hm5.slice HT.out.2.2.1
  rw [HT.out.2.2.2] at hc5 ⊢
  have HX5 := Lib.hid (HX3.out.trans hx5)
  have HR5 := Lib.hid hr5
  have HC5 := Lib.hid hc5
  clear hx5 hm5 hr5 hc5
  go_wp2_with fail
  refine (HOF.out B5 c5 w5 (HGL.out.ext (HX1.out.trans HX5.out)) HR5.out HC5.out).mono ?_
  rintro e w9 ⟨V, rfl, hV, hx9⟩
  have HV := Lib.hid hV
  have HX9 := Lib.hid (HX5.out.trans hx9)
  have HR9 := Lib.hid (WBlk.ext' HR0.out HX9.out)
  have HI9 := Lib.hid hV.info
  have HO9 := Lib.hid hV.one
  have HZ9 := Lib.hid (show Z.size = V.size from by rw [hV.1]; exact HZ32.out ())
  have HG3 := Lib.hid (setRow_heap _ g0 _ V _ _ HR9.out)
  have HXX := Lib.hid ((HX1.out.trans HX9.out).setRow (g := g0) (by rw [HW0.out]; exact Nat.le_refl _) V)
  clear hV hx9
  go_wp2_with (with_reducible refine wpList_store_all rfl 30 (.tmp 2) (.tmp 7) rfl g0 Z V rfl rfl HR9.out HI9.out HZ9.out HO9.out ?_)
  exact ⟨rfl, .agg V, results_cell_row Tryd.results25 _ _ g0 30 V (0, 0) _ rfl HG3.out Tryd.underlying30 rfl HI9.out, by rw [HV.out.val], HXX.out⟩
end Go.Proofs.YthbfodmpoheahaaDoor

/-
  What join of layer 11 does. Conditions: two digests; the constants of layer 10 lie where they were laid.
-/
namespace Go.Proofs.YthbfodmpoheahaaDoor
open Go.RowKit
open Pol (co Sm)

set_option maxHeartbeats 1000000 in
set_option maxRecDepth 100000 in
theorem mk_join (S : ShaOH) (a b : List Nat) (w : World) (hgl : GL w) (ha : a.length = 32) (hb : b.length = 32) (hsa : Sm a) (hsb : Sm b) :
    Calls Tryd.prog 27 #[dgv a, dgv b] w (Tells (dgv (nd sha a b)) w) := by
  obtain ⟨g0, hg0⟩ : ∃ g, w.heap.size = g := ⟨_, rfl⟩
  have HW0 := Lib.hid hg0
  have HT := Lib.hid (show ([[1], a, b] : List (List Nat)).flatten = 1 :: (a ++ b) ∧ Sm (1 :: (a ++ b)) ∧ (1 :: (a ++ b)).length = 65 from ⟨by simp, Sm.cons (by omega) (sm_app hsa hsb), by simp [ha, hb]⟩)
  have HOF := Lib.hid (fun A c W (hg : GL W) (h : Rd W A (1 :: (a ++ b))) (hc : (1 :: (a ++ b)).length ≤ c) => S.of (1 :: (a ++ b)) A c W hg h hc (by rw [HT.out.2.2]; omega))
  have HCT := Lib.hid (fun A c W (h : RRd W A [[1], a, b]) => show Calls Tryd.prog 42 #[.slice A 3 c] W (CloneS ([[1], a, b] : List (List Nat)).flatten W) from mk_cat [[1], a, b] A c W h (by simp) (by rw [HT.out.1, HT.out.2.2]; omega))
  rw [HT.out.1] at HCT
  rw [HT.out.2.2] at HOF
  have HGL := Lib.hid hgl
  have hz := zero_digest.1
  have HZ32 := Lib.hid (fun (_ : Unit) => show (bt 32 fun _ => 0).size = 32 from bt_size _ _)
  obtain ⟨Z, hZ⟩ : ∃ Z, (bt 32 fun _ => 0) = Z := ⟨_, rfl⟩
  rw [hZ] at hz HZ32
  unfold DgS at HOF
  unfold CloneS at HCT
  have HL := Lib.hid (show sha (1 :: (a ++ b)) = nd sha a b from rfl)
  rw [HL.out] at HOF
  clear HL
  obtain ⟨D, hD⟩ : ∃ D, nd sha a b = D := ⟨_, rfl⟩
  rw [hD] at HOF ⊢
  unfold dgv
  have HRA := Lib.hid (fun (W : World) (g : Nat) (h : W.heap[g]? = some (.cells (bt 32 (co a)) 30 (0, 0))) => show Sl W (.slice (some ⟨g, 0, none⟩) 32 32) a from ⟨_, 32, by rw [ha], by omega, rd_of_blk h ha hsa⟩)
  have HRB := Lib.hid (fun (W : World) (g : Nat) (h : W.heap[g]? = some (.cells (bt 32 (co b)) 30 (0, 0))) => show Sl W (.slice (some ⟨g, 0, none⟩) 32 32) b from ⟨_, 32, by rw [hb], by omega, rd_of_blk h hb hsb⟩)
  obtain ⟨VA, hVA⟩ : ∃ V, bt 32 (co a) = V := ⟨_, rfl⟩
  obtain ⟨VB, hVB⟩ : ∃ V, bt 32 (co b) = V := ⟨_, rfl⟩
  rw [hVA] at HRA ⊢
  rw [hVB] at HRB ⊢
  obtain ⟨VD, hVD⟩ : ∃ V, bt 32 (co D) = V := ⟨_, rfl⟩
  have HVD := Lib.hid (fun (_ : Unit) => hVD)
  rw [hVD]
  have hx1 := (((Ext.refl w).alloc (.cells VA 30)).alloc (.cells VB 30)).alloc (.cells Z 30)
  have hs1 : (((w.alloc (.cells VA 30)).alloc (.cells VB 30)).alloc (.cells Z 30)).heap.size = g0 + 3 := by rw [← hg0]; simp
  have hr0 : (((w.alloc (.cells VA 30)).alloc (.cells VB 30)).alloc (.cells Z 30)).heap[g0]? = some (.cells VA 30 (0, 0)) := by
    rw [heap_alloc_old _ _ (by simp; omega), heap_alloc_old _ _ (by simp; omega), ← hg0]; exact heap_alloc_new w _
  have hr1 : (((w.alloc (.cells VA 30)).alloc (.cells VB 30)).alloc (.cells Z 30)).heap[g0 + 1]? = some (.cells VB 30 (0, 0)) := by
    have h := heap_alloc_new (w.alloc (.cells VA 30)) (.cells VB 30)
    rw [show (w.alloc (.cells VA 30)).heap.size = g0 + 1 from by rw [← hg0]; simp] at h
    rw [heap_alloc_old _ _ (by simp; omega)]; exact h
  have hr2 : (((w.alloc (.cells VA 30)).alloc (.cells VB 30)).alloc (.cells Z 30)).heap[g0 + 2]? = some (.cells Z 30 (0, 0)) := by
    have h := heap_alloc_new ((w.alloc (.cells VA 30)).alloc (.cells VB 30)) (.cells Z 30)
    rw [show ((w.alloc (.cells VA 30)).alloc (.cells VB 30)).heap.size = g0 + 2 from by rw [← hg0]; simp] at h
    exact h
  obtain ⟨w1, hw1⟩ : ∃ q, ((w.alloc (.cells VA 30)).alloc (.cells VB 30)).alloc (.cells Z 30) = q := ⟨_, rfl⟩
  rw [hw1] at hx1 hs1 hr0 hr1 hr2
  have HW1 := Lib.hid hw1
  have HX1 := Lib.hid hx1
  have HR2 := Lib.hid hr2
  obtain ⟨u, hu⟩ : ∃ u, w1.drew = u := ⟨_, rfl⟩
  have HU := Lib.hid hu
  have HXU := Lib.hid (show Ext w1 u from by rw [← hu]; exact (Ext.refl w1).drew)
  have HSU := Lib.hid (show u.heap.size = g0 + 3 from by rw [← hu, ← hs1]; rfl)
  have HXB := Lib.hid (show Ext w1 (u.alloc (.cells #[.int .u8 1] 5)) from HXU.out.alloc _)
  have HRV := Lib.hid (show RowsV (u.alloc (.cells #[.int .u8 1] 5)) [.slice (some ⟨g0 + 3, 0, none⟩) 1 1, .slice (some ⟨g0, 0, none⟩) 32 32, .slice (some ⟨g0 + 1, 0, none⟩) 32 32] [[1], a, b] from rowsV_3 (sl_lit1 u (g0 + 3) 1 (by omega) HSU.out) ((HRA.out w1 g0 hr0).ext HXB.out) ((HRB.out w1 (g0 + 1) hr1).ext HXB.out))
  have HS2 := Lib.hid (show (u.alloc (.cells #[.int .u8 1] 5)).heap.size = g0 + 3 + 1 from by rw [← HSU.out]; simp)
  have HRR := Lib.hid (show RRd ((u.alloc (.cells #[.int .u8 1] 5)).alloc (.cells #[.slice (some ⟨g0 + 3, 0, none⟩) 1 1, .slice (some ⟨g0, 0, none⟩) 32 32, .slice (some ⟨g0 + 1, 0, none⟩) 32 32] 35)) (some ⟨g0 + 3 + 1, 0, none⟩) [[1], a, b] from by
    have h := rrd_lit _ _ _ HRV.out
    rw [HS2.out] at h
    exact h)
  have HX3 := Lib.hid (show Ext w1 ((u.alloc (.cells #[.int .u8 1] 5)).alloc (.cells #[.slice (some ⟨g0 + 3, 0, none⟩) 1 1, .slice (some ⟨g0, 0, none⟩) 32 32, .slice (some ⟨g0 + 1, 0, none⟩) 32 32] 35)) from HXB.out.alloc _)
  clear hx1 hr0 hr1 hr2 hw1 hs1 hVA hVB hVD hD hZ ha hb hsa hsb HRA HRB hgl hu HRV
  go_enter Tryd.func27, Tryd.ntmps27
  go_wp2
  rw [HW1.out]
  have hsu := HSU.out
  refine wp_region_plan (AfterH w1) [0, 1, 2, 3, 4, 5] (.yes 1 (.yes 2 (.one 0 (.one 3 (.one 4 (.one 5 (.one 6 .done))))))) (by kernel_rfl) (fun c a a' w e h => ⟨e ▸ h.1, h.2⟩) (by kernel_rfl) ((Ext.refl w1).drew) ?_
  rw [HU.out]
  refine plan_yes rfl (fun K hK => ?_); go_simp; refine ⟨_, fun _ _ => rfl, hK _ ?_⟩; clear hK K
  refine plan_yes rfl (fun K hK => ?_); go_simp; refine ⟨_, fun _ _ => rfl, hK _ ?_⟩; clear hK K
  refine plan_one rfl (fun K hK => ?_)
  go_wp2
  refine ⟨fun _ => HXB.out, ?_⟩
  refine plan_one rfl (fun K hK => ?_)
  go_wp2
  refine ⟨fun _ => HX3.out, ?_⟩
  refine plan_one rfl (fun K hK => ?_)
  go_wp2_with fail
  refine (HCT.out _ 3 _ HRR.out).mono ?_
  rintro e w5 ⟨hx5, v5, rfl, hm5⟩
  obtain ⟨B5, c5, rfl, hc5, hr5⟩ := hm5.slice HT.out.2.1
  rw [HT.out.2.2] at hc5 ⊢
  have HX5 := Lib.hid (HX3.out.trans hx5)
  have HR5 := Lib.hid hr5
  have HC5 := Lib.hid hc5
  clear hx5 hm5 hr5 hc5
  go_wp2
  refine ⟨fun _ => HX5.out, ?_⟩
  refine plan_one rfl (fun K hK => ?_)
  go_wp2_with fail
  refine (HOF.out B5 c5 w5 (HGL.out.ext (HX1.out.trans HX5.out)) HR5.out HC5.out).mono ?_
  rintro e w9 ⟨V, rfl, hV, hx9⟩
  have HV := Lib.hid hV
  have HX9 := Lib.hid (HX5.out.trans hx9)
  have HR9 := Lib.hid (WBlk.ext' HR2.out HX9.out)
  have HI9 := Lib.hid hV.info
  have HO9 := Lib.hid hV.one
  have HZ9 := Lib.hid (show Z.size = V.size from by rw [hV.1]; exact HZ32.out ())
  have HG3 := Lib.hid (setRow_heap _ (g0 + 2) _ V _ _ HR9.out)
  have HXX := Lib.hid ((HX1.out.trans HX9.out).setRow (g := g0 + 2) (by rw [HW0.out]; omega) V)
  clear hV hx9
  go_wp2
  refine ⟨fun _ => HX9.out, ?_⟩
  refine plan_one rfl (fun K hK => ?_)
  go_wp2_with (with_reducible refine wpList_store_all rfl 30 (.tmp 4) (.tmp 10) rfl (g0 + 2) Z V rfl rfl HR9.out HI9.out HZ9.out HO9.out ?_)
  refine ⟨fun h => absurd h (by decide), ?_⟩
  unfold wpPlan
  go_wp2
  exact ⟨rfl, .agg V, results_cell_row Tryd.results27 _ _ (g0 + 2) 30 V (0, 0) _ rfl HG3.out Tryd.underlying30 rfl HI9.out, by rw [HV.out.is, HVD.out ()], HXX.out⟩
end Go.Proofs.YthbfodmpoheahaaDoor

/-
  What the document's own Root of layer 11 does. Conditions: under what its Of is to do; no more than 4096 texts of 2^15 bytes.
-/
namespace Go.Proofs.YthbfodmpoheahaaDoor
open Go.RowKit
open Pol (co Sm)

theorem mroot_sm (rows : List (List Nat)) : Sm (mroot sha rows) := by
  rw [mroot]
  by_cases h : rows.length < 2
  · rw [dif_pos h]
    match rows, h with
    | [], _ => exact sha_sm _
    | [t], _ => exact sha_sm _
  · rw [dif_neg h]
    exact sha_sm _
theorem mroot_32 (rows : List (List Nat)) : (mroot sha rows).length = 32 := by
  rw [mroot]
  by_cases h : rows.length < 2
  · rw [dif_pos h]
    match rows, h with
    | [], _ => exact sha_len _
    | [t], _ => exact sha_len _
  · rw [dif_neg h]
    exact sha_len _
theorem ro_drop (rows : List (List Nat)) (k i : Nat) : ro (rows.drop k) i = ro rows (k + i) := by unfold ro; rw [List.getElem?_drop]
set_option maxHeartbeats 1600000 in
set_option maxRecDepth 100000 in
theorem ref11_root_small (R : RefOf) (rows : List (List Nat)) (A : Option Addr) (c : Nat) (w : World) (h2 : rows.length < 2) (hr : RRd w A rows) (hls : ∀ i, i < rows.length → (ro rows i).length ≤ 32768) :
    Calls Tryd.prog 13 #[.slice A rows.length c] w (Tells (dgv (mroot sha rows)) w) := by
  obtain ⟨g0, hg0⟩ : ∃ g, w.heap.size = g := ⟨_, rfl⟩
  have HW0 := Lib.hid hg0
  have hz := zero_digest.1
  have HZ32 := Lib.hid (fun (_ : Unit) => show (bt 32 fun _ => 0).size = 32 from bt_size _ _)
  obtain ⟨Z, hZ⟩ : ∃ Z, (bt 32 fun _ => 0) = Z := ⟨_, rfl⟩
  rw [hZ] at hz HZ32
  have hx1 := (Ext.refl w).alloc (.cells Z 30)
  have hr0 : (w.alloc (.cells Z 30)).heap[g0]? = some (.cells Z 30 (0, 0)) := by rw [← hg0]; exact heap_alloc_new w _
  have HX1 := Lib.hid hx1
  have HR1 := Lib.hid hr0
  clear hx1 hr0
  match rows, h2, hr, hls with
  | [], _, _, _ =>
    have HC := Lib.hid (fun W => (R [] none 0 W (Rd.nil _ _) (by simp)).mono fun _ _ h => h.tells)
    rw [mroot_nil]
    obtain ⟨D, hD⟩ : ∃ D, sha [] = D := ⟨_, rfl⟩
    rw [hD] at HC ⊢
    have HV := Lib.hid (bt_dgc D)
    unfold dgv at HC ⊢
    obtain ⟨V, hV⟩ : ∃ V, bt 32 (co D) = V := ⟨_, rfl⟩
    rw [hV] at HC HV ⊢
    rw [List.length_nil] at HC ⊢
    clear hD hV hZ
    go_enter Tryd.func13, Tryd.ntmps13
    go_wp2_with fail
    refine (HC.out _).mono ?_
    rintro e w9 ⟨rfl, hx9⟩
    have HX9 := Lib.hid hx9
    clear hx9 hg0
    have HR9 := Lib.hid (WBlk.ext' HR1.out HX9.out)
    have HI9 := Lib.hid HV.out.info
    have HO9 := Lib.hid HV.out.one
    have HZ9 := Lib.hid (show Z.size = V.size from by rw [HV.out.1]; exact HZ32.out ())
    have HG3 := Lib.hid (setRow_heap _ g0 _ V _ _ HR9.out)
    have HX3 := Lib.hid ((HX1.out.trans HX9.out).setRow (g := g0) (by rw [HW0.out]; exact Nat.le_refl _) V)
    go_wp2_with (with_reducible refine wpList_store_all rfl 30 (.tmp 2) (.tmp 7) rfl g0 Z V rfl rfl HR9.out HI9.out HZ9.out HO9.out ?_)
    exact ⟨rfl, .agg V, results_cell_row Tryd.results13 _ _ g0 30 V (0, 0) _ rfl HG3.out Tryd.underlying30 rfl HI9.out, rfl, HX3.out⟩
  | [t], _, hr, hls =>
    have hlt : t.length ≤ 32768 := hls 0 (by simp)
    obtain ⟨b, o, B, ct, rfl, hc0, hl0, hrt⟩ := (hr.ext HX1.out) 0 (by simp)
    have e0 : ro [t] 0 = t := rfl
    rw [e0] at hc0 hl0 hrt
    rw [Nat.add_zero] at hc0
    have HRT := Lib.hid hrt
    have HC := Lib.hid (fun W (h : Rd W B t) => ref11_leaf R t B ct W h (by omega))
    rw [mroot_one]
    obtain ⟨n, hn⟩ : ∃ n, t.length = n := ⟨_, rfl⟩
    rw [hn] at hc0 HC
    obtain ⟨D, hD⟩ : ∃ D, lf sha t = D := ⟨_, rfl⟩
    rw [hD] at HC ⊢
    have HV := Lib.hid (bt_dgc D)
    unfold dgv at HC ⊢
    obtain ⟨V, hV⟩ : ∃ V, bt 32 (co D) = V := ⟨_, rfl⟩
    rw [hV] at HC HV ⊢
    rw [List.length_singleton]
    clear hD hV hZ hr hls hrt hl0 hlt hn e0
    go_enter Tryd.func13, Tryd.ntmps13
    go_wp2_with fail
    refine (HC.out _ HRT.out).mono ?_
    rintro e w9 ⟨rfl, hx9⟩
    have HX9 := Lib.hid hx9
    clear hx9 hg0
    have HR9 := Lib.hid (WBlk.ext' HR1.out HX9.out)
    have HI9 := Lib.hid HV.out.info
    have HO9 := Lib.hid HV.out.one
    have HZ9 := Lib.hid (show Z.size = V.size from by rw [HV.out.1]; exact HZ32.out ())
    have HG3 := Lib.hid (setRow_heap _ g0 _ V _ _ HR9.out)
    have HX3 := Lib.hid ((HX1.out.trans HX9.out).setRow (g := g0) (by rw [HW0.out]; exact Nat.le_refl _) V)
    go_wp2_with (with_reducible refine wpList_store_all rfl 30 (.tmp 2) (.tmp 14) rfl g0 Z V rfl rfl HR9.out HI9.out HZ9.out HO9.out ?_)
    exact ⟨rfl, .agg V, results_cell_row Tryd.results13 _ _ g0 30 V (0, 0) _ rfl HG3.out Tryd.underlying30 rfl HI9.out, rfl, HX3.out⟩
set_option maxHeartbeats 1600000 in
set_option maxRecDepth 100000 in
theorem ref11_root (R : RefOf) (m : Nat) : ∀ (rows : List (List Nat)) (A : Option Addr) (c : Nat) (w : World), rows.length ≤ m → RRd w A rows → rows.length ≤ c → rows.length ≤ 4096 → (∀ i, i < rows.length → (ro rows i).length ≤ 32768) →
    Calls Tryd.prog 13 #[.slice A rows.length c] w (Tells (dgv (mroot sha rows)) w) := by
  induction m with
  | zero => intro rows A c w hm hr hc hl hls; exact ref11_root_small R rows A c w (by omega) hr hls
  | succ m ih => 
    intro rows A c w hm hr hc hl hls
    obtain ⟨g0, hg0⟩ : ∃ g, w.heap.size = g := ⟨_, rfl⟩
    have HW0 := Lib.hid hg0
    have HR := Lib.hid hr
    have hz := zero_digest.1
    have HZ32 := Lib.hid (fun (_ : Unit) => show (bt 32 fun _ => 0).size = 32 from bt_size _ _)
    obtain ⟨Z, hZ⟩ : ∃ Z, (bt 32 fun _ => 0) = Z := ⟨_, rfl⟩
    rw [hZ] at hz HZ32
    by_cases h2 : 2 ≤ rows.length
    · have hk1 := spl_lt h2
      have hk0 := spl_pos rows.length
      have HSP := Lib.hid (fun W => ref11_split rows.length W (by omega))
      obtain ⟨n, hn⟩ : ∃ n, rows.length = n := ⟨_, rfl⟩
      have HMR := Lib.hid (mroot_more sha h2)
      rw [hn] at hm hc hl h2 hk1 hk0 HSP HMR ⊢
      obtain ⟨k, hk⟩ : ∃ k, spl n = k := ⟨_, rfl⟩
      rw [hk] at hk1 hk0 HSP HMR
      have ht := run_to_rows A n c k (by omega)
      obtain ⟨X, hx, hxr⟩ := run_rest_rows A n c k (by omega) hc
      have HC1 := Lib.hid (fun W (h : Ext w W) => show Calls Tryd.prog 13 #[.slice A k c] W (Tells (dgv (mroot sha (rows.take k))) W) from by
        have hlt : (rows.take k).length = k := by rw [List.length_take]; omega
        have h1 := ih (rows.take k) A c W (by omega) ((HR.out.ext h).take k) (by omega) (by omega) (fun i hi => by rw [ro_take rows k i (by omega)]; exact hls i (by omega))
        rw [hlt] at h1
        exact h1)
      have HC2 := Lib.hid (fun W (h : Ext w W) => show Calls Tryd.prog 13 #[.slice X (n - k) (c - k)] W (Tells (dgv (mroot sha (rows.drop k))) W) from by
        have hlt : (rows.drop k).length = n - k := by rw [List.length_drop]; omega
        have h1 := ih (rows.drop k) X (c - k) W (by omega) (hxr W rows (HR.out.ext h) hn) (by omega) (by omega) (fun i hi => by rw [ro_drop]; exact hls (k + i) (by omega))
        rw [hlt] at h1
        exact h1)
      have HC3 := Lib.hid (fun W => ref11_both R (mroot sha (rows.take k)) (mroot sha (rows.drop k)) W (mroot_32 _) (mroot_32 _) (mroot_sm _) (mroot_sm _))
      rw [HMR.out]
      obtain ⟨D1, hD1⟩ : ∃ D, mroot sha (rows.take k) = D := ⟨_, rfl⟩
      obtain ⟨D2, hD2⟩ : ∃ D, mroot sha (rows.drop k) = D := ⟨_, rfl⟩
      rw [hD1] at HC1 HC3 ⊢
      rw [hD2] at HC2 HC3 ⊢
      obtain ⟨D, hD⟩ : ∃ D, nd sha D1 D2 = D := ⟨_, rfl⟩
      rw [hD] at HC3 ⊢
      have HV := Lib.hid (bt_dgc D)
      unfold dgv at HC1 HC2 HC3 ⊢
      obtain ⟨V1, hV1⟩ : ∃ V, bt 32 (co D1) = V := ⟨_, rfl⟩
      obtain ⟨V2, hV2⟩ : ∃ V, bt 32 (co D2) = V := ⟨_, rfl⟩
      obtain ⟨V, hV⟩ : ∃ V, bt 32 (co D) = V := ⟨_, rfl⟩
      rw [hV1] at HC1 HC3
      rw [hV2] at HC2 HC3
      rw [hV] at HC3 HV ⊢
      have d1 : decide ((n : Int) = 0) = false := decide_eq_false (by omega)
      have d2 : decide ((n : Int) = 1) = false := decide_eq_false (by omega)
      have n1 : ¬ (n : Int) = 0 := by omega
      have n2 : ¬ (n : Int) = 1 := by omega
      have n3 : ¬ n = 0 := by omega
      have n4 : ¬ n = 1 := by omega
      clear hZ hn hr hm hc hl h2 hls HMR hk hxr hD1 hD2 hD hV1 hV2 hV hk0
      have hx1 := (Ext.refl w).alloc (.cells Z 30)
      have hr0 : (w.alloc (.cells Z 30)).heap[g0]? = some (.cells Z 30 (0, 0)) := by rw [← hg0]; exact heap_alloc_new w _
      have HX0 := Lib.hid hx1
      have HR0 := Lib.hid hr0
      clear hx1 hr0
      go_enter Tryd.func13, Tryd.ntmps13
      go_wp2_with fail
      refine (HSP.out _).mono ?_
      rintro e w2 ⟨rfl, q, rfl⟩
      have HX1 := Lib.hid (HX0.out.drewN q)
      have HR1 := Lib.hid (show ((w.alloc (.cells Z 30)).drewN q).heap[g0]? = some (.cells Z 30 (0, 0)) from HR0.out)
      generalize (w.alloc (.cells Z 30)).drewN q = w1 at HX1 HR1 ⊢
      clear hz hg0
      have C1 := Lib.hid (fun W (h : AfterH w1 W) => (HC1.out W (HX1.out.trans h)).mono (fun _ _ (x : _ ∧ _) => (⟨x.1, Ext.trans h x.2⟩ : _ ∧ AfterH w1 _)))
      have C2 := Lib.hid (fun W (h : AfterH w1 W) => (HC2.out W (HX1.out.trans h)).mono (fun _ _ (x : _ ∧ _) => (⟨x.1, Ext.trans h x.2⟩ : _ ∧ AfterH w1 _)))
      have C3 := Lib.hid (fun W (h : AfterH w1 W) => (HC3.out W).mono (fun _ _ (x : _ ∧ _) => (⟨x.1, Ext.trans h x.2⟩ : _ ∧ AfterH w1 _)))
      go_wp2
      refine wp_region_quiet_tail 9 (AfterH w1) (by kernel_rfl) (by kernel_rfl) ((Ext.refl w1).drew) ?_
      simp only [List.take_succ_cons, List.take_zero, List.drop_succ_cons, List.drop_zero]
      refine wpQuiet_step (fun K hK => ?_); go_simp; refine ⟨_, fun _ _ => rfl, hK _ ?_⟩; clear hK K
      refine wpQuiet_step (fun K hK => ?_); go_simp; refine ⟨_, fun _ _ => rfl, hK _ ?_⟩; clear hK K
      refine wpQuiet_step (fun K hK => ?_); go_simp; refine ⟨_, fun _ _ => rfl, hK _ ?_⟩; clear hK K
      refine wpQuiet_step (fun K hK => ?_); go_simp; refine ⟨_, fun W hW => C1.out W hW, hK _ ?_⟩; clear hK K
      refine wpQuiet_step (fun K hK => ?_); go_simp; refine ⟨_, fun _ _ => rfl, hK _ ?_⟩; clear hK K
      refine wpQuiet_step (fun K hK => ?_); go_simp; refine ⟨_, fun _ _ => rfl, hK _ ?_⟩; clear hK K
      refine wpQuiet_step (fun K hK => ?_); go_simp; refine ⟨_, fun _ _ => rfl, hK _ ?_⟩; clear hK K
      refine wpQuiet_step (fun K hK => ?_); go_simp; refine ⟨_, fun W hW => C2.out W hW, hK _ ?_⟩; clear hK K
      refine wpQuiet_step (fun K hK => ?_); go_simp; refine ⟨_, fun W hW => C3.out W hW, hK _ ?_⟩; clear hK K
      refine wpQuiet_nil ?_
      intro w9 hw9
      have HX9 := Lib.hid hw9
      clear hw9
      have HR9 := Lib.hid (WBlk.ext' HR1.out HX9.out)
      have HI9 := Lib.hid HV.out.info
      have HO9 := Lib.hid HV.out.one
      have HZ9 := Lib.hid (show Z.size = V.size from by rw [HV.out.1]; exact HZ32.out ())
      have HG3 := Lib.hid (setRow_heap _ g0 _ V _ _ HR9.out)
      have HX3 := Lib.hid ((HX1.out.trans HX9.out).setRow (g := g0) (by rw [HW0.out]; exact Nat.le_refl _) V)
      go_wp2_with (with_reducible refine wpList_store_all rfl 30 (.tmp 2) (.tmp 26) rfl g0 Z V rfl rfl HR9.out HI9.out HZ9.out HO9.out ?_)
      exact ⟨rfl, .agg V, results_cell_row Tryd.results13 _ _ g0 30 V (0, 0) _ rfl HG3.out Tryd.underlying30 rfl HI9.out, rfl, HX3.out⟩
    · exact ref11_root_small R rows A c w (by omega) hr hls
end Go.Proofs.YthbfodmpoheahaaDoor

/-
  What a leaf put together with a proof is to come to, and what the walks of lift and climb need. Conditions: none; no function is named here.
-/
namespace Go.Proofs.YthbfodmpoheahaaDoor
open Go.RowKit
open Pol (co Sm)

theorem mlift_one (D : List Nat → List Nat) (d : List Nat) {n : Nat} (i : Nat) (ps : List (List Nat)) (h : n < 2) : mlift D d n i ps = if ps = [] then some d else none := by rw [mlift, dif_pos h]
theorem mlift_nil (D : List Nat → List Nat) (d : List Nat) {n : Nat} (i : Nat) (h : 2 ≤ n) : mlift D d n i [] = none := by rw [mlift, dif_neg (by omega)]; rfl
theorem mlift_lo (D : List Nat → List Nat) (d : List Nat) {n : Nat} (i : Nat) (q : List (List Nat)) (x : List Nat) (h : 2 ≤ n) : i < spl n → mlift D d n i (q ++ [x]) = (mlift D d (spl n) i q).map (fun y => nd D y x) := fun hi => by
  rw [mlift, dif_neg (by omega)]
  simp only [List.getLast?_concat, List.dropLast_concat, if_pos hi]
theorem mlift_hi (D : List Nat → List Nat) (d : List Nat) {n : Nat} (i : Nat) (q : List (List Nat)) (x : List Nat) (h : 2 ≤ n) : ¬ i < spl n → mlift D d n i (q ++ [x]) = (mlift D d (n - spl n) (i - spl n) q).map (fun y => nd D x y) := fun hi => by
  rw [mlift, dif_neg (by omega)]
  simp only [List.getLast?_concat, List.dropLast_concat, if_neg hi]
/-- What lift, and climb, do. -/
def LiftS (d : List Nat) (n i : Nat) (ps : List (List Nat)) (w : World) (e : Ending) (w' : World) : Prop :=
  ∃ x ok, e = .returned (.tuple #[dgv x, .bool ok]) ∧ x.length = 32 ∧ Sm x ∧ Ext w w' ∧ mlift sha d n i ps = if ok then some x else none
theorem w64_nat (p : Nat) (h : p ≤ 1048577) : wrap64 (p : Int) = (p : Int) := by unfold wrap64; omega
theorem w64_pred (p : Nat) (h : p ≤ 1048577) : wrap64 (((p + 1 : Nat) : Int) - 1) = (p : Int) := by unfold wrap64; omega
theorem w64_prd (p : Nat) (h : p ≤ 1048577) : wrap64 ((p : Int) + 1 - 1) = (p : Int) := by unfold wrap64; omega
/-- Worlds behind one, with a digest in a block. -/
def AftG (w : World) (g : Nat) (V : Array Value) (W : World) : Prop := Ext w W ∧ W.heap[g]? = some (.cells V 30 (0, 0))
theorem setRow_far {W : World} {g h : Nat} {V U : Array Value} {T : TypeId} {fr : Nat × Nat} (hne : h ≠ g) (hg : W.heap[g]? = some (.cells U T fr)) : (W.setRow h V).heap[g]? = some (.cells U T fr) := by rw [setRow_other W h g V (Ne.symm hne)]; exact hg
theorem i64_nat (p : Nat) (h : p ≤ 1048577) : IntKind.i64.wrap (p : Int) = (p : Int) := by rw [IntKind.wrap_i64]; omega
theorem bt_zero : (bt 32 fun _ => 0) = bt 32 (co (List.replicate 32 0)) := by
  apply Array.ext
  · rw [bt_size, bt_size]
  · intro i h1 h2
    rw [bt_size] at h1
    rw [← Option.some_inj, ← Array.getElem?_eq_getElem, ← Array.getElem?_eq_getElem, bt_at 32 _ i h1, bt_at 32 _ i h1]
    unfold co
    rw [List.getElem?_replicate, if_pos h1]
    rfl
theorem sm_zeros (n : Nat) : Sm (List.replicate n 0) := Pol.co_lt_of fun x hx => by rw [(List.mem_replicate.1 hx).2]; omega
theorem load_blk (W : World) (g : Nat) (d : List Nat) (T : TypeId) (fr : Nat × Nat) (h : W.heap[g]? = some (.cells (bt 32 (co d)) T fr)) :
    (Instr.loadAt 30 (.pointer (some ⟨g, 0, none⟩))).run Tryd.prog W = .ok (dgv d) W :=
  run_load_dig W g 0 d (fun j hj => by rw [cell_of_row W g _ _ _ _ h, Nat.zero_add, bt_at 32 _ j hj])
theorem results_rt {fn : Func} {p u : Tmp} (h : fn.results = #[.cell p 30, .tmp u]) (tmps : Array Value) (w : World) (g : Nat) (t : TypeId) (cs : Array Value) (fr : Nat × Nat)
    (hp : tmps.getD p undef = .pointer (some ⟨g, 0, none⟩)) (hg : w.heap[g]? = some (.cells cs t fr)) (hi : (Tryd.prog.info? 30).map (·.size) = some cs.size) :
    (results fn tmps).run Tryd.prog w = .ok (.tuple #[.agg cs, tmps.getD u undef]) w := by
  have hl := run_loadVar_row w g t 30 cs fr _ hg Tryd.underlying30 rfl hi
  rw [results_cell_tmp h, hp]
  simp [asAddr, Result.andThen, hl]
/-- An empty literal of an array. -/
theorem built_zero : Tryd.prog.built 30 [] = some (bt 32 fun _ => 0) := by kernel_rfl
theorem wpList_build_zero {ops : Array Oper} {rest : List Oper} {o : Oper} {a : Act} {w : World} {Q : Exit → Act → World → Prop} (hg : o.guard = none) (ho : o.op = .build 30 #[]) (Z : Array Value)
    (hz : (bt 32 fun _ => 0) = Z) (h : wpList Tryd.prog ops Q rest (a.put o.dst (.agg Z)) w) : wpList Tryd.prog ops Q (o :: rest) a w :=
  wpList_build_of hg _ #[] ho #[] (by simp) Z (by rw [← hz]; exact built_zero) h
end Go.Proofs.YthbfodmpoheahaaDoor

/-
  Slices of rows of a call's own, whose rows lie in blocks of the call's own too: a literal of one row, and what append does. Conditions: the lengths add up to no more than 2^20.
-/
namespace Go.Proofs.YthbfodmpoheahaaDoor
open Go.RowKit
open Pol (co Sm)

/-- All of them lie in blocks from base on. -/
def New (vs : List Value) (base : Nat) : Prop := ∀ (i b o n c : Nat), vs[i]? = some (.slice (some ⟨b, o, none⟩) n c) → 0 < n → base ≤ b
structure MineN (w : World) (base : Nat) (v : Value) (rows : List (List Nat)) : Prop where
  has : ∃ vs, w.ownsRow base 35 1 v rows.length vs ∧ RowsV w vs rows ∧ Far vs v.ownBlock ∧ New vs base
theorem MineN.toR {w : World} {base : Nat} {v : Value} {rows : List (List Nat)} (h : MineN w base v rows) : MineR w base v rows := by
  obtain ⟨vs, h1, h2, h3, _⟩ := h.has
  exact ⟨vs, h1, h2, h3⟩
theorem MineN.slice {w : World} {base : Nat} {v : Value} {rows : List (List Nat)} (h : MineN w base v rows) : ∃ A c, v = .slice A rows.length c ∧ rows.length ≤ c ∧ RRd w A rows := h.toR.slice
theorem MineN.block {w : World} {base : Nat} {v : Value} {rows : List (List Nat)} (h : MineN w base v rows) : ∀ k, v.ownBlock = some k → base ≤ k ∧ k < w.heap.size := h.toR.block
theorem MineN.ext {w w' : World} {base : Nat} {v : Value} {rows : List (List Nat)} (h : MineN w base v rows) (hx : Ext w w') : MineN w' base v rows := by
  obtain ⟨vs, hown, hv, hf, hn⟩ := h.has
  refine ⟨vs, World.ownsRow.kept hown (row := none) ⟨hx.below.os, hx.below.tape, hx.below.output, hx.below.size, fun k hk _ => hx.below.block k hk⟩ (by
    cases hb : v.ownBlock with
    | none => exact .inl rfl
    | some k => exact .inr (by simp)), hv.ext hx, hf, hn⟩
theorem MineN.down {w : World} {base base' : Nat} {v : Value} {rows : List (List Nat)} (h : MineN w base v rows) (hb : base' ≤ base) : MineN w base' v rows := by
  obtain ⟨vs, hown, hv, hf, hn⟩ := h.has
  exact ⟨vs, ⟨hown.1, hown.2.imp id fun ⟨g, cap, cur, h1, h2, h3⟩ => ⟨g, cap, cur, h1, Nat.le_trans hb h2, h3⟩⟩, hv, hf, fun i b o n c e h0 => Nat.le_trans hb (hn i b o n c e h0)⟩
theorem MineN.nil (w : World) (base : Nat) : MineN w base (.slice none 0 0) [] :=
  ⟨[], World.ownsRow_nil w base _ _, ⟨rfl, fun i hi => absurd hi (by simp)⟩, fun i b o n c h => by simp at h, fun i b o n c h => by simp at h⟩
theorem mineN_lit {w : World} {base : Nat} {v : Value} {l : List Nat} (hm : Mine w base v l) (hs : Sm l) (hb : base ≤ w.heap.size) :
    MineN (w.alloc (.cells #[v] 35)) base (.slice (some ⟨w.heap.size, 0, none⟩) 1 1) [l] := by
  obtain ⟨B, c, e, hc, hr⟩ := hm.slice hs
  have hz : ∀ (i b o n c' : Nat), [v][i]? = some (.slice (some ⟨b, o, none⟩) n c') → base ≤ b ∧ b < w.heap.size := fun i b o n c' h => by
    have hi : i < 1 := by
      have := (List.getElem?_eq_some_iff.1 h).1
      simpa using this
    obtain rfl : i = 0 := by omega
    have hv : v = .slice (some ⟨b, o, none⟩) n c' := by simpa using h
    exact World.ownsRow.lt hm b (by rw [hv]; rfl)
  refine ⟨[v], World.ownsRow_lit w #[v] 1 hb (by unfold maxLen; omega) rfl, ⟨rfl, fun i hi => ?_⟩, fun i b o n c' h _ e' => ?_, fun i b o n c' h _ => (hz i b o n c' h).1⟩
  · match i, hi with
    | 0, _ => exact ⟨B, c, by rw [e]; rfl, hc, hr.ext ((Ext.refl _).alloc _)⟩
  · have := (hz i b o n c' h).2
    have e2 : some b = some w.heap.size := e'
    injection e2 with e2
    omega
theorem grown_setRow (w : World) (g : Nat) (V : Array Value) : w.grownBy (w.setRow g V) (some g) :=
  ⟨rfl, rfl, rfl, by simp [World.setRow], fun k _ hne => setRow_other w g k V (fun e => hne (by rw [e]))⟩
theorem MineN.keep {w w' : World} {base g : Nat} {v : Value} {rows : List (List Nat)} (h : MineN w base v rows) (hg : w.grownBy w' (some g)) (hlt : g < base) : MineN w' base v rows := by
  have hbl := h.block
  obtain ⟨vs, hown, hv, hf, hn⟩ := h.has
  refine ⟨vs, World.ownsRow.kept hown hg (by
    cases hb : v.ownBlock with
    | none => exact .inl rfl
    | some k => exact .inr (fun e => by injection e with e; have := (hbl k hb).1; omega)), hv.keep hg (fun i b o n c e h0 e' => by injection e' with e'; have := hn i b o n c e h0; omega), hf, hn⟩
set_option maxRecDepth 100000 in
theorem run_append_rowsN (w : World) (base base2 : Nat) (ty : TypeId) (v u : Value) (rows more : List (List Nat)) (hown : MineN w base v rows) (hmore : MineN w base2 u more)
    (hvb : ∀ k, v.ownBlock = some k → k < base2) (hb : base ≤ base2) (hlen : rows.length + more.length ≤ 1048576) (hbase : base ≤ w.heap.size) :
    ∃ v' w', (Builtin.append_ #[22, 22] ty #[v, u]).run Tryd.prog w = .ok v' w' ∧ MineN w' base v' (rows ++ more) ∧ w.grownBy w' v.ownBlock ∧ (v'.ownBlock = v.ownBlock ∨ v'.ownBlock = some w.heap.size) := by
  obtain ⟨i0, hi, hz0, hz1, hz2⟩ := info_parts row_info
  obtain ⟨vs, hv1, hv2, hv3, hv4⟩ := hown.has
  obtain ⟨us, hu, hu1, hu3, hu4⟩ := hmore.has
  have hut := hu.2
  rcases hut with ⟨rfl, hn⟩ | ⟨g, cap, cur, rfl, hgb, hg, hnc, _, _, htake⟩
  · have hm : more = [] := List.eq_nil_of_length_eq_zero hn
    subst hm
    refine ⟨v, w, ?_, by simpa using hown, ⟨rfl, rfl, rfl, Nat.le_refl _, fun _ _ _ => rfl⟩, .inl rfl⟩
    rcases hv1.2 with ⟨rfl, _⟩ | ⟨g, cap, cur, rfl, _, _, hnc, _⟩
    · simp [Builtin.append_, run_underlying Tryd.underlying22, sizeOf, typeInfo, hi, Builtin.lenOf, Builtin.firstCells]
    · simp [Builtin.append_, run_underlying Tryd.underlying22, sizeOf, typeInfo, hi, Builtin.lenOf, Builtin.firstCells, hnc, storeCells]
  · have hcells : ∀ j x, us[j]? = some x → w.cell? ((⟨g, 0, none⟩ : Addr).add j) = some x := by
      intro j x hx
      have hj : j < more.length := by
        have := (List.getElem?_eq_some_iff.1 hx).1
        rwa [hu1.1] at this
      rw [addr_add, Nat.zero_add, cell_of_row w g j cur _ _ hg, ← hx, ← htake, List.getElem?_take, if_pos (by omega)]
      simp
    obtain ⟨v', w', h1, h2, h3, _, h5⟩ := run_append_own_at (P := Tryd.prog) w base 22 ty 35 i0 (.slice none 0 0) 1 24 Tryd.underlying22 hi hz0 hz1 hz2 rfl (by omega) v rows.length vs hv1 ⟨g, 0, none⟩ more.length cap us (by rw [hu1.1, Nat.mul_one]) hcells hu1.one
      (by unfold maxLen; omega) (by omega) hbase
    have hfu : Far us v.ownBlock := fun i b o n c' hx hn e' => by
      have h6 := hu4 i b o n c' hx hn
      have h7 := hvb b e'.symm
      omega
    refine ⟨v', w', h1, ⟨vs ++ us, by rw [List.length_append]; exact h2, (hv2.append hu1).keep h3 ?_, ?_, ?_⟩, h3, h5⟩
    · intro i b o n c' hx hn
      by_cases hl : i < vs.length
      · rw [List.getElem?_append_left hl] at hx
        exact hv3 i b o n c' hx hn
      · rw [List.getElem?_append_right (by omega)] at hx
        exact hfu _ b o n c' hx hn
    · intro i b o n c' hx hn
      rcases h5 with e | e
      · rw [e]
        by_cases hl : i < vs.length
        · rw [List.getElem?_append_left hl] at hx
          exact hv3 i b o n c' hx hn
        · rw [List.getElem?_append_right (by omega)] at hx
          exact hfu _ b o n c' hx hn
      · rw [e]
        have hb : b < w.heap.size := (hv2.append hu1).lt hx hn
        exact fun e' => by injection e' with e'; omega
    · intro i b o n c' hx hn
      by_cases hl : i < vs.length
      · rw [List.getElem?_append_left hl] at hx
        exact hv4 i b o n c' hx hn
      · rw [List.getElem?_append_right (by omega)] at hx
        exact Nat.le_trans hb (hu4 _ b o n c' hx hn)
/-- At the operation, for the walk. -/
theorem wpList_append_rowsN {ops : Array Oper} {rest : List Oper} {o : Oper} {a : Act} {w : World} {Q : Exit → Act → World → Prop} (hgd : o.guard = none) (s x : Operand)
    (ho : o.op = .call { callee := .builtin .append, args := #[s, x], argTypes := #[22, 22] })
    (base base2 : Nat) (v u : Value) (rows more : List (List Nat)) (hs : a.eval s = v) (hx : a.eval x = u) (hown : MineN w base v rows) (hmore : MineN w base2 u more)
    (hvb : ∀ k, v.ownBlock = some k → k < base2) (hb : base ≤ base2) (hlen : rows.length + more.length ≤ 1048576) (hbase : base ≤ w.heap.size)
    (h : ∀ v' w', MineN w' base v' (rows ++ more) → w.grownBy w' v.ownBlock → (v'.ownBlock = v.ownBlock ∨ v'.ownBlock = some w.heap.size) → wpList Tryd.prog ops Q rest (a.put o.dst v') w') :
    wpList Tryd.prog ops Q (o :: rest) a w := by
  refine wpList_plain hgd fun K hK => ?_
  obtain ⟨v', w', hrun, h2, h3, h4⟩ := run_append_rowsN w base base2 o.type v u rows more hown hmore hvb hb hlen hbase
  unfold Oper.wp execOp
  simp only [ho, resolve, invoke, builtin, Sem.run_bind, Sem.run_pure, Result.andThen_ok, List.map_toArray, List.map_cons, List.map_nil, hs, hx, hrun]
  exact hK _ _ (h v' w' h2 h3 h4)
end Go.Proofs.YthbfodmpoheahaaDoor

/-
  What over of layer 11 does: the root of the trees with these peaks and of one behind them. Conditions: the constants of layer 10 lie where they were laid; at most 1024 peaks.
-/
namespace Go.Proofs.YthbfodmpoheahaaDoor
open Go.RowKit Go.Shelf
open Pol (co Sm)
attribute [local go_sem] Oper.semAt_some

/-- The root of the trees with these peaks and of one behind them. -/
def ov (ps : List (List Nat)) (d : List Nat) : List Nat := ps.foldr (fun p r => nd sha p r) d
/-- What it is so far. -/
def ovs (ps : List (List Nat)) (d : List Nat) {n : Nat} (pre : List (Fn' n)) : List Nat := pre.foldl (fun r x => nd sha (ro ps x.1) r) d
theorem ovs_snoc (ps : List (List Nat)) (d : List Nat) {n : Nat} (pre : List (Fn' n)) (x : Fn' n) : ovs ps d (pre ++ [x]) = nd sha (ro ps x.1) (ovs ps d pre) := by simp [ovs]
theorem ovs_ok (ps : List (List Nat)) (d : List Nat) (hd : d.length = 32) (hs : Sm d) {n : Nat} (pre : List (Fn' n)) : (ovs ps d pre).length = 32 ∧ Sm (ovs ps d pre) := by
  rcases List.eq_nil_or_concat pre with rfl | ⟨q, x, rfl⟩
  · exact ⟨hd, hs⟩
  · rw [List.concat_eq_append, ovs_snoc]
    exact ⟨sha_len _, sha_sm _⟩
theorem ovs_map (ps : List (List Nat)) {n : Nat} : ∀ (ys : List (Fn' n)) (r : List Nat), ys.foldl (fun r x => nd sha (ro ps x.1) r) r = (ys.map fun x => ro ps x.1).foldl (fun r p => nd sha p r) r
  | [], _ => rfl
  | y :: ys, r => by simp only [List.foldl_cons, List.map_cons]; exact ovs_map ps ys _
theorem dns_ro (ps : List (List Nat)) : (dns ps.length ps.length).map (ro ps) = ps.reverse := by
  apply List.ext_getElem
  · simp [dns]
  · intro i h1 h2
    have hi : i < ps.length := by simpa [dns] using h1
    simp only [dns, List.map_map, List.getElem_map, List.getElem_range, Function.comp, List.getElem_reverse]
    unfold ro
    rw [List.getElem?_eq_getElem (by omega)]
    rfl
theorem ovs_all (ps : List (List Nat)) (d : List Nat) (ys : List (Fn' ps.length)) (h : ys.map (fun x => x.1) = dns ps.length ps.length) : ovs ps d ys = ov ps d := by
  unfold ovs ov
  rw [ovs_map]
  have e : (ys.map fun x => ro ps x.1) = ps.reverse := by
    rw [← dns_ro, ← h, List.map_map]
    rfl
  rw [e, List.foldl_reverse]
theorem own_blk {β : Type} {B : Nat} (g : Nat) (t : TypeId) (f : β → Array Value) (W W' : World) (row : Option Nat) (s : β) (hs : W.heap[g]? = some (.cells (f s) t (0, 0))) (hg : W.grownBy W' row) (hr : ∀ r, row = some r → B ≤ r ∧ ∃ o : Obj, W.heap[r]? = some o ∧ o.isCells = false) : W'.heap[g]? = some (.cells (f s) t (0, 0)) :=
  (hg.block g (lt_of_some hs) (fun e => by
    obtain ⟨_, o, ho, hc⟩ := hr g e.symm
    rw [hs] at ho
    injection ho with ho
    rw [← ho] at hc
    cases hc)).trans hs
theorem keepsFrom_ext {B : Nat} {W W' : World} (h : Ext W W') : KeepsFrom B W W' := KeepsFrom.of_grownBy (h.grown none) (fun _ e => by cases e)
theorem KpD.ext {Bs : Nat} {s : Value} {A : Option Addr} {ds : List (List Nat)} {W W' : World} (h : Ext W W') : KpD Bs s A ds W W' := KpD.grown (h.grown none) (by simp) (fun _ _ _ _ => by simp)
theorem wpListIn_store_all {n : Nat} {P : Program} {ops : Array Oper} {rest : List Oper} {op : Oper} {a : Act} {w : World} {Q : Exit → Act → World → Prop} (hgd : op.guard = none) (ty : TypeId) (x y : Operand) (ho : op.op = .store ty x y)
    (b : Nat) (c c' : Array Value) (hx : a.eval x = .pointer (some ⟨b, 0, none⟩)) (hy : a.eval y = .agg c')
    (hg : w.heap[b]? = some (.cells c ty (0, 0))) (hi : (P.info? ty).map (·.size) = some c'.size) (hc : c.size = c'.size) (h1 : c'.all (·.oneCell') = true)
    (h : wpListIn Fence.wide n P ops Q rest (a.put op.dst undef) (w.setRow b c')) : wpListIn Fence.wide n P ops Q (op :: rest) a w :=
  wpListIn_plain hgd fun _ hK => by
    refine ⟨fun _ _ => trivial, ?_⟩
    show op.uponIn Fence.wide n P a _ Q ((execOp a.eval op).run P w)
    unfold execOp
    simp only [ho, hx, hy, Instr.storeAt, Instr.sureAddr, Sem.run_bind, Sem.run_pure, Result.andThen_ok, run_storeVar_row w b ty ty c c' hg hi hc h1]
    exact hK _ _ h
set_option maxRecDepth 100000 in
set_option maxHeartbeats 4000000 in
theorem mk_over (S : ShaOH) (ps : List (List Nat)) (d : List Nat) (A : Option Addr) (c : Nat) (w : World) (hgl : GL w) (hp : DRd w A ps) (hpl : ps.length ≤ 1048576) (hd : d.length = 32) (hs : Sm d) :
    Calls Tryd.prog 38 #[.slice A ps.length c, dgv d] w (Tells (dgv (ov ps d)) w) := by
  have HEV := Lib.hid (ovs_all ps d)
  have HGL := Lib.hid hgl
  have HP := Lib.hid hp
  have HBK := Lib.hid (drd_block hp)
  have HOK := Lib.hid (fun pre : List (Fn' ps.length) => ovs_ok ps d hd hs pre)
  have HON := Lib.hid (fun (x : Fn' ps.length) => hp.one x.1 x.2)
  have HJN := Lib.hid (fun a b W (h : Ext w W) ha hb hsa hsb => mk_join S a b W (hgl.ext h) ha hb hsa hsb)
  have hz := zero_digest.1
  have HZ32 := Lib.hid (fun (_ : Unit) => show (bt 32 fun _ => 0).size = 32 from bt_size _ _)
  obtain ⟨Z, hZ⟩ : ∃ Z, (bt 32 fun _ => 0) = Z := ⟨_, rfl⟩
  rw [hZ] at hz HZ32
  obtain ⟨n, hn⟩ : ∃ n, ps.length = n := ⟨_, rfl⟩
  have HN := Lib.hid hn
  rw [hn] at HEV HBK HOK HON hpl ⊢
  obtain ⟨VD, hVD⟩ : ∃ V, bt 32 (co d) = V := ⟨_, rfl⟩
  have HVD := Lib.hid hVD
  unfold dgv
  rw [hVD]
  clear hgl hp hZ hd hs hn hVD
  refine (callsIn_wide (n := 4)).1 ?_
  refine callsIn_of_wp_marks Tryd.func38 rfl trivial ?_ rfl
  simp only [Tryd.ntmps38, List.size_toArray, List.length_cons, List.length_nil, Nat.reduceAdd, Nat.reduceSub, Array.replicate_succ, Array.replicate_zero, List.push_toArray, List.append_toArray, List.nil_append, List.cons_append]
  gi_wp2_with (refine ⟨trivial, ?_⟩; gi_at_call 52; refine (backD_in _ _ _ _ _).mono ?_; rintro e w' ⟨rfl, rfl⟩)
  obtain ⟨g0, hg0⟩ : ∃ g, w.heap.size = g := ⟨_, rfl⟩
  have HW0 := Lib.hid hg0
  have q0 : (((w.alloc (.cells VD 30)).alloc (.cells Z 30)).alloc (.cells #[.slice A n c] 25)).heap[g0]? = some (.cells VD 30 (0, 0)) := by
    have h := heap_alloc_new w (.cells VD 30)
    rw [hg0] at h
    exact WBlk.ext' h (((Ext.refl _).alloc (.cells Z 30)).alloc (.cells #[.slice A n c] 25))
  have q1 : (((w.alloc (.cells VD 30)).alloc (.cells Z 30)).alloc (.cells #[.slice A n c] 25)).heap[g0 + 1]? = some (.cells Z 30 (0, 0)) := by
    have h := heap_alloc_new (w.alloc (.cells VD 30)) (.cells Z 30)
    rw [show (w.alloc (.cells VD 30)).heap.size = g0 + 1 from by rw [← hg0]; simp] at h
    exact WBlk.ext' h ((Ext.refl _).alloc (.cells #[.slice A n c] 25))
  have q2 : (((w.alloc (.cells VD 30)).alloc (.cells Z 30)).alloc (.cells #[.slice A n c] 25)).cell? ⟨g0 + 1 + 1, 0, none⟩ = some (.slice A n c) := by
    have h := heap_alloc_new ((w.alloc (.cells VD 30)).alloc (.cells Z 30)) (.cells #[.slice A n c] 25)
    rw [show ((w.alloc (.cells VD 30)).alloc (.cells Z 30)).heap.size = g0 + 1 + 1 from by rw [← hg0]; simp] at h
    rw [cell_of_row _ _ _ _ _ _ h]; rfl
  have q3 : (((w.alloc (.cells VD 30)).alloc (.cells Z 30)).alloc (.cells #[.slice A n c] 25)).heap.size = g0 + 3 := by rw [← hg0]; simp
  have q4 := (((Ext.refl w).alloc (.cells VD 30)).alloc (.cells Z 30)).alloc (.cells #[.slice A n c] 25)
  rw [hg0] at HBK ⊢
  generalize ((w.alloc (.cells VD 30)).alloc (.cells Z 30)).alloc (.cells #[.slice A n c] 25) = W0 at q0 q1 q2 q3 q4 ⊢
  have HQ3 := Lib.hid q3
  clear q3 hg0
  refine wpIn_rangeFunc_ownH rfl (by omega) (gf := 60) (lb := #[.pointer (some ⟨g0 + 1 + 1, 0, none⟩)]) rfl trivial (enters_of Tryd.func60 (by kernel_rfl) rfl)
    (backD_stops _ (by omega) (g0 + 1 + 1) n c A ps HN.out (by omega) W0 q2 (HP.out.ext q4))
    KpD.trans (KpD.put (by have := HQ3.out; omega) (fun b o e h => by have := HBK.out b o e (by rw [← HN.out]; exact h); have := HQ3.out; omega)) (Below.refl _ _) (fun _ => rfl)
    (fun pre W => W.heap[g0]? = some (.cells (bt 32 (co (ovs ps d pre))) 30 (0, 0)) ∧ W.heap[g0 + 1]? = some (.cells Z 30 (0, 0)) ∧ Ext w W)
    (fun _ _ _ => False)
    (fun s W W' row hs hg hr => ⟨own_blk g0 _ (fun s => bt 32 (co (ovs ps d s))) W W' row s hs.1 hg hr, own_blk g0.succ _ (fun _ : List (Fn' n) => Z) W W' row s hs.2.1 hg hr, hs.2.2.more hg (fun k e => by have := (hr k e).1; have := HQ3.out; have := HW0.out; omega)⟩)
    (fun _ _ _ _ _ hs _ _ => hs)
    ⟨by rw [q0, ← HVD.out]; rfl, q1, q4⟩
    (fun x a' W => ∃ gp, a' = { tmps := #[.slice A n c, .agg VD, undef, .pointer (some ⟨g0, 0, none⟩), .pointer (some ⟨g0 + 1, 0, none⟩), undef, .pointer (some ⟨gp, 0, none⟩), .slice A n c, .func (.func 60) #[] #[.pointer (some ⟨g0 + 1 + 1, 0, none⟩)], .int .i64 (x.1 : Int), dgv (ro ps x.1), undef, undef, undef, undef], defers := [] } ∧
      W.heap[gp]? = some (.cells (bt 32 (co (ro ps x.1))) 30 (0, 0)) ∧ g0 < gp)
    (fun x a' u W W' row hs hg hr => by
      obtain ⟨gp, e, h, hge⟩ := hs
      exact ⟨gp, e, own_blk gp _ (fun _ : Unit => bt 32 (co (ro ps x.1))) W W' row () h hg hr, hge⟩)
    ?assign ?body ?done ?stop
  case assign =>
    rintro l pre x W K ⟨h1, h2, h3⟩ hK
    have HX3 := Lib.hid h3
    have HI1 := Lib.hid h1
    have HI2 := Lib.hid h2
    have HKK := Lib.hid hK
    have HVX := Lib.hid (bt_dgc (ro ps x.1))
    dsimp only [pdv]
    unfold dgv
    obtain ⟨VX, hVX⟩ : ∃ V, bt 32 (co (ro ps x.1)) = V := ⟨_, rfl⟩
    have HVE := Lib.hid hVX
    rw [hVX] at HVX ⊢
    have HIX := Lib.hid HVX.out.info
    have HOX := Lib.hid HVX.out.one
    have HZX := Lib.hid (show Z.size = VX.size from by rw [HVX.out.1]; exact HZ32.out ())
    obtain ⟨gp, hgp⟩ : ∃ g, W.heap.size = g := ⟨_, rfl⟩
    have HGP := Lib.hid hgp
    have HGX := Lib.hid (show (W.alloc (.cells Z 30)).heap[gp]? = some (.cells Z 30 (0, 0)) from by rw [← hgp]; exact heap_alloc_new _ _)
    have HX4 := Lib.hid (show Ext W ((W.alloc (.cells Z 30)).setRow gp VX) from Ext.setRow ((Ext.refl W).alloc _) (by rw [← hgp]; exact Nat.le_refl _) VX)
    have HG4 := Lib.hid (setRow_heap _ gp _ VX _ _ HGX.out)
    clear h1 h2 h3 hK hVX
    refine wpIn_region_round (by kernel_rfl) (fun ⟨_, _, h⟩ => h) ?_
    go_wp2_with (with_reducible refine wpList_store_all rfl 30 (.tmp 6) (.tmp 10) rfl gp Z VX rfl rfl HGX.out HIX.out HZX.out HOX.out ?_)
    exact HKK.out _ _ (keepsFrom_ext HX4.out) (KpD.ext HX4.out) ⟨WBlk.ext' HI1.out HX4.out, WBlk.ext' HI2.out HX4.out, HX3.out.trans HX4.out⟩ ⟨gp, by unfold dgv; rw [HVE.out]; rfl, by rw [HVE.out]; exact HG4.out, by have := lt_of_some HI1.out; have := HGP.out; omega⟩
  case body =>
    rintro lq pre x a' W hlq ⟨r, hrl⟩ ⟨h1, h2, h3⟩ ⟨gp, rfl, h4, hge⟩ hlen
    have HX := Lib.hid h3
    have HI1 := Lib.hid h1
    have HI2 := Lib.hid h2
    have HI4 := Lib.hid h4
    have HAC := Lib.hid (HOK.out pre)
    have HXO := Lib.hid (HON.out x)
    have HSN := Lib.hid (ovs_snoc ps d pre x)
    have HJ := Lib.hid (fun W' (h : Ext W W') => HJN.out (ro ps x.1) (ovs ps d pre) W' (h3.trans h) HXO.out.1 HAC.out.1 HXO.out.2 HAC.out.2)
    have HVX := Lib.hid (bt_dgc (ro ps x.1))
    have HVA := Lib.hid (bt_dgc (ovs ps d pre))
    have HVN := Lib.hid (bt_dgc (nd sha (ro ps x.1) (ovs ps d pre)))
    unfold dgv at HJ ⊢
    obtain ⟨VX, hVX⟩ : ∃ V, bt 32 (co (ro ps x.1)) = V := ⟨_, rfl⟩
    obtain ⟨VA, hVA⟩ : ∃ V, bt 32 (co (ovs ps d pre)) = V := ⟨_, rfl⟩
    obtain ⟨VN, hVN⟩ : ∃ V, bt 32 (co (nd sha (ro ps x.1) (ovs ps d pre))) = V := ⟨_, rfl⟩
    have HVNE := Lib.hid hVN
    rw [hVX] at HI4 HJ HVX ⊢
    rw [hVA] at HI1 HJ HVA
    rw [hVN] at HJ HVN
    have HIX := Lib.hid HVX.out.info
    have HIA := Lib.hid HVA.out.info
    have HIN := Lib.hid HVN.out.info
    have HON' := Lib.hid HVN.out.one
    have HZN := Lib.hid (show VA.size = VN.size from by rw [HVA.out.1, HVN.out.1])
    clear h1 h2 h3 h4 hVX hVA hVN hrl
    refine wpIn_block ?_
    refine wpIn_region_round (by kernel_rfl) (fun ⟨_, _, h⟩ => h) ?_
    go_wp2_with (first
      | (with_reducible refine wpList_load_row rfl 30 (.tmp 6) rfl gp rfl 30 VX (0, 0) _ HI4.out Tryd.underlying30 rfl HIX.out ?_)
      | (with_reducible refine wpList_load_row rfl 30 (.tmp 3) rfl g0 rfl 30 VA (0, 0) _ HI1.out Tryd.underlying30 rfl HIA.out ?_))
    refine (HJ.out _ (Ext.refl _)).mono ?_
    rintro e W5 ⟨rfl, hx5⟩
    have HX5 := Lib.hid hx5
    have HB5 := Lib.hid (WBlk.ext' HI1.out hx5)
    have HC5 := Lib.hid (WBlk.ext' HI2.out hx5)
    have HG6 := Lib.hid (setRow_heap _ g0 _ VN _ _ HB5.out)
    have HF6 := Lib.hid (setRow_far (h := g0) (V := VN) (by omega) HC5.out)
    have HX6 := Lib.hid ((HX.out.trans hx5).setRow (g := g0) (by rw [HW0.out]; exact Nat.le_refl _) VN)
    clear hx5
    go_wp2_with (with_reducible refine wpList_store_all rfl 30 (.tmp 3) (.tmp 13) rfl g0 VA VN rfl rfl HB5.out HIN.out HZN.out HON'.out ?_)
    exact ⟨(keepsFrom_ext HX5.out).trans (KeepsFrom.of_grownBy (grown_setRow W5 g0 VN) (fun j e => by injection e with e; have := HQ3.out; omega)),
      (KpD.ext HX5.out).trans (KpD.grown (grown_setRow W5 g0 VN) (fun e => by injection e with e; omega) (fun b o e h e' => by injection e' with e'; have := HBK.out b o e (by rw [← HN.out]; exact h); omega)),
      by rw [HSN.out, HVNE.out]; exact HG6.out, HF6.out, HX6.out⟩
  case done =>
    rintro D ys W hD hys ⟨h1, h2, h3⟩ hK
    have HT := Lib.hid (HEV.out ys hys)
    rw [HT.out] at h1
    have HOO := Lib.hid (show (ov ps d).length = 32 ∧ Sm (ov ps d) from by rw [← HT.out]; exact HOK.out ys)
    have HVA := Lib.hid (bt_dgc (ov ps d))
    obtain ⟨VA, hVA⟩ : ∃ V, bt 32 (co (ov ps d)) = V := ⟨_, rfl⟩
    rw [hVA] at h1 HVA
    have HVE := Lib.hid hVA
    have HI1 := Lib.hid h1
    have HI2 := Lib.hid h2
    have HIA := Lib.hid HVA.out.info
    have HOA := Lib.hid HVA.out.one
    have HZA := Lib.hid (show Z.size = VA.size from by rw [HVA.out.1]; exact HZ32.out ())
    have HLD := Lib.hid (show (Instr.loadAt 30 (.pointer (some ⟨g0, 0, none⟩))).run Tryd.prog W = .ok (.agg VA) W from by
      have h := load_blk W g0 (ov ps d) 30 (0, 0) (by rw [hVA]; exact h1)
      unfold dgv at h
      rw [hVA] at h
      exact h)
    have HG6 := Lib.hid (setRow_heap _ (g0 + 1) _ VA _ _ HI2.out)
    have HX6 := Lib.hid (h3.setRow (g := g0 + 1) (by have := HW0.out; omega) VA)
    have HKD := Lib.hid hK
    clear h1 h2 h3 hVA hK
    gi_wp2_with (first
      | (refine wpListIn_load_dig rfl (.tmp 3) rfl (.agg VA) HLD.out ?_)
      | (refine wpListIn_store_all rfl 30 (.tmp 4) (.tmp 14) rfl (g0 + 1) Z VA rfl rfl HI2.out HIA.out HZA.out HOA.out ?_))
    have HK6 := Lib.hid (show (W.setRow (g0 + 1) VA).heap[D]? = some (.deferred (some [])) from (setRow_other W (g0 + 1) D VA (by have := HQ3.out; omega)).trans HKD.out)
    refine ⟨by simp, .inl ⟨_, _, rfl, run_takeDeferred HK6.out, ?_⟩⟩
    exact ⟨.agg VA, results_cell_row Tryd.results38 _ _ (g0 + 1) 30 VA (0, 0) _ rfl ((World.putObj_heap_other (by have := HQ3.out; omega)).trans HG6.out) Tryd.underlying30 rfl HIA.out, by rw [HVE.out], ⟨HX6.out.below.trans (belowK_b (w := w) (Nat.le_refl _) _ D _ _ (by have := HQ3.out; have := HW0.out; omega) HK6.out rfl rfl)⟩⟩
  case stop =>
    rintro D c pre W _ _ h _
    exact h.elim
end Go.Proofs.YthbfodmpoheahaaDoor

/-
  Counting ones byte by byte, as math/bits does; ones at a number's end. Conditions: numbers below 2^24. No function is named here.
-/
namespace Go.Proofs.YthbfodmpoheahaaDoor

theorem and_cons (A Y m R : Nat) (hA : A < 256) (hm : m < 256) : (A + 256 * Y) &&& (m + 256 * R) = (A &&& m) + 256 * (Y &&& R) := by
  have h256 : (256 : Nat) = 2 ^ 8 := by decide
  have hA' : A < 2 ^ 8 := hA
  have hm' : m < 2 ^ 8 := hm
  have hAm : A &&& m < 2 ^ 8 := Nat.and_lt_two_pow A hm'
  rw [Nat.add_comm A, Nat.add_comm m, Nat.add_comm (A &&& m), h256]
  apply Nat.eq_of_testBit_eq
  intro i
  rw [Nat.testBit_and, Nat.testBit_two_pow_mul_add _ hA', Nat.testBit_two_pow_mul_add _ hm', Nat.testBit_two_pow_mul_add _ hAm]
  by_cases h : i < 8
  · rw [if_pos h, if_pos h, if_pos h, Nat.testBit_and]
  · rw [if_neg h, if_neg h, if_neg h, Nat.testBit_and]
theorem and_bytes (A B C m R : Nat) (hA : A < 256) (hB : B < 256) (hC : C < 256) (hm : m < 256) :
    (A + 256 * (B + 256 * C)) &&& (m + 256 * (m + 256 * (m + 256 * R))) = (A &&& m) + 256 * ((B &&& m) + 256 * (C &&& m)) := by
  rw [and_cons A _ m _ hA hm, and_cons B _ m _ hB hm]
  have h := and_cons C 0 m R hC hm
  rw [Nat.mul_zero, Nat.add_zero, Nat.zero_and, Nat.mul_zero, Nat.add_zero] at h
  rw [h]
/-- Ones, by so many steps. -/
def popf : Nat → Nat → Nat
  | 0, _ => 0
  | f + 1, n => n % 2 + popf f (n / 2)
theorem popf_pop : ∀ (f n : Nat), n < 2 ^ f → popf f n = pop n
  | 0, n, h => by
    have : n = 0 := by simpa using h
    subst this
    rw [pop_zero]
    rfl
  | f + 1, n, h => by
    have h2 : n / 2 < 2 ^ f := by rw [Nat.pow_succ] at h; omega
    unfold popf
    rw [popf_pop f _ h2]
    rcases Nat.eq_zero_or_pos n with rfl | h0
    · simp [pop_zero]
    · rw [pop_more h0]
theorem pop_cat : ∀ (f a y : Nat), a < 2 ^ f → pop (a + 2 ^ f * y) = pop a + pop y
  | 0, a, y, h => by
    have : a = 0 := by simpa using h
    subst this
    simp [pop_zero]
  | f + 1, a, y, h => by
    have h2 : a / 2 < 2 ^ f := by rw [Nat.pow_succ] at h; omega
    have e : a + 2 ^ (f + 1) * y = 2 * (a / 2 + 2 ^ f * y) + a % 2 := by
      rw [Nat.pow_succ, Nat.mul_comm (2 ^ f) 2, Nat.mul_assoc]
      generalize 2 ^ f * y = q
      omega
    rcases Nat.eq_zero_or_pos (a + 2 ^ (f + 1) * y) with h0 | h0
    · have ha : a = 0 := by omega
      have hy : 2 ^ (f + 1) * y = 0 := by omega
      have hy0 : y = 0 := by
        rcases Nat.mul_eq_zero.1 hy with h3 | h3
        · have := Nat.two_pow_pos (f + 1); omega
        · exact h3
      subst ha; subst hy0
      simp [pop_zero]
    · rw [pop_more h0, e, show (2 * (a / 2 + 2 ^ f * y) + a % 2) % 2 = a % 2 from by omega, show (2 * (a / 2 + 2 ^ f * y) + a % 2) / 2 = a / 2 + 2 ^ f * y from by omega, pop_cat f _ y h2]
      rcases Nat.eq_zero_or_pos a with rfl | ha
      · simp [pop_zero]
      · rw [pop_more ha]
        omega
theorem pop_three (a b c : Nat) (ha : a < 256) (hb : b < 256) (_hc : c < 256) : pop (a + 256 * (b + 256 * c)) = pop a + pop b + pop c := by
  have h1 := pop_cat 8 a (b + 256 * c) ha
  have h2 := pop_cat 8 b c hb
  rw [show (2 : Nat) ^ 8 = 256 from by decide] at h1 h2
  rw [h1, h2]
  omega
def g1 (a : Nat) : Nat := (a / 2 &&& 85) + (a &&& 85)
def g2 (a : Nat) : Nat := (a / 4 &&& 51) + (a &&& 51)
set_option maxRecDepth 100000 in
theorem g1_mask : ∀ a : Nat, a < 256 → ∀ r : Nat, r < 2 → (a / 2 + 128 * r) &&& 85 = a / 2 &&& 85 := by decide +kernel
set_option maxRecDepth 100000 in
theorem g2_mask : ∀ a : Nat, a < 256 → ∀ r : Nat, r < 4 → (a / 4 + 64 * r) &&& 51 = a / 4 &&& 51 := by decide +kernel
set_option maxRecDepth 100000 in
theorem g_ok : ∀ a : Nat, a < 256 → g1 a < 256 ∧ g2 (g1 a) < 256 ∧ g2 (g1 a) % 16 ≤ 4 ∧ g2 (g1 a) / 16 ≤ 4 ∧ (g2 (g1 a) + g2 (g1 a) / 16) % 16 = popf 8 a ∧ popf 8 a ≤ 8 := by decide +kernel
/-- What math/bits counts, step by step. -/
def o1 (x : Nat) : Nat := (x / 2 &&& 6148914691236517205) + (x &&& 6148914691236517205)
def o2 (x : Nat) : Nat := (x / 4 &&& 3689348814741910323) + (x &&& 3689348814741910323)
def o3 (x : Nat) : Nat := (x / 16 + x) &&& 1085102592571150095
theorem o1_is (a b c : Nat) (ha : a < 256) (hb : b < 256) (hc : c < 256) : o1 (a + 256 * (b + 256 * c)) = g1 a + 256 * (g1 b + 256 * g1 c) := by
  unfold o1 g1
  have e : (a + 256 * (b + 256 * c)) / 2 = (a / 2 + 128 * (b % 2)) + 256 * ((b / 2 + 128 * (c % 2)) + 256 * (c / 2)) := by omega
  have k : (6148914691236517205 : Nat) = 85 + 256 * (85 + 256 * (85 + 256 * 366503875925)) := by decide
  rw [e, k, and_bytes _ _ _ 85 _ (by omega) (by omega) (by omega) (by decide), and_bytes a b c 85 _ ha hb hc (by decide), g1_mask a ha _ (Nat.mod_lt _ (by decide)), g1_mask b hb _ (Nat.mod_lt _ (by decide))]
  generalize a / 2 &&& 85 = p1
  generalize b / 2 &&& 85 = p2
  generalize c / 2 &&& 85 = p3
  omega
theorem o2_is (a b c : Nat) (ha : a < 256) (hb : b < 256) (hc : c < 256) : o2 (a + 256 * (b + 256 * c)) = g2 a + 256 * (g2 b + 256 * g2 c) := by
  unfold o2 g2
  have e : (a + 256 * (b + 256 * c)) / 4 = (a / 4 + 64 * (b % 4)) + 256 * ((b / 4 + 64 * (c % 4)) + 256 * (c / 4)) := by omega
  have k : (3689348814741910323 : Nat) = 51 + 256 * (51 + 256 * (51 + 256 * 219902325555)) := by decide
  rw [e, k, and_bytes _ _ _ 51 _ (by omega) (by omega) (by omega) (by decide), and_bytes a b c 51 _ ha hb hc (by decide), g2_mask a ha _ (Nat.mod_lt _ (by decide)), g2_mask b hb _ (Nat.mod_lt _ (by decide))]
  generalize a / 4 &&& 51 = p1
  generalize b / 4 &&& 51 = p2
  generalize c / 4 &&& 51 = p3
  omega
theorem and_15 (n : Nat) : n &&& 15 = n % 16 := Nat.and_two_pow_sub_one_eq_mod n 4
theorem o3_is (a b c : Nat) (ha : a / 16 ≤ 4) (ha' : a % 16 ≤ 4) (hb : b / 16 ≤ 4) (hb' : b % 16 ≤ 4) (hc : c / 16 ≤ 4) (hc' : c % 16 ≤ 4) :
    o3 (a + 256 * (b + 256 * c)) = (a + a / 16) % 16 + 256 * ((b + b / 16) % 16 + 256 * ((c + c / 16) % 16)) := by
  unfold o3
  have e : (a + 256 * (b + 256 * c)) / 16 + (a + 256 * (b + 256 * c)) = (a / 16 + 16 * (b % 16) + a) + 256 * ((b / 16 + 16 * (c % 16) + b) + 256 * (c / 16 + c)) := by omega
  have k : (1085102592571150095 : Nat) = 15 + 256 * (15 + 256 * (15 + 256 * 64677154575)) := by decide
  rw [e, k, and_bytes _ _ _ 15 _ (by omega) (by omega) (by omega) (by decide), and_15, and_15, and_15]
  have p1 : (a / 16 + 16 * (b % 16) + a) % 16 = (a + a / 16) % 16 := by omega
  have p2 : (b / 16 + 16 * (c % 16) + b) % 16 = (b + b / 16) % 16 := by omega
  rw [p1, p2, Nat.add_comm (c / 16) c]
/-- All of it. -/
theorem ones_all (x : Nat) (hx : x < 16777216) : ∃ x3, o3 (o2 (o1 x)) = x3 ∧ o1 x < 16777216 ∧ o2 (o1 x) < 16777216 ∧ x3 < 16777216 ∧ (let x4 := x3 + x3 / 256; let x5 := x4 + x4 / 65536; x4 < 4294967296 ∧ x5 < 4294967296 ∧ x5 % 128 = pop x) := by
  obtain ⟨a, ha⟩ : ∃ a, x % 256 = a := ⟨_, rfl⟩
  obtain ⟨b, hb⟩ : ∃ b, x / 256 % 256 = b := ⟨_, rfl⟩
  obtain ⟨c, hc⟩ : ∃ c, x / 65536 = c := ⟨_, rfl⟩
  have ha' : a < 256 := by omega
  have hb' : b < 256 := by omega
  have hc' : c < 256 := by omega
  have e : x = a + 256 * (b + 256 * c) := by omega
  obtain ⟨a1, a2, a3, a4, a5, a6⟩ := g_ok a ha'
  obtain ⟨b1, b2, b3, b4, b5, b6⟩ := g_ok b hb'
  obtain ⟨c1, c2, c3, c4, c5, c6⟩ := g_ok c hc'
  have hp := pop_three a b c ha' hb' hc'
  rw [← e, ← popf_pop 8 a ha', ← popf_pop 8 b hb', ← popf_pop 8 c hc'] at hp
  have h1 := o1_is a b c ha' hb' hc'
  rw [← e] at h1
  have h2 := o2_is (g1 a) (g1 b) (g1 c) a1 b1 c1
  rw [← h1] at h2
  have h3 := o3_is (g2 (g1 a)) (g2 (g1 b)) (g2 (g1 c)) a4 a3 b4 b3 c4 c3
  rw [← h2, a5, b5, c5] at h3
  generalize popf 8 a = pa at *
  generalize popf 8 b = pb at *
  generalize popf 8 c = pc at *
  refine ⟨_, h3, by rw [h1]; omega, by rw [h2]; omega, by omega, ?_⟩
  have q1 : (pa + 256 * (pb + 256 * pc)) / 256 = pb + 256 * pc := by omega
  have q2 : (pa + 256 * (pb + 256 * pc) + (pb + 256 * pc)) / 65536 = pc := by omega
  have q3 : (pa + 256 * (pb + 256 * pc) + (pb + 256 * pc) + pc) % 128 = pa + pb + pc := by
    rw [show pa + 256 * (pb + 256 * pc) + (pb + 256 * pc) + pc = (pa + pb + pc) + 128 * (2 * (pb + pc) + 512 * pc) from by omega, Nat.add_mul_mod_self_left]
    omega
  rw [hp]
  simp only [q1, q2]
  exact ⟨by omega, by omega, q3⟩
end Go.Proofs.YthbfodmpoheahaaDoor

/-
  What math/bits.OnesCount and TrailingZeros do. Conditions: a number below 2^24; a number above 0, under the table's lying where it was laid.
-/
namespace Go.Proofs.YthbfodmpoheahaaDoor
open Go.RowKit
open Pol (co Sm)

theorem i64_and127 (x : Nat) (h : x < 4294967296) : bits .and .i64 (x : Int) 127 = ((x % 128 : Nat) : Int) := by
  show IntKind.i64.wrap ((BitVec.ofInt 64 (x : Int) &&& BitVec.ofInt 64 127).toNat : Int) = _
  rw [BitVec.toNat_and, ofInt_u64 x (by omega), show (BitVec.ofInt 64 127).toNat = 127 from by decide, show x &&& 127 = x % 128 from Nat.and_two_pow_sub_one_eq_mod x 7, IntKind.wrap_i64]
  omega
set_option maxHeartbeats 800000 in
set_option maxRecDepth 100000 in
theorem mk_ones64 (x : Nat) (w : World) (hx : x < 16777216) :
    Calls Tryd.prog 49 #[.int .u64 (x : Int)] w (fun e w' => e = .returned (.int .i64 ((pop x : Nat) : Int)) ∧ w = w') := by
  obtain ⟨x3, h3, b1, b2, b3, h4⟩ := ones_all x hx
  simp only at h4
  obtain ⟨x4, e4⟩ : ∃ y, x3 + x3 / 256 = y := ⟨_, rfl⟩
  rw [e4] at h4
  obtain ⟨x5, e5⟩ : ∃ y, x4 + x4 / 65536 = y := ⟨_, rfl⟩
  rw [e5] at h4
  obtain ⟨b4, b5, h6⟩ := h4
  obtain ⟨P, hP⟩ : ∃ P, pop x = P := ⟨_, rfl⟩
  rw [hP] at h6 ⊢
  obtain ⟨x1, e1⟩ : ∃ y, o1 x = y := ⟨_, rfl⟩
  rw [e1] at b1 b2 h3
  obtain ⟨x2, e2⟩ : ∃ y, o2 x1 = y := ⟨_, rfl⟩
  rw [e2] at b2 h3
  obtain ⟨A1, a1⟩ : ∃ y, x / 2 &&& 6148914691236517205 = y := ⟨_, rfl⟩
  obtain ⟨A2, a2⟩ : ∃ y, x &&& 6148914691236517205 = y := ⟨_, rfl⟩
  obtain ⟨B1, c1⟩ : ∃ y, x1 / 4 &&& 3689348814741910323 = y := ⟨_, rfl⟩
  obtain ⟨B2, c2⟩ : ∃ y, x1 &&& 3689348814741910323 = y := ⟨_, rfl⟩
  have f1 : A1 + A2 = x1 := by rw [← a1, ← a2, ← e1]; rfl
  have f2 : B1 + B2 = x2 := by rw [← c1, ← c2, ← e2]; rfl
  obtain ⟨y3, hy3⟩ : ∃ y, x2 / 16 + x2 = y := ⟨_, rfl⟩
  have f3 : y3 &&& 1085102592571150095 = x3 := by rw [← h3, ← hy3]; rfl
  have g1' : bits .and .u64 ((x : Int) / 2) 6148914691236517205 = (A1 : Int) := by
    have h := u64_and_nat (x / 2) 6148914691236517205 (by omega) (by decide)
    rw [a1] at h
    rw [← h]
    rfl
  have g2' : bits .and .u64 (x : Int) 6148914691236517205 = (A2 : Int) := by
    have h := u64_and_nat x 6148914691236517205 (by omega) (by decide)
    rw [a2] at h
    rw [← h]
    rfl
  have g3' : bits .and .u64 ((x1 : Int) / 4) 3689348814741910323 = (B1 : Int) := by
    have h := u64_and_nat (x1 / 4) 3689348814741910323 (by omega) (by decide)
    rw [c1] at h
    rw [← h]
    rfl
  have g4' : bits .and .u64 (x1 : Int) 3689348814741910323 = (B2 : Int) := by
    have h := u64_and_nat x1 3689348814741910323 (by omega) (by decide)
    rw [c2] at h
    rw [← h]
    rfl
  have g5' : bits .and .u64 (y3 : Int) 1085102592571150095 = (x3 : Int) := by
    have h := u64_and_nat y3 1085102592571150095 (by omega) (by decide)
    rw [f3] at h
    rw [← h]
    rfl
  have i1 : (A1 : Int) + (A2 : Int) = (x1 : Int) := by omega
  have i2 : (B1 : Int) + (B2 : Int) = (x2 : Int) := by omega
  have i3 : (x2 : Int) / 16 + (x2 : Int) = (y3 : Int) := by omega
  have i4 : (x3 : Int) + (x3 : Int) / 256 = (x4 : Int) := by omega
  have i5 : (x4 : Int) + (x4 : Int) / 65536 = (x5 : Int) := by omega
  have i6 : (x5 : Int) + (x5 : Int) / 4294967296 = (x5 : Int) := by omega
  have j1 : IntKind.u64.wrap (x1 : Int) = (x1 : Int) := by rw [IntKind.wrap_u64]; omega
  have j2 : IntKind.u64.wrap (x2 : Int) = (x2 : Int) := by rw [IntKind.wrap_u64]; omega
  have j3 : IntKind.u64.wrap (y3 : Int) = (y3 : Int) := by rw [IntKind.wrap_u64]; omega
  have j4 : IntKind.u64.wrap (x4 : Int) = (x4 : Int) := by rw [IntKind.wrap_u64]; omega
  have j5 : IntKind.u64.wrap (x5 : Int) = (x5 : Int) := by rw [IntKind.wrap_u64]; omega
  have j6 : IntKind.i64.wrap (x5 : Int) = (x5 : Int) := by rw [IntKind.wrap_i64]; omega
  have j7 : bits .and .i64 (x5 : Int) 127 = (P : Int) := by rw [i64_and127 x5 b5, h6]
  clear hP h6 e1 e2 e4 e5 a1 a2 c1 c2 f1 f2 f3 hy3 h3 b1 b2 b3 b4 b5 hx
  go_enter Tryd.func49, Tryd.ntmps49
  go_wp2
  go_ret
  exact ⟨rfl, rfl⟩
set_option maxHeartbeats 800000 in
set_option maxRecDepth 100000 in
theorem mk_ones (x : Nat) (w : World) (hx : x < 16777216) :
    Calls Tryd.prog 36 #[.int .u64 (x : Int)] w (fun e w' => e = .returned (.int .i64 ((pop x : Nat) : Int)) ∧ w = w') := by
  have HO := Lib.hid (mk_ones64 x w hx)
  obtain ⟨P, hP⟩ : ∃ P, pop x = P := ⟨_, rfl⟩
  rw [hP] at HO ⊢
  clear hP
  go_enter Tryd.func36, Tryd.ntmps36
  go_wp2_with fail
  refine HO.out.mono ?_
  rintro e w1 ⟨rfl, rfl⟩
  go_wp2
  go_ret
  exact ⟨rfl, rfl⟩
/-- The table of math/bits, as start-up lays it. -/
def GB (w : World) : Prop := ∃ T, w.heap[2]? = some (.cells (bt 64 (co Lib.deBruijn64tab)) T (0, 0))
theorem GB.ext {w w' : World} (h : GB w) (hx : Ext w w') : GB w' := by
  obtain ⟨T, h1⟩ := h
  exact ⟨T, (hx.below.block _ (Array.getElem?_eq_some_iff.1 h1).1).trans h1⟩
set_option maxHeartbeats 800000 in
set_option maxRecDepth 100000 in
theorem mk_trail64 (x : Nat) (w : World) (hg : GB w) (hx : x < 18446744073709551616) (h0 : 0 < x) :
    Calls Tryd.prog 51 #[.int .u64 (x : Int)] w (fun e w' => e = .returned (.int .i64 ((Lib.ctz 64 x : Nat) : Int)) ∧ w = w') := by
  obtain ⟨T, hT⟩ := hg
  have hlb := Lib.lowest_bit 64 x (by omega) (by simpa using hx)
  rw [show (2 : Nat) ^ 64 = 18446744073709551616 from by decide] at hlb
  obtain ⟨t, ht⟩ : ∃ t, Lib.ctz 64 x = t := ⟨_, rfl⟩
  rw [ht] at hlb ⊢
  obtain ⟨hl1, hl2⟩ := hlb
  obtain ⟨hd1, hd2⟩ := Lib.deBruijn64_at t hl2
  have hp64 : 2 ^ t < 18446744073709551616 := by
    have := Nat.pow_lt_pow_right (a := 2) (by decide) hl2
    rwa [show (2 : Nat) ^ 64 = 18446744073709551616 from by decide] at this
  obtain ⟨L, hL⟩ : ∃ L, 2 ^ t = L := ⟨_, rfl⟩
  rw [hL] at hl1 hd1 hd2 hp64
  obtain ⟨x2, hx2⟩ : ∃ y, 18446744073709551616 - x = y := ⟨_, rfl⟩
  rw [hx2] at hl1
  obtain ⟨M, hM⟩ : ∃ M, L * 285870213051353865 % 18446744073709551616 = M := ⟨_, rfl⟩
  rw [hM] at hd1 hd2
  obtain ⟨I, hI⟩ : ∃ I, M / 288230376151711744 = I := ⟨_, rfl⟩
  rw [hI] at hd1 hd2
  have k1 : IntKind.u64.wrap (-(x : Int)) = (x2 : Int) := by rw [IntKind.wrap_u64]; omega
  have k2 : bits .and .u64 (x : Int) (x2 : Int) = (L : Int) := by
    have h := u64_and_nat x x2 (by omega) (by omega)
    rw [hl1] at h
    exact h
  have k3 : IntKind.u64.wrap ((L : Int) * 285870213051353865) = (M : Int) := by rw [IntKind.wrap_u64]; omega
  have k4 : (M : Int) / 288230376151711744 = (I : Int) := by omega
  have k5 : (I : Int) < 64 := by omega
  have k6 : (0 : Int) ≤ (I : Int) := by omega
  have k7 : IntKind.i64.wrap (t : Int) = (t : Int) := by rw [IntKind.wrap_i64]; omega
  have hcell : w.cell? ⟨2, I, none⟩ = some (.int .u8 (t : Int)) := by
    have he : co Lib.deBruijn64tab I = t := hd2
    rw [cell_of_row w _ I _ _ _ hT, bt_at 64 _ I hd1, he]
  have h1 : ¬ x = 0 := by omega
  have h2 : ¬ (x : Int) = 0 := by omega
  clear hT ht hl1 hl2 hd1 hd2 hL hx2 hM hI hp64 hx h0
  go_enter Tryd.func51, Tryd.ntmps51
  go_wp2
  go_ret
  exact ⟨rfl, rfl⟩
set_option maxHeartbeats 800000 in
set_option maxRecDepth 100000 in
theorem mk_trail (x : Nat) (w : World) (hg : GB w) (hx : x < 18446744073709551616) (h0 : 0 < x) :
    Calls Tryd.prog 37 #[.int .u64 (x : Int)] w (fun e w' => e = .returned (.int .i64 ((Lib.ctz 64 x : Nat) : Int)) ∧ w = w') := by
  have HO := Lib.hid (mk_trail64 x w hg hx h0)
  obtain ⟨P, hP⟩ : ∃ P, Lib.ctz 64 x = P := ⟨_, rfl⟩
  rw [hP] at HO ⊢
  clear hP
  go_enter Tryd.func37, Tryd.ntmps37
  go_wp2_with fail
  refine HO.out.mono ?_
  rintro e w1 ⟨rfl, rfl⟩
  go_wp2
  go_ret
  exact ⟨rfl, rfl⟩
end Go.Proofs.YthbfodmpoheahaaDoor

/-
  A load of a whole array, under a guard. Conditions: none; no function is named here.
-/
namespace Go.Proofs.YthbfodmpoheahaaDoor
open Go.RowKit

theorem wpList_load_row_g {P : Program} {ops : Array Oper} {rest : List Oper} {o : Oper} {a : Act} {w : World} {Q : Exit → Act → World → Prop} (hgd : Region.wanted o (yielded ops a.tmps) = true) (ty : TypeId) (x : Operand) (ho : o.op = .load ty x)
    (g : Nat) (hx : a.eval x = .pointer (some ⟨g, 0, none⟩)) (t : TypeId) (cs : Array Value) (fr : Nat × Nat) (d : TypeDesc) (hg : w.heap[g]? = some (.cells cs t fr))
    (hu : P.underlying ty = some d) (hd : (match d with | .struct _ | .array _ _ => true | _ => false) = true) (hi : (P.info? ty).map (·.size) = some cs.size)
    (h : wpList P ops Q rest (a.put o.dst (.agg cs)) w) : wpList P ops Q (o :: rest) a w := by
  unfold wpList
  rw [if_pos hgd]
  exact .inl (wp_load_row ty x ho g hx t cs fr d hg hu hd hi h)
theorem wpIf_load_row {P : Program} {ops : Array Oper} {o : Oper} {a : Act} {w : World} {K : Act → World → Prop} {Q : Exit → Act → World → Prop} {E : Prop} (hgd : Region.wanted o (yielded ops a.tmps) = true) (ty : TypeId) (x : Operand) (ho : o.op = .load ty x)
    (g : Nat) (hx : a.eval x = .pointer (some ⟨g, 0, none⟩)) (t : TypeId) (cs : Array Value) (fr : Nat × Nat) (d : TypeDesc) (hg : w.heap[g]? = some (.cells cs t fr))
    (hu : P.underlying ty = some d) (hd : (match d with | .struct _ | .array _ _ => true | _ => false) = true) (hi : (P.info? ty).map (·.size) = some cs.size)
    (h : K (a.put o.dst (.agg cs)) w) : if Region.wanted o (yielded ops a.tmps) = true then Oper.wp P o a w K Q else E := by
  rw [if_pos hgd]
  exact wp_load_row ty x ho g hx t cs fr d hg hu hd hi h
end Go.Proofs.YthbfodmpoheahaaDoor

/-
  What Shows and Proof of layer 11 are to tell. Conditions: none; no function is named here.
-/
namespace Go.Proofs.YthbfodmpoheahaaDoor
open Go.RowKit
open Pol (co Sm)

/-- What Shows tells. -/
def shw (d t : List Nat) (i n : Int) (ps : List (List Nat)) : Bool := decide (0 ≤ i ∧ i < n ∧ n ≤ 1048576 ∧ mlift sha (lf sha t) n.toNat i.toNat ps = some d)
theorem shw_bad {d t : List Nat} {i n : Int} {ps : List (List Nat)} (h : i < 0 ∨ n ≤ i ∨ 1048576 < n) : shw d t i n ps = false := decide_eq_false (fun ⟨h1, h2, h3, _⟩ => by omega)
theorem shw_not {d t : List Nat} {i n : Nat} {ps : List (List Nat)} (h : mlift sha (lf sha t) n i ps = none) : shw d t (i : Int) (n : Int) ps = false := decide_eq_false (fun ⟨_, _, _, h4⟩ => by
  rw [Int.toNat_natCast, Int.toNat_natCast, h] at h4
  cases h4)
theorem shw_is {d t x : List Nat} {i n : Nat} {ps : List (List Nat)} (hi : i < n) (hn : n ≤ 1048576) (h : mlift sha (lf sha t) n i ps = some x) : shw d t (i : Int) (n : Int) ps = decide (x = d) := by
  unfold shw
  rw [Int.toNat_natCast, Int.toNat_natCast, h]
  by_cases e : x = d
  · rw [decide_eq_true e, decide_eq_true ⟨by omega, by omega, by omega, by rw [e]⟩]
  · rw [decide_eq_false e]
    exact decide_eq_false (fun ⟨_, _, _, h4⟩ => e (by injection h4))
/-- What Proof hands back. -/
def ProofS (rows : List (List Nat)) (i : Nat) (w : World) (e : Ending) (w' : World) : Prop := ∃ v, e = .returned (.tuple #[v, .int .i64 0]) ∧ DMine w' w.heap.size v (mprf sha rows i) ∧ Ext w w'
end Go.Proofs.YthbfodmpoheahaaDoor

/-
  What layer 11's own functions are to do, as one statement, but for Grow. Conditions: no more than 4096 texts of 2^15 bytes; at most 1024 digests.
-/
namespace Go.Proofs.YthbfodmpoheahaaDoor
open Go.RowKit
open Pol (co Sm)

structure MerkleSaid : Prop where
  root : ∀ (rows : List (List Nat)) (A : Option Addr) (c : Nat) (w : World), GL w → RRd w A rows → rows.length ≤ c → rows.length ≤ 4096 → (∀ i, i < rows.length → (ro rows i).length ≤ 32768) → Calls Tryd.prog 12 #[.slice A rows.length c] w (Tells (dgv (mroot sha rows)) w)
  prf : ∀ (rows : List (List Nat)) (i : Nat) (A : Option Addr) (c : Nat) (w : World), i < rows.length → GL w → RRd w A rows → rows.length ≤ c → rows.length ≤ 4096 → (∀ i, i < rows.length → (ro rows i).length ≤ 32768) → Calls Tryd.prog 11 #[.slice A rows.length c, .int .i64 (i : Int)] w (ProofS rows i w)
  prx : ∀ (n c : Nat) (i : Int) (A : Option Addr) (w : World), (i < 0 ∨ (n : Int) ≤ i) → Calls Tryd.prog 11 #[.slice A n c, .int .i64 i] w (fun e w' => e = .returned (.tuple #[.slice none 0 0, .int .i64 5]) ∧ Ext w w')
  shows : ∀ (d t : List Nat) (i n : Int) (ps : List (List Nat)) (A B : Option Addr) (c cb : Nat) (w : World), GL w → d.length = 32 → Sm d → Rd w A t → t.length ≤ c → t.length ≤ 32768 → DRd w B ps → ps.length ≤ cb → ps.length ≤ 1024 →
    Calls Tryd.prog 16 #[dgv d, .slice A t.length c, .int .i64 i, .int .i64 n, .slice B ps.length cb] w (Tells (.bool (shw d t i n ps)) w)
end Go.Proofs.YthbfodmpoheahaaDoor

/-
  SHA-256 in a form that the kernel reckons fast: each number is a literal before it is used. Conditions: none; no function is named here.
-/
namespace Go.Proofs.YthbfodmpoheahaaDoor
open Pol (co Sm)

/-- A number, made a literal. -/
def frc {α : Type} (n : Nat) (k : Nat → α) : α := match n with
  | 0 => k 0
  | m + 1 => k (m + 1)
theorem frc_eq {α : Type} (n : Nat) (k : Nat → α) : frc n k = k n := by cases n <;> rfl
def oneF (e f g h k w : Nat) : Nat := (h + (tw e 6 ^^^ tw e 11 ^^^ tw e 25) + ((e &&& f) ^^^ ((4294967295 - e) &&& g)) + k + w) % 4294967296
def twoF (a b c : Nat) : Nat := ((tw a 2 ^^^ tw a 13 ^^^ tw a 22) + ((a &&& b) ^^^ (a &&& c) ^^^ (b &&& c))) % 4294967296
def bF : List Nat → Nat → Nat → Nat → Nat → Nat → Nat → Nat → Nat → Nat → Nat → Nat → Nat → Nat → Nat → Nat → Nat → Nat → Nat → Nat → Nat → Nat → Nat → Nat → Nat → List Nat
  | [], _, _, _, _, _, _, _, _, _, _, _, _, _, _, _, _, a, b, c, d, e, f, g, h => [a, b, c, d, e, f, g, h]
  | k :: ks, w0, w1, w2, w3, w4, w5, w6, w7, w8, w9, w10, w11, w12, w13, w14, w15, a, b, c, d, e, f, g, h => frc (oneF e f g h k w0) fun o => frc ((o + twoF a b c) % 4294967296) fun a' => frc ((d + o) % 4294967296) fun e' => frc ((w0 + w9 + sg0 w1 + sg1 w14) % 4294967296) fun w16 => bF ks w1 w2 w3 w4 w5 w6 w7 w8 w9 w10 w11 w12 w13 w14 w15 w16 a' a b c e' e f g
/-- The words, without end. -/
def ww (f : Nat → Nat) (j : Nat) : Nat := co (wl f (j + 1)) j
theorem co_app_left (l m : List Nat) (j : Nat) (h : j < l.length) : co (l ++ m) j = co l j := by
  unfold co
  rw [List.getElem?_append_left h]
theorem wl_ww (f : Nat → Nat) : ∀ n j, j < n → co (wl f n) j = ww f j
  | 0, j, h => absurd h (by omega)
  | n + 1, j, h => by
    by_cases e : j = n
    · subst e; rfl
    · rw [wl, co_app_left _ _ j (by rw [wl_len]; omega)]
      exact wl_ww f n j (by omega)
theorem ww_new (f : Nat → Nat) (j : Nat) : ww f j = if j < 16 then f j else wnx (wl f j) j := by
  unfold ww
  rw [wl]
  unfold co
  rw [List.getElem?_append_right (by rw [wl_len]; omega), wl_len, Nat.sub_self]
  rfl
theorem ww_first (f : Nat → Nat) (j : Nat) (h : j < 16) : ww f j = f j := by rw [ww_new, if_pos h]
theorem ww_next (f : Nat → Nat) (j : Nat) : ww f (j + 16) = (ww f j + ww f (j + 9) + sg0 (ww f (j + 1)) + sg1 (ww f (j + 14))) % 4294967296 := by
  rw [ww_new, if_neg (by omega)]
  unfold wnx
  rw [show j + 16 - 16 = j from by omega, show j + 16 - 7 = j + 9 from by omega, show j + 16 - 15 = j + 1 from by omega, show j + 16 - 2 = j + 14 from by omega,
    wl_ww f _ _ (by omega), wl_ww f _ _ (by omega), wl_ww f _ _ (by omega), wl_ww f _ _ (by omega)]
theorem eight {s : List Nat} (h : s.length = 8) : [co s 0, co s 1, co s 2, co s 3, co s 4, co s 5, co s 6, co s 7] = s := by
  match s, h with
  | [_, _, _, _, _, _, _, _], _ => rfl
theorem bF_is (K : List Nat) (f : Nat → Nat) (h0 : List Nat) (hh : h0.length = 8) (hK : K.length = 64) : ∀ (m i : Nat), i + m = 64 → ∀ s, rds K (wl f 64) h0 i = s →
    bF (K.drop i) (ww f i) (ww f (i + 1)) (ww f (i + 2)) (ww f (i + 3)) (ww f (i + 4)) (ww f (i + 5)) (ww f (i + 6)) (ww f (i + 7)) (ww f (i + 8)) (ww f (i + 9)) (ww f (i + 10)) (ww f (i + 11)) (ww f (i + 12)) (ww f (i + 13)) (ww f (i + 14)) (ww f (i + 15)) (co s 0) (co s 1) (co s 2) (co s 3) (co s 4) (co s 5) (co s 6) (co s 7) = rds K (wl f 64) h0 64
  | 0, i, hi, s, hs => by
    have : i = 64 := by omega
    subst this
    have hl : s.length = 8 := by rw [← hs]; exact rds_len _ _ _ hh 64
    rw [List.drop_of_length_le (by omega), hs, bF]
    exact eight hl
  | m + 1, i, hi, s, hs => by
    have hd : K.drop i = co K i :: K.drop (i + 1) := by
      rw [List.drop_eq_getElem_cons (by omega)]
      unfold co
      rw [List.getElem?_eq_getElem (by omega)]
      rfl
    have ih := bF_is K f h0 hh hK m (i + 1) (by omega) (rnd (co K i) (co (wl f 64) i) s) (by rw [rds, hs])
    rw [wl_ww f 64 i (by omega)] at ih
    rw [hd, bF]
    simp only [frc_eq]
    rw [← ww_next f i]
    rw [← ih]
    simp only [Nat.add_assoc, Nat.reduceAdd]
    rfl
/-- A block. -/
def addF (s t : List Nat) : List Nat := match s, t with
  | x :: s, y :: t => frc ((x + y) % 4294967296) fun z => z :: addF s t
  | _, _ => []
def blkF (K : List Nat) (f : Nat → Nat) (s : List Nat) : List Nat := frc (f 0) fun w0 => frc (f 1) fun w1 => frc (f 2) fun w2 => frc (f 3) fun w3 => frc (f 4) fun w4 => frc (f 5) fun w5 => frc (f 6) fun w6 => frc (f 7) fun w7 => frc (f 8) fun w8 => frc (f 9) fun w9 => frc (f 10) fun w10 => frc (f 11) fun w11 => frc (f 12) fun w12 => frc (f 13) fun w13 => frc (f 14) fun w14 => frc (f 15) fun w15 => frc (co s 0) fun a => frc (co s 1) fun b => frc (co s 2) fun c => frc (co s 3) fun d => frc (co s 4) fun e => frc (co s 5) fun f => frc (co s 6) fun g => frc (co s 7) fun h => addF s (bF K w0 w1 w2 w3 w4 w5 w6 w7 w8 w9 w10 w11 w12 w13 w14 w15 a b c d e f g h)
theorem addF_is (s t : List Nat) (hs : s.length = 8) (ht : t.length = 8) : addF s t = (List.range 8).map (sumw s t) := by
  match s, hs, t, ht with
  | [_, _, _, _, _, _, _, _], _, [_, _, _, _, _, _, _, _], _ =>
    simp only [addF, frc_eq]
    rfl
theorem blkF_is (K : List Nat) (f : Nat → Nat) (s : List Nat) (hs : s.length = 8) (hK : K.length = 64) : blkF K f s = blk K f s := by
  have h := bF_is K f s hs hK 64 0 rfl s rfl
  simp only [Nat.zero_add, List.drop_zero] at h
  rw [ww_first f 0 (by omega), ww_first f 1 (by omega), ww_first f 2 (by omega), ww_first f 3 (by omega), ww_first f 4 (by omega), ww_first f 5 (by omega), ww_first f 6 (by omega), ww_first f 7 (by omega), ww_first f 8 (by omega), ww_first f 9 (by omega), ww_first f 10 (by omega), ww_first f 11 (by omega), ww_first f 12 (by omega), ww_first f 13 (by omega), ww_first f 14 (by omega), ww_first f 15 (by omega)] at h
  unfold blkF blk
  simp only [frc_eq]
  rw [h, addF_is _ _ hs (rds_len _ _ _ hs 64)]
/-- All blocks. -/
def hG (B : (Nat → Nat) → List Nat → List Nat) (t : List Nat) : Nat → Nat → List Nat → List Nat
  | 0, _, s => s
  | n + 1, j, s => hG B t n (j + 1) (B (fun i => word t (64 * j + 4 * i)) s)
theorem hG_is (B : (Nat → Nat) → List Nat → List Nat) (S : Nat → List Nat) (t : List Nat) (hS : ∀ j, B (fun i => word t (64 * j + 4 * i)) (S j) = S (j + 1)) : ∀ n j, hG B t n j (S j) = S (j + n)
  | 0, j => rfl
  | n + 1, j => by
    have ih := hG_is B S t hS n (j + 1)
    rw [hG, hS, show j + (n + 1) = j + 1 + n from by omega]
    exact ih
def hF (K t : List Nat) (n : Nat) (s : List Nat) : List Nat := hG (blkF K) t n 0 s
theorem hF_is (H K t : List Nat) (hH : H.length = 8) (hK : K.length = 64) (n : Nat) : hF K t n H = hsh H K t n := by
  have h := hG_is (blkF K) (hsh H K t) t (fun j => blkF_is K _ _ (hsh_len H K t hH j) hK) n 0
  rw [Nat.zero_add] at h
  exact h
def HHd : List Nat := [1779033703, 3144134277, 1013904242, 2773480762, 1359893119, 2600822924, 528734635, 1541459225]
def KKd : List Nat := [1116352408, 1899447441, 3049323471, 3921009573, 961987163, 1508970993, 2453635748, 2870763221, 3624381080, 310598401, 607225278, 1426881987, 1925078388, 2162078206, 2614888103, 3248222580, 3835390401, 4022224774, 264347078, 604807628, 770255983, 1249150122, 1555081692, 1996064986, 2554220882, 2821834349, 2952996808, 3210313671, 3336571891, 3584528711, 113926993, 338241895, 666307205, 773529912, 1294757372, 1396182291, 1695183700, 1986661051, 2177026350, 2456956037, 2730485921, 2820302411, 3259730800, 3345764771, 3516065817, 3600352804, 4094571909, 275423344, 430227734, 506948616, 659060556, 883997877, 958139571, 1322822218, 1537002063, 1747873779, 1955562222, 2024104815, 2227730452, 2361852424, 2428436474, 2756734187, 3204031479, 3329325298]
theorem hh8 : HH.length = 8 := by rw [HH_is]; rfl
theorem kk64 : KK.length = 64 := by rw [KK_is]; rfl
/-- A digest, in four steps of the kernel. -/
theorem sha_is {l p s d : List Nat} {n : Nat} (h1 : padded l = p) (h2 : p.length / 64 = n) (h3 : hF KKd p n HHd = s) (h4 : (List.range 32).map (digB s) = d) : sha l = d := by
  unfold sha shaK
  rw [h1, h2, show hsh HH KK p n = s from ?_]
  · exact h4
  · rw [← hF_is HH KK p hh8 kk64 n, HH_is, KK_is]
    exact h3
end Go.Proofs.YthbfodmpoheahaaDoor
