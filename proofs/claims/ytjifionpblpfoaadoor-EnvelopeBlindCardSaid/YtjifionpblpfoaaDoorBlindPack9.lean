/-
  Part 9 of the texts that the seat's proofs stand on; each part of it begins with its own sentence and conditions. Conditions: those that each theorem names.
-/
import Derived.Test.YtjifionpblpfoaaDoorBlindPack8
import Derived.Laws.BytesString
import Derived.Test.YtjifionpblpfoaaDoorRows
import Derived.LaidMore
import Derived.MakeChecks
import Derived.OpenShut
import Derived.Stop.Joined
import Derived.ProofKit
import Derived.Deep.Slices
import Derived.Deep.SlicePairs
import Derived.ChangeSame
import Derived.Lib.SmallJoins
import Derived.SizedLaws

/-
  What make([]byte, 0, n) does. Conditions: no more than 2^40 bytes.
-/
namespace Go.Proofs.YtjifionpblpfoaaDoor
open Go.RowKit
open Pol (co Sm)

set_option maxRecDepth 100000 in
/-- make([]byte, 0, n). -/
theorem run_make_cap (n : Nat) (N : Int) (hN : N = (n : Int)) (hn : n ≤ 1099511627776) (w : World) :
    (Instr.makeSlice 23 (.int .i64 0) (.int .i64 N)).run Tryd.prog w = .ok (.slice (some ⟨w.heap.size, 0, none⟩) 0 n) (w.alloc (.cells (bt n fun _ => 0) 5)) := by
  subst hN
  obtain ⟨i0, hi, hz0, hz1, hz2⟩ := info_parts u8_info
  have h := run_make (P := Tryd.prog) w 23 5 i0 (.int .u8 0) Tryd.underlying23 hi hz0 .i64 .i64 0 n (by omega) (by omega) (by rw [hz2]; omega) (by omega)
  simp only [Int.toNat_natCast, hz1, Nat.mul_one] at h
  rw [h, ← bt_made]
  rfl
theorem mine_made (w : World) (n : Nat) (hn : n ≤ 1099511627776) : Mine (w.alloc (.cells (bt n fun _ => 0) 5)) w.heap.size (.slice (some ⟨w.heap.size, 0, none⟩) 0 n) [] :=
  World.ownsRow_made w (bt n fun _ => 0) n (Nat.le_refl _) (by unfold maxLen; omega) (by rw [bt_size, Nat.mul_one])
end Go.Proofs.YtjifionpblpfoaaDoor

/-
  Digits of a text, one by one. Conditions: none; no function is named here.
-/
namespace Go.Proofs.YtjifionpblpfoaaDoor
open Go.RowKit
open Pol (co Sm)

theorem hxb_size (l : List Nat) : (hxb l).size = 2 * l.length := by
  show (hxs l).toArray.size = _
  rw [List.size_toArray, hxs_len]
theorem hxs_at : ∀ (l : List Nat) (i : Nat), i < l.length → (hxs l)[2 * i]? = some (hxd (co l i / 16)) ∧ (hxs l)[2 * i + 1]? = some (hxd (co l i % 16))
  | x :: l, 0, _ => ⟨rfl, rfl⟩
  | x :: l, i + 1, h => by
    have ih := hxs_at l i (by simpa using h)
    rw [Pol.co_succ]
    exact ⟨ih.1, ih.2⟩
  | [], _, h => by simp at h

theorem idxL (L : List UInt8) (k : IntKind) (i : Nat) (v : UInt8) (hv : L[i]? = some v) (W : World) : (Instr.index 9 (.string ⟨L.toArray⟩) (.int k (i : Int))).run Tryd.prog W = .ok (.int .u8 ((v.toNat : Nat) : Int)) W := by
  have hi : i < L.length := (List.getElem?_eq_some_iff.1 hv).1
  have hs : (⟨L.toArray⟩ : ByteArray).size = L.length := by show L.toArray.size = _; simp
  rw [run_index_string W 9 _ k _ Tryd.underlying9]
  rw [dif_pos ⟨by omega, by rw [hs]; omega⟩]
  have e : (⟨L.toArray⟩ : ByteArray)[(i : Int).toNat]'(by rw [hs]; omega) = v := by
    show L.toArray[(i : Int).toNat]'(by simp; omega) = v
    simp only [Int.toNat_natCast, List.getElem_toArray]
    exact (List.getElem?_eq_some_iff.1 hv).2
  rw [e]
def dgs : List UInt8 := [48, 49, 50, 51, 52, 53, 54, 55, 56, 57, 97, 98, 99, 100, 101, 102]
theorem dgs_at : ∀ x, x < 16 → dgs[x]? = some (hxd x) := by decide
end Go.Proofs.YtjifionpblpfoaaDoor

/-
  What Hex of layer 10 does. Conditions: none but that the digest reads as bytes.
-/
namespace Go.Proofs.YtjifionpblpfoaaDoor
open Go.RowKit
open Pol (co Sm)

/-- The digits as numbers. -/
def hxn (l : List Nat) : List Nat := (hxs l).map UInt8.toNat
theorem hxn_len (l : List Nat) : (hxn l).length = 2 * l.length := by unfold hxn; rw [List.length_map, hxs_len]
theorem hxn_sm (l : List Nat) : Sm (hxn l) := Pol.co_lt_of fun x hx => by
  unfold hxn at hx
  obtain ⟨y, _, rfl⟩ := List.mem_map.1 hx
  exact y.toNat_lt
theorem hxs_append : ∀ a b : List Nat, hxs (a ++ b) = hxs a ++ hxs b
  | [], _ => rfl
  | x :: a, b => by rw [List.cons_append, hxs, hxs, hxs_append a b]; rfl
theorem hxn_more (l : List Nat) (i : Nat) (h : i < l.length) : hxn (l.take (i + 1)) = hxn (l.take i) ++ [(hxd (co l i / 16)).toNat, (hxd (co l i % 16)).toNat] := by
  unfold hxn
  rw [List.take_succ_eq_append_getElem h, hxs_append, List.map_append]
  have e : co l i = l[i] := by unfold co; rw [List.getElem?_eq_getElem h]; rfl
  rw [e]
  rfl
theorem foldl_push : ∀ (L : List UInt8) (acc : ByteArray), (L.map (fun x => (x.toNat : Int))).foldl (fun (r : ByteArray) n => r.push (UInt8.ofNat n.toNat)) acc = ⟨acc.data ++ L.toArray⟩
  | [], acc => by simp
  | x :: L, acc => by
    rw [List.map_cons, List.foldl_cons, foldl_push L]
    apply ByteArray.ext
    simp [ByteArray.push]
theorem hex_text (w : World) (b o : Nat) (l : List Nat) (n c : Nat) (hn : (hxn l).length = n) (h : Rd w (some ⟨b, o, none⟩) (hxn l)) :
    (Conv.bytesToString (.slice (some ⟨b, o, none⟩) n c)).run Tryd.prog w = .ok (.string (hxb l)) w := by
  have e0 : ((hxs l).map (fun x => (x.toNat : Int))).map (Value.int .u8) = (List.range n).map (fun j => Value.int .u8 ((co (hxn l) j : Nat) : Int)) := by
    apply List.ext_getElem
    · rw [List.length_map, List.length_map, List.length_map, List.length_range, ← hn]; unfold hxn; rw [List.length_map]
    · intro j h1 h2
      have hj : j < (hxs l).length := by simpa using h1
      simp only [List.getElem_map, List.getElem_range]
      congr 2
      unfold hxn co
      rw [List.getElem?_map, List.getElem?_eq_getElem hj]
      rfl
  have hl := run_bytesToString (P := Tryd.prog) w ⟨b, o, none⟩ n c ((hxs l).map (fun x => (x.toNat : Int))) (by
    rw [e0]
    have h2 := run_loadCells (P := Tryd.prog) (w := w) ⟨b, o, none⟩ n (fun j => Value.int .u8 ((co (hxn l) j : Nat) : Int)) (fun j hj => by
      obtain ⟨b', o', e1, hc⟩ := h.2 j (by omega)
      injection e1 with e1
      injection e1 with e2 e3
      subst e2; subst e3
      have e : (⟨b, o, none⟩ : Addr).add j = ⟨b, o + j, none⟩ := by unfold Addr.add; split <;> simp_all
      rw [e]
      exact hc)
    rw [h2])
  rw [hl, foldl_push]
  congr 1
  congr 1
  apply ByteArray.ext
  simp [hxb]

set_option maxRecDepth 100000 in
theorem and15 : ∀ x : Nat, x < 256 → bits .and .u8 (x : Int) 15 = ((x % 16 : Nat) : Int) := by decide
end Go.Proofs.YtjifionpblpfoaaDoor

/-
  What Of and Hex of layer 10 do, as one statement, for the layers above it. Conditions: no more than 2^16 bytes; the constants lie where they were laid.
-/
namespace Go.Proofs.YtjifionpblpfoaaDoor
open Go.RowKit
open Pol (co Sm)

structure ShaOH : Prop where
  of : ∀ (b : List Nat) (A : Option Addr) (c : Nat) (w : World), GL w → Rd w A b → b.length ≤ c → b.length ≤ 65536 → Calls Tryd.prog 19 #[.slice A b.length c] w (DgS (sha b) w)
theorem shaOH : ShaOH where
  of b A c w hg hr hc hl := sh_of b A c w hg hr hc hl
end Go.Proofs.YtjifionpblpfoaaDoor

/-
  The code's own Id of layer 16. Conditions: no more than 2^16 bytes; the constants of layer 10 lie where they were laid.
-/
namespace Go.Proofs.YtjifionpblpfoaaDoor
open Go.RowKit
open Pol (co Sm)

set_option maxHeartbeats 3200000 in
set_option maxRecDepth 100000 in
theorem ev_id (S : ShaOH) (s : Int) (nn f x k c : Nat) (b : List Nat) (A : Option Addr) (w : World) (hn : b.length = k) (hr : Rd w A b) (hgl : GL w) (hl : k ≤ 65536) (h1 : nn < 18446744073709551616) (h2 : f < 18446744073709551616) (h3 : x < 18446744073709551616) :
    Calls Tryd.prog 16 #[evv s nn f x A k c] w (DgS (idv sha ⟨s, nn, f, x, b⟩) w) := by
  unfold DgS
  have hz := zero_digest.1
  have HZD := Lib.hid (dgc_zero)
  obtain ⟨Z, hZ⟩ : ∃ Z, (bt 32 fun _ => 0) = Z := ⟨_, rfl⟩
  rw [hZ] at hz HZD
  have hx2 := ((Ext.refl w).alloc (.cells #[.int .i64 s, .int .u64 (nn : Int), .int .u64 (f : Int), .int .u64 (x : Int), .slice A k c] 25)).alloc (.cells Z 39)
  have hg0 : ((w.alloc (.cells #[.int .i64 s, .int .u64 (nn : Int), .int .u64 (f : Int), .int .u64 (x : Int), .slice A k c] 25)).alloc (.cells Z 39)).heap[w.heap.size]? = some (.cells #[.int .i64 s, .int .u64 (nn : Int), .int .u64 (f : Int), .int .u64 (x : Int), .slice A k c] 25) := by
    rw [heap_alloc_old _ _ (by simp)]
    exact heap_alloc_new w _
  have hr0 : ((w.alloc (.cells #[.int .i64 s, .int .u64 (nn : Int), .int .u64 (f : Int), .int .u64 (x : Int), .slice A k c] 25)).alloc (.cells Z 39)).heap[w.heap.size + 1]? = some (.cells Z 39 (0, 0)) := by
    have h := heap_alloc_new (w.alloc (.cells #[.int .i64 s, .int .u64 (nn : Int), .int .u64 (f : Int), .int .u64 (x : Int), .slice A k c] 25)) (.cells Z 39)
    rwa [show (w.alloc (.cells #[.int .i64 s, .int .u64 (nn : Int), .int .u64 (f : Int), .int .u64 (x : Int), .slice A k c] 25)).heap.size = w.heap.size + 1 from by simp] at h
  have HX2 := Lib.hid hx2
  have HG0 := Lib.hid hg0
  have HR0 := Lib.hid hr0
  have HEN := Lib.hid (fun u (hu : Ext w u) => ev_encode s nn f x k c b A u hn (hr.ext hu) hl h1 h2 h3)
  unfold EncO at HEN
  have HGL := Lib.hid hgl
  by_cases ho : Ev.ok ⟨s, nn, f, x, b⟩
  · rw [Ev.chk_ok.2 ho, Ev.bytes_ok ho] at HEN
    rw [idv_ok ho]
    have hlen := Ev.enc_len ho ⟨h1, h2, h3, hr.1⟩
    have HSM := Lib.hid (Ev.enc_sm (e := ⟨s, nn, f, x, b⟩) hr.1)
    obtain ⟨E, hE⟩ : ∃ E, Ev.enc ⟨s, nn, f, x, b⟩ = E := ⟨_, rfl⟩
    rw [hE] at HEN hlen HSM ⊢
    obtain ⟨ne, hne⟩ : ∃ q, E.length = q := ⟨_, rfl⟩
    have HNE := Lib.hid hne
    have HOF := Lib.hid (fun B cb u (hg : GL u) (h : Rd u B E) (hc : ne ≤ cb) => show Calls Tryd.prog 19 #[.slice B ne cb] u (DgS (sha E) u) from by rw [← hne]; exact S.of E B cb u hg h (by omega) (by omega))
    obtain ⟨D, hD⟩ : ∃ D, sha E = D := ⟨_, rfl⟩
    rw [hD] at HOF ⊢
    unfold DgS at HOF
    clear hr hlen hE hne hD ho hg0 hr0 hx2 hgl S
    go_enter Tryd.func16, Tryd.ntmps16
    go_wp2_with (with_reducible refine wpList_load_row rfl 25 (.tmp 1) rfl (w.heap.size) rfl 25 #[.int .i64 s, .int .u64 (nn : Int), .int .u64 (f : Int), .int .u64 (x : Int), .slice A k c] (0, 0) _ HG0.out Tryd.underlying25 rfl ev_in16 ?_)
    refine (HEN.out _ HX2.out).mono ?_
    rintro e w2 ⟨v2, rfl, hm2, hx2⟩
    obtain ⟨B2, c2, rfl, hc2, hr2⟩ := hm2.slice HSM.out
    rw [HNE.out] at hc2 ⊢
    have HX3 := Lib.hid (HX2.out.trans hx2)
    have HR3 := Lib.hid (hx2.row HR0.out)
    have HB2 := Lib.hid hr2
    have HC2 := Lib.hid hc2
    clear hx2 hm2 hr2 hc2
    go_wp2_with fail
    refine (HOF.out B2 c2 w2 (HGL.out.ext HX3.out) HB2.out HC2.out).mono ?_
    rintro e w3 ⟨V, rfl, hV, hx3⟩
    have HV := Lib.hid hV
    have HX4 := Lib.hid (HX3.out.trans hx3)
    have HR4 := Lib.hid (hx3.row HR3.out)
    have HI3 := Lib.hid hV.info
    have HO3 := Lib.hid hV.one
    have HS3 := Lib.hid (show Z.size = V.size from by rw [hV.1]; exact HZD.out.1)
    have HXF := Lib.hid (HX4.out.setRow (g := w.heap.size + 1) (by omega) V)
    have HGF := Lib.hid (setRow_heap w3 (w.heap.size + 1) _ V _ _ HR4.out)
    clear hV hx3
    go_wp2_with (with_reducible refine wpList_store_all rfl 39 (.tmp 2) (.tmp 14) rfl (w.heap.size + 1) _ V rfl rfl HR4.out HI3.out HS3.out HO3.out ?_)
    refine bodyPost_ret (results_cell_row Tryd.results16 _ _ (w.heap.size + 1) 39 _ (0, 0) _ rfl HGF.out Tryd.underlying39 rfl HI3.out) rfl ?_
    exact ⟨V, rfl, HV.out, HXF.out⟩
  · rw [idv_no ho]
    have hc0 : Ev.chk ⟨s, nn, f, x, b⟩ ≠ 0 := fun h => ho (Ev.chk_ok.1 h)
    rw [Ev.bytes_no ho] at HEN
    obtain ⟨ck, hck⟩ : ∃ q, Ev.chk ⟨s, nn, f, x, b⟩ = q := ⟨_, rfl⟩
    rw [hck] at HEN hc0
    have d1 : ((ck : Int) == 0) = false := by simp; omega
    have d2 : ((ck : Int) != 0) = true := by simp; omega
    have d3 : decide ((ck : Int) = 0) = false := decide_eq_false (by omega)
    have d4 : decide (ck = 0) = false := decide_eq_false (by omega)
    clear hr hck hc0 ho hg0 hr0 hx2 hgl S
    go_enter Tryd.func16, Tryd.ntmps16
    go_wp2_with (with_reducible refine wpList_load_row rfl 25 (.tmp 1) rfl (w.heap.size) rfl 25 #[.int .i64 s, .int .u64 (nn : Int), .int .u64 (f : Int), .int .u64 (x : Int), .slice A k c] (0, 0) _ HG0.out Tryd.underlying25 rfl ev_in16 ?_)
    refine (HEN.out _ HX2.out).mono ?_
    rintro e w1 ⟨v1, rfl, hm1, hx1⟩
    obtain ⟨B1, c1, rfl, _, _⟩ := hm1.slice Sm.nil
    have HX1 := Lib.hid (HX2.out.trans hx1)
    have HR1 := Lib.hid (hx1.row HR0.out)
    have HI3 := Lib.hid HZD.out.info
    have HO3 := Lib.hid HZD.out.one
    have HXF := Lib.hid (HX1.out.setRow (g := w.heap.size + 1) (by omega) Z)
    have HGF := Lib.hid (setRow_heap w1 (w.heap.size + 1) _ Z _ _ HR1.out)
    have HSZ := HZD.out.1
    clear hx1 hm1
    go_wp2_with (with_reducible refine wpList_store_all rfl 39 (.tmp 2) (.tmp 12) rfl (w.heap.size + 1) _ Z rfl rfl HR1.out HI3.out (HSZ.trans HSZ.symm) HO3.out ?_)
    refine bodyPost_ret (results_cell_row Tryd.results16 _ _ (w.heap.size + 1) 39 _ (0, 0) _ rfl HGF.out Tryd.underlying39 rfl HI3.out) rfl ?_
    exact ⟨Z, rfl, HZD.out, HXF.out⟩
end Go.Proofs.YtjifionpblpfoaaDoor

/-
  Layer 16's own functions encode, decode and name envelopes as they are to. Conditions: those of EnvCd.
-/
namespace Go.Proofs.YtjifionpblpfoaaDoor
open Go.RowKit
open Pol (co Sm)

theorem envCd : EnvCd where
  enc := fun s n f x k c b A w hk _ hr hl h1 h2 h3 => ev_encode s n f x k c b A w hk hr hl h1 h2 h3
  dec := fun b A n c w hn _ hr hl => ev_decode b A n c w hn hr hl
  id := fun s n f x k c b A w hg hk _ hr hl h1 h2 h3 => ev_id shaOH s n f x k c b A w hk hr hg hl h1 h2 h3
end Go.Proofs.YtjifionpblpfoaaDoor

/-
  What the listed variables of layer 10 are in memory. Conditions: none.
-/
namespace Go.Proofs.YtjifionpblpfoaaDoor
open Go.RowKit Go.ChangeShapes Go.WideShapes Go.ChangeAt
open Pol (co Sm)

def laid10 : List (String × DataW Unit) := [("shroud/sha.start", Rows.laid_shroud_sha_start), ("shroud/sha.constants", Rows.laid_shroud_sha_constants)]
set_option maxRecDepth 100000 in
theorem dt_of_trod {H : Type} {enc : TypeId × Value → H} {W : World} {base : Nat} {sp : Nat → Bool} {held : Bool} {fuel : Nat} {t e : TypeId} {n : Nat} {cs : Array Value} {l : List Nat} {p : List MemPlace}
    (ht : Tryd.prog.underlying t = some (.array n e)) (he : Tryd.prog.underlying e = some (.int .u32)) (hc : Tryd.prog.cellsOf e = 1) (hn : Tryd.prog.cellsOf t = n) (hl : l.length = n)
    (h : DataW.trod enc Tryd.prog W base sp held fuel t cs.toList = some (.agg (l.map fun x : Nat => .lit (.int .u32 ((x : Nat) : Int))), p)) : cs = dt n (co l) := by
  obtain ⟨xs, m1, rfl, hx1, hlen, hlx, hel⟩ := DataW.trod_array ht h
  injection hx1 with hx1 _
  injection hx1 with hx1
  rw [hn] at hlen
  have hsz : cs.size = n := by simpa using hlen
  apply Array.ext
  · rw [dt_size, hsz]
  · intro i h1 h2
    have hi : i < n := by omega
    have he' := hel i hi
    rw [hc, Nat.mul_one] at he'
    have e1 : (cs.toList.drop i).take 1 = [cs[i]] := by
      rw [List.drop_eq_getElem_cons (by simpa using h1)]
      simp
    rw [e1, List.getElem?_eq_getElem (by omega)] at he'
    obtain ⟨k, ek, ex, _⟩ := DataW.trod_int he he'
    have hm : (l.map fun x : Nat => DataW.lit (H := H) (.int .u32 ((x : Nat) : Int)))[i]? = (xs.map (·.1))[i]? := by rw [hx1]
    rw [List.getElem?_map, List.getElem?_map, List.getElem?_eq_getElem (by omega), List.getElem?_eq_getElem (by omega)] at hm
    simp only [Option.map_some, ex] at hm
    injection hm with hm
    injection hm with hm
    injection hm with _ hm
    injection ek with ek
    have hd := dt_at n (co l) i hi
    rw [Array.getElem?_eq_getElem h2] at hd
    injection hd with hd
    rw [ek, hd, ← hm]
    unfold co
    rw [List.getElem?_eq_getElem (by omega)]
    rfl
theorem start_is : (Rows.laid_shroud_sha_start : DataW Unit) = .agg (HH.map fun x : Nat => .lit (.int .u32 ((x : Nat) : Int))) := by rw [HH_is]; rfl
set_option maxRecDepth 100000 in
theorem constants_is : (Rows.laid_shroud_sha_constants : DataW Unit) = .agg (KK.map fun x : Nat => .lit (.int .u32 ((x : Nat) : Int))) := by rw [KK_is]; rfl
theorem row_of_cell {P : Program} {W : World} {g : Nat} {n : String} {cs : Array Value} (hg : P.globalNamed n = some g) (h : W.var? P n = some cs) (hk : ∃ c t, W.heap[g]? = some (.cells c t (0, 0))) : ∃ t, W.heap[g]? = some (.cells cs t (0, 0)) := by
  obtain ⟨c, t, hc⟩ := hk
  simp only [World.var?, hg, Option.bind_some, hc] at h
  injection h with h
  subst h
  exact ⟨t, hc⟩
theorem gl_of_laid {W : World} (h : laidMetH Tryd.prog laid10 W) : GL W := by
  rw [MakeChecks.laidMetH_plain _ _ _ (by kernel_rfl)] at h
  obtain ⟨ps, ⟨g0, t0, cs0, f0, p0, q0, hg0, ht0, hv0, hd0, ⟨g1, t1, cs1, f1, p1, q1, hg1, ht1, hv1, hd1, _, hq0⟩, hps⟩, _, hall⟩ := h
  obtain rfl := Option.some.inj ((show Tryd.prog.globalNamed "shroud/sha.start" = some 0 by kernel_rfl).symm.trans hg0)
  obtain rfl := Option.some.inj ((show Tryd.prog.globalNamed "shroud/sha.constants" = some 1 by kernel_rfl).symm.trans hg1)
  obtain rfl := Option.some.inj ((show (Tryd.prog.globals[0]?).map (·.type) = some 73 by kernel_rfl).symm.trans ht0)
  obtain rfl := Option.some.inj ((show (Tryd.prog.globals[1]?).map (·.type) = some 97 by kernel_rfl).symm.trans ht1)
  rw [start_is] at hd0
  rw [constants_is] at hd1
  have e0 := dt_of_trod Tryd.underlying73 Tryd.underlying72 (by kernel_rfl) (by kernel_rfl) (by rw [HH_is]; rfl) hd0
  have e1 := dt_of_trod Tryd.underlying97 Tryd.underlying72 (by kernel_rfl) (by kernel_rfl) (by rw [KK_is]; rfl) hd1
  have m0 : MemPlace.cell 0 0 ∈ ps := by
    rw [hps, e0, dt_size]
    simp [MemPlace.row]
  have m1 : MemPlace.cell 1 0 ∈ ps := by
    rw [hps, hq0, e1, dt_size]
    simp [MemPlace.row]
  have r0 := row_of_cell hg0 hv0 (hall _ _ m0).1
  have r1 := row_of_cell hg1 hv1 (hall _ _ m1).1
  rw [e0] at r0
  rw [e1] at r1
  exact ⟨r0, r1⟩
/-- The door's own heap meets the condition. -/
theorem door_met10 (os : Os) (args : Array Value) : laidMetH Tryd.prog laid10 ((World.doorLaid Tryd.prog 1000 os).forCall (fun _ _ => 0) ⟨#[], args, []⟩).memory :=
  laidMetH_of_parts3 (fuel := 8) (laidMet_of_run' 8 (by kernel_rfl) (by kernel_rfl)) (by kernel_rfl) (by kernel_rfl)
end Go.Proofs.YtjifionpblpfoaaDoor

/-
  An argument that is a slice of bytes, or of points, reads as a list. Conditions: none.
-/
namespace Go.Proofs.YtjifionpblpfoaaDoor
open Go.RowKit
open Go.ChangeShapes Go.WideShapes Go.ChangeAt
open Pol (co Sm)

section
variable {H : Type} {enc : TypeId × Value → H} {w : World} {base : Nat} {spare : Nat → Bool} {held : Bool}
theorem open_bytes {fuel len cap : Nat} {a : Option Addr} {x : DataW H × List MemPlace} (h : DataW.trod enc Tryd.prog w base spare held fuel 23 [.slice a len cap] = some x) :
    ∃ l : List Nat, l.length = len ∧ len ≤ cap ∧ Rd w a l := by
  rcases open_ints Tryd.underlying23 Tryd.underlying5 (by kernel_rfl) h with ⟨hcs, _⟩ | ⟨a', len', cap', zs, hcs, _, hl, _, hz, _, hcell, hwz⟩
  · simp at hcs
    obtain ⟨rfl, rfl, rfl⟩ := hcs
    exact ⟨[], rfl, Nat.le_refl _, Rd.nil _ _⟩
  · simp at hcs
    obtain ⟨rfl, rfl, rfl⟩ := hcs
    have hlz : len ≤ zs.length := by rw [hz]; split <;> omega
    have hnat : ∀ i, i < zs.length → ∃ n : Nat, zs.getD i 0 = (n : Int) ∧ n < 256 := fun i hi => by
      have hm : zs.getD i 0 ∈ zs := by rw [List.getD_eq_getElem?_getD, List.getElem?_eq_getElem hi]; exact List.getElem_mem hi
      exact nat_u8 (hwz _ hm)
    refine ⟨(List.range len).map (fun i => (zs.getD i 0).toNat), by simp, hl, ?_, fun i hi => ?_⟩
    · refine Pol.co_lt_of (fun v hv => ?_)
      obtain ⟨i, hi, rfl⟩ := List.mem_map.1 hv
      obtain ⟨n, hn, hn'⟩ := hnat i (by have := List.mem_range.1 hi; omega)
      show (zs.getD i 0).toNat < 256
      rw [hn]; omega
    · have hi' : i < len := by simpa using hi
      obtain ⟨b, o, rfl, hc⟩ := ints_at hcell (by omega)
      refine ⟨b, o, rfl, ?_⟩
      rw [hc i (by omega)]
      obtain ⟨n, hn, _⟩ := hnat i (by omega)
      congr 2
      unfold co
      rw [List.getElem?_map, List.getElem?_range hi']
      show zs.getD i 0 = (((zs.getD i 0).toNat : Nat) : Int)
      rw [hn]; omega
end
end Go.Proofs.YtjifionpblpfoaaDoor

/-
  An envelope that comes in by value. Conditions: none.
-/
namespace Go.Proofs.YtjifionpblpfoaaDoor
open Go.RowKit
open Go.ChangeShapes Go.WideShapes Go.ChangeAt
open Pol (co Sm)

section
variable {H : Type} {enc : TypeId × Value → H} {w : World} {base : Nat} {spare : Nat → Bool} {held : Bool}
theorem env_bytes {fuel : Nat} {v : Value} {x : DataW H × List MemPlace} (h : DataW.trod enc Tryd.prog w base spare held fuel 23 [v] = some x) :
    ∃ (q : List Nat) (B : Option Addr) (c : Nat), v = .slice B q.length c ∧ q.length ≤ c ∧ Rd w B q := by
  obtain ⟨B, n, c, hv⟩ : ∃ B n c, v = .slice B n c := by
    rcases Go.Deep.open_slice Tryd.underlying23 h with ⟨e, _⟩ | ⟨a2, l2, c2, _, _, _, _, e, _⟩
    · exact ⟨none, 0, 0, by simpa using e⟩
    · exact ⟨some a2, l2, c2, by simpa using e⟩
  subst hv
  obtain ⟨q, hq, hqc, hqr⟩ := open_bytes h
  exact ⟨q, B, c, by rw [hq], by rw [hq]; exact hqc, hqr⟩
set_option maxRecDepth 100000 in
/-- One envelope, by its five cells. -/
theorem open_envc {fuel : Nat} {cs : List Value} {x : DataW H × List MemPlace} (h : DataW.trod enc Tryd.prog w base spare held fuel 25 cs = some x) :
    ∃ (s : Int) (n f x k c : Nat) (m : List Nat) (B : Option Addr), cs = [.int .i64 s, .int .u64 (n : Int), .int .u64 (f : Int), .int .u64 (x : Int), .slice B k c] ∧ m.length = k ∧ k ≤ c ∧ n < 18446744073709551616 ∧ f < 18446744073709551616 ∧ x < 18446744073709551616 ∧ Rd w B m := by
  obtain ⟨xs, m, _, _, hl, hxl, hf⟩ := DataW.trod_struct Tryd.underlying25 h
  have hc : cs.length = 5 := by rw [hl]; kernel_rfl
  have ci : Tryd.prog.cellsOf 3 = 1 := by kernel_rfl
  have cu : Tryd.prog.cellsOf 22 = 1 := by kernel_rfl
  have cb : Tryd.prog.cellsOf 23 = 1 := by kernel_rfl
  match cs, hc with
  | [v0, v1, v2, v3, v4], _ =>
    match xs, hxl with
    | [y0, y1, y2, y3, y4], _ =>
      have g0 := hf 0 _ rfl
      have g1 := hf 1 _ rfl
      have g2 := hf 2 _ rfl
      have g3 := hf 3 _ rfl
      have g4 := hf 4 _ rfl
      simp [ci, cu, cb] at g0 g1 g2 g3 g4
      obtain ⟨s, e0, _, _⟩ := DataW.trod_int Tryd.underlying3 g0
      obtain ⟨z1, e1, _, w1⟩ := DataW.trod_int Tryd.underlying22 g1
      obtain ⟨z2, e2, _, w2⟩ := DataW.trod_int Tryd.underlying22 g2
      obtain ⟨z3, e3, _, w3⟩ := DataW.trod_int Tryd.underlying22 g3
      obtain ⟨n, rfl, hn⟩ := nat_u64 w1
      obtain ⟨f, rfl, hff⟩ := nat_u64 w2
      obtain ⟨x, rfl, hx⟩ := nat_u64 w3
      obtain ⟨q, B, c, rfl, h1, h2⟩ := env_bytes g4
      simp only [List.cons.injEq, and_true] at e0 e1 e2 e3
      subst e0; subst e1; subst e2; subst e3
      exact ⟨s, n, f, x, q.length, c, q, B, rfl, rfl, h1, hn, hff, hx, h2⟩
set_option maxRecDepth 100000 in
/-- An envelope by value. -/
theorem open_env {r : Reach} {b0 : Nat} {v : Value} {d : DataW H} {p : List MemPlace} (hv : Value.okWide Tryd.prog w r b0 25 v) (h : DataW.Trod enc Tryd.prog w base spare held 25 v d p) :
    ∃ (s : Int) (n f x k c : Nat) (m : List Nat) (B : Option Addr), v = .agg #[.int .i64 s, .int .u64 (n : Int), .int .u64 (f : Int), .int .u64 (x : Int), .slice B k c] ∧ m.length = k ∧ k ≤ c ∧ n < 18446744073709551616 ∧ f < 18446744073709551616 ∧ x < 18446744073709551616 ∧ Rd w B m := by
  obtain ⟨cs, rfl, _⟩ := okWide_struct Tryd.underlying25 hv
  obtain ⟨fuel, hf⟩ := h
  have hf' : DataW.trod enc Tryd.prog w base spare held fuel 25 cs.toList = some (d, p) := by simpa [Value.cells] using hf
  obtain ⟨s, n, f, x, k, c, m, B, e, hm, hk, hn, hff, hx, hr⟩ := open_envc hf'
  refine ⟨s, n, f, x, k, c, m, B, ?_, hm, hk, hn, hff, hx, hr⟩
  rw [← Array.toArray_toList (xs := cs), e]
end
end Go.Proofs.YtjifionpblpfoaaDoor

/-
  Slices of orders that read as a list. Conditions: none.
-/
namespace Go.Proofs.YtjifionpblpfoaaDoor
open Go.RowKit
open Pol (co Sm)

def od (l : List Od) (i : Nat) : Od := l[i]?.getD Od.zero
/-- Where an order lies. -/
def TxAt (b o : Nat) (k t : Int) (a : Nat) (B : Option Addr) (n c : Nat) (W : World) : Prop :=
  W.cell? ⟨b, o, none⟩ = some (.int .i64 k) ∧ W.cell? ⟨b, o + 1, none⟩ = some (.int .i64 t) ∧ W.cell? ⟨b, o + 2, none⟩ = some (.int .u64 (a : Int)) ∧ W.cell? ⟨b, o + 3, none⟩ = some (.slice B n c)
theorem TxAt.ext {b o : Nat} {k t : Int} {a : Nat} {B : Option Addr} {n c : Nat} {W W' : World} (h : TxAt b o k t a B n c W) (hx : Ext W W') : TxAt b o k t a B n c W' := ⟨hx.at h.1, hx.at h.2.1, hx.at h.2.2.1, hx.at h.2.2.2⟩
/-- From address A on lie these orders. -/
def XRd (w : World) (A : Option Addr) (l : List Od) : Prop :=
  ∀ i, i < l.length → ∃ b o B c, A = some ⟨b, o, none⟩ ∧ TxAt b (o + i * 4) (od l i).k (od l i).t (od l i).a B (od l i).m.length c w ∧ (od l i).m.length ≤ c ∧ Rd w B (od l i).m ∧ (od l i).a < 18446744073709551616
theorem XRd.at {w w' : World} {A : Option Addr} {l : List Od} (h : XRd w A l) (hx : Ext w w') {i : Nat} (hi : i < l.length) :
    ∃ b o B c, A = some ⟨b, o, none⟩ ∧ (∀ W, Ext w' W → TxAt b (o + i * 4) (od l i).k (od l i).t (od l i).a B (od l i).m.length c W) ∧ (od l i).m.length ≤ c ∧ Rd w' B (od l i).m ∧ (od l i).a < 18446744073709551616 := by
  obtain ⟨b, o, B, c, e, h1, h2, h3, h4⟩ := h i hi
  exact ⟨b, o, B, c, e, fun W hW => h1.ext (hx.trans hW), h2, h3.ext hx, h4⟩
end Go.Proofs.YtjifionpblpfoaaDoor

/-
  Slices of uint64 that read as a list; of a call's own: appended to, written. Conditions: the lengths add up to no more than 2^40.
-/
namespace Go.Proofs.YtjifionpblpfoaaDoor
open Go.RowKit
open Pol (co)

theorem u64_info : (Tryd.prog.info? 22).map (fun i => (i.zero, i.size, i.bytes)) = some (some (.int .u64 0), 1, 8) := by kernel_rfl
def uv (l : List Nat) : List Value := l.map fun x : Nat => Value.int .u64 (x : Int)
theorem uv_len (l : List Nat) : (uv l).length = l.length := by simp [uv]
theorem uv_at (l : List Nat) (i : Nat) (h : i < l.length) : (uv l)[i]? = some (.int .u64 ((co l i : Nat) : Int)) := by simp [uv, co, List.getElem?_eq_getElem h]
theorem uv_one (l : List Nat) : ∀ u ∈ uv l, u.oneCell' = true := by
  intro u hu
  obtain ⟨x, _, rfl⟩ := List.mem_map.1 hu
  rfl
theorem uv_append (l m : List Nat) : uv (l ++ m) = uv l ++ uv m := by simp [uv]
/-- Each is a number of 64 bits. -/
def U64 (l : List Nat) : Prop := ∀ i, co l i < 18446744073709551616
/-- From address A on lie the numbers l. -/
def URd (w : World) (A : Option Addr) (l : List Nat) : Prop := U64 l ∧ ∀ i, i < l.length → ∃ b o, A = some ⟨b, o, none⟩ ∧ w.cell? ⟨b, o + i, none⟩ = some (.int .u64 ((co l i : Nat) : Int))
theorem URd.ext {w w' : World} {A : Option Addr} {l : List Nat} (h : URd w A l) (hx : Ext w w') : URd w' A l := ⟨h.1, fun i hi => by
  obtain ⟨b, o, e, hc⟩ := h.2 i hi
  exact ⟨b, o, e, hx.at hc⟩⟩
theorem URd.nil (w : World) (A : Option Addr) : URd w A [] := ⟨fun i => by unfold co; simp, fun i hi => absurd hi (by simp)⟩
/-- A slice of numbers of the call's own. -/
def UMine (w : World) (base : Nat) (v : Value) (l : List Nat) : Prop := w.ownsRow base 22 1 v l.length (uv l)
theorem UMine.nil (w : World) (base : Nat) : UMine w base (.slice none 0 0) [] := World.ownsRow_nil w base _ _
theorem umine_empty (w : World) : UMine (w.alloc (.cells #[] 22)) w.heap.size (.slice (some ⟨w.heap.size, 0, none⟩) 0 0) [] := World.ownsRow_lit w #[] 0 (Nat.le_refl _) (Nat.zero_le _) rfl
theorem UMine.slice {w : World} {base : Nat} {v : Value} {l : List Nat} (h : UMine w base v l) (hu : U64 l) : ∃ B c, v = .slice B l.length c ∧ l.length ≤ c ∧ URd w B l := by
  rcases h.2 with ⟨rfl, hn⟩ | ⟨g, cap, cur, rfl, _, hg, hnc, _, _, htake⟩
  · have : l = [] := List.eq_nil_of_length_eq_zero hn
    subst this
    exact ⟨none, 0, rfl, Nat.le_refl _, URd.nil _ _⟩
  · refine ⟨_, cap, rfl, hnc, hu, fun i hi => ⟨g, 0, rfl, ?_⟩⟩
    rw [Nat.zero_add, cell_of_row w g i cur _ _ hg, ← uv_at l i hi, ← htake, List.getElem?_take, if_pos (by omega)]
    simp
theorem UMine.ext {w w' : World} {base : Nat} {v : Value} {l : List Nat} (h : UMine w base v l) (hx : Ext w w') : UMine w' base v l :=
  World.ownsRow.kept h (row := none) ⟨hx.below.os, hx.below.tape, hx.below.output, hx.below.size, fun k hk _ => hx.below.block k hk⟩ (by
    cases hb : v.ownBlock with
    | none => exact .inl rfl
    | some k => exact .inr (by simp))
theorem UMine.keep {w w' : World} {base : Nat} {v : Value} {l : List Nat} {row : Option Nat} (h : UMine w base v l) (hg : w.grownBy w' row) (hne : ∀ k, v.ownBlock = some k → some k ≠ row) : UMine w' base v l :=
  World.ownsRow.kept h hg (by
    cases hb : v.ownBlock with
    | none => exact .inl rfl
    | some k => exact .inr (hne k hb))
theorem UMine.block {w : World} {base : Nat} {v : Value} {l : List Nat} (h : UMine w base v l) : ∀ k, v.ownBlock = some k → base ≤ k ∧ k < w.heap.size := fun k hk => World.ownsRow.lt h k hk
theorem UMine.down {w : World} {base base' : Nat} {v : Value} {l : List Nat} (h : UMine w base v l) (hb : base' ≤ base) : UMine w base' v l :=
  ⟨h.1, h.2.imp id fun ⟨g, cap, cur, h1, h2, h3⟩ => ⟨g, cap, cur, h1, Nat.le_trans hb h2, h3⟩⟩
/-- A number is put into numbers of a call's own. -/
theorem UMine.put {w : World} {base g n c i x : Nat} {l : List Nat} (h : UMine w base (.slice (some ⟨g, 0, none⟩) n c) l) : UMine (w.setCell ⟨g, i, none⟩ (.int .u64 (x : Int))) base (.slice (some ⟨g, 0, none⟩) n c) (l.set i x) := by
  rcases h.2 with ⟨e, _⟩ | ⟨g', cap, cur, e, hb, hg, hnc, hcm, hcs, ht⟩
  · cases e
  · injection e with e1 e2 e3
    injection e1 with e1
    injection e1 with e1
    subst e1; subst e3
    refine ⟨by rw [uv_len, List.length_set, Nat.mul_one], .inr ⟨g, c, cur.setIfInBounds i (.int .u64 (x : Int)), by rw [List.length_set, e2], hb, heap_setCell_same w g i cur _ _ hg, by rw [List.length_set]; exact hnc, hcm, by simpa using hcs, ?_⟩⟩
    rw [List.length_set, Array.toList_setIfInBounds, List.take_set, ht]
    unfold uv
    rw [List.map_set]
theorem UMine.spot {w : World} {base : Nat} {v : Value} {l : List Nat} (h : UMine w base v l) {i : Nat} (hi : i < l.length) : ∃ g n c, v = .slice (some ⟨g, 0, none⟩) n c ∧ base ≤ g ∧ w.cell? ⟨g, i, none⟩ = some (.int .u64 ((co l i : Nat) : Int)) ∧ w.frozen? ⟨g, i, none⟩ = false := by
  rcases h.2 with ⟨rfl, hn⟩ | ⟨g, cap, cur, rfl, hb, hg, hnc, _, _, htake⟩
  · omega
  · refine ⟨g, _, cap, rfl, hb, ?_, frozen_of_row w g i cur _ hg⟩
    rw [cell_of_row w g i cur _ _ hg, ← uv_at l i hi, ← htake, List.getElem?_take, if_pos (by omega)]
    simp
set_option maxRecDepth 100000 in
theorem run_append_u64 (w : World) (base : Nat) (ty : TypeId) (v : Value) (l m : List Nat) (hown : UMine w base v l) (A : Option Addr) (c : Nat) (hr : URd w A m)
    (hlen : l.length + m.length ≤ 1099511627776) (hbase : base ≤ w.heap.size) :
    ∃ v' w', (Builtin.append_ #[91, 91] ty #[v, .slice A m.length c]).run Tryd.prog w = .ok v' w' ∧ UMine w' base v' (l ++ m) ∧ w.grownBy w' v.ownBlock ∧ (v'.ownBlock = v.ownBlock ∨ v'.ownBlock = some w.heap.size) := by
  obtain ⟨i0, hi, hz0, hz1, hz2⟩ := info_parts u64_info
  cases A with
  | none =>
    have hm : m = [] := by
      rcases Nat.eq_zero_or_pos m.length with h | h
      · exact List.eq_nil_of_length_eq_zero h
      · obtain ⟨_, _, e, _⟩ := hr.2 0 h; cases e
    subst hm
    refine ⟨v, w, ?_, by simpa using hown, ⟨rfl, rfl, rfl, Nat.le_refl _, fun _ _ _ => rfl⟩, .inl rfl⟩
    rcases hown.2 with ⟨rfl, _⟩ | ⟨g, cap, cur, rfl, _, _, hnc, _⟩
    · simp [Builtin.append_, run_underlying Tryd.underlying91, sizeOf, typeInfo, hi, Builtin.lenOf, Builtin.firstCells]
    · simp [Builtin.append_, run_underlying Tryd.underlying91, sizeOf, typeInfo, hi, Builtin.lenOf, Builtin.firstCells, hnc, storeCells]
  | some a =>
    have hcells : ∀ j u, (uv m)[j]? = some u → w.cell? (a.add j) = some u := by
      intro j u hu
      have hj : j < m.length := by
        have := (List.getElem?_eq_some_iff.1 hu).1
        rwa [uv_len] at this
      obtain ⟨b, o, e, hc⟩ := hr.2 j hj
      injection e with e
      subst e
      rw [addr_add, hc, ← uv_at m j hj, hu]
    obtain ⟨v', w', h1, h2, h3, _, h5⟩ := run_append_own_at (P := Tryd.prog) w base 91 ty 22 i0 (.int .u64 0) 1 8 Tryd.underlying91 hi hz0 hz1 hz2 rfl (by omega) v l.length (uv l) hown a m.length c (uv m) (by rw [uv_len, Nat.mul_one]) hcells (uv_one m)
      (by unfold maxLen; omega) (by omega) hbase
    exact ⟨v', w', h1, by unfold UMine; rw [List.length_append, uv_append]; exact h2, h3, h5⟩
/-- At the operation, for the walk. -/
theorem wpList_append_u64 {ops : Array Oper} {rest : List Oper} {o : Oper} {a : Act} {w : World} {Q : Exit → Act → World → Prop} (hgd : o.guard = none) (s x : Operand)
    (ho : o.op = .call { callee := .builtin .append, args := #[s, x], argTypes := #[91, 91] })
    (base : Nat) (v : Value) (l m : List Nat) (hs : a.eval s = v) (hown : UMine w base v l) (A : Option Addr) (n c : Nat) (hx : a.eval x = .slice A n c) (hn : m.length = n) (hr : URd w A m)
    (hlen : l.length + m.length ≤ 1099511627776) (hbase : base ≤ w.heap.size)
    (h : ∀ v' w', UMine w' base v' (l ++ m) → w.grownBy w' v.ownBlock → (v'.ownBlock = v.ownBlock ∨ v'.ownBlock = some w.heap.size) → wpList Tryd.prog ops Q rest (a.put o.dst v') w') :
    wpList Tryd.prog ops Q (o :: rest) a w := by
  subst hn
  refine wpList_plain hgd fun K hK => ?_
  obtain ⟨v', w', hrun, h2, h3, h4⟩ := run_append_u64 w base o.type v l m hown A c hr hlen hbase
  unfold Oper.wp execOp
  simp only [ho, resolve, invoke, builtin, Sem.run_bind, Sem.run_pure, Result.andThen_ok, List.map_toArray, List.map_cons, List.map_nil, hs, hx, hrun]
  exact hK _ _ (h v' w' h2 h3 h4)
end Go.Proofs.YtjifionpblpfoaaDoor

/-
  An argument that is a slice of uint64 reads as a list of numbers. Conditions: none.
-/
namespace Go.Proofs.YtjifionpblpfoaaDoor
open Go.RowKit
open Go.ChangeShapes Go.WideShapes Go.ChangeAt
open Pol (co)

section
variable {H : Type} {enc : TypeId × Value → H} {w : World} {base : Nat} {spare : Nat → Bool} {held : Bool}
theorem open_u64s {fuel len cap : Nat} {a : Option Addr} {x : DataW H × List MemPlace} (h : DataW.trod enc Tryd.prog w base spare held fuel 91 [.slice a len cap] = some x) :
    ∃ l : List Nat, l.length = len ∧ len ≤ cap ∧ URd w a l := by
  rcases open_ints Tryd.underlying91 Tryd.underlying22 (by kernel_rfl) h with ⟨hcs, _⟩ | ⟨a', len', cap', zs, hcs, _, hl, _, hz, _, hcell, hwz⟩
  · simp at hcs
    obtain ⟨rfl, rfl, rfl⟩ := hcs
    exact ⟨[], rfl, Nat.le_refl _, URd.nil _ _⟩
  · simp at hcs
    obtain ⟨rfl, rfl, rfl⟩ := hcs
    have hlz : len ≤ zs.length := by rw [hz]; split <;> omega
    have hat : ∀ i, i < len → co ((List.range len).map fun i => (zs.getD i 0).toNat) i = (zs.getD i 0).toNat := fun i hi => by
      unfold co
      rw [List.getElem?_map, List.getElem?_range hi]
      rfl
    have hb : ∀ i, i < len → ∃ n : Nat, zs.getD i 0 = (n : Int) ∧ n < 18446744073709551616 := fun i hi => by
      have hm : zs.getD i 0 ∈ zs := by rw [List.getD_eq_getElem?_getD, List.getElem?_eq_getElem (by omega)]; exact List.getElem_mem (by omega)
      exact nat_u64 (hwz _ hm)
    refine ⟨(List.range len).map (fun i => (zs.getD i 0).toNat), by simp, hl, fun i => ?_, fun i hi => ?_⟩
    · by_cases hi : i < len
      · rw [hat i hi]
        obtain ⟨n, h1, h2⟩ := hb i hi
        omega
      · unfold co
        rw [List.getElem?_eq_none (by simp; omega)]
        decide
    · have hi' : i < len := by simpa using hi
      obtain ⟨b, o, rfl, hc⟩ := ints_at hcell (by omega)
      refine ⟨b, o, rfl, ?_⟩
      obtain ⟨n, h1, h2⟩ := hb i hi'
      rw [hc i (by omega), hat i hi', h1]
      rfl
end
end Go.Proofs.YtjifionpblpfoaaDoor

/-
  An order that comes in, and a slice of them that reads as a list. Conditions: none.
-/
namespace Go.Proofs.YtjifionpblpfoaaDoor
open Go.RowKit
open Go.ChangeShapes Go.WideShapes Go.ChangeAt
open Pol (co Sm)

section
variable {H : Type} {enc : TypeId × Value → H} {w : World} {base : Nat} {spare : Nat → Bool} {held : Bool}
theorem tx_bytes {fuel : Nat} {v : Value} {x : DataW H × List MemPlace} (h : DataW.trod enc Tryd.prog w base spare held fuel 23 [v] = some x) :
    ∃ (q : List Nat) (B : Option Addr) (c : Nat), v = .slice B q.length c ∧ q.length ≤ c ∧ Rd w B q := by
  obtain ⟨B, n, c, hv⟩ : ∃ B n c, v = .slice B n c := by
    rcases Go.Deep.open_slice Tryd.underlying23 h with ⟨e, _⟩ | ⟨a2, l2, c2, _, _, _, _, e, _⟩
    · exact ⟨none, 0, 0, by simpa using e⟩
    · exact ⟨some a2, l2, c2, by simpa using e⟩
  subst hv
  obtain ⟨q, hq, hqc, hqr⟩ := open_bytes h
  exact ⟨q, B, c, by rw [hq], by rw [hq]; exact hqc, hqr⟩
set_option maxRecDepth 100000 in
/-- An order by value. -/
theorem open_tx {r : Reach} {b0 : Nat} {v : Value} {d : DataW H} {p : List MemPlace} (hv : Value.okWide Tryd.prog w r b0 46 v) (h : DataW.Trod enc Tryd.prog w base spare held 46 v d p) :
    ∃ (k t : Int) (a n c : Nat) (m : List Nat) (B : Option Addr), v = .agg #[.int .i64 k, .int .i64 t, .int .u64 (a : Int), .slice B n c] ∧ m.length = n ∧ n ≤ c ∧ a < 18446744073709551616 ∧ Rd w B m := by
  obtain ⟨v0, v1, v2, v3, y0, y1, y2, y3, m, rfl, _, _, g0, g1, g2, g3⟩ := Go.Joins.open_agg4 Tryd.underlying46 (by kernel_rfl) (by kernel_rfl) hv h
  obtain ⟨k, e0, _, _⟩ := DataW.trod_int Tryd.underlying3 g0
  obtain ⟨t, e1, _, _⟩ := DataW.trod_int Tryd.underlying3 g1
  obtain ⟨z, e2, _, w2⟩ := DataW.trod_int Tryd.underlying22 g2
  obtain ⟨a, rfl, ha⟩ := nat_u64 w2
  obtain ⟨q, B, c, rfl, h1, h2⟩ := tx_bytes g3
  simp only [List.cons.injEq, and_true] at e0 e1 e2
  subst e0; subst e1; subst e2
  exact ⟨k, t, a, q.length, c, q, B, rfl, rfl, h1, ha, h2⟩
set_option maxRecDepth 100000 in
/-- One order, by its four cells. -/
theorem open_txc {fuel : Nat} {cs : List Value} {x : DataW H × List MemPlace} (h : DataW.trod enc Tryd.prog w base spare held fuel 46 cs = some x) :
    ∃ (k t : Int) (a : Nat) (q : List Nat) (B : Option Addr) (c : Nat), cs = [.int .i64 k, .int .i64 t, .int .u64 (a : Int), .slice B q.length c] ∧ a < 18446744073709551616 ∧ q.length ≤ c ∧ Rd w B q := by
  obtain ⟨xs, m, _, _, hl, hxl, hf⟩ := DataW.trod_struct Tryd.underlying46 h
  have hc : cs.length = 4 := by rw [hl]; kernel_rfl
  have ci : Tryd.prog.cellsOf 3 = 1 := by kernel_rfl
  have cu : Tryd.prog.cellsOf 22 = 1 := by kernel_rfl
  have cb : Tryd.prog.cellsOf 23 = 1 := by kernel_rfl
  match cs, hc with
  | [v0, v1, v2, v3], _ =>
    match xs, hxl with
    | [y0, y1, y2, y3], _ =>
      have g0 := hf 0 _ rfl
      have g1 := hf 1 _ rfl
      have g2 := hf 2 _ rfl
      have g3 := hf 3 _ rfl
      simp [ci, cu, cb] at g0 g1 g2 g3
      obtain ⟨k, e0, _, _⟩ := DataW.trod_int Tryd.underlying3 g0
      obtain ⟨t, e1, _, _⟩ := DataW.trod_int Tryd.underlying3 g1
      obtain ⟨z, e2, _, w2⟩ := DataW.trod_int Tryd.underlying22 g2
      obtain ⟨a, rfl, ha⟩ := nat_u64 w2
      obtain ⟨q, B, c, rfl, h1, h2⟩ := tx_bytes g3
      simp only [List.cons.injEq, and_true] at e0 e1 e2
      subst e0; subst e1; subst e2
      exact ⟨k, t, a, q, B, c, rfl, ha, h1, h2⟩
end
end Go.Proofs.YtjifionpblpfoaaDoor
