/-
  Part 5 of the texts that the seat's proofs stand on; each part of it begins with its own sentence and conditions. Conditions: those that each theorem names.
-/
import Derived.Test.YtfbnckecfapakaaPlaysPack4
import Derived.DeepKeys
import Derived.OwnWalk
import Derived.Laws.Cover3

/-
  What a disk's Write and Sync do. Conditions: no more than 2^16 bytes of each kind.
-/
namespace Go.Proofs.Ytfbnckecfapakaa
open Go.RowKit
open Pol (co Sm)

/-- A disk of a call's own. -/
def DiskF (F L : List Nat) (w : World) (e : Ending) (w' : World) : Prop :=
  Ext w w' ∧ ∃ f l, e = .returned (.agg #[f, l]) ∧ Fst w' w.heap.size f F ∧ Fst w' w.heap.size l L ∧ Sp f l
/-- The two variables of such a call. -/
structure Vars (w : World) (A B : Option Addr) (nf ca nl cb : Nat) (g : Nat) (w1 : World) : Prop where
  ext : Ext w w1
  b1 : w1.heap[g]? = some (.cells #[.slice A nf ca, .slice B nl cb] 30)
  b2 : w1.heap[g + 1]? = some (.cells #[.slice none 0 0, .slice none 0 0] 30)
  size : w1.heap.size = g + 2
  base : w.heap.size = g
theorem vars_of (w : World) (A B : Option Addr) (nf ca nl cb : Nat) : Vars w A B nf ca nl cb w.heap.size ((w.alloc (.cells #[.slice A nf ca, .slice B nl cb] 30)).alloc (.cells #[.slice none 0 0, .slice none 0 0] 30)) where
  ext := ((Ext.refl w).alloc _).alloc _
  b1 := by rw [heap_alloc_old _ _ (by simp)]; exact heap_alloc_new w _
  b2 := by
    have h := heap_alloc_new (w.alloc (.cells #[.slice A nf ca, .slice B nl cb] 30)) (.cells #[.slice none 0 0, .slice none 0 0] 30)
    have e : (w.alloc (.cells #[.slice A nf ca, .slice B nl cb] 30)).heap.size = w.heap.size + 1 := by simp
    rwa [e] at h
  size := by simp
  base := rfl
theorem disk_in (a b : Value) : (Try.prog.info? 30).map (·.size) = some (#[a, b] : Array Value).size := by kernel_rfl
theorem disk_one (B1 B2 : Option Addr) (n1 n2 c1 c2 : Nat) : (#[Value.slice B1 n1 c1, .slice B2 n2 c2] : Array Value).all (·.oneCell') = true := by simp [Value.oneCell']
/-- Behind the clone: the variable holds it. -/
theorem Vars.cloned {w : World} {A B : Option Addr} {nf ca nl cb : Nat} {g : Nat} {w1 v1 : World} (h : Vars w A B nf ca nl cb g w1) (hx : Ext w1 v1) {f l : Value} {F L : List Nat} (hf : Mine v1 w1.heap.size f F) (hl : Mine v1 w1.heap.size l L) (hF : Sm F) (hL : Sm L) (hsp : Sp f l) :
    Ext w (v1.setRow g #[f, l]) ∧ Dk g #[f, l] 30 f l F L (g + 2) (v1.setRow g #[f, l]) ∧ (v1.setRow g #[f, l]).heap[g + 1]? = some (.cells #[.slice none 0 0, .slice none 0 0] 30) ∧ Mine (v1.setRow g #[f, l]) (g + 2) l L := by
  have h1 := hx.row h.b1
  have h2 := hx.row h.b2
  have hs := hx.size
  rw [h.size] at hf hl hs
  have ho : Only (fun k => k = g) v1 (v1.setRow g #[f, l]) := Only.of_grown (grown_block v1 g _) (fun k e => by injection e with e; exact e.symm)
  refine ⟨(h.ext.trans hx).setRow (by rw [h.base]; exact Nat.le_refl _) _, ⟨setRow_heap v1 g _ #[f, l] _ _ h1, rfl, rfl, ?_, ?_, hsp, fun e => ?_, fun e => ?_, ?_⟩, ho.row h2 (by omega), hl.keep9 (grown_block v1 g _) fun k hk e => by injection e with e; have := (hl.block k hk).1; omega⟩
  · exact (hf.fst hF).only ho fun k hk e => by have := (hf.block k hk).1; omega
  · exact (hl.fst hL).only ho fun k hk e => by have := (hl.block k hk).1; omega
  · have := (hf.block g e).1; omega
  · have := (hl.block g e).1; omega
  · exact Nat.le_trans hs ho.size

set_option maxHeartbeats 1600000 in
set_option maxRecDepth 100000 in
theorem jn_sync (F L : List Nat) (A B : Option Addr) (ca cb : Nat) (w : World) (hf : Rd w A F) (hl : Rd w B L) (hfl : F.length ≤ 65536) (hll : L.length ≤ 65536) :
    Calls Try.prog 28 #[.agg #[.slice A F.length ca, .slice B L.length cb]] w (DiskF (F ++ L) [] w) := by
  unfold DiskF
  have HC := Lib.hid (fun W (h : Ext w W) => jn_clone F L A B ca cb W (hf.ext h) (hl.ext h) hfl hll)
  have HSF := Lib.hid hf.1
  have HSL := Lib.hid hl.1
  have HLEN := Lib.hid (show F.length + L.length ≤ 1099511627776 from by omega)
  obtain ⟨nf, hnf⟩ : ∃ n, F.length = n := ⟨_, rfl⟩
  obtain ⟨nl, hnl⟩ : ∃ n, L.length = n := ⟨_, rfl⟩
  rw [hnf, hnl] at HC ⊢
  have HV := Lib.hid (vars_of w A B nf ca nl cb)
  have HB1 := Lib.hid HV.out.b1
  clear hf hl hfl hll
  go_enter Try.func28, Try.ntmps28
  go_wp2_with (with_reducible refine wpList_load_row rfl 30 (.tmp 1) rfl w.heap.size rfl 30 #[.slice A nf ca, .slice B nl cb] (0, 0) _ HB1.out Try.underlying30 rfl (disk_in _ _) ?_)
  obtain ⟨g, hg⟩ : ∃ g, w.heap.size = g := ⟨_, rfl⟩
  have HG := Lib.hid hg
  rw [hg] at HV ⊢
  clear hg HB1
  generalize (w.alloc (.cells #[.slice A nf ca, .slice B nl cb] 30)).alloc (.cells #[.slice none 0 0, .slice none 0 0] 30) = w1 at HV ⊢
  refine (HC.out _ HV.out.ext).mono ?_
  rintro e v1 ⟨hx2, f, l, rfl, hmf, hml, hsp⟩
  obtain ⟨Bf, cf, rfl, _, _⟩ := hmf.slice HSF.out
  obtain ⟨Bl, cl, rfl, _, _⟩ := hml.slice HSL.out
  rw [hnf, hnl] at *
  obtain ⟨hxv, hdk, hcell, _⟩ := HV.out.cloned hx2 hmf hml HSF.out HSL.out hsp
  have HX2 := Lib.hid hxv
  have HD2 := Lib.hid hdk
  have HB2 := Lib.hid hcell
  have hb1 := hx2.row HV.out.b1
  have HBV := Lib.hid hb1
  have hin := disk_in (.slice Bf nf cf) (.slice Bl nl cl)
  have hsz : (#[.slice A nf ca, .slice B nl cb] : Array Value).size = (#[.slice Bf nf cf, .slice Bl nl cl] : Array Value).size := rfl
  have hone := disk_one Bf Bl nf nl cf cl
  clear hx2 hmf hml hsp hxv hdk hcell hb1
  go_wp2_with (with_reducible refine wpList_store_all rfl 30 (.tmp 1) (.tmp 4) rfl g _ #[.slice Bf nf cf, .slice Bl nl cl] rfl rfl HBV.out hin hsz hone ?_)
  generalize v1.setRow g _ = v2 at HX2 HD2 HB2 ⊢
  go_wp2_with fail
  refine (jn_settle g _ _ _ _ F L (g + 2) v2 HD2.out HLEN.out).mono ?_
  rintro e v3 ⟨rfl, ho3, v, hrow, hfv, hnd, hor⟩
  have hs2 : g + 2 ≤ v2.heap.size := HD2.out.lt
  have HX3 := Lib.hid (ho3.ext HX2.out (fun k hk => by
    rcases hk with rfl | e
    · rw [HG.out]; exact Nat.le_refl _
    · have := (HD2.out.fst.block k e).1; rw [HG.out]; omega))
  have HB3 := Lib.hid (ho3.row HB2.out (fun e => by
    rcases e with e | e
    · omega
    · have := (HD2.out.fst.block _ e).1; omega))
  have hrow3 : v3.heap[g]? = some (.cells #[v, .slice none 0 0] 30) := hrow
  have HRW := Lib.hid hrow3
  have hvb := fun q (hq : v.ownBlock = some q) => show g + 2 ≤ q from by
    rcases hor with e | e
    · rw [e] at hq; exact (HD2.out.fst.block q hq).1
    · have := e q hq; omega
  obtain ⟨B3, c3, rfl, _, _⟩ := hfv.slice
  have HVB := Lib.hid hvb
  have HFV := Lib.hid hfv
  obtain ⟨n3, hn3⟩ : ∃ n, (F ++ L).length = n := ⟨_, rfl⟩
  rw [hn3] at HRW HVB HFV
  have hone3 := disk_one B3 none n3 0 c3 0
  have hin3 := disk_in (.slice B3 n3 c3) (.slice none 0 0)
  have hsz3 : (#[.slice none 0 0, .slice none 0 0] : Array Value).size = (#[.slice B3 n3 c3, .slice none 0 0] : Array Value).size := rfl
  clear ho3 hrow hrow3 hvb hor hfv hn3 hnd
  go_wp2_with (first | (with_reducible refine wpList_load_row rfl 30 (.tmp 1) rfl g rfl 30 #[.slice B3 n3 c3, .slice none 0 0] (0, 0) _ HRW.out Try.underlying30 rfl hin3 ?_) | (with_reducible refine wpList_store_all rfl 30 (.tmp 2) (.tmp 6) rfl (g + 1) _ #[.slice B3 n3 c3, .slice none 0 0] rfl rfl HB3.out hin3 hsz3 hone3 ?_))
  have hg5 := setRow_heap v3 (g + 1) _ #[.slice B3 n3 c3, .slice none 0 0] _ _ HB3.out
  have ho5 : Only (fun k => k = g + 1) v3 (v3.setRow (g + 1) #[.slice B3 n3 c3, .slice none 0 0]) := Only.of_grown (grown_block v3 _ _) (fun k e => by injection e with e; exact e.symm)
  refine bodyPost_ret (results_cell_row Try.results28 _ _ (g + 1) 30 _ (0, 0) _ rfl hg5 Try.underlying30 rfl (disk_in _ _)) rfl ?_
  refine ⟨ho5.ext HX3.out (fun k hk => by rw [hk, HG.out]; omega), _, _, rfl, (HFV.out.only ho5 fun k hk e => by have := HVB.out k hk; omega).lift (fun k hk => by have := HVB.out k hk; rw [HG.out]; omega), Fst.nil _ _, fun q _ hq => by cases hq⟩
set_option maxHeartbeats 1600000 in
set_option maxRecDepth 100000 in
theorem jn_write (F L b : List Nat) (A B D : Option Addr) (ca cb cd : Nat) (w : World) (hf : Rd w A F) (hl : Rd w B L) (hb : Rd w D b) (hfl : F.length ≤ 65536) (hll : L.length ≤ 65536) (hbl : b.length ≤ 65536) :
    Calls Try.prog 25 #[.agg #[.slice A F.length ca, .slice B L.length cb], .slice D b.length cd] w (DiskF F (L ++ b) w) := by
  unfold DiskF
  have HC := Lib.hid (fun W (h : Ext w W) => jn_clone F L A B ca cb W (hf.ext h) (hl.ext h) hfl hll)
  have HSF := Lib.hid hf.1
  have HSL := Lib.hid hl.1
  have HRB := Lib.hid hb
  have HLEN := Lib.hid (show L.length + b.length ≤ 1099511627776 from by omega)
  have HEX := Lib.hid (fun g C ty f l base W h (hr : Rd W D b) => jn_extend g C ty f l F L b base D cd W h hr HLEN.out)
  obtain ⟨nf, hnf⟩ : ∃ n, F.length = n := ⟨_, rfl⟩
  obtain ⟨nl, hnl⟩ : ∃ n, L.length = n := ⟨_, rfl⟩
  obtain ⟨nb, hnb⟩ : ∃ n, b.length = n := ⟨_, rfl⟩
  rw [hnf, hnl] at HC ⊢
  rw [hnb] at HEX ⊢
  have HV := Lib.hid (vars_of w A B nf ca nl cb)
  have HB1 := Lib.hid HV.out.b1
  clear hf hl hb hfl hll hbl hnb
  go_enter Try.func25, Try.ntmps25
  go_wp2_with (with_reducible refine wpList_load_row rfl 30 (.tmp 2) rfl w.heap.size rfl 30 #[.slice A nf ca, .slice B nl cb] (0, 0) _ HB1.out Try.underlying30 rfl (disk_in _ _) ?_)
  obtain ⟨g, hg⟩ : ∃ g, w.heap.size = g := ⟨_, rfl⟩
  have HG := Lib.hid hg
  rw [hg] at HV ⊢
  clear hg HB1
  generalize (w.alloc (.cells #[.slice A nf ca, .slice B nl cb] 30)).alloc (.cells #[.slice none 0 0, .slice none 0 0] 30) = w1 at HV ⊢
  refine (HC.out _ HV.out.ext).mono ?_
  rintro e v1 ⟨hx2, f, l, rfl, hmf, hml, hsp⟩
  obtain ⟨Bf, cf, rfl, _, _⟩ := hmf.slice HSF.out
  obtain ⟨Bl, cl, rfl, _, _⟩ := hml.slice HSL.out
  rw [hnf, hnl] at *
  obtain ⟨hxv, hdk, hcell, _⟩ := HV.out.cloned hx2 hmf hml HSF.out HSL.out hsp
  have HX2 := Lib.hid hxv
  have HD2 := Lib.hid hdk
  have HB2 := Lib.hid hcell
  have hb1 := hx2.row HV.out.b1
  have HBV := Lib.hid hb1
  have hin := disk_in (.slice Bf nf cf) (.slice Bl nl cl)
  have hsz : (#[.slice A nf ca, .slice B nl cb] : Array Value).size = (#[.slice Bf nf cf, .slice Bl nl cl] : Array Value).size := rfl
  have hone := disk_one Bf Bl nf nl cf cl
  clear hx2 hmf hml hsp hxv hdk hcell hb1
  go_wp2_with (with_reducible refine wpList_store_all rfl 30 (.tmp 2) (.tmp 6) rfl g _ #[.slice Bf nf cf, .slice Bl nl cl] rfl rfl HBV.out hin hsz hone ?_)
  generalize v1.setRow g _ = v2 at HX2 HD2 HB2 ⊢
  go_wp2_with fail
  refine (HEX.out g _ _ _ _ (g + 2) v2 HD2.out (HRB.out.ext HX2.out)).mono ?_
  rintro e v3 ⟨rfl, ho3, v, hrow, hff, hfv, hsp, hnd, hor⟩
  have hs2 : g + 2 ≤ v2.heap.size := HD2.out.lt
  have HX3 := Lib.hid (ho3.ext HX2.out (fun k hk => by
    rcases hk with rfl | e
    · rw [HG.out]; exact Nat.le_refl _
    · have := (HD2.out.lst.block k e).1; rw [HG.out]; omega))
  have HB3 := Lib.hid (ho3.row HB2.out (fun e => by
    rcases e with e | e
    · omega
    · have := (HD2.out.lst.block _ e).1; omega))
  have hrow3 : v3.heap[g]? = some (.cells #[.slice Bf nf cf, v] 30) := hrow
  have HRW := Lib.hid hrow3
  have hvb := fun q (hq : v.ownBlock = some q) => show g + 2 ≤ q from by
    rcases hor with e | e
    · rw [e] at hq; exact (HD2.out.lst.block q hq).1
    · have := e q hq; omega
  obtain ⟨B3, c3, rfl, _, _⟩ := hfv.slice
  have HVB := Lib.hid hvb
  have HFV := Lib.hid hfv
  have HFF := Lib.hid hff
  have HSP := Lib.hid hsp
  have HFB := Lib.hid (fun q hq => (HD2.out.fst.block q hq).1)
  obtain ⟨n3, hn3⟩ : ∃ n, (L ++ b).length = n := ⟨_, rfl⟩
  rw [hn3] at HRW HVB HFV HSP
  have hone3 := disk_one Bf B3 nf n3 cf c3
  have hin3 := disk_in (.slice Bf nf cf) (.slice B3 n3 c3)
  have hsz3 : (#[.slice none 0 0, .slice none 0 0] : Array Value).size = (#[.slice Bf nf cf, .slice B3 n3 c3] : Array Value).size := rfl
  clear ho3 hrow hrow3 hvb hor hfv hff hsp hn3 hnd
  go_wp2_with (first | (with_reducible refine wpList_load_row rfl 30 (.tmp 2) rfl g rfl 30 #[.slice Bf nf cf, .slice B3 n3 c3] (0, 0) _ HRW.out Try.underlying30 rfl hin3 ?_) | (with_reducible refine wpList_store_all rfl 30 (.tmp 4) (.tmp 9) rfl (g + 1) _ #[.slice Bf nf cf, .slice B3 n3 c3] rfl rfl HB3.out hin3 hsz3 hone3 ?_))
  have hg5 := setRow_heap v3 (g + 1) _ #[.slice Bf nf cf, .slice B3 n3 c3] _ _ HB3.out
  have ho5 : Only (fun k => k = g + 1) v3 (v3.setRow (g + 1) #[.slice Bf nf cf, .slice B3 n3 c3]) := Only.of_grown (grown_block v3 _ _) (fun k e => by injection e with e; exact e.symm)
  refine bodyPost_ret (results_cell_row Try.results25 _ _ (g + 1) 30 _ (0, 0) _ rfl hg5 Try.underlying30 rfl (disk_in _ _)) rfl ?_
  refine ⟨ho5.ext HX3.out (fun k hk => by rw [hk, HG.out]; omega), _, _, rfl, (HFF.out.only ho5 fun k hk e => by have := HFB.out k hk; omega).lift (fun k hk => by have := HFB.out k hk; rw [HG.out]; omega), (HFV.out.only ho5 fun k hk e => by have := HVB.out k hk; omega).lift (fun k hk => by have := HVB.out k hk; rw [HG.out]; omega), HSP.out⟩
end Go.Proofs.Ytfbnckecfapakaa

/-
  What a disk's Crash does. Conditions: no more than 2^16 bytes of each kind.
-/
namespace Go.Proofs.Ytfbnckecfapakaa
open Go.RowKit
open Pol (co Sm)

theorem kept_int (k : Int) (n : Nat) : ((kept k n : Nat) : Int) = min (max k 0) (n : Int) := by
  unfold kept
  split <;> omega
theorem Vars.cut {w : World} {A B : Option Addr} {nf ca nl cb : Nat} {g : Nat} {w1 : World} (h : Vars w A B nf ca nl cb g w1) (m : Nat) : Vars w A B nf ca m cb g (w1.setCell ⟨g, 1, none⟩ (.slice B m cb)) where
  ext := h.ext.setCell (by rw [h.base]; exact Nat.le_refl _) _
  b1 := by
    rw [heap_setCell_same w1 g 1 _ _ (.slice B m cb) h.b1]; rfl
  b2 := by rw [heap_setCell_other w1 _ _ _ (by show g + 1 ≠ g; omega)]; exact h.b2
  size := by rw [show (w1.setCell ⟨g, 1, none⟩ (.slice B m cb)).heap.size = w1.heap.size from by simp [World.setCell]]; exact h.size
  base := h.base
/-- A disk whose last loose byte is torn. -/
theorem Dk.torn {g gl n c b i x : Nat} {f : Value} {F l : List Nat} {v : World} (h : Dk g #[f, .slice (some ⟨gl, 0, none⟩) n c] 30 f (.slice (some ⟨gl, 0, none⟩) n c) F l b v) (hm : Mine v b (.slice (some ⟨gl, 0, none⟩) n c) l) (hi : i < l.length) (hx : x < 256) :
    Dk g #[f, .slice (some ⟨gl, 0, none⟩) n c] 30 f (.slice (some ⟨gl, 0, none⟩) n c) F (l.set i x) b (v.setCell ⟨gl, i, none⟩ (.int .u8 (x : Int))) where
  row := (heap_setCell_other v _ _ _ (fun e => h.nl (by rw [e]; rfl))).trans h.row
  f0 := rfl
  l1 := rfl
  fst := h.fst.only (X := fun k => k = gl) (Only.of_grown (grown_set v gl i _) (fun k e => by injection e with e; exact e.symm)) (fun k hk e => h.sp k hk (by rw [e]; rfl))
  lst := (hm.put hi).fst (Pol.co_lt_of fun z hz => by
    rcases List.mem_or_eq_of_mem_set hz with h1 | h1
    · exact h.lst.1.mem z h1
    · rw [h1]; exact hx)
  sp := h.sp
  nf := h.nf
  nl := h.nl
  lt := Nat.le_trans h.lt (by simp [World.setCell])
set_option maxHeartbeats 800000 in
set_option maxRecDepth 100000 in
theorem jn_crash (F L : List Nat) (A B : Option Addr) (ca cb : Nat) (k : Int) (x : Nat) (w : World) (hf : Rd w A F) (hl : Rd w B L) (hfl : F.length ≤ 65536) (hll : L.length ≤ 65536) (hcb : L.length ≤ cb) (hx : x < 256) :
    Calls Try.prog 23 #[.agg #[.slice A F.length ca, .slice B L.length cb], .int .i64 k, .int .u8 (x : Int)] w (DiskF (F ++ crs L (kept k L.length) x) [] w) := by
  unfold DiskF
  have HC0 := Lib.hid (fun m (hm : m ≤ L.length) W (h : Ext w W) => show Calls Try.prog 33 #[.agg #[.slice A F.length ca, .slice B m cb]] W (DiskM F (L.take m) W) from by
    have h1 := jn_clone F (L.take m) A B ca cb W (hf.ext h) ((hl.take m).ext h) hfl (by rw [List.length_take]; omega)
    rwa [List.length_take, Nat.min_eq_left hm] at h1)
  have HSF := Lib.hid hf.1
  have HSL := Lib.hid hl.1
  obtain ⟨nf, hnf⟩ : ∃ n, F.length = n := ⟨_, rfl⟩
  obtain ⟨nl, hnl⟩ : ∃ n, L.length = n := ⟨_, rfl⟩
  rw [hnf, hnl] at HC0 ⊢
  rw [hnl] at hcb
  have HV := Lib.hid (vars_of w A B nf ca nl cb)
  have h1 : ((w.alloc (.cells #[.slice A nf ca, .slice B nl cb] 30)).alloc (.cells #[.slice none 0 0, .slice none 0 0] 30)).cell? ⟨w.heap.size, 1, none⟩ = some (.slice B nl cb) := by
    rw [cell_of_row _ _ 1 _ _ _ HV.out.b1]; rfl
  have z1 := frozen_of_row _ w.heap.size 1 _ _ HV.out.b1
  obtain ⟨q, hq⟩ : ∃ q : Nat, (if k < 0 then (0 : Int) else k) = (q : Int) := ⟨k.toNat, by split <;> omega⟩
  have hkq : kept k nl = min q nl := by unfold kept; split at hq <;> split <;> omega
  clear hf hl
  rcases Nat.lt_or_ge nl q with hc | hc
  · have hcI : (nl : Int) < (q : Int) := by omega
    rcases Nat.eq_zero_or_pos nl with hV | hV
    · skip
      have hlt : crs L (kept k nl) x = L.take nl := by
        rw [hkq, show min q nl = 0 from by omega, hV, crs_none, List.take_zero]
      have d1 : decide ((0 : Int) < (nl : Int)) = false := decide_eq_false (by omega)
      have hV0 : ¬ (0 : Int) < (nl : Int) := by omega
      rw [hlt]
      have HLEN := Lib.hid (show F.length + (L.take nl).length ≤ 1099511627776 from by simp; omega)
      have HSV := Lib.hid (show Sm (L.take nl) from sm12_take HSL.out _)
      have HTL := Lib.hid (show (L.take nl).length = nl from by rw [List.length_take]; omega)
      have HC := Lib.hid (fun W (h : Ext w W) => HC0.out nl (by omega) W h)
      have ht := run_to_u8 B nl cb nl (by omega)
      have HT := Lib.hid ht
      clear hcb hll hfl hkq hlt HC0 hV
      go_enter Try.func23, Try.ntmps23
      have HVC := Lib.hid (vars_of w A B nf ca nl cb)
      have HBC := Lib.hid HVC.out.b1
      clear ht
      have ht := HT.out
      go_wp2_with (with_reducible refine wpList_load_row rfl 30 (.tmp 3) rfl w.heap.size rfl 30 #[.slice A nf ca, .slice B nl cb] (0, 0) _ HBC.out Try.underlying30 rfl (disk_in _ _) ?_)
      obtain ⟨g, hg⟩ : ∃ g, w.heap.size = g := ⟨_, rfl⟩
      have HG := Lib.hid hg
      rw [hg] at HVC h1 z1 ⊢
      clear hg HBC h1 z1 ht HT
      clear HV
      generalize (w.alloc (.cells #[.slice A nf ca, .slice B nl cb] 30)).alloc (.cells #[.slice none 0 0, .slice none 0 0] 30) = w1 at HVC ⊢
      refine (HC.out _ HVC.out.ext).mono ?_
      rintro e v1 ⟨hx2, f, l, rfl, hmf, hml, hsp⟩
      obtain ⟨Bf, cf, rfl, _, _⟩ := hmf.slice HSF.out
      obtain ⟨Bl, cl, rfl, _, _⟩ := hml.slice HSV.out
      rw [HTL.out] at hml hsp ⊢
      rw [hnf] at hmf hsp ⊢
      obtain ⟨hxv, hdk, hcell, hml2⟩ := HVC.out.cloned hx2 hmf hml HSF.out HSV.out hsp
      have HX2 := Lib.hid hxv
      have HD2 := Lib.hid hdk
      have HB2 := Lib.hid hcell
      have HML := Lib.hid hml2
      have hb1 := hx2.row HVC.out.b1
      have HBV := Lib.hid hb1
      have hin := disk_in (.slice Bf nf cf) (.slice Bl nl cl)
      have hsz : (#[.slice A nf ca, .slice B nl cb] : Array Value).size = (#[.slice Bf nf cf, .slice Bl nl cl] : Array Value).size := rfl
      have hone := disk_one Bf Bl nf nl cf cl
      clear hx2 hmf hml hsp hxv hdk hcell hb1 hml2
      go_wp2_with (with_reducible refine wpList_store_all rfl 30 (.tmp 3) (.tmp 19) rfl g _ #[.slice Bf nf cf, .slice Bl nl cl] rfl rfl HBV.out hin hsz hone ?_)
      generalize v1.setRow g _ = v2 at HX2 HD2 HB2 HML ⊢
      go_wp2_with fail
      refine (jn_settle g _ _ _ _ F _ (g + 2) v2 HD2.out HLEN.out).mono ?_
      rintro e v3 ⟨rfl, ho3, v, hrow, hfv, hnd, hor⟩
      have hs2 : g + 2 ≤ v2.heap.size := HD2.out.lt
      have HX3 := Lib.hid (ho3.ext HX2.out (fun k hk => by
        rcases hk with rfl | e
        · rw [HG.out]; exact Nat.le_refl _
        · have := (HD2.out.fst.block k e).1; rw [HG.out]; omega))
      have HB3 := Lib.hid (ho3.row HB2.out (fun e => by
        rcases e with e | e
        · omega
        · have := (HD2.out.fst.block _ e).1; omega))
      have hrow3 : v3.heap[g]? = some (.cells #[v, .slice none 0 0] 30) := hrow
      have HRW := Lib.hid hrow3
      have hvb := fun q (hq : v.ownBlock = some q) => show g + 2 ≤ q from by
        rcases hor with e | e
        · rw [e] at hq; exact (HD2.out.fst.block q hq).1
        · have := e q hq; omega
      obtain ⟨B3, c3, rfl, _, _⟩ := hfv.slice
      have HVB := Lib.hid hvb
      have HFV := Lib.hid hfv
      obtain ⟨n3, hn3⟩ : ∃ n, (F ++ (L.take nl)).length = n := ⟨_, rfl⟩
      rw [hn3] at HRW HVB HFV
      have hone3 := disk_one B3 none n3 0 c3 0
      have hin3 := disk_in (.slice B3 n3 c3) (.slice none 0 0)
      have hsz3 : (#[.slice none 0 0, .slice none 0 0] : Array Value).size = (#[.slice B3 n3 c3, .slice none 0 0] : Array Value).size := rfl
      clear ho3 hrow hrow3 hvb hor hfv hn3 hnd
      go_wp2_with (first | (with_reducible refine wpList_load_row rfl 30 (.tmp 3) rfl g rfl 30 #[.slice B3 n3 c3, .slice none 0 0] (0, 0) _ HRW.out Try.underlying30 rfl hin3 ?_) | (with_reducible refine wpList_store_all rfl 30 (.tmp 6) (.tmp 32) rfl (g + 1) _ #[.slice B3 n3 c3, .slice none 0 0] rfl rfl HB3.out hin3 hsz3 hone3 ?_))
      have hg5 := setRow_heap v3 (g + 1) _ #[.slice B3 n3 c3, .slice none 0 0] _ _ HB3.out
      have ho5 : Only (fun k => k = g + 1) v3 (v3.setRow (g + 1) #[.slice B3 n3 c3, .slice none 0 0]) := Only.of_grown (grown_block v3 _ _) (fun k e => by injection e with e; exact e.symm)
      refine bodyPost_ret (results_cell_row Try.results23 _ _ (g + 1) 30 _ (0, 0) _ rfl hg5 Try.underlying30 rfl (disk_in _ _)) rfl ?_
      refine ⟨ho5.ext HX3.out (fun k hk => by rw [hk, HG.out]; omega), _, _, rfl, (HFV.out.only ho5 fun k hk e => by have := HVB.out k hk; omega).lift (fun k hk => by have := HVB.out k hk; rw [HG.out]; omega), Fst.nil _ _, fun q _ hq => by cases hq⟩
    · skip
      obtain ⟨m, hm⟩ : ∃ m, nl = m + 1 := ⟨nl - 1, by omega⟩
      have hlt : crs L (kept k nl) x = (L.take nl).set m (co L m ^^^ x) := by
        rw [hkq, show min q nl = m + 1 from by omega, crs_some, hm, set_last L m _ (by omega)]
      have eV : Value.int .i64 (wrap64 ((nl : Int) - 1)) = Value.int .i64 (m : Int) := by
        rw [show (nl : Int) - 1 = (m : Int) from by omega, w64_few m (by omega)]
      have hmI : (m : Int) < (nl : Int) := by omega
      have hmI0 : (0 : Int) ≤ (m : Int) := by omega
      have d1 : decide ((0 : Int) < (nl : Int)) = true := decide_eq_true (by omega)
      have hV0 : (0 : Int) < (nl : Int) := by omega
      have ex := u8_xor_nat (co L m) x (HSL.out m) hx
      have HM := Lib.hid hm
      have HAR := Lib.hid (And.intro eV (And.intro hmI (And.intro hmI0 ex)))
      clear eV hmI hmI0 ex
      rw [hlt]
      have HLEN := Lib.hid (show F.length + ((L.take nl).set m (co L m ^^^ x)).length ≤ 1099511627776 from by simp; omega)
      have HSV := Lib.hid (show Sm (L.take nl) from sm12_take HSL.out _)
      have HTL := Lib.hid (show (L.take nl).length = nl from by rw [List.length_take]; omega)
      have HC := Lib.hid (fun W (h : Ext w W) => HC0.out nl (by omega) W h)
      have ht := run_to_u8 B nl cb nl (by omega)
      have HT := Lib.hid ht
      clear hcb hll hfl hkq hlt HC0 hV hm
      go_enter Try.func23, Try.ntmps23
      have HVC := Lib.hid (vars_of w A B nf ca nl cb)
      have HBC := Lib.hid HVC.out.b1
      clear ht
      have ht := HT.out
      go_wp2_with (with_reducible refine wpList_load_row rfl 30 (.tmp 3) rfl w.heap.size rfl 30 #[.slice A nf ca, .slice B nl cb] (0, 0) _ HBC.out Try.underlying30 rfl (disk_in _ _) ?_)
      obtain ⟨g, hg⟩ : ∃ g, w.heap.size = g := ⟨_, rfl⟩
      have HG := Lib.hid hg
      rw [hg] at HVC h1 z1 ⊢
      clear hg HBC h1 z1 ht HT
      clear HV
      generalize (w.alloc (.cells #[.slice A nf ca, .slice B nl cb] 30)).alloc (.cells #[.slice none 0 0, .slice none 0 0] 30) = w1 at HVC ⊢
      refine (HC.out _ HVC.out.ext).mono ?_
      rintro e v1 ⟨hx2, f, l, rfl, hmf, hml, hsp⟩
      obtain ⟨Bf, cf, rfl, _, _⟩ := hmf.slice HSF.out
      obtain ⟨Bl, cl, rfl, _, _⟩ := hml.slice HSV.out
      rw [HTL.out] at hml hsp ⊢
      rw [hnf] at hmf hsp ⊢
      obtain ⟨hxv, hdk, hcell, hml2⟩ := HVC.out.cloned hx2 hmf hml HSF.out HSV.out hsp
      have HX2 := Lib.hid hxv
      have HD2 := Lib.hid hdk
      have HB2 := Lib.hid hcell
      have HML := Lib.hid hml2
      have hb1 := hx2.row HVC.out.b1
      have HBV := Lib.hid hb1
      have hin := disk_in (.slice Bf nf cf) (.slice Bl nl cl)
      have hsz : (#[.slice A nf ca, .slice B nl cb] : Array Value).size = (#[.slice Bf nf cf, .slice Bl nl cl] : Array Value).size := rfl
      have hone := disk_one Bf Bl nf nl cf cl
      clear hx2 hmf hml hsp hxv hdk hcell hb1 hml2
      obtain ⟨v2, hv2⟩ : ∃ v, v1.setRow g #[.slice Bf nf cf, .slice Bl nl cl] = v := ⟨_, rfl⟩
      have HV2 := Lib.hid hv2
      rw [hv2] at HX2 HD2 HB2 HML
      clear hv2
      obtain ⟨gl, hgl, hcl2, zl⟩ : ∃ gl, Bl = some ⟨gl, 0, none⟩ ∧ v2.cell? ⟨gl, m, none⟩ = some (.int .u8 ((co L m : Nat) : Int)) ∧ v2.frozen? ⟨gl, m, none⟩ = false := by
        obtain ⟨gl, o, c, e, hc, hlc⟩ := HML.out.spot HSV.out (i := m) (by have := HM.out; rw [HTL.out]; omega)
        injection e with e1 e2 e3
        refine ⟨gl, ?_, ?_, hlc⟩
        · rw [e1]
        · rw [hc]
          congr 3
          exact co12_take L _ m (by have := HM.out; omega)
      subst hgl
      have k1 := HD2.out.two.2
      clear hq hc hcI
      obtain ⟨eV, hmI, hmI0, ex⟩ := HAR.out
      go_wp2_with (with_reducible refine wpList_store_all rfl 30 (.tmp 3) (.tmp 19) rfl g _ #[.slice Bf nf cf, .slice (some ⟨gl, 0, none⟩) nl cl] rfl rfl HBV.out hin hsz hone ?_; rw [HV2.out])
      have HD3 := Lib.hid (HD2.out.torn HML.out (i := m) (x := co L m ^^^ x) (by have := HM.out; rw [HTL.out]; omega) (Nat.xor_lt_two_pow (n := 8) (HSL.out m) hx))
      have HX3' := Lib.hid (show Ext w (v2.setCell ⟨gl, m, none⟩ (.int .u8 ((co L m ^^^ x : Nat) : Int))) from HX2.out.setCell (by have := (HML.out.block gl rfl).1; rw [HG.out]; show g ≤ gl; omega) _)
      have HB3' := Lib.hid (show (v2.setCell ⟨gl, m, none⟩ (.int .u8 ((co L m ^^^ x : Nat) : Int))).heap[g + 1]? = _ from (heap_setCell_other v2 _ _ _ (by have := (HML.out.block gl rfl).1; show g + 1 ≠ gl; omega)).trans HB2.out)
      generalize v2.setCell _ _ = v2' at HD3 HX3' HB3' ⊢
      refine (jn_settle g _ _ _ _ F _ (g + 2) v2' HD3.out HLEN.out).mono ?_
      rintro e v3 ⟨rfl, ho3, v, hrow, hfv, hnd, hor⟩
      have hs2 : g + 2 ≤ v2'.heap.size := HD3.out.lt
      have HX3 := Lib.hid (ho3.ext HX3'.out (fun k hk => by
        rcases hk with rfl | e
        · rw [HG.out]; exact Nat.le_refl _
        · have := (HD3.out.fst.block k e).1; rw [HG.out]; omega))
      have HB3 := Lib.hid (ho3.row HB3'.out (fun e => by
        rcases e with e | e
        · omega
        · have := (HD3.out.fst.block _ e).1; omega))
      have hrow3 : v3.heap[g]? = some (.cells #[v, .slice none 0 0] 30) := hrow
      have HRW := Lib.hid hrow3
      have hvb := fun q (hq : v.ownBlock = some q) => show g + 2 ≤ q from by
        rcases hor with e | e
        · rw [e] at hq; exact (HD3.out.fst.block q hq).1
        · have := e q hq; omega
      obtain ⟨B3, c3, rfl, _, _⟩ := hfv.slice
      have HVB := Lib.hid hvb
      have HFV := Lib.hid hfv
      obtain ⟨n3, hn3⟩ : ∃ n, (F ++ ((L.take nl).set m (co L m ^^^ x))).length = n := ⟨_, rfl⟩
      rw [hn3] at HRW HVB HFV
      have hone3 := disk_one B3 none n3 0 c3 0
      have hin3 := disk_in (.slice B3 n3 c3) (.slice none 0 0)
      have hsz3 : (#[.slice none 0 0, .slice none 0 0] : Array Value).size = (#[.slice B3 n3 c3, .slice none 0 0] : Array Value).size := rfl
      clear ho3 hrow hrow3 hvb hor hfv hn3 hnd
      go_wp2_with (first | (with_reducible refine wpList_load_row rfl 30 (.tmp 3) rfl g rfl 30 #[.slice B3 n3 c3, .slice none 0 0] (0, 0) _ HRW.out Try.underlying30 rfl hin3 ?_) | (with_reducible refine wpList_store_all rfl 30 (.tmp 6) (.tmp 32) rfl (g + 1) _ #[.slice B3 n3 c3, .slice none 0 0] rfl rfl HB3.out hin3 hsz3 hone3 ?_))
      have hg5 := setRow_heap v3 (g + 1) _ #[.slice B3 n3 c3, .slice none 0 0] _ _ HB3.out
      have ho5 : Only (fun k => k = g + 1) v3 (v3.setRow (g + 1) #[.slice B3 n3 c3, .slice none 0 0]) := Only.of_grown (grown_block v3 _ _) (fun k e => by injection e with e; exact e.symm)
      refine bodyPost_ret (results_cell_row Try.results23 _ _ (g + 1) 30 _ (0, 0) _ rfl hg5 Try.underlying30 rfl (disk_in _ _)) rfl ?_
      refine ⟨ho5.ext HX3.out (fun k hk => by rw [hk, HG.out]; omega), _, _, rfl, (HFV.out.only ho5 fun k hk e => by have := HVB.out k hk; omega).lift (fun k hk => by have := HVB.out k hk; rw [HG.out]; omega), Fst.nil _ _, fun q _ hq => by cases hq⟩
  · have hcI : ¬ (nl : Int) < (q : Int) := by omega
    rcases Nat.eq_zero_or_pos q with hV | hV
    · skip
      have hlt : crs L (kept k nl) x = L.take q := by
        rw [hkq, show min q nl = 0 from by omega, hV, crs_none, List.take_zero]
      have d1 : decide ((0 : Int) < (q : Int)) = false := decide_eq_false (by omega)
      have hV0 : ¬ (0 : Int) < (q : Int) := by omega
      rw [hlt]
      have HLEN := Lib.hid (show F.length + (L.take q).length ≤ 1099511627776 from by simp; omega)
      have HSV := Lib.hid (show Sm (L.take q) from sm12_take HSL.out _)
      have HTL := Lib.hid (show (L.take q).length = q from by rw [List.length_take]; omega)
      have HC := Lib.hid (fun W (h : Ext w W) => HC0.out q (by omega) W h)
      have ht := run_to_u8 B nl cb q (by omega)
      have HT := Lib.hid ht
      clear hcb hll hfl hkq hlt HC0 hV
      go_enter Try.func23, Try.ntmps23
      have HVC := Lib.hid (vars_of w A B nf ca q cb)
      have HBC := Lib.hid HVC.out.b1
      clear ht
      have ht := HT.out
      go_wp2_with (with_reducible refine wpList_load_row rfl 30 (.tmp 3) rfl w.heap.size rfl 30 #[.slice A nf ca, .slice B q cb] (0, 0) _ HBC.out Try.underlying30 rfl (disk_in _ _) ?_)
      obtain ⟨g, hg⟩ : ∃ g, w.heap.size = g := ⟨_, rfl⟩
      have HG := Lib.hid hg
      rw [hg] at HVC h1 z1 ⊢
      clear hg HBC h1 z1 ht HT
      clear HV
      generalize (w.alloc (.cells #[.slice A nf ca, .slice B q cb] 30)).alloc (.cells #[.slice none 0 0, .slice none 0 0] 30) = w1 at HVC ⊢
      refine (HC.out _ HVC.out.ext).mono ?_
      rintro e v1 ⟨hx2, f, l, rfl, hmf, hml, hsp⟩
      obtain ⟨Bf, cf, rfl, _, _⟩ := hmf.slice HSF.out
      obtain ⟨Bl, cl, rfl, _, _⟩ := hml.slice HSV.out
      rw [HTL.out] at hml hsp ⊢
      rw [hnf] at hmf hsp ⊢
      obtain ⟨hxv, hdk, hcell, hml2⟩ := HVC.out.cloned hx2 hmf hml HSF.out HSV.out hsp
      have HX2 := Lib.hid hxv
      have HD2 := Lib.hid hdk
      have HB2 := Lib.hid hcell
      have HML := Lib.hid hml2
      have hb1 := hx2.row HVC.out.b1
      have HBV := Lib.hid hb1
      have hin := disk_in (.slice Bf nf cf) (.slice Bl q cl)
      have hsz : (#[.slice A nf ca, .slice B q cb] : Array Value).size = (#[.slice Bf nf cf, .slice Bl q cl] : Array Value).size := rfl
      have hone := disk_one Bf Bl nf q cf cl
      clear hx2 hmf hml hsp hxv hdk hcell hb1 hml2
      go_wp2_with (with_reducible refine wpList_store_all rfl 30 (.tmp 3) (.tmp 19) rfl g _ #[.slice Bf nf cf, .slice Bl q cl] rfl rfl HBV.out hin hsz hone ?_)
      generalize v1.setRow g _ = v2 at HX2 HD2 HB2 HML ⊢
      go_wp2_with fail
      refine (jn_settle g _ _ _ _ F _ (g + 2) v2 HD2.out HLEN.out).mono ?_
      rintro e v3 ⟨rfl, ho3, v, hrow, hfv, hnd, hor⟩
      have hs2 : g + 2 ≤ v2.heap.size := HD2.out.lt
      have HX3 := Lib.hid (ho3.ext HX2.out (fun k hk => by
        rcases hk with rfl | e
        · rw [HG.out]; exact Nat.le_refl _
        · have := (HD2.out.fst.block k e).1; rw [HG.out]; omega))
      have HB3 := Lib.hid (ho3.row HB2.out (fun e => by
        rcases e with e | e
        · omega
        · have := (HD2.out.fst.block _ e).1; omega))
      have hrow3 : v3.heap[g]? = some (.cells #[v, .slice none 0 0] 30) := hrow
      have HRW := Lib.hid hrow3
      have hvb := fun q (hq : v.ownBlock = some q) => show g + 2 ≤ q from by
        rcases hor with e | e
        · rw [e] at hq; exact (HD2.out.fst.block q hq).1
        · have := e q hq; omega
      obtain ⟨B3, c3, rfl, _, _⟩ := hfv.slice
      have HVB := Lib.hid hvb
      have HFV := Lib.hid hfv
      obtain ⟨n3, hn3⟩ : ∃ n, (F ++ (L.take q)).length = n := ⟨_, rfl⟩
      rw [hn3] at HRW HVB HFV
      have hone3 := disk_one B3 none n3 0 c3 0
      have hin3 := disk_in (.slice B3 n3 c3) (.slice none 0 0)
      have hsz3 : (#[.slice none 0 0, .slice none 0 0] : Array Value).size = (#[.slice B3 n3 c3, .slice none 0 0] : Array Value).size := rfl
      clear ho3 hrow hrow3 hvb hor hfv hn3 hnd
      go_wp2_with (first | (with_reducible refine wpList_load_row rfl 30 (.tmp 3) rfl g rfl 30 #[.slice B3 n3 c3, .slice none 0 0] (0, 0) _ HRW.out Try.underlying30 rfl hin3 ?_) | (with_reducible refine wpList_store_all rfl 30 (.tmp 6) (.tmp 32) rfl (g + 1) _ #[.slice B3 n3 c3, .slice none 0 0] rfl rfl HB3.out hin3 hsz3 hone3 ?_))
      have hg5 := setRow_heap v3 (g + 1) _ #[.slice B3 n3 c3, .slice none 0 0] _ _ HB3.out
      have ho5 : Only (fun k => k = g + 1) v3 (v3.setRow (g + 1) #[.slice B3 n3 c3, .slice none 0 0]) := Only.of_grown (grown_block v3 _ _) (fun k e => by injection e with e; exact e.symm)
      refine bodyPost_ret (results_cell_row Try.results23 _ _ (g + 1) 30 _ (0, 0) _ rfl hg5 Try.underlying30 rfl (disk_in _ _)) rfl ?_
      refine ⟨ho5.ext HX3.out (fun k hk => by rw [hk, HG.out]; omega), _, _, rfl, (HFV.out.only ho5 fun k hk e => by have := HVB.out k hk; omega).lift (fun k hk => by have := HVB.out k hk; rw [HG.out]; omega), Fst.nil _ _, fun q _ hq => by cases hq⟩
    · skip
      obtain ⟨m, hm⟩ : ∃ m, q = m + 1 := ⟨q - 1, by omega⟩
      have hlt : crs L (kept k nl) x = (L.take q).set m (co L m ^^^ x) := by
        rw [hkq, show min q nl = m + 1 from by omega, crs_some, hm, set_last L m _ (by omega)]
      have eV : Value.int .i64 (wrap64 ((q : Int) - 1)) = Value.int .i64 (m : Int) := by
        rw [show (q : Int) - 1 = (m : Int) from by omega, w64_few m (by omega)]
      have hmI : (m : Int) < (q : Int) := by omega
      have hmI0 : (0 : Int) ≤ (m : Int) := by omega
      have d1 : decide ((0 : Int) < (q : Int)) = true := decide_eq_true (by omega)
      have hV0 : (0 : Int) < (q : Int) := by omega
      have ex := u8_xor_nat (co L m) x (HSL.out m) hx
      have HM := Lib.hid hm
      have HAR := Lib.hid (And.intro eV (And.intro hmI (And.intro hmI0 ex)))
      clear eV hmI hmI0 ex
      rw [hlt]
      have HLEN := Lib.hid (show F.length + ((L.take q).set m (co L m ^^^ x)).length ≤ 1099511627776 from by simp; omega)
      have HSV := Lib.hid (show Sm (L.take q) from sm12_take HSL.out _)
      have HTL := Lib.hid (show (L.take q).length = q from by rw [List.length_take]; omega)
      have HC := Lib.hid (fun W (h : Ext w W) => HC0.out q (by omega) W h)
      have ht := run_to_u8 B nl cb q (by omega)
      have HT := Lib.hid ht
      clear hcb hll hfl hkq hlt HC0 hV hm
      go_enter Try.func23, Try.ntmps23
      have HVC := Lib.hid (vars_of w A B nf ca q cb)
      have HBC := Lib.hid HVC.out.b1
      clear ht
      have ht := HT.out
      go_wp2_with (with_reducible refine wpList_load_row rfl 30 (.tmp 3) rfl w.heap.size rfl 30 #[.slice A nf ca, .slice B q cb] (0, 0) _ HBC.out Try.underlying30 rfl (disk_in _ _) ?_)
      obtain ⟨g, hg⟩ : ∃ g, w.heap.size = g := ⟨_, rfl⟩
      have HG := Lib.hid hg
      rw [hg] at HVC h1 z1 ⊢
      clear hg HBC h1 z1 ht HT
      clear HV
      generalize (w.alloc (.cells #[.slice A nf ca, .slice B q cb] 30)).alloc (.cells #[.slice none 0 0, .slice none 0 0] 30) = w1 at HVC ⊢
      refine (HC.out _ HVC.out.ext).mono ?_
      rintro e v1 ⟨hx2, f, l, rfl, hmf, hml, hsp⟩
      obtain ⟨Bf, cf, rfl, _, _⟩ := hmf.slice HSF.out
      obtain ⟨Bl, cl, rfl, _, _⟩ := hml.slice HSV.out
      rw [HTL.out] at hml hsp ⊢
      rw [hnf] at hmf hsp ⊢
      obtain ⟨hxv, hdk, hcell, hml2⟩ := HVC.out.cloned hx2 hmf hml HSF.out HSV.out hsp
      have HX2 := Lib.hid hxv
      have HD2 := Lib.hid hdk
      have HB2 := Lib.hid hcell
      have HML := Lib.hid hml2
      have hb1 := hx2.row HVC.out.b1
      have HBV := Lib.hid hb1
      have hin := disk_in (.slice Bf nf cf) (.slice Bl q cl)
      have hsz : (#[.slice A nf ca, .slice B q cb] : Array Value).size = (#[.slice Bf nf cf, .slice Bl q cl] : Array Value).size := rfl
      have hone := disk_one Bf Bl nf q cf cl
      clear hx2 hmf hml hsp hxv hdk hcell hb1 hml2
      obtain ⟨v2, hv2⟩ : ∃ v, v1.setRow g #[.slice Bf nf cf, .slice Bl q cl] = v := ⟨_, rfl⟩
      have HV2 := Lib.hid hv2
      rw [hv2] at HX2 HD2 HB2 HML
      clear hv2
      obtain ⟨gl, hgl, hcl2, zl⟩ : ∃ gl, Bl = some ⟨gl, 0, none⟩ ∧ v2.cell? ⟨gl, m, none⟩ = some (.int .u8 ((co L m : Nat) : Int)) ∧ v2.frozen? ⟨gl, m, none⟩ = false := by
        obtain ⟨gl, o, c, e, hc, hlc⟩ := HML.out.spot HSV.out (i := m) (by have := HM.out; rw [HTL.out]; omega)
        injection e with e1 e2 e3
        refine ⟨gl, ?_, ?_, hlc⟩
        · rw [e1]
        · rw [hc]
          congr 3
          exact co12_take L _ m (by have := HM.out; omega)
      subst hgl
      have k1 := HD2.out.two.2
      clear hq hc hcI
      obtain ⟨eV, hmI, hmI0, ex⟩ := HAR.out
      go_wp2_with (with_reducible refine wpList_store_all rfl 30 (.tmp 3) (.tmp 19) rfl g _ #[.slice Bf nf cf, .slice (some ⟨gl, 0, none⟩) q cl] rfl rfl HBV.out hin hsz hone ?_; rw [HV2.out])
      have HD3 := Lib.hid (HD2.out.torn HML.out (i := m) (x := co L m ^^^ x) (by have := HM.out; rw [HTL.out]; omega) (Nat.xor_lt_two_pow (n := 8) (HSL.out m) hx))
      have HX3' := Lib.hid (show Ext w (v2.setCell ⟨gl, m, none⟩ (.int .u8 ((co L m ^^^ x : Nat) : Int))) from HX2.out.setCell (by have := (HML.out.block gl rfl).1; rw [HG.out]; show g ≤ gl; omega) _)
      have HB3' := Lib.hid (show (v2.setCell ⟨gl, m, none⟩ (.int .u8 ((co L m ^^^ x : Nat) : Int))).heap[g + 1]? = _ from (heap_setCell_other v2 _ _ _ (by have := (HML.out.block gl rfl).1; show g + 1 ≠ gl; omega)).trans HB2.out)
      generalize v2.setCell _ _ = v2' at HD3 HX3' HB3' ⊢
      refine (jn_settle g _ _ _ _ F _ (g + 2) v2' HD3.out HLEN.out).mono ?_
      rintro e v3 ⟨rfl, ho3, v, hrow, hfv, hnd, hor⟩
      have hs2 : g + 2 ≤ v2'.heap.size := HD3.out.lt
      have HX3 := Lib.hid (ho3.ext HX3'.out (fun k hk => by
        rcases hk with rfl | e
        · rw [HG.out]; exact Nat.le_refl _
        · have := (HD3.out.fst.block k e).1; rw [HG.out]; omega))
      have HB3 := Lib.hid (ho3.row HB3'.out (fun e => by
        rcases e with e | e
        · omega
        · have := (HD3.out.fst.block _ e).1; omega))
      have hrow3 : v3.heap[g]? = some (.cells #[v, .slice none 0 0] 30) := hrow
      have HRW := Lib.hid hrow3
      have hvb := fun q (hq : v.ownBlock = some q) => show g + 2 ≤ q from by
        rcases hor with e | e
        · rw [e] at hq; exact (HD3.out.fst.block q hq).1
        · have := e q hq; omega
      obtain ⟨B3, c3, rfl, _, _⟩ := hfv.slice
      have HVB := Lib.hid hvb
      have HFV := Lib.hid hfv
      obtain ⟨n3, hn3⟩ : ∃ n, (F ++ ((L.take q).set m (co L m ^^^ x))).length = n := ⟨_, rfl⟩
      rw [hn3] at HRW HVB HFV
      have hone3 := disk_one B3 none n3 0 c3 0
      have hin3 := disk_in (.slice B3 n3 c3) (.slice none 0 0)
      have hsz3 : (#[.slice none 0 0, .slice none 0 0] : Array Value).size = (#[.slice B3 n3 c3, .slice none 0 0] : Array Value).size := rfl
      clear ho3 hrow hrow3 hvb hor hfv hn3 hnd
      go_wp2_with (first | (with_reducible refine wpList_load_row rfl 30 (.tmp 3) rfl g rfl 30 #[.slice B3 n3 c3, .slice none 0 0] (0, 0) _ HRW.out Try.underlying30 rfl hin3 ?_) | (with_reducible refine wpList_store_all rfl 30 (.tmp 6) (.tmp 32) rfl (g + 1) _ #[.slice B3 n3 c3, .slice none 0 0] rfl rfl HB3.out hin3 hsz3 hone3 ?_))
      have hg5 := setRow_heap v3 (g + 1) _ #[.slice B3 n3 c3, .slice none 0 0] _ _ HB3.out
      have ho5 : Only (fun k => k = g + 1) v3 (v3.setRow (g + 1) #[.slice B3 n3 c3, .slice none 0 0]) := Only.of_grown (grown_block v3 _ _) (fun k e => by injection e with e; exact e.symm)
      refine bodyPost_ret (results_cell_row Try.results23 _ _ (g + 1) 30 _ (0, 0) _ rfl hg5 Try.underlying30 rfl (disk_in _ _)) rfl ?_
      refine ⟨ho5.ext HX3.out (fun k hk => by rw [hk, HG.out]; omega), _, _, rfl, (HFV.out.only ho5 fun k hk e => by have := HVB.out k hk; omega).lift (fun k hk => by have := HVB.out k hk; rw [HG.out]; omega), Fst.nil _ _, fun q _ hq => by cases hq⟩
end Go.Proofs.Ytfbnckecfapakaa

/-
  What a log is in memory, and what Fast, Append and Sync do. Conditions: no more than 2^16 bytes.
-/
namespace Go.Proofs.Ytfbnckecfapakaa
open Go.RowKit
open Pol (co Sm)

/-- A log at block lb, all whose blocks are of X. -/
def LgI (X : Nat → Prop) (lb : Nat) (w : World) (R : List (List Nat)) (k : Nat) : Prop :=
  ∃ f l, Dk lb #[f, l, .int .i64 (R.length : Int), .int .i64 (k : Int)] 60 f l (fl (R.take k)) (fl (R.drop k)) 0 w ∧ X lb ∧ (∀ q, f.ownBlock = some q → X q) ∧ (∀ q, l.ownBlock = some q → X q) ∧ Lok R k
theorem Dk.stay {d : Nat} {C : Array Value} {ty : TypeId} {f l : Value} {F L : List Nat} {base : Nat} {w w' : World} (h : Dk d C ty f l F L base w) (hd : w'.heap[d]? = w.heap[d]?) (hf : ∀ q, f.ownBlock = some q → w'.heap[q]? = w.heap[q]?) (hl : ∀ q, l.ownBlock = some q → w'.heap[q]? = w.heap[q]?) (hs : w.heap.size ≤ w'.heap.size) : Dk d C ty f l F L base w' where
  row := hd.trans h.row
  f0 := h.f0
  l1 := h.l1
  fst := h.fst.stay hf
  lst := h.lst.stay hl
  sp := h.sp
  nf := h.nf
  nl := h.nl
  lt := Nat.le_trans h.lt hs
theorem Dk.ext {d : Nat} {C : Array Value} {ty : TypeId} {f l : Value} {F L : List Nat} {base : Nat} {w w' : World} (h : Dk d C ty f l F L base w) (hx : Ext w w') : Dk d C ty f l F L base w' :=
  h.stay (hx.below.block d (row_lt h.row)) (fun q hq => hx.below.block q (h.fst.block q hq).2) (fun q hq => hx.below.block q (h.lst.block q hq).2) hx.size
theorem LgI.keep {X : Nat → Prop} {lb : Nat} {w w' : World} {R : List (List Nat)} {k : Nat} (h : LgI X lb w R k) (hk : ∀ b, X b → w'.heap[b]? = w.heap[b]?) (hs : w.heap.size ≤ w'.heap.size) : LgI X lb w' R k := by
  obtain ⟨f, l, h1, h2, h3, h4, h5⟩ := h
  exact ⟨f, l, h1.stay (hk _ h2) (fun q hq => hk q (h3 q hq)) (fun q hq => hk q (h4 q hq)) hs, h2, h3, h4, h5⟩
theorem LgI.mono {X Y : Nat → Prop} {lb : Nat} {w : World} {R : List (List Nat)} {k : Nat} (h : LgI X lb w R k) (hxy : ∀ b, X b → Y b) : LgI Y lb w R k := by
  obtain ⟨f, l, h1, h2, h3, h4, h5⟩ := h
  exact ⟨f, l, h1, hxy _ h2, fun q hq => hxy q (h3 q hq), fun q hq => hxy q (h4 q hq), h5⟩
theorem LgI.lok {X : Nat → Prop} {lb : Nat} {w : World} {R : List (List Nat)} {k : Nat} (h : LgI X lb w R k) : Lok R k := by
  obtain ⟨_, _, _, _, _, _, h5⟩ := h
  exact h5
theorem LgI.ext {X : Nat → Prop} {lb : Nat} {w w' : World} {R : List (List Nat)} {k : Nat} (h : LgI X lb w R k) (hx : Ext w w') : LgI (Nw X w w') lb w' R k := by
  obtain ⟨f, l, h1, h2, h3, h4, h5⟩ := h
  exact ⟨f, l, h1.ext hx, .inl h2, fun q hq => .inl (h3 q hq), fun q hq => .inl (h4 q hq), h5⟩
theorem v64_few (z : Int) (m : Nat) (hz : z = (m : Int)) (h : m ≤ 1099511627776) : Value.int .i64 (wrap64 z) = Value.int .i64 (m : Int) := by
  subst hz
  congr 1
  unfold wrap64
  omega
theorem fl_one12 (R : List (List Nat)) (t : List Nat) : fl (R ++ [t]) = fl R ++ fr t := by
  rw [fl_app]
  congr 1
  unfold fl
  simp
/-- Each frame takes a byte at least. -/
theorem few_fl : ∀ R : List (List Nat), R.length ≤ (fl R).length
  | [] => Nat.le_refl _
  | t :: R => by
    have := few_fl R
    rw [fl_cons, List.length_append, fr_len, List.length_cons]
    omega
theorem fl_parts (R : List (List Nat)) (k : Nat) : fl (R.take k) ++ fl (R.drop k) = fl R := by rw [← fl_app, List.take_append_drop]
theorem fl_parts_le (R : List (List Nat)) (k : Nat) : (fl (R.take k)).length ≤ (fl R).length ∧ (fl (R.drop k)).length ≤ (fl R).length ∧ (fl (R.take k)).length + (fl (R.drop k)).length = (fl R).length := by
  have h := congrArg List.length (fl_parts R k)
  rw [List.length_append] at h
  omega

set_option maxHeartbeats 800000 in
theorem jn_fast (X : Nat → Prop) (lb : Nat) (R : List (List Nat)) (k : Nat) (w : World) (h : LgI X lb w R k) :
    Calls Try.prog 26 #[.pointer (some ⟨lb, 0, none⟩)] w (Tells (.int .i64 (k : Int)) w) := by
  obtain ⟨f, l, h1, _⟩ := h
  have c3 : w.cell? ⟨lb, 3, none⟩ = some (.int .i64 (k : Int)) := by rw [cell_of_row w lb 3 _ _ _ h1.row]; rfl
  clear h1
  go_enter Try.func26, Try.ntmps26
  go_wp2
  go_ret
  exact ⟨rfl, Ext.refl _⟩
theorem jn_nfast (w : World) : Calls Try.prog 26 #[.pointer none] w (Tells (.int .i64 0) w) := by
  go_enter Try.func26, Try.ntmps26
  go_wp2
  go_ret
  exact ⟨rfl, Ext.refl _⟩
theorem jn_nappend (a : Value) (w : World) : Calls Try.prog 17 #[.pointer none, a] w (Tells (.int .i64 1) w) := by
  go_enter Try.func17, Try.ntmps17
  go_wp2
  go_ret
  exact ⟨rfl, Ext.refl _⟩
theorem jn_ncompact (a : Value) (w : World) : Calls Try.prog 21 #[.pointer none, a] w (Tells (.int .i64 1) w) := by
  go_enter Try.func21, Try.ntmps21
  go_wp2
  go_ret
  exact ⟨rfl, Ext.refl _⟩
theorem jn_nsync (w : World) : Calls Try.prog 19 #[.pointer none] w (fun e w' => e = .returned (.tuple #[]) ∧ Ext w w') := by
  go_enter Try.func19, Try.ntmps19
  go_wp2
  refine bodyPost_ret (results_none rfl _ _ _) rfl ?_
  exact ⟨rfl, Ext.refl _⟩
theorem jn_nrecords (w : World) : Calls Try.prog 16 #[.pointer none] w (Tells (.slice none 0 0) w) := by
  go_enter Try.func16, Try.ntmps16
  go_wp2
  go_ret
  exact ⟨rfl, Ext.refl _⟩

set_option maxHeartbeats 1600000 in
set_option maxRecDepth 100000 in
theorem jn_append (X : Nat → Prop) (lb : Nat) (R : List (List Nat)) (k : Nat) (t : List Nat) (A : Option Addr) (c : Nat) (w : World) (h : LgI X lb w R k) (hr : Rd w A t) (hlen : (fl R).length ≤ 65536) :
    Calls Try.prog 17 #[.pointer (some ⟨lb, 0, none⟩), .slice A t.length c] w (Puts LgI X lb R k t (R ++ [t]) k w) := by
  unfold Puts
  have HF := Lib.hid (cr_frame t A c w hr)
  have HI := Lib.hid h
  obtain ⟨f, l, hd, hX, hXf, hXl, hok⟩ := h
  have HD := Lib.hid hd
  have HXX := Lib.hid (And.intro hX (And.intro hXf hXl))
  have HOK := Lib.hid hok
  have HST := Lib.hid hr.1
  have hpl := fl_parts_le R k
  have HPL := Lib.hid (show (fl (R.drop k)).length ≤ 65536 ∧ R.length ≤ 65536 from ⟨by omega, Nat.le_trans (few_fl R) hlen⟩)
  have HEX := Lib.hid (fun W B cb (b : List Nat) (hW : Dk lb #[f, l, .int .i64 (R.length : Int), .int .i64 (k : Int)] 60 f l (fl (R.take k)) (fl (R.drop k)) 0 W) (hb : Rd W B b) (hbl : b.length ≤ 2000) => jn_extend lb _ 60 f l (fl (R.take k)) (fl (R.drop k)) b 0 B cb W hW hb (by have := HPL.out.1; omega))
  obtain ⟨nt, hnt⟩ : ∃ n, t.length = n := ⟨_, rfl⟩
  have HNT := Lib.hid hnt
  rw [hnt] at HF ⊢
  clear hr hlen hd hX hXf hXl hok hpl hnt
  go_enter Try.func17, Try.ntmps17
  go_wp2_with fail
  refine HF.out.mono ?_
  rintro e w1 ⟨hx1, (⟨hfo, v, rfl, B, cb, rfl, hcb, hrb, _⟩ | ⟨hno, B, cb, rfl⟩)⟩
  · have HD1 := Lib.hid (HD.out.ext hx1)
    have HX1 := Lib.hid hx1
    have HRB := Lib.hid hrb
    have HFO := Lib.hid hfo
    have hfl : (fr t).length ≤ 2000 := by have := hfo.2; rw [fr_len]; omega
    have HE1 := Lib.hid (HEX.out w1 B cb (fr t) HD1.out hrb hfl)
    obtain ⟨nf, hnf⟩ : ∃ n, (fr t).length = n := ⟨_, rfl⟩
    rw [hnf] at HE1 ⊢
    clear hx1 hrb hfo hfl hnf hcb
    go_wp2_with fail
    refine HE1.out.mono ?_
    rintro e w2 ⟨rfl, ho, v, hrow, hff, hvv, hsp, hnd, hor⟩
    have hrow2 : w2.heap[lb]? = some (.cells #[f, v, .int .i64 (R.length : Int), .int .i64 (k : Int)] 60) := hrow
    have c2 : w2.cell? ⟨lb, 2, none⟩ = some (.int .i64 (R.length : Int)) := by rw [cell_of_row w2 lb 2 _ _ _ hrow2]; rfl
    have z2 := frozen_of_row w2 lb 2 _ _ hrow2
    have HRW := Lib.hid hrow2
    have HO := Lib.hid ho
    have HV := Lib.hid (And.intro hff (And.intro hvv (And.intro hsp (And.intro hnd hor))))
    have ev := v64_few ((R.length : Int) + 1) (R.length + 1) (by omega) (by have := HPL.out.2; omega)
    clear hrow hrow2 ho hff hvv hsp hnd hor
    go_wp2
    go_ret
    obtain ⟨hff, hvv, hsp, hnd, hor⟩ := HV.out
    obtain ⟨hX, hXf, hXl⟩ := HXX.out
    have o3 : Only (fun j => j = lb) w2 (w2.setCell ⟨lb, 2, none⟩ (.int .i64 ((R.length : Int) + 1))) := Only.of_grown (grown_set w2 lb 2 _) (fun q e => by injection e with e; exact e.symm)
    have o1 : Only X w (w2.setCell ⟨lb, 2, none⟩ (.int .i64 ((R.length : Int) + 1))) := ((Only.of_ext HX1.out).trans (HO.out.mono fun j _ hj => by
      rcases hj with rfl | e
      · exact hX
      · exact hXl j e)).trans (o3.mono fun j _ hj => by rw [hj]; exact hX)
    refine ⟨o1, .inl ⟨HFO.out, rfl, f, v, ⟨?_, rfl, rfl, ?_, ?_, hsp, HD.out.nf, hnd, Nat.zero_le _⟩, .inl hX, fun q hq => .inl (hXf q hq), fun q hq => ?_, ⟨fun u hu => ?_, by rw [List.length_append]; have := HOK.out.le; omega⟩⟩⟩
    · have h := heap_setCell_same w2 lb 2 _ _ (.int .i64 ((R.length : Int) + 1)) HRW.out
      rw [h, show (((R ++ [t]).length : Nat) : Int) = (R.length : Int) + 1 from by simp]
      rfl
    · rw [List.take_append_of_le_length HOK.out.le]
      exact hff.only o3 fun q hq e => HD.out.nf (by rw [← e]; exact hq)
    · rw [List.drop_append_of_le_length HOK.out.le, fl_one12]
      exact hvv.only o3 fun q hq e => hnd (by rw [← e]; exact hq)
    · rcases hor with e | e
      · exact .inl (hXl q (e ▸ hq))
      · exact .inr ⟨Nat.le_trans HX1.out.size (e q hq), Nat.lt_of_lt_of_le (hvv.block q hq).2 o3.size⟩
    · rcases List.mem_append.1 hu with h | h
      · exact HOK.out.ok u h
      · rw [List.mem_singleton.1 h]; exact ⟨HFO.out, HST.out⟩
  · have HX1 := Lib.hid hx1
    have HNO := Lib.hid hno
    clear hx1 hno
    go_wp2
    go_ret
    exact ⟨Only.of_ext HX1.out, .inr ⟨HNO.out, rfl, HI.out.ext HX1.out⟩⟩
end Go.Proofs.Ytfbnckecfapakaa

/-
  What a log's Sync and Compact do. Conditions: no more than 2^16 bytes.
-/
namespace Go.Proofs.Ytfbnckecfapakaa
open Go.RowKit
open Pol (co Sm)

theorem log_in (a b c d : Value) : (Try.prog.info? 60).map (·.size) = some (#[a, b, c, d] : Array Value).size := by kernel_rfl
theorem log_one (B1 B2 : Option Addr) (n1 n2 c1 c2 : Nat) (i j : Int) : (#[Value.slice B1 n1 c1, .slice B2 n2 c2, .int .i64 i, .int .i64 j] : Array Value).all (·.oneCell') = true := by simp [Value.oneCell']

set_option maxHeartbeats 1600000 in
set_option maxRecDepth 100000 in
theorem jn_lsync (X : Nat → Prop) (lb : Nat) (R : List (List Nat)) (k : Nat) (w : World) (h : LgI X lb w R k) (hlen : (fl R).length ≤ 65536) :
    Calls Try.prog 19 #[.pointer (some ⟨lb, 0, none⟩)] w (fun e w' => e = .returned (.tuple #[]) ∧ Only X w w' ∧ LgI (Nw X w w') lb w' R R.length) := by
  obtain ⟨f, l, hd, hX, hXf, hXl, hok⟩ := h
  have HD := Lib.hid hd
  have HXX := Lib.hid (And.intro hX (And.intro hXf hXl))
  have HOK := Lib.hid hok
  have hpl := fl_parts_le R k
  have HS := Lib.hid (jn_settle lb _ _ _ _ _ _ 0 w hd (by omega))
  clear hlen hd hX hXf hXl hok hpl
  go_enter Try.func19, Try.ntmps19
  go_wp2_with fail
  refine HS.out.mono ?_
  unfold Settled
  rw [fl_parts]
  rintro e w2 ⟨rfl, ho, v, hrow, hvv, hnd, hor⟩
  have hrow2 : w2.heap[lb]? = some (.cells #[v, .slice none 0 0, .int .i64 (R.length : Int), .int .i64 (k : Int)] 60) := hrow
  have c2 : w2.cell? ⟨lb, 2, none⟩ = some (.int .i64 (R.length : Int)) := by rw [cell_of_row w2 lb 2 _ _ _ hrow2]; rfl
  have c3 : w2.cell? ⟨lb, 3, none⟩ = some (.int .i64 (k : Int)) := by rw [cell_of_row w2 lb 3 _ _ _ hrow2]; rfl
  have z3 := frozen_of_row w2 lb 3 _ _ hrow2
  have HRW := Lib.hid hrow2
  have HO := Lib.hid ho
  have HV := Lib.hid (And.intro hvv (And.intro hnd hor))
  clear hrow hrow2 ho hvv hnd hor
  go_wp2
  refine bodyPost_end (results_none rfl _ _ _) rfl ?_
  obtain ⟨hvv, hnd, hor⟩ := HV.out
  obtain ⟨hX, hXf, hXl⟩ := HXX.out
  have o3 : Only (fun j => j = lb) w2 (w2.setCell ⟨lb, 3, none⟩ (.int .i64 (R.length : Int))) := Only.of_grown (grown_set w2 lb 3 _) (fun q e => by injection e with e; exact e.symm)
  refine ⟨rfl, (HO.out.mono fun j _ hj => by
    rcases hj with rfl | e
    · exact hX
    · exact hXf j e).trans (o3.mono fun j _ hj => by rw [hj]; exact hX), v, .slice none 0 0, ⟨?_, rfl, rfl, ?_, ?_, fun q _ hq => (by cases hq), hnd, fun e => (by cases e), Nat.zero_le _⟩, .inl hX, fun q hq => ?_, fun q hq => (by cases hq), ⟨HOK.out.ok, Nat.le_refl _⟩⟩
  · exact heap_setCell_same w2 lb 3 _ _ (.int .i64 (R.length : Int)) HRW.out
  · rw [List.take_length]
    exact hvv.only o3 fun q hq e => hnd (by rw [← e]; exact hq)
  · rw [List.drop_length]
    exact Fst.nil _ _
  · rcases hor with e | e
    · exact .inl (hXf q (e ▸ hq))
    · exact .inr ⟨e q hq, Nat.lt_of_lt_of_le (hvv.block q hq).2 o3.size⟩

set_option maxHeartbeats 1600000 in
set_option maxRecDepth 100000 in
theorem jn_compact (X : Nat → Prop) (lb : Nat) (R : List (List Nat)) (k : Nat) (t : List Nat) (A : Option Addr) (c : Nat) (w : World) (h : LgI X lb w R k) (hr : Rd w A t) :
    Calls Try.prog 21 #[.pointer (some ⟨lb, 0, none⟩), .slice A t.length c] w (Puts LgI X lb R k t [t] 1 w) := by
  unfold Puts
  have HF := Lib.hid (cr_frame_m t A c w hr)
  unfold FrameE at HF
  have HI := Lib.hid h
  obtain ⟨f, l, hd, hX, _⟩ := h
  have HD := Lib.hid hd.row
  have HXX := Lib.hid hX
  have HST := Lib.hid hr.1
  obtain ⟨Bf, cf, e1, _⟩ := hd.fst.slice
  obtain ⟨Bl, cl, e2, _⟩ := hd.lst.slice
  obtain ⟨nt, hnt⟩ : ∃ n, t.length = n := ⟨_, rfl⟩
  rw [hnt] at HF ⊢
  clear hr hd hX hnt
  go_enter Try.func21, Try.ntmps21
  go_wp2_with fail
  refine HF.out.mono ?_
  rintro e w1 ⟨hx1, (⟨hfo, v, rfl, hm⟩ | ⟨hno, B, cb, rfl⟩)⟩
  · obtain ⟨B, cb, rfl, _, _⟩ := hm.slice (fr_sm HST.out hfo)
    have HX1 := Lib.hid hx1
    have HFO := Lib.hid hfo
    have HM := Lib.hid hm
    have HRW := Lib.hid (hx1.row HD.out)
    obtain ⟨nf, hnf⟩ : ∃ n, (fr t).length = n := ⟨_, rfl⟩
    rw [hnf] at HM ⊢
    have hin := log_in (.slice B nf cb) (.slice none 0 0) (.int .i64 1) (.int .i64 1)
    have hsz : (#[f, l, .int .i64 (R.length : Int), .int .i64 (k : Int)] : Array Value).size = (#[.slice B nf cb, .slice none 0 0, .int .i64 1, .int .i64 1] : Array Value).size := rfl
    have hone := log_one B none nf 0 cb 0 1 1
    clear hx1 hfo hm hnf
    go_wp2_with (with_reducible refine wpList_store_all rfl 60 (.tmp 21) (.tmp 20) rfl lb _ #[.slice B nf cb, .slice none 0 0, .int .i64 1, .int .i64 1] rfl rfl HRW.out hin hsz hone ?_)
    go_ret
    have ho : Only (fun j => j = lb) w1 (w1.setRow lb #[.slice B nf cb, .slice none 0 0, .int .i64 1, .int .i64 1]) := Only.of_grown (grown_block w1 lb _) (fun q e => by injection e with e; exact e.symm)
    have hlt := row_lt HD.out
    refine ⟨(Only.of_ext HX1.out).trans (ho.mono fun j _ hj => by rw [hj]; exact HXX.out), .inl ⟨HFO.out, rfl, .slice B nf cb, .slice none 0 0, ⟨?_, rfl, rfl, ?_, ?_, fun q _ hq => (by cases hq), fun e => ?_, fun e => (by cases e), Nat.zero_le _⟩, .inl HXX.out, fun q hq => .inr ?_, fun q hq => (by cases hq), ⟨fun u hu => ?_, Nat.le_refl _⟩⟩⟩
    · exact setRow_heap w1 lb _ _ _ _ HRW.out
    · have e1 : fl ([t].take 1) = fr t := by unfold fl; simp
      rw [e1]
      exact ((HM.out.fst (fr_sm HST.out HFO.out)).down (Nat.zero_le _)).only ho fun q hq e => by have := (HM.out.block q hq).1; omega
    · exact Fst.nil _ _
    · have := (HM.out.block lb e).1; omega
    · have h := HM.out.block q hq
      exact ⟨h.1, Nat.lt_of_lt_of_le h.2 ho.size⟩
    · rw [List.mem_singleton.1 hu]
      exact ⟨HFO.out, HST.out⟩
  · have HX1 := Lib.hid hx1
    have HNO := Lib.hid hno
    clear hx1 hno
    go_wp2
    go_ret
    exact ⟨Only.of_ext HX1.out, .inr ⟨HNO.out, rfl, HI.out.ext HX1.out⟩⟩
end Go.Proofs.Ytfbnckecfapakaa

/-
  What split of layer 9 does: the first frame's body, and what is behind it, in the memory of what came in. Conditions: no more than 2^16 bytes.
-/
namespace Go.Proofs.Ytfbnckecfapakaa
open Go.RowKit
open Pol (co Sm)

theorem i64_or9 (a b : Nat) (ha : a < 65536) (hb : b < 65536) : bits .or .i64 (a : Int) (b : Int) = ((a ||| b : Nat) : Int) := by
  have hx : a ||| b < 2 ^ 16 := Nat.or_lt_two_pow (by omega) (by omega)
  have h : ∀ c : Nat, c < 65536 → (BitVec.ofInt 64 (c : Int)).toNat = c := fun c hc => by
    rw [BitVec.ofInt_natCast, BitVec.toNat_ofNat]; exact Nat.mod_eq_of_lt (by omega)
  show IntKind.i64.wrap ((BitVec.ofInt 64 (a : Int) ||| BitVec.ofInt 64 (b : Int)).toNat : Int) = _
  rw [BitVec.toNat_or, h a ha, h b hb]
  exact IntWalk.i64_in _ (by omega)
theorem or_bytes (a b : Nat) (hb : b < 256) : a * 256 ||| b = a * 256 + b := by
  have h := Nat.two_pow_add_eq_or_of_lt (i := 8) (b := b) hb a
  rw [Nat.mul_comm a 256, ← h]
/-! ### Two arrays of six bytes -/
theorem mapM_some9 {α β : Type} {F : α → Option β} {G : α → β} : ∀ (l : List α), (∀ x ∈ l, F x = some (G x)) → l.mapM F = some (l.map G)
  | [], _ => rfl
  | x :: l, h => by
    rw [List.mapM_cons, h x (by simp), mapM_some9 l (fun y hy => h y (by simp [hy]))]
    rfl
theorem drop_one9 (l : List Value) (i : Nat) (h : i < l.length) : (l.drop i).take 1 = [l[i]] := by
  rw [List.drop_eq_getElem_cons h]; rfl
theorem cells6 : Try.prog.cellsOf 72 = 6 := by kernel_rfl
theorem cells_u8_9 : Try.prog.cellsOf 5 = 1 := by kernel_rfl
theorem lit_u8_9 (n : Nat) (h : n < 256) (d : Nat) : Try.prog.keyLits (d + 1) 5 [.int .u8 (n : Int)] = some [.int .u8 (n : Int)] := by
  have hw : (Lit.int .u8 (n : Int)).wf = true := by
    simp [Lit.wf, IntKind.min, IntKind.max, IntKind.signed, IntKind.bits]
    omega
  simp [Program.keyLits, Try.underlying5, hw]
theorem lits6 (l : List Nat) (hl : l.length = 6) (hs : Sm l) : Try.prog.keyLits 2 72 (bv l) = some (l.map fun x => [Lit.int .u8 ((x : Nat) : Int)]).flatten := by
  have hlen : (bv l).length = 6 := by rw [bv_len, hl]
  have hm : (List.range 6).mapM (fun i => Try.prog.keyLits 1 5 (((bv l).drop (i * 1)).take 1)) = some ((List.range 6).map fun i => [Lit.int .u8 ((co l i : Nat) : Int)]) := mapM_some9 _ fun i hi => by
    have hi := List.mem_range.1 hi
    rw [Nat.mul_one, drop_one9 _ i (by rw [hlen]; exact hi), show (bv l)[i]'(by rw [hlen]; exact hi) = .int .u8 ((co l i : Nat) : Int) from by
      have h := bv_at l i (by omega)
      rw [← Option.some_inj, ← List.getElem?_eq_getElem, ← h]]
    exact lit_u8_9 _ (hs i) 0
  have e : (List.range 6).map (fun i => [Lit.int .u8 ((co l i : Nat) : Int)]) = l.map fun x => [Lit.int .u8 ((x : Nat) : Int)] := by
    match l, hl with
    | [a, b, c, d, e, f], _ => rfl
  unfold Program.keyLits
  rw [Try.underlying72]
  simp only [cells6, cells_u8_9, hlen, if_true, hm, Option.map_some, e]
theorem flat_inj9 : ∀ (l m : List Nat), (l.map fun x => [Lit.int .u8 ((x : Nat) : Int)]).flatten = (m.map fun x => [Lit.int .u8 ((x : Nat) : Int)]).flatten ↔ l = m
  | [], [] => by simp
  | [], _ :: _ => by simp
  | _ :: _, [] => by simp
  | x :: l, y :: m => by
    have ih := flat_inj9 l m
    simp only [List.map_cons, List.flatten_cons, List.singleton_append, List.cons.injEq, Lit.int.injEq, true_and, ih]
    constructor
    · rintro ⟨h1, h2⟩; exact ⟨by omega, h2⟩
    · rintro ⟨h1, h2⟩; exact ⟨by omega, h2⟩
theorem eq6 (l m : List Nat) (hl : l.length = 6) (hm : m.length = 6) (hsl : Sm l) (hsm : Sm m) (w : World) : ∃ r : Bool, (Op.equalIn 10000 72 (.agg (bv l).toArray) (.agg (bv m).toArray)).run Try.prog w = .ok r w ∧ (r = true ↔ l = m) := by
  have hk : Try.prog.keyTypeAt 2 72 = true := by kernel_rfl
  have hform : ∀ h : List Nat, h.length = 6 → (Value.agg (bv h).toArray).formed Try.prog 72 = true := fun h hh => by
    simp [Value.formed, Try.underlying72, bv_len, hh, cells6]
  obtain ⟨r, h1, h2⟩ := run_equalIn_deep 9998 2 72 hk w 2 2 (.agg (bv l).toArray) (.agg (bv m).toArray) _ _ (hform l hl) (hform m hm) (lits6 l hl hsl) (lits6 m hm hsm)
  exact ⟨r, h1, h2.trans (flat_inj9 l m)⟩
/-- Six bytes, loaded as an array. -/
theorem load6 (w : World) (A : Option Addr) (t : List Nat) (hr : Rd w A t) (hl : t.length = 6) : (Instr.loadAt 72 (.pointer A)).run Try.prog w = .ok (.agg (bv t).toArray) w := by
  obtain ⟨b, o, rfl, _⟩ := hr.addr (by omega)
  have hc := run_loadCells_list (P := Try.prog) w ⟨b, o, none⟩ (bv t) (fun j v hv => by
    have hj : j < t.length := by
      have := (List.getElem?_eq_some_iff.1 hv).1
      rwa [bv_len] at this
    obtain ⟨b', o', e, hc⟩ := hr.2 j hj
    injection e with e
    rw [e, addr_add, hc, ← bv_at t j hj, hv])
  rw [bv_len, hl] at hc
  have hi := zero6
  cases hq : Try.prog.info? 72 with
  | none => simp [hq] at hi
  | some i =>
    rw [hq] at hi
    have hs : i.size = 6 := by simpa using hi
    simp [Instr.loadAt, Instr.sureAddr, loadVar, isAgg, run_underlying Try.underlying72, sizeOf, typeInfo, hq, hs, hc]
theorem take6 (x y : Nat) (l : List Nat) : (x :: y :: l).take 6 = x :: y :: l.take 4 := rfl
theorem head_same2 (x y : Nat) (l : List Nat) (n : Nat) (hy : y < 256) (hn : x * 256 + y = n) (t : List Nat) (ht : t.length = n) (C : List Nat) (hC : cbs (crcl t) = C) : (x :: y :: l).take 6 = hd6 t ↔ l.take 4 = C := by
  rw [take6]
  unfold hd6
  rw [ht, hC, show n / 256 = x by omega, show n % 256 = y by omega, List.cons.injEq, List.cons.injEq]
  exact ⟨fun h => h.2.2, fun h => ⟨rfl, rfl, h⟩⟩
theorem head_same (b : List Nat) (n : Nat) (h6 : 2 ≤ b.length) (hs : Sm b) (hn : co b 0 * 256 + co b 1 = n) (t : List Nat) (ht : t.length = n) : b.take 6 = hd6 t ↔ (b.drop 2).take 4 = cbs (crcl t) := by
  rcases b with _ | ⟨x, _ | ⟨y, l⟩⟩
  · simp at h6
  · simp at h6
  · exact head_same2 x y l n (sm_head (sm_tail hs)) hn t ht _ rfl
def After9 (u w : World) : Prop := Ext u w
/-- What split answers. -/
def SplitS (A : Option Addr) (b : List Nat) (w : World) (e : Ending) (w' : World) : Prop :=
  Ext w w' ∧ ((∃ t r X Y cx cy, nx b = .ok t r ∧ e = .returned (.tuple #[.slice X t.length cx, .slice Y r.length cy, .int .i64 0]) ∧ t.length ≤ cx ∧ r.length ≤ cy ∧ ∀ W, Rd W A b → Rd W X t ∧ Rd W Y r) ∨
    (∃ k, nx b = .er k ∧ e = .returned (.tuple #[.slice none 0 0, .slice none 0 0, .int .i64 (k : Int)])))

set_option maxHeartbeats 1600000 in
set_option maxRecDepth 100000 in
theorem cr_split (b : List Nat) (A : Option Addr) (ca : Nat) (w : World) (hr : Rd w A b) (hc : b.length ≤ ca) (hl : b.length ≤ 65536) :
    Calls Try.prog 38 #[.slice A b.length ca] w (SplitS A b w) := by
  by_cases h2 : b.length < 2
  · have HN := Lib.hid (show nx b = .er 2 from by unfold nx; rw [if_pos h2])
    have d1 : decide ((b.length : Int) < 2) = true := decide_eq_true (by omega)
    generalize b.length = L at *
    go_enter Try.func38, Try.ntmps38
    go_wp2
    go_ret3
    exact ⟨Ext.refl _, .inr ⟨2, HN.out, rfl⟩⟩
  · have h2' : 2 ≤ b.length := by omega
    obtain ⟨b0, o, rfl, hc0⟩ := hr.addr (by omega)
    have c0 := hc0 0 (by omega)
    have c1 := hc0 1 (by omega)
    rw [Nat.add_zero] at c0
    have hx256 := hr.1 0
    have hy256 := hr.1 1
    obtain ⟨n, hn⟩ : ∃ n, co b 0 * 256 + co b 1 = n := ⟨_, rfl⟩
    have HNC := Lib.hid (fun hf hl => nx_case (b := b) h2' hn hf hl)
    have HER1 := Lib.hid (show (n < 1 ∨ 1000 < n) → nx b = .er 14 from fun h => by unfold nx; rw [hn, if_neg h2, if_pos h])
    have HER2 := Lib.hid (show ¬ (n < 1 ∨ 1000 < n) → b.length < 6 + n → nx b = .er 2 from fun h h' => by unfold nx; rw [hn, if_neg h2, if_neg h, if_pos h'])
    have HHS := Lib.hid (fun t ht => head_same b n h2' hr.1 hn t ht)
    have HFN := Lib.hid (fun h W => cr_fits_no n h W)
    have HFY := Lib.hid (fun h1 h2 W => cr_fits_yes n h1 h2 W)
    obtain ⟨x, hx⟩ : ∃ x, co b 0 = x := ⟨_, rfl⟩
    obtain ⟨y, hy⟩ : ∃ y, co b 1 = y := ⟨_, rfl⟩
    rw [hx] at c0 hx256 hn
    rw [hy] at c1 hy256 hn
    obtain ⟨z, hz⟩ : ∃ z, x * 256 = z := ⟨_, rfl⟩
    have e1 : (x : Int) * 256 = (z : Int) := by omega
    have e2 : bits .or .i64 (z : Int) (y : Int) = (n : Int) := by
      rw [i64_or9 z y (by omega) (by omega), ← hz, or_bytes x y hy256, hn]
    have HR := Lib.hid hr
    have d1 : decide ((b.length : Int) < 2) = false := decide_eq_false (by omega)
    clear hc0 hr hx hy
    obtain ⟨L, hL⟩ : ∃ L, b.length = L := ⟨_, rfl⟩
    have HL := Lib.hid hL
    have hn1 : n < 65536 := by omega
    have hbnd : z < 65536 := by omega
    rw [hL] at HNC HER2 hc hl h2 h2' d1 ⊢
    clear hL hn hz
    go_enter Try.func38, Try.ntmps38
    go_wp2
    go_quiet (fail)
    by_cases hbad : n < 1 ∨ 1000 < n
    · have HE := Lib.hid (HER1.out hbad)
      have HFN2 := Lib.hid (HFN.out (by omega))
      go_wp2_with fail
      refine (HFN2.out _).mono ?_
      rintro e w1 ⟨rfl, rfl⟩
      go_wp2
      go_ret3
      exact ⟨(Ext.refl w).drewN nq, .inr ⟨14, HE.out, rfl⟩⟩
    · have HFY2 := Lib.hid (HFY.out (by omega) (by omega))
      obtain ⟨k, hk⟩ : ∃ k, 6 + n = k := ⟨_, rfl⟩
      have ek : 6 + (n : Int) = (k : Int) := by omega
      rw [hk] at HNC HER2
      go_wp2_with fail
      refine (HFY2.out _).mono ?_
      rintro e w1 ⟨rfl, rfl⟩
      by_cases hsh : L < k
      · have HE := Lib.hid (HER2.out hbad hsh)
        have d4 : decide ((L : Int) < (k : Int)) = true := decide_eq_true (by omega)
        go_wp2
        go_ret3
        exact ⟨(Ext.refl w).drewN nq, .inr ⟨2, HE.out, rfl⟩⟩
      · have d4 : decide ((L : Int) < (k : Int)) = false := decide_eq_false (by omega)
        have HE := Lib.hid (HNC.out (by omega) (by omega))
        have HT := Lib.hid (tab_cut b 6 n (by rw [HL.out]; omega))
        obtain ⟨T, hT⟩ : ∃ T, (b.drop 6).take n = T := ⟨_, rfl⟩
        have hTl : T.length = n := by rw [← hT, List.length_take, List.length_drop, HL.out]; omega
        rw [hT] at HE HT
        have HS := Lib.hid (HHS.out T hTl)
        obtain ⟨X, s1, hX⟩ := run_cut_u8 (some ⟨b0, o, none⟩) L ca 6 k (by omega) (by omega)
        have HXA := Lib.hid (show ∀ W, Rd W (some ⟨b0, o, none⟩) b → Rd W X T from fun W hW => by
          have h := hX W b hW (by rw [HL.out]; omega)
          rw [show k - 6 = n by omega, HT.out] at h
          exact h)
        have HXT := Lib.hid (HXA.out w HR.out)
        rw [show k - 6 = n by omega] at s1
        have s2 : ∀ W, (Instr.slice 22 (.slice (some ⟨b0, o, none⟩) L ca) (some (.int .i64 6)) (some (.int .i64 (k : Int))) none).run Try.prog W = .ok (.slice X n (ca - 6)) W := s1
        clear s1
        have HTL := Lib.hid hTl
        have HH := Lib.hid (fun W (h : Rd W X T) => show Calls Try.prog 42 #[.slice X n (ca - 6)] W (Tells (.agg (bv (hd6 T)).toArray) W) from by have h' := cr_header T X (ca - 6) W h (by rw [hTl]; omega); rw [show T.length / 256 :: T.length % 256 :: cbs (crcl T) = hd6 T from rfl, hTl] at h'; exact h')
        clear hX hT hTl HNC HER2 HER1
        have HRB := Lib.hid (show Rd w (some ⟨b0, o, none⟩) (b.take 6) from HR.out.take 6)
        have hl6 : (b.take 6).length = 6 := by rw [List.length_take, HL.out]; omega
        have HRE := Lib.hid (show ∃ Y, (∀ W, (Instr.slice 22 (.slice (some ⟨b0, o, none⟩) L ca) (some (.int .i64 (k : Int))) none none).run Try.prog W = .ok (.slice Y (L - k) (ca - k)) W) ∧ ∀ W, Rd W (some ⟨b0, o, none⟩) b → Rd W Y (b.drop k) from by
          obtain ⟨Y, s1, hY, _⟩ := run_rest_u8 (some ⟨b0, o, none⟩) L ca k (by omega) hc
          refine ⟨Y, s1, fun W hW => ?_⟩
          have h := hY W b hW HL.out
          have e := tab_drop9 b k (by rw [HL.out]; omega)
          rw [HL.out] at e
          rw [e] at h
          exact h)
        have hdl : (b.drop k).length = L - k := by rw [List.length_drop, HL.out]
        have hsT : Sm (hd6 T) := hd6_sm HXT.out.1 (by rw [HTL.out]; omega)
        have hs6 : Sm (b.take 6) := HRB.out.1
        obtain ⟨G6, hG6⟩ : ∃ G, hd6 T = G := ⟨_, rfl⟩
        obtain ⟨B6, hB6⟩ : ∃ B, b.take 6 = B := ⟨_, rfl⟩
        have hg6 : G6.length = 6 := by rw [← hG6]; rfl
        rw [hG6] at HH HS hsT
        rw [hB6] at HRB HS hl6 hs6
        obtain ⟨V1, hV1⟩ : ∃ V, (bv G6).toArray = V := ⟨_, rfl⟩
        obtain ⟨V2, hV2⟩ : ∃ V, (bv B6).toArray = V := ⟨_, rfl⟩
        obtain ⟨u, hu⟩ : ∃ u, w.drewN nq = u := ⟨_, rfl⟩
        have hxu : Ext w u := by rw [← hu]; exact (Ext.refl w).drewN nq
        have FH := Lib.hid (show ∀ W, After9 u W → Calls Try.prog 42 #[.slice X n (ca - 6)] W (fun e w' => e = .returned (.agg V1) ∧ After9 u w') from fun W hW => by
          have h := HH.out W (HXT.out.ext (hxu.trans hW))
          rw [hV1] at h
          exact h.mono fun _ _ h => ⟨h.1, Ext.trans hW h.2⟩)
        have FL := Lib.hid (show ∀ W, After9 u W → (Instr.loadAt 72 (.pointer (some ⟨b0, o, none⟩))).run Try.prog W = .ok (.agg V2) W from fun W hW => by
          have h := load6 W _ B6 (HRB.out.ext (hxu.trans hW)) hl6
          rw [hV2] at h
          exact h)
        have FA : ∀ W, (Instr.arrayAt 72 (.slice (some ⟨b0, o, none⟩) L ca)).run Try.prog W = .ok (.pointer (some ⟨b0, o, none⟩)) W := fun W => run_arrayAt W 72 _ 6 _ L ca Try.underlying72 (by omega)
        have FN := Lib.hid (show ∀ W, ∃ d : Bool, (Op.equalIn 10000 72 (.agg V1) (.agg V2)).run Try.prog W = .ok d W ∧ (d = true ↔ G6 = B6) from fun W => by
          have h := eq6 G6 B6 hg6 hl6 hsT hs6 W
          rw [hV1, hV2] at h
          exact h)
        have HXU := Lib.hid hxu
        have HDL := Lib.hid hdl
        rw [hu]
        clear hl6 hdl hsT hs6 hG6 hB6 hg6 hV1 hV2 hu hxu HH HRB
        by_cases hm : G6 = B6
        · have HOK := Lib.hid (HE.out.trans (if_pos (HS.out.1 hm.symm)))
          have HQ := Lib.hid (show ∀ W, (Op.equalIn 10000 72 (.agg V1) (.agg V2)).run Try.prog W = .ok true W from fun W => by
            obtain ⟨d, h1, h2⟩ := FN.out W
            rw [h1, h2.2 hm])
          have hq : ∀ W, (binOp .neq 72 (.agg V1) (.agg V2)).run Try.prog W = .ok (.bool false) W := fun W => by
            simp only [binOp]
            simp [Op.equal, Op.maxDepth, HQ.out W]
          clear hm
          go_wp2
          refine wp_region_quiet (C := After9 u) (by kernel_rfl) (by kernel_rfl) (show After9 u u.drew from (Ext.refl u).drew) ?_
          repeat (first
            | (refine wpQuiet_step (fun K hK => ?_); go_simp; refine ⟨_, fun _ _ => rfl, hK _ ?_⟩; clear hK K)
            | (refine wpQuiet_load rfl 72 (.tmp 35) rfl (.agg V2) (fun W hW => FL.out W hW) ?_)
            | (refine wpQuiet_step (fun K hK => ?_); go_simp; refine ⟨_, fun W hW => FH.out W hW, hK _ ?_⟩; clear hK K))
          refine wpQuiet_nil ?_
          intro u2 hu2
          have HX2 := Lib.hid (HXU.out.trans hu2)
          clear hu2
          obtain ⟨Y, s3, hY⟩ := HRE.out
          have HY := Lib.hid hY
          clear hY
          have hLk : k ≤ L := by omega
          go_wp2
          go_quiet (fail)
          go_wp2
          go_ret3
          exact ⟨HX2.out.drewN _, .inl ⟨T, b.drop k, X, Y, ca - 6, ca - k, HOK.out, by rw [HTL.out, HDL.out]; rfl, by rw [HTL.out]; omega, by rw [HDL.out]; omega, fun W hW => ⟨HXA.out W hW, HY.out W hW⟩⟩⟩
        · have HOK := Lib.hid (HE.out.trans (if_neg (fun h => hm (HS.out.2 h).symm)))
          have HQ := Lib.hid (show ∀ W, (Op.equalIn 10000 72 (.agg V1) (.agg V2)).run Try.prog W = .ok false W from fun W => by
            obtain ⟨d, h1, h2⟩ := FN.out W
            have hd : d = false := by
              cases d
              · rfl
              · exact absurd (h2.1 rfl) hm
            rw [h1, hd])
          have hq : ∀ W, (binOp .neq 72 (.agg V1) (.agg V2)).run Try.prog W = .ok (.bool true) W := fun W => by
            simp only [binOp]
            simp [Op.equal, Op.maxDepth, HQ.out W]
          clear hm
          go_wp2
          refine wp_region_quiet (C := After9 u) (by kernel_rfl) (by kernel_rfl) (show After9 u u.drew from (Ext.refl u).drew) ?_
          repeat (first
            | (refine wpQuiet_step (fun K hK => ?_); go_simp; refine ⟨_, fun _ _ => rfl, hK _ ?_⟩; clear hK K)
            | (refine wpQuiet_load rfl 72 (.tmp 35) rfl (.agg V2) (fun W hW => FL.out W hW) ?_)
            | (refine wpQuiet_step (fun K hK => ?_); go_simp; refine ⟨_, fun W hW => FH.out W hW, hK _ ?_⟩; clear hK K))
          refine wpQuiet_nil ?_
          intro u2 hu2
          have HX2 := Lib.hid (HXU.out.trans hu2)
          clear hu2
          go_wp2
          go_ret3
          exact ⟨HX2.out, .inr ⟨4, HOK.out, rfl⟩⟩
end Go.Proofs.Ytfbnckecfapakaa

/-
  What All of layer 9 does. Conditions: no more than 2^16 bytes.
-/
namespace Go.Proofs.Ytfbnckecfapakaa
open Go.RowKit
open Pol (co Sm)

/-! ### All -/
/-- A body: bytes that may be written, in a block that isn't the list's. -/
def BodE (base : Nat) (w : World) (row : Option Nat) (t : List Nat) (u : Value) : Prop := 0 < t.length ∧ OwnW base u w t ∧ ∀ b o n c, u = .slice (some ⟨b, o, none⟩) n c → some b ≠ row ∧ b < w.heap.size
theorem OwnW.keep {base : Nat} {w w' : World} {row : Option Nat} {t : List Nat} {u : Value} (h : OwnW base u w t) (hg : w.grownBy w' row) (hne : ∀ b o n c, u = .slice (some ⟨b, o, none⟩) n c → some b ≠ row ∧ b < w.heap.size) : OwnW base u w' t := by
  obtain ⟨B, c, rfl, hc, hr, hb⟩ := h
  refine ⟨B, c, rfl, hc, hr.keep hg (fun b o e _ => (hne b o _ c (by rw [e])).1), fun b o e ht => ?_⟩
  obtain ⟨h1, h2⟩ := hb b o e ht
  refine ⟨h1, fun i hi => ?_⟩
  obtain ⟨h3, h4⟩ := hne b o _ c (by rw [e])
  exact (World.frozen?_of_block (a := ⟨b, o + i, none⟩) (hg.block b h4 h3)).trans (h2 i hi)
theorem BodE.keep {base : Nat} {w w' : World} {row row' : Option Nat} {t : List Nat} {u : Value} (h : BodE base w row t u) (hg : w.grownBy w' row) (hrow : row' = row ∨ row' = some w.heap.size) : BodE base w' row' t u := by
  refine ⟨h.1, h.2.1.keep hg h.2.2, fun b o n c e => ?_⟩
  obtain ⟨h1, h2⟩ := h.2.2 b o n c e
  refine ⟨?_, Nat.lt_of_lt_of_le h2 hg.size⟩
  rcases hrow with e' | e'
  · rw [e']; exact h1
  · rw [e']; intro e2; injection e2 with e2; omega
/-- A list of bodies of a call's own. -/
def Bods (w : World) (base : Nat) (v : Value) (rows : List (List Nat)) : Prop := ∃ vs, w.ownsRow base 22 1 v rows.length vs ∧ ∀ i, i < rows.length → ∃ u, vs[i]? = some u ∧ BodE base w v.ownBlock (ro rows i) u
theorem Bods.nil (w : World) (base : Nat) : Bods w base (.slice none 0 0) [] := ⟨[], World.ownsRow_nil w base _ _, fun i hi => absurd hi (by simp)⟩
theorem Bods.ext {w w' : World} {base : Nat} {v : Value} {rows : List (List Nat)} (h : Bods w base v rows) (hx : Ext w w') : Bods w' base v rows := by
  obtain ⟨vs, hown, hv⟩ := h
  refine ⟨vs, World.ownsRow.kept hown (row := none) (hx.grown none) (by
    cases hb : v.ownBlock with
    | none => exact .inl rfl
    | some k => exact .inr (by simp)), fun i hi => ?_⟩
  obtain ⟨u, hu, he⟩ := hv i hi
  exact ⟨u, hu, he.keep (hx.grown _) (.inl rfl)⟩
theorem Bods.block {w : World} {base : Nat} {v : Value} {rows : List (List Nat)} (h : Bods w base v rows) : ∀ k, v.ownBlock = some k → base ≤ k ∧ k < w.heap.size := fun k hk => by
  obtain ⟨vs, hown, _⟩ := h
  exact World.ownsRow.lt hown k hk
theorem Bods.slice {w : World} {base : Nat} {v : Value} {rows : List (List Nat)} (h : Bods w base v rows) : ∃ R c, v = .slice R rows.length c ∧ rows.length ≤ c ∧
    ∀ i, i < rows.length → ∃ g o u, R = some ⟨g, o, none⟩ ∧ base ≤ g ∧ w.cell? ⟨g, o + i, none⟩ = some u ∧ OwnW base u w (ro rows i) ∧ (∀ b' o' n' c', u = .slice (some ⟨b', o', none⟩) n' c' → b' ≠ g) := by
  obtain ⟨vs, hown, hv⟩ := h
  rcases hown.2 with ⟨rfl, hn⟩ | ⟨g, cap, cur, rfl, hb, hg, hnc, _, _, htake⟩
  · have : rows = [] := List.eq_nil_of_length_eq_zero hn
    subst this
    exact ⟨none, 0, rfl, Nat.le_refl _, fun i hi => absurd hi (by simp)⟩
  · refine ⟨_, cap, rfl, hnc, fun i hi => ?_⟩
    obtain ⟨u, h1, h2⟩ := hv i hi
    refine ⟨g, 0, u, rfl, hb, ?_, h2.2.1, fun b' o' n' c' e e' => (h2.2.2 b' o' n' c' e).1 (by rw [e']; rfl)⟩
    rw [Nat.zero_add, cell_of_row w g i cur _ _ hg, ← h1, ← htake, List.getElem?_take, if_pos (by omega)]
    simp
set_option maxRecDepth 100000 in
theorem run_append_bod (w : World) (base : Nat) (ty : TypeId) (v : Value) (rows : List (List Nat)) (hown : Bods w base v rows) (t : List Nat) (u : Value) (hu : BodE base w v.ownBlock t u) (g : Nat) (hc : w.cell? ⟨g, 0, none⟩ = some u)
    (hlen : rows.length ≤ 1048576) (hbase : base ≤ w.heap.size) :
    ∃ v' w', (Builtin.append_ #[35, 35] ty #[v, .slice (some ⟨g, 0, none⟩) 1 1]).run Try.prog w = .ok v' w' ∧ Bods w' base v' (rows ++ [t]) ∧ w.grownBy w' v.ownBlock := by
  obtain ⟨i0, hi, hz0, hz1, hz2⟩ := info_parts row_info
  obtain ⟨vs, hv1, hv2⟩ := hown
  have hvl : vs.length = rows.length := by rw [hv1.1, Nat.mul_one]
  have hcells : ∀ j x, [u][j]? = some x → w.cell? ((⟨g, 0, none⟩ : Addr).add j) = some x := by
    intro j x hx
    match j, hx with
    | 0, hx =>
      rw [addr_add]
      simp only [List.getElem?_cons_zero, Option.some.injEq] at hx
      rw [← hx]
      exact hc
  have hone : ∀ x ∈ [u], x.oneCell' = true := fun x hx => by
    obtain ⟨B, c, e, _⟩ := hu.2.1
    rw [List.mem_singleton.1 hx, e]
    rfl
  obtain ⟨v', w', h1, h2, h3, _, h5⟩ := run_append_own_at (P := Try.prog) w base 35 ty 22 i0 (.slice none 0 0) 1 24 Try.underlying35 hi hz0 hz1 hz2 rfl (by omega) v rows.length vs hv1 ⟨g, 0, none⟩ 1 1 [u] rfl hcells hone
    (by unfold maxLen; omega) (by omega) hbase
  refine ⟨v', w', h1, ⟨vs ++ [u], by rw [List.length_append]; exact h2, fun i hi => ?_⟩, h3⟩
  rcases Nat.lt_or_ge i rows.length with hl | hl
  · obtain ⟨x, hx, he⟩ := hv2 i hl
    refine ⟨x, by rw [List.getElem?_append_left (by omega)]; exact hx, ?_⟩
    rw [ro_append_left _ _ _ hl]
    exact he.keep h3 h5
  · have hi' : i = rows.length := by rw [List.length_append] at hi; simp at hi; omega
    subst hi'
    refine ⟨u, by rw [List.getElem?_append_right (by omega), hvl]; simp, ?_⟩
    rw [ro_append_right _ _ _ (Nat.le_refl _), Nat.sub_self]
    exact hu.keep h3 h5
/-- At the operation, for the walk. -/
theorem wpList_append_bod {ops : Array Oper} {rest : List Oper} {o : Oper} {a : Act} {w : World} {Q : Exit → Act → World → Prop} (hgd : o.guard = none) (s x : Operand)
    (ho : o.op = .call { callee := .builtin .append, args := #[s, x], argTypes := #[35, 35] })
    (base : Nat) (v : Value) (rows : List (List Nat)) (hs : a.eval s = v) (hown : Bods w base v rows) (t : List Nat) (u : Value) (hu : BodE base w v.ownBlock t u) (g : Nat) (hx : a.eval x = .slice (some ⟨g, 0, none⟩) 1 1) (hc : w.cell? ⟨g, 0, none⟩ = some u)
    (hlen : rows.length ≤ 1048576) (hbase : base ≤ w.heap.size)
    (h : ∀ v' w', Bods w' base v' (rows ++ [t]) → w.grownBy w' v.ownBlock → wpList Try.prog ops Q rest (a.put o.dst v') w') :
    wpList Try.prog ops Q (o :: rest) a w := by
  refine wpList_plain hgd fun K hK => ?_
  obtain ⟨v', w', hrun, h2, h3⟩ := run_append_bod w base o.type v rows hown t u hu g hc hlen hbase
  unfold Oper.wp execOp
  simp only [ho, resolve, invoke, builtin, Sem.run_bind, Sem.run_pure, Result.andThen_ok, List.map_toArray, List.map_cons, List.map_nil, hs, hx, hrun]
  exact hK _ _ (h v' w' h2 h3)
set_option maxHeartbeats 1600000 in
set_option maxRecDepth 100000 in
theorem cr_all (b : List Nat) (A : Option Addr) (ca : Nat) (w : World) (hr : Rd w A b) (hc : b.length ≤ ca) (hl : b.length ≤ 65536) :
    Calls Try.prog 31 #[.slice A b.length ca] w (AllS b w) := by
  unfold AllS
  have HR := Lib.hid hr
  obtain ⟨L, hL⟩ : ∃ L, b.length = L := ⟨_, rfl⟩
  have HL := Lib.hid hL
  rw [hL] at hc hl ⊢
  clear hr hL
  have HSP := Lib.hid (fun (l : List Nat) X cx W (h : Rd W X l) hc hl => cr_split l X cx W h hc hl)
  have HCL := Lib.hid (fun (l : List Nat) X cx W (h : Rd W X l) hl => cr_clone l X cx W h hl)
  go_enter Try.func31, Try.ntmps31
  go_wp2
  go_loopg [4, 5] L (fun g s4 s5 wx => ∃ (k n : Nat) (done : List (List Nat)) (X : Option Addr) (cx : Nat), k + n = L ∧ n ≤ g ∧ s5 = .slice X n cx ∧ n ≤ cx ∧ (∀ W, Ext w W → Rd W X (b.drop k)) ∧ Bods wx w.heap.size s4 done ∧ al b = (done ++ (al (b.drop k)).1, k + (al (b.drop k)).2) ∧ done.length ≤ k ∧ Ext w wx)
  case atStart => exact ⟨0, L, [], A, ca, by omega, Nat.le_refl _, rfl, hc, fun W h => HR.out.ext h, Bods.nil _ _, by simp, Nat.le_refl _, Ext.refl _⟩
  case round =>
    obtain ⟨k, n, done, X, cx, hkn, hng, rfl, hcx, hrk, hm, hal, hdk, hx⟩ := hrel
    have hlk : (b.drop k).length = n := by rw [List.length_drop, HL.out]; omega
    have HSK := Lib.hid (show Calls Try.prog 38 #[.slice X n cx] wr (SplitS X (b.drop k) wr) from by
      have h := HSP.out (b.drop k) X cx wr (hrk _ hx) (by rw [hlk]; omega) (by rw [hlk]; omega)
      rw [hlk] at h
      exact h)
    obtain ⟨Rv, cv, rfl, hcv, _⟩ := hm.slice
    have HM := Lib.hid hm
    have HX := Lib.hid hx
    have HAL := Lib.hid hal
    have HSR := Lib.hid (hrk _ hx).1
    have HRK := Lib.hid hrk
    have HLK := Lib.hid hlk
    have HKN := Lib.hid hkn
    clear hrk hm hx hal hlk hkn
    go_wp2_with fail
    refine HSK.out.mono ?_
    rintro e w1 ⟨hx1, (⟨t, r, Y, Z, cy, cz, hn, rfl, hcy, hcz, hYZ⟩ | ⟨q, hn, rfl⟩)⟩
    · have hY := (hYZ _ (HRK.out _ HX.out)).1
      obtain ⟨hfr, hfo⟩ := nx_ok HSR.out hn
      obtain ⟨ht1, ht2, _⟩ := fr_drop hfr
      have hlen := congrArg List.length hfr
      rw [HLK.out, List.length_append, fr_len] at hlen
      have HAL2 := Lib.hid (show al b = ((done ++ [t]) ++ (al (b.drop (k + 6 + t.length))).1, (k + 6 + t.length) + (al (b.drop (k + 6 + t.length))).2) from by
        rw [HAL.out, al_ok hn, ht2]
        simp
        omega)
      have hft := hfo
      unfold FrOk at hft
      have HTP := Lib.hid (show 0 < t.length from hft.1)
      have HC := Lib.hid (HCL.out t Y cy w1 (hY.ext hx1) (by omega))
      have HST := Lib.hid hY.1
      have HZ := Lib.hid (fun W (h : Ext w W) => (hYZ _ (HRK.out W h)).2)
      rw [← ht2] at HZ
      obtain ⟨nt, hnt⟩ : ∃ n, t.length = n := ⟨_, rfl⟩
      have HNT := Lib.hid hnt
      obtain ⟨nr, hnr⟩ : ∃ n, r.length = n := ⟨_, rfl⟩
      rw [hnt] at HC HAL2 HZ hlen hft ⊢
      rw [hnr] at hlen hcz ⊢
      obtain ⟨k', hk'⟩ : ∃ q, k + 6 + nt = q := ⟨_, rfl⟩
      rw [hk'] at HAL2 HZ
      have HB := Lib.hid (show k' + nr = L ∧ nr < n ∧ nr ≤ cz from ⟨by have := HKN.out; omega, by omega, hcz⟩)
      have hdl : (done ++ [t]).length ≤ k' := by rw [List.length_append]; simp; omega
      have HDL := Lib.hid hdl
      have HDN := Lib.hid (show done.length ≤ 65536 by have := HKN.out; omega)
      have HX1 := Lib.hid (HX.out.trans hx1)
      have HM1 := Lib.hid (HM.out.ext hx1)
      clear hn hfr hfo ht1 ht2 hlen hft hnt hnr hk' hdl hY hYZ hcy hcz hx1
      go_wp2_with fail
      refine HC.out.mono ?_
      rintro e w2 ⟨hx2, u, rfl, hmu⟩
      obtain ⟨Bu, cu, hue, _, _⟩ := hmu.slice HST.out
      rw [HNT.out] at hue
      subst hue
      generalize hu : Value.slice Bu nt cu = u at hmu
      have HX2 := Lib.hid (HX1.out.trans hx2)
      have HM2 := Lib.hid (HM1.out.ext hx2)
      have HU := Lib.hid (show BodE w.heap.size w2 (Value.slice Rv done.length cv).ownBlock t u from ⟨HTP.out, (hmu.down HX1.out.size).ownW HST.out, fun b' o' n' c' e => by
        obtain ⟨h1, h2⟩ := hmu.block b' (by rw [e]; rfl)
        refine ⟨fun e' => ?_, h2⟩
        have h3 := (HM1.out.block b' e'.symm).2
        omega⟩)
      have hcu : (w2.alloc (.cells #[u] 22)).cell? ⟨w2.heap.size, 0, none⟩ = some u := by
        rw [cell_of_row _ _ _ _ _ _ (heap_alloc_new w2 _)]; rfl
      have HCU := Lib.hid hcu
      have HXA := Lib.hid ((Ext.refl w2).alloc (.cells #[u] 22))
      subst hu
      clear hmu hx2 hcu
      go_wp2_with (at_builtin; refine wpList_append_bod rfl (.tmp 24) (.tmp 27) rfl w.heap.size (.slice Rv done.length cv) done rfl (HM2.out.ext HXA.out) t _ (HU.out.keep (HXA.out.grown _) (.inl rfl)) w2.heap.size rfl HCU.out (by have := HDN.out; omega) (Nat.le_trans HX2.out.size HXA.out.size) ?_; intro v9 w9 hown9 hg9; have hx9 := (HX2.out.trans HXA.out).more hg9 (fun q hq => (HM2.out.block q hq).1); have HX9 := Lib.hid hx9; have HO9 := Lib.hid hown9; clear hown9 hg9 hx9)
      go_roundg nr
      case measure => have := HB.out; omega
      case rel => exact ⟨k', nr, done ++ [t], Z, cz, HB.out.1, Nat.le_refl _, rfl, HB.out.2.2, HZ.out, HO9.out, HAL2.out, HDL.out, HX9.out⟩
    · have hq := (nx_er hn).1
      have d1 : ((q : Int) == 0) = false := by simp; omega
      have d2 : ((q : Int) != 0) = true := by simp; omega
      have d3 : decide (q = 0) = false := decide_eq_false (by omega)
      have e1 : (L : Int) - (n : Int) = (k : Int) := by have := HKN.out; omega
      have HFIN := Lib.hid (show al b = (done, k) from by rw [HAL.out, al_er hn]; simp)
      have HX1 := Lib.hid (HX.out.trans hx1)
      have HM1 := Lib.hid (HM.out.ext hx1)
      clear hx1 hn hq
      go_wp2
      go_ret2
      obtain ⟨R', c', e', h1, h2⟩ := HM1.out.slice
      refine ⟨HX1.out, R', c', ?_, ?_, ?_⟩
      · rw [HFIN.out]
        show Ending.returned (.tuple #[.slice Rv done.length cv, .int .i64 (k : Int)]) = _
        rw [e']
      · rw [HFIN.out]; exact h1
      · rw [HFIN.out]; exact h2
theorem crcOwn : CrcOwn where
  frame l A c w hr _ := cr_frame l A c w hr
  all b A c w hr hc hl := cr_all b A c w hr hc hl
end Go.Proofs.Ytfbnckecfapakaa

/-
  What a log's Disk and Records do, and Open; with them all of layer 12's own functions do what they are to do. Conditions: no more than 2^16 bytes.
-/
namespace Go.Proofs.Ytfbnckecfapakaa
open Go.RowKit
open Pol (co Sm)

theorem OwnW.down9 {base base' : Nat} {v : Value} {w : World} {t : List Nat} (h : OwnW base v w t) (hb : base' ≤ base) : OwnW base' v w t := by
  obtain ⟨B, c, e, hc, hr, hk⟩ := h
  exact ⟨B, c, e, hc, hr, fun b o e2 h0 => ⟨Nat.le_trans hb (hk b o e2 h0).1, (hk b o e2 h0).2⟩⟩
theorem fld_fast (a b : Value) (W : World) : (Instr.field 30 (.agg #[a, b]) 0).run Try.prog W = .ok a W := by
  simp [Instr.field, run_underlying Try.underlying30, asAgg, part, isAgg, run_underlying Try.underlying22]
theorem Mine.ownB {w : World} {base : Nat} {v : Value} {t : List Nat} (h : Mine w base v t) (hs : Sm t) : OwnW base v w t := (h.fst hs).ownW
set_option maxHeartbeats 1600000 in
set_option maxRecDepth 100000 in
theorem jn_ndisk (w : World) : Calls Try.prog 14 #[.pointer none] w (Tells (.agg #[.slice none 0 0, .slice none 0 0]) w) := by
  have hg := heap_alloc_new w (.cells #[.slice none 0 0, .slice none 0 0] 30)
  have HX := Lib.hid ((Ext.refl w).alloc (.cells #[.slice none 0 0, .slice none 0 0] 30))
  go_enter Try.func14, Try.ntmps14
  go_wp2
  refine bodyPost_ret (results_cell_row Try.results14 _ _ w.heap.size 30 _ (0, 0) _ rfl hg Try.underlying30 rfl (disk_in _ _)) rfl ?_
  exact ⟨rfl, HX.out⟩
set_option maxHeartbeats 1600000 in
set_option maxRecDepth 100000 in
theorem jn_disk (X : Nat → Prop) (lb : Nat) (R : List (List Nat)) (k : Nat) (w : World) (h : LgI X lb w R k) (hlen : (fl R).length ≤ 65536) :
    Calls Try.prog 14 #[.pointer (some ⟨lb, 0, none⟩)] w (DiskO (fl (R.take k)) (fl (R.drop k)) w) := by
  unfold DiskO
  obtain ⟨f, l, hd, _⟩ := h
  obtain ⟨Bf, cf, rfl, _, hrf⟩ := hd.fst.slice
  obtain ⟨Bl, cl, rfl, _, hrl⟩ := hd.lst.slice
  have hpl := fl_parts_le R k
  have HSM := Lib.hid (And.intro hrf.1 hrl.1)
  have HC := Lib.hid (fun W (hx : Ext w W) => jn_clone _ _ Bf Bl cf cl W (hrf.ext hx) (hrl.ext hx) (by omega) (by omega))
  have HR := Lib.hid hd.row
  have HG := Lib.hid (heap_alloc_new w (.cells #[.slice none 0 0, .slice none 0 0] 30))
  have HX := Lib.hid ((Ext.refl w).alloc (.cells #[.slice none 0 0, .slice none 0 0] 30))
  have hlt := row_lt hd.row
  have hr1 := HX.out.row hd.row
  have c0 : (w.alloc (.cells #[.slice none 0 0, .slice none 0 0] 30)).cell? ⟨lb, 0, none⟩ = some (.slice Bf (fl (R.take k)).length cf) := by rw [cell_of_row _ lb 0 _ _ _ hr1]; rfl
  have c1 : (w.alloc (.cells #[.slice none 0 0, .slice none 0 0] 30)).cell? ⟨lb, 1, none⟩ = some (.slice Bl (fl (R.drop k)).length cl) := by rw [cell_of_row _ lb 1 _ _ _ hr1]; rfl
  generalize fl (R.take k) = F at *
  generalize fl (R.drop k) = L at *
  obtain ⟨nf, hnf⟩ : ∃ n, F.length = n := ⟨_, rfl⟩
  obtain ⟨nl, hnl⟩ : ∃ n, L.length = n := ⟨_, rfl⟩
  have HN := Lib.hid (And.intro hnf hnl)
  rw [hnf, hnl] at HC
  rw [hnf] at c0
  rw [hnl] at c1
  clear hd hrf hrl hpl hlen hr1 hnf hnl
  go_enter Try.func14, Try.ntmps14
  go_wp2_with fail
  refine (HC.out _ HX.out).mono ?_
  rintro e w1 ⟨hx1, f, l, rfl, hmf, hml, _⟩
  obtain ⟨B1, c1', rfl, _, _⟩ := hmf.slice HSM.out.1
  obtain ⟨B2, c2', rfl, _, _⟩ := hml.slice HSM.out.2
  have HB1 := Lib.hid (hx1.row HG.out)
  rw [HN.out.1] at hmf ⊢
  rw [HN.out.2] at hml ⊢
  have HM := Lib.hid (And.intro hmf hml)
  have HX1 := Lib.hid (HX.out.trans hx1)
  have HSZ := Lib.hid (show (w.alloc (.cells #[.slice none 0 0, .slice none 0 0] 30)).heap.size = w.heap.size + 1 from by simp)
  have hone3 := disk_one B1 B2 nf nl c1' c2'
  have hin3 := disk_in (.slice B1 nf c1') (.slice B2 nl c2')
  have hsz3 : (#[.slice none 0 0, .slice none 0 0] : Array Value).size = (#[.slice B1 nf c1', .slice B2 nl c2'] : Array Value).size := rfl
  clear hx1 hmf hml c0 c1 hlt
  go_wp2_with (with_reducible refine wpList_store_all rfl 30 (.tmp 2) (.tmp 10) rfl w.heap.size _ #[.slice B1 nf c1', .slice B2 nl c2'] rfl rfl HB1.out hin3 hsz3 hone3 ?_)
  have hg5 := setRow_heap w1 w.heap.size _ #[.slice B1 nf c1', .slice B2 nl c2'] _ _ HB1.out
  have ho5 : Only (fun k => k = w.heap.size) w1 (w1.setRow w.heap.size #[.slice B1 nf c1', .slice B2 nl c2']) := Only.of_grown (grown_block w1 _ _) (fun k e => by injection e with e; exact e.symm)
  refine bodyPost_ret (results_cell_row Try.results14 _ _ w.heap.size 30 _ (0, 0) _ rfl hg5 Try.underlying30 rfl (disk_in _ _)) rfl ?_
  obtain ⟨hmf, hml⟩ := HM.out
  have hs := HSZ.out
  refine ⟨ho5.ext HX1.out (fun k hk => by rw [hk]; exact Nat.le_refl _), _, _, rfl, (((hmf.fst HSM.out.1).only ho5 fun k hk e => by have := (hmf.block k hk).1; omega).down (by omega)).ownW, (((hml.fst HSM.out.2).only ho5 fun k hk e => by have := (hml.block k hk).1; omega).down (by omega)).ownW⟩

set_option maxHeartbeats 1600000 in
set_option maxRecDepth 100000 in
theorem jn_records (X : Nat → Prop) (lb : Nat) (R : List (List Nat)) (k : Nat) (w : World) (h : LgI X lb w R k) (hlen : (fl R).length ≤ 65536) :
    Calls Try.prog 16 #[.pointer (some ⟨lb, 0, none⟩)] w (RecS R w) := by
  unfold RecS
  obtain ⟨f, l, hd, _, _, _, hok⟩ := h
  obtain ⟨Bf, cf, rfl, _, hrf⟩ := hd.fst.slice
  obtain ⟨Bl, cl, rfl, _, hrl⟩ := hd.lst.slice
  have hpl := fl_parts_le R k
  have HC := Lib.hid (jn_sync _ _ Bf Bl cf cl w hrf hrl (by omega) (by omega))
  unfold DiskF at HC
  rw [fl_parts] at HC
  have HAL := Lib.hid (al_whole R (fun t ht => (hok.ok t ht).1))
  have HCA := Lib.hid (fun A c W (hr : Rd W A (fl R)) hc => cr_all (fl R) A c W hr hc hlen)
  unfold AllS at HCA
  rw [HAL.out] at HCA
  have c0 : w.cell? ⟨lb, 0, none⟩ = some (.slice Bf (fl (R.take k)).length cf) := by rw [cell_of_row _ lb 0 _ _ _ hd.row]; rfl
  have c1 : w.cell? ⟨lb, 1, none⟩ = some (.slice Bl (fl (R.drop k)).length cl) := by rw [cell_of_row _ lb 1 _ _ _ hd.row]; rfl
  generalize (fl (R.take k)).length = nf at *
  generalize (fl (R.drop k)).length = nl at *
  obtain ⟨n, hn⟩ : ∃ n, (fl R).length = n := ⟨_, rfl⟩
  have HN := Lib.hid hn
  clear hd hrf hrl hpl hlen hok
  go_enter Try.func16, Try.ntmps16
  go_wp2_with fail
  refine HC.out.mono ?_
  rintro e w1 ⟨hx1, v, u, rfl, hv, hu, _⟩
  obtain ⟨B, c, rfl, hc, hr⟩ := hv.slice
  obtain ⟨Bu, cu, rfl, _, _⟩ := hu.slice
  have HX1 := Lib.hid hx1
  have HA1 := Lib.hid (HCA.out B c w1 hr hc)
  rw [hn] at HA1 ⊢
  have hfld := fld_fast (.slice B n c) (.slice Bu 0 cu)
  clear hx1 hv hu hc hr c0 c1 hn
  go_wp2_with fail
  refine HA1.out.mono ?_
  rintro e w2 ⟨hx2, V, cv, rfl, hcv, hrow⟩
  have HX2 := Lib.hid (HX1.out.trans hx2)
  have HROW := Lib.hid hrow
  have HCV := Lib.hid hcv
  clear hx2 hrow hcv
  go_wp2
  go_ret
  refine ⟨HX2.out, V, cv, rfl, HCV.out, fun i hi => ?_⟩
  obtain ⟨g, o, v, h1, h2, h3, h4, h5⟩ := HROW.out i hi
  exact ⟨g, o, v, h1, Nat.le_trans HX1.out.size h2, h3, h4.down9 HX1.out.size, h5⟩
end Go.Proofs.Ytfbnckecfapakaa

/-
  What Open does; with it all of layer 12's own functions do what they are to do. Conditions: as in the statement JournalSaid.
-/
namespace Go.Proofs.Ytfbnckecfapakaa
open Go.RowKit
open Pol (co Sm)

/-- s[:e:e] of bytes. -/
theorem run_hm_u8 (A : Option Addr) (len cap e : Nat) (he : e ≤ cap) (W : World) :
    (Instr.slice 22 (.slice A len cap) none (some (.int .i64 (e : Int))) (some (.int .i64 (e : Int)))).run Try.prog W = .ok (.slice A e e) W := by
  obtain ⟨i0, hi, hz0, hz1, hz2⟩ := info_parts u8_info
  have he2 : Try.prog.elem 22 = 5 := by kernel_rfl
  rw [run_slice_hm W 22 _ len cap (by rw [he2]; exact Try.underlying22) .i64 .i64 (e : Int) (e : Int) (by omega) (by omega) (by omega), he2]
  cases A <;> simp [sizeOf, typeInfo, hi, hz1, Result.andThen, sliced, Addr.add]
theorem Fst.cut {w : World} {base n c : Nat} {A : Option Addr} {l : List Nat} (h : Fst w base (.slice A n c) l) (k : Nat) (hk : k ≤ l.length) : Fst w base (.slice A k k) (l.take k) := by
  obtain ⟨hs, h | h⟩ := h
  · exact h.cut hs k hk
  · refine ⟨Pol.co_lt_of fun x hx => hs.mem x (List.mem_of_mem_take hx), .inr ?_⟩
    obtain ⟨g, cur, e, hb, hg, ht⟩ := h
    injection e with e1 e2 e3
    subst e1
    refine ⟨g, cur, by rw [List.length_take, Nat.min_eq_left hk], hb, hg, ?_⟩
    rw [List.length_take, Nat.min_eq_left hk, show bv (l.take k) = (bv l).take k from by unfold bv; rw [List.map_take], ← ht, List.take_take, Nat.min_eq_left hk]
set_option maxHeartbeats 1600000 in
set_option maxRecDepth 100000 in
theorem jn_open (F L : List Nat) (A B : Option Addr) (ca cb : Nat) (w : World) (hf : Rd w A F) (hl : Rd w B L) (hlen : F.length + L.length ≤ 65536) :
    Calls Try.prog 11 #[.agg #[.slice A F.length ca, .slice B L.length cb]] w (fun e w' => Ext w w' ∧ ∃ lb, e = .returned (.pointer (some ⟨lb, 0, none⟩)) ∧ LgI (Nw (fun _ => False) w w') lb w' (al (F ++ L)).1 (al (F ++ L)).1.length) := by
  have HC := Lib.hid (fun W (h : Ext w W) => jn_sync F L A B ca cb W (hf.ext h) (hl.ext h) (by omega) (by omega))
  unfold DiskF at HC
  have hN : (F ++ L).length ≤ 65536 := by rw [List.length_append]; omega
  have hsm : Sm (F ++ L) := sm12_app hf.1 hl.1
  have HAO := Lib.hid (alOk (F ++ L) hsm)
  have HCA := Lib.hid (fun A c W (hr : Rd W A (F ++ L)) hc => cr_all (F ++ L) A c W hr hc hN)
  unfold AllS at HCA
  have HG := Lib.hid (heap_alloc_new w (.cells #[.slice A F.length ca, .slice B L.length cb] 30))
  have HX := Lib.hid ((Ext.refl w).alloc (.cells #[.slice A F.length ca, .slice B L.length cb] 30))
  obtain ⟨R, hR⟩ : ∃ R, (al (F ++ L)).1 = R := ⟨_, rfl⟩
  obtain ⟨n, hn⟩ : ∃ n, (al (F ++ L)).2 = n := ⟨_, rfl⟩
  rw [hR, hn] at HAO HCA
  rw [hR]
  generalize F ++ L = W0 at *
  generalize F.length = nf at *
  generalize L.length = nl at *
  obtain ⟨N, hNN⟩ : ∃ N, W0.length = N := ⟨_, rfl⟩
  have HN := Lib.hid hNN
  rw [hNN] at HCA
  clear hf hl hlen hN hsm hR hn hNN
  go_enter Try.func11, Try.ntmps11
  go_wp2_with (with_reducible refine wpList_load_row rfl 30 (.tmp 1) rfl w.heap.size rfl 30 #[.slice A nf ca, .slice B nl cb] (0, 0) _ HG.out Try.underlying30 rfl (disk_in _ _) ?_)
  refine (HC.out _ HX.out).mono ?_
  rintro e w1 ⟨hx1, v, u, rfl, hv, hu, _⟩
  obtain ⟨Bv, c, rfl, hc, hr⟩ := hv.slice
  obtain ⟨Bu, cu, rfl, _, _⟩ := hu.slice
  rw [HN.out] at hc hv ⊢
  have HX1 := Lib.hid (HX.out.trans hx1)
  have HV := Lib.hid (hv.down (base' := w.heap.size) HX.out.size)
  have HA1 := Lib.hid (HCA.out Bv c w1 hr hc)
  have hfld := fld_fast (.slice Bv N c) (.slice Bu 0 cu)
  have HC9 := Lib.hid hc
  clear hx1 hv hu hc hr
  go_wp2_with fail
  refine HA1.out.mono ?_
  rintro e w2 ⟨hx2, V, cv, rfl, _, _⟩
  have hao := HAO.out
  have hle := hao.le
  have hcut := run_hm_u8 Bv N c n (by have := HN.out; have := HC9.out; omega)
  have HX2 := Lib.hid (HX1.out.trans hx2)
  have HV2 := Lib.hid ((HV.out.ext hx2).cut n hle)
  clear hx2 hao hle
  go_wp2
  go_ret
  have hx3 : Ext w2 (w2.alloc (.cells #[.slice Bv n n, .slice none 0 0, .int .i64 (R.length : Int), .int .i64 (R.length : Int)] 60)) := (Ext.refl w2).alloc _
  have hnew := heap_alloc_new w2 (.cells #[.slice Bv n n, .slice none 0 0, .int .i64 (R.length : Int), .int .i64 (R.length : Int)] 60)
  have hs3 : (w2.alloc (.cells #[.slice Bv n n, .slice none 0 0, .int .i64 (R.length : Int), .int .i64 (R.length : Int)] 60)).heap.size = w2.heap.size + 1 := by simp
  refine ⟨HX2.out.trans hx3, w2.heap.size, rfl, .slice Bv n n, .slice none 0 0, ⟨hnew, rfl, rfl, ?_, ?_, fun q _ hq => (by cases hq), fun e => ?_, fun e => (by cases e), Nat.zero_le _⟩, .inr ⟨HX2.out.size, by rw [hs3]; omega⟩, fun q hq => .inr ?_, fun q hq => (by cases hq), ⟨HAO.out.ok, Nat.le_refl _⟩⟩
  · rw [List.take_length, HAO.out.flat]
    exact (HV2.out.ext hx3).down (Nat.zero_le _)
  · rw [List.drop_length]
    exact Fst.nil _ _
  · exact absurd (HV2.out.block _ e).2 (Nat.lt_irrefl _)
  · have h := HV2.out.block q hq
    exact ⟨h.1, Nat.lt_of_lt_of_le h.2 hx3.size⟩
theorem DiskF.toO {F L : List Nat} {w : World} {e : Ending} {w' : World} (h : DiskF F L w e w') : DiskO F L w e w' := by
  obtain ⟨hx, f, l, he, hf, hl, _⟩ := h
  exact ⟨hx, f, l, he, hf.ownW, hl.ownW⟩
theorem journalSaid : JournalSaid LgI where
  keep h hk hs := h.keep hk hs
  mono h hxy := h.mono hxy
  lok h := h.lok
  write F L b A B D ca cb cd w hf hl hb h1 h2 h3 := (jn_write F L b A B D ca cb cd w hf hl hb h1 h2 h3).mono fun _ _ h => h.toO
  dsync F L A B ca cb w hf hl h1 h2 := (jn_sync F L A B ca cb w hf hl h1 h2).mono fun _ _ h => h.toO
  crash F L A B ca cb k x w hf hl h1 h2 h3 h4 := (jn_crash F L A B ca cb k x w hf hl h1 h2 h3 h4).mono fun _ _ h => h.toO
  opn F L A B ca cb w hf hl h1 := jn_open F L A B ca cb w hf hl h1
  append X lb R k t A c w h hr _ hl := jn_append X lb R k t A c w h hr hl
  sync X lb R k w h hl := jn_lsync X lb R k w h hl
  compact X lb R k t A c w h hr _ := jn_compact X lb R k t A c w h hr
  records X lb R k w h hl := jn_records X lb R k w h hl
  fast X lb R k w h := jn_fast X lb R k w h
  disk X lb R k w h hl := jn_disk X lb R k w h hl
  nappend a w := jn_nappend a w
  ncompact a w := jn_ncompact a w
  nsync w := jn_nsync w
  nrecords w := jn_nrecords w
  nfast w := jn_nfast w
  ndisk w := jn_ndisk w
end Go.Proofs.Ytfbnckecfapakaa
