/-
  Part 4 of the texts that the seat's proofs stand on; each part of it begins with its own sentence and conditions. Conditions: those that each theorem names.
-/
import Derived.Test.YtfbnckecfapakaaOwnPack3
import Derived.ProofKit
import Derived.OpenShut

/-
  What Open does; with it all of layer 12's own functions do what they are to do. Conditions: as in the statement JournalSaid.
-/
namespace Go.Proofs.Ytfbnckecfapakaa
open Go.RowKit
open Pol (co Sm)

/-- s[:e:e] of bytes. -/
theorem run_hm_u8 (A : Option Addr) (len cap e : Nat) (he : e ≤ cap) (W : World) :
    (Instr.slice 22 (.slice A len cap) none (some (.int .i64 (e : Int))) (some (.int .i64 (e : Int)))).run Try.prog W = .ok (.slice A e e) W := by
  obtain ⟨i0, hi, hz0, hz1, hz2⟩ := info_parts u8_info
  have he2 : Try.prog.elem 22 = 5 := by kernel_rfl
  rw [run_slice_hm W 22 _ len cap (by rw [he2]; exact Try.underlying22) .i64 .i64 (e : Int) (e : Int) (by omega) (by omega) (by omega), he2]
  cases A <;> simp [sizeOf, typeInfo, hi, hz1, Result.andThen, sliced, Addr.add]
theorem Fst.cut {w : World} {base n c : Nat} {A : Option Addr} {l : List Nat} (h : Fst w base (.slice A n c) l) (k : Nat) (hk : k ≤ l.length) : Fst w base (.slice A k k) (l.take k) := by
  obtain ⟨hs, h | h⟩ := h
  · exact h.cut hs k hk
  · refine ⟨Pol.co_lt_of fun x hx => hs.mem x (List.mem_of_mem_take hx), .inr ?_⟩
    obtain ⟨g, cur, e, hb, hg, ht⟩ := h
    injection e with e1 e2 e3
    subst e1
    refine ⟨g, cur, by rw [List.length_take, Nat.min_eq_left hk], hb, hg, ?_⟩
    rw [List.length_take, Nat.min_eq_left hk, show bv (l.take k) = (bv l).take k from by unfold bv; rw [List.map_take], ← ht, List.take_take, Nat.min_eq_left hk]
set_option maxHeartbeats 1600000 in
set_option maxRecDepth 100000 in
theorem jn_open (F L : List Nat) (A B : Option Addr) (ca cb : Nat) (w : World) (hf : Rd w A F) (hl : Rd w B L) (hlen : F.length + L.length ≤ 65536) :
    Calls Try.prog 11 #[.agg #[.slice A F.length ca, .slice B L.length cb]] w (fun e w' => Ext w w' ∧ ∃ lb, e = .returned (.pointer (some ⟨lb, 0, none⟩)) ∧ LgI (Nw (fun _ => False) w w') lb w' (al (F ++ L)).1 (al (F ++ L)).1.length) := by
  have HC := Lib.hid (fun W (h : Ext w W) => jn_sync F L A B ca cb W (hf.ext h) (hl.ext h) (by omega) (by omega))
  unfold DiskF at HC
  have hN : (F ++ L).length ≤ 65536 := by rw [List.length_append]; omega
  have hsm : Sm (F ++ L) := sm12_app hf.1 hl.1
  have HAO := Lib.hid (alOk (F ++ L) hsm)
  have HCA := Lib.hid (fun A c W (hr : Rd W A (F ++ L)) hc => cr_all (F ++ L) A c W hr hc hN)
  unfold AllS at HCA
  have HG := Lib.hid (heap_alloc_new w (.cells #[.slice A F.length ca, .slice B L.length cb] 30))
  have HX := Lib.hid ((Ext.refl w).alloc (.cells #[.slice A F.length ca, .slice B L.length cb] 30))
  obtain ⟨R, hR⟩ : ∃ R, (al (F ++ L)).1 = R := ⟨_, rfl⟩
  obtain ⟨n, hn⟩ : ∃ n, (al (F ++ L)).2 = n := ⟨_, rfl⟩
  rw [hR, hn] at HAO HCA
  rw [hR]
  generalize F ++ L = W0 at *
  generalize F.length = nf at *
  generalize L.length = nl at *
  obtain ⟨N, hNN⟩ : ∃ N, W0.length = N := ⟨_, rfl⟩
  have HN := Lib.hid hNN
  rw [hNN] at HCA
  clear hf hl hlen hN hsm hR hn hNN
  go_enter Try.func11, Try.ntmps11
  go_wp2_with (with_reducible refine wpList_load_row rfl 30 (.tmp 1) rfl w.heap.size rfl 30 #[.slice A nf ca, .slice B nl cb] (0, 0) _ HG.out Try.underlying30 rfl (disk_in _ _) ?_)
  refine (HC.out _ HX.out).mono ?_
  rintro e w1 ⟨hx1, v, u, rfl, hv, hu, _⟩
  obtain ⟨Bv, c, rfl, hc, hr⟩ := hv.slice
  obtain ⟨Bu, cu, rfl, _, _⟩ := hu.slice
  rw [HN.out] at hc hv ⊢
  have HX1 := Lib.hid (HX.out.trans hx1)
  have HV := Lib.hid (hv.down (base' := w.heap.size) HX.out.size)
  have HA1 := Lib.hid (HCA.out Bv c w1 hr hc)
  have hfld := fld_fast (.slice Bv N c) (.slice Bu 0 cu)
  have HC9 := Lib.hid hc
  clear hx1 hv hu hc hr
  go_wp2_with fail
  refine HA1.out.mono ?_
  rintro e w2 ⟨hx2, V, cv, rfl, _, _⟩
  have hao := HAO.out
  have hle := hao.le
  have hcut := run_hm_u8 Bv N c n (by have := HN.out; have := HC9.out; omega)
  have HX2 := Lib.hid (HX1.out.trans hx2)
  have HV2 := Lib.hid ((HV.out.ext hx2).cut n hle)
  clear hx2 hao hle
  go_wp2
  go_ret
  have hx3 : Ext w2 (w2.alloc (.cells #[.slice Bv n n, .slice none 0 0, .int .i64 (R.length : Int), .int .i64 (R.length : Int)] 60)) := (Ext.refl w2).alloc _
  have hnew := heap_alloc_new w2 (.cells #[.slice Bv n n, .slice none 0 0, .int .i64 (R.length : Int), .int .i64 (R.length : Int)] 60)
  have hs3 : (w2.alloc (.cells #[.slice Bv n n, .slice none 0 0, .int .i64 (R.length : Int), .int .i64 (R.length : Int)] 60)).heap.size = w2.heap.size + 1 := by simp
  refine ⟨HX2.out.trans hx3, w2.heap.size, rfl, .slice Bv n n, .slice none 0 0, ⟨hnew, rfl, rfl, ?_, ?_, fun q _ hq => (by cases hq), fun e => ?_, fun e => (by cases e), Nat.zero_le _⟩, .inr ⟨HX2.out.size, by rw [hs3]; omega⟩, fun q hq => .inr ?_, fun q hq => (by cases hq), ⟨HAO.out.ok, Nat.le_refl _⟩⟩
  · rw [List.take_length, HAO.out.flat]
    exact (HV2.out.ext hx3).down (Nat.zero_le _)
  · rw [List.drop_length]
    exact Fst.nil _ _
  · exact absurd (HV2.out.block _ e).2 (Nat.lt_irrefl _)
  · have h := HV2.out.block q hq
    exact ⟨h.1, Nat.lt_of_lt_of_le h.2 hx3.size⟩
theorem DiskF.toO {F L : List Nat} {w : World} {e : Ending} {w' : World} (h : DiskF F L w e w') : DiskO F L w e w' := by
  obtain ⟨hx, f, l, he, hf, hl, _⟩ := h
  exact ⟨hx, f, l, he, hf.ownW, hl.ownW⟩
theorem journalSaid : JournalSaid LgI where
  keep h hk hs := h.keep hk hs
  mono h hxy := h.mono hxy
  lok h := h.lok
  write F L b A B D ca cb cd w hf hl hb h1 h2 h3 := (jn_write F L b A B D ca cb cd w hf hl hb h1 h2 h3).mono fun _ _ h => h.toO
  dsync F L A B ca cb w hf hl h1 h2 := (jn_sync F L A B ca cb w hf hl h1 h2).mono fun _ _ h => h.toO
  crash F L A B ca cb k x w hf hl h1 h2 h3 h4 := (jn_crash F L A B ca cb k x w hf hl h1 h2 h3 h4).mono fun _ _ h => h.toO
  opn F L A B ca cb w hf hl h1 := jn_open F L A B ca cb w hf hl h1
  append X lb R k t A c w h hr _ hl := jn_append X lb R k t A c w h hr hl
  sync X lb R k w h hl := jn_lsync X lb R k w h hl
  compact X lb R k t A c w h hr _ := jn_compact X lb R k t A c w h hr
  records X lb R k w h hl := jn_records X lb R k w h hl
  fast X lb R k w h := jn_fast X lb R k w h
  disk X lb R k w h hl := jn_disk X lb R k w h hl
  nappend a w := jn_nappend a w
  ncompact a w := jn_ncompact a w
  nsync w := jn_nsync w
  nrecords w := jn_nrecords w
  nfast w := jn_nfast w
  ndisk w := jn_ndisk w
end Go.Proofs.Ytfbnckecfapakaa

/-
  An argument that is a slice of bytes, or of points, reads as a list. Conditions: none.
-/
namespace Go.Proofs.Ytfbnckecfapakaa
open Go.RowKit
open Go.ChangeShapes Go.WideShapes Go.ChangeAt
open Pol (co Sm)

section
variable {H : Type} {enc : TypeId × Value → H} {w : World} {base : Nat} {spare : Nat → Bool} {held : Bool}
theorem open_bytes {fuel len cap : Nat} {a : Option Addr} {x : DataW H × List MemPlace} (h : DataW.trod enc Try.prog w base spare held fuel 22 [.slice a len cap] = some x) :
    ∃ l : List Nat, l.length = len ∧ len ≤ cap ∧ Rd w a l := by
  rcases open_ints Try.underlying22 Try.underlying5 (by kernel_rfl) h with ⟨hcs, _⟩ | ⟨a', len', cap', zs, hcs, _, hl, _, hz, _, hcell, hwz⟩
  · simp at hcs
    obtain ⟨rfl, rfl, rfl⟩ := hcs
    exact ⟨[], rfl, Nat.le_refl _, Rd.nil _ _⟩
  · simp at hcs
    obtain ⟨rfl, rfl, rfl⟩ := hcs
    have hlz : len ≤ zs.length := by rw [hz]; split <;> omega
    have hnat : ∀ i, i < zs.length → ∃ n : Nat, zs.getD i 0 = (n : Int) ∧ n < 256 := fun i hi => by
      have hm : zs.getD i 0 ∈ zs := by rw [List.getD_eq_getElem?_getD, List.getElem?_eq_getElem hi]; exact List.getElem_mem hi
      exact nat_u8 (hwz _ hm)
    refine ⟨(List.range len).map (fun i => (zs.getD i 0).toNat), by simp, hl, ?_, fun i hi => ?_⟩
    · refine Pol.co_lt_of (fun v hv => ?_)
      obtain ⟨i, hi, rfl⟩ := List.mem_map.1 hv
      obtain ⟨n, hn, hn'⟩ := hnat i (by have := List.mem_range.1 hi; omega)
      show (zs.getD i 0).toNat < 256
      rw [hn]; omega
    · have hi' : i < len := by simpa using hi
      obtain ⟨b, o, rfl, hc⟩ := ints_at hcell (by omega)
      refine ⟨b, o, rfl, ?_⟩
      rw [hc i (by omega)]
      obtain ⟨n, hn, _⟩ := hnat i (by omega)
      congr 2
      unfold co
      rw [List.getElem?_map, List.getElem?_range hi']
      show zs.getD i 0 = (((zs.getD i 0).toNat : Nat) : Int)
      rw [hn]; omega
end
end Go.Proofs.Ytfbnckecfapakaa
