/-
  Part 7 of the texts that the seat's proofs stand on; each part of it begins with its own sentence and conditions. Conditions: those that each theorem names.
-/
import Derived.Test.YtjifionpblpfoaaDoorBackPack6
import Derived.Laws.CopyOwn
import Derived.Test.YtjifionpblpfoaaDoorProg
import Derived.StillTailTactics
import Derived.Lib.Hide

/-
  EnvelopeBack, walked. Conditions: those of EnvMk, EnvCd, ShaOH.
-/
namespace Go.Proofs.YtjifionpblpfoaaDoor
open Go.RowKit
open Pol (co Sm)

set_option maxHeartbeats 12800000 in
set_option maxRecDepth 100000 in
theorem back16_walk (M : EnvMk) (C : EnvCd) (S : ShaOH) (s so : Int) (nn f x k c no fo xo ko co np cp : Nat) (b bo p : List Nat) (A Ao B : Option Addr) (w : World) (hgl : GL w)
    (hb : b.length = k) (hbc : k ≤ c) (hr : Rd w A b) (hbo : bo.length = ko) (hboc : ko ≤ co) (hro : Rd w Ao bo) (hp : p.length = np) (hpc : np ≤ cp) (hq : Rd w B p)
    (h1 : nn < 18446744073709551616) (h2 : f < 18446744073709551616) (h3 : x < 18446744073709551616) (q1 : no < 18446744073709551616) (q2 : fo < 18446744073709551616) (q3 : xo < 18446744073709551616) :
    Calls Tryd.prog 4 #[evv s nn f x A k c, evv so no fo xo Ao ko co, .slice B np cp] w (Holds w) := by
  have hx0 := ((Ext.refl w).alloc (.cells #[.int .i64 s, .int .u64 (nn : Int), .int .u64 (f : Int), .int .u64 (x : Int), .slice A k c] 25)).alloc (.cells #[.int .i64 so, .int .u64 (no : Int), .int .u64 (fo : Int), .int .u64 (xo : Int), .slice Ao ko co] 25)
  have HX := Lib.hid hx0
  have HG := Lib.hid (show ((w.alloc (.cells #[.int .i64 s, .int .u64 (nn : Int), .int .u64 (f : Int), .int .u64 (x : Int), .slice A k c] 25)).alloc (.cells #[.int .i64 so, .int .u64 (no : Int), .int .u64 (fo : Int), .int .u64 (xo : Int), .slice Ao ko co] 25)).heap[w.heap.size]? = some (.cells #[.int .i64 s, .int .u64 (nn : Int), .int .u64 (f : Int), .int .u64 (x : Int), .slice A k c] 25) from by
    rw [heap_alloc_old _ _ (by simp)]
    exact heap_alloc_new w _)
  have HGO := Lib.hid (show ((w.alloc (.cells #[.int .i64 s, .int .u64 (nn : Int), .int .u64 (f : Int), .int .u64 (x : Int), .slice A k c] 25)).alloc (.cells #[.int .i64 so, .int .u64 (no : Int), .int .u64 (fo : Int), .int .u64 (xo : Int), .slice Ao ko co] 25)).heap[w.heap.size + 1]? = some (.cells #[.int .i64 so, .int .u64 (no : Int), .int .u64 (fo : Int), .int .u64 (xo : Int), .slice Ao ko co] 25) from by
    have h := heap_alloc_new (w.alloc (.cells #[.int .i64 s, .int .u64 (nn : Int), .int .u64 (f : Int), .int .u64 (x : Int), .slice A k c] 25)) (.cells #[.int .i64 so, .int .u64 (no : Int), .int .u64 (fo : Int), .int .u64 (xo : Int), .slice Ao ko co] 25)
    rwa [show (w.alloc (.cells #[.int .i64 s, .int .u64 (nn : Int), .int .u64 (f : Int), .int .u64 (x : Int), .slice A k c] 25)).heap.size = w.heap.size + 1 from by simp] at h)
  have HRP := Lib.hid (hq.ext hx0)
  have HGL := Lib.hid (hgl.ext hx0)
  have HAW := Lib.hid (fun u (_ : Ext w u) => awake16 M u)
  clear hx0
  by_cases u : 100 < k
  · have u1 : decide ((k : Int) > 100) = true := decide_eq_true (by omega)
    have u2 : decide (100 < (k : Int)) = true := decide_eq_true (by omega)
    clear HRP HGL hr hro hq hgl M C S
    go_enter Tryd.func4, Tryd.ntmps4
    go_wp2_with fail
    refine (HAW.out _ HX.out).mono ?_
    rintro e w1 ⟨rfl, hx⟩
    replace HX := Lib.hid (HX.out.trans (hx))
    replace HG := Lib.hid ((hx).row HG.out)
    replace HGO := Lib.hid ((hx).row HGO.out)
    have g4 := cell_of_row _ _ 4 _ _ _ HG.out
    have o4 := cell_of_row _ _ 4 _ _ _ HGO.out
    clear hx
    go_wp2_with fail
    refine (HAW.out _ HX.out).mono ?_
    rintro e w2 ⟨rfl, hx⟩
    replace HX := Lib.hid (HX.out.trans (hx))
    replace HG := Lib.hid ((hx).row HG.out)
    replace HGO := Lib.hid ((hx).row HGO.out)
    clear hx
    go_wp2
    go_ret
    exact ⟨rfl, HX.out⟩
  have u1 : decide ((k : Int) > 100) = false := decide_eq_false (by omega)
  have u2 : decide (100 < (k : Int)) = false := decide_eq_false (by omega)
  by_cases v : 100 < ko
  · have v1 : decide ((ko : Int) > 100) = true := decide_eq_true (by omega)
    have v2 : decide (100 < (ko : Int)) = true := decide_eq_true (by omega)
    clear HRP HGL hr hro hq hgl M C S
    go_enter Tryd.func4, Tryd.ntmps4
    go_wp2_with fail
    refine (HAW.out _ HX.out).mono ?_
    rintro e w1 ⟨rfl, hx⟩
    replace HX := Lib.hid (HX.out.trans (hx))
    replace HG := Lib.hid ((hx).row HG.out)
    replace HGO := Lib.hid ((hx).row HGO.out)
    have g4 := cell_of_row _ _ 4 _ _ _ HG.out
    have o4 := cell_of_row _ _ 4 _ _ _ HGO.out
    clear hx
    go_wp2_with fail
    refine (HAW.out _ HX.out).mono ?_
    rintro e w2 ⟨rfl, hx⟩
    replace HX := Lib.hid (HX.out.trans (hx))
    replace HG := Lib.hid ((hx).row HG.out)
    replace HGO := Lib.hid ((hx).row HGO.out)
    clear hx
    go_wp2
    go_ret
    exact ⟨rfl, HX.out⟩
  have v1 : decide ((ko : Int) > 100) = false := decide_eq_false (by omega)
  have v2 : decide (100 < (ko : Int)) = false := decide_eq_false (by omega)
  by_cases y : 200 < np
  · have y1 : decide ((np : Int) > 200) = true := decide_eq_true (by omega)
    have y2 : decide (200 < (np : Int)) = true := decide_eq_true (by omega)
    clear HRP HGL hr hro hq hgl M C S
    go_enter Tryd.func4, Tryd.ntmps4
    go_wp2_with fail
    refine (HAW.out _ HX.out).mono ?_
    rintro e w1 ⟨rfl, hx⟩
    replace HX := Lib.hid (HX.out.trans (hx))
    replace HG := Lib.hid ((hx).row HG.out)
    replace HGO := Lib.hid ((hx).row HGO.out)
    have g4 := cell_of_row _ _ 4 _ _ _ HG.out
    have o4 := cell_of_row _ _ 4 _ _ _ HGO.out
    clear hx
    go_wp2_with fail
    refine (HAW.out _ HX.out).mono ?_
    rintro e w2 ⟨rfl, hx⟩
    replace HX := Lib.hid (HX.out.trans (hx))
    replace HG := Lib.hid ((hx).row HG.out)
    replace HGO := Lib.hid ((hx).row HGO.out)
    clear hx
    go_wp2
    go_ret
    exact ⟨rfl, HX.out⟩
  have y1 : decide ((np : Int) > 200) = false := decide_eq_false (by omega)
  have y2 : decide (200 < (np : Int)) = false := decide_eq_false (by omega)
  have HEN := Lib.hid (fun u (hu : Ext w u) => C.enc s nn f x k c b A u hb hbc (hr.ext hu) (by omega) h1 h2 h3)
  have HEO := Lib.hid (fun u (hu : Ext w u) => C.enc so no fo xo ko co bo Ao u hbo hboc (hro.ext hu) (by omega) q1 q2 q3)
  have HDE := Lib.hid (fun u (hu : Ext w u) => C.dec p B np cp u hp hpc (hq.ext hu) (by omega))
  have HID := Lib.hid (fun u (hu : Ext w u) (hg : GL u) => C.id s nn f x k c b A u hg hb hbc (hr.ext hu) (by omega) h1 h2 h3)
  have HIO := Lib.hid (fun u (hu : Ext w u) (hg : GL u) => C.id so no fo xo ko co bo Ao u hg hbo hboc (hro.ext hu) (by omega) q1 q2 q3)
  have HSB := Lib.hid (Ev.bytes_sm (o := ⟨s, nn, f, x, b⟩) hr.1)
  have HSO := Lib.hid (Ev.bytes_sm (o := ⟨so, no, fo, xo, bo⟩) hro.1)
  have hfit : (Ev.mk s nn f x b).Fit := ⟨h1, h2, h3, hr.1⟩
  have hfio : (Ev.mk so no fo xo bo).Fit := ⟨q1, q2, q3, hro.1⟩
  have hlen := Ev.bytes_len hfit
  have hleo := Ev.bytes_len hfio
  have HSS := Lib.hid (fun u (hu : Ext w u) => ref16_same s so nn f x k c no fo xo ko co b bo A Ao u hb hbo (hr.ext hu) (hro.ext hu) (by omega))
  have HFD := dec16_fit hq.1
  have HDK := dec16_ok hq.1
  have HDX := Lib.hid (fun u B1 n1 c1 (g1 : (Ev.bytes ⟨s, nn, f, x, b⟩).length = n1) (g2 : n1 ≤ c1) (g3 : Rd u B1 (Ev.bytes ⟨s, nn, f, x, b⟩)) => C.dec (Ev.bytes ⟨s, nn, f, x, b⟩) B1 n1 c1 u g1 g2 g3 (by omega))
  have HFX := dec16_fit HSB.out
  have HOF0 := fun (B1 : Option Addr) (c1 : Nat) u (g : GL u) (h : Rd u B1 (Ev.bytes ⟨s, nn, f, x, b⟩)) hc => S.of (Ev.bytes ⟨s, nn, f, x, b⟩) B1 c1 u g h hc (by omega)
  have HOG0 := fun (B1 : Option Addr) (c1 : Nat) u (g : GL u) (h : Rd u B1 (Ev.bytes ⟨so, no, fo, xo, bo⟩)) hc => S.of (Ev.bytes ⟨so, no, fo, xo, bo⟩) B1 c1 u g h hc (by omega)
  have hOK := Ev.chk_ok (e := ⟨s, nn, f, x, b⟩)
  have hOO := Ev.chk_ok (e := ⟨so, no, fo, xo, bo⟩)
  have HIS := Lib.hid (fun (g : Ev.chk ⟨s, nn, f, x, b⟩ = 0) (g' : Ev.chk ⟨so, no, fo, xo, bo⟩ = 0) (h : idv sha ⟨s, nn, f, x, b⟩ = idv sha ⟨so, no, fo, xo, bo⟩) => show sha (Ev.bytes ⟨s, nn, f, x, b⟩) = sha (Ev.bytes ⟨so, no, fo, xo, bo⟩) from by
    rw [idv_ok (hOK.1 g), idv_ok (hOO.1 g')] at h
    rw [Ev.bytes_ok (hOK.1 g), Ev.bytes_ok (hOO.1 g')]
    exact h)
  have HON := Lib.hid (fun (g : Ev.chk ⟨s, nn, f, x, b⟩ = 0) (g' : Ev.chk ⟨so, no, fo, xo, bo⟩ = 0) (h : Ev.bytes ⟨s, nn, f, x, b⟩ = Ev.bytes ⟨so, no, fo, xo, bo⟩) => show Ev.Same ⟨s, nn, f, x, b⟩ ⟨so, no, fo, xo, bo⟩ from by
    rw [Ev.bytes_ok (hOK.1 g), Ev.bytes_ok (hOO.1 g')] at h
    exact Ev.same_iff.2 ((Ev.enc_one (hOK.1 g) (hOO.1 g') hfit hfio).1 h))
  have hXX : Ev.chk ⟨s, nn, f, x, b⟩ = 0 → dec16 (Ev.bytes ⟨s, nn, f, x, b⟩) = (0, ⟨s, nn, f, x, b⟩) := fun g => by
    rw [Ev.bytes_ok (hOK.1 g)]
    exact dec16_enc (hOK.1 g) hfit
  obtain ⟨ck, hck⟩ : ∃ q, Ev.chk ⟨s, nn, f, x, b⟩ = q := ⟨_, rfl⟩
  obtain ⟨cj, hcj⟩ : ∃ q, Ev.chk ⟨so, no, fo, xo, bo⟩ = q := ⟨_, rfl⟩
  obtain ⟨BY, hBY⟩ : ∃ q, Ev.bytes ⟨s, nn, f, x, b⟩ = q := ⟨_, rfl⟩
  obtain ⟨YO, hYO⟩ : ∃ q, Ev.bytes ⟨so, no, fo, xo, bo⟩ = q := ⟨_, rfl⟩
  obtain ⟨z, ⟨s', n', f', x', b'⟩, hdc⟩ : ∃ z q, dec16 p = (z, q) := ⟨_, _, rfl⟩
  unfold EncO at HEN HEO
  unfold DecO at HDE HDX
  unfold DgS at HID HIO HOF0 HOG0
  rw [hck, hBY] at HEN HIS HON
  rw [hcj, hYO] at HEO HIS HON
  rw [hck, hBY] at hXX
  rw [hBY] at HSB HDX HOF0 hlen HFX
  rw [hYO] at HSO HOG0 hleo
  rw [hdc] at HDE HFD HDK
  dsimp only at HDE HFD HDK
  have HSD := Lib.hid HFD.1.b
  have hl2 := HFD.2
  have hd1 := HFD.1.n
  have hd2 := HFD.1.f
  have hd3 := HFD.1.x
  have HED := Lib.hid (fun u B1 n1 c1 (g1 : b'.length = n1) (g2 : n1 ≤ c1) (g3 : Rd u B1 b') => C.enc s' n' f' x' n1 c1 b' B1 u g1 g2 g3 (by omega) hd1 hd2 hd3)
  unfold EncO at HED
  have HSY := Lib.hid (Ev.bytes_sm (o := ⟨s', n', f', x', b'⟩) HFD.1.b)
  have hley := Ev.bytes_len (o := ⟨s', n', f', x', b'⟩) HFD.1
  have HZD := Lib.hid (fun (h : z = 0) => show Ev.chk ⟨s', n', f', x', b'⟩ = 0 from Ev.chk_ok.2 (HDK h).1)
  have HZY := Lib.hid (fun (h : z = 0) => show Ev.bytes ⟨s', n', f', x', b'⟩ = p from by rw [Ev.bytes_ok (HDK h).1]; exact (HDK h).2.1)
  obtain ⟨YD, hYD⟩ : ∃ q, Ev.bytes ⟨s', n', f', x', b'⟩ = q := ⟨_, rfl⟩
  obtain ⟨ci, hci⟩ : ∃ q, Ev.chk ⟨s', n', f', x', b'⟩ = q := ⟨_, rfl⟩
  rw [hYD] at HED HSY HZY hley
  rw [hci] at HED HZD
  have HSP := Lib.hid (fun u B1 n1 c1 (g0 : YD = p) (g1 : YD.length = n1) (a1 : Rd u B1 YD) (a2 : Rd u B p) => show Calls Tryd.prog 15 #[.slice B1 n1 c1, .slice B np cp] u (Tells (.bool true) u) from by
    have h := same14 YD p B1 B n1 np c1 cp u g1 hp a1 a2 (by omega)
    rwa [decide_eq_true g0] at h)
  have HNE := Lib.hid (fun u B1 B2 n1 n2 c1 c2 (g1 : BY.length = n1) (g2 : YO.length = n2) (a1 : Rd u B1 BY) (a2 : Rd u B2 YO) => same14 BY YO B1 B2 n1 n2 c1 c2 u g1 g2 a1 a2 (by omega))
  obtain ⟨n1, hn1⟩ : ∃ q, BY.length = q := ⟨_, rfl⟩
  have HN1 := Lib.hid hn1
  have HOF := Lib.hid (fun (B1 : Option Addr) (c1 : Nat) u (g : GL u) (h : Rd u B1 BY) (hc : n1 ≤ c1) => show Calls Tryd.prog 19 #[.slice B1 n1 c1] u (DgS (sha BY) u) from by rw [← hn1]; exact HOF0 B1 c1 u g h (by omega))
  have HOG := Lib.hid (fun (B1 : Option Addr) (n2 c1 : Nat) u (g' : YO.length = n2) (g : GL u) (h : Rd u B1 YO) (hc : n2 ≤ c1) => show Calls Tryd.prog 19 #[.slice B1 n2 c1] u (DgS (sha YO) u) from by rw [← g']; exact HOG0 B1 c1 u g h (by omega))
  unfold DgS at HOF HOG
  clear HOF0 HOG0
  by_cases hk0 : ck = 0
  · subst hk0
    have HKB := Lib.hid hb
    have HSE := Lib.hid hfit.b
    rw [hXX rfl] at HDX
    dsimp only at HDX
    have HSI := Lib.hid (fun u (hu : Ext w u) B1 c1 (a1 : Rd u B1 b) => show Calls Tryd.prog 18 #[evv s nn f x B1 k c1, evv s nn f x A k c] u (Tells (.bool true) u) from by
      have h := ref16_same s s nn f x k c1 nn f x k c b b B1 A u hb hb a1 (hr.ext hu) (by omega)
      rwa [show decide (Ev.Same ⟨s, nn, f, x, b⟩ ⟨s, nn, f, x, b⟩) = true from decide_eq_true ⟨rfl, rfl, rfl, rfl, rfl⟩] at h)
    replace HIS := Lib.hid (fun g h => HIS.out rfl g h)
    replace HON := Lib.hid (fun g h => HON.out rfl g h)
    have HOO := Lib.hid hOO
    clear hr hro hq hgl M C S HFD HDK HFX hlen hleo hley hOK hOO hXX hck hcj hBY hYO hYD hci hdc hl2 hd1 hd2 hd3 hb hbo hp hfit hfio hn1
    go_enter Tryd.func4, Tryd.ntmps4
    go_wp2_with fail
    refine (HAW.out _ HX.out).mono ?_
    rintro e w1 ⟨rfl, hx⟩
    replace HX := Lib.hid (HX.out.trans (hx))
    replace HG := Lib.hid ((hx).row HG.out)
    replace HGO := Lib.hid ((hx).row HGO.out)
    replace HRP := Lib.hid (HRP.out.ext (hx))
    replace HGL := Lib.hid (HGL.out.ext (hx))
    have g4 := cell_of_row _ _ 4 _ _ _ HG.out
    have o4 := cell_of_row _ _ 4 _ _ _ HGO.out
    clear hx
    go_wp2_with (with_reducible refine wpList_load_row rfl 25 (.tmp 3) rfl (w.heap.size) rfl 25 #[.int .i64 s, .int .u64 (nn : Int), .int .u64 (f : Int), .int .u64 (x : Int), .slice A k c] (0, 0) _ HG.out Tryd.underlying25 rfl ev_in16 ?_)
    refine (HEN.out w1 HX.out).mono ?_
    rintro e w2 ⟨v1, rfl, hm, hx⟩
    replace HX := Lib.hid (HX.out.trans (hx))
    replace HG := Lib.hid ((hx).row HG.out)
    replace HGO := Lib.hid ((hx).row HGO.out)
    replace HRP := Lib.hid (HRP.out.ext (hx))
    replace HGL := Lib.hid (HGL.out.ext (hx))
    clear g4 o4
    obtain ⟨B1, c1, rfl, hc1, hr1⟩ := hm.slice HSB.out
    rw [HN1.out] at hc1 ⊢
    have HR1 := Lib.hid hr1
    clear hm hr1 hx
    go_wp2_with fail
    refine (HDX.out w2 B1 n1 c1 HN1.out hc1 HR1.out).mono ?_
    rintro e w3 ⟨v3, rfl, hm, hx⟩
    replace HX := Lib.hid (HX.out.trans (hx))
    replace HG := Lib.hid ((hx).row HG.out)
    replace HGO := Lib.hid ((hx).row HGO.out)
    replace HRP := Lib.hid (HRP.out.ext (hx))
    replace HGL := Lib.hid (HGL.out.ext (hx))
    replace HR1 := Lib.hid (HR1.out.ext (hx))
    obtain ⟨B3, c3, rfl, hc3, hr3⟩ := hm.slice HSE.out
    rw [HKB.out] at hc3 ⊢
    have hxa := (Ext.refl w3).alloc (.cells #[.int .i64 s, .int .u64 (nn : Int), .int .u64 (f : Int), .int .u64 (x : Int), .slice B3 k c3] 25)
    replace HX := Lib.hid (HX.out.trans (hxa))
    replace HG := Lib.hid ((hxa).row HG.out)
    replace HGO := Lib.hid ((hxa).row HGO.out)
    replace HRP := Lib.hid (HRP.out.ext (hxa))
    replace HGL := Lib.hid (HGL.out.ext (hxa))
    replace HR1 := Lib.hid (HR1.out.ext (hxa))
    have HD := Lib.hid (heap_alloc_new w3 (.cells #[.int .i64 s, .int .u64 (nn : Int), .int .u64 (f : Int), .int .u64 (x : Int), .slice B3 k c3] 25))
    have HR3 := Lib.hid (hr3.ext hxa)
    clear hm hr3 hx hxa
    go_wp2_with (first | (refine wpList_load_row_g (by first | rfl | go_simp) 25 (.tmp 9) rfl (w3.heap.size) rfl 25 #[.int .i64 s, .int .u64 (nn : Int), .int .u64 (f : Int), .int .u64 (x : Int), .slice B3 k c3] (0, 0) _ HD.out Tryd.underlying25 rfl ev_in16 ?_) | (refine wpList_load_row_g (by first | rfl | go_simp) 25 (.tmp 3) rfl (w.heap.size) rfl 25 #[.int .i64 s, .int .u64 (nn : Int), .int .u64 (f : Int), .int .u64 (x : Int), .slice A k c] (0, 0) _ HG.out Tryd.underlying25 rfl ev_in16 ?_))
    refine (HSI.out _ HX.out B3 c3 HR3.out).mono ?_
    rintro e w4 ⟨rfl, hx⟩
    replace HX := Lib.hid (HX.out.trans (hx))
    replace HG := Lib.hid ((hx).row HG.out)
    replace HGO := Lib.hid ((hx).row HGO.out)
    replace HRP := Lib.hid (HRP.out.ext (hx))
    replace HGL := Lib.hid (HGL.out.ext (hx))
    replace HR1 := Lib.hid (HR1.out.ext (hx))
    replace HD := Lib.hid ((hx).row HD.out)
    replace HR3 := Lib.hid (HR3.out.ext (hx))
    clear hx HD HR3
    go_wp2_with fail
    refine (HDE.out _ HX.out).mono ?_
    rintro e w5 ⟨v5, rfl, hm, hx⟩
    replace HX := Lib.hid (HX.out.trans (hx))
    replace HG := Lib.hid ((hx).row HG.out)
    replace HGO := Lib.hid ((hx).row HGO.out)
    replace HRP := Lib.hid (HRP.out.ext (hx))
    replace HR1 := Lib.hid (HR1.out.ext (hx))
    replace HGL := Lib.hid (HGL.out.ext (hx))
    obtain ⟨B5, c5, rfl, hc5, hr5⟩ := hm.slice HSD.out
    obtain ⟨n5, hn5⟩ : ∃ q, b'.length = q := ⟨_, rfl⟩
    rw [hn5] at hc5 ⊢
    have hxa := (Ext.refl w5).alloc (.cells #[.int .i64 s', .int .u64 (n' : Int), .int .u64 (f' : Int), .int .u64 (x' : Int), .slice B5 n5 c5] 25)
    replace HX := Lib.hid (HX.out.trans (hxa))
    replace HG := Lib.hid ((hxa).row HG.out)
    replace HGO := Lib.hid ((hxa).row HGO.out)
    replace HRP := Lib.hid (HRP.out.ext (hxa))
    replace HR1 := Lib.hid (HR1.out.ext (hxa))
    replace HGL := Lib.hid (HGL.out.ext (hxa))
    have HW := Lib.hid (heap_alloc_new w5 (.cells #[.int .i64 s', .int .u64 (n' : Int), .int .u64 (f' : Int), .int .u64 (x' : Int), .slice B5 n5 c5] 25))
    have HR5 := Lib.hid (hr5.ext hxa)
    have HN5 := Lib.hid hn5
    have HC5 := Lib.hid hc5
    clear hm hr5 hn5 hc5 hx hxa
    go_wp2_with (with_reducible refine wpList_load_row rfl 25 (.tmp 11) rfl (w5.heap.size) rfl 25 #[.int .i64 s', .int .u64 (n' : Int), .int .u64 (f' : Int), .int .u64 (x' : Int), .slice B5 n5 c5] (0, 0) _ HW.out Tryd.underlying25 rfl ev_in16 ?_)
    refine (HED.out _ B5 n5 c5 HN5.out HC5.out HR5.out).mono ?_
    rintro e w6 ⟨v6, rfl, hm, hx⟩
    replace HX := Lib.hid (HX.out.trans (hx))
    replace HG := Lib.hid ((hx).row HG.out)
    replace HGO := Lib.hid ((hx).row HGO.out)
    replace HRP := Lib.hid (HRP.out.ext (hx))
    replace HR1 := Lib.hid (HR1.out.ext (hx))
    replace HGL := Lib.hid (HGL.out.ext (hx))
    replace HW := Lib.hid ((hx).row HW.out)
    replace HR5 := Lib.hid (HR5.out.ext (hx))
    obtain ⟨B6, c6, rfl, hc6, hr6⟩ := hm.slice HSY.out
    obtain ⟨n6, hn6⟩ : ∃ q, YD.length = q := ⟨_, rfl⟩
    rw [hn6] at hc6 ⊢
    have HR6 := Lib.hid hr6
    have HN6 := Lib.hid hn6
    clear hm hr6 hn6 hc6 hx
    clear HW HR5
    clear HN5 HC5
    by_cases hz : z = 0
    · subst hz
      have hi : ci = 0 := HZD.out rfl
      subst hi
      have hyp := HZY.out rfl
      go_wp2_with fail
      refine (HSP.out _ B6 n6 c6 hyp HN6.out HR6.out HRP.out).mono ?_
      rintro e w7 ⟨rfl, hx⟩
      replace HX := Lib.hid (HX.out.trans (hx))
      replace HG := Lib.hid ((hx).row HG.out)
      replace HGO := Lib.hid ((hx).row HGO.out)
      replace HRP := Lib.hid (HRP.out.ext (hx))
      replace HR1 := Lib.hid (HR1.out.ext (hx))
      replace HGL := Lib.hid (HGL.out.ext (hx))
      replace HR6 := Lib.hid (HR6.out.ext (hx))
      clear hx hyp
      go_wp2_with (with_reducible refine wpList_load_row rfl 25 (.tmp 4) rfl (w.heap.size + 1) rfl 25 #[.int .i64 so, .int .u64 (no : Int), .int .u64 (fo : Int), .int .u64 (xo : Int), .slice Ao ko co] (0, 0) _ HGO.out Tryd.underlying25 rfl ev_in16 ?_)
      refine (HEO.out _ HX.out).mono ?_
      rintro e w8 ⟨v8, rfl, hm, hx⟩
      replace HX := Lib.hid (HX.out.trans (hx))
      replace HG := Lib.hid ((hx).row HG.out)
      replace HGO := Lib.hid ((hx).row HGO.out)
      replace HRP := Lib.hid (HRP.out.ext (hx))
      replace HR1 := Lib.hid (HR1.out.ext (hx))
      replace HGL := Lib.hid (HGL.out.ext (hx))
      replace HR6 := Lib.hid (HR6.out.ext (hx))
      obtain ⟨B8, c8, rfl, hc8, hr8⟩ := hm.slice HSO.out
      obtain ⟨n8, hn8⟩ : ∃ q, YO.length = q := ⟨_, rfl⟩
      rw [hn8] at hc8 ⊢
      have HR8 := Lib.hid hr8
      have HN8 := Lib.hid hn8
      clear hm hr8 hn8 hx
      by_cases hj : cj = 0
      · have hj : cj = 0 := hj
        subst hj
        have hoo := HOO.out
        go_wp2
        have HLE := Lib.hid (fun (W : World) (h : Ext w8 W) => show (Instr.loadAt 25 (.pointer (some ⟨w.heap.size, 0, none⟩))).run Tryd.prog W = .ok (.agg #[.int .i64 s, .int .u64 (nn : Int), .int .u64 (f : Int), .int .u64 (x : Int), .slice A k c]) W from load_ev16 (h.row HG.out))
        have HLO := Lib.hid (fun (W : World) (h : Ext w8 W) => show (Instr.loadAt 25 (.pointer (some ⟨w.heap.size + 1, 0, none⟩))).run Tryd.prog W = .ok (.agg #[.int .i64 so, .int .u64 (no : Int), .int .u64 (fo : Int), .int .u64 (xo : Int), .slice Ao ko co]) W from load_ev16 (h.row HGO.out))
        by_cases hid : idv sha ⟨s, nn, f, x, b⟩ = idv sha ⟨so, no, fo, xo, bo⟩
        · refine wp_region_stab (Ext w8) [0, 1, 2, 3, 4, 5, 6, 7, 8, 9, 10, 11, 12] [(0, true), (1, true), (2, true), (3, true), (4, true), (5, true), (6, true), (7, true), (9, true), (8, false), (10, false), (11, true), (12, true)] (by kernel_rfl) (fun c a a' w e h => ⟨e ▸ h.1, h.2⟩) (by kernel_rfl) (Ext.refl w8).drew ?_
          have hdr := (Ext.refl w8).drew
          replace HX := Lib.hid (HX.out.trans (hdr))
          replace HG := Lib.hid ((hdr).row HG.out)
          replace HGO := Lib.hid ((hdr).row HGO.out)
          replace HRP := Lib.hid (HRP.out.ext (hdr))
          replace HR1 := Lib.hid (HR1.out.ext (hdr))
          replace HGL := Lib.hid (HGL.out.ext (hdr))
          replace HR6 := Lib.hid (HR6.out.ext (hdr))
          replace HR8 := Lib.hid (HR8.out.ext (hdr))
          have HXC := Lib.hid hdr
          generalize w8.drew = W0 at *
          clear hdr
          refine stab_yes rfl (fun K hK => ?_); go_simp; refine ⟨_, fun _ _ => rfl, hK _ ?_⟩; clear hK K
          refine stab_yes rfl (fun K hK => ?_); go_simp; refine ⟨_, fun _ _ => rfl, hK _ ?_⟩; clear hK K
          refine stab_yes rfl (fun K hK => ?_); go_simp; refine ⟨_, fun _ _ => rfl, hK _ ?_⟩; clear hK K
          refine stab_yes rfl (fun K hK => ?_); go_simp; refine ⟨_, fun _ _ => rfl, hK _ ?_⟩; clear hK K
          refine stab_yes rfl (fun K hK => ?_); go_simp; refine ⟨_, fun _ _ => rfl, hK _ ?_⟩; clear hK K
          refine stab_yes rfl (fun K hK => ?_); go_simp; refine ⟨_, fun _ _ => rfl, hK _ ?_⟩; clear hK K
          refine stab_yes rfl (fun K hK => ?_); go_simp; refine ⟨_, fun _ _ => rfl, hK _ ?_⟩; clear hK K
          refine stab_load rfl 25 (.tmp 3) rfl (.agg #[.int .i64 s, .int .u64 (nn : Int), .int .u64 (f : Int), .int .u64 (x : Int), .slice A k c]) (by first | rfl | go_simp) (fun W hW => HLE.out W hW) ?_
          refine stab_load rfl 25 (.tmp 4) rfl (.agg #[.int .i64 so, .int .u64 (no : Int), .int .u64 (fo : Int), .int .u64 (xo : Int), .slice Ao ko co]) (by first | rfl | go_simp) (fun W hW => HLO.out W hW) ?_
          refine stab_one rfl (fun K hK => ?_)
          go_wp2_with fail
          refine (HID.out _ HX.out HGL.out).mono ?_
          rintro e w9 ⟨V, rfl, hV, hx⟩
          replace HX := Lib.hid (HX.out.trans (hx))
          replace HG := Lib.hid ((hx).row HG.out)
          replace HGO := Lib.hid ((hx).row HGO.out)
          replace HRP := Lib.hid (HRP.out.ext (hx))
          replace HR1 := Lib.hid (HR1.out.ext (hx))
          replace HGL := Lib.hid (HGL.out.ext (hx))
          replace HR6 := Lib.hid (HR6.out.ext (hx))
          replace HR8 := Lib.hid (HR8.out.ext (hx))
          replace HXC := Lib.hid (HXC.out.trans (hx))
          clear hx
          go_wp2_with fail
          refine ⟨fun _ => HXC.out, ?_⟩
          refine stab_one rfl (fun K hK => ?_)
          go_wp2_with fail
          refine (HIO.out _ HX.out HGL.out).mono ?_
          rintro e w10 ⟨V2, rfl, hV2, hx⟩
          replace HX := Lib.hid (HX.out.trans (hx))
          replace HG := Lib.hid ((hx).row HG.out)
          replace HGO := Lib.hid ((hx).row HGO.out)
          replace HRP := Lib.hid (HRP.out.ext (hx))
          replace HR1 := Lib.hid (HR1.out.ext (hx))
          replace HGL := Lib.hid (HGL.out.ext (hx))
          replace HR6 := Lib.hid (HR6.out.ext (hx))
          replace HR8 := Lib.hid (HR8.out.ext (hx))
          replace HXC := Lib.hid (HXC.out.trans (hx))
          have hq := run_ne_dgc hV hV2 (idv_32 _) (idv_32 _) (idv_sm _) (idv_sm _)
          rw [decide_eq_true hid] at hq
          clear hx
          go_wp2_with fail
          refine ⟨fun _ => HXC.out, ?_⟩
          refine stab_yes rfl (fun K hK => ?_); go_simp; refine ⟨_, fun _ _ => rfl, hK _ ?_⟩; clear hK K
          refine stab_yes rfl (fun K hK => ?_); go_simp; refine ⟨_, fun _ _ => rfl, hK _ ?_⟩; clear hK K
          clear HXC
          unfold wpStab
          by_cases hee : Ev.Same ⟨s, nn, f, x, b⟩ ⟨so, no, fo, xo, bo⟩
          · rw [decide_eq_true hee] at HSS
            go_wp2_with (first | (with_reducible refine wpList_load_row rfl 25 (.tmp 3) rfl (w.heap.size) rfl 25 #[.int .i64 s, .int .u64 (nn : Int), .int .u64 (f : Int), .int .u64 (x : Int), .slice A k c] (0, 0) _ HG.out Tryd.underlying25 rfl ev_in16 ?_) | (with_reducible refine wpList_load_row rfl 25 (.tmp 4) rfl (w.heap.size + 1) rfl 25 #[.int .i64 so, .int .u64 (no : Int), .int .u64 (fo : Int), .int .u64 (xo : Int), .slice Ao ko co] (0, 0) _ HGO.out Tryd.underlying25 rfl ev_in16 ?_))
            refine (HSS.out _ HX.out).mono ?_
            rintro e w11 ⟨rfl, hx⟩
            replace HX := Lib.hid (HX.out.trans (hx))
            replace HG := Lib.hid ((hx).row HG.out)
            replace HGO := Lib.hid ((hx).row HGO.out)
            replace HRP := Lib.hid (HRP.out.ext (hx))
            replace HR1 := Lib.hid (HR1.out.ext (hx))
            replace HGL := Lib.hid (HGL.out.ext (hx))
            replace HR6 := Lib.hid (HR6.out.ext (hx))
            replace HR8 := Lib.hid (HR8.out.ext (hx))
            clear hx
            go_wp2
            go_ret
            exact ⟨rfl, HX.out⟩
          · rw [decide_eq_false hee] at HSS
            go_wp2_with (first | (with_reducible refine wpList_load_row rfl 25 (.tmp 3) rfl (w.heap.size) rfl 25 #[.int .i64 s, .int .u64 (nn : Int), .int .u64 (f : Int), .int .u64 (x : Int), .slice A k c] (0, 0) _ HG.out Tryd.underlying25 rfl ev_in16 ?_) | (with_reducible refine wpList_load_row rfl 25 (.tmp 4) rfl (w.heap.size + 1) rfl 25 #[.int .i64 so, .int .u64 (no : Int), .int .u64 (fo : Int), .int .u64 (xo : Int), .slice Ao ko co] (0, 0) _ HGO.out Tryd.underlying25 rfl ev_in16 ?_))
            refine (HSS.out _ HX.out).mono ?_
            rintro e w11 ⟨rfl, hx⟩
            replace HX := Lib.hid (HX.out.trans (hx))
            replace HG := Lib.hid ((hx).row HG.out)
            replace HGO := Lib.hid ((hx).row HGO.out)
            replace HRP := Lib.hid (HRP.out.ext (hx))
            replace HR1 := Lib.hid (HR1.out.ext (hx))
            replace HGL := Lib.hid (HGL.out.ext (hx))
            replace HR6 := Lib.hid (HR6.out.ext (hx))
            replace HR8 := Lib.hid (HR8.out.ext (hx))
            clear hx
            go_wp2_with fail
            refine (HOF.out B1 c1 _ HGL.out HR1.out hc1).mono ?_
            rintro e w12 ⟨V3, rfl, hV3, hx⟩
            replace HX := Lib.hid (HX.out.trans (hx))
            replace HG := Lib.hid ((hx).row HG.out)
            replace HGO := Lib.hid ((hx).row HGO.out)
            replace HRP := Lib.hid (HRP.out.ext (hx))
            replace HR1 := Lib.hid (HR1.out.ext (hx))
            replace HGL := Lib.hid (HGL.out.ext (hx))
            replace HR6 := Lib.hid (HR6.out.ext (hx))
            replace HR8 := Lib.hid (HR8.out.ext (hx))
            clear hx
            go_wp2_with fail
            refine (HOG.out B8 n8 c8 _ HN8.out HGL.out HR8.out hc8).mono ?_
            rintro e w13 ⟨V4, rfl, hV4, hx⟩
            replace HX := Lib.hid (HX.out.trans (hx))
            replace HG := Lib.hid ((hx).row HG.out)
            replace HGO := Lib.hid ((hx).row HGO.out)
            replace HRP := Lib.hid (HRP.out.ext (hx))
            replace HR1 := Lib.hid (HR1.out.ext (hx))
            replace HGL := Lib.hid (HGL.out.ext (hx))
            replace HR6 := Lib.hid (HR6.out.ext (hx))
            replace HR8 := Lib.hid (HR8.out.ext (hx))
            clear hx
            have hq2 := run_eq_dgc hV3 hV4 (sha_len _) (sha_len _) (sha_sm _) (sha_sm _)
            rw [decide_eq_true (HIS.out (by trivial) hid)] at hq2
            go_wp2_with fail
            refine (HNE.out _ B1 B8 n1 n8 c1 c8 HN1.out HN8.out HR1.out HR8.out).mono ?_
            rintro e w14 ⟨rfl, hx⟩
            rw [decide_eq_false (fun hh => hee (HON.out (by trivial) hh))]
            replace HX := Lib.hid (HX.out.trans (hx))
            replace HG := Lib.hid ((hx).row HG.out)
            replace HGO := Lib.hid ((hx).row HGO.out)
            replace HRP := Lib.hid (HRP.out.ext (hx))
            replace HR1 := Lib.hid (HR1.out.ext (hx))
            replace HGL := Lib.hid (HGL.out.ext (hx))
            replace HR6 := Lib.hid (HR6.out.ext (hx))
            replace HR8 := Lib.hid (HR8.out.ext (hx))
            clear hx
            go_wp2
            go_ret
            exact ⟨rfl, HX.out⟩
        · refine wp_region_stab (Ext w8) [0, 1, 2, 3, 4, 5, 6, 7, 8, 9, 10, 11, 12] [(0, true), (1, true), (2, true), (3, true), (4, true), (5, true), (6, true), (7, true), (9, true), (8, false), (10, false), (11, true), (12, true)] (by kernel_rfl) (fun c a a' w e h => ⟨e ▸ h.1, h.2⟩) (by kernel_rfl) (Ext.refl w8).drew ?_
          have hdr := (Ext.refl w8).drew
          replace HX := Lib.hid (HX.out.trans (hdr))
          replace HG := Lib.hid ((hdr).row HG.out)
          replace HGO := Lib.hid ((hdr).row HGO.out)
          replace HRP := Lib.hid (HRP.out.ext (hdr))
          replace HR1 := Lib.hid (HR1.out.ext (hdr))
          replace HGL := Lib.hid (HGL.out.ext (hdr))
          replace HR6 := Lib.hid (HR6.out.ext (hdr))
          replace HR8 := Lib.hid (HR8.out.ext (hdr))
          have HXC := Lib.hid hdr
          generalize w8.drew = W0 at *
          clear hdr
          refine stab_yes rfl (fun K hK => ?_); go_simp; refine ⟨_, fun _ _ => rfl, hK _ ?_⟩; clear hK K
          refine stab_yes rfl (fun K hK => ?_); go_simp; refine ⟨_, fun _ _ => rfl, hK _ ?_⟩; clear hK K
          refine stab_yes rfl (fun K hK => ?_); go_simp; refine ⟨_, fun _ _ => rfl, hK _ ?_⟩; clear hK K
          refine stab_yes rfl (fun K hK => ?_); go_simp; refine ⟨_, fun _ _ => rfl, hK _ ?_⟩; clear hK K
          refine stab_yes rfl (fun K hK => ?_); go_simp; refine ⟨_, fun _ _ => rfl, hK _ ?_⟩; clear hK K
          refine stab_yes rfl (fun K hK => ?_); go_simp; refine ⟨_, fun _ _ => rfl, hK _ ?_⟩; clear hK K
          refine stab_yes rfl (fun K hK => ?_); go_simp; refine ⟨_, fun _ _ => rfl, hK _ ?_⟩; clear hK K
          refine stab_load rfl 25 (.tmp 3) rfl (.agg #[.int .i64 s, .int .u64 (nn : Int), .int .u64 (f : Int), .int .u64 (x : Int), .slice A k c]) (by first | rfl | go_simp) (fun W hW => HLE.out W hW) ?_
          refine stab_load rfl 25 (.tmp 4) rfl (.agg #[.int .i64 so, .int .u64 (no : Int), .int .u64 (fo : Int), .int .u64 (xo : Int), .slice Ao ko co]) (by first | rfl | go_simp) (fun W hW => HLO.out W hW) ?_
          refine stab_one rfl (fun K hK => ?_)
          go_wp2_with fail
          refine (HID.out _ HX.out HGL.out).mono ?_
          rintro e w9 ⟨V, rfl, hV, hx⟩
          replace HX := Lib.hid (HX.out.trans (hx))
          replace HG := Lib.hid ((hx).row HG.out)
          replace HGO := Lib.hid ((hx).row HGO.out)
          replace HRP := Lib.hid (HRP.out.ext (hx))
          replace HR1 := Lib.hid (HR1.out.ext (hx))
          replace HGL := Lib.hid (HGL.out.ext (hx))
          replace HR6 := Lib.hid (HR6.out.ext (hx))
          replace HR8 := Lib.hid (HR8.out.ext (hx))
          replace HXC := Lib.hid (HXC.out.trans (hx))
          clear hx
          go_wp2_with fail
          refine ⟨fun _ => HXC.out, ?_⟩
          refine stab_one rfl (fun K hK => ?_)
          go_wp2_with fail
          refine (HIO.out _ HX.out HGL.out).mono ?_
          rintro e w10 ⟨V2, rfl, hV2, hx⟩
          replace HX := Lib.hid (HX.out.trans (hx))
          replace HG := Lib.hid ((hx).row HG.out)
          replace HGO := Lib.hid ((hx).row HGO.out)
          replace HRP := Lib.hid (HRP.out.ext (hx))
          replace HR1 := Lib.hid (HR1.out.ext (hx))
          replace HGL := Lib.hid (HGL.out.ext (hx))
          replace HR6 := Lib.hid (HR6.out.ext (hx))
          replace HR8 := Lib.hid (HR8.out.ext (hx))
          replace HXC := Lib.hid (HXC.out.trans (hx))
          have hq := run_ne_dgc hV hV2 (idv_32 _) (idv_32 _) (idv_sm _) (idv_sm _)
          rw [decide_eq_false hid] at hq
          clear hx
          go_wp2_with fail
          refine ⟨fun _ => HXC.out, ?_⟩
          refine stab_yes rfl (fun K hK => ?_); go_simp; refine ⟨_, fun _ _ => rfl, hK _ ?_⟩; clear hK K
          refine stab_yes rfl (fun K hK => ?_); go_simp; refine ⟨_, fun _ _ => rfl, hK _ ?_⟩; clear hK K
          clear HXC
          unfold wpStab
          go_wp2
          go_ret
          exact ⟨rfl, HX.out⟩
      · have hj : cj ≠ 0 := hj
        have j1 : ((cj : Int) == 0) = false := by simp; omega
        have j2 : ((cj : Int) != 0) = true := by simp; omega
        have j3 : decide ((cj : Int) = 0) = false := decide_eq_false (by omega)
        have j4 : decide (cj = 0) = false := decide_eq_false (by omega)
        clear hj
        go_wp2
        go_quiet (fail)
        go_wp2
        go_ret
        exact ⟨rfl, HX.out.drewN nq⟩
    · have z1 : ((z : Int) == 0) = false := by simp; omega
      have z2 : ((z : Int) != 0) = true := by simp; omega
      have z3 : decide ((z : Int) = 0) = false := decide_eq_false (by omega)
      have z4 : decide (z = 0) = false := decide_eq_false (by omega)
      clear hz
      go_wp2_with (with_reducible refine wpList_load_row rfl 25 (.tmp 4) rfl (w.heap.size + 1) rfl 25 #[.int .i64 so, .int .u64 (no : Int), .int .u64 (fo : Int), .int .u64 (xo : Int), .slice Ao ko co] (0, 0) _ HGO.out Tryd.underlying25 rfl ev_in16 ?_)
      refine (HEO.out _ HX.out).mono ?_
      rintro e w8 ⟨v8, rfl, hm, hx⟩
      replace HX := Lib.hid (HX.out.trans (hx))
      replace HG := Lib.hid ((hx).row HG.out)
      replace HGO := Lib.hid ((hx).row HGO.out)
      replace HRP := Lib.hid (HRP.out.ext (hx))
      replace HR1 := Lib.hid (HR1.out.ext (hx))
      replace HGL := Lib.hid (HGL.out.ext (hx))
      replace HR6 := Lib.hid (HR6.out.ext (hx))
      obtain ⟨B8, c8, rfl, hc8, hr8⟩ := hm.slice HSO.out
      obtain ⟨n8, hn8⟩ : ∃ q, YO.length = q := ⟨_, rfl⟩
      rw [hn8] at hc8 ⊢
      have HR8 := Lib.hid hr8
      have HN8 := Lib.hid hn8
      clear hm hr8 hn8 hx
      by_cases hj : cj = 0
      · have hj : cj = 0 := hj
        subst hj
        have hoo := HOO.out
        go_wp2
        have HLE := Lib.hid (fun (W : World) (h : Ext w8 W) => show (Instr.loadAt 25 (.pointer (some ⟨w.heap.size, 0, none⟩))).run Tryd.prog W = .ok (.agg #[.int .i64 s, .int .u64 (nn : Int), .int .u64 (f : Int), .int .u64 (x : Int), .slice A k c]) W from load_ev16 (h.row HG.out))
        have HLO := Lib.hid (fun (W : World) (h : Ext w8 W) => show (Instr.loadAt 25 (.pointer (some ⟨w.heap.size + 1, 0, none⟩))).run Tryd.prog W = .ok (.agg #[.int .i64 so, .int .u64 (no : Int), .int .u64 (fo : Int), .int .u64 (xo : Int), .slice Ao ko co]) W from load_ev16 (h.row HGO.out))
        by_cases hid : idv sha ⟨s, nn, f, x, b⟩ = idv sha ⟨so, no, fo, xo, bo⟩
        · refine wp_region_stab (Ext w8) [0, 1, 2, 3, 4, 5, 6, 7, 8, 9, 10, 11, 12] [(0, true), (1, true), (2, true), (3, true), (4, true), (5, true), (6, true), (7, true), (9, true), (8, false), (10, false), (11, true), (12, true)] (by kernel_rfl) (fun c a a' w e h => ⟨e ▸ h.1, h.2⟩) (by kernel_rfl) (Ext.refl w8).drew ?_
          have hdr := (Ext.refl w8).drew
          replace HX := Lib.hid (HX.out.trans (hdr))
          replace HG := Lib.hid ((hdr).row HG.out)
          replace HGO := Lib.hid ((hdr).row HGO.out)
          replace HRP := Lib.hid (HRP.out.ext (hdr))
          replace HR1 := Lib.hid (HR1.out.ext (hdr))
          replace HGL := Lib.hid (HGL.out.ext (hdr))
          replace HR6 := Lib.hid (HR6.out.ext (hdr))
          replace HR8 := Lib.hid (HR8.out.ext (hdr))
          have HXC := Lib.hid hdr
          generalize w8.drew = W0 at *
          clear hdr
          refine stab_yes rfl (fun K hK => ?_); go_simp; refine ⟨_, fun _ _ => rfl, hK _ ?_⟩; clear hK K
          refine stab_yes rfl (fun K hK => ?_); go_simp; refine ⟨_, fun _ _ => rfl, hK _ ?_⟩; clear hK K
          refine stab_yes rfl (fun K hK => ?_); go_simp; refine ⟨_, fun _ _ => rfl, hK _ ?_⟩; clear hK K
          refine stab_yes rfl (fun K hK => ?_); go_simp; refine ⟨_, fun _ _ => rfl, hK _ ?_⟩; clear hK K
          refine stab_yes rfl (fun K hK => ?_); go_simp; refine ⟨_, fun _ _ => rfl, hK _ ?_⟩; clear hK K
          refine stab_yes rfl (fun K hK => ?_); go_simp; refine ⟨_, fun _ _ => rfl, hK _ ?_⟩; clear hK K
          refine stab_yes rfl (fun K hK => ?_); go_simp; refine ⟨_, fun _ _ => rfl, hK _ ?_⟩; clear hK K
          refine stab_load rfl 25 (.tmp 3) rfl (.agg #[.int .i64 s, .int .u64 (nn : Int), .int .u64 (f : Int), .int .u64 (x : Int), .slice A k c]) (by first | rfl | go_simp) (fun W hW => HLE.out W hW) ?_
          refine stab_load rfl 25 (.tmp 4) rfl (.agg #[.int .i64 so, .int .u64 (no : Int), .int .u64 (fo : Int), .int .u64 (xo : Int), .slice Ao ko co]) (by first | rfl | go_simp) (fun W hW => HLO.out W hW) ?_
          refine stab_one rfl (fun K hK => ?_)
          go_wp2_with fail
          refine (HID.out _ HX.out HGL.out).mono ?_
          rintro e w9 ⟨V, rfl, hV, hx⟩
          replace HX := Lib.hid (HX.out.trans (hx))
          replace HG := Lib.hid ((hx).row HG.out)
          replace HGO := Lib.hid ((hx).row HGO.out)
          replace HRP := Lib.hid (HRP.out.ext (hx))
          replace HR1 := Lib.hid (HR1.out.ext (hx))
          replace HGL := Lib.hid (HGL.out.ext (hx))
          replace HR6 := Lib.hid (HR6.out.ext (hx))
          replace HR8 := Lib.hid (HR8.out.ext (hx))
          replace HXC := Lib.hid (HXC.out.trans (hx))
          clear hx
          go_wp2_with fail
          refine ⟨fun _ => HXC.out, ?_⟩
          refine stab_one rfl (fun K hK => ?_)
          go_wp2_with fail
          refine (HIO.out _ HX.out HGL.out).mono ?_
          rintro e w10 ⟨V2, rfl, hV2, hx⟩
          replace HX := Lib.hid (HX.out.trans (hx))
          replace HG := Lib.hid ((hx).row HG.out)
          replace HGO := Lib.hid ((hx).row HGO.out)
          replace HRP := Lib.hid (HRP.out.ext (hx))
          replace HR1 := Lib.hid (HR1.out.ext (hx))
          replace HGL := Lib.hid (HGL.out.ext (hx))
          replace HR6 := Lib.hid (HR6.out.ext (hx))
          replace HR8 := Lib.hid (HR8.out.ext (hx))
          replace HXC := Lib.hid (HXC.out.trans (hx))
          have hq := run_ne_dgc hV hV2 (idv_32 _) (idv_32 _) (idv_sm _) (idv_sm _)
          rw [decide_eq_true hid] at hq
          clear hx
          go_wp2_with fail
          refine ⟨fun _ => HXC.out, ?_⟩
          refine stab_yes rfl (fun K hK => ?_); go_simp; refine ⟨_, fun _ _ => rfl, hK _ ?_⟩; clear hK K
          refine stab_yes rfl (fun K hK => ?_); go_simp; refine ⟨_, fun _ _ => rfl, hK _ ?_⟩; clear hK K
          clear HXC
          unfold wpStab
          by_cases hee : Ev.Same ⟨s, nn, f, x, b⟩ ⟨so, no, fo, xo, bo⟩
          · rw [decide_eq_true hee] at HSS
            go_wp2_with (first | (with_reducible refine wpList_load_row rfl 25 (.tmp 3) rfl (w.heap.size) rfl 25 #[.int .i64 s, .int .u64 (nn : Int), .int .u64 (f : Int), .int .u64 (x : Int), .slice A k c] (0, 0) _ HG.out Tryd.underlying25 rfl ev_in16 ?_) | (with_reducible refine wpList_load_row rfl 25 (.tmp 4) rfl (w.heap.size + 1) rfl 25 #[.int .i64 so, .int .u64 (no : Int), .int .u64 (fo : Int), .int .u64 (xo : Int), .slice Ao ko co] (0, 0) _ HGO.out Tryd.underlying25 rfl ev_in16 ?_))
            refine (HSS.out _ HX.out).mono ?_
            rintro e w11 ⟨rfl, hx⟩
            replace HX := Lib.hid (HX.out.trans (hx))
            replace HG := Lib.hid ((hx).row HG.out)
            replace HGO := Lib.hid ((hx).row HGO.out)
            replace HRP := Lib.hid (HRP.out.ext (hx))
            replace HR1 := Lib.hid (HR1.out.ext (hx))
            replace HGL := Lib.hid (HGL.out.ext (hx))
            replace HR6 := Lib.hid (HR6.out.ext (hx))
            replace HR8 := Lib.hid (HR8.out.ext (hx))
            clear hx
            go_wp2
            go_ret
            exact ⟨rfl, HX.out⟩
          · rw [decide_eq_false hee] at HSS
            go_wp2_with (first | (with_reducible refine wpList_load_row rfl 25 (.tmp 3) rfl (w.heap.size) rfl 25 #[.int .i64 s, .int .u64 (nn : Int), .int .u64 (f : Int), .int .u64 (x : Int), .slice A k c] (0, 0) _ HG.out Tryd.underlying25 rfl ev_in16 ?_) | (with_reducible refine wpList_load_row rfl 25 (.tmp 4) rfl (w.heap.size + 1) rfl 25 #[.int .i64 so, .int .u64 (no : Int), .int .u64 (fo : Int), .int .u64 (xo : Int), .slice Ao ko co] (0, 0) _ HGO.out Tryd.underlying25 rfl ev_in16 ?_))
            refine (HSS.out _ HX.out).mono ?_
            rintro e w11 ⟨rfl, hx⟩
            replace HX := Lib.hid (HX.out.trans (hx))
            replace HG := Lib.hid ((hx).row HG.out)
            replace HGO := Lib.hid ((hx).row HGO.out)
            replace HRP := Lib.hid (HRP.out.ext (hx))
            replace HR1 := Lib.hid (HR1.out.ext (hx))
            replace HGL := Lib.hid (HGL.out.ext (hx))
            replace HR6 := Lib.hid (HR6.out.ext (hx))
            replace HR8 := Lib.hid (HR8.out.ext (hx))
            clear hx
            go_wp2_with fail
            refine (HOF.out B1 c1 _ HGL.out HR1.out hc1).mono ?_
            rintro e w12 ⟨V3, rfl, hV3, hx⟩
            replace HX := Lib.hid (HX.out.trans (hx))
            replace HG := Lib.hid ((hx).row HG.out)
            replace HGO := Lib.hid ((hx).row HGO.out)
            replace HRP := Lib.hid (HRP.out.ext (hx))
            replace HR1 := Lib.hid (HR1.out.ext (hx))
            replace HGL := Lib.hid (HGL.out.ext (hx))
            replace HR6 := Lib.hid (HR6.out.ext (hx))
            replace HR8 := Lib.hid (HR8.out.ext (hx))
            clear hx
            go_wp2_with fail
            refine (HOG.out B8 n8 c8 _ HN8.out HGL.out HR8.out hc8).mono ?_
            rintro e w13 ⟨V4, rfl, hV4, hx⟩
            replace HX := Lib.hid (HX.out.trans (hx))
            replace HG := Lib.hid ((hx).row HG.out)
            replace HGO := Lib.hid ((hx).row HGO.out)
            replace HRP := Lib.hid (HRP.out.ext (hx))
            replace HR1 := Lib.hid (HR1.out.ext (hx))
            replace HGL := Lib.hid (HGL.out.ext (hx))
            replace HR6 := Lib.hid (HR6.out.ext (hx))
            replace HR8 := Lib.hid (HR8.out.ext (hx))
            clear hx
            have hq2 := run_eq_dgc hV3 hV4 (sha_len _) (sha_len _) (sha_sm _) (sha_sm _)
            rw [decide_eq_true (HIS.out (by trivial) hid)] at hq2
            go_wp2_with fail
            refine (HNE.out _ B1 B8 n1 n8 c1 c8 HN1.out HN8.out HR1.out HR8.out).mono ?_
            rintro e w14 ⟨rfl, hx⟩
            rw [decide_eq_false (fun hh => hee (HON.out (by trivial) hh))]
            replace HX := Lib.hid (HX.out.trans (hx))
            replace HG := Lib.hid ((hx).row HG.out)
            replace HGO := Lib.hid ((hx).row HGO.out)
            replace HRP := Lib.hid (HRP.out.ext (hx))
            replace HR1 := Lib.hid (HR1.out.ext (hx))
            replace HGL := Lib.hid (HGL.out.ext (hx))
            replace HR6 := Lib.hid (HR6.out.ext (hx))
            replace HR8 := Lib.hid (HR8.out.ext (hx))
            clear hx
            go_wp2
            go_ret
            exact ⟨rfl, HX.out⟩
        · refine wp_region_stab (Ext w8) [0, 1, 2, 3, 4, 5, 6, 7, 8, 9, 10, 11, 12] [(0, true), (1, true), (2, true), (3, true), (4, true), (5, true), (6, true), (7, true), (9, true), (8, false), (10, false), (11, true), (12, true)] (by kernel_rfl) (fun c a a' w e h => ⟨e ▸ h.1, h.2⟩) (by kernel_rfl) (Ext.refl w8).drew ?_
          have hdr := (Ext.refl w8).drew
          replace HX := Lib.hid (HX.out.trans (hdr))
          replace HG := Lib.hid ((hdr).row HG.out)
          replace HGO := Lib.hid ((hdr).row HGO.out)
          replace HRP := Lib.hid (HRP.out.ext (hdr))
          replace HR1 := Lib.hid (HR1.out.ext (hdr))
          replace HGL := Lib.hid (HGL.out.ext (hdr))
          replace HR6 := Lib.hid (HR6.out.ext (hdr))
          replace HR8 := Lib.hid (HR8.out.ext (hdr))
          have HXC := Lib.hid hdr
          generalize w8.drew = W0 at *
          clear hdr
          refine stab_yes rfl (fun K hK => ?_); go_simp; refine ⟨_, fun _ _ => rfl, hK _ ?_⟩; clear hK K
          refine stab_yes rfl (fun K hK => ?_); go_simp; refine ⟨_, fun _ _ => rfl, hK _ ?_⟩; clear hK K
          refine stab_yes rfl (fun K hK => ?_); go_simp; refine ⟨_, fun _ _ => rfl, hK _ ?_⟩; clear hK K
          refine stab_yes rfl (fun K hK => ?_); go_simp; refine ⟨_, fun _ _ => rfl, hK _ ?_⟩; clear hK K
          refine stab_yes rfl (fun K hK => ?_); go_simp; refine ⟨_, fun _ _ => rfl, hK _ ?_⟩; clear hK K
          refine stab_yes rfl (fun K hK => ?_); go_simp; refine ⟨_, fun _ _ => rfl, hK _ ?_⟩; clear hK K
          refine stab_yes rfl (fun K hK => ?_); go_simp; refine ⟨_, fun _ _ => rfl, hK _ ?_⟩; clear hK K
          refine stab_load rfl 25 (.tmp 3) rfl (.agg #[.int .i64 s, .int .u64 (nn : Int), .int .u64 (f : Int), .int .u64 (x : Int), .slice A k c]) (by first | rfl | go_simp) (fun W hW => HLE.out W hW) ?_
          refine stab_load rfl 25 (.tmp 4) rfl (.agg #[.int .i64 so, .int .u64 (no : Int), .int .u64 (fo : Int), .int .u64 (xo : Int), .slice Ao ko co]) (by first | rfl | go_simp) (fun W hW => HLO.out W hW) ?_
          refine stab_one rfl (fun K hK => ?_)
          go_wp2_with fail
          refine (HID.out _ HX.out HGL.out).mono ?_
          rintro e w9 ⟨V, rfl, hV, hx⟩
          replace HX := Lib.hid (HX.out.trans (hx))
          replace HG := Lib.hid ((hx).row HG.out)
          replace HGO := Lib.hid ((hx).row HGO.out)
          replace HRP := Lib.hid (HRP.out.ext (hx))
          replace HR1 := Lib.hid (HR1.out.ext (hx))
          replace HGL := Lib.hid (HGL.out.ext (hx))
          replace HR6 := Lib.hid (HR6.out.ext (hx))
          replace HR8 := Lib.hid (HR8.out.ext (hx))
          replace HXC := Lib.hid (HXC.out.trans (hx))
          clear hx
          go_wp2_with fail
          refine ⟨fun _ => HXC.out, ?_⟩
          refine stab_one rfl (fun K hK => ?_)
          go_wp2_with fail
          refine (HIO.out _ HX.out HGL.out).mono ?_
          rintro e w10 ⟨V2, rfl, hV2, hx⟩
          replace HX := Lib.hid (HX.out.trans (hx))
          replace HG := Lib.hid ((hx).row HG.out)
          replace HGO := Lib.hid ((hx).row HGO.out)
          replace HRP := Lib.hid (HRP.out.ext (hx))
          replace HR1 := Lib.hid (HR1.out.ext (hx))
          replace HGL := Lib.hid (HGL.out.ext (hx))
          replace HR6 := Lib.hid (HR6.out.ext (hx))
          replace HR8 := Lib.hid (HR8.out.ext (hx))
          replace HXC := Lib.hid (HXC.out.trans (hx))
          have hq := run_ne_dgc hV hV2 (idv_32 _) (idv_32 _) (idv_sm _) (idv_sm _)
          rw [decide_eq_false hid] at hq
          clear hx
          go_wp2_with fail
          refine ⟨fun _ => HXC.out, ?_⟩
          refine stab_yes rfl (fun K hK => ?_); go_simp; refine ⟨_, fun _ _ => rfl, hK _ ?_⟩; clear hK K
          refine stab_yes rfl (fun K hK => ?_); go_simp; refine ⟨_, fun _ _ => rfl, hK _ ?_⟩; clear hK K
          clear HXC
          unfold wpStab
          go_wp2
          go_ret
          exact ⟨rfl, HX.out⟩
      · have hj : cj ≠ 0 := hj
        have j1 : ((cj : Int) == 0) = false := by simp; omega
        have j2 : ((cj : Int) != 0) = true := by simp; omega
        have j3 : decide ((cj : Int) = 0) = false := decide_eq_false (by omega)
        have j4 : decide (cj = 0) = false := decide_eq_false (by omega)
        clear hj
        go_wp2
        go_quiet (fail)
        go_wp2
        go_ret
        exact ⟨rfl, HX.out.drewN nq⟩
  · obtain ⟨z0, ⟨s0, n0, f0, x0, b0⟩, hd0⟩ : ∃ z q, dec16 BY = (z, q) := ⟨_, _, rfl⟩
    rw [hd0] at HDX HFX
    dsimp only at HDX HFX
    have HSX := Lib.hid HFX.1.b
    have k1 : ((ck : Int) == 0) = false := by simp; omega
    have k2 : ((ck : Int) != 0) = true := by simp; omega
    have k3 : decide ((ck : Int) = 0) = false := decide_eq_false (by omega)
    have k4 : decide (ck = 0) = false := decide_eq_false (by omega)
    clear hk0 hr hro hq hgl M C S HFD HDK HFX hlen hleo hley hOK hOO hXX hck hcj hBY hYO hYD hci hdc hl2 hd1 hd2 hd3 hb hbo hp hfit hfio hn1 hd0
    go_enter Tryd.func4, Tryd.ntmps4
    go_wp2_with fail
    refine (HAW.out _ HX.out).mono ?_
    rintro e w1 ⟨rfl, hx⟩
    replace HX := Lib.hid (HX.out.trans (hx))
    replace HG := Lib.hid ((hx).row HG.out)
    replace HGO := Lib.hid ((hx).row HGO.out)
    replace HRP := Lib.hid (HRP.out.ext (hx))
    replace HGL := Lib.hid (HGL.out.ext (hx))
    have g4 := cell_of_row _ _ 4 _ _ _ HG.out
    have o4 := cell_of_row _ _ 4 _ _ _ HGO.out
    clear hx
    go_wp2_with (with_reducible refine wpList_load_row rfl 25 (.tmp 3) rfl (w.heap.size) rfl 25 #[.int .i64 s, .int .u64 (nn : Int), .int .u64 (f : Int), .int .u64 (x : Int), .slice A k c] (0, 0) _ HG.out Tryd.underlying25 rfl ev_in16 ?_)
    refine (HEN.out w1 HX.out).mono ?_
    rintro e w2 ⟨v1, rfl, hm, hx⟩
    replace HX := Lib.hid (HX.out.trans (hx))
    replace HG := Lib.hid ((hx).row HG.out)
    replace HGO := Lib.hid ((hx).row HGO.out)
    replace HRP := Lib.hid (HRP.out.ext (hx))
    replace HGL := Lib.hid (HGL.out.ext (hx))
    clear g4 o4
    obtain ⟨B1, c1, rfl, hc1, hr1⟩ := hm.slice HSB.out
    rw [HN1.out] at hc1 ⊢
    have HR1 := Lib.hid hr1
    clear hm hr1 hx
    go_wp2_with fail
    refine (HDX.out w2 B1 n1 c1 HN1.out hc1 HR1.out).mono ?_
    rintro e w3 ⟨v3, rfl, hm, hx⟩
    replace HX := Lib.hid (HX.out.trans (hx))
    replace HG := Lib.hid ((hx).row HG.out)
    replace HGO := Lib.hid ((hx).row HGO.out)
    replace HRP := Lib.hid (HRP.out.ext (hx))
    replace HGL := Lib.hid (HGL.out.ext (hx))
    replace HR1 := Lib.hid (HR1.out.ext (hx))
    obtain ⟨B3, c3, rfl, hc3, hr3⟩ := hm.slice HSX.out
    obtain ⟨n3, hn3⟩ : ∃ q, b0.length = q := ⟨_, rfl⟩
    rw [hn3] at hc3 ⊢
    have hxa := (Ext.refl w3).alloc (.cells #[.int .i64 s0, .int .u64 (n0 : Int), .int .u64 (f0 : Int), .int .u64 (x0 : Int), .slice B3 n3 c3] 25)
    replace HX := Lib.hid (HX.out.trans (hxa))
    replace HG := Lib.hid ((hxa).row HG.out)
    replace HGO := Lib.hid ((hxa).row HGO.out)
    replace HRP := Lib.hid (HRP.out.ext (hxa))
    replace HGL := Lib.hid (HGL.out.ext (hxa))
    replace HR1 := Lib.hid (HR1.out.ext (hxa))
    have HD := Lib.hid (heap_alloc_new w3 (.cells #[.int .i64 s0, .int .u64 (n0 : Int), .int .u64 (f0 : Int), .int .u64 (x0 : Int), .slice B3 n3 c3] 25))
    have HR3 := Lib.hid (hr3.ext hxa)
    clear hm hr3 hx hxa
    clear HD HR3
    go_wp2_with fail
    refine (HDE.out _ HX.out).mono ?_
    rintro e w5 ⟨v5, rfl, hm, hx⟩
    replace HX := Lib.hid (HX.out.trans (hx))
    replace HG := Lib.hid ((hx).row HG.out)
    replace HGO := Lib.hid ((hx).row HGO.out)
    replace HRP := Lib.hid (HRP.out.ext (hx))
    replace HR1 := Lib.hid (HR1.out.ext (hx))
    replace HGL := Lib.hid (HGL.out.ext (hx))
    obtain ⟨B5, c5, rfl, hc5, hr5⟩ := hm.slice HSD.out
    obtain ⟨n5, hn5⟩ : ∃ q, b'.length = q := ⟨_, rfl⟩
    rw [hn5] at hc5 ⊢
    have hxa := (Ext.refl w5).alloc (.cells #[.int .i64 s', .int .u64 (n' : Int), .int .u64 (f' : Int), .int .u64 (x' : Int), .slice B5 n5 c5] 25)
    replace HX := Lib.hid (HX.out.trans (hxa))
    replace HG := Lib.hid ((hxa).row HG.out)
    replace HGO := Lib.hid ((hxa).row HGO.out)
    replace HRP := Lib.hid (HRP.out.ext (hxa))
    replace HR1 := Lib.hid (HR1.out.ext (hxa))
    replace HGL := Lib.hid (HGL.out.ext (hxa))
    have HW := Lib.hid (heap_alloc_new w5 (.cells #[.int .i64 s', .int .u64 (n' : Int), .int .u64 (f' : Int), .int .u64 (x' : Int), .slice B5 n5 c5] 25))
    have HR5 := Lib.hid (hr5.ext hxa)
    have HN5 := Lib.hid hn5
    have HC5 := Lib.hid hc5
    clear hm hr5 hn5 hc5 hx hxa
    go_wp2_with (with_reducible refine wpList_load_row rfl 25 (.tmp 11) rfl (w5.heap.size) rfl 25 #[.int .i64 s', .int .u64 (n' : Int), .int .u64 (f' : Int), .int .u64 (x' : Int), .slice B5 n5 c5] (0, 0) _ HW.out Tryd.underlying25 rfl ev_in16 ?_)
    refine (HED.out _ B5 n5 c5 HN5.out HC5.out HR5.out).mono ?_
    rintro e w6 ⟨v6, rfl, hm, hx⟩
    replace HX := Lib.hid (HX.out.trans (hx))
    replace HG := Lib.hid ((hx).row HG.out)
    replace HGO := Lib.hid ((hx).row HGO.out)
    replace HRP := Lib.hid (HRP.out.ext (hx))
    replace HR1 := Lib.hid (HR1.out.ext (hx))
    replace HGL := Lib.hid (HGL.out.ext (hx))
    replace HW := Lib.hid ((hx).row HW.out)
    replace HR5 := Lib.hid (HR5.out.ext (hx))
    obtain ⟨B6, c6, rfl, hc6, hr6⟩ := hm.slice HSY.out
    obtain ⟨n6, hn6⟩ : ∃ q, YD.length = q := ⟨_, rfl⟩
    rw [hn6] at hc6 ⊢
    have HR6 := Lib.hid hr6
    have HN6 := Lib.hid hn6
    clear hm hr6 hn6 hc6 hx
    clear HW HR5
    clear HN5 HC5
    by_cases hz : z = 0
    · subst hz
      have hi : ci = 0 := HZD.out rfl
      subst hi
      have hyp := HZY.out rfl
      go_wp2_with fail
      refine (HSP.out _ B6 n6 c6 hyp HN6.out HR6.out HRP.out).mono ?_
      rintro e w7 ⟨rfl, hx⟩
      replace HX := Lib.hid (HX.out.trans (hx))
      replace HG := Lib.hid ((hx).row HG.out)
      replace HGO := Lib.hid ((hx).row HGO.out)
      replace HRP := Lib.hid (HRP.out.ext (hx))
      replace HR1 := Lib.hid (HR1.out.ext (hx))
      replace HGL := Lib.hid (HGL.out.ext (hx))
      replace HR6 := Lib.hid (HR6.out.ext (hx))
      clear hx hyp
      go_wp2_with (with_reducible refine wpList_load_row rfl 25 (.tmp 4) rfl (w.heap.size + 1) rfl 25 #[.int .i64 so, .int .u64 (no : Int), .int .u64 (fo : Int), .int .u64 (xo : Int), .slice Ao ko co] (0, 0) _ HGO.out Tryd.underlying25 rfl ev_in16 ?_)
      refine (HEO.out _ HX.out).mono ?_
      rintro e w8 ⟨v8, rfl, hm, hx⟩
      replace HX := Lib.hid (HX.out.trans (hx))
      replace HG := Lib.hid ((hx).row HG.out)
      replace HGO := Lib.hid ((hx).row HGO.out)
      replace HRP := Lib.hid (HRP.out.ext (hx))
      replace HR1 := Lib.hid (HR1.out.ext (hx))
      replace HGL := Lib.hid (HGL.out.ext (hx))
      replace HR6 := Lib.hid (HR6.out.ext (hx))
      obtain ⟨B8, c8, rfl, hc8, hr8⟩ := hm.slice HSO.out
      obtain ⟨n8, hn8⟩ : ∃ q, YO.length = q := ⟨_, rfl⟩
      rw [hn8] at hc8 ⊢
      have HR8 := Lib.hid hr8
      have HN8 := Lib.hid hn8
      clear hm hr8 hn8 hx
      go_wp2
      go_quiet (fail)
      go_wp2
      go_ret
      exact ⟨rfl, HX.out.drewN nq⟩
    · have z1 : ((z : Int) == 0) = false := by simp; omega
      have z2 : ((z : Int) != 0) = true := by simp; omega
      have z3 : decide ((z : Int) = 0) = false := decide_eq_false (by omega)
      have z4 : decide (z = 0) = false := decide_eq_false (by omega)
      clear hz
      go_wp2_with (with_reducible refine wpList_load_row rfl 25 (.tmp 4) rfl (w.heap.size + 1) rfl 25 #[.int .i64 so, .int .u64 (no : Int), .int .u64 (fo : Int), .int .u64 (xo : Int), .slice Ao ko co] (0, 0) _ HGO.out Tryd.underlying25 rfl ev_in16 ?_)
      refine (HEO.out _ HX.out).mono ?_
      rintro e w8 ⟨v8, rfl, hm, hx⟩
      replace HX := Lib.hid (HX.out.trans (hx))
      replace HG := Lib.hid ((hx).row HG.out)
      replace HGO := Lib.hid ((hx).row HGO.out)
      replace HRP := Lib.hid (HRP.out.ext (hx))
      replace HR1 := Lib.hid (HR1.out.ext (hx))
      replace HGL := Lib.hid (HGL.out.ext (hx))
      replace HR6 := Lib.hid (HR6.out.ext (hx))
      obtain ⟨B8, c8, rfl, hc8, hr8⟩ := hm.slice HSO.out
      obtain ⟨n8, hn8⟩ : ∃ q, YO.length = q := ⟨_, rfl⟩
      rw [hn8] at hc8 ⊢
      have HR8 := Lib.hid hr8
      have HN8 := Lib.hid hn8
      clear hm hr8 hn8 hx
      go_wp2
      go_quiet (fail)
      go_wp2
      go_ret
      exact ⟨rfl, HX.out.drewN nq⟩
end Go.Proofs.YtjifionpblpfoaaDoor

/-
  The code's own Check of layer 16. Conditions: none.
-/
namespace Go.Proofs.YtjifionpblpfoaaDoor
open Go.RowKit
open Pol (co Sm)

set_option maxHeartbeats 1600000 in
theorem ev_check (s : Int) (n f x k c : Nat) (b : List Nat) (A : Option Addr) (w : World) (hk : b.length = k) :
    Calls Tryd.prog 14 #[evv s n f x A k c] w (Tells (.int .i64 ((Ev.chk ⟨s, n, f, x, b⟩ : Nat) : Int)) w) := by
  unfold Ev.chk
  dsimp only
  rw [hk]
  clear hk
  by_cases h1 : s < 0
  · have d1 : decide (s < 0) = true := decide_eq_true h1
    rw [if_pos (.inl h1)]
    go_enter Tryd.func14, Tryd.ntmps14
    go_wp2
    go_ret
    exact ⟨rfl, (Ext.refl _).alloc _⟩
  have d1 : decide (s < 0) = false := decide_eq_false h1
  by_cases h2 : 6 ≤ s
  · have d2 : decide (s ≥ 6) = true := decide_eq_true h2
    have d2' : decide (6 ≤ s) = true := decide_eq_true h2
    rw [if_pos (.inr h2)]
    go_enter Tryd.func14, Tryd.ntmps14
    go_wp2
    go_ret
    exact ⟨rfl, (Ext.refl _).alloc _⟩
  have d2 : decide (s ≥ 6) = false := decide_eq_false h2
  have d2' : decide (6 ≤ s) = false := decide_eq_false h2
  rw [if_neg (by omega)]
  by_cases h3 : 1152921504606846976 < f
  · have d3 : decide ((f : Int) > 1152921504606846976) = true := decide_eq_true (by omega)
    have d3' : decide ((1152921504606846976 : Int) < (f : Int)) = true := decide_eq_true (by omega)
    rw [if_pos h3]
    go_enter Tryd.func14, Tryd.ntmps14
    go_wp2
    go_ret
    exact ⟨rfl, (Ext.refl _).alloc _⟩
  have d3 : decide ((f : Int) > 1152921504606846976) = false := decide_eq_false (by omega)
  have d3' : decide ((1152921504606846976 : Int) < (f : Int)) = false := decide_eq_false (by omega)
  rw [if_neg h3]
  by_cases h4 : k < 1
  · have d4 : decide ((k : Int) < 1) = true := decide_eq_true (by omega)
    rw [if_pos (.inl h4)]
    go_enter Tryd.func14, Tryd.ntmps14
    go_wp2
    go_ret
    exact ⟨rfl, (Ext.refl _).alloc _⟩
  have d4 : decide ((k : Int) < 1) = false := decide_eq_false (by omega)
  by_cases h5 : 32 < k
  · have d5 : decide ((k : Int) > 32) = true := decide_eq_true (by omega)
    have d5' : decide ((32 : Int) < (k : Int)) = true := decide_eq_true (by omega)
    rw [if_pos (.inr h5)]
    go_enter Tryd.func14, Tryd.ntmps14
    go_wp2
    go_ret
    exact ⟨rfl, (Ext.refl _).alloc _⟩
  have d5 : decide ((k : Int) > 32) = false := decide_eq_false (by omega)
  have d5' : decide ((32 : Int) < (k : Int)) = false := decide_eq_false (by omega)
  rw [if_neg (by omega)]
  go_enter Tryd.func14, Tryd.ntmps14
  go_wp2
  go_ret
  exact ⟨rfl, (Ext.refl _).alloc _⟩
end Go.Proofs.YtjifionpblpfoaaDoor

/-
  The builtin copy of bytes to the front of a block of the call's own. Conditions: the block is at least as long.
-/
namespace Go.Proofs.YtjifionpblpfoaaDoor
open Go.RowKit
open Pol (co Sm)

/-- A copy of bytes to the front of a block of the call's own. -/
theorem splice_bt (n : Nat) (f : Nat → Nat) (a : List Nat) (h : a.length ≤ n) : (splice (bt n f).toList 0 (bv a)).toArray = bt n (fun i => if i < a.length then co a i else f i) := by
  apply Array.ext
  · simp [splice, bv_len, bt_size]; omega
  · intro i h1 h2
    have hi : i < n := by rwa [bt_size] at h2
    rw [← Option.some_inj, ← Array.getElem?_eq_getElem, ← Array.getElem?_eq_getElem, bt_at _ _ _ hi]
    simp only [splice, List.take_zero, List.nil_append, Nat.zero_add, List.getElem?_toArray, bv_len]
    by_cases hia : i < a.length
    · rw [List.getElem?_append_left (by rw [bv_len]; exact hia), bv_at a i hia, if_pos hia]
    · rw [List.getElem?_append_right (by rw [bv_len]; omega), List.getElem?_drop, bv_len, if_neg hia, show a.length + (i - a.length) = i from by omega]
      have := bt_at n f i hi
      simpa using this
theorem wpList_copy_blk {ops : Array Oper} {rest : List Oper} {o : Oper} {act : Act} {w : World} {Q : Exit → Act → World → Prop} (hgd : o.guard = none) (d s : Operand)
    (ho : o.op = .call { callee := .builtin .copy, args := #[d, s], argTypes := #[23, 23] }) (g n dc : Nat) (f : Nat → Nat) (hd : act.eval d = .slice (some ⟨g, 0, none⟩) n dc) (hb : Blk w g n f)
    (A : Option Addr) (a : List Nat) (k c : Nat) (hs : act.eval s = .slice A k c) (hk : a.length = k) (hr : Rd w A a) (hn : k ≤ n) (w0 : World) (hx : Ext w0 w) (hg : w0.heap.size ≤ g)
    (h : ∀ w', Hid (Blk w' g n (fun i => if i < a.length then co a i else f i)) → Ext w0 w' → wpList Tryd.prog ops Q rest (act.put o.dst (goInt k)) w') :
    wpList Tryd.prog ops Q (o :: rest) act w := by
  subst hk
  refine wpList_copy_splice hgd d s 23 23 ho 5 Tryd.underlying23 (by kernel_rfl) _ A n dc a.length c hd hs g 0 (bt n f).toList 5 (by unfold Blk at hb; simpa using hb) (bv a) (by rw [bv_len]; exact (Nat.min_eq_left hn).symm)
    (fun hp => ⟨rfl, ?_⟩) (by simp [bv_len, bt_size]; omega) (bv_one a) w0.heap.size w0 hx.below hg ?_
  · rw [bv_len] at hp
    obtain ⟨b, o', e, hc⟩ := hr.addr hp
    refine ⟨_, e, fun j v hj => ?_⟩
    have hj' : j < a.length := by
      have := (List.getElem?_eq_some_iff.1 hj).1
      rwa [bv_len] at this
    rw [addr_add, hc j hj', ← bv_at a j hj', hj]
  · intro w' HG hB
    rw [bv_len]
    refine h w' (Lib.hid ?_) ⟨hB⟩
    unfold Blk
    rw [HG.out, splice_bt n f a hn]
end Go.Proofs.YtjifionpblpfoaaDoor

/-
  What Fill of layer 6 does. Conditions: no more than 2^12 bytes.
-/
namespace Go.Proofs.YtjifionpblpfoaaDoor
open Go.RowKit
open Pol (co Sm)

/-- A copy of bytes somewhere into a block of the call's own. -/
theorem splice_at (n off : Nat) (f : Nat → Nat) (a : List Nat) (h : off + a.length ≤ n) : (splice (bt n f).toList off (bv a)).toArray = bt n (fun i => if off ≤ i ∧ i < off + a.length then co a (i - off) else f i) := by
  apply Array.ext
  · simp [splice, bv_len, bt_size]; omega
  · intro i h1 h2
    have hi : i < n := by rwa [bt_size] at h2
    have hl : (bt n f).toList.length = n := by simp [bt_size]
    have hb : ∀ j, j < n → (bt n f).toList[j]? = some (.int .u8 ((f j : Nat) : Int)) := fun j hj => by simpa using bt_at n f j hj
    rw [← Option.some_inj, ← Array.getElem?_eq_getElem, ← Array.getElem?_eq_getElem, bt_at _ _ _ hi]
    simp only [splice, List.getElem?_toArray, bv_len]
    by_cases h1 : i < off
    · rw [List.getElem?_append_left (by rw [List.length_take, hl]; omega), List.getElem?_take, if_pos h1, if_neg (by omega), hb i hi]
    · rw [List.getElem?_append_right (by rw [List.length_take, hl]; omega), List.length_take, hl, Nat.min_eq_left (by omega)]
      by_cases hia : i - off < a.length
      · rw [List.getElem?_append_left (by rw [bv_len]; exact hia), bv_at a _ hia, if_pos (by omega)]
      · rw [List.getElem?_append_right (by rw [bv_len]; omega), List.getElem?_drop, bv_len, if_neg (by omega), show off + a.length + (i - off - a.length) = i from by omega, hb i hi]
theorem wpList_copy_at {ops : Array Oper} {rest : List Oper} {o : Oper} {act : Act} {w : World} {Q : Exit → Act → World → Prop} (hgd : o.guard = none) (d s : Operand)
    (ho : o.op = .call { callee := .builtin .copy, args := #[d, s], argTypes := #[23, 23] }) (g n off dl dc : Nat) (X : Option Addr) (f : Nat → Nat) (hd : act.eval d = .slice X dl dc) (hb : Blk w g n f)
    (A : Option Addr) (a : List Nat) (k c : Nat) (hs : act.eval s = .slice A k c) (hk : a.length = k) (hr : Rd w A a) (hX : 0 < k → X = some ⟨g, off, none⟩) (hdl : k ≤ dl) (hn : off + k ≤ n) (w0 : World) (hx : Ext w0 w) (hg : w0.heap.size ≤ g)
    (h : ∀ w', Hid (Blk w' g n (fun i => if off ≤ i ∧ i < off + k then co a (i - off) else f i)) → Ext w0 w' → wpList Tryd.prog ops Q rest (act.put o.dst (goInt k)) w') :
    wpList Tryd.prog ops Q (o :: rest) act w := by
  subst hk
  refine wpList_copy_splice hgd d s 23 23 ho 5 Tryd.underlying23 (by kernel_rfl) X A dl dc a.length c hd hs g off (bt n f).toList 5 (by unfold Blk at hb; simpa using hb) (bv a) (by rw [bv_len]; exact (Nat.min_eq_left hdl).symm)
    (fun hp => ⟨hX (by rwa [bv_len] at hp), ?_⟩) (by simp [bv_len, bt_size]; omega) (bv_one a) w0.heap.size w0 hx.below hg ?_
  · rw [bv_len] at hp
    obtain ⟨b, o', e, hc⟩ := hr.addr hp
    refine ⟨_, e, fun j v hj => ?_⟩
    have hj' : j < a.length := by
      have := (List.getElem?_eq_some_iff.1 hj).1
      rwa [bv_len] at this
    rw [addr_add, hc j hj', ← bv_at a j hj', hj]
  · intro w' HG hB
    rw [bv_len]
    refine h w' (Lib.hid ?_) ⟨hB⟩
    unfold Blk
    rw [HG.out, splice_at n off f a hn]
set_option maxHeartbeats 800000 in
theorem j_fill_no (n : Nat) (m : Int) (A : Option Addr) (ca : Nat) (w : World) (h : ¬ FillOk n m) :
    Calls Tryd.prog 45 #[.slice A n ca, .int .i64 m] w (GivesE [] 6 w) := by
  unfold FillOk at h
  by_cases h1 : m < 1
  · have d1 : decide (m < 1) = true := decide_eq_true h1
    clear h
    go_enter Tryd.func45, Tryd.ntmps45
    go_wp2
    go_ret2
    exact ⟨_, rfl, sl_none _, Ext.refl w⟩
  have d1 : decide (m < 1) = false := decide_eq_false h1
  by_cases h2 : 256 < m
  · have d2 : decide (256 < m) = true := decide_eq_true h2
    clear h
    go_enter Tryd.func45, Tryd.ntmps45
    go_wp2
    go_ret2
    exact ⟨_, rfl, sl_none _, Ext.refl w⟩
  have d2 : decide (256 < m) = false := decide_eq_false h2
  have d3 : decide (m ≤ (n : Int)) = true := decide_eq_true (by omega)
  clear h
  go_enter Tryd.func45, Tryd.ntmps45
  go_wp2
  go_ret2
  exact ⟨_, rfl, sl_none _, Ext.refl w⟩

set_option maxHeartbeats 1600000 in
set_option maxRecDepth 100000 in
theorem j_fill (t : List Nat) (m : Nat) (A : Option Addr) (ca : Nat) (w : World) (hr : Rd w A t) (h : FillOk t.length (m : Int)) :
    Calls Tryd.prog 45 #[.slice A t.length ca, .int .i64 (m : Int)] w (GivesE (fil t m) 0 w) := by
  obtain ⟨h1, h2, h3⟩ := h
  have HFS := Lib.hid (fil_sm (m := m) hr.1 (by omega))
  have HFL := Lib.hid (fil_len t m)
  have HCO := Lib.hid (fun i (hi : t.length ≤ i) => Pol.co_out t i hi)
  have HFE := Lib.hid (show fil t m = tab m (fun i => if i = 0 then t.length else co t (i - 1)) from rfl)
  have HR := Lib.hid hr
  clear hr
  generalize hn : t.length = n at *
  have HN := Lib.hid hn
  clear hn
  have d1 : decide ((m : Int) < 1) = false := decide_eq_false (by omega)
  have d2 : decide (256 < (m : Int)) = false := decide_eq_false (by omega)
  have d3 : decide (m ≤ n) = false := decide_eq_false (by omega)
  have ew : IntKind.u8.wrap (n : Int) = (n : Int) := IntWalk.u8_in _ (by omega)
  have hmk := run_make_u8 m (by omega) w
  have hm0 : (0 : Int) < (m : Int) := by omega
  obtain ⟨X, hX, _, hXa⟩ := run_rest_u8 (some ⟨w.heap.size, 0, none⟩) m m 1 (by omega) (Nat.le_refl _)
  have hX' : ∀ W, (Instr.slice 23 (.slice (some ⟨w.heap.size, 0, none⟩) m m) (some (.int .i64 1)) none none).run Tryd.prog W = .ok (.slice X (m - 1) (m - 1)) W := hX
  obtain ⟨m1, hm1⟩ : ∃ m1, m - 1 = m1 := ⟨_, rfl⟩
  rw [hm1] at hX'
  have HM1 := Lib.hid hm1
  have HXA := Lib.hid (show 0 < n → X = some ⟨w.heap.size, 1, none⟩ from fun h => hXa _ _ (by omega) rfl)
  obtain ⟨wa, hwa⟩ : ∃ wa, w.alloc (.cells (bt m fun _ => 0) 5) = wa := ⟨_, rfl⟩
  have hb0 : Blk wa w.heap.size m (fun _ => 0) := hwa ▸ Blk.new w m _
  have hxa : Ext w wa := hwa ▸ (Ext.refl w).alloc _
  have hc0 := hb0.cell 0 (by omega)
  have hf0 := hb0.frozen 0
  have HB1 := Lib.hid (hb0.store 0 n)
  have HX1 := Lib.hid (hxa.setCell (p := ⟨w.heap.size, 0, none⟩) (Nat.le_refl _) (.int .u8 (n : Int)))
  rw [hwa] at hmk
  clear hX hXa hm1 hb0 hxa hwa
  go_enter Tryd.func45, Tryd.ntmps45
  go_wp2_with (with_reducible refine wpList_copy_at rfl (.tmp 27) (.tmp 28) rfl w.heap.size m 1 m1 m1 X _ rfl HB1.out A t n ca rfl HN.out (HR.out.ext HX1.out) HXA.out (by have := HM1.out; omega) (by have := HM1.out; omega) w HX1.out (Nat.le_refl _) ?_; intro w2 HB2 hx2)
  have HX2 := Lib.hid hx2
  clear hx2
  go_wp2
  go_ret2
  refine ⟨_, rfl, ⟨_, _, by rw [HFL.out]; rfl, by rw [HFL.out]; exact Nat.le_refl _, ?_⟩, HX2.out⟩
  have hb := HB2.out.congr (f' := fun i => if i = 0 then n else co t (i - 1)) (fun i _ => by
    unfold upd
    by_cases e : i = 0
    · subst e; rw [if_neg (by omega), if_pos rfl, if_pos rfl]
    · rw [if_neg e, if_neg e]
      by_cases h : i < 1 + n
      · rw [if_pos (by omega)]
      · rw [if_neg (by omega), HCO.out _ (by omega)])
  rw [HFE.out]
  refine hb.reads fun i _ => ?_
  have h := HFS.out i
  rw [HFE.out, co_tab] at h
  split at h
  · exact h
  · omega
end Go.Proofs.YtjifionpblpfoaaDoor

/-
  A byte; what the field's own sum does. Conditions: none beyond the kinds of the arguments.
-/
namespace Go.Proofs.YtjifionpblpfoaaDoor
open Go.RowKit

/-- A byte. -/
def U (n : Nat) : Value := .int .u8 (n : Int)

theorem add_any (x y : Int) (w : World) :
    Calls Tryd.prog 67 #[.int .u8 x, .int .u8 y] w fun e w' => e = .returned (.int .u8 (bits .xor .u8 x y)) ∧ w = w' := by
  go_enter Tryd.func67, Tryd.ntmps67
  go_wp2
  go_ret
  exact ⟨rfl, rfl⟩
theorem add_is (a b v : Nat) (ha : a < 256) (hb : b < 256) (h : a ^^^ b = v) (w : World) :
    Calls Tryd.prog 67 #[.int .u8 (a : Int), .int .u8 (b : Int)] w fun e w' => e = .returned (.int .u8 (v : Int)) ∧ w = w' := by
  have := add_any a b w
  rw [u8_xor_nat a b ha hb, h] at this
  exact this
end Go.Proofs.YtjifionpblpfoaaDoor

/-
  What sum, Seal and Pad of layer 6 do. Conditions: no more than 2^12 bytes.
-/
namespace Go.Proofs.YtjifionpblpfoaaDoor
open Go.RowKit
open Pol (co Sm)

/-- The first k sums, and 0 behind them. -/
def sk (t p : List Nat) (k i : Nat) : Nat := if i < k then co t i ^^^ co p i else 0
theorem sk_lt {t p : List Nat} (ht : Sm t) (hp : Sm p) (k i : Nat) : sk t p k i < 256 := by
  unfold sk
  split
  · exact Gf.xor_lt _ _ (ht i) (hp i)
  · omega
theorem sk_step (t p : List Nat) (k i : Nat) : upd (sk t p k) k (co t k ^^^ co p k) i = sk t p (k + 1) i := by
  unfold upd sk
  by_cases e : i = k
  · subst e; rw [if_pos rfl, if_pos (by omega)]
  · rw [if_neg e]
    by_cases h : i < k
    · rw [if_pos h, if_pos (by omega)]
    · rw [if_neg h, if_neg (by omega)]
theorem sk_all (t p : List Nat) (n : Nat) (hn : t.length = n) : tab n (sk t p n) = lx t p := by
  subst hn
  unfold lx tab
  refine List.map_congr_left fun i hi => ?_
  unfold sk
  rw [if_pos (List.mem_range.1 hi)]

set_option maxHeartbeats 800000 in
set_option maxRecDepth 100000 in
theorem j_sum (t p : List Nat) (A B : Option Addr) (ca cb : Nat) (w : World) (ha : Rd w A t) (hb : Rd w B p) (hl : t.length ≤ 4096) (he : t.length = p.length) :
    Calls Tryd.prog 60 #[.slice A t.length ca, .slice B p.length cb] w (GivesE (lx t p) 0 w) := by
  have HLL := Lib.hid (lx_len t p)
  rw [← he]
  generalize hna : t.length = n at *
  have HALL := Lib.hid (sk_all t p n hna)
  have HA := Lib.hid ha
  have HB := Lib.hid hb
  have HNA := Lib.hid hna
  have HNB := Lib.hid he.symm
  have hmk := fun W => run_make_u8 n (by omega) W
  have t0 : ((n : Int) != (n : Int)) = false := by simp
  clear ha hb hna he
  go_enter Tryd.func60, Tryd.ntmps60
  go_wp2
  clear hmk t0
  go_loopg [18] n (fun g s wx => ∃ j : Nat, j + g = n ∧ s = .int .i64 (j : Int) ∧ Blk wx w.heap.size n (sk t p j) ∧ Ext w wx)
  case atStart => exact ⟨0, by omega, rfl, (Blk.new w n _).congr (fun i _ => by unfold sk; rw [if_neg (by omega)]), (Ext.refl _).alloc _⟩
  case round =>
    obtain ⟨j, hjg, rfl, hblk, hx⟩ := hrel
    have HY := Lib.hid hx
    have HL := Lib.hid hblk
    clear hx hblk
    cases gk with
    | zero =>
      obtain rfl : j = n := by omega
      clear hjg
      have HR := Lib.hid (HALL.out ▸ HL.out.reads (fun i _ => sk_lt HA.out.1 HB.out.1 j i))
      go_wp2
      go_ret2
      exact ⟨_, rfl, ⟨_, _, by rw [HLL.out]; rfl, by rw [HLL.out]; exact Nat.le_refl _, HR.out⟩, HY.out⟩
    | succ g =>
      have hj : j < n := by omega
      have hjI : (j : Int) < (n : Int) := by omega
      obtain ⟨b1, o1, e1, hc1⟩ := (HA.out.ext HY.out).2 j (by rw [HNA.out]; exact hj)
      obtain ⟨b2, o2, e2, hc2⟩ := (HB.out.ext HY.out).2 j (by rw [HNB.out]; exact hj)
      subst e1; subst e2
      have hc3 := HL.out.cell j hj
      have hfz := HL.out.frozen j
      have HU := Lib.hid (((HL.out.drewN 1).store j (co t j ^^^ co p j)).congr (f' := sk t p (j + 1)) (fun i _ => sk_step t p j i))
      have HE := Lib.hid ((HY.out.drewN 1).setCell (p := ⟨w.heap.size, j, none⟩) (Nat.le_refl _) (.int .u8 ((co t j ^^^ co p j : Nat) : Int)))
      have HM := Lib.hid (fun W => (add_is (co t j) (co p j) _ (HA.out.1 j) (HB.out.1 j) rfl W).mono fun _ _ h => (⟨h.1, h.2.symm⟩ : _ ∧ _ = W))
      go_wp2
      go_still_tail 12, (by kernel_rfl)
      still_call (HM.out _)
      repeat still_step
      refine wpStill_nil ?_
      change wpList _ _ _ _ _ wr.drew
      go_wp2
      go_roundg g
      case measure => omega
      case rel => exact ⟨j + 1, by omega, by go_num, HU.out, HE.out⟩

theorem j_sum_no (t p : Nat) (A B : Option Addr) (ca cb : Nat) (w : World) (he : t ≠ p) :
    Calls Tryd.prog 60 #[.slice A t ca, .slice B p cb] w (GivesE [] 1 w) := by
  have t0 : ((t : Int) != (p : Int)) = true := by simp; omega
  clear he
  go_enter Tryd.func60, Tryd.ntmps60
  go_wp2
  go_ret2
  exact ⟨_, rfl, sl_none _, Ext.refl w⟩
theorem j_seal (l : List Nat) (n : Int) (x y : Value) (w : World) (h : Calls Tryd.prog 60 #[x, y] w (GivesE l n w)) :
    Calls Tryd.prog 41 #[x, y] w (GivesE l n w) := by
  have H := Lib.hid h
  clear h
  go_enter Tryd.func41, Tryd.ntmps41
  go_wp2_with fail
  refine H.out.mono ?_
  rintro e w1 ⟨v, rfl, hs, hx⟩
  have HS := Lib.hid hs
  have HX := Lib.hid hx
  clear hs hx
  go_wp2
  go_ret2
  exact ⟨_, rfl, HS.out, HX.out⟩
end Go.Proofs.YtjifionpblpfoaaDoor

/-
  The code's own valid: which orders can be. Conditions: none.
-/
namespace Go.Proofs.YtjifionpblpfoaaDoor
open Go.RowKit
open Pol (co Sm)

set_option maxHeartbeats 1600000 in
theorem tx_valid (k t : Int) (a n c : Nat) (A : Option Addr) (w : World) : Calls Tryd.prog 63 #[.agg #[.int .i64 k, .int .i64 t, .int .u64 (a : Int), .slice A n c]] w (Tells (.bool (decide (RightN k t a n))) w) := by
  by_cases h0 : 16 < n
  · have d0 : decide ((n : Int) > 16) = true := decide_eq_true (by omega)
    have d0' : decide (16 < (n : Int)) = true := decide_eq_true (by omega)
    rw [show decide (RightN k t a n) = false from decide_eq_false (by unfold RightN; omega)]
    go_enter Tryd.func63, Tryd.ntmps63
    go_wp2
    go_ret
    exact ⟨rfl, (Ext.refl _).alloc _⟩
  have d0 : decide ((n : Int) > 16) = false := decide_eq_false (by omega)
  have d0' : decide (16 < (n : Int)) = false := decide_eq_false (by omega)
  by_cases h1 : k = 1
  · by_cases h2 : 0 ≤ t
    · have d2 : decide (t ≥ 0) = true := decide_eq_true (by omega)
      have d2' : decide (0 ≤ t) = true := decide_eq_true (by omega)
      by_cases h3 : t < 6
      · have d3 : decide (t < 6) = true := decide_eq_true h3
        rw [show decide (RightN k t a n) = true from decide_eq_true (by unfold RightN; omega)]
        subst h1
        go_enter Tryd.func63, Tryd.ntmps63
        go_wp2
        go_ret
        exact ⟨rfl, (Ext.refl _).alloc _⟩
      · have d3 : decide (t < 6) = false := decide_eq_false h3
        rw [show decide (RightN k t a n) = false from decide_eq_false (by unfold RightN; omega)]
        subst h1
        go_enter Tryd.func63, Tryd.ntmps63
        go_wp2
        go_ret
        exact ⟨rfl, (Ext.refl _).alloc _⟩
    · have d2 : decide (t ≥ 0) = false := decide_eq_false (by omega)
      have d2' : decide (0 ≤ t) = false := decide_eq_false (by omega)
      rw [show decide (RightN k t a n) = false from decide_eq_false (by unfold RightN; omega)]
      subst h1
      go_enter Tryd.func63, Tryd.ntmps63
      go_wp2
      go_ret
      exact ⟨rfl, (Ext.refl _).alloc _⟩
  have d1 : (k == 1) = false := by simp; omega
  have d1' : decide (k = 1) = false := decide_eq_false h1
  by_cases h4 : k = 2
  · by_cases h5 : t = 0
    · by_cases h6 : a = 0
      · have HD := Lib.hid (show decide (RightN k t a n) = true from decide_eq_true (by unfold RightN; omega))
        rw [HD.out]
        subst h4 h5 h6
        go_enter Tryd.func63, Tryd.ntmps63
        go_wp2
        go_ret
        exact ⟨rfl, (Ext.refl _).alloc _⟩
      · have d6 : ((a : Int) == 0) = false := by simp; omega
        have d6' : decide ((a : Int) = 0) = false := decide_eq_false (by omega)
        have d6'' : decide (a = 0) = false := decide_eq_false h6
        have HD := Lib.hid (show decide (RightN k t a n) = false from decide_eq_false (by unfold RightN; omega))
        rw [HD.out]
        subst h4 h5
        go_enter Tryd.func63, Tryd.ntmps63
        go_wp2
        go_ret
        exact ⟨rfl, (Ext.refl _).alloc _⟩
    · have d5 : (t == 0) = false := by simp; omega
      have d5' : decide (t = 0) = false := decide_eq_false h5
      have HD := Lib.hid (show decide (RightN k t a n) = false from decide_eq_false (by unfold RightN; omega))
      rw [HD.out]
      subst h4
      go_enter Tryd.func63, Tryd.ntmps63
      go_wp2
      go_ret
      exact ⟨rfl, (Ext.refl _).alloc _⟩
  · have d4 : (k == 2) = false := by simp; omega
    have d4' : decide (k = 2) = false := decide_eq_false h4
    rw [show decide (RightN k t a n) = false from decide_eq_false (by unfold RightN; omega)]
    go_enter Tryd.func63, Tryd.ntmps63
    go_wp2
    go_ret
    exact ⟨rfl, (Ext.refl _).alloc _⟩
end Go.Proofs.YtjifionpblpfoaaDoor

/-
  What Number and Text of layer 8 lay behind bytes. Conditions: no more than 2^20 bytes each.
-/
namespace Go.Proofs.YtjifionpblpfoaaDoor
open Go.RowKit
open Pol (co Sm)

set_option maxHeartbeats 1600000 in
set_option maxRecDepth 100000 in
theorem cd_layN (base : Nat) (v : Value) (l : List Nat) (n : Nat) (w : World) (hm : Mine w base v l) (hs : Sm l) (hl : l.length ≤ 1048576) (hn : n < 18446744073709551616) (hb : base ≤ w.heap.size) :
    Calls Tryd.prog 25 #[v, .int .u64 (n : Int)] w (Lays base v (l ++ vn n) w) := by
  have HSM := Lib.hid (sm_app hs (vn_sm n))
  have HTEN := Lib.hid (vn_ten hn)
  have hn10 : n < 128 ^ (9 + 1) := by omega
  obtain ⟨V, hV⟩ : ∃ V, l ++ vn n = V := ⟨_, rfl⟩
  have HVL := Lib.hid (show V.length ≤ 1048586 by rw [← hV, List.length_append]; have := HTEN.out; omega)
  rw [hV] at HSM
  rw [hV]
  have HV := Lib.hid hV
  clear hV
  obtain ⟨B0, c0, rfl, hc0, _⟩ := hm.slice hs
  have HM0 := Lib.hid hm
  have HB := Lib.hid hb
  obtain ⟨l0, hl0⟩ : ∃ l0, l.length = l0 := ⟨_, rfl⟩
  have HL0 := Lib.hid hl0
  obtain ⟨v0, hv0⟩ : ∃ v0, Value.slice B0 l.length c0 = v0 := ⟨_, rfl⟩
  rw [hv0] at HM0 ⊢
  rw [hl0] at hv0 hc0 hl
  have HV0 := Lib.hid hv0
  rw [← hv0]
  clear hm hb hl0 hv0
  go_enter Tryd.func25, Tryd.ntmps25
  go_wp2
  go_loopg [0, 1] 9 (fun g s0 s1 wx => ∃ (m : Nat) (acc : List Nat) (B : Option Addr) (c : Nat), m < 128 ^ (g + 1) ∧ s1 = .int .u64 (m : Int) ∧ m < 18446744073709551616 ∧ acc ++ vn m = V ∧ s0 = .slice B acc.length c ∧ Mine wx base (.slice B acc.length c) acc ∧ LayS w wx v0 (.slice B acc.length c))
  case atStart => exact ⟨n, l, B0, c0, hn10, rfl, hn, HV.out, by rw [HL0.out], by rw [HL0.out, HV0.out]; exact HM0.out, by rw [HL0.out, HV0.out]; exact LayS.refl _ _⟩
  case round =>
    obtain ⟨m, acc, B, c, hmg, rfl, hm64, hac, rfl, hmi, hx⟩ := hrel
    have HM := Lib.hid hmi
    have HX := Lib.hid hx
    have hlen : acc.length ≤ 1048586 := by have := HVL.out; rw [← hac, List.length_append] at this; omega
    have hsz : w.heap.size ≤ wr.heap.size := hx.1.size
    have HSZ := Lib.hid (Nat.le_trans HB.out hsz)
    obtain ⟨la, hla⟩ : ∃ la, acc.length = la := ⟨_, rfl⟩
    have HLA := Lib.hid hla
    rw [hla] at HM HX hlen ⊢
    clear hmi hx hla hsz
    by_cases h128 : m < 128
    · have d1 : decide (128 ≤ (m : Int)) = false := decide_eq_false (by omega)
      have e1 : IntKind.u8.wrap (m : Int) = (m : Int) := IntWalk.u8_in _ (by omega)
      have HAV := Lib.hid (show acc ++ [m] = V from by rw [← hac, vn_lt h128])
      have hm256 : m < 256 := by omega
      clear hac hmg
      go_wp2_with (at_builtin; refine wpList_append_rd rfl (.tmp 15) (.tmp 18) rfl base _ acc [m] rfl (mine_ext HM.out ((Ext.refl _).alloc _)) (some ⟨wr.heap.size, 0, none⟩) 1 1 rfl rfl (rd_one wr m hm256) (by rw [HLA.out]; simp; omega) (by simp; have := HSZ.out; omega) ?_; intro v' w3 hown' hg' hat'; rw [HAV.out] at hown'; have hx3 := (HX.out.alloc (.cells #[.int .u8 (m : Int)] 5)).step hg' hat'; have HO := Lib.hid (hx3.lays hown'); clear hown' hg' hat' hx3)
      go_ret
      rw [HV0.out]
      exact HO.out
    · cases gk with
      | zero => omega
      | succ g =>
        have d1 : decide (128 ≤ (m : Int)) = true := decide_eq_true (by omega)
        obtain ⟨q, hq⟩ : ∃ q, m % 256 = q := ⟨_, rfl⟩
        obtain ⟨y, hy⟩ : ∃ y, q % 128 + 128 = y := ⟨_, rfl⟩
        obtain ⟨m2, hm2⟩ : ∃ m2, m / 128 = m2 := ⟨_, rfl⟩
        have e1 : IntKind.u8.wrap (m : Int) = (q : Int) := by rw [IntKind.wrap_u8]; omega
        have e2 : bits .or .u8 (q : Int) 128 = (y : Int) := by rw [or8_128 q (by omega), hy]
        have e5 : (m : Int) / 128 = (m2 : Int) := by omega
        have hy256 : y < 256 := by omega
        have HAV := Lib.hid (show (acc ++ [y]) ++ vn m2 = V from by
          rw [← hac, vn_ge h128, List.append_assoc, hm2, show m % 128 + 128 = y from by omega]; rfl)
        have HS9 := Lib.hid (show Sm (acc ++ [y]) from (sm_split (b := vn m2) (by rw [HAV.out]; exact HSM.out)).1)
        have HL9 := Lib.hid (show (acc ++ [y]).length = la + 1 by rw [List.length_append, HLA.out]; rfl)
        have hm2b : m2 < 128 ^ (g + 1) := by rw [← hm2]; rw [Nat.pow_succ] at hmg; omega
        have hm2c : m2 < 18446744073709551616 := by omega
        clear hac hq hy hm2 hmg
        go_wp2_with (at_builtin; refine wpList_append_rd rfl (.tmp 7) (.tmp 11) rfl base _ acc [y] rfl (mine_ext HM.out ((Ext.refl _).alloc _)) (some ⟨wr.heap.size, 0, none⟩) 1 1 rfl rfl (rd_one wr y hy256) (by rw [HLA.out]; simp; omega) (by simp; have := HSZ.out; omega) ?_; intro v' w3 hown' hg' hat'; have hx3 := (HX.out.alloc (.cells #[.int .u8 (y : Int)] 5)).step hg' hat'; obtain ⟨Bv, cv, ev', hcv, _⟩ := hown'.slice HS9.out; rw [HL9.out] at ev'; subst ev'; have HO := Lib.hid hown'; have HX3 := Lib.hid hx3; clear hown' hg' hat' hx3)
        go_roundg g
        case measure => omega
        case rel => exact ⟨m2, acc ++ [y], Bv, cv, hm2b, rfl, hm2c, HAV.out, by rw [HL9.out], by rw [HL9.out]; exact HO.out, by rw [HL9.out]; exact HX3.out⟩
set_option maxHeartbeats 1600000 in
theorem cd_layT (base : Nat) (v : Value) (l t : List Nat) (A : Option Addr) (ca : Nat) (w : World) (hm : Mine w base v l) (hs : Sm l) (hr : Rd w A t) (hl : l.length ≤ 1048576) (ht : t.length ≤ 1048576) (hb : base ≤ w.heap.size) :
    Calls Tryd.prog 26 #[v, .slice A t.length ca] w (Lays base v (l ++ vt t) w) := by
  have HN := Lib.hid (cd_layN w.heap.size (.slice none 0 0) [] t.length w (Mine.nil _ _) Sm.nil (by decide) (by omega) (Nat.le_refl _))
  have HR := Lib.hid hr
  have HM := Lib.hid hm
  have HB := Lib.hid hb
  have HS := Lib.hid (vt_sm hr.1)
  have HSN := Lib.hid (vn_sm t.length)
  have HTEN := Lib.hid (vn_ten (n := t.length) (by omega))
  have HVT := Lib.hid (show vn t.length ++ t = vt t from rfl)
  have HVL := Lib.hid (show (vt t).length ≤ 1048586 by rw [← HVT.out, List.length_append]; have := HTEN.out; omega)
  rw [List.nil_append] at HN
  obtain ⟨B0, c0, ev0, hc0, _⟩ := hm.slice hs
  have HV0 := Lib.hid ev0
  rw [ev0]
  clear hr hm hb
  generalize hn : t.length = n at *
  have HL := Lib.hid hn
  clear hn
  have e1 : IntKind.u64.wrap (n : Int) = (n : Int) := by rw [IntKind.wrap_u64]; omega
  generalize vn n = V at *
  obtain ⟨V2, hV2⟩ : ∃ V2, vt t = V2 := ⟨_, rfl⟩
  rw [hV2] at HS HVT HVL ⊢
  clear hV2 ev0
  go_enter Tryd.func26, Tryd.ntmps26
  go_wp2_with fail
  refine HN.out.mono ?_
  rintro e w1 ⟨v1, rfl, hm1, hg1, _⟩
  have HX1 := Lib.hid ((Ext.refl w).more hg1 (fun r e => by simp [Value.ownBlock] at e))
  obtain ⟨B, c, ev, hc, _⟩ := hm1.slice HSN.out
  subst ev
  have HM1 := Lib.hid hm1
  clear hm1 hg1
  obtain ⟨lv, hlv⟩ : ∃ lv, V.length = lv := ⟨_, rfl⟩
  have HLV := Lib.hid hlv
  rw [hlv] at HM1 hc HTEN ⊢
  clear hlv
  go_wp2_with (at_builtin; first | (refine wpList_append_rd rfl (.tmp 9) (.tmp 10) rfl w.heap.size _ V t rfl HM1.out A n ca rfl HL.out (HR.out.ext HX1.out) (by rw [HLV.out, HL.out]; have := HTEN.out; omega) (by have := HX1.out.size; omega) ?_; intro v2 w3 hown' hg' hat'; rw [HVT.out] at hown'; have hx3 := HX1.out.more hg' (fun r e => (HM1.out.block r e).1); obtain ⟨Bv, cv, ev', hcv, hrv⟩ := hown'.slice HS.out; subst ev'; have HR3 := Lib.hid hrv; have HX3 := Lib.hid hx3; clear hown' hg' hat' hx3 hrv) | (refine wpList_append_rd rfl (.tmp 12) (.tmp 13) rfl base _ l V2 rfl (HV0.out ▸ mine_ext HM.out HX3.out) Bv V2.length cv rfl rfl HR3.out (by have := HVL.out; omega) (by have := HX3.out.size; have := HB.out; omega) ?_; intro v4 w5 hown5 hg5 hat5; have HO := Lib.hid ((((LayS.refl w (.slice B0 l.length c0)).ext HX3.out).step hg5 hat5).lays hown5); clear hown5 hg5 hat5))
  go_ret
  exact HO.out

end Go.Proofs.YtjifionpblpfoaaDoor

/-
  The code's own Encode of layer 14. Conditions: no more than 2^16 bytes.
-/
namespace Go.Proofs.YtjifionpblpfoaaDoor
open Go.RowKit
open Pol (co Sm)

set_option maxHeartbeats 3200000 in
set_option maxRecDepth 100000 in
theorem tx_encode (k t : Int) (a n c : Nat) (m : List Nat) (A : Option Addr) (w : World) (hn : m.length = n) (hr : Rd w A m) (hl : n ≤ 65536) (ha : a < 18446744073709551616) :
    Calls Tryd.prog 44 #[.agg #[.int .i64 k, .int .i64 t, .int .u64 (a : Int), .slice A n c]] w (EncR ⟨k, t, a, m⟩ w) := by
  have HV := Lib.hid (fun u => tx_valid k t a n c A u)
  rw [right_is hn] at HV
  have HX0 := Lib.hid ((Ext.refl w).alloc (.cells #[.int .i64 k, .int .i64 t, .int .u64 (a : Int), .slice A n c] 50))
  have HG := Lib.hid (heap_alloc_new w (.cells #[.int .i64 k, .int .i64 t, .int .u64 (a : Int), .slice A n c] 50))
  by_cases ho : Od.right ⟨k, t, a, m⟩
  · rw [decide_eq_true ho] at HV
    obtain ⟨b1, b2, b3, b4, _⟩ := Od.right_bounds ho
    dsimp only at b1 b2 b3 b4
    have HE := Lib.hid (show Od.bytes ⟨k, t, a, m⟩ = [] ++ vn k.toNat ++ vn t.toNat ++ vn a ++ vt m ∧ Od.code ⟨k, t, a, m⟩ = 0 from by
      unfold Od.bytes Od.code Od.enc
      rw [if_pos ho, if_pos ho]
      exact ⟨rfl, rfl⟩)
    have HSM := Lib.hid (Od.bytes_sm (o := ⟨k, t, a, m⟩) hr.1)
    obtain ⟨kk, rfl⟩ : ∃ q : Nat, (q : Int) = k := ⟨k.toNat, by omega⟩
    obtain ⟨tt, rfl⟩ : ∃ q : Nat, (q : Int) = t := ⟨t.toNat, by omega⟩
    rw [Int.toNat_natCast, Int.toNat_natCast] at HE
    have w8 : IntKind.u64.wrap (kk : Int) = (kk : Int) := by rw [IntKind.wrap_u64]; omega
    have w8' : IntKind.u64.wrap (tt : Int) = (tt : Int) := by rw [IntKind.wrap_u64]; omega
    obtain ⟨base, hbase⟩ : ∃ base, (w.alloc (.cells #[.int .i64 (kk : Int), .int .i64 (tt : Int), .int .u64 (a : Int), .slice A n c] 50)).heap.size = base := ⟨_, rfl⟩
    have HBS := Lib.hid hbase
    have S1 : Sm ([] ++ vn kk) := sm_app Sm.nil (vn_sm _)
    have S2 : Sm ([] ++ vn kk ++ vn tt) := sm_app S1 (vn_sm _)
    have S3 : Sm ([] ++ vn kk ++ vn tt ++ vn a) := sm_app S2 (vn_sm _)
    have T1 := vn_ten (show kk < 18446744073709551616 by omega)
    have T2 := vn_ten (show tt < 18446744073709551616 by omega)
    have T3 := vn_ten ha
    have L1 := Lib.hid (fun u (hb : base ≤ u.heap.size) => cd_layN base (.slice none 0 0) [] kk u (Mine.nil _ _) Sm.nil (by decide) (by omega) hb)
    have L2 := Lib.hid (fun u v (hb : base ≤ u.heap.size) (hm : Mine u base v ([] ++ vn kk)) => cd_layN base v _ tt u hm S1 (by simp; omega) (by omega) hb)
    have L3 := Lib.hid (fun u v (hb : base ≤ u.heap.size) (hm : Mine u base v ([] ++ vn kk ++ vn tt)) => cd_layN base v _ a u hm S2 (by simp; omega) ha hb)
    have L4 := Lib.hid (fun u v (hb : base ≤ u.heap.size) (hu : Ext w u) (hm : Mine u base v ([] ++ vn kk ++ vn tt ++ vn a)) => show Calls Tryd.prog 26 #[v, .slice A n c] u (Lays base v ([] ++ vn kk ++ vn tt ++ vn a ++ vt m) u) from by
      have h := cd_layT base v _ m A c u hm S3 (hr.ext hu) (by simp; omega) (by omega) hb
      rwa [hn] at h)
    unfold EncR
    rw [HE.out.1] at HSM ⊢
    rw [HE.out.2]
    clear hr ho S1 S2 S3 T1 T2 T3 b1 b2 b3 b4 HE hbase
    generalize vn kk = V1 at *
    generalize vn tt = V2 at *
    generalize vn a = V3 at *
    generalize vt m = V4 at *
    go_enter Tryd.func44, Tryd.ntmps44
    go_wp2_with fail
    refine (HV.out _).mono ?_
    rintro e w1 ⟨rfl, hx1⟩
    have g1 := hx1.row HG.out
    have q0 : w1.cell? ⟨w.heap.size, 0, none⟩ = some (.int .i64 (kk : Int)) := cell_of_row _ _ 0 _ _ _ g1
    have HX1 := Lib.hid hx1
    clear hx1 g1
    go_wp2_with fail
    refine (L1.out w1 (by rw [← HBS.out]; exact HX1.out.size)).mono ?_
    rintro e w2 ⟨v2, rfl, hm2, hg2, _⟩
    have hx2 := HX1.out.more hg2 (fun r e => by cases e)
    have g2 := hx2.row HG.out
    have q1 : w2.cell? ⟨w.heap.size, 1, none⟩ = some (.int .i64 (tt : Int)) := cell_of_row _ _ 1 _ _ _ g2
    have HX2 := Lib.hid hx2
    have HM2 := Lib.hid hm2
    clear hx2 g2 hm2 hg2 q0
    go_wp2_with fail
    refine (L2.out w2 v2 (by rw [← HBS.out]; exact HX2.out.size) HM2.out).mono ?_
    rintro e w3 ⟨v3, rfl, hm3, hg3, _⟩
    have hx3 := HX2.out.more hg3 (fun r e => by rw [HBS.out]; exact (HM2.out.block r e).1)
    have g3 := hx3.row HG.out
    have q2 : w3.cell? ⟨w.heap.size, 2, none⟩ = some (.int .u64 (a : Int)) := cell_of_row _ _ 2 _ _ _ g3
    have HX3 := Lib.hid hx3
    have HM3 := Lib.hid hm3
    clear hx3 g3 hm3 hg3 q1
    go_wp2_with fail
    refine (L3.out w3 v3 (by rw [← HBS.out]; exact HX3.out.size) HM3.out).mono ?_
    rintro e w4 ⟨v4, rfl, hm4, hg4, _⟩
    have hx4 := HX3.out.more hg4 (fun r e => by rw [HBS.out]; exact (HM3.out.block r e).1)
    have g4 := hx4.row HG.out
    have q3 : w4.cell? ⟨w.heap.size, 3, none⟩ = some (.slice A n c) := cell_of_row _ _ 3 _ _ _ g4
    have HX4 := Lib.hid hx4
    have HM4 := Lib.hid hm4
    clear hx4 g4 hm4 hg4 q2
    go_wp2_with fail
    refine (L4.out w4 v4 (by rw [← HBS.out]; exact HX4.out.size) (HX0.out.trans HX4.out) HM4.out).mono ?_
    rintro e w5 ⟨v5, rfl, hm5, hg5, _⟩
    have HX5 := Lib.hid (HX4.out.more hg5 (fun r e => by rw [HBS.out]; exact (HM4.out.block r e).1))
    obtain ⟨B5, c5, rfl, hc5, hr5⟩ := hm5.slice HSM.out
    obtain ⟨n5, hn5⟩ : ∃ q, ([] ++ V1 ++ V2 ++ V3 ++ V4).length = q := ⟨_, rfl⟩
    rw [hn5] at hc5 ⊢
    have HN5 := Lib.hid hn5
    have HR5 := Lib.hid hr5
    have HC5 := Lib.hid hc5
    clear hm5 hg5 hr5 hc5 q3 hn5
    go_wp2
    go_ret2
    exact ⟨HX0.out.trans HX5.out, _, _, _, rfl, HN5.out, HC5.out, HR5.out⟩
  · rw [decide_eq_false ho] at HV
    have HO := Lib.hid ho
    clear hr ho
    go_enter Tryd.func44, Tryd.ntmps44
    go_wp2_with fail
    refine (HV.out _).mono ?_
    rintro e w1 ⟨rfl, hx1⟩
    have HX1 := Lib.hid (HX0.out.trans hx1)
    clear hx1
    go_wp2
    go_ret2
    exact EncR.no HO.out HX1.out
end Go.Proofs.YtjifionpblpfoaaDoor
