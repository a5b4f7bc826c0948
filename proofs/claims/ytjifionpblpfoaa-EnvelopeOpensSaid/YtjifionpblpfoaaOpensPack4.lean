/-
  Part 4 of the texts that the seat's proofs stand on; each part of it begins with its own sentence and conditions. Conditions: those that each theorem names.
-/
import Derived.Test.YtjifionpblpfoaaOpensPack3
import Derived.Laws.CopyOwn
import Derived.Test.YtjifionpblpfoaaProg
import Derived.StillTail
import Derived.Deep.Quiet
import Derived.Deep.QuietTactic
import Derived.BigQuiet
import Derived.KernelRfl
import Derived.StillTailTactics

/-
  EnvelopeOpens, walked. Conditions: those of EnvMk.
-/
namespace Go.Proofs.Ytjifionpblpfoaa
open Go.RowKit
open Pol (co Sm)

/-- A right order under a pad of 31 or 32 bytes can be sealed. -/
theorem make16_fine {s k t : Int} {n f x a : Nat} {m p : List Nat} (h : RightN k t a m.length) (ha : a < 18446744073709551616) (h1 : 31 ≤ p.length) (h2 : p.length ≤ 32) (h3 : 0 ≤ s) (h4 : s < 6) (h5 : f ≤ 1152921504606846976) : (make16 s n f x ⟨k, t, a, m⟩ p).1 = 0 := by
  have hr : Od.right ⟨k, t, a, m⟩ := h
  have hb := Od.bytes_len (o := ⟨k, t, a, m⟩) ha
  unfold make16
  rw [if_neg (by simpa using hr), if_neg (by simpa using (show FillOk (Od.bytes ⟨k, t, a, m⟩).length ((p.length : Nat) : Int) from ⟨by omega, by omega, by omega⟩))]
  have hc : (Ev.mk s n f x (lx (fil (Od.bytes ⟨k, t, a, m⟩) p.length) p)).chk = 0 := by
    rw [Ev.chk_ok]
    refine ⟨h3, h4, h5, ?_, ?_⟩ <;> dsimp only <;> rw [lx_len, fil_len] <;> omega
  rw [if_neg (by simpa using hc)]
/-- What was made, if it was made. -/
theorem make16_zero {s : Int} {n f x : Nat} {o : Od} {p : List Nat} (h : (make16 s n f x o p).1 = 0) : ∃ b, make16 s n f x o p = (0, ⟨s, n, f, x, b⟩) ∧ b.length = p.length ∧ (Ev.mk s n f x b).chk = 0 := by
  unfold make16 at h ⊢
  by_cases hr : o.right
  · rw [if_neg (by simpa using hr)] at h ⊢
    by_cases hf : FillOk o.bytes.length (p.length : Int)
    · rw [if_neg (by simpa using hf)] at h ⊢
      by_cases hc : (Ev.mk s n f x (lx (fil o.bytes p.length) p)).chk = 0
      · rw [if_neg (by simpa using hc)]
        exact ⟨_, rfl, by rw [lx_len, fil_len], hc⟩
      · rw [if_pos hc] at h
        exact absurd h hc
    · rw [if_pos hf] at h
      cases h
  · rw [if_pos hr] at h
    cases h
set_option maxHeartbeats 6400000 in
set_option maxRecDepth 100000 in
theorem opens16_walk (C : EnvMk) (s nn f x : Nat) (k t : Int) (a nm cm np cp : Nat) (m p : List Nat) (B D : Option Addr) (w : World) (hs : s < 256)
    (hm : m.length = nm) (hmc : nm ≤ cm) (hq : Rd w B m) (hp : p.length = np) (hpc : np ≤ cp) (hd : Rd w D p) (h1 : nn < 18446744073709551616) (h2 : f < 18446744073709551616) (h3 : x < 18446744073709551616) (h4 : a < 18446744073709551616) :
    Calls Try.prog 4 #[.int .u8 (s : Int), .int .u64 (nn : Int), .int .u64 (f : Int), .int .u64 (x : Int), .agg #[.int .i64 k, .int .i64 t, .int .u64 (a : Int), .slice B nm cm], .slice D np cp] w (Holds w) := by
  have hx0 := (Ext.refl w).alloc (.cells #[.int .i64 k, .int .i64 t, .int .u64 (a : Int), .slice B nm cm] 27)
  have ht0 := heap_alloc_new w (.cells #[.int .i64 k, .int .i64 t, .int .u64 (a : Int), .slice B nm cm] 27)
  have HX0 := Lib.hid hx0
  have HT0 := Lib.hid ht0
  have HT3 := Lib.hid (cell_of_row _ _ 3 _ _ _ ht0)
  have HQ := Lib.hid hq
  have HD := Lib.hid hd
  clear hx0 ht0
  by_cases v : 100 < nm
  · have v1 : decide ((nm : Int) > 100) = true := decide_eq_true (by omega)
    have v2 : decide (100 < (nm : Int)) = true := decide_eq_true (by omega)
    clear HQ HD hq hd
    go_enter Try.func4, Try.ntmps4
    go_wp2_with fail
    refine (awake16 C _).mono ?_
    rintro e w1 ⟨rfl, hx1⟩
    have HX1 := Lib.hid (HX0.out.trans hx1)
    have t3 := hx1.at HT3.out
    clear hx1
    go_wp2_with fail
    refine (awake16 C _).mono ?_
    rintro e w2 ⟨rfl, hx2⟩
    have HX2 := Lib.hid (HX1.out.trans hx2)
    clear hx2 t3
    go_wp2
    go_ret
    exact ⟨rfl, HX2.out⟩
  have v1 : decide ((nm : Int) > 100) = false := decide_eq_false (by omega)
  have v2 : decide (100 < (nm : Int)) = false := decide_eq_false (by omega)
  by_cases y : 100 < np
  · have y1 : decide ((np : Int) > 100) = true := decide_eq_true (by omega)
    have y2 : decide (100 < (np : Int)) = true := decide_eq_true (by omega)
    clear HQ HD hq hd
    go_enter Try.func4, Try.ntmps4
    go_wp2_with fail
    refine (awake16 C _).mono ?_
    rintro e w1 ⟨rfl, hx1⟩
    have HX1 := Lib.hid (HX0.out.trans hx1)
    have t3 := hx1.at HT3.out
    clear hx1
    go_wp2_with fail
    refine (awake16 C _).mono ?_
    rintro e w2 ⟨rfl, hx2⟩
    have HX2 := Lib.hid (HX1.out.trans hx2)
    clear hx2 t3
    go_wp2
    go_ret
    exact ⟨rfl, HX2.out⟩
  have y1 : decide ((np : Int) > 100) = false := decide_eq_false (by omega)
  have y2 : decide (100 < (np : Int)) = false := decide_eq_false (by omega)
  obtain ⟨fm, hfm⟩ : ∃ q, f % 1152921504606846976 = q := ⟨_, rfl⟩
  obtain ⟨sm, hsm⟩ : ∃ q : Int, (s : Int) % 6 = q := ⟨_, rfl⟩
  have hfi : (f : Int) % 1152921504606846976 = (fm : Int) := by omega
  have HAW := Lib.hid (fun u => awake16 C u)
  have HMK := Lib.hid (fun u (hu : Ext w u) => C.make sm nn fm x k t a nm cm m p B D np cp u hm hmc (HQ.out.ext hu) (by omega) h4 hp hpc (HD.out.ext hu) (by omega) h1 (by omega) h3)
  have HRI := Lib.hid (fun u => ref14_right k t a nm cm B u)
  by_cases hz : (make16 sm nn fm x ⟨k, t, a, m⟩ p).1 = 0
  rotate_left
  · obtain ⟨r, ⟨s', n', f', x', b'⟩, hmk⟩ : ∃ r q, make16 sm nn fm x ⟨k, t, a, m⟩ p = (r, q) := ⟨_, _, rfl⟩
    have HWHY := Lib.hid (show RightN k t a nm → np < 31 ∨ 32 < np from fun h => by
      rcases Nat.lt_or_ge np 31 with h5 | h5
      · exact .inl h5
      · rcases Nat.lt_or_ge 32 np with h6 | h6
        · exact .inr h6
        · exact absurd (make16_fine (by have h7 := h; rw [← hm] at h7; exact h7) h4 (by omega) (by omega) (by omega) (by omega) (by omega)) hz)
    rw [hmk] at HMK hz
    unfold EvR at HMK
    dsimp only at HMK hz
    have z1 : ((r : Int) == 0) = false := by simp; omega
    have z2 : ((r : Int) != 0) = true := by simp; omega
    clear hmk hm hp hq hd HQ HD C
    go_enter Try.func4, Try.ntmps4
    go_wp2_with fail
    refine (HAW.out _).mono ?_
    rintro e w1 ⟨rfl, hx1⟩
    have HX1 := Lib.hid (HX0.out.trans hx1)
    have HT1 := Lib.hid (hx1.row HT0.out)
    have t3 := hx1.at HT3.out
    clear hx1
    go_wp2_with (with_reducible refine wpList_load_row rfl 27 (.tmp 10) rfl (w.heap.size) rfl 27 #[.int .i64 k, .int .i64 t, .int .u64 (a : Int), .slice B nm cm] (0, 0) _ HT1.out Try.underlying27 rfl tx_in16 ?_)
    refine (HMK.out w1 HX1.out).mono ?_
    rintro e w2 ⟨hx2, B2, n2, c2, rfl, hn2, hc2, hr2⟩
    have hxa := (Ext.refl w2).alloc (.cells #[.int .i64 s', .int .u64 (n' : Int), .int .u64 (f' : Int), .int .u64 (x' : Int), .slice B2 n2 c2] 25)
    have HX2 := Lib.hid ((HX1.out.trans hx2).trans hxa)
    have HT2 := Lib.hid ((hx2.trans hxa).row HT1.out)
    clear hx2 hr2 hc2 hxa t3
    go_wp2_with (first | (with_reducible refine wpList_load_row rfl 27 (.tmp 10) rfl (w.heap.size) rfl 27 #[.int .i64 k, .int .i64 t, .int .u64 (a : Int), .slice B nm cm] (0, 0) _ HT2.out Try.underlying27 rfl tx_in16 ?_) | (refine wpList_load_row_g (by first | rfl | go_simp) 27 (.tmp 10) rfl (w.heap.size) rfl 27 #[.int .i64 k, .int .i64 t, .int .u64 (a : Int), .slice B nm cm] (0, 0) _ HT2.out Try.underlying27 rfl tx_in16 ?_))
    refine (HRI.out _).mono ?_
    rintro e w3 ⟨rfl, hx3⟩
    have HX3 := Lib.hid (HX2.out.trans hx3)
    clear hx3
    by_cases hr : RightN k t a nm
    · have d1 : decide (RightN k t a nm) = true := decide_eq_true hr
      rw [d1]
      by_cases h5 : np < 31
      · have d2 : decide ((np : Int) < 31) = true := decide_eq_true (by omega)
        go_wp2
        go_ret
        exact ⟨rfl, HX3.out⟩
      · have d2 : decide ((np : Int) < 31) = false := decide_eq_false (by omega)
        have d3 : decide ((np : Int) > 32) = true := decide_eq_true (by have := HWHY.out hr; omega)
        have d4 : decide (32 < (np : Int)) = true := decide_eq_true (by have := HWHY.out hr; omega)
        go_wp2
        go_ret
        exact ⟨rfl, HX3.out⟩
    · have d1 : decide (RightN k t a nm) = false := decide_eq_false hr
      rw [d1]
      go_wp2
      go_ret
      exact ⟨rfl, HX3.out⟩
  obtain ⟨b', hmk, hbl, hck⟩ := make16_zero hz
  have hop := open_make (s := sm) (n := nn) (f := fm) (x := x) (o := ⟨k, t, a, m⟩) (p := p) h4 hz
  rw [hmk] at hop
  have hop2 : open16 ⟨sm, nn, fm, x, b'⟩ (p ++ [0]) = (1, Od.zero) := open16_len hck (by dsimp only; rw [List.length_append, hbl]; simp)
  have HSMP := Lib.hid hd.1
  have HLP := Lib.hid hp
  have hbn : b'.length = np := hbl.trans hp
  have HBN := Lib.hid hbn
  have HOP := Lib.hid (fun u B2 c2 (hu : Ext w u) (q : Rd u B2 b') (hc : np ≤ c2) => C.opens sm nn fm x np c2 b' p B2 D np cp u hbn hc q (by omega) hp hpc (HD.out.ext hu) (by omega) h1 (by omega) h3)
  have HOZ := Lib.hid (fun u B2 c2 D' c' (q : Rd u B2 b') (hc : np ≤ c2) (hq : Rd u D' (p ++ [0])) (hc' : np + 1 ≤ c') => C.opens sm nn fm x np c2 b' (p ++ [0]) B2 D' (np + 1) c' u hbn hc q (by omega) (by rw [List.length_append, hp]; rfl) hc' hq (by omega) h1 (by omega) h3)
  have HS2 := Lib.hid (fun u B1 c1 (hu : Ext w u) (q : Rd u B1 m) => law16_same k t k t a nm c1 a nm cm m m B1 B u hm hm q (HQ.out.ext hu) (by omega))
  rw [show decide ((⟨k, t, a, m⟩ : Od) = ⟨k, t, a, m⟩) = true from decide_eq_true rfl] at HS2
  rw [hmk] at HMK
  rw [hop] at HOP
  rw [hop2] at HOZ
  unfold EvR at HMK
  unfold OdR at HOP HOZ
  dsimp only [Od.zero] at HMK HOP HOZ
  have HML := Lib.hid hm
  clear C hz hmk hop hop2 hbl hck hm hp hq hd hbn HQ
  go_enter Try.func4, Try.ntmps4
  go_wp2_with fail
  refine (HAW.out _).mono ?_
  rintro e w1 ⟨rfl, hx1⟩
  have HX1 := Lib.hid (HX0.out.trans hx1)
  have HT1 := Lib.hid (hx1.row HT0.out)
  have t3 := hx1.at HT3.out
  clear hx1
  go_wp2_with (with_reducible refine wpList_load_row rfl 27 (.tmp 10) rfl (w.heap.size) rfl 27 #[.int .i64 k, .int .i64 t, .int .u64 (a : Int), .slice B nm cm] (0, 0) _ HT1.out Try.underlying27 rfl tx_in16 ?_)
  refine (HMK.out w1 HX1.out).mono ?_
  rintro e w2 ⟨hx2, B2, n2, c2, rfl, hn2, hc2, hr2⟩
  obtain rfl : np = n2 := HBN.out.symm.trans hn2
  have hxa := (Ext.refl w2).alloc (.cells #[.int .i64 sm, .int .u64 (nn : Int), .int .u64 (fm : Int), .int .u64 (x : Int), .slice B2 np c2] 25)
  have HX2 := Lib.hid ((HX1.out.trans hx2).trans hxa)
  have HT2 := Lib.hid ((hx2.trans hxa).row HT1.out)
  have HE2 := Lib.hid (heap_alloc_new w2 (.cells #[.int .i64 sm, .int .u64 (nn : Int), .int .u64 (fm : Int), .int .u64 (x : Int), .slice B2 np c2] 25))
  have HR2 := Lib.hid (hr2.ext hxa)
  clear hx2 hr2 hxa t3 hn2
  go_wp2_with (first | (with_reducible refine wpList_load_row rfl 25 (.tmp 11) rfl (w2.heap.size) rfl 25 #[.int .i64 sm, .int .u64 (nn : Int), .int .u64 (fm : Int), .int .u64 (x : Int), .slice B2 np c2] (0, 0) _ HE2.out Try.underlying25 rfl ev_in16 ?_))
  refine (HOP.out _ B2 c2 HX2.out HR2.out hc2).mono ?_
  rintro e w3 ⟨hx3, B3, n3, c3, rfl, hn3, hc3, hr3⟩
  obtain rfl : nm = n3 := HML.out.symm.trans hn3
  have hxa := (Ext.refl w3).alloc (.cells #[.int .i64 k, .int .i64 t, .int .u64 (a : Int), .slice B3 nm c3] 32)
  have HX3 := Lib.hid ((HX2.out.trans hx3).trans hxa)
  have HT3' := Lib.hid ((hx3.trans hxa).row HT2.out)
  have HE3 := Lib.hid ((hx3.trans hxa).row HE2.out)
  have HO3 := Lib.hid (heap_alloc_new w3 (.cells #[.int .i64 k, .int .i64 t, .int .u64 (a : Int), .slice B3 nm c3] 32))
  have HR3 := Lib.hid (hr3.ext hxa)
  have HB3 := Lib.hid (HR2.out.ext (hx3.trans hxa))
  clear hx3 hr3 hxa hn3
  go_wp2_with (first | (with_reducible refine wpList_load_row rfl 25 (.tmp 11) rfl (w2.heap.size) rfl 25 #[.int .i64 sm, .int .u64 (nn : Int), .int .u64 (fm : Int), .int .u64 (x : Int), .slice B2 np c2] (0, 0) _ HE3.out Try.underlying25 rfl ev_in16 ?_))
  generalize w3.alloc (.cells #[.int .i64 k, .int .i64 t, .int .u64 (a : Int), .slice B3 nm c3] 32) = v3 at HX3 HT3' HE3 HO3 HR3 HB3 ⊢
  have HXV := Lib.hid HX3.out
  have HDV := Lib.hid (HD.out.ext HX3.out)
  have HSMZ := Lib.hid (sm_app HSMP.out (Sm.cons (by decide : (0 : Nat) < 256) Sm.nil))
  have HLZ := Lib.hid (show (p ++ [0]).length = np + 1 from by rw [List.length_append, HLP.out]; rfl)
  have HLE := Lib.hid (fun (W : World) (h : Ext v3 W) => show (Instr.loadAt 25 (.pointer (some ⟨w2.heap.size, 0, none⟩))).run Try.prog W = .ok (.agg #[.int .i64 sm, .int .u64 (nn : Int), .int .u64 (fm : Int), .int .u64 (x : Int), .slice B2 np c2]) W from load_ev16 (h.row HE3.out))
  refine wp_region_plan (Ext v3) [0, 1, 2, 3, 4, 5, 6, 7, 8, 9, 10, 11, 12] (.yes 0 (.yes 2 (.three 1 (.three 3 (.two 4 (.two 5 (.two 6 (.yes 7 (.yes 8 (.yes 9 (.one 10 (.one 11 (.one 12 .done)))))) 10 (.one 6 (.yes 7 (.yes 8 (.yes 9 (.one 11 (.one 12 .done))))))) 10 (.one 5 (.one 6 (.yes 7 (.yes 8 (.yes 9 (.one 11 (.one 12 .done)))))))) 10 (.one 4 (.one 5 (.one 6 (.yes 7 (.yes 8 (.yes 9 (.one 11 (.one 12 .done))))))))) 4 (.two 3 (.two 5 (.two 6 (.yes 7 (.yes 8 (.yes 9 (.one 10 (.one 11 (.one 12 .done)))))) 10 (.one 6 (.yes 7 (.yes 8 (.yes 9 (.one 11 (.one 12 .done))))))) 10 (.one 5 (.one 6 (.yes 7 (.yes 8 (.yes 9 (.one 11 (.one 12 .done)))))))) 10 (.one 3 (.one 5 (.one 6 (.yes 7 (.yes 8 (.yes 9 (.one 11 (.one 12 .done))))))))) 10 (.two 3 (.one 4 (.one 5 (.one 6 (.yes 7 (.yes 8 (.yes 9 (.one 11 (.one 12 .done)))))))) 4 (.one 3 (.one 5 (.one 6 (.yes 7 (.yes 8 (.yes 9 (.one 11 (.one 12 .done)))))))))) 4 (.two 1 (.two 3 (.two 5 (.two 6 (.yes 7 (.yes 8 (.yes 9 (.one 10 (.one 11 (.one 12 .done)))))) 10 (.one 6 (.yes 7 (.yes 8 (.yes 9 (.one 11 (.one 12 .done))))))) 10 (.one 5 (.one 6 (.yes 7 (.yes 8 (.yes 9 (.one 11 (.one 12 .done)))))))) 10 (.one 3 (.one 5 (.one 6 (.yes 7 (.yes 8 (.yes 9 (.one 11 (.one 12 .done))))))))) 10 (.one 1 (.one 3 (.one 5 (.one 6 (.yes 7 (.yes 8 (.yes 9 (.one 11 (.one 12 .done)))))))))) 10 (.two 1 (.two 3 (.one 4 (.one 5 (.one 6 (.yes 7 (.yes 8 (.yes 9 (.one 11 (.one 12 .done)))))))) 4 (.one 3 (.one 5 (.one 6 (.yes 7 (.yes 8 (.yes 9 (.one 11 (.one 12 .done))))))))) 4 (.one 1 (.one 3 (.one 5 (.one 6 (.yes 7 (.yes 8 (.yes 9 (.one 11 (.one 12 .done))))))))))))) (by kernel_rfl) (fun c a a' w e h => ⟨e ▸ h.1, h.2⟩) (by kernel_rfl) ((Ext.refl v3).drew) ?_
  have HXW0 := Lib.hid ((Ext.refl v3).drew)
  generalize v3.drew = W0 at HXW0 ⊢
  refine plan_load rfl 25 (.tmp 13) rfl (.agg #[.int .i64 sm, .int .u64 (nn : Int), .int .u64 (fm : Int), .int .u64 (x : Int), .slice B2 np c2]) (by rfl) (fun W hW => HLE.out W hW) ?_
  refine plan_yes rfl (fun K hK => ?_); go_simp; refine ⟨_, fun _ _ => rfl, hK _ ?_⟩; clear hK K
  refine plan_three rfl rfl rfl (fun K hK => ?_) (fun K hK => ?_) (fun K hK => ?_)
  · skip
    have HXn := Lib.hid (show Ext v3 (World.alloc W0 (.cells #[] 5)) from Ext.alloc HXW0.out _)
    have HMn := Lib.hid (show Mine (World.alloc W0 (.cells #[] 5)) v3.heap.size (.slice (some ⟨W0.heap.size, 0, none⟩) 0 0) [] from (mine_empty W0).down HXW0.out.size)
    go_wp2
    refine ⟨fun _ => HXn.out, ?_⟩
    obtain ⟨ge, hge⟩ : ∃ q, W0.heap.size = q := ⟨_, rfl⟩
    rw [hge] at HMn ⊢
    generalize World.alloc W0 _ = W1 at HXn HMn ⊢
    have HXW1 := Lib.hid HXn.out
    have HMW1 := Lib.hid HMn.out
    clear HXn HMn hge
    refine plan_three rfl rfl rfl (fun K hK => ?_) (fun K hK => ?_) (fun K hK => ?_)
    · skip
      refine wpList_append_new rfl (.tmp 69) (.tmp 70) rfl v3.heap.size ge p rfl HMW1.out D np cp rfl HLP.out (HDV.out.ext HXW1.out) (by have := HLP.out; omega) HXW1.out.size ?_
      intro vv W2 hm hx hq
      obtain ⟨A5, c5, ev, hc5, hr5⟩ := hm.slice HSMP.out
      rw [HLP.out] at ev hc5
      subst ev
      have HXW2 := Lib.hid (HXW1.out.trans hx)
      have HMW2 := Lib.hid hm
      clear hm hx hq hc5 hr5
      go_wp2
      refine ⟨fun _ => HXW2.out, ?_⟩
      refine plan_two rfl rfl (fun K hK => ?_) (fun K hK => ?_)
      · skip
        have HXn := Lib.hid (show Ext v3 (World.alloc W2 (.cells #[.int .u8 0] 5)) from Ext.alloc HXW2.out _)
        have HMn := Lib.hid (mine_ext HMW2.out ((Ext.refl W2).alloc (.cells #[.int .u8 0] 5)))
        have HZn := Lib.hid (show Rd (World.alloc W2 (.cells #[.int .u8 0] 5)) (some ⟨W2.heap.size, 0, none⟩) [0] from rd_one W2 0 (by decide))
        go_wp2
        refine ⟨fun _ => HXn.out, ?_⟩
        obtain ⟨gl, hgl⟩ : ∃ q, W2.heap.size = q := ⟨_, rfl⟩
        rw [hgl] at HZn ⊢
        generalize World.alloc W2 _ = W3 at HXn HMn HZn ⊢
        have HXW3 := Lib.hid HXn.out
        have HMW3 := Lib.hid HMn.out
        have HZW3 := Lib.hid HZn.out
        clear HXn HMn HZn hgl
        refine plan_two rfl rfl (fun K hK => ?_) (fun K hK => ?_)
        · skip
          refine wpList_append_rd rfl (.tmp 71) (.tmp 72) rfl v3.heap.size (.slice A5 np c5) p [0] rfl HMW3.out (some ⟨gl, 0, none⟩) 1 1 rfl rfl HZW3.out (by have := HLP.out; simp; omega) HXW3.out.size ?_
          intro vv W4 hm hg _
          have hx : Ext v3 W4 := HXW3.out.more hg (fun q hq => (HMW3.out.block q hq).1)
          obtain ⟨A6, c6, ev, hc6, hr6⟩ := hm.slice HSMZ.out
          rw [HLZ.out] at ev hc6
          subst ev
          have HXW4 := Lib.hid hx
          have HRW4 := Lib.hid hr6
          have HC6 := Lib.hid hc6
          clear hm hg hx hc6 hr6
          go_wp2
          refine ⟨fun _ => HXW4.out, ?_⟩
          refine plan_two rfl rfl (fun K hK => ?_) (fun K hK => ?_)
          · skip
            go_wp2_with fail
            refine (HOZ.out W4 B2 c2 A6 c6 (HB3.out.ext HXW4.out) hc2 HRW4.out HC6.out).mono ?_
            rintro e W5 ⟨hx, B7, n7, c7, rfl, hn7, hc7, hr7⟩
            obtain rfl : 0 = n7 := hn7
            have HXW5 := Lib.hid (HXW4.out.trans hx)
            clear hx hc7 hr7
            go_wp2
            refine ⟨fun _ => HXW5.out, ?_⟩
            refine plan_yes rfl (fun K hK => ?_); go_simp; refine ⟨_, fun _ _ => rfl, hK _ ?_⟩; clear hK K
            refine plan_yes rfl (fun K hK => ?_); go_simp; refine ⟨_, fun _ _ => rfl, hK _ ?_⟩; clear hK K
            refine plan_yes rfl (fun K hK => ?_); go_simp; refine ⟨_, fun _ _ => rfl, hK _ ?_⟩; clear hK K
            refine plan_one rfl (fun K hK => ?_)
            have HXn := Lib.hid (show Ext v3 (World.alloc W5 (.cells #[.int .i64 0, .int .i64 0, .int .u64 0, .slice none 0 0] 32)) from Ext.alloc HXW5.out _)
            have HTn := Lib.hid (show (World.alloc W5 (.cells #[.int .i64 0, .int .i64 0, .int .u64 0, .slice none 0 0] 32)).heap[W5.heap.size]? = some (.cells #[.int .i64 0, .int .i64 0, .int .u64 0, .slice none 0 0] 32) from heap_alloc_new W5 _)
            have HTG := Lib.hid (show v3.heap.size ≤ W5.heap.size from HXW5.out.size)
            go_wp2
            refine ⟨fun _ => HXn.out, ?_⟩
            obtain ⟨gt, hgt⟩ : ∃ q, W5.heap.size = q := ⟨_, rfl⟩
            rw [hgt] at HTn HTG ⊢
            generalize World.alloc W5 _ = W6 at HXn HTn ⊢
            have HXW6 := Lib.hid HXn.out
            have HTW6 := Lib.hid HTn.out
            clear HXn HTn hgt
            refine plan_one rfl (fun K hK => ?_)
            have hone : (#[.int .i64 0, .int .i64 0, .int .u64 0, .slice B7 0 c7] : Array Value).all (·.oneCell') = true := by simp [Value.oneCell']
            refine wpList_store_all rfl 32 (.tmp 17) (.tmp 75) rfl gt _ #[.int .i64 0, .int .i64 0, .int .u64 0, .slice B7 0 c7] rfl rfl HTW6.out tx_in16x rfl hone ?_
            have HXF := Lib.hid (HXW6.out.setRow (g := gt) HTG.out #[.int .i64 0, .int .i64 0, .int .u64 0, .slice B7 0 c7])
            generalize World.setRow W6 gt #[.int .i64 0, .int .i64 0, .int .u64 0, .slice B7 0 c7] = wf at HXF ⊢
            go_wp2
            refine ⟨fun _ => HXF.out, ?_⟩
            refine plan_one rfl (fun K hK => ?_)
            go_wp2
            refine ⟨fun _ => HXF.out, ?_⟩
            unfold wpPlan
            clear hone
            have HGE := Lib.hid (HXF.out.row HE3.out)
            have HGO := Lib.hid (HXF.out.row HO3.out)
            have HGT := Lib.hid (HXF.out.row HT3'.out)
            go_wp2_with (first | (with_reducible refine wpList_load_row rfl 32 (.tmp 15) rfl (w3.heap.size) rfl 32 #[.int .i64 k, .int .i64 t, .int .u64 (a : Int), .slice B3 nm c3] (0, 0) _ HGO.out Try.underlying32 rfl tx_in16x ?_) | (refine wpList_load_row_g (by first | rfl | go_simp) 32 (.tmp 15) rfl (w3.heap.size) rfl 32 #[.int .i64 k, .int .i64 t, .int .u64 (a : Int), .slice B3 nm c3] (0, 0) _ HGO.out Try.underlying32 rfl tx_in16x ?_) | (with_reducible refine wpList_load_row rfl 27 (.tmp 10) rfl (w.heap.size) rfl 27 #[.int .i64 k, .int .i64 t, .int .u64 (a : Int), .slice B nm cm] (0, 0) _ HGT.out Try.underlying27 rfl tx_in16 ?_) | (refine wpList_load_row_g (by first | rfl | go_simp) 27 (.tmp 10) rfl (w.heap.size) rfl 27 #[.int .i64 k, .int .i64 t, .int .u64 (a : Int), .slice B nm cm] (0, 0) _ HGT.out Try.underlying27 rfl tx_in16 ?_))
            refine (HS2.out wf B3 c3 (HXV.out.trans HXF.out) (HR3.out.ext HXF.out)).mono ?_
            rintro e wg ⟨rfl, hxg⟩
            have HXG := Lib.hid (HXV.out.trans (HXF.out.trans hxg))
            have HG' := Lib.hid (hxg.row HGE.out)
            have q1 := cell_of_row _ _ 1 _ _ _ HG'.out
            have q3 := cell_of_row _ _ 3 _ _ _ HG'.out
            have q4 := cell_of_row _ _ 4 _ _ _ HG'.out
            clear hxg
            go_wp2
            go_ret
            exact ⟨rfl, HXG.out⟩
          · skip
            have HXn := Lib.hid (show Ext v3 (World.alloc W4 (.cells #[.int .i64 0, .int .i64 0, .int .u64 0, .slice none 0 0] 32)) from Ext.alloc HXW4.out _)
            have HRn := Lib.hid (HRW4.out.ext ((Ext.refl W4).alloc (.cells #[.int .i64 0, .int .i64 0, .int .u64 0, .slice none 0 0] 32)))
            have HTn := Lib.hid (show (World.alloc W4 (.cells #[.int .i64 0, .int .i64 0, .int .u64 0, .slice none 0 0] 32)).heap[W4.heap.size]? = some (.cells #[.int .i64 0, .int .i64 0, .int .u64 0, .slice none 0 0] 32) from heap_alloc_new W4 _)
            have HGn := Lib.hid (show v3.heap.size ≤ W4.heap.size from HXW4.out.size)
            go_wp2
            refine ⟨fun _ => HXn.out, ?_⟩
            obtain ⟨gt, hgt⟩ : ∃ q, W4.heap.size = q := ⟨_, rfl⟩
            rw [hgt] at HTn HGn ⊢
            have HTG := HGn
            generalize World.alloc W4 _ = W7 at HXn HRn HTn ⊢
            have HXW7 := Lib.hid HXn.out
            have HTW7 := Lib.hid HTn.out
            have HRW7 := Lib.hid HRn.out
            clear HXn HRn HTn HGn hgt
            refine plan_one rfl (fun K hK => ?_)
            go_wp2_with fail
            refine (HOZ.out W7 B2 c2 A6 c6 (HB3.out.ext HXW7.out) hc2 HRW7.out HC6.out).mono ?_
            rintro e W8 ⟨hx, B7, n7, c7, rfl, hn7, hc7, hr7⟩
            obtain rfl : 0 = n7 := hn7
            have HXW8 := Lib.hid (HXW7.out.trans hx)
            have HTW8 := Lib.hid (hx.row HTW7.out)
            clear hx hc7 hr7
            go_wp2
            refine ⟨fun _ => HXW8.out, ?_⟩
            refine plan_yes rfl (fun K hK => ?_); go_simp; refine ⟨_, fun _ _ => rfl, hK _ ?_⟩; clear hK K
            refine plan_yes rfl (fun K hK => ?_); go_simp; refine ⟨_, fun _ _ => rfl, hK _ ?_⟩; clear hK K
            refine plan_yes rfl (fun K hK => ?_); go_simp; refine ⟨_, fun _ _ => rfl, hK _ ?_⟩; clear hK K
            refine plan_one rfl (fun K hK => ?_)
            have hone : (#[.int .i64 0, .int .i64 0, .int .u64 0, .slice B7 0 c7] : Array Value).all (·.oneCell') = true := by simp [Value.oneCell']
            refine wpList_store_all rfl 32 (.tmp 17) (.tmp 75) rfl gt _ #[.int .i64 0, .int .i64 0, .int .u64 0, .slice B7 0 c7] rfl rfl HTW8.out tx_in16x rfl hone ?_
            have HXF := Lib.hid (HXW8.out.setRow (g := gt) HTG.out #[.int .i64 0, .int .i64 0, .int .u64 0, .slice B7 0 c7])
            generalize World.setRow W8 gt #[.int .i64 0, .int .i64 0, .int .u64 0, .slice B7 0 c7] = wf at HXF ⊢
            go_wp2
            refine ⟨fun _ => HXF.out, ?_⟩
            refine plan_one rfl (fun K hK => ?_)
            go_wp2
            refine ⟨fun _ => HXF.out, ?_⟩
            unfold wpPlan
            clear hone
            have HGE := Lib.hid (HXF.out.row HE3.out)
            have HGO := Lib.hid (HXF.out.row HO3.out)
            have HGT := Lib.hid (HXF.out.row HT3'.out)
            go_wp2_with (first | (with_reducible refine wpList_load_row rfl 32 (.tmp 15) rfl (w3.heap.size) rfl 32 #[.int .i64 k, .int .i64 t, .int .u64 (a : Int), .slice B3 nm c3] (0, 0) _ HGO.out Try.underlying32 rfl tx_in16x ?_) | (refine wpList_load_row_g (by first | rfl | go_simp) 32 (.tmp 15) rfl (w3.heap.size) rfl 32 #[.int .i64 k, .int .i64 t, .int .u64 (a : Int), .slice B3 nm c3] (0, 0) _ HGO.out Try.underlying32 rfl tx_in16x ?_) | (with_reducible refine wpList_load_row rfl 27 (.tmp 10) rfl (w.heap.size) rfl 27 #[.int .i64 k, .int .i64 t, .int .u64 (a : Int), .slice B nm cm] (0, 0) _ HGT.out Try.underlying27 rfl tx_in16 ?_) | (refine wpList_load_row_g (by first | rfl | go_simp) 27 (.tmp 10) rfl (w.heap.size) rfl 27 #[.int .i64 k, .int .i64 t, .int .u64 (a : Int), .slice B nm cm] (0, 0) _ HGT.out Try.underlying27 rfl tx_in16 ?_))
            refine (HS2.out wf B3 c3 (HXV.out.trans HXF.out) (HR3.out.ext HXF.out)).mono ?_
            rintro e wg ⟨rfl, hxg⟩
            have HXG := Lib.hid (HXV.out.trans (HXF.out.trans hxg))
            have HG' := Lib.hid (hxg.row HGE.out)
            have q1 := cell_of_row _ _ 1 _ _ _ HG'.out
            have q3 := cell_of_row _ _ 3 _ _ _ HG'.out
            have q4 := cell_of_row _ _ 4 _ _ _ HG'.out
            clear hxg
            go_wp2
            go_ret
            exact ⟨rfl, HXG.out⟩
        · skip
          have HXn := Lib.hid (show Ext v3 (World.alloc W3 (.cells #[.int .i64 0, .int .i64 0, .int .u64 0, .slice none 0 0] 32)) from Ext.alloc HXW3.out _)
          have HMn := Lib.hid (mine_ext HMW3.out ((Ext.refl W3).alloc (.cells #[.int .i64 0, .int .i64 0, .int .u64 0, .slice none 0 0] 32)))
          have HZn := Lib.hid (HZW3.out.ext ((Ext.refl W3).alloc (.cells #[.int .i64 0, .int .i64 0, .int .u64 0, .slice none 0 0] 32)))
          have HTn := Lib.hid (show (World.alloc W3 (.cells #[.int .i64 0, .int .i64 0, .int .u64 0, .slice none 0 0] 32)).heap[W3.heap.size]? = some (.cells #[.int .i64 0, .int .i64 0, .int .u64 0, .slice none 0 0] 32) from heap_alloc_new W3 _)
          have HGn := Lib.hid (show v3.heap.size ≤ W3.heap.size from HXW3.out.size)
          have HSn := Lib.hid (show ∀ q, (Value.slice A5 np c5).ownBlock = some q → q ≠ W3.heap.size from fun q h => by have := (HMW3.out.block q h).2; omega)
          go_wp2
          refine ⟨fun _ => HXn.out, ?_⟩
          obtain ⟨gt, hgt⟩ : ∃ q, W3.heap.size = q := ⟨_, rfl⟩
          rw [hgt] at HTn HGn HSn ⊢
          have HTG := HGn
          generalize World.alloc W3 _ = W9 at HXn HMn HZn HTn ⊢
          have HXW9 := Lib.hid HXn.out
          have HMW9 := Lib.hid HMn.out
          have HZW9 := Lib.hid HZn.out
          have HTW9 := Lib.hid HTn.out
          have HSW9 := Lib.hid HSn.out
          clear HXn HMn HZn HTn HSn HGn hgt
          refine plan_one rfl (fun K hK => ?_)
          refine wpList_append_rd rfl (.tmp 71) (.tmp 72) rfl v3.heap.size (.slice A5 np c5) p [0] rfl HMW9.out (some ⟨gl, 0, none⟩) 1 1 rfl rfl HZW9.out (by have := HLP.out; simp; omega) HXW9.out.size ?_
          intro vv W10 hm hg _
          have hx : Ext v3 W10 := HXW9.out.more hg (fun q hq => (HMW9.out.block q hq).1)
          obtain ⟨A6, c6, ev, hc6, hr6⟩ := hm.slice HSMZ.out
          rw [HLZ.out] at ev hc6
          subst ev
          have HXW10 := Lib.hid hx
          have HRW10 := Lib.hid hr6
          have HC6 := Lib.hid hc6
          have HTW10 := Lib.hid ((hg.block gt (row_lt HTW9.out) (fun h => HSW9.out gt h.symm rfl)).trans HTW9.out)
          clear hm hg hx hc6 hr6
          go_wp2
          refine ⟨fun _ => HXW10.out, ?_⟩
          refine plan_one rfl (fun K hK => ?_)
          go_wp2_with fail
          refine (HOZ.out W10 B2 c2 A6 c6 (HB3.out.ext HXW10.out) hc2 HRW10.out HC6.out).mono ?_
          rintro e W11 ⟨hx, B7, n7, c7, rfl, hn7, hc7, hr7⟩
          obtain rfl : 0 = n7 := hn7
          have HXW11 := Lib.hid (HXW10.out.trans hx)
          have HTW11 := Lib.hid (hx.row HTW10.out)
          clear hx hc7 hr7
          go_wp2
          refine ⟨fun _ => HXW11.out, ?_⟩
          refine plan_yes rfl (fun K hK => ?_); go_simp; refine ⟨_, fun _ _ => rfl, hK _ ?_⟩; clear hK K
          refine plan_yes rfl (fun K hK => ?_); go_simp; refine ⟨_, fun _ _ => rfl, hK _ ?_⟩; clear hK K
          refine plan_yes rfl (fun K hK => ?_); go_simp; refine ⟨_, fun _ _ => rfl, hK _ ?_⟩; clear hK K
          refine plan_one rfl (fun K hK => ?_)
          have hone : (#[.int .i64 0, .int .i64 0, .int .u64 0, .slice B7 0 c7] : Array Value).all (·.oneCell') = true := by simp [Value.oneCell']
          refine wpList_store_all rfl 32 (.tmp 17) (.tmp 75) rfl gt _ #[.int .i64 0, .int .i64 0, .int .u64 0, .slice B7 0 c7] rfl rfl HTW11.out tx_in16x rfl hone ?_
          have HXF := Lib.hid (HXW11.out.setRow (g := gt) HTG.out #[.int .i64 0, .int .i64 0, .int .u64 0, .slice B7 0 c7])
          generalize World.setRow W11 gt #[.int .i64 0, .int .i64 0, .int .u64 0, .slice B7 0 c7] = wf at HXF ⊢
          go_wp2
          refine ⟨fun _ => HXF.out, ?_⟩
          refine plan_one rfl (fun K hK => ?_)
          go_wp2
          refine ⟨fun _ => HXF.out, ?_⟩
          unfold wpPlan
          clear hone
          have HGE := Lib.hid (HXF.out.row HE3.out)
          have HGO := Lib.hid (HXF.out.row HO3.out)
          have HGT := Lib.hid (HXF.out.row HT3'.out)
          go_wp2_with (first | (with_reducible refine wpList_load_row rfl 32 (.tmp 15) rfl (w3.heap.size) rfl 32 #[.int .i64 k, .int .i64 t, .int .u64 (a : Int), .slice B3 nm c3] (0, 0) _ HGO.out Try.underlying32 rfl tx_in16x ?_) | (refine wpList_load_row_g (by first | rfl | go_simp) 32 (.tmp 15) rfl (w3.heap.size) rfl 32 #[.int .i64 k, .int .i64 t, .int .u64 (a : Int), .slice B3 nm c3] (0, 0) _ HGO.out Try.underlying32 rfl tx_in16x ?_) | (with_reducible refine wpList_load_row rfl 27 (.tmp 10) rfl (w.heap.size) rfl 27 #[.int .i64 k, .int .i64 t, .int .u64 (a : Int), .slice B nm cm] (0, 0) _ HGT.out Try.underlying27 rfl tx_in16 ?_) | (refine wpList_load_row_g (by first | rfl | go_simp) 27 (.tmp 10) rfl (w.heap.size) rfl 27 #[.int .i64 k, .int .i64 t, .int .u64 (a : Int), .slice B nm cm] (0, 0) _ HGT.out Try.underlying27 rfl tx_in16 ?_))
          refine (HS2.out wf B3 c3 (HXV.out.trans HXF.out) (HR3.out.ext HXF.out)).mono ?_
          rintro e wg ⟨rfl, hxg⟩
          have HXG := Lib.hid (HXV.out.trans (HXF.out.trans hxg))
          have HG' := Lib.hid (hxg.row HGE.out)
          have q1 := cell_of_row _ _ 1 _ _ _ HG'.out
          have q3 := cell_of_row _ _ 3 _ _ _ HG'.out
          have q4 := cell_of_row _ _ 4 _ _ _ HG'.out
          clear hxg
          go_wp2
          go_ret
          exact ⟨rfl, HXG.out⟩
      · skip
        have HXn := Lib.hid (show Ext v3 (World.alloc W2 (.cells #[.int .i64 0, .int .i64 0, .int .u64 0, .slice none 0 0] 32)) from Ext.alloc HXW2.out _)
        have HMn := Lib.hid (mine_ext HMW2.out ((Ext.refl W2).alloc (.cells #[.int .i64 0, .int .i64 0, .int .u64 0, .slice none 0 0] 32)))
        have HTn := Lib.hid (show (World.alloc W2 (.cells #[.int .i64 0, .int .i64 0, .int .u64 0, .slice none 0 0] 32)).heap[W2.heap.size]? = some (.cells #[.int .i64 0, .int .i64 0, .int .u64 0, .slice none 0 0] 32) from heap_alloc_new W2 _)
        have HGn := Lib.hid (show v3.heap.size ≤ W2.heap.size from HXW2.out.size)
        have HSn := Lib.hid (show ∀ q, (Value.slice A5 np c5).ownBlock = some q → q ≠ W2.heap.size from fun q h => by have := (HMW2.out.block q h).2; omega)
        go_wp2
        refine ⟨fun _ => HXn.out, ?_⟩
        obtain ⟨gt, hgt⟩ : ∃ q, W2.heap.size = q := ⟨_, rfl⟩
        rw [hgt] at HTn HGn HSn ⊢
        have HTG := HGn
        generalize World.alloc W2 _ = W12 at HXn HMn HTn ⊢
        have HXW12 := Lib.hid HXn.out
        have HMW12 := Lib.hid HMn.out
        have HTW12 := Lib.hid HTn.out
        have HSW12 := Lib.hid HSn.out
        clear HXn HMn HTn HSn HGn hgt
        refine plan_one rfl (fun K hK => ?_)
        have HXn := Lib.hid (show Ext v3 (World.alloc W12 (.cells #[.int .u8 0] 5)) from Ext.alloc HXW12.out _)
        have HMn := Lib.hid (mine_ext HMW12.out ((Ext.refl W12).alloc (.cells #[.int .u8 0] 5)))
        have HZn := Lib.hid (show Rd (World.alloc W12 (.cells #[.int .u8 0] 5)) (some ⟨W12.heap.size, 0, none⟩) [0] from rd_one W12 0 (by decide))
        have HTn := Lib.hid (((Ext.refl W12).alloc (.cells #[.int .u8 0] 5)).row HTW12.out)
        have HSn := HSW12
        go_wp2
        refine ⟨fun _ => HXn.out, ?_⟩
        obtain ⟨gl, hgl⟩ : ∃ q, W12.heap.size = q := ⟨_, rfl⟩
        rw [hgl] at HZn ⊢
        generalize World.alloc W12 _ = W13 at HXn HMn HZn HTn ⊢
        have HXW13 := Lib.hid HXn.out
        have HMW13 := Lib.hid HMn.out
        have HZW13 := Lib.hid HZn.out
        have HTW13 := Lib.hid HTn.out
        have HSW13 := Lib.hid HSn.out
        clear HXn HMn HZn HTn HSn hgl
        refine plan_one rfl (fun K hK => ?_)
        refine wpList_append_rd rfl (.tmp 71) (.tmp 72) rfl v3.heap.size (.slice A5 np c5) p [0] rfl HMW13.out (some ⟨gl, 0, none⟩) 1 1 rfl rfl HZW13.out (by have := HLP.out; simp; omega) HXW13.out.size ?_
        intro vv W14 hm hg _
        have hx : Ext v3 W14 := HXW13.out.more hg (fun q hq => (HMW13.out.block q hq).1)
        obtain ⟨A6, c6, ev, hc6, hr6⟩ := hm.slice HSMZ.out
        rw [HLZ.out] at ev hc6
        subst ev
        have HXW14 := Lib.hid hx
        have HRW14 := Lib.hid hr6
        have HC6 := Lib.hid hc6
        have HTW14 := Lib.hid ((hg.block gt (row_lt HTW13.out) (fun h => HSW13.out gt h.symm rfl)).trans HTW13.out)
        clear hm hg hx hc6 hr6
        go_wp2
        refine ⟨fun _ => HXW14.out, ?_⟩
        refine plan_one rfl (fun K hK => ?_)
        go_wp2_with fail
        refine (HOZ.out W14 B2 c2 A6 c6 (HB3.out.ext HXW14.out) hc2 HRW14.out HC6.out).mono ?_
        rintro e W15 ⟨hx, B7, n7, c7, rfl, hn7, hc7, hr7⟩
        obtain rfl : 0 = n7 := hn7
        have HXW15 := Lib.hid (HXW14.out.trans hx)
        have HTW15 := Lib.hid (hx.row HTW14.out)
        clear hx hc7 hr7
        go_wp2
        refine ⟨fun _ => HXW15.out, ?_⟩
        refine plan_yes rfl (fun K hK => ?_); go_simp; refine ⟨_, fun _ _ => rfl, hK _ ?_⟩; clear hK K
        refine plan_yes rfl (fun K hK => ?_); go_simp; refine ⟨_, fun _ _ => rfl, hK _ ?_⟩; clear hK K
        refine plan_yes rfl (fun K hK => ?_); go_simp; refine ⟨_, fun _ _ => rfl, hK _ ?_⟩; clear hK K
        refine plan_one rfl (fun K hK => ?_)
        have hone : (#[.int .i64 0, .int .i64 0, .int .u64 0, .slice B7 0 c7] : Array Value).all (·.oneCell') = true := by simp [Value.oneCell']
        refine wpList_store_all rfl 32 (.tmp 17) (.tmp 75) rfl gt _ #[.int .i64 0, .int .i64 0, .int .u64 0, .slice B7 0 c7] rfl rfl HTW15.out tx_in16x rfl hone ?_
        have HXF := Lib.hid (HXW15.out.setRow (g := gt) HTG.out #[.int .i64 0, .int .i64 0, .int .u64 0, .slice B7 0 c7])
        generalize World.setRow W15 gt #[.int .i64 0, .int .i64 0, .int .u64 0, .slice B7 0 c7] = wf at HXF ⊢
        go_wp2
        refine ⟨fun _ => HXF.out, ?_⟩
        refine plan_one rfl (fun K hK => ?_)
        go_wp2
        refine ⟨fun _ => HXF.out, ?_⟩
        unfold wpPlan
        clear hone
        have HGE := Lib.hid (HXF.out.row HE3.out)
        have HGO := Lib.hid (HXF.out.row HO3.out)
        have HGT := Lib.hid (HXF.out.row HT3'.out)
        go_wp2_with (first | (with_reducible refine wpList_load_row rfl 32 (.tmp 15) rfl (w3.heap.size) rfl 32 #[.int .i64 k, .int .i64 t, .int .u64 (a : Int), .slice B3 nm c3] (0, 0) _ HGO.out Try.underlying32 rfl tx_in16x ?_) | (refine wpList_load_row_g (by first | rfl | go_simp) 32 (.tmp 15) rfl (w3.heap.size) rfl 32 #[.int .i64 k, .int .i64 t, .int .u64 (a : Int), .slice B3 nm c3] (0, 0) _ HGO.out Try.underlying32 rfl tx_in16x ?_) | (with_reducible refine wpList_load_row rfl 27 (.tmp 10) rfl (w.heap.size) rfl 27 #[.int .i64 k, .int .i64 t, .int .u64 (a : Int), .slice B nm cm] (0, 0) _ HGT.out Try.underlying27 rfl tx_in16 ?_) | (refine wpList_load_row_g (by first | rfl | go_simp) 27 (.tmp 10) rfl (w.heap.size) rfl 27 #[.int .i64 k, .int .i64 t, .int .u64 (a : Int), .slice B nm cm] (0, 0) _ HGT.out Try.underlying27 rfl tx_in16 ?_))
        refine (HS2.out wf B3 c3 (HXV.out.trans HXF.out) (HR3.out.ext HXF.out)).mono ?_
        rintro e wg ⟨rfl, hxg⟩
        have HXG := Lib.hid (HXV.out.trans (HXF.out.trans hxg))
        have HG' := Lib.hid (hxg.row HGE.out)
        have q1 := cell_of_row _ _ 1 _ _ _ HG'.out
        have q3 := cell_of_row _ _ 3 _ _ _ HG'.out
        have q4 := cell_of_row _ _ 4 _ _ _ HG'.out
        clear hxg
        go_wp2
        go_ret
        exact ⟨rfl, HXG.out⟩
    · skip
      have HXn := Lib.hid (show Ext v3 (World.alloc W1 (.cells #[.int .u8 0] 5)) from Ext.alloc HXW1.out _)
      have HMn := Lib.hid (mine_ext HMW1.out ((Ext.refl W1).alloc (.cells #[.int .u8 0] 5)))
      have HZn := Lib.hid (show Rd (World.alloc W1 (.cells #[.int .u8 0] 5)) (some ⟨W1.heap.size, 0, none⟩) [0] from rd_one W1 0 (by decide))
      go_wp2
      refine ⟨fun _ => HXn.out, ?_⟩
      obtain ⟨gl, hgl⟩ : ∃ q, W1.heap.size = q := ⟨_, rfl⟩
      rw [hgl] at HZn ⊢
      generalize World.alloc W1 _ = W16 at HXn HMn HZn ⊢
      have HXW16 := Lib.hid HXn.out
      have HMW16 := Lib.hid HMn.out
      have HZW16 := Lib.hid HZn.out
      clear HXn HMn HZn hgl
      refine plan_two rfl rfl (fun K hK => ?_) (fun K hK => ?_)
      · skip
        refine wpList_append_new rfl (.tmp 69) (.tmp 70) rfl v3.heap.size ge p rfl HMW16.out D np cp rfl HLP.out (HDV.out.ext HXW16.out) (by have := HLP.out; omega) HXW16.out.size ?_
        intro vv W17 hm hx hq
        obtain ⟨A5, c5, ev, hc5, hr5⟩ := hm.slice HSMP.out
        rw [HLP.out] at ev hc5
        subst ev
        have HXW17 := Lib.hid (HXW16.out.trans hx)
        have HMW17 := Lib.hid hm
        have HZW17 := Lib.hid (HZW16.out.ext hx)
        clear hm hx hq hc5 hr5
        go_wp2
        refine ⟨fun _ => HXW17.out, ?_⟩
        refine plan_two rfl rfl (fun K hK => ?_) (fun K hK => ?_)
        · skip
          refine wpList_append_rd rfl (.tmp 71) (.tmp 72) rfl v3.heap.size (.slice A5 np c5) p [0] rfl HMW17.out (some ⟨gl, 0, none⟩) 1 1 rfl rfl HZW17.out (by have := HLP.out; simp; omega) HXW17.out.size ?_
          intro vv W18 hm hg _
          have hx : Ext v3 W18 := HXW17.out.more hg (fun q hq => (HMW17.out.block q hq).1)
          obtain ⟨A6, c6, ev, hc6, hr6⟩ := hm.slice HSMZ.out
          rw [HLZ.out] at ev hc6
          subst ev
          have HXW18 := Lib.hid hx
          have HRW18 := Lib.hid hr6
          have HC6 := Lib.hid hc6
          clear hm hg hx hc6 hr6
          go_wp2
          refine ⟨fun _ => HXW18.out, ?_⟩
          refine plan_two rfl rfl (fun K hK => ?_) (fun K hK => ?_)
          · skip
            go_wp2_with fail
            refine (HOZ.out W18 B2 c2 A6 c6 (HB3.out.ext HXW18.out) hc2 HRW18.out HC6.out).mono ?_
            rintro e W19 ⟨hx, B7, n7, c7, rfl, hn7, hc7, hr7⟩
            obtain rfl : 0 = n7 := hn7
            have HXW19 := Lib.hid (HXW18.out.trans hx)
            clear hx hc7 hr7
            go_wp2
            refine ⟨fun _ => HXW19.out, ?_⟩
            refine plan_yes rfl (fun K hK => ?_); go_simp; refine ⟨_, fun _ _ => rfl, hK _ ?_⟩; clear hK K
            refine plan_yes rfl (fun K hK => ?_); go_simp; refine ⟨_, fun _ _ => rfl, hK _ ?_⟩; clear hK K
            refine plan_yes rfl (fun K hK => ?_); go_simp; refine ⟨_, fun _ _ => rfl, hK _ ?_⟩; clear hK K
            refine plan_one rfl (fun K hK => ?_)
            have HXn := Lib.hid (show Ext v3 (World.alloc W19 (.cells #[.int .i64 0, .int .i64 0, .int .u64 0, .slice none 0 0] 32)) from Ext.alloc HXW19.out _)
            have HTn := Lib.hid (show (World.alloc W19 (.cells #[.int .i64 0, .int .i64 0, .int .u64 0, .slice none 0 0] 32)).heap[W19.heap.size]? = some (.cells #[.int .i64 0, .int .i64 0, .int .u64 0, .slice none 0 0] 32) from heap_alloc_new W19 _)
            have HTG := Lib.hid (show v3.heap.size ≤ W19.heap.size from HXW19.out.size)
            go_wp2
            refine ⟨fun _ => HXn.out, ?_⟩
            obtain ⟨gt, hgt⟩ : ∃ q, W19.heap.size = q := ⟨_, rfl⟩
            rw [hgt] at HTn HTG ⊢
            generalize World.alloc W19 _ = W20 at HXn HTn ⊢
            have HXW20 := Lib.hid HXn.out
            have HTW20 := Lib.hid HTn.out
            clear HXn HTn hgt
            refine plan_one rfl (fun K hK => ?_)
            have hone : (#[.int .i64 0, .int .i64 0, .int .u64 0, .slice B7 0 c7] : Array Value).all (·.oneCell') = true := by simp [Value.oneCell']
            refine wpList_store_all rfl 32 (.tmp 17) (.tmp 75) rfl gt _ #[.int .i64 0, .int .i64 0, .int .u64 0, .slice B7 0 c7] rfl rfl HTW20.out tx_in16x rfl hone ?_
            have HXF := Lib.hid (HXW20.out.setRow (g := gt) HTG.out #[.int .i64 0, .int .i64 0, .int .u64 0, .slice B7 0 c7])
            generalize World.setRow W20 gt #[.int .i64 0, .int .i64 0, .int .u64 0, .slice B7 0 c7] = wf at HXF ⊢
            go_wp2
            refine ⟨fun _ => HXF.out, ?_⟩
            refine plan_one rfl (fun K hK => ?_)
            go_wp2
            refine ⟨fun _ => HXF.out, ?_⟩
            unfold wpPlan
            clear hone
            have HGE := Lib.hid (HXF.out.row HE3.out)
            have HGO := Lib.hid (HXF.out.row HO3.out)
            have HGT := Lib.hid (HXF.out.row HT3'.out)
            go_wp2_with (first | (with_reducible refine wpList_load_row rfl 32 (.tmp 15) rfl (w3.heap.size) rfl 32 #[.int .i64 k, .int .i64 t, .int .u64 (a : Int), .slice B3 nm c3] (0, 0) _ HGO.out Try.underlying32 rfl tx_in16x ?_) | (refine wpList_load_row_g (by first | rfl | go_simp) 32 (.tmp 15) rfl (w3.heap.size) rfl 32 #[.int .i64 k, .int .i64 t, .int .u64 (a : Int), .slice B3 nm c3] (0, 0) _ HGO.out Try.underlying32 rfl tx_in16x ?_) | (with_reducible refine wpList_load_row rfl 27 (.tmp 10) rfl (w.heap.size) rfl 27 #[.int .i64 k, .int .i64 t, .int .u64 (a : Int), .slice B nm cm] (0, 0) _ HGT.out Try.underlying27 rfl tx_in16 ?_) | (refine wpList_load_row_g (by first | rfl | go_simp) 27 (.tmp 10) rfl (w.heap.size) rfl 27 #[.int .i64 k, .int .i64 t, .int .u64 (a : Int), .slice B nm cm] (0, 0) _ HGT.out Try.underlying27 rfl tx_in16 ?_))
            refine (HS2.out wf B3 c3 (HXV.out.trans HXF.out) (HR3.out.ext HXF.out)).mono ?_
            rintro e wg ⟨rfl, hxg⟩
            have HXG := Lib.hid (HXV.out.trans (HXF.out.trans hxg))
            have HG' := Lib.hid (hxg.row HGE.out)
            have q1 := cell_of_row _ _ 1 _ _ _ HG'.out
            have q3 := cell_of_row _ _ 3 _ _ _ HG'.out
            have q4 := cell_of_row _ _ 4 _ _ _ HG'.out
            clear hxg
            go_wp2
            go_ret
            exact ⟨rfl, HXG.out⟩
          · skip
            have HXn := Lib.hid (show Ext v3 (World.alloc W18 (.cells #[.int .i64 0, .int .i64 0, .int .u64 0, .slice none 0 0] 32)) from Ext.alloc HXW18.out _)
            have HRn := Lib.hid (HRW18.out.ext ((Ext.refl W18).alloc (.cells #[.int .i64 0, .int .i64 0, .int .u64 0, .slice none 0 0] 32)))
            have HTn := Lib.hid (show (World.alloc W18 (.cells #[.int .i64 0, .int .i64 0, .int .u64 0, .slice none 0 0] 32)).heap[W18.heap.size]? = some (.cells #[.int .i64 0, .int .i64 0, .int .u64 0, .slice none 0 0] 32) from heap_alloc_new W18 _)
            have HGn := Lib.hid (show v3.heap.size ≤ W18.heap.size from HXW18.out.size)
            go_wp2
            refine ⟨fun _ => HXn.out, ?_⟩
            obtain ⟨gt, hgt⟩ : ∃ q, W18.heap.size = q := ⟨_, rfl⟩
            rw [hgt] at HTn HGn ⊢
            have HTG := HGn
            generalize World.alloc W18 _ = W21 at HXn HRn HTn ⊢
            have HXW21 := Lib.hid HXn.out
            have HTW21 := Lib.hid HTn.out
            have HRW21 := Lib.hid HRn.out
            clear HXn HRn HTn HGn hgt
            refine plan_one rfl (fun K hK => ?_)
            go_wp2_with fail
            refine (HOZ.out W21 B2 c2 A6 c6 (HB3.out.ext HXW21.out) hc2 HRW21.out HC6.out).mono ?_
            rintro e W22 ⟨hx, B7, n7, c7, rfl, hn7, hc7, hr7⟩
            obtain rfl : 0 = n7 := hn7
            have HXW22 := Lib.hid (HXW21.out.trans hx)
            have HTW22 := Lib.hid (hx.row HTW21.out)
            clear hx hc7 hr7
            go_wp2
            refine ⟨fun _ => HXW22.out, ?_⟩
            refine plan_yes rfl (fun K hK => ?_); go_simp; refine ⟨_, fun _ _ => rfl, hK _ ?_⟩; clear hK K
            refine plan_yes rfl (fun K hK => ?_); go_simp; refine ⟨_, fun _ _ => rfl, hK _ ?_⟩; clear hK K
            refine plan_yes rfl (fun K hK => ?_); go_simp; refine ⟨_, fun _ _ => rfl, hK _ ?_⟩; clear hK K
            refine plan_one rfl (fun K hK => ?_)
            have hone : (#[.int .i64 0, .int .i64 0, .int .u64 0, .slice B7 0 c7] : Array Value).all (·.oneCell') = true := by simp [Value.oneCell']
            refine wpList_store_all rfl 32 (.tmp 17) (.tmp 75) rfl gt _ #[.int .i64 0, .int .i64 0, .int .u64 0, .slice B7 0 c7] rfl rfl HTW22.out tx_in16x rfl hone ?_
            have HXF := Lib.hid (HXW22.out.setRow (g := gt) HTG.out #[.int .i64 0, .int .i64 0, .int .u64 0, .slice B7 0 c7])
            generalize World.setRow W22 gt #[.int .i64 0, .int .i64 0, .int .u64 0, .slice B7 0 c7] = wf at HXF ⊢
            go_wp2
            refine ⟨fun _ => HXF.out, ?_⟩
            refine plan_one rfl (fun K hK => ?_)
            go_wp2
            refine ⟨fun _ => HXF.out, ?_⟩
            unfold wpPlan
            clear hone
            have HGE := Lib.hid (HXF.out.row HE3.out)
            have HGO := Lib.hid (HXF.out.row HO3.out)
            have HGT := Lib.hid (HXF.out.row HT3'.out)
            go_wp2_with (first | (with_reducible refine wpList_load_row rfl 32 (.tmp 15) rfl (w3.heap.size) rfl 32 #[.int .i64 k, .int .i64 t, .int .u64 (a : Int), .slice B3 nm c3] (0, 0) _ HGO.out Try.underlying32 rfl tx_in16x ?_) | (refine wpList_load_row_g (by first | rfl | go_simp) 32 (.tmp 15) rfl (w3.heap.size) rfl 32 #[.int .i64 k, .int .i64 t, .int .u64 (a : Int), .slice B3 nm c3] (0, 0) _ HGO.out Try.underlying32 rfl tx_in16x ?_) | (with_reducible refine wpList_load_row rfl 27 (.tmp 10) rfl (w.heap.size) rfl 27 #[.int .i64 k, .int .i64 t, .int .u64 (a : Int), .slice B nm cm] (0, 0) _ HGT.out Try.underlying27 rfl tx_in16 ?_) | (refine wpList_load_row_g (by first | rfl | go_simp) 27 (.tmp 10) rfl (w.heap.size) rfl 27 #[.int .i64 k, .int .i64 t, .int .u64 (a : Int), .slice B nm cm] (0, 0) _ HGT.out Try.underlying27 rfl tx_in16 ?_))
            refine (HS2.out wf B3 c3 (HXV.out.trans HXF.out) (HR3.out.ext HXF.out)).mono ?_
            rintro e wg ⟨rfl, hxg⟩
            have HXG := Lib.hid (HXV.out.trans (HXF.out.trans hxg))
            have HG' := Lib.hid (hxg.row HGE.out)
            have q1 := cell_of_row _ _ 1 _ _ _ HG'.out
            have q3 := cell_of_row _ _ 3 _ _ _ HG'.out
            have q4 := cell_of_row _ _ 4 _ _ _ HG'.out
            clear hxg
            go_wp2
            go_ret
            exact ⟨rfl, HXG.out⟩
        · skip
          have HXn := Lib.hid (show Ext v3 (World.alloc W17 (.cells #[.int .i64 0, .int .i64 0, .int .u64 0, .slice none 0 0] 32)) from Ext.alloc HXW17.out _)
          have HMn := Lib.hid (mine_ext HMW17.out ((Ext.refl W17).alloc (.cells #[.int .i64 0, .int .i64 0, .int .u64 0, .slice none 0 0] 32)))
          have HZn := Lib.hid (HZW17.out.ext ((Ext.refl W17).alloc (.cells #[.int .i64 0, .int .i64 0, .int .u64 0, .slice none 0 0] 32)))
          have HTn := Lib.hid (show (World.alloc W17 (.cells #[.int .i64 0, .int .i64 0, .int .u64 0, .slice none 0 0] 32)).heap[W17.heap.size]? = some (.cells #[.int .i64 0, .int .i64 0, .int .u64 0, .slice none 0 0] 32) from heap_alloc_new W17 _)
          have HGn := Lib.hid (show v3.heap.size ≤ W17.heap.size from HXW17.out.size)
          have HSn := Lib.hid (show ∀ q, (Value.slice A5 np c5).ownBlock = some q → q ≠ W17.heap.size from fun q h => by have := (HMW17.out.block q h).2; omega)
          go_wp2
          refine ⟨fun _ => HXn.out, ?_⟩
          obtain ⟨gt, hgt⟩ : ∃ q, W17.heap.size = q := ⟨_, rfl⟩
          rw [hgt] at HTn HGn HSn ⊢
          have HTG := HGn
          generalize World.alloc W17 _ = W23 at HXn HMn HZn HTn ⊢
          have HXW23 := Lib.hid HXn.out
          have HMW23 := Lib.hid HMn.out
          have HZW23 := Lib.hid HZn.out
          have HTW23 := Lib.hid HTn.out
          have HSW23 := Lib.hid HSn.out
          clear HXn HMn HZn HTn HSn HGn hgt
          refine plan_one rfl (fun K hK => ?_)
          refine wpList_append_rd rfl (.tmp 71) (.tmp 72) rfl v3.heap.size (.slice A5 np c5) p [0] rfl HMW23.out (some ⟨gl, 0, none⟩) 1 1 rfl rfl HZW23.out (by have := HLP.out; simp; omega) HXW23.out.size ?_
          intro vv W24 hm hg _
          have hx : Ext v3 W24 := HXW23.out.more hg (fun q hq => (HMW23.out.block q hq).1)
          obtain ⟨A6, c6, ev, hc6, hr6⟩ := hm.slice HSMZ.out
          rw [HLZ.out] at ev hc6
          subst ev
          have HXW24 := Lib.hid hx
          have HRW24 := Lib.hid hr6
          have HC6 := Lib.hid hc6
          have HTW24 := Lib.hid ((hg.block gt (row_lt HTW23.out) (fun h => HSW23.out gt h.symm rfl)).trans HTW23.out)
          clear hm hg hx hc6 hr6
          go_wp2
          refine ⟨fun _ => HXW24.out, ?_⟩
          refine plan_one rfl (fun K hK => ?_)
          go_wp2_with fail
          refine (HOZ.out W24 B2 c2 A6 c6 (HB3.out.ext HXW24.out) hc2 HRW24.out HC6.out).mono ?_
          rintro e W25 ⟨hx, B7, n7, c7, rfl, hn7, hc7, hr7⟩
          obtain rfl : 0 = n7 := hn7
          have HXW25 := Lib.hid (HXW24.out.trans hx)
          have HTW25 := Lib.hid (hx.row HTW24.out)
          clear hx hc7 hr7
          go_wp2
          refine ⟨fun _ => HXW25.out, ?_⟩
          refine plan_yes rfl (fun K hK => ?_); go_simp; refine ⟨_, fun _ _ => rfl, hK _ ?_⟩; clear hK K
          refine plan_yes rfl (fun K hK => ?_); go_simp; refine ⟨_, fun _ _ => rfl, hK _ ?_⟩; clear hK K
          refine plan_yes rfl (fun K hK => ?_); go_simp; refine ⟨_, fun _ _ => rfl, hK _ ?_⟩; clear hK K
          refine plan_one rfl (fun K hK => ?_)
          have hone : (#[.int .i64 0, .int .i64 0, .int .u64 0, .slice B7 0 c7] : Array Value).all (·.oneCell') = true := by simp [Value.oneCell']
          refine wpList_store_all rfl 32 (.tmp 17) (.tmp 75) rfl gt _ #[.int .i64 0, .int .i64 0, .int .u64 0, .slice B7 0 c7] rfl rfl HTW25.out tx_in16x rfl hone ?_
          have HXF := Lib.hid (HXW25.out.setRow (g := gt) HTG.out #[.int .i64 0, .int .i64 0, .int .u64 0, .slice B7 0 c7])
          generalize World.setRow W25 gt #[.int .i64 0, .int .i64 0, .int .u64 0, .slice B7 0 c7] = wf at HXF ⊢
          go_wp2
          refine ⟨fun _ => HXF.out, ?_⟩
          refine plan_one rfl (fun K hK => ?_)
          go_wp2
          refine ⟨fun _ => HXF.out, ?_⟩
          unfold wpPlan
          clear hone
          have HGE := Lib.hid (HXF.out.row HE3.out)
          have HGO := Lib.hid (HXF.out.row HO3.out)
          have HGT := Lib.hid (HXF.out.row HT3'.out)
          go_wp2_with (first | (with_reducible refine wpList_load_row rfl 32 (.tmp 15) rfl (w3.heap.size) rfl 32 #[.int .i64 k, .int .i64 t, .int .u64 (a : Int), .slice B3 nm c3] (0, 0) _ HGO.out Try.underlying32 rfl tx_in16x ?_) | (refine wpList_load_row_g (by first | rfl | go_simp) 32 (.tmp 15) rfl (w3.heap.size) rfl 32 #[.int .i64 k, .int .i64 t, .int .u64 (a : Int), .slice B3 nm c3] (0, 0) _ HGO.out Try.underlying32 rfl tx_in16x ?_) | (with_reducible refine wpList_load_row rfl 27 (.tmp 10) rfl (w.heap.size) rfl 27 #[.int .i64 k, .int .i64 t, .int .u64 (a : Int), .slice B nm cm] (0, 0) _ HGT.out Try.underlying27 rfl tx_in16 ?_) | (refine wpList_load_row_g (by first | rfl | go_simp) 27 (.tmp 10) rfl (w.heap.size) rfl 27 #[.int .i64 k, .int .i64 t, .int .u64 (a : Int), .slice B nm cm] (0, 0) _ HGT.out Try.underlying27 rfl tx_in16 ?_))
          refine (HS2.out wf B3 c3 (HXV.out.trans HXF.out) (HR3.out.ext HXF.out)).mono ?_
          rintro e wg ⟨rfl, hxg⟩
          have HXG := Lib.hid (HXV.out.trans (HXF.out.trans hxg))
          have HG' := Lib.hid (hxg.row HGE.out)
          have q1 := cell_of_row _ _ 1 _ _ _ HG'.out
          have q3 := cell_of_row _ _ 3 _ _ _ HG'.out
          have q4 := cell_of_row _ _ 4 _ _ _ HG'.out
          clear hxg
          go_wp2
          go_ret
          exact ⟨rfl, HXG.out⟩
      · skip
        have HXn := Lib.hid (show Ext v3 (World.alloc W16 (.cells #[.int .i64 0, .int .i64 0, .int .u64 0, .slice none 0 0] 32)) from Ext.alloc HXW16.out _)
        have HMn := Lib.hid (mine_ext HMW16.out ((Ext.refl W16).alloc (.cells #[.int .i64 0, .int .i64 0, .int .u64 0, .slice none 0 0] 32)))
        have HZn := Lib.hid (HZW16.out.ext ((Ext.refl W16).alloc (.cells #[.int .i64 0, .int .i64 0, .int .u64 0, .slice none 0 0] 32)))
        have HTn := Lib.hid (show (World.alloc W16 (.cells #[.int .i64 0, .int .i64 0, .int .u64 0, .slice none 0 0] 32)).heap[W16.heap.size]? = some (.cells #[.int .i64 0, .int .i64 0, .int .u64 0, .slice none 0 0] 32) from heap_alloc_new W16 _)
        have HGn := Lib.hid (show v3.heap.size ≤ W16.heap.size from HXW16.out.size)
        have HSn := Lib.hid (show ∀ q, (Value.slice (some ⟨ge, 0, none⟩) 0 0).ownBlock = some q → q ≠ W16.heap.size from fun q h => by have := (HMW16.out.block q h).2; omega)
        go_wp2
        refine ⟨fun _ => HXn.out, ?_⟩
        obtain ⟨gt, hgt⟩ : ∃ q, W16.heap.size = q := ⟨_, rfl⟩
        rw [hgt] at HTn HGn HSn ⊢
        have HTG := HGn
        generalize World.alloc W16 _ = W26 at HXn HMn HZn HTn ⊢
        have HXW26 := Lib.hid HXn.out
        have HMW26 := Lib.hid HMn.out
        have HZW26 := Lib.hid HZn.out
        have HTW26 := Lib.hid HTn.out
        have HSW26 := Lib.hid HSn.out
        clear HXn HMn HZn HTn HSn HGn hgt
        refine plan_one rfl (fun K hK => ?_)
        refine wpList_append_new rfl (.tmp 69) (.tmp 70) rfl v3.heap.size ge p rfl HMW26.out D np cp rfl HLP.out (HDV.out.ext HXW26.out) (by have := HLP.out; omega) HXW26.out.size ?_
        intro vv W27 hm hx hq
        obtain ⟨A5, c5, ev, hc5, hr5⟩ := hm.slice HSMP.out
        rw [HLP.out] at ev hc5
        subst ev
        have HXW27 := Lib.hid (HXW26.out.trans hx)
        have HMW27 := Lib.hid hm
        have HZW27 := Lib.hid (HZW26.out.ext hx)
        have HTW27 := Lib.hid (hx.row HTW26.out)
        have HSW27 := Lib.hid (show ∀ q, (Value.slice A5 np c5).ownBlock = some q → q ≠ gt from fun q h => by rcases hq q h with h1 | h1; exact HSW26.out q (by rw [h1]; rfl); have h2 := row_lt HTW26.out; omega)
        clear hm hx hq hc5 hr5
        go_wp2
        refine ⟨fun _ => HXW27.out, ?_⟩
        refine plan_one rfl (fun K hK => ?_)
        refine wpList_append_rd rfl (.tmp 71) (.tmp 72) rfl v3.heap.size (.slice A5 np c5) p [0] rfl HMW27.out (some ⟨gl, 0, none⟩) 1 1 rfl rfl HZW27.out (by have := HLP.out; simp; omega) HXW27.out.size ?_
        intro vv W28 hm hg _
        have hx : Ext v3 W28 := HXW27.out.more hg (fun q hq => (HMW27.out.block q hq).1)
        obtain ⟨A6, c6, ev, hc6, hr6⟩ := hm.slice HSMZ.out
        rw [HLZ.out] at ev hc6
        subst ev
        have HXW28 := Lib.hid hx
        have HRW28 := Lib.hid hr6
        have HC6 := Lib.hid hc6
        have HTW28 := Lib.hid ((hg.block gt (row_lt HTW27.out) (fun h => HSW27.out gt h.symm rfl)).trans HTW27.out)
        clear hm hg hx hc6 hr6
        go_wp2
        refine ⟨fun _ => HXW28.out, ?_⟩
        refine plan_one rfl (fun K hK => ?_)
        go_wp2_with fail
        refine (HOZ.out W28 B2 c2 A6 c6 (HB3.out.ext HXW28.out) hc2 HRW28.out HC6.out).mono ?_
        rintro e W29 ⟨hx, B7, n7, c7, rfl, hn7, hc7, hr7⟩
        obtain rfl : 0 = n7 := hn7
        have HXW29 := Lib.hid (HXW28.out.trans hx)
        have HTW29 := Lib.hid (hx.row HTW28.out)
        clear hx hc7 hr7
        go_wp2
        refine ⟨fun _ => HXW29.out, ?_⟩
        refine plan_yes rfl (fun K hK => ?_); go_simp; refine ⟨_, fun _ _ => rfl, hK _ ?_⟩; clear hK K
        refine plan_yes rfl (fun K hK => ?_); go_simp; refine ⟨_, fun _ _ => rfl, hK _ ?_⟩; clear hK K
        refine plan_yes rfl (fun K hK => ?_); go_simp; refine ⟨_, fun _ _ => rfl, hK _ ?_⟩; clear hK K
        refine plan_one rfl (fun K hK => ?_)
        have hone : (#[.int .i64 0, .int .i64 0, .int .u64 0, .slice B7 0 c7] : Array Value).all (·.oneCell') = true := by simp [Value.oneCell']
        refine wpList_store_all rfl 32 (.tmp 17) (.tmp 75) rfl gt _ #[.int .i64 0, .int .i64 0, .int .u64 0, .slice B7 0 c7] rfl rfl HTW29.out tx_in16x rfl hone ?_
        have HXF := Lib.hid (HXW29.out.setRow (g := gt) HTG.out #[.int .i64 0, .int .i64 0, .int .u64 0, .slice B7 0 c7])
        generalize World.setRow W29 gt #[.int .i64 0, .int .i64 0, .int .u64 0, .slice B7 0 c7] = wf at HXF ⊢
        go_wp2
        refine ⟨fun _ => HXF.out, ?_⟩
        refine plan_one rfl (fun K hK => ?_)
        go_wp2
        refine ⟨fun _ => HXF.out, ?_⟩
        unfold wpPlan
        clear hone
        have HGE := Lib.hid (HXF.out.row HE3.out)
        have HGO := Lib.hid (HXF.out.row HO3.out)
        have HGT := Lib.hid (HXF.out.row HT3'.out)
        go_wp2_with (first | (with_reducible refine wpList_load_row rfl 32 (.tmp 15) rfl (w3.heap.size) rfl 32 #[.int .i64 k, .int .i64 t, .int .u64 (a : Int), .slice B3 nm c3] (0, 0) _ HGO.out Try.underlying32 rfl tx_in16x ?_) | (refine wpList_load_row_g (by first | rfl | go_simp) 32 (.tmp 15) rfl (w3.heap.size) rfl 32 #[.int .i64 k, .int .i64 t, .int .u64 (a : Int), .slice B3 nm c3] (0, 0) _ HGO.out Try.underlying32 rfl tx_in16x ?_) | (with_reducible refine wpList_load_row rfl 27 (.tmp 10) rfl (w.heap.size) rfl 27 #[.int .i64 k, .int .i64 t, .int .u64 (a : Int), .slice B nm cm] (0, 0) _ HGT.out Try.underlying27 rfl tx_in16 ?_) | (refine wpList_load_row_g (by first | rfl | go_simp) 27 (.tmp 10) rfl (w.heap.size) rfl 27 #[.int .i64 k, .int .i64 t, .int .u64 (a : Int), .slice B nm cm] (0, 0) _ HGT.out Try.underlying27 rfl tx_in16 ?_))
        refine (HS2.out wf B3 c3 (HXV.out.trans HXF.out) (HR3.out.ext HXF.out)).mono ?_
        rintro e wg ⟨rfl, hxg⟩
        have HXG := Lib.hid (HXV.out.trans (HXF.out.trans hxg))
        have HG' := Lib.hid (hxg.row HGE.out)
        have q1 := cell_of_row _ _ 1 _ _ _ HG'.out
        have q3 := cell_of_row _ _ 3 _ _ _ HG'.out
        have q4 := cell_of_row _ _ 4 _ _ _ HG'.out
        clear hxg
        go_wp2
        go_ret
        exact ⟨rfl, HXG.out⟩
    · skip
      have HXn := Lib.hid (show Ext v3 (World.alloc W1 (.cells #[.int .i64 0, .int .i64 0, .int .u64 0, .slice none 0 0] 32)) from Ext.alloc HXW1.out _)
      have HMn := Lib.hid (mine_ext HMW1.out ((Ext.refl W1).alloc (.cells #[.int .i64 0, .int .i64 0, .int .u64 0, .slice none 0 0] 32)))
      have HTn := Lib.hid (show (World.alloc W1 (.cells #[.int .i64 0, .int .i64 0, .int .u64 0, .slice none 0 0] 32)).heap[W1.heap.size]? = some (.cells #[.int .i64 0, .int .i64 0, .int .u64 0, .slice none 0 0] 32) from heap_alloc_new W1 _)
      have HGn := Lib.hid (show v3.heap.size ≤ W1.heap.size from HXW1.out.size)
      have HSn := Lib.hid (show ∀ q, (Value.slice (some ⟨ge, 0, none⟩) 0 0).ownBlock = some q → q ≠ W1.heap.size from fun q h => by have := (HMW1.out.block q h).2; omega)
      go_wp2
      refine ⟨fun _ => HXn.out, ?_⟩
      obtain ⟨gt, hgt⟩ : ∃ q, W1.heap.size = q := ⟨_, rfl⟩
      rw [hgt] at HTn HGn HSn ⊢
      have HTG := HGn
      generalize World.alloc W1 _ = W30 at HXn HMn HTn ⊢
      have HXW30 := Lib.hid HXn.out
      have HMW30 := Lib.hid HMn.out
      have HTW30 := Lib.hid HTn.out
      have HSW30 := Lib.hid HSn.out
      clear HXn HMn HTn HSn HGn hgt
      refine plan_two rfl rfl (fun K hK => ?_) (fun K hK => ?_)
      · skip
        refine wpList_append_new rfl (.tmp 69) (.tmp 70) rfl v3.heap.size ge p rfl HMW30.out D np cp rfl HLP.out (HDV.out.ext HXW30.out) (by have := HLP.out; omega) HXW30.out.size ?_
        intro vv W31 hm hx hq
        obtain ⟨A5, c5, ev, hc5, hr5⟩ := hm.slice HSMP.out
        rw [HLP.out] at ev hc5
        subst ev
        have HXW31 := Lib.hid (HXW30.out.trans hx)
        have HMW31 := Lib.hid hm
        have HTW31 := Lib.hid (hx.row HTW30.out)
        have HSW31 := Lib.hid (show ∀ q, (Value.slice A5 np c5).ownBlock = some q → q ≠ gt from fun q h => by rcases hq q h with h1 | h1; exact HSW30.out q (by rw [h1]; rfl); have h2 := row_lt HTW30.out; omega)
        clear hm hx hq hc5 hr5
        go_wp2
        refine ⟨fun _ => HXW31.out, ?_⟩
        refine plan_one rfl (fun K hK => ?_)
        have HXn := Lib.hid (show Ext v3 (World.alloc W31 (.cells #[.int .u8 0] 5)) from Ext.alloc HXW31.out _)
        have HMn := Lib.hid (mine_ext HMW31.out ((Ext.refl W31).alloc (.cells #[.int .u8 0] 5)))
        have HZn := Lib.hid (show Rd (World.alloc W31 (.cells #[.int .u8 0] 5)) (some ⟨W31.heap.size, 0, none⟩) [0] from rd_one W31 0 (by decide))
        have HTn := Lib.hid (((Ext.refl W31).alloc (.cells #[.int .u8 0] 5)).row HTW31.out)
        have HSn := HSW31
        go_wp2
        refine ⟨fun _ => HXn.out, ?_⟩
        obtain ⟨gl, hgl⟩ : ∃ q, W31.heap.size = q := ⟨_, rfl⟩
        rw [hgl] at HZn ⊢
        generalize World.alloc W31 _ = W32 at HXn HMn HZn HTn ⊢
        have HXW32 := Lib.hid HXn.out
        have HMW32 := Lib.hid HMn.out
        have HZW32 := Lib.hid HZn.out
        have HTW32 := Lib.hid HTn.out
        have HSW32 := Lib.hid HSn.out
        clear HXn HMn HZn HTn HSn hgl
        refine plan_one rfl (fun K hK => ?_)
        refine wpList_append_rd rfl (.tmp 71) (.tmp 72) rfl v3.heap.size (.slice A5 np c5) p [0] rfl HMW32.out (some ⟨gl, 0, none⟩) 1 1 rfl rfl HZW32.out (by have := HLP.out; simp; omega) HXW32.out.size ?_
        intro vv W33 hm hg _
        have hx : Ext v3 W33 := HXW32.out.more hg (fun q hq => (HMW32.out.block q hq).1)
        obtain ⟨A6, c6, ev, hc6, hr6⟩ := hm.slice HSMZ.out
        rw [HLZ.out] at ev hc6
        subst ev
        have HXW33 := Lib.hid hx
        have HRW33 := Lib.hid hr6
        have HC6 := Lib.hid hc6
        have HTW33 := Lib.hid ((hg.block gt (row_lt HTW32.out) (fun h => HSW32.out gt h.symm rfl)).trans HTW32.out)
        clear hm hg hx hc6 hr6
        go_wp2
        refine ⟨fun _ => HXW33.out, ?_⟩
        refine plan_one rfl (fun K hK => ?_)
        go_wp2_with fail
        refine (HOZ.out W33 B2 c2 A6 c6 (HB3.out.ext HXW33.out) hc2 HRW33.out HC6.out).mono ?_
        rintro e W34 ⟨hx, B7, n7, c7, rfl, hn7, hc7, hr7⟩
        obtain rfl : 0 = n7 := hn7
        have HXW34 := Lib.hid (HXW33.out.trans hx)
        have HTW34 := Lib.hid (hx.row HTW33.out)
        clear hx hc7 hr7
        go_wp2
        refine ⟨fun _ => HXW34.out, ?_⟩
        refine plan_yes rfl (fun K hK => ?_); go_simp; refine ⟨_, fun _ _ => rfl, hK _ ?_⟩; clear hK K
        refine plan_yes rfl (fun K hK => ?_); go_simp; refine ⟨_, fun _ _ => rfl, hK _ ?_⟩; clear hK K
        refine plan_yes rfl (fun K hK => ?_); go_simp; refine ⟨_, fun _ _ => rfl, hK _ ?_⟩; clear hK K
        refine plan_one rfl (fun K hK => ?_)
        have hone : (#[.int .i64 0, .int .i64 0, .int .u64 0, .slice B7 0 c7] : Array Value).all (·.oneCell') = true := by simp [Value.oneCell']
        refine wpList_store_all rfl 32 (.tmp 17) (.tmp 75) rfl gt _ #[.int .i64 0, .int .i64 0, .int .u64 0, .slice B7 0 c7] rfl rfl HTW34.out tx_in16x rfl hone ?_
        have HXF := Lib.hid (HXW34.out.setRow (g := gt) HTG.out #[.int .i64 0, .int .i64 0, .int .u64 0, .slice B7 0 c7])
        generalize World.setRow W34 gt #[.int .i64 0, .int .i64 0, .int .u64 0, .slice B7 0 c7] = wf at HXF ⊢
        go_wp2
        refine ⟨fun _ => HXF.out, ?_⟩
        refine plan_one rfl (fun K hK => ?_)
        go_wp2
        refine ⟨fun _ => HXF.out, ?_⟩
        unfold wpPlan
        clear hone
        have HGE := Lib.hid (HXF.out.row HE3.out)
        have HGO := Lib.hid (HXF.out.row HO3.out)
        have HGT := Lib.hid (HXF.out.row HT3'.out)
        go_wp2_with (first | (with_reducible refine wpList_load_row rfl 32 (.tmp 15) rfl (w3.heap.size) rfl 32 #[.int .i64 k, .int .i64 t, .int .u64 (a : Int), .slice B3 nm c3] (0, 0) _ HGO.out Try.underlying32 rfl tx_in16x ?_) | (refine wpList_load_row_g (by first | rfl | go_simp) 32 (.tmp 15) rfl (w3.heap.size) rfl 32 #[.int .i64 k, .int .i64 t, .int .u64 (a : Int), .slice B3 nm c3] (0, 0) _ HGO.out Try.underlying32 rfl tx_in16x ?_) | (with_reducible refine wpList_load_row rfl 27 (.tmp 10) rfl (w.heap.size) rfl 27 #[.int .i64 k, .int .i64 t, .int .u64 (a : Int), .slice B nm cm] (0, 0) _ HGT.out Try.underlying27 rfl tx_in16 ?_) | (refine wpList_load_row_g (by first | rfl | go_simp) 27 (.tmp 10) rfl (w.heap.size) rfl 27 #[.int .i64 k, .int .i64 t, .int .u64 (a : Int), .slice B nm cm] (0, 0) _ HGT.out Try.underlying27 rfl tx_in16 ?_))
        refine (HS2.out wf B3 c3 (HXV.out.trans HXF.out) (HR3.out.ext HXF.out)).mono ?_
        rintro e wg ⟨rfl, hxg⟩
        have HXG := Lib.hid (HXV.out.trans (HXF.out.trans hxg))
        have HG' := Lib.hid (hxg.row HGE.out)
        have q1 := cell_of_row _ _ 1 _ _ _ HG'.out
        have q3 := cell_of_row _ _ 3 _ _ _ HG'.out
        have q4 := cell_of_row _ _ 4 _ _ _ HG'.out
        clear hxg
        go_wp2
        go_ret
        exact ⟨rfl, HXG.out⟩
      · skip
        have HXn := Lib.hid (show Ext v3 (World.alloc W30 (.cells #[.int .u8 0] 5)) from Ext.alloc HXW30.out _)
        have HMn := Lib.hid (mine_ext HMW30.out ((Ext.refl W30).alloc (.cells #[.int .u8 0] 5)))
        have HZn := Lib.hid (show Rd (World.alloc W30 (.cells #[.int .u8 0] 5)) (some ⟨W30.heap.size, 0, none⟩) [0] from rd_one W30 0 (by decide))
        have HTn := Lib.hid (((Ext.refl W30).alloc (.cells #[.int .u8 0] 5)).row HTW30.out)
        have HSn := HSW30
        go_wp2
        refine ⟨fun _ => HXn.out, ?_⟩
        obtain ⟨gl, hgl⟩ : ∃ q, W30.heap.size = q := ⟨_, rfl⟩
        rw [hgl] at HZn ⊢
        generalize World.alloc W30 _ = W35 at HXn HMn HZn HTn ⊢
        have HXW35 := Lib.hid HXn.out
        have HMW35 := Lib.hid HMn.out
        have HZW35 := Lib.hid HZn.out
        have HTW35 := Lib.hid HTn.out
        have HSW35 := Lib.hid HSn.out
        clear HXn HMn HZn HTn HSn hgl
        refine plan_one rfl (fun K hK => ?_)
        refine wpList_append_new rfl (.tmp 69) (.tmp 70) rfl v3.heap.size ge p rfl HMW35.out D np cp rfl HLP.out (HDV.out.ext HXW35.out) (by have := HLP.out; omega) HXW35.out.size ?_
        intro vv W36 hm hx hq
        obtain ⟨A5, c5, ev, hc5, hr5⟩ := hm.slice HSMP.out
        rw [HLP.out] at ev hc5
        subst ev
        have HXW36 := Lib.hid (HXW35.out.trans hx)
        have HMW36 := Lib.hid hm
        have HZW36 := Lib.hid (HZW35.out.ext hx)
        have HTW36 := Lib.hid (hx.row HTW35.out)
        have HSW36 := Lib.hid (show ∀ q, (Value.slice A5 np c5).ownBlock = some q → q ≠ gt from fun q h => by rcases hq q h with h1 | h1; exact HSW35.out q (by rw [h1]; rfl); have h2 := row_lt HTW35.out; omega)
        clear hm hx hq hc5 hr5
        go_wp2
        refine ⟨fun _ => HXW36.out, ?_⟩
        refine plan_one rfl (fun K hK => ?_)
        refine wpList_append_rd rfl (.tmp 71) (.tmp 72) rfl v3.heap.size (.slice A5 np c5) p [0] rfl HMW36.out (some ⟨gl, 0, none⟩) 1 1 rfl rfl HZW36.out (by have := HLP.out; simp; omega) HXW36.out.size ?_
        intro vv W37 hm hg _
        have hx : Ext v3 W37 := HXW36.out.more hg (fun q hq => (HMW36.out.block q hq).1)
        obtain ⟨A6, c6, ev, hc6, hr6⟩ := hm.slice HSMZ.out
        rw [HLZ.out] at ev hc6
        subst ev
        have HXW37 := Lib.hid hx
        have HRW37 := Lib.hid hr6
        have HC6 := Lib.hid hc6
        have HTW37 := Lib.hid ((hg.block gt (row_lt HTW36.out) (fun h => HSW36.out gt h.symm rfl)).trans HTW36.out)
        clear hm hg hx hc6 hr6
        go_wp2
        refine ⟨fun _ => HXW37.out, ?_⟩
        refine plan_one rfl (fun K hK => ?_)
        go_wp2_with fail
        refine (HOZ.out W37 B2 c2 A6 c6 (HB3.out.ext HXW37.out) hc2 HRW37.out HC6.out).mono ?_
        rintro e W38 ⟨hx, B7, n7, c7, rfl, hn7, hc7, hr7⟩
        obtain rfl : 0 = n7 := hn7
        have HXW38 := Lib.hid (HXW37.out.trans hx)
        have HTW38 := Lib.hid (hx.row HTW37.out)
        clear hx hc7 hr7
        go_wp2
        refine ⟨fun _ => HXW38.out, ?_⟩
        refine plan_yes rfl (fun K hK => ?_); go_simp; refine ⟨_, fun _ _ => rfl, hK _ ?_⟩; clear hK K
        refine plan_yes rfl (fun K hK => ?_); go_simp; refine ⟨_, fun _ _ => rfl, hK _ ?_⟩; clear hK K
        refine plan_yes rfl (fun K hK => ?_); go_simp; refine ⟨_, fun _ _ => rfl, hK _ ?_⟩; clear hK K
        refine plan_one rfl (fun K hK => ?_)
        have hone : (#[.int .i64 0, .int .i64 0, .int .u64 0, .slice B7 0 c7] : Array Value).all (·.oneCell') = true := by simp [Value.oneCell']
        refine wpList_store_all rfl 32 (.tmp 17) (.tmp 75) rfl gt _ #[.int .i64 0, .int .i64 0, .int .u64 0, .slice B7 0 c7] rfl rfl HTW38.out tx_in16x rfl hone ?_
        have HXF := Lib.hid (HXW38.out.setRow (g := gt) HTG.out #[.int .i64 0, .int .i64 0, .int .u64 0, .slice B7 0 c7])
        generalize World.setRow W38 gt #[.int .i64 0, .int .i64 0, .int .u64 0, .slice B7 0 c7] = wf at HXF ⊢
        go_wp2
        refine ⟨fun _ => HXF.out, ?_⟩
        refine plan_one rfl (fun K hK => ?_)
        go_wp2
        refine ⟨fun _ => HXF.out, ?_⟩
        unfold wpPlan
        clear hone
        have HGE := Lib.hid (HXF.out.row HE3.out)
        have HGO := Lib.hid (HXF.out.row HO3.out)
        have HGT := Lib.hid (HXF.out.row HT3'.out)
        go_wp2_with (first | (with_reducible refine wpList_load_row rfl 32 (.tmp 15) rfl (w3.heap.size) rfl 32 #[.int .i64 k, .int .i64 t, .int .u64 (a : Int), .slice B3 nm c3] (0, 0) _ HGO.out Try.underlying32 rfl tx_in16x ?_) | (refine wpList_load_row_g (by first | rfl | go_simp) 32 (.tmp 15) rfl (w3.heap.size) rfl 32 #[.int .i64 k, .int .i64 t, .int .u64 (a : Int), .slice B3 nm c3] (0, 0) _ HGO.out Try.underlying32 rfl tx_in16x ?_) | (with_reducible refine wpList_load_row rfl 27 (.tmp 10) rfl (w.heap.size) rfl 27 #[.int .i64 k, .int .i64 t, .int .u64 (a : Int), .slice B nm cm] (0, 0) _ HGT.out Try.underlying27 rfl tx_in16 ?_) | (refine wpList_load_row_g (by first | rfl | go_simp) 27 (.tmp 10) rfl (w.heap.size) rfl 27 #[.int .i64 k, .int .i64 t, .int .u64 (a : Int), .slice B nm cm] (0, 0) _ HGT.out Try.underlying27 rfl tx_in16 ?_))
        refine (HS2.out wf B3 c3 (HXV.out.trans HXF.out) (HR3.out.ext HXF.out)).mono ?_
        rintro e wg ⟨rfl, hxg⟩
        have HXG := Lib.hid (HXV.out.trans (HXF.out.trans hxg))
        have HG' := Lib.hid (hxg.row HGE.out)
        have q1 := cell_of_row _ _ 1 _ _ _ HG'.out
        have q3 := cell_of_row _ _ 3 _ _ _ HG'.out
        have q4 := cell_of_row _ _ 4 _ _ _ HG'.out
        clear hxg
        go_wp2
        go_ret
        exact ⟨rfl, HXG.out⟩
  · skip
    have HXn := Lib.hid (show Ext v3 (World.alloc W0 (.cells #[.int .u8 0] 5)) from Ext.alloc HXW0.out _)
    have HZn := Lib.hid (show Rd (World.alloc W0 (.cells #[.int .u8 0] 5)) (some ⟨W0.heap.size, 0, none⟩) [0] from rd_one W0 0 (by decide))
    go_wp2
    refine ⟨fun _ => HXn.out, ?_⟩
    obtain ⟨gl, hgl⟩ : ∃ q, W0.heap.size = q := ⟨_, rfl⟩
    rw [hgl] at HZn ⊢
    generalize World.alloc W0 _ = W39 at HXn HZn ⊢
    have HXW39 := Lib.hid HXn.out
    have HZW39 := Lib.hid HZn.out
    clear HXn HZn hgl
    refine plan_two rfl rfl (fun K hK => ?_) (fun K hK => ?_)
    · skip
      have HXn := Lib.hid (show Ext v3 (World.alloc W39 (.cells #[] 5)) from Ext.alloc HXW39.out _)
      have HMn := Lib.hid (show Mine (World.alloc W39 (.cells #[] 5)) v3.heap.size (.slice (some ⟨W39.heap.size, 0, none⟩) 0 0) [] from (mine_empty W39).down HXW39.out.size)
      have HZn := Lib.hid (HZW39.out.ext ((Ext.refl W39).alloc (.cells #[] 5)))
      go_wp2
      refine ⟨fun _ => HXn.out, ?_⟩
      obtain ⟨ge, hge⟩ : ∃ q, W39.heap.size = q := ⟨_, rfl⟩
      rw [hge] at HMn ⊢
      generalize World.alloc W39 _ = W40 at HXn HMn HZn ⊢
      have HXW40 := Lib.hid HXn.out
      have HMW40 := Lib.hid HMn.out
      have HZW40 := Lib.hid HZn.out
      clear HXn HMn HZn hge
      refine plan_two rfl rfl (fun K hK => ?_) (fun K hK => ?_)
      · skip
        refine wpList_append_new rfl (.tmp 69) (.tmp 70) rfl v3.heap.size ge p rfl HMW40.out D np cp rfl HLP.out (HDV.out.ext HXW40.out) (by have := HLP.out; omega) HXW40.out.size ?_
        intro vv W41 hm hx hq
        obtain ⟨A5, c5, ev, hc5, hr5⟩ := hm.slice HSMP.out
        rw [HLP.out] at ev hc5
        subst ev
        have HXW41 := Lib.hid (HXW40.out.trans hx)
        have HMW41 := Lib.hid hm
        have HZW41 := Lib.hid (HZW40.out.ext hx)
        clear hm hx hq hc5 hr5
        go_wp2
        refine ⟨fun _ => HXW41.out, ?_⟩
        refine plan_two rfl rfl (fun K hK => ?_) (fun K hK => ?_)
        · skip
          refine wpList_append_rd rfl (.tmp 71) (.tmp 72) rfl v3.heap.size (.slice A5 np c5) p [0] rfl HMW41.out (some ⟨gl, 0, none⟩) 1 1 rfl rfl HZW41.out (by have := HLP.out; simp; omega) HXW41.out.size ?_
          intro vv W42 hm hg _
          have hx : Ext v3 W42 := HXW41.out.more hg (fun q hq => (HMW41.out.block q hq).1)
          obtain ⟨A6, c6, ev, hc6, hr6⟩ := hm.slice HSMZ.out
          rw [HLZ.out] at ev hc6
          subst ev
          have HXW42 := Lib.hid hx
          have HRW42 := Lib.hid hr6
          have HC6 := Lib.hid hc6
          clear hm hg hx hc6 hr6
          go_wp2
          refine ⟨fun _ => HXW42.out, ?_⟩
          refine plan_two rfl rfl (fun K hK => ?_) (fun K hK => ?_)
          · skip
            go_wp2_with fail
            refine (HOZ.out W42 B2 c2 A6 c6 (HB3.out.ext HXW42.out) hc2 HRW42.out HC6.out).mono ?_
            rintro e W43 ⟨hx, B7, n7, c7, rfl, hn7, hc7, hr7⟩
            obtain rfl : 0 = n7 := hn7
            have HXW43 := Lib.hid (HXW42.out.trans hx)
            clear hx hc7 hr7
            go_wp2
            refine ⟨fun _ => HXW43.out, ?_⟩
            refine plan_yes rfl (fun K hK => ?_); go_simp; refine ⟨_, fun _ _ => rfl, hK _ ?_⟩; clear hK K
            refine plan_yes rfl (fun K hK => ?_); go_simp; refine ⟨_, fun _ _ => rfl, hK _ ?_⟩; clear hK K
            refine plan_yes rfl (fun K hK => ?_); go_simp; refine ⟨_, fun _ _ => rfl, hK _ ?_⟩; clear hK K
            refine plan_one rfl (fun K hK => ?_)
            have HXn := Lib.hid (show Ext v3 (World.alloc W43 (.cells #[.int .i64 0, .int .i64 0, .int .u64 0, .slice none 0 0] 32)) from Ext.alloc HXW43.out _)
            have HTn := Lib.hid (show (World.alloc W43 (.cells #[.int .i64 0, .int .i64 0, .int .u64 0, .slice none 0 0] 32)).heap[W43.heap.size]? = some (.cells #[.int .i64 0, .int .i64 0, .int .u64 0, .slice none 0 0] 32) from heap_alloc_new W43 _)
            have HTG := Lib.hid (show v3.heap.size ≤ W43.heap.size from HXW43.out.size)
            go_wp2
            refine ⟨fun _ => HXn.out, ?_⟩
            obtain ⟨gt, hgt⟩ : ∃ q, W43.heap.size = q := ⟨_, rfl⟩
            rw [hgt] at HTn HTG ⊢
            generalize World.alloc W43 _ = W44 at HXn HTn ⊢
            have HXW44 := Lib.hid HXn.out
            have HTW44 := Lib.hid HTn.out
            clear HXn HTn hgt
            refine plan_one rfl (fun K hK => ?_)
            have hone : (#[.int .i64 0, .int .i64 0, .int .u64 0, .slice B7 0 c7] : Array Value).all (·.oneCell') = true := by simp [Value.oneCell']
            refine wpList_store_all rfl 32 (.tmp 17) (.tmp 75) rfl gt _ #[.int .i64 0, .int .i64 0, .int .u64 0, .slice B7 0 c7] rfl rfl HTW44.out tx_in16x rfl hone ?_
            have HXF := Lib.hid (HXW44.out.setRow (g := gt) HTG.out #[.int .i64 0, .int .i64 0, .int .u64 0, .slice B7 0 c7])
            generalize World.setRow W44 gt #[.int .i64 0, .int .i64 0, .int .u64 0, .slice B7 0 c7] = wf at HXF ⊢
            go_wp2
            refine ⟨fun _ => HXF.out, ?_⟩
            refine plan_one rfl (fun K hK => ?_)
            go_wp2
            refine ⟨fun _ => HXF.out, ?_⟩
            unfold wpPlan
            clear hone
            have HGE := Lib.hid (HXF.out.row HE3.out)
            have HGO := Lib.hid (HXF.out.row HO3.out)
            have HGT := Lib.hid (HXF.out.row HT3'.out)
            go_wp2_with (first | (with_reducible refine wpList_load_row rfl 32 (.tmp 15) rfl (w3.heap.size) rfl 32 #[.int .i64 k, .int .i64 t, .int .u64 (a : Int), .slice B3 nm c3] (0, 0) _ HGO.out Try.underlying32 rfl tx_in16x ?_) | (refine wpList_load_row_g (by first | rfl | go_simp) 32 (.tmp 15) rfl (w3.heap.size) rfl 32 #[.int .i64 k, .int .i64 t, .int .u64 (a : Int), .slice B3 nm c3] (0, 0) _ HGO.out Try.underlying32 rfl tx_in16x ?_) | (with_reducible refine wpList_load_row rfl 27 (.tmp 10) rfl (w.heap.size) rfl 27 #[.int .i64 k, .int .i64 t, .int .u64 (a : Int), .slice B nm cm] (0, 0) _ HGT.out Try.underlying27 rfl tx_in16 ?_) | (refine wpList_load_row_g (by first | rfl | go_simp) 27 (.tmp 10) rfl (w.heap.size) rfl 27 #[.int .i64 k, .int .i64 t, .int .u64 (a : Int), .slice B nm cm] (0, 0) _ HGT.out Try.underlying27 rfl tx_in16 ?_))
            refine (HS2.out wf B3 c3 (HXV.out.trans HXF.out) (HR3.out.ext HXF.out)).mono ?_
            rintro e wg ⟨rfl, hxg⟩
            have HXG := Lib.hid (HXV.out.trans (HXF.out.trans hxg))
            have HG' := Lib.hid (hxg.row HGE.out)
            have q1 := cell_of_row _ _ 1 _ _ _ HG'.out
            have q3 := cell_of_row _ _ 3 _ _ _ HG'.out
            have q4 := cell_of_row _ _ 4 _ _ _ HG'.out
            clear hxg
            go_wp2
            go_ret
            exact ⟨rfl, HXG.out⟩
          · skip
            have HXn := Lib.hid (show Ext v3 (World.alloc W42 (.cells #[.int .i64 0, .int .i64 0, .int .u64 0, .slice none 0 0] 32)) from Ext.alloc HXW42.out _)
            have HRn := Lib.hid (HRW42.out.ext ((Ext.refl W42).alloc (.cells #[.int .i64 0, .int .i64 0, .int .u64 0, .slice none 0 0] 32)))
            have HTn := Lib.hid (show (World.alloc W42 (.cells #[.int .i64 0, .int .i64 0, .int .u64 0, .slice none 0 0] 32)).heap[W42.heap.size]? = some (.cells #[.int .i64 0, .int .i64 0, .int .u64 0, .slice none 0 0] 32) from heap_alloc_new W42 _)
            have HGn := Lib.hid (show v3.heap.size ≤ W42.heap.size from HXW42.out.size)
            go_wp2
            refine ⟨fun _ => HXn.out, ?_⟩
            obtain ⟨gt, hgt⟩ : ∃ q, W42.heap.size = q := ⟨_, rfl⟩
            rw [hgt] at HTn HGn ⊢
            have HTG := HGn
            generalize World.alloc W42 _ = W45 at HXn HRn HTn ⊢
            have HXW45 := Lib.hid HXn.out
            have HTW45 := Lib.hid HTn.out
            have HRW45 := Lib.hid HRn.out
            clear HXn HRn HTn HGn hgt
            refine plan_one rfl (fun K hK => ?_)
            go_wp2_with fail
            refine (HOZ.out W45 B2 c2 A6 c6 (HB3.out.ext HXW45.out) hc2 HRW45.out HC6.out).mono ?_
            rintro e W46 ⟨hx, B7, n7, c7, rfl, hn7, hc7, hr7⟩
            obtain rfl : 0 = n7 := hn7
            have HXW46 := Lib.hid (HXW45.out.trans hx)
            have HTW46 := Lib.hid (hx.row HTW45.out)
            clear hx hc7 hr7
            go_wp2
            refine ⟨fun _ => HXW46.out, ?_⟩
            refine plan_yes rfl (fun K hK => ?_); go_simp; refine ⟨_, fun _ _ => rfl, hK _ ?_⟩; clear hK K
            refine plan_yes rfl (fun K hK => ?_); go_simp; refine ⟨_, fun _ _ => rfl, hK _ ?_⟩; clear hK K
            refine plan_yes rfl (fun K hK => ?_); go_simp; refine ⟨_, fun _ _ => rfl, hK _ ?_⟩; clear hK K
            refine plan_one rfl (fun K hK => ?_)
            have hone : (#[.int .i64 0, .int .i64 0, .int .u64 0, .slice B7 0 c7] : Array Value).all (·.oneCell') = true := by simp [Value.oneCell']
            refine wpList_store_all rfl 32 (.tmp 17) (.tmp 75) rfl gt _ #[.int .i64 0, .int .i64 0, .int .u64 0, .slice B7 0 c7] rfl rfl HTW46.out tx_in16x rfl hone ?_
            have HXF := Lib.hid (HXW46.out.setRow (g := gt) HTG.out #[.int .i64 0, .int .i64 0, .int .u64 0, .slice B7 0 c7])
            generalize World.setRow W46 gt #[.int .i64 0, .int .i64 0, .int .u64 0, .slice B7 0 c7] = wf at HXF ⊢
            go_wp2
            refine ⟨fun _ => HXF.out, ?_⟩
            refine plan_one rfl (fun K hK => ?_)
            go_wp2
            refine ⟨fun _ => HXF.out, ?_⟩
            unfold wpPlan
            clear hone
            have HGE := Lib.hid (HXF.out.row HE3.out)
            have HGO := Lib.hid (HXF.out.row HO3.out)
            have HGT := Lib.hid (HXF.out.row HT3'.out)
            go_wp2_with (first | (with_reducible refine wpList_load_row rfl 32 (.tmp 15) rfl (w3.heap.size) rfl 32 #[.int .i64 k, .int .i64 t, .int .u64 (a : Int), .slice B3 nm c3] (0, 0) _ HGO.out Try.underlying32 rfl tx_in16x ?_) | (refine wpList_load_row_g (by first | rfl | go_simp) 32 (.tmp 15) rfl (w3.heap.size) rfl 32 #[.int .i64 k, .int .i64 t, .int .u64 (a : Int), .slice B3 nm c3] (0, 0) _ HGO.out Try.underlying32 rfl tx_in16x ?_) | (with_reducible refine wpList_load_row rfl 27 (.tmp 10) rfl (w.heap.size) rfl 27 #[.int .i64 k, .int .i64 t, .int .u64 (a : Int), .slice B nm cm] (0, 0) _ HGT.out Try.underlying27 rfl tx_in16 ?_) | (refine wpList_load_row_g (by first | rfl | go_simp) 27 (.tmp 10) rfl (w.heap.size) rfl 27 #[.int .i64 k, .int .i64 t, .int .u64 (a : Int), .slice B nm cm] (0, 0) _ HGT.out Try.underlying27 rfl tx_in16 ?_))
            refine (HS2.out wf B3 c3 (HXV.out.trans HXF.out) (HR3.out.ext HXF.out)).mono ?_
            rintro e wg ⟨rfl, hxg⟩
            have HXG := Lib.hid (HXV.out.trans (HXF.out.trans hxg))
            have HG' := Lib.hid (hxg.row HGE.out)
            have q1 := cell_of_row _ _ 1 _ _ _ HG'.out
            have q3 := cell_of_row _ _ 3 _ _ _ HG'.out
            have q4 := cell_of_row _ _ 4 _ _ _ HG'.out
            clear hxg
            go_wp2
            go_ret
            exact ⟨rfl, HXG.out⟩
        · skip
          have HXn := Lib.hid (show Ext v3 (World.alloc W41 (.cells #[.int .i64 0, .int .i64 0, .int .u64 0, .slice none 0 0] 32)) from Ext.alloc HXW41.out _)
          have HMn := Lib.hid (mine_ext HMW41.out ((Ext.refl W41).alloc (.cells #[.int .i64 0, .int .i64 0, .int .u64 0, .slice none 0 0] 32)))
          have HZn := Lib.hid (HZW41.out.ext ((Ext.refl W41).alloc (.cells #[.int .i64 0, .int .i64 0, .int .u64 0, .slice none 0 0] 32)))
          have HTn := Lib.hid (show (World.alloc W41 (.cells #[.int .i64 0, .int .i64 0, .int .u64 0, .slice none 0 0] 32)).heap[W41.heap.size]? = some (.cells #[.int .i64 0, .int .i64 0, .int .u64 0, .slice none 0 0] 32) from heap_alloc_new W41 _)
          have HGn := Lib.hid (show v3.heap.size ≤ W41.heap.size from HXW41.out.size)
          have HSn := Lib.hid (show ∀ q, (Value.slice A5 np c5).ownBlock = some q → q ≠ W41.heap.size from fun q h => by have := (HMW41.out.block q h).2; omega)
          go_wp2
          refine ⟨fun _ => HXn.out, ?_⟩
          obtain ⟨gt, hgt⟩ : ∃ q, W41.heap.size = q := ⟨_, rfl⟩
          rw [hgt] at HTn HGn HSn ⊢
          have HTG := HGn
          generalize World.alloc W41 _ = W47 at HXn HMn HZn HTn ⊢
          have HXW47 := Lib.hid HXn.out
          have HMW47 := Lib.hid HMn.out
          have HZW47 := Lib.hid HZn.out
          have HTW47 := Lib.hid HTn.out
          have HSW47 := Lib.hid HSn.out
          clear HXn HMn HZn HTn HSn HGn hgt
          refine plan_one rfl (fun K hK => ?_)
          refine wpList_append_rd rfl (.tmp 71) (.tmp 72) rfl v3.heap.size (.slice A5 np c5) p [0] rfl HMW47.out (some ⟨gl, 0, none⟩) 1 1 rfl rfl HZW47.out (by have := HLP.out; simp; omega) HXW47.out.size ?_
          intro vv W48 hm hg _
          have hx : Ext v3 W48 := HXW47.out.more hg (fun q hq => (HMW47.out.block q hq).1)
          obtain ⟨A6, c6, ev, hc6, hr6⟩ := hm.slice HSMZ.out
          rw [HLZ.out] at ev hc6
          subst ev
          have HXW48 := Lib.hid hx
          have HRW48 := Lib.hid hr6
          have HC6 := Lib.hid hc6
          have HTW48 := Lib.hid ((hg.block gt (row_lt HTW47.out) (fun h => HSW47.out gt h.symm rfl)).trans HTW47.out)
          clear hm hg hx hc6 hr6
          go_wp2
          refine ⟨fun _ => HXW48.out, ?_⟩
          refine plan_one rfl (fun K hK => ?_)
          go_wp2_with fail
          refine (HOZ.out W48 B2 c2 A6 c6 (HB3.out.ext HXW48.out) hc2 HRW48.out HC6.out).mono ?_
          rintro e W49 ⟨hx, B7, n7, c7, rfl, hn7, hc7, hr7⟩
          obtain rfl : 0 = n7 := hn7
          have HXW49 := Lib.hid (HXW48.out.trans hx)
          have HTW49 := Lib.hid (hx.row HTW48.out)
          clear hx hc7 hr7
          go_wp2
          refine ⟨fun _ => HXW49.out, ?_⟩
          refine plan_yes rfl (fun K hK => ?_); go_simp; refine ⟨_, fun _ _ => rfl, hK _ ?_⟩; clear hK K
          refine plan_yes rfl (fun K hK => ?_); go_simp; refine ⟨_, fun _ _ => rfl, hK _ ?_⟩; clear hK K
          refine plan_yes rfl (fun K hK => ?_); go_simp; refine ⟨_, fun _ _ => rfl, hK _ ?_⟩; clear hK K
          refine plan_one rfl (fun K hK => ?_)
          have hone : (#[.int .i64 0, .int .i64 0, .int .u64 0, .slice B7 0 c7] : Array Value).all (·.oneCell') = true := by simp [Value.oneCell']
          refine wpList_store_all rfl 32 (.tmp 17) (.tmp 75) rfl gt _ #[.int .i64 0, .int .i64 0, .int .u64 0, .slice B7 0 c7] rfl rfl HTW49.out tx_in16x rfl hone ?_
          have HXF := Lib.hid (HXW49.out.setRow (g := gt) HTG.out #[.int .i64 0, .int .i64 0, .int .u64 0, .slice B7 0 c7])
          generalize World.setRow W49 gt #[.int .i64 0, .int .i64 0, .int .u64 0, .slice B7 0 c7] = wf at HXF ⊢
          go_wp2
          refine ⟨fun _ => HXF.out, ?_⟩
          refine plan_one rfl (fun K hK => ?_)
          go_wp2
          refine ⟨fun _ => HXF.out, ?_⟩
          unfold wpPlan
          clear hone
          have HGE := Lib.hid (HXF.out.row HE3.out)
          have HGO := Lib.hid (HXF.out.row HO3.out)
          have HGT := Lib.hid (HXF.out.row HT3'.out)
          go_wp2_with (first | (with_reducible refine wpList_load_row rfl 32 (.tmp 15) rfl (w3.heap.size) rfl 32 #[.int .i64 k, .int .i64 t, .int .u64 (a : Int), .slice B3 nm c3] (0, 0) _ HGO.out Try.underlying32 rfl tx_in16x ?_) | (refine wpList_load_row_g (by first | rfl | go_simp) 32 (.tmp 15) rfl (w3.heap.size) rfl 32 #[.int .i64 k, .int .i64 t, .int .u64 (a : Int), .slice B3 nm c3] (0, 0) _ HGO.out Try.underlying32 rfl tx_in16x ?_) | (with_reducible refine wpList_load_row rfl 27 (.tmp 10) rfl (w.heap.size) rfl 27 #[.int .i64 k, .int .i64 t, .int .u64 (a : Int), .slice B nm cm] (0, 0) _ HGT.out Try.underlying27 rfl tx_in16 ?_) | (refine wpList_load_row_g (by first | rfl | go_simp) 27 (.tmp 10) rfl (w.heap.size) rfl 27 #[.int .i64 k, .int .i64 t, .int .u64 (a : Int), .slice B nm cm] (0, 0) _ HGT.out Try.underlying27 rfl tx_in16 ?_))
          refine (HS2.out wf B3 c3 (HXV.out.trans HXF.out) (HR3.out.ext HXF.out)).mono ?_
          rintro e wg ⟨rfl, hxg⟩
          have HXG := Lib.hid (HXV.out.trans (HXF.out.trans hxg))
          have HG' := Lib.hid (hxg.row HGE.out)
          have q1 := cell_of_row _ _ 1 _ _ _ HG'.out
          have q3 := cell_of_row _ _ 3 _ _ _ HG'.out
          have q4 := cell_of_row _ _ 4 _ _ _ HG'.out
          clear hxg
          go_wp2
          go_ret
          exact ⟨rfl, HXG.out⟩
      · skip
        have HXn := Lib.hid (show Ext v3 (World.alloc W40 (.cells #[.int .i64 0, .int .i64 0, .int .u64 0, .slice none 0 0] 32)) from Ext.alloc HXW40.out _)
        have HMn := Lib.hid (mine_ext HMW40.out ((Ext.refl W40).alloc (.cells #[.int .i64 0, .int .i64 0, .int .u64 0, .slice none 0 0] 32)))
        have HZn := Lib.hid (HZW40.out.ext ((Ext.refl W40).alloc (.cells #[.int .i64 0, .int .i64 0, .int .u64 0, .slice none 0 0] 32)))
        have HTn := Lib.hid (show (World.alloc W40 (.cells #[.int .i64 0, .int .i64 0, .int .u64 0, .slice none 0 0] 32)).heap[W40.heap.size]? = some (.cells #[.int .i64 0, .int .i64 0, .int .u64 0, .slice none 0 0] 32) from heap_alloc_new W40 _)
        have HGn := Lib.hid (show v3.heap.size ≤ W40.heap.size from HXW40.out.size)
        have HSn := Lib.hid (show ∀ q, (Value.slice (some ⟨ge, 0, none⟩) 0 0).ownBlock = some q → q ≠ W40.heap.size from fun q h => by have := (HMW40.out.block q h).2; omega)
        go_wp2
        refine ⟨fun _ => HXn.out, ?_⟩
        obtain ⟨gt, hgt⟩ : ∃ q, W40.heap.size = q := ⟨_, rfl⟩
        rw [hgt] at HTn HGn HSn ⊢
        have HTG := HGn
        generalize World.alloc W40 _ = W50 at HXn HMn HZn HTn ⊢
        have HXW50 := Lib.hid HXn.out
        have HMW50 := Lib.hid HMn.out
        have HZW50 := Lib.hid HZn.out
        have HTW50 := Lib.hid HTn.out
        have HSW50 := Lib.hid HSn.out
        clear HXn HMn HZn HTn HSn HGn hgt
        refine plan_one rfl (fun K hK => ?_)
        refine wpList_append_new rfl (.tmp 69) (.tmp 70) rfl v3.heap.size ge p rfl HMW50.out D np cp rfl HLP.out (HDV.out.ext HXW50.out) (by have := HLP.out; omega) HXW50.out.size ?_
        intro vv W51 hm hx hq
        obtain ⟨A5, c5, ev, hc5, hr5⟩ := hm.slice HSMP.out
        rw [HLP.out] at ev hc5
        subst ev
        have HXW51 := Lib.hid (HXW50.out.trans hx)
        have HMW51 := Lib.hid hm
        have HZW51 := Lib.hid (HZW50.out.ext hx)
        have HTW51 := Lib.hid (hx.row HTW50.out)
        have HSW51 := Lib.hid (show ∀ q, (Value.slice A5 np c5).ownBlock = some q → q ≠ gt from fun q h => by rcases hq q h with h1 | h1; exact HSW50.out q (by rw [h1]; rfl); have h2 := row_lt HTW50.out; omega)
        clear hm hx hq hc5 hr5
        go_wp2
        refine ⟨fun _ => HXW51.out, ?_⟩
        refine plan_one rfl (fun K hK => ?_)
        refine wpList_append_rd rfl (.tmp 71) (.tmp 72) rfl v3.heap.size (.slice A5 np c5) p [0] rfl HMW51.out (some ⟨gl, 0, none⟩) 1 1 rfl rfl HZW51.out (by have := HLP.out; simp; omega) HXW51.out.size ?_
        intro vv W52 hm hg _
        have hx : Ext v3 W52 := HXW51.out.more hg (fun q hq => (HMW51.out.block q hq).1)
        obtain ⟨A6, c6, ev, hc6, hr6⟩ := hm.slice HSMZ.out
        rw [HLZ.out] at ev hc6
        subst ev
        have HXW52 := Lib.hid hx
        have HRW52 := Lib.hid hr6
        have HC6 := Lib.hid hc6
        have HTW52 := Lib.hid ((hg.block gt (row_lt HTW51.out) (fun h => HSW51.out gt h.symm rfl)).trans HTW51.out)
        clear hm hg hx hc6 hr6
        go_wp2
        refine ⟨fun _ => HXW52.out, ?_⟩
        refine plan_one rfl (fun K hK => ?_)
        go_wp2_with fail
        refine (HOZ.out W52 B2 c2 A6 c6 (HB3.out.ext HXW52.out) hc2 HRW52.out HC6.out).mono ?_
        rintro e W53 ⟨hx, B7, n7, c7, rfl, hn7, hc7, hr7⟩
        obtain rfl : 0 = n7 := hn7
        have HXW53 := Lib.hid (HXW52.out.trans hx)
        have HTW53 := Lib.hid (hx.row HTW52.out)
        clear hx hc7 hr7
        go_wp2
        refine ⟨fun _ => HXW53.out, ?_⟩
        refine plan_yes rfl (fun K hK => ?_); go_simp; refine ⟨_, fun _ _ => rfl, hK _ ?_⟩; clear hK K
        refine plan_yes rfl (fun K hK => ?_); go_simp; refine ⟨_, fun _ _ => rfl, hK _ ?_⟩; clear hK K
        refine plan_yes rfl (fun K hK => ?_); go_simp; refine ⟨_, fun _ _ => rfl, hK _ ?_⟩; clear hK K
        refine plan_one rfl (fun K hK => ?_)
        have hone : (#[.int .i64 0, .int .i64 0, .int .u64 0, .slice B7 0 c7] : Array Value).all (·.oneCell') = true := by simp [Value.oneCell']
        refine wpList_store_all rfl 32 (.tmp 17) (.tmp 75) rfl gt _ #[.int .i64 0, .int .i64 0, .int .u64 0, .slice B7 0 c7] rfl rfl HTW53.out tx_in16x rfl hone ?_
        have HXF := Lib.hid (HXW53.out.setRow (g := gt) HTG.out #[.int .i64 0, .int .i64 0, .int .u64 0, .slice B7 0 c7])
        generalize World.setRow W53 gt #[.int .i64 0, .int .i64 0, .int .u64 0, .slice B7 0 c7] = wf at HXF ⊢
        go_wp2
        refine ⟨fun _ => HXF.out, ?_⟩
        refine plan_one rfl (fun K hK => ?_)
        go_wp2
        refine ⟨fun _ => HXF.out, ?_⟩
        unfold wpPlan
        clear hone
        have HGE := Lib.hid (HXF.out.row HE3.out)
        have HGO := Lib.hid (HXF.out.row HO3.out)
        have HGT := Lib.hid (HXF.out.row HT3'.out)
        go_wp2_with (first | (with_reducible refine wpList_load_row rfl 32 (.tmp 15) rfl (w3.heap.size) rfl 32 #[.int .i64 k, .int .i64 t, .int .u64 (a : Int), .slice B3 nm c3] (0, 0) _ HGO.out Try.underlying32 rfl tx_in16x ?_) | (refine wpList_load_row_g (by first | rfl | go_simp) 32 (.tmp 15) rfl (w3.heap.size) rfl 32 #[.int .i64 k, .int .i64 t, .int .u64 (a : Int), .slice B3 nm c3] (0, 0) _ HGO.out Try.underlying32 rfl tx_in16x ?_) | (with_reducible refine wpList_load_row rfl 27 (.tmp 10) rfl (w.heap.size) rfl 27 #[.int .i64 k, .int .i64 t, .int .u64 (a : Int), .slice B nm cm] (0, 0) _ HGT.out Try.underlying27 rfl tx_in16 ?_) | (refine wpList_load_row_g (by first | rfl | go_simp) 27 (.tmp 10) rfl (w.heap.size) rfl 27 #[.int .i64 k, .int .i64 t, .int .u64 (a : Int), .slice B nm cm] (0, 0) _ HGT.out Try.underlying27 rfl tx_in16 ?_))
        refine (HS2.out wf B3 c3 (HXV.out.trans HXF.out) (HR3.out.ext HXF.out)).mono ?_
        rintro e wg ⟨rfl, hxg⟩
        have HXG := Lib.hid (HXV.out.trans (HXF.out.trans hxg))
        have HG' := Lib.hid (hxg.row HGE.out)
        have q1 := cell_of_row _ _ 1 _ _ _ HG'.out
        have q3 := cell_of_row _ _ 3 _ _ _ HG'.out
        have q4 := cell_of_row _ _ 4 _ _ _ HG'.out
        clear hxg
        go_wp2
        go_ret
        exact ⟨rfl, HXG.out⟩
    · skip
      have HXn := Lib.hid (show Ext v3 (World.alloc W39 (.cells #[.int .i64 0, .int .i64 0, .int .u64 0, .slice none 0 0] 32)) from Ext.alloc HXW39.out _)
      have HZn := Lib.hid (HZW39.out.ext ((Ext.refl W39).alloc (.cells #[.int .i64 0, .int .i64 0, .int .u64 0, .slice none 0 0] 32)))
      have HTn := Lib.hid (show (World.alloc W39 (.cells #[.int .i64 0, .int .i64 0, .int .u64 0, .slice none 0 0] 32)).heap[W39.heap.size]? = some (.cells #[.int .i64 0, .int .i64 0, .int .u64 0, .slice none 0 0] 32) from heap_alloc_new W39 _)
      have HGn := Lib.hid (show v3.heap.size ≤ W39.heap.size from HXW39.out.size)
      go_wp2
      refine ⟨fun _ => HXn.out, ?_⟩
      obtain ⟨gt, hgt⟩ : ∃ q, W39.heap.size = q := ⟨_, rfl⟩
      rw [hgt] at HTn HGn ⊢
      have HTG := HGn
      generalize World.alloc W39 _ = W54 at HXn HZn HTn ⊢
      have HXW54 := Lib.hid HXn.out
      have HZW54 := Lib.hid HZn.out
      have HTW54 := Lib.hid HTn.out
      clear HXn HZn HTn HGn hgt
      refine plan_one rfl (fun K hK => ?_)
      have HXn := Lib.hid (show Ext v3 (World.alloc W54 (.cells #[] 5)) from Ext.alloc HXW54.out _)
      have HMn := Lib.hid (show Mine (World.alloc W54 (.cells #[] 5)) v3.heap.size (.slice (some ⟨W54.heap.size, 0, none⟩) 0 0) [] from (mine_empty W54).down HXW54.out.size)
      have HZn := Lib.hid (HZW54.out.ext ((Ext.refl W54).alloc (.cells #[] 5)))
      have HTn := Lib.hid (((Ext.refl W54).alloc (.cells #[] 5)).row HTW54.out)
      have HSn := Lib.hid (show ∀ q, (Value.slice (some ⟨W54.heap.size, 0, none⟩) 0 0).ownBlock = some q → q ≠ gt from fun q h => by have h2 := row_lt HTW54.out; have h3 : W54.heap.size = q := Option.some.inj h; omega)
      go_wp2
      refine ⟨fun _ => HXn.out, ?_⟩
      obtain ⟨ge, hge⟩ : ∃ q, W54.heap.size = q := ⟨_, rfl⟩
      rw [hge] at HMn HSn ⊢
      generalize World.alloc W54 _ = W55 at HXn HMn HZn HTn ⊢
      have HXW55 := Lib.hid HXn.out
      have HMW55 := Lib.hid HMn.out
      have HZW55 := Lib.hid HZn.out
      have HTW55 := Lib.hid HTn.out
      have HSW55 := Lib.hid HSn.out
      clear HXn HMn HZn HTn HSn hge
      refine plan_one rfl (fun K hK => ?_)
      refine wpList_append_new rfl (.tmp 69) (.tmp 70) rfl v3.heap.size ge p rfl HMW55.out D np cp rfl HLP.out (HDV.out.ext HXW55.out) (by have := HLP.out; omega) HXW55.out.size ?_
      intro vv W56 hm hx hq
      obtain ⟨A5, c5, ev, hc5, hr5⟩ := hm.slice HSMP.out
      rw [HLP.out] at ev hc5
      subst ev
      have HXW56 := Lib.hid (HXW55.out.trans hx)
      have HMW56 := Lib.hid hm
      have HZW56 := Lib.hid (HZW55.out.ext hx)
      have HTW56 := Lib.hid (hx.row HTW55.out)
      have HSW56 := Lib.hid (show ∀ q, (Value.slice A5 np c5).ownBlock = some q → q ≠ gt from fun q h => by rcases hq q h with h1 | h1; exact HSW55.out q (by rw [h1]; rfl); have h2 := row_lt HTW55.out; omega)
      clear hm hx hq hc5 hr5
      go_wp2
      refine ⟨fun _ => HXW56.out, ?_⟩
      refine plan_one rfl (fun K hK => ?_)
      refine wpList_append_rd rfl (.tmp 71) (.tmp 72) rfl v3.heap.size (.slice A5 np c5) p [0] rfl HMW56.out (some ⟨gl, 0, none⟩) 1 1 rfl rfl HZW56.out (by have := HLP.out; simp; omega) HXW56.out.size ?_
      intro vv W57 hm hg _
      have hx : Ext v3 W57 := HXW56.out.more hg (fun q hq => (HMW56.out.block q hq).1)
      obtain ⟨A6, c6, ev, hc6, hr6⟩ := hm.slice HSMZ.out
      rw [HLZ.out] at ev hc6
      subst ev
      have HXW57 := Lib.hid hx
      have HRW57 := Lib.hid hr6
      have HC6 := Lib.hid hc6
      have HTW57 := Lib.hid ((hg.block gt (row_lt HTW56.out) (fun h => HSW56.out gt h.symm rfl)).trans HTW56.out)
      clear hm hg hx hc6 hr6
      go_wp2
      refine ⟨fun _ => HXW57.out, ?_⟩
      refine plan_one rfl (fun K hK => ?_)
      go_wp2_with fail
      refine (HOZ.out W57 B2 c2 A6 c6 (HB3.out.ext HXW57.out) hc2 HRW57.out HC6.out).mono ?_
      rintro e W58 ⟨hx, B7, n7, c7, rfl, hn7, hc7, hr7⟩
      obtain rfl : 0 = n7 := hn7
      have HXW58 := Lib.hid (HXW57.out.trans hx)
      have HTW58 := Lib.hid (hx.row HTW57.out)
      clear hx hc7 hr7
      go_wp2
      refine ⟨fun _ => HXW58.out, ?_⟩
      refine plan_yes rfl (fun K hK => ?_); go_simp; refine ⟨_, fun _ _ => rfl, hK _ ?_⟩; clear hK K
      refine plan_yes rfl (fun K hK => ?_); go_simp; refine ⟨_, fun _ _ => rfl, hK _ ?_⟩; clear hK K
      refine plan_yes rfl (fun K hK => ?_); go_simp; refine ⟨_, fun _ _ => rfl, hK _ ?_⟩; clear hK K
      refine plan_one rfl (fun K hK => ?_)
      have hone : (#[.int .i64 0, .int .i64 0, .int .u64 0, .slice B7 0 c7] : Array Value).all (·.oneCell') = true := by simp [Value.oneCell']
      refine wpList_store_all rfl 32 (.tmp 17) (.tmp 75) rfl gt _ #[.int .i64 0, .int .i64 0, .int .u64 0, .slice B7 0 c7] rfl rfl HTW58.out tx_in16x rfl hone ?_
      have HXF := Lib.hid (HXW58.out.setRow (g := gt) HTG.out #[.int .i64 0, .int .i64 0, .int .u64 0, .slice B7 0 c7])
      generalize World.setRow W58 gt #[.int .i64 0, .int .i64 0, .int .u64 0, .slice B7 0 c7] = wf at HXF ⊢
      go_wp2
      refine ⟨fun _ => HXF.out, ?_⟩
      refine plan_one rfl (fun K hK => ?_)
      go_wp2
      refine ⟨fun _ => HXF.out, ?_⟩
      unfold wpPlan
      clear hone
      have HGE := Lib.hid (HXF.out.row HE3.out)
      have HGO := Lib.hid (HXF.out.row HO3.out)
      have HGT := Lib.hid (HXF.out.row HT3'.out)
      go_wp2_with (first | (with_reducible refine wpList_load_row rfl 32 (.tmp 15) rfl (w3.heap.size) rfl 32 #[.int .i64 k, .int .i64 t, .int .u64 (a : Int), .slice B3 nm c3] (0, 0) _ HGO.out Try.underlying32 rfl tx_in16x ?_) | (refine wpList_load_row_g (by first | rfl | go_simp) 32 (.tmp 15) rfl (w3.heap.size) rfl 32 #[.int .i64 k, .int .i64 t, .int .u64 (a : Int), .slice B3 nm c3] (0, 0) _ HGO.out Try.underlying32 rfl tx_in16x ?_) | (with_reducible refine wpList_load_row rfl 27 (.tmp 10) rfl (w.heap.size) rfl 27 #[.int .i64 k, .int .i64 t, .int .u64 (a : Int), .slice B nm cm] (0, 0) _ HGT.out Try.underlying27 rfl tx_in16 ?_) | (refine wpList_load_row_g (by first | rfl | go_simp) 27 (.tmp 10) rfl (w.heap.size) rfl 27 #[.int .i64 k, .int .i64 t, .int .u64 (a : Int), .slice B nm cm] (0, 0) _ HGT.out Try.underlying27 rfl tx_in16 ?_))
      refine (HS2.out wf B3 c3 (HXV.out.trans HXF.out) (HR3.out.ext HXF.out)).mono ?_
      rintro e wg ⟨rfl, hxg⟩
      have HXG := Lib.hid (HXV.out.trans (HXF.out.trans hxg))
      have HG' := Lib.hid (hxg.row HGE.out)
      have q1 := cell_of_row _ _ 1 _ _ _ HG'.out
      have q3 := cell_of_row _ _ 3 _ _ _ HG'.out
      have q4 := cell_of_row _ _ 4 _ _ _ HG'.out
      clear hxg
      go_wp2
      go_ret
      exact ⟨rfl, HXG.out⟩
  · skip
    have HXn := Lib.hid (show Ext v3 (World.alloc W0 (.cells #[.int .i64 0, .int .i64 0, .int .u64 0, .slice none 0 0] 32)) from Ext.alloc HXW0.out _)
    have HTn := Lib.hid (show (World.alloc W0 (.cells #[.int .i64 0, .int .i64 0, .int .u64 0, .slice none 0 0] 32)).heap[W0.heap.size]? = some (.cells #[.int .i64 0, .int .i64 0, .int .u64 0, .slice none 0 0] 32) from heap_alloc_new W0 _)
    have HGn := Lib.hid (show v3.heap.size ≤ W0.heap.size from HXW0.out.size)
    go_wp2
    refine ⟨fun _ => HXn.out, ?_⟩
    obtain ⟨gt, hgt⟩ : ∃ q, W0.heap.size = q := ⟨_, rfl⟩
    rw [hgt] at HTn HGn ⊢
    have HTG := HGn
    generalize World.alloc W0 _ = W59 at HXn HTn ⊢
    have HXW59 := Lib.hid HXn.out
    have HTW59 := Lib.hid HTn.out
    clear HXn HTn HGn hgt
    refine plan_two rfl rfl (fun K hK => ?_) (fun K hK => ?_)
    · skip
      have HXn := Lib.hid (show Ext v3 (World.alloc W59 (.cells #[] 5)) from Ext.alloc HXW59.out _)
      have HMn := Lib.hid (show Mine (World.alloc W59 (.cells #[] 5)) v3.heap.size (.slice (some ⟨W59.heap.size, 0, none⟩) 0 0) [] from (mine_empty W59).down HXW59.out.size)
      have HTn := Lib.hid (((Ext.refl W59).alloc (.cells #[] 5)).row HTW59.out)
      have HSn := Lib.hid (show ∀ q, (Value.slice (some ⟨W59.heap.size, 0, none⟩) 0 0).ownBlock = some q → q ≠ gt from fun q h => by have h2 := row_lt HTW59.out; have h3 : W59.heap.size = q := Option.some.inj h; omega)
      go_wp2
      refine ⟨fun _ => HXn.out, ?_⟩
      obtain ⟨ge, hge⟩ : ∃ q, W59.heap.size = q := ⟨_, rfl⟩
      rw [hge] at HMn HSn ⊢
      generalize World.alloc W59 _ = W60 at HXn HMn HTn ⊢
      have HXW60 := Lib.hid HXn.out
      have HMW60 := Lib.hid HMn.out
      have HTW60 := Lib.hid HTn.out
      have HSW60 := Lib.hid HSn.out
      clear HXn HMn HTn HSn hge
      refine plan_two rfl rfl (fun K hK => ?_) (fun K hK => ?_)
      · skip
        refine wpList_append_new rfl (.tmp 69) (.tmp 70) rfl v3.heap.size ge p rfl HMW60.out D np cp rfl HLP.out (HDV.out.ext HXW60.out) (by have := HLP.out; omega) HXW60.out.size ?_
        intro vv W61 hm hx hq
        obtain ⟨A5, c5, ev, hc5, hr5⟩ := hm.slice HSMP.out
        rw [HLP.out] at ev hc5
        subst ev
        have HXW61 := Lib.hid (HXW60.out.trans hx)
        have HMW61 := Lib.hid hm
        have HTW61 := Lib.hid (hx.row HTW60.out)
        have HSW61 := Lib.hid (show ∀ q, (Value.slice A5 np c5).ownBlock = some q → q ≠ gt from fun q h => by rcases hq q h with h1 | h1; exact HSW60.out q (by rw [h1]; rfl); have h2 := row_lt HTW60.out; omega)
        clear hm hx hq hc5 hr5
        go_wp2
        refine ⟨fun _ => HXW61.out, ?_⟩
        refine plan_one rfl (fun K hK => ?_)
        have HXn := Lib.hid (show Ext v3 (World.alloc W61 (.cells #[.int .u8 0] 5)) from Ext.alloc HXW61.out _)
        have HMn := Lib.hid (mine_ext HMW61.out ((Ext.refl W61).alloc (.cells #[.int .u8 0] 5)))
        have HZn := Lib.hid (show Rd (World.alloc W61 (.cells #[.int .u8 0] 5)) (some ⟨W61.heap.size, 0, none⟩) [0] from rd_one W61 0 (by decide))
        have HTn := Lib.hid (((Ext.refl W61).alloc (.cells #[.int .u8 0] 5)).row HTW61.out)
        have HSn := HSW61
        go_wp2
        refine ⟨fun _ => HXn.out, ?_⟩
        obtain ⟨gl, hgl⟩ : ∃ q, W61.heap.size = q := ⟨_, rfl⟩
        rw [hgl] at HZn ⊢
        generalize World.alloc W61 _ = W62 at HXn HMn HZn HTn ⊢
        have HXW62 := Lib.hid HXn.out
        have HMW62 := Lib.hid HMn.out
        have HZW62 := Lib.hid HZn.out
        have HTW62 := Lib.hid HTn.out
        have HSW62 := Lib.hid HSn.out
        clear HXn HMn HZn HTn HSn hgl
        refine plan_one rfl (fun K hK => ?_)
        refine wpList_append_rd rfl (.tmp 71) (.tmp 72) rfl v3.heap.size (.slice A5 np c5) p [0] rfl HMW62.out (some ⟨gl, 0, none⟩) 1 1 rfl rfl HZW62.out (by have := HLP.out; simp; omega) HXW62.out.size ?_
        intro vv W63 hm hg _
        have hx : Ext v3 W63 := HXW62.out.more hg (fun q hq => (HMW62.out.block q hq).1)
        obtain ⟨A6, c6, ev, hc6, hr6⟩ := hm.slice HSMZ.out
        rw [HLZ.out] at ev hc6
        subst ev
        have HXW63 := Lib.hid hx
        have HRW63 := Lib.hid hr6
        have HC6 := Lib.hid hc6
        have HTW63 := Lib.hid ((hg.block gt (row_lt HTW62.out) (fun h => HSW62.out gt h.symm rfl)).trans HTW62.out)
        clear hm hg hx hc6 hr6
        go_wp2
        refine ⟨fun _ => HXW63.out, ?_⟩
        refine plan_one rfl (fun K hK => ?_)
        go_wp2_with fail
        refine (HOZ.out W63 B2 c2 A6 c6 (HB3.out.ext HXW63.out) hc2 HRW63.out HC6.out).mono ?_
        rintro e W64 ⟨hx, B7, n7, c7, rfl, hn7, hc7, hr7⟩
        obtain rfl : 0 = n7 := hn7
        have HXW64 := Lib.hid (HXW63.out.trans hx)
        have HTW64 := Lib.hid (hx.row HTW63.out)
        clear hx hc7 hr7
        go_wp2
        refine ⟨fun _ => HXW64.out, ?_⟩
        refine plan_yes rfl (fun K hK => ?_); go_simp; refine ⟨_, fun _ _ => rfl, hK _ ?_⟩; clear hK K
        refine plan_yes rfl (fun K hK => ?_); go_simp; refine ⟨_, fun _ _ => rfl, hK _ ?_⟩; clear hK K
        refine plan_yes rfl (fun K hK => ?_); go_simp; refine ⟨_, fun _ _ => rfl, hK _ ?_⟩; clear hK K
        refine plan_one rfl (fun K hK => ?_)
        have hone : (#[.int .i64 0, .int .i64 0, .int .u64 0, .slice B7 0 c7] : Array Value).all (·.oneCell') = true := by simp [Value.oneCell']
        refine wpList_store_all rfl 32 (.tmp 17) (.tmp 75) rfl gt _ #[.int .i64 0, .int .i64 0, .int .u64 0, .slice B7 0 c7] rfl rfl HTW64.out tx_in16x rfl hone ?_
        have HXF := Lib.hid (HXW64.out.setRow (g := gt) HTG.out #[.int .i64 0, .int .i64 0, .int .u64 0, .slice B7 0 c7])
        generalize World.setRow W64 gt #[.int .i64 0, .int .i64 0, .int .u64 0, .slice B7 0 c7] = wf at HXF ⊢
        go_wp2
        refine ⟨fun _ => HXF.out, ?_⟩
        refine plan_one rfl (fun K hK => ?_)
        go_wp2
        refine ⟨fun _ => HXF.out, ?_⟩
        unfold wpPlan
        clear hone
        have HGE := Lib.hid (HXF.out.row HE3.out)
        have HGO := Lib.hid (HXF.out.row HO3.out)
        have HGT := Lib.hid (HXF.out.row HT3'.out)
        go_wp2_with (first | (with_reducible refine wpList_load_row rfl 32 (.tmp 15) rfl (w3.heap.size) rfl 32 #[.int .i64 k, .int .i64 t, .int .u64 (a : Int), .slice B3 nm c3] (0, 0) _ HGO.out Try.underlying32 rfl tx_in16x ?_) | (refine wpList_load_row_g (by first | rfl | go_simp) 32 (.tmp 15) rfl (w3.heap.size) rfl 32 #[.int .i64 k, .int .i64 t, .int .u64 (a : Int), .slice B3 nm c3] (0, 0) _ HGO.out Try.underlying32 rfl tx_in16x ?_) | (with_reducible refine wpList_load_row rfl 27 (.tmp 10) rfl (w.heap.size) rfl 27 #[.int .i64 k, .int .i64 t, .int .u64 (a : Int), .slice B nm cm] (0, 0) _ HGT.out Try.underlying27 rfl tx_in16 ?_) | (refine wpList_load_row_g (by first | rfl | go_simp) 27 (.tmp 10) rfl (w.heap.size) rfl 27 #[.int .i64 k, .int .i64 t, .int .u64 (a : Int), .slice B nm cm] (0, 0) _ HGT.out Try.underlying27 rfl tx_in16 ?_))
        refine (HS2.out wf B3 c3 (HXV.out.trans HXF.out) (HR3.out.ext HXF.out)).mono ?_
        rintro e wg ⟨rfl, hxg⟩
        have HXG := Lib.hid (HXV.out.trans (HXF.out.trans hxg))
        have HG' := Lib.hid (hxg.row HGE.out)
        have q1 := cell_of_row _ _ 1 _ _ _ HG'.out
        have q3 := cell_of_row _ _ 3 _ _ _ HG'.out
        have q4 := cell_of_row _ _ 4 _ _ _ HG'.out
        clear hxg
        go_wp2
        go_ret
        exact ⟨rfl, HXG.out⟩
      · skip
        have HXn := Lib.hid (show Ext v3 (World.alloc W60 (.cells #[.int .u8 0] 5)) from Ext.alloc HXW60.out _)
        have HMn := Lib.hid (mine_ext HMW60.out ((Ext.refl W60).alloc (.cells #[.int .u8 0] 5)))
        have HZn := Lib.hid (show Rd (World.alloc W60 (.cells #[.int .u8 0] 5)) (some ⟨W60.heap.size, 0, none⟩) [0] from rd_one W60 0 (by decide))
        have HTn := Lib.hid (((Ext.refl W60).alloc (.cells #[.int .u8 0] 5)).row HTW60.out)
        have HSn := HSW60
        go_wp2
        refine ⟨fun _ => HXn.out, ?_⟩
        obtain ⟨gl, hgl⟩ : ∃ q, W60.heap.size = q := ⟨_, rfl⟩
        rw [hgl] at HZn ⊢
        generalize World.alloc W60 _ = W65 at HXn HMn HZn HTn ⊢
        have HXW65 := Lib.hid HXn.out
        have HMW65 := Lib.hid HMn.out
        have HZW65 := Lib.hid HZn.out
        have HTW65 := Lib.hid HTn.out
        have HSW65 := Lib.hid HSn.out
        clear HXn HMn HZn HTn HSn hgl
        refine plan_one rfl (fun K hK => ?_)
        refine wpList_append_new rfl (.tmp 69) (.tmp 70) rfl v3.heap.size ge p rfl HMW65.out D np cp rfl HLP.out (HDV.out.ext HXW65.out) (by have := HLP.out; omega) HXW65.out.size ?_
        intro vv W66 hm hx hq
        obtain ⟨A5, c5, ev, hc5, hr5⟩ := hm.slice HSMP.out
        rw [HLP.out] at ev hc5
        subst ev
        have HXW66 := Lib.hid (HXW65.out.trans hx)
        have HMW66 := Lib.hid hm
        have HZW66 := Lib.hid (HZW65.out.ext hx)
        have HTW66 := Lib.hid (hx.row HTW65.out)
        have HSW66 := Lib.hid (show ∀ q, (Value.slice A5 np c5).ownBlock = some q → q ≠ gt from fun q h => by rcases hq q h with h1 | h1; exact HSW65.out q (by rw [h1]; rfl); have h2 := row_lt HTW65.out; omega)
        clear hm hx hq hc5 hr5
        go_wp2
        refine ⟨fun _ => HXW66.out, ?_⟩
        refine plan_one rfl (fun K hK => ?_)
        refine wpList_append_rd rfl (.tmp 71) (.tmp 72) rfl v3.heap.size (.slice A5 np c5) p [0] rfl HMW66.out (some ⟨gl, 0, none⟩) 1 1 rfl rfl HZW66.out (by have := HLP.out; simp; omega) HXW66.out.size ?_
        intro vv W67 hm hg _
        have hx : Ext v3 W67 := HXW66.out.more hg (fun q hq => (HMW66.out.block q hq).1)
        obtain ⟨A6, c6, ev, hc6, hr6⟩ := hm.slice HSMZ.out
        rw [HLZ.out] at ev hc6
        subst ev
        have HXW67 := Lib.hid hx
        have HRW67 := Lib.hid hr6
        have HC6 := Lib.hid hc6
        have HTW67 := Lib.hid ((hg.block gt (row_lt HTW66.out) (fun h => HSW66.out gt h.symm rfl)).trans HTW66.out)
        clear hm hg hx hc6 hr6
        go_wp2
        refine ⟨fun _ => HXW67.out, ?_⟩
        refine plan_one rfl (fun K hK => ?_)
        go_wp2_with fail
        refine (HOZ.out W67 B2 c2 A6 c6 (HB3.out.ext HXW67.out) hc2 HRW67.out HC6.out).mono ?_
        rintro e W68 ⟨hx, B7, n7, c7, rfl, hn7, hc7, hr7⟩
        obtain rfl : 0 = n7 := hn7
        have HXW68 := Lib.hid (HXW67.out.trans hx)
        have HTW68 := Lib.hid (hx.row HTW67.out)
        clear hx hc7 hr7
        go_wp2
        refine ⟨fun _ => HXW68.out, ?_⟩
        refine plan_yes rfl (fun K hK => ?_); go_simp; refine ⟨_, fun _ _ => rfl, hK _ ?_⟩; clear hK K
        refine plan_yes rfl (fun K hK => ?_); go_simp; refine ⟨_, fun _ _ => rfl, hK _ ?_⟩; clear hK K
        refine plan_yes rfl (fun K hK => ?_); go_simp; refine ⟨_, fun _ _ => rfl, hK _ ?_⟩; clear hK K
        refine plan_one rfl (fun K hK => ?_)
        have hone : (#[.int .i64 0, .int .i64 0, .int .u64 0, .slice B7 0 c7] : Array Value).all (·.oneCell') = true := by simp [Value.oneCell']
        refine wpList_store_all rfl 32 (.tmp 17) (.tmp 75) rfl gt _ #[.int .i64 0, .int .i64 0, .int .u64 0, .slice B7 0 c7] rfl rfl HTW68.out tx_in16x rfl hone ?_
        have HXF := Lib.hid (HXW68.out.setRow (g := gt) HTG.out #[.int .i64 0, .int .i64 0, .int .u64 0, .slice B7 0 c7])
        generalize World.setRow W68 gt #[.int .i64 0, .int .i64 0, .int .u64 0, .slice B7 0 c7] = wf at HXF ⊢
        go_wp2
        refine ⟨fun _ => HXF.out, ?_⟩
        refine plan_one rfl (fun K hK => ?_)
        go_wp2
        refine ⟨fun _ => HXF.out, ?_⟩
        unfold wpPlan
        clear hone
        have HGE := Lib.hid (HXF.out.row HE3.out)
        have HGO := Lib.hid (HXF.out.row HO3.out)
        have HGT := Lib.hid (HXF.out.row HT3'.out)
        go_wp2_with (first | (with_reducible refine wpList_load_row rfl 32 (.tmp 15) rfl (w3.heap.size) rfl 32 #[.int .i64 k, .int .i64 t, .int .u64 (a : Int), .slice B3 nm c3] (0, 0) _ HGO.out Try.underlying32 rfl tx_in16x ?_) | (refine wpList_load_row_g (by first | rfl | go_simp) 32 (.tmp 15) rfl (w3.heap.size) rfl 32 #[.int .i64 k, .int .i64 t, .int .u64 (a : Int), .slice B3 nm c3] (0, 0) _ HGO.out Try.underlying32 rfl tx_in16x ?_) | (with_reducible refine wpList_load_row rfl 27 (.tmp 10) rfl (w.heap.size) rfl 27 #[.int .i64 k, .int .i64 t, .int .u64 (a : Int), .slice B nm cm] (0, 0) _ HGT.out Try.underlying27 rfl tx_in16 ?_) | (refine wpList_load_row_g (by first | rfl | go_simp) 27 (.tmp 10) rfl (w.heap.size) rfl 27 #[.int .i64 k, .int .i64 t, .int .u64 (a : Int), .slice B nm cm] (0, 0) _ HGT.out Try.underlying27 rfl tx_in16 ?_))
        refine (HS2.out wf B3 c3 (HXV.out.trans HXF.out) (HR3.out.ext HXF.out)).mono ?_
        rintro e wg ⟨rfl, hxg⟩
        have HXG := Lib.hid (HXV.out.trans (HXF.out.trans hxg))
        have HG' := Lib.hid (hxg.row HGE.out)
        have q1 := cell_of_row _ _ 1 _ _ _ HG'.out
        have q3 := cell_of_row _ _ 3 _ _ _ HG'.out
        have q4 := cell_of_row _ _ 4 _ _ _ HG'.out
        clear hxg
        go_wp2
        go_ret
        exact ⟨rfl, HXG.out⟩
    · skip
      have HXn := Lib.hid (show Ext v3 (World.alloc W59 (.cells #[.int .u8 0] 5)) from Ext.alloc HXW59.out _)
      have HZn := Lib.hid (show Rd (World.alloc W59 (.cells #[.int .u8 0] 5)) (some ⟨W59.heap.size, 0, none⟩) [0] from rd_one W59 0 (by decide))
      have HTn := Lib.hid (((Ext.refl W59).alloc (.cells #[.int .u8 0] 5)).row HTW59.out)
      go_wp2
      refine ⟨fun _ => HXn.out, ?_⟩
      obtain ⟨gl, hgl⟩ : ∃ q, W59.heap.size = q := ⟨_, rfl⟩
      rw [hgl] at HZn ⊢
      generalize World.alloc W59 _ = W69 at HXn HZn HTn ⊢
      have HXW69 := Lib.hid HXn.out
      have HZW69 := Lib.hid HZn.out
      have HTW69 := Lib.hid HTn.out
      clear HXn HZn HTn hgl
      refine plan_one rfl (fun K hK => ?_)
      have HXn := Lib.hid (show Ext v3 (World.alloc W69 (.cells #[] 5)) from Ext.alloc HXW69.out _)
      have HMn := Lib.hid (show Mine (World.alloc W69 (.cells #[] 5)) v3.heap.size (.slice (some ⟨W69.heap.size, 0, none⟩) 0 0) [] from (mine_empty W69).down HXW69.out.size)
      have HZn := Lib.hid (HZW69.out.ext ((Ext.refl W69).alloc (.cells #[] 5)))
      have HTn := Lib.hid (((Ext.refl W69).alloc (.cells #[] 5)).row HTW69.out)
      have HSn := Lib.hid (show ∀ q, (Value.slice (some ⟨W69.heap.size, 0, none⟩) 0 0).ownBlock = some q → q ≠ gt from fun q h => by have h2 := row_lt HTW69.out; have h3 : W69.heap.size = q := Option.some.inj h; omega)
      go_wp2
      refine ⟨fun _ => HXn.out, ?_⟩
      obtain ⟨ge, hge⟩ : ∃ q, W69.heap.size = q := ⟨_, rfl⟩
      rw [hge] at HMn HSn ⊢
      generalize World.alloc W69 _ = W70 at HXn HMn HZn HTn ⊢
      have HXW70 := Lib.hid HXn.out
      have HMW70 := Lib.hid HMn.out
      have HZW70 := Lib.hid HZn.out
      have HTW70 := Lib.hid HTn.out
      have HSW70 := Lib.hid HSn.out
      clear HXn HMn HZn HTn HSn hge
      refine plan_one rfl (fun K hK => ?_)
      refine wpList_append_new rfl (.tmp 69) (.tmp 70) rfl v3.heap.size ge p rfl HMW70.out D np cp rfl HLP.out (HDV.out.ext HXW70.out) (by have := HLP.out; omega) HXW70.out.size ?_
      intro vv W71 hm hx hq
      obtain ⟨A5, c5, ev, hc5, hr5⟩ := hm.slice HSMP.out
      rw [HLP.out] at ev hc5
      subst ev
      have HXW71 := Lib.hid (HXW70.out.trans hx)
      have HMW71 := Lib.hid hm
      have HZW71 := Lib.hid (HZW70.out.ext hx)
      have HTW71 := Lib.hid (hx.row HTW70.out)
      have HSW71 := Lib.hid (show ∀ q, (Value.slice A5 np c5).ownBlock = some q → q ≠ gt from fun q h => by rcases hq q h with h1 | h1; exact HSW70.out q (by rw [h1]; rfl); have h2 := row_lt HTW70.out; omega)
      clear hm hx hq hc5 hr5
      go_wp2
      refine ⟨fun _ => HXW71.out, ?_⟩
      refine plan_one rfl (fun K hK => ?_)
      refine wpList_append_rd rfl (.tmp 71) (.tmp 72) rfl v3.heap.size (.slice A5 np c5) p [0] rfl HMW71.out (some ⟨gl, 0, none⟩) 1 1 rfl rfl HZW71.out (by have := HLP.out; simp; omega) HXW71.out.size ?_
      intro vv W72 hm hg _
      have hx : Ext v3 W72 := HXW71.out.more hg (fun q hq => (HMW71.out.block q hq).1)
      obtain ⟨A6, c6, ev, hc6, hr6⟩ := hm.slice HSMZ.out
      rw [HLZ.out] at ev hc6
      subst ev
      have HXW72 := Lib.hid hx
      have HRW72 := Lib.hid hr6
      have HC6 := Lib.hid hc6
      have HTW72 := Lib.hid ((hg.block gt (row_lt HTW71.out) (fun h => HSW71.out gt h.symm rfl)).trans HTW71.out)
      clear hm hg hx hc6 hr6
      go_wp2
      refine ⟨fun _ => HXW72.out, ?_⟩
      refine plan_one rfl (fun K hK => ?_)
      go_wp2_with fail
      refine (HOZ.out W72 B2 c2 A6 c6 (HB3.out.ext HXW72.out) hc2 HRW72.out HC6.out).mono ?_
      rintro e W73 ⟨hx, B7, n7, c7, rfl, hn7, hc7, hr7⟩
      obtain rfl : 0 = n7 := hn7
      have HXW73 := Lib.hid (HXW72.out.trans hx)
      have HTW73 := Lib.hid (hx.row HTW72.out)
      clear hx hc7 hr7
      go_wp2
      refine ⟨fun _ => HXW73.out, ?_⟩
      refine plan_yes rfl (fun K hK => ?_); go_simp; refine ⟨_, fun _ _ => rfl, hK _ ?_⟩; clear hK K
      refine plan_yes rfl (fun K hK => ?_); go_simp; refine ⟨_, fun _ _ => rfl, hK _ ?_⟩; clear hK K
      refine plan_yes rfl (fun K hK => ?_); go_simp; refine ⟨_, fun _ _ => rfl, hK _ ?_⟩; clear hK K
      refine plan_one rfl (fun K hK => ?_)
      have hone : (#[.int .i64 0, .int .i64 0, .int .u64 0, .slice B7 0 c7] : Array Value).all (·.oneCell') = true := by simp [Value.oneCell']
      refine wpList_store_all rfl 32 (.tmp 17) (.tmp 75) rfl gt _ #[.int .i64 0, .int .i64 0, .int .u64 0, .slice B7 0 c7] rfl rfl HTW73.out tx_in16x rfl hone ?_
      have HXF := Lib.hid (HXW73.out.setRow (g := gt) HTG.out #[.int .i64 0, .int .i64 0, .int .u64 0, .slice B7 0 c7])
      generalize World.setRow W73 gt #[.int .i64 0, .int .i64 0, .int .u64 0, .slice B7 0 c7] = wf at HXF ⊢
      go_wp2
      refine ⟨fun _ => HXF.out, ?_⟩
      refine plan_one rfl (fun K hK => ?_)
      go_wp2
      refine ⟨fun _ => HXF.out, ?_⟩
      unfold wpPlan
      clear hone
      have HGE := Lib.hid (HXF.out.row HE3.out)
      have HGO := Lib.hid (HXF.out.row HO3.out)
      have HGT := Lib.hid (HXF.out.row HT3'.out)
      go_wp2_with (first | (with_reducible refine wpList_load_row rfl 32 (.tmp 15) rfl (w3.heap.size) rfl 32 #[.int .i64 k, .int .i64 t, .int .u64 (a : Int), .slice B3 nm c3] (0, 0) _ HGO.out Try.underlying32 rfl tx_in16x ?_) | (refine wpList_load_row_g (by first | rfl | go_simp) 32 (.tmp 15) rfl (w3.heap.size) rfl 32 #[.int .i64 k, .int .i64 t, .int .u64 (a : Int), .slice B3 nm c3] (0, 0) _ HGO.out Try.underlying32 rfl tx_in16x ?_) | (with_reducible refine wpList_load_row rfl 27 (.tmp 10) rfl (w.heap.size) rfl 27 #[.int .i64 k, .int .i64 t, .int .u64 (a : Int), .slice B nm cm] (0, 0) _ HGT.out Try.underlying27 rfl tx_in16 ?_) | (refine wpList_load_row_g (by first | rfl | go_simp) 27 (.tmp 10) rfl (w.heap.size) rfl 27 #[.int .i64 k, .int .i64 t, .int .u64 (a : Int), .slice B nm cm] (0, 0) _ HGT.out Try.underlying27 rfl tx_in16 ?_))
      refine (HS2.out wf B3 c3 (HXV.out.trans HXF.out) (HR3.out.ext HXF.out)).mono ?_
      rintro e wg ⟨rfl, hxg⟩
      have HXG := Lib.hid (HXV.out.trans (HXF.out.trans hxg))
      have HG' := Lib.hid (hxg.row HGE.out)
      have q1 := cell_of_row _ _ 1 _ _ _ HG'.out
      have q3 := cell_of_row _ _ 3 _ _ _ HG'.out
      have q4 := cell_of_row _ _ 4 _ _ _ HG'.out
      clear hxg
      go_wp2
      go_ret
      exact ⟨rfl, HXG.out⟩
end Go.Proofs.Ytjifionpblpfoaa

/-
  The code's own Check of layer 16. Conditions: none.
-/
namespace Go.Proofs.Ytjifionpblpfoaa
open Go.RowKit
open Pol (co Sm)

set_option maxHeartbeats 1600000 in
theorem ev_check (s : Int) (n f x k c : Nat) (b : List Nat) (A : Option Addr) (w : World) (hk : b.length = k) :
    Calls Try.prog 13 #[evv s n f x A k c] w (Tells (.int .i64 ((Ev.chk ⟨s, n, f, x, b⟩ : Nat) : Int)) w) := by
  unfold Ev.chk
  dsimp only
  rw [hk]
  clear hk
  by_cases h1 : s < 0
  · have d1 : decide (s < 0) = true := decide_eq_true h1
    rw [if_pos (.inl h1)]
    go_enter Try.func13, Try.ntmps13
    go_wp2
    go_ret
    exact ⟨rfl, (Ext.refl _).alloc _⟩
  have d1 : decide (s < 0) = false := decide_eq_false h1
  by_cases h2 : 6 ≤ s
  · have d2 : decide (s ≥ 6) = true := decide_eq_true h2
    have d2' : decide (6 ≤ s) = true := decide_eq_true h2
    rw [if_pos (.inr h2)]
    go_enter Try.func13, Try.ntmps13
    go_wp2
    go_ret
    exact ⟨rfl, (Ext.refl _).alloc _⟩
  have d2 : decide (s ≥ 6) = false := decide_eq_false h2
  have d2' : decide (6 ≤ s) = false := decide_eq_false h2
  rw [if_neg (by omega)]
  by_cases h3 : 1152921504606846976 < f
  · have d3 : decide ((f : Int) > 1152921504606846976) = true := decide_eq_true (by omega)
    have d3' : decide ((1152921504606846976 : Int) < (f : Int)) = true := decide_eq_true (by omega)
    rw [if_pos h3]
    go_enter Try.func13, Try.ntmps13
    go_wp2
    go_ret
    exact ⟨rfl, (Ext.refl _).alloc _⟩
  have d3 : decide ((f : Int) > 1152921504606846976) = false := decide_eq_false (by omega)
  have d3' : decide ((1152921504606846976 : Int) < (f : Int)) = false := decide_eq_false (by omega)
  rw [if_neg h3]
  by_cases h4 : k < 1
  · have d4 : decide ((k : Int) < 1) = true := decide_eq_true (by omega)
    rw [if_pos (.inl h4)]
    go_enter Try.func13, Try.ntmps13
    go_wp2
    go_ret
    exact ⟨rfl, (Ext.refl _).alloc _⟩
  have d4 : decide ((k : Int) < 1) = false := decide_eq_false (by omega)
  by_cases h5 : 32 < k
  · have d5 : decide ((k : Int) > 32) = true := decide_eq_true (by omega)
    have d5' : decide ((32 : Int) < (k : Int)) = true := decide_eq_true (by omega)
    rw [if_pos (.inr h5)]
    go_enter Try.func13, Try.ntmps13
    go_wp2
    go_ret
    exact ⟨rfl, (Ext.refl _).alloc _⟩
  have d5 : decide ((k : Int) > 32) = false := decide_eq_false (by omega)
  have d5' : decide ((32 : Int) < (k : Int)) = false := decide_eq_false (by omega)
  rw [if_neg (by omega)]
  go_enter Try.func13, Try.ntmps13
  go_wp2
  go_ret
  exact ⟨rfl, (Ext.refl _).alloc _⟩
end Go.Proofs.Ytjifionpblpfoaa

/-
  The builtin copy of bytes to the front of a block of the call's own. Conditions: the block is at least as long.
-/
namespace Go.Proofs.Ytjifionpblpfoaa
open Go.RowKit
open Pol (co Sm)

/-- A copy of bytes to the front of a block of the call's own. -/
theorem splice_bt (n : Nat) (f : Nat → Nat) (a : List Nat) (h : a.length ≤ n) : (splice (bt n f).toList 0 (bv a)).toArray = bt n (fun i => if i < a.length then co a i else f i) := by
  apply Array.ext
  · simp [splice, bv_len, bt_size]; omega
  · intro i h1 h2
    have hi : i < n := by rwa [bt_size] at h2
    rw [← Option.some_inj, ← Array.getElem?_eq_getElem, ← Array.getElem?_eq_getElem, bt_at _ _ _ hi]
    simp only [splice, List.take_zero, List.nil_append, Nat.zero_add, List.getElem?_toArray, bv_len]
    by_cases hia : i < a.length
    · rw [List.getElem?_append_left (by rw [bv_len]; exact hia), bv_at a i hia, if_pos hia]
    · rw [List.getElem?_append_right (by rw [bv_len]; omega), List.getElem?_drop, bv_len, if_neg hia, show a.length + (i - a.length) = i from by omega]
      have := bt_at n f i hi
      simpa using this
theorem wpList_copy_blk {ops : Array Oper} {rest : List Oper} {o : Oper} {act : Act} {w : World} {Q : Exit → Act → World → Prop} (hgd : o.guard = none) (d s : Operand)
    (ho : o.op = .call { callee := .builtin .copy, args := #[d, s], argTypes := #[23, 23] }) (g n dc : Nat) (f : Nat → Nat) (hd : act.eval d = .slice (some ⟨g, 0, none⟩) n dc) (hb : Blk w g n f)
    (A : Option Addr) (a : List Nat) (k c : Nat) (hs : act.eval s = .slice A k c) (hk : a.length = k) (hr : Rd w A a) (hn : k ≤ n) (w0 : World) (hx : Ext w0 w) (hg : w0.heap.size ≤ g)
    (h : ∀ w', Hid (Blk w' g n (fun i => if i < a.length then co a i else f i)) → Ext w0 w' → wpList Try.prog ops Q rest (act.put o.dst (goInt k)) w') :
    wpList Try.prog ops Q (o :: rest) act w := by
  subst hk
  refine wpList_copy_splice hgd d s 23 23 ho 5 Try.underlying23 (by kernel_rfl) _ A n dc a.length c hd hs g 0 (bt n f).toList 5 (by unfold Blk at hb; simpa using hb) (bv a) (by rw [bv_len]; exact (Nat.min_eq_left hn).symm)
    (fun hp => ⟨rfl, ?_⟩) (by simp [bv_len, bt_size]; omega) (bv_one a) w0.heap.size w0 hx.below hg ?_
  · rw [bv_len] at hp
    obtain ⟨b, o', e, hc⟩ := hr.addr hp
    refine ⟨_, e, fun j v hj => ?_⟩
    have hj' : j < a.length := by
      have := (List.getElem?_eq_some_iff.1 hj).1
      rwa [bv_len] at this
    rw [addr_add, hc j hj', ← bv_at a j hj', hj]
  · intro w' HG hB
    rw [bv_len]
    refine h w' (Lib.hid ?_) ⟨hB⟩
    unfold Blk
    rw [HG.out, splice_bt n f a hn]
end Go.Proofs.Ytjifionpblpfoaa

/-
  What Fill of layer 6 does. Conditions: no more than 2^12 bytes.
-/
namespace Go.Proofs.Ytjifionpblpfoaa
open Go.RowKit
open Pol (co Sm)

/-- A copy of bytes somewhere into a block of the call's own. -/
theorem splice_at (n off : Nat) (f : Nat → Nat) (a : List Nat) (h : off + a.length ≤ n) : (splice (bt n f).toList off (bv a)).toArray = bt n (fun i => if off ≤ i ∧ i < off + a.length then co a (i - off) else f i) := by
  apply Array.ext
  · simp [splice, bv_len, bt_size]; omega
  · intro i h1 h2
    have hi : i < n := by rwa [bt_size] at h2
    have hl : (bt n f).toList.length = n := by simp [bt_size]
    have hb : ∀ j, j < n → (bt n f).toList[j]? = some (.int .u8 ((f j : Nat) : Int)) := fun j hj => by simpa using bt_at n f j hj
    rw [← Option.some_inj, ← Array.getElem?_eq_getElem, ← Array.getElem?_eq_getElem, bt_at _ _ _ hi]
    simp only [splice, List.getElem?_toArray, bv_len]
    by_cases h1 : i < off
    · rw [List.getElem?_append_left (by rw [List.length_take, hl]; omega), List.getElem?_take, if_pos h1, if_neg (by omega), hb i hi]
    · rw [List.getElem?_append_right (by rw [List.length_take, hl]; omega), List.length_take, hl, Nat.min_eq_left (by omega)]
      by_cases hia : i - off < a.length
      · rw [List.getElem?_append_left (by rw [bv_len]; exact hia), bv_at a _ hia, if_pos (by omega)]
      · rw [List.getElem?_append_right (by rw [bv_len]; omega), List.getElem?_drop, bv_len, if_neg (by omega), show off + a.length + (i - off - a.length) = i from by omega, hb i hi]
theorem wpList_copy_at {ops : Array Oper} {rest : List Oper} {o : Oper} {act : Act} {w : World} {Q : Exit → Act → World → Prop} (hgd : o.guard = none) (d s : Operand)
    (ho : o.op = .call { callee := .builtin .copy, args := #[d, s], argTypes := #[23, 23] }) (g n off dl dc : Nat) (X : Option Addr) (f : Nat → Nat) (hd : act.eval d = .slice X dl dc) (hb : Blk w g n f)
    (A : Option Addr) (a : List Nat) (k c : Nat) (hs : act.eval s = .slice A k c) (hk : a.length = k) (hr : Rd w A a) (hX : 0 < k → X = some ⟨g, off, none⟩) (hdl : k ≤ dl) (hn : off + k ≤ n) (w0 : World) (hx : Ext w0 w) (hg : w0.heap.size ≤ g)
    (h : ∀ w', Hid (Blk w' g n (fun i => if off ≤ i ∧ i < off + k then co a (i - off) else f i)) → Ext w0 w' → wpList Try.prog ops Q rest (act.put o.dst (goInt k)) w') :
    wpList Try.prog ops Q (o :: rest) act w := by
  subst hk
  refine wpList_copy_splice hgd d s 23 23 ho 5 Try.underlying23 (by kernel_rfl) X A dl dc a.length c hd hs g off (bt n f).toList 5 (by unfold Blk at hb; simpa using hb) (bv a) (by rw [bv_len]; exact (Nat.min_eq_left hdl).symm)
    (fun hp => ⟨hX (by rwa [bv_len] at hp), ?_⟩) (by simp [bv_len, bt_size]; omega) (bv_one a) w0.heap.size w0 hx.below hg ?_
  · rw [bv_len] at hp
    obtain ⟨b, o', e, hc⟩ := hr.addr hp
    refine ⟨_, e, fun j v hj => ?_⟩
    have hj' : j < a.length := by
      have := (List.getElem?_eq_some_iff.1 hj).1
      rwa [bv_len] at this
    rw [addr_add, hc j hj', ← bv_at a j hj', hj]
  · intro w' HG hB
    rw [bv_len]
    refine h w' (Lib.hid ?_) ⟨hB⟩
    unfold Blk
    rw [HG.out, splice_at n off f a hn]
set_option maxHeartbeats 800000 in
theorem j_fill_no (n : Nat) (m : Int) (A : Option Addr) (ca : Nat) (w : World) (h : ¬ FillOk n m) :
    Calls Try.prog 15 #[.slice A n ca, .int .i64 m] w (GivesE [] 6 w) := by
  unfold FillOk at h
  by_cases h1 : m < 1
  · have d1 : decide (m < 1) = true := decide_eq_true h1
    clear h
    go_enter Try.func15, Try.ntmps15
    go_wp2
    go_ret2
    exact ⟨_, rfl, sl_none _, Ext.refl w⟩
  have d1 : decide (m < 1) = false := decide_eq_false h1
  by_cases h2 : 256 < m
  · have d2 : decide (256 < m) = true := decide_eq_true h2
    clear h
    go_enter Try.func15, Try.ntmps15
    go_wp2
    go_ret2
    exact ⟨_, rfl, sl_none _, Ext.refl w⟩
  have d2 : decide (256 < m) = false := decide_eq_false h2
  have d3 : decide (m ≤ (n : Int)) = true := decide_eq_true (by omega)
  clear h
  go_enter Try.func15, Try.ntmps15
  go_wp2
  go_ret2
  exact ⟨_, rfl, sl_none _, Ext.refl w⟩

set_option maxHeartbeats 1600000 in
set_option maxRecDepth 100000 in
theorem j_fill (t : List Nat) (m : Nat) (A : Option Addr) (ca : Nat) (w : World) (hr : Rd w A t) (h : FillOk t.length (m : Int)) :
    Calls Try.prog 15 #[.slice A t.length ca, .int .i64 (m : Int)] w (GivesE (fil t m) 0 w) := by
  obtain ⟨h1, h2, h3⟩ := h
  have HFS := Lib.hid (fil_sm (m := m) hr.1 (by omega))
  have HFL := Lib.hid (fil_len t m)
  have HCO := Lib.hid (fun i (hi : t.length ≤ i) => Pol.co_out t i hi)
  have HFE := Lib.hid (show fil t m = tab m (fun i => if i = 0 then t.length else co t (i - 1)) from rfl)
  have HR := Lib.hid hr
  clear hr
  generalize hn : t.length = n at *
  have HN := Lib.hid hn
  clear hn
  have d1 : decide ((m : Int) < 1) = false := decide_eq_false (by omega)
  have d2 : decide (256 < (m : Int)) = false := decide_eq_false (by omega)
  have d3 : decide (m ≤ n) = false := decide_eq_false (by omega)
  have ew : IntKind.u8.wrap (n : Int) = (n : Int) := IntWalk.u8_in _ (by omega)
  have hmk := run_make_u8 m (by omega) w
  have hm0 : (0 : Int) < (m : Int) := by omega
  obtain ⟨X, hX, _, hXa⟩ := run_rest_u8 (some ⟨w.heap.size, 0, none⟩) m m 1 (by omega) (Nat.le_refl _)
  have hX' : ∀ W, (Instr.slice 23 (.slice (some ⟨w.heap.size, 0, none⟩) m m) (some (.int .i64 1)) none none).run Try.prog W = .ok (.slice X (m - 1) (m - 1)) W := hX
  obtain ⟨m1, hm1⟩ : ∃ m1, m - 1 = m1 := ⟨_, rfl⟩
  rw [hm1] at hX'
  have HM1 := Lib.hid hm1
  have HXA := Lib.hid (show 0 < n → X = some ⟨w.heap.size, 1, none⟩ from fun h => hXa _ _ (by omega) rfl)
  obtain ⟨wa, hwa⟩ : ∃ wa, w.alloc (.cells (bt m fun _ => 0) 5) = wa := ⟨_, rfl⟩
  have hb0 : Blk wa w.heap.size m (fun _ => 0) := hwa ▸ Blk.new w m _
  have hxa : Ext w wa := hwa ▸ (Ext.refl w).alloc _
  have hc0 := hb0.cell 0 (by omega)
  have hf0 := hb0.frozen 0
  have HB1 := Lib.hid (hb0.store 0 n)
  have HX1 := Lib.hid (hxa.setCell (p := ⟨w.heap.size, 0, none⟩) (Nat.le_refl _) (.int .u8 (n : Int)))
  rw [hwa] at hmk
  clear hX hXa hm1 hb0 hxa hwa
  go_enter Try.func15, Try.ntmps15
  go_wp2_with (with_reducible refine wpList_copy_at rfl (.tmp 27) (.tmp 28) rfl w.heap.size m 1 m1 m1 X _ rfl HB1.out A t n ca rfl HN.out (HR.out.ext HX1.out) HXA.out (by have := HM1.out; omega) (by have := HM1.out; omega) w HX1.out (Nat.le_refl _) ?_; intro w2 HB2 hx2)
  have HX2 := Lib.hid hx2
  clear hx2
  go_wp2
  go_ret2
  refine ⟨_, rfl, ⟨_, _, by rw [HFL.out]; rfl, by rw [HFL.out]; exact Nat.le_refl _, ?_⟩, HX2.out⟩
  have hb := HB2.out.congr (f' := fun i => if i = 0 then n else co t (i - 1)) (fun i _ => by
    unfold upd
    by_cases e : i = 0
    · subst e; rw [if_neg (by omega), if_pos rfl, if_pos rfl]
    · rw [if_neg e, if_neg e]
      by_cases h : i < 1 + n
      · rw [if_pos (by omega)]
      · rw [if_neg (by omega), HCO.out _ (by omega)])
  rw [HFE.out]
  refine hb.reads fun i _ => ?_
  have h := HFS.out i
  rw [HFE.out, co_tab] at h
  split at h
  · exact h
  · omega
end Go.Proofs.Ytjifionpblpfoaa

/-
  A byte; what the field's own sum does. Conditions: none beyond the kinds of the arguments.
-/
namespace Go.Proofs.Ytjifionpblpfoaa
open Go.RowKit

/-- A byte. -/
def U (n : Nat) : Value := .int .u8 (n : Int)

theorem add_any (x y : Int) (w : World) :
    Calls Try.prog 41 #[.int .u8 x, .int .u8 y] w fun e w' => e = .returned (.int .u8 (bits .xor .u8 x y)) ∧ w = w' := by
  go_enter Try.func41, Try.ntmps41
  go_wp2
  go_ret
  exact ⟨rfl, rfl⟩
theorem add_is (a b v : Nat) (ha : a < 256) (hb : b < 256) (h : a ^^^ b = v) (w : World) :
    Calls Try.prog 41 #[.int .u8 (a : Int), .int .u8 (b : Int)] w fun e w' => e = .returned (.int .u8 (v : Int)) ∧ w = w' := by
  have := add_any a b w
  rw [u8_xor_nat a b ha hb, h] at this
  exact this
end Go.Proofs.Ytjifionpblpfoaa

/-
  A region that draws its order, whose first operations leave every world of a class in that class and yield the same values in all of them, and whose last operations follow in a forced order: one walk of the text's order serves every order. Conditions: none; of no program in particular.
-/
namespace Go.Proofs.Ytjifionpblpfoaa
open Go

section
variable {P : Program} {ops : Array Oper} {md : Region.Mode} {C : World → Prop}

/-- f operations below n come up in whatever order, each quiet in the class; then L. -/
def ahead (P : Program) (md : Region.Mode) (ops : Array Oper) (C : World → Prop) (n : Nat) (L : Array Bool → Act → Prop) : Nat → Array Bool → Act → Prop
  | 0, listed, a => L listed a
  | f + 1, listed, a => Region.ready md ops listed ≠ [] ∧ ∀ i, i ∈ Region.ready md ops listed → i < n ∧ qOp P ops C i (ahead P md ops C n L f (listed.setIfInBounds i true)) a

theorem wpAny_of_ahead {n g : Nat} {L : Array Bool → Act → Prop} {Q' : Exit → Act → World → Prop} (hL : ∀ listed a w, C w → L listed a → wpAny P md ops Q' g listed a w) (f : Nat) :
    ∀ (listed : Array Bool) (a : Act) (w : World), C w → ahead P md ops C n L f listed a → wpAny P md ops Q' (f + g) listed a w := by
  induction f with
  | zero => intro listed a w hw h; rw [Nat.zero_add]; exact hL _ _ _ hw h
  | succ f ih =>
    intro listed a w hw h
    rw [Nat.succ_add]
    exact ⟨fun h0 => absurd h0 h.1, fun i hi => wpOp_of_qOp hw (fun a' w' hw' h' => ih _ a' w' hw' h') (h.2 i hi).2⟩

/-- What may come up now may be taken first. -/
theorem ahead_first {n i : Nat} {oi : Oper} {v : Value} {L : Array Bool → Act → Prop} (hi : ops[i]? = some oi) (hsel : ∀ (j : Nat) (o : Oper) cs b, ops[j]? = some o → o.op ≠ .select cs b)
    (hs : Region.sinkB md ops n = true) (hc : Region.chainB md ops n = true) (hn : n < ops.size) (hin : i < n)
    (hdone : ∀ listed a, L listed a → ∀ j ∈ Region.ready md ops listed, n ≤ j) (f : Nat) :
    ∀ (listed : Array Bool) (a : Act), HeadInv md ops n listed →
      (∀ j oj, ops[j]? = some oj → j ≠ i → listed.getD j true = false → (∀ e ∈ oj.after, Region.binds md e = true → e.on ≠ i) → oi.apart ops oj = true) →
      i ∈ Region.ready md ops listed → YieldsIn P ops C oi v a →
      ahead P md ops C n L f (listed.setIfInBounds i true) (a.put oi.dst v) → ahead P md ops C n L (f + 1) listed a := by
  induction f with
  | zero =>
    intro listed a inv _ hr hy H
    refine ⟨List.ne_nil_of_mem hr, fun j hj => ?_⟩
    have hjn : j < n := Nat.lt_of_not_le fun h => tail_waits hs hc hn inv _ i rfl hin (mem_ready.1 hr).1 j h hj
    by_cases hji : j = i
    · subst hji; exact ⟨hjn, hy.qOp hi H⟩
    · exact absurd (hdone _ _ H j (ready_mono hj hji)) (by omega)
  | succ f ih =>
    intro listed a inv hfree hr hy H
    have hun := (mem_ready.1 hr).1
    refine ⟨List.ne_nil_of_mem hr, fun j hj => ?_⟩
    have hjn : j < n := Nat.lt_of_not_le fun h => tail_waits hs hc hn inv _ i rfl hin hun j h hj
    by_cases hji : j = i
    · subst hji; exact ⟨hjn, hy.qOp hi H⟩
    obtain ⟨hjun, oj, hoj, hall⟩ := mem_ready.1 hj
    have hap := hfree j oj hoj hji hjun fun e he hb heq => by
      have h1 := hall e he hb
      rw [heq, getD_both hun] at h1
      cases h1
    refine ⟨hjn, qOp_mono (fun a' h3 => ih (listed.setIfInBounds j true) a' (inv.set hj hjn) ?_ (ready_mono hr (Ne.symm hji)) h3.1 ?_)
      (qOp_put hoj hap (fun cs b => hsel i oi cs b hi) (fun cs b => hsel j oj cs b hoj) hy (H.2 j (ready_mono hj hji)).2)⟩
    · intro k ok hk hki hu hno
      refine hfree k ok hk hki ?_ hno
      by_cases hjk : j = k
      · subst hjk; exact hjun
      · rwa [getD_set_ne true hjk] at hu
    · rw [Array.setIfInBounds_comm _ _ hji]; exact h3.2

theorem ahead_lex {n g : Nat} {Lq : Act → Prop} (hsel : Region.noSelect ops = true) (hs : Region.sinkB md ops n = true) (hc : Region.chainB md ops n = true) (hn : n < ops.size) (l : List Oper) :
    ∀ (k : Nat) (listed : Array Bool) (a : Act), (∀ j, j < l.length → l[j]? = ops[k + j]?) → k + l.length = n → HeadInv md ops n listed →
    Region.lexHead md ops g l.length k listed = true → wpQuiet P ops C Lq l a →
    ahead P md ops C n (fun listed' a' => Region.seqB md ops g n listed' = true ∧ Lq a') l.length listed a := by
  induction l with
  | nil =>
    intro k listed a _ hk _ hB h
    obtain rfl : k = n := by simpa using hk
    exact ⟨by simpa [Region.lexHead] using hB, h⟩
  | cons o l ih =>
    intro k listed a hl hk inv hB h
    have h0 : ops[k]? = some o := by simpa using (hl 0 (by simp)).symm
    simp only [List.length_cons, Region.lexHead, Bool.and_eq_true] at hB hk
    have hr : k ∈ Region.ready md ops listed := by simpa using hB.1.1
    obtain ⟨v, hy, hK⟩ := yieldsIn_of_qOp (C := C) (K := wpQuiet P ops C Lq l) h0 (by unfold qOp; simp only [h0]; exact h)
    refine ahead_first h0 (Region.noSelect_spec hsel) hs hc hn (by omega) (fun _ _ hL => seqB_ready hL.1) l.length listed a inv (Region.free_spec h0 hB.1.2) hr hy ?_
    exact ih (k + 1) _ _ (fun j hj => by have := hl (j + 1) (by simp; omega); simpa [Nat.add_assoc, Nat.add_comm 1 j] using this) (by omega) (inv.set hr (by omega)) hB.2 hK

theorem any_quiet_tail {Q : Exit → Act → World → Prop} {a : Act} {w : World} {l : List Oper} (n : Nat) (C : World → Prop) (hB : Region.lexTailB .any l.toArray n = true) (hC : C w.drew)
    (h : wpQuiet P l.toArray C (fun a' => ∀ w', C w' → wpList P l.toArray Q (l.drop n) a' w') (l.take n) a) : wpAny P .any l.toArray Q l.toArray.size (Array.replicate l.toArray.size false) a w.drew := by
  simp only [Region.lexTailB, Bool.and_eq_true, decide_eq_true_eq] at hB
  obtain ⟨⟨⟨⟨hsel, hn⟩, hs⟩, hc⟩, hlex⟩ := hB
  have hn' : n < l.length := by simpa using hn
  have htl : (l.take n).length = n := by rw [List.length_take]; omega
  have hdl : (l.drop n).length = l.toArray.size - n := by simp
  have inv0 : HeadInv .any l.toArray n (Array.replicate l.toArray.size false) :=
    ⟨by simp, fun j oj _ hl => (by rw [getD_replicate_false] at hl; cases hl), fun t _ ht => getD_in (by simpa using ht) (getD_replicate_false _ _)⟩
  have H := ahead_lex (md := .any) (g := l.toArray.size - n) (C := C) hsel hs hc hn (l.take n) 0 _ a (fun j hj => by
    have hj' : j < n := by rwa [htl] at hj
    simp [hj']) (by rw [htl]; exact Nat.zero_add n) inv0 (by rw [htl]; exact hlex) h
  have key := wpAny_of_ahead (C := C) (Q' := Q) (g := l.toArray.size - n) (fun listed a' w' hw' hL => by
    have := wpAny_of_seq (md := .any) (Q' := Q) (l.drop n) n listed a' w' (fun j => by simp [List.getElem?_drop]) (by rw [hdl]; exact hL.1) (hL.2 w' hw')
    rwa [hdl] at this) _ _ _ _ hC H
  rw [htl, show n + (l.toArray.size - n) = l.toArray.size by omega] at key
  exact key
theorem wp_region_quiet_tail {id : Nat} {Q : Exit → Act → World → Prop} {a : Act} {w : World} {l : List Oper} (n : Nat) (C : World → Prop) (hm : P.follows .mixedOrders = true) (hB : Region.lexTailB .any l.toArray n = true) (hC : C w.drew)
    (h : wpQuiet P l.toArray C (fun a' => ∀ w', C w' → wpList P l.toArray Q (l.drop n) a' w') (l.take n) a) : (Code.region id l.toArray true).wp P Q a w :=
  wp_region_any hm (any_quiet_tail n C hB hC h)
end
end Go.Proofs.Ytjifionpblpfoaa

/-
  What sum, Seal and Pad of layer 6 do. Conditions: no more than 2^12 bytes.
-/
namespace Go.Proofs.Ytjifionpblpfoaa
open Go.RowKit
open Pol (co Sm)

/-- The first k sums, and 0 behind them. -/
def sk (t p : List Nat) (k i : Nat) : Nat := if i < k then co t i ^^^ co p i else 0
theorem sk_lt {t p : List Nat} (ht : Sm t) (hp : Sm p) (k i : Nat) : sk t p k i < 256 := by
  unfold sk
  split
  · exact Gf.xor_lt _ _ (ht i) (hp i)
  · omega
theorem sk_step (t p : List Nat) (k i : Nat) : upd (sk t p k) k (co t k ^^^ co p k) i = sk t p (k + 1) i := by
  unfold upd sk
  by_cases e : i = k
  · subst e; rw [if_pos rfl, if_pos (by omega)]
  · rw [if_neg e]
    by_cases h : i < k
    · rw [if_pos h, if_pos (by omega)]
    · rw [if_neg h, if_neg (by omega)]
theorem sk_all (t p : List Nat) (n : Nat) (hn : t.length = n) : tab n (sk t p n) = lx t p := by
  subst hn
  unfold lx tab
  refine List.map_congr_left fun i hi => ?_
  unfold sk
  rw [if_pos (List.mem_range.1 hi)]

set_option maxHeartbeats 800000 in
set_option maxRecDepth 100000 in
theorem j_sum (t p : List Nat) (A B : Option Addr) (ca cb : Nat) (w : World) (ha : Rd w A t) (hb : Rd w B p) (hl : t.length ≤ 4096) (he : t.length = p.length) :
    Calls Try.prog 29 #[.slice A t.length ca, .slice B p.length cb] w (GivesE (lx t p) 0 w) := by
  have HLL := Lib.hid (lx_len t p)
  rw [← he]
  generalize hna : t.length = n at *
  have HALL := Lib.hid (sk_all t p n hna)
  have HA := Lib.hid ha
  have HB := Lib.hid hb
  have HNA := Lib.hid hna
  have HNB := Lib.hid he.symm
  have hmk := fun W => run_make_u8 n (by omega) W
  have t0 : ((n : Int) != (n : Int)) = false := by simp
  clear ha hb hna he
  go_enter Try.func29, Try.ntmps29
  go_wp2
  clear hmk t0
  go_loopg [18] n (fun g s wx => ∃ j : Nat, j + g = n ∧ s = .int .i64 (j : Int) ∧ Blk wx w.heap.size n (sk t p j) ∧ Ext w wx)
  case atStart => exact ⟨0, by omega, rfl, (Blk.new w n _).congr (fun i _ => by unfold sk; rw [if_neg (by omega)]), (Ext.refl _).alloc _⟩
  case round =>
    obtain ⟨j, hjg, rfl, hblk, hx⟩ := hrel
    have HY := Lib.hid hx
    have HL := Lib.hid hblk
    clear hx hblk
    cases gk with
    | zero =>
      obtain rfl : j = n := by omega
      clear hjg
      have HR := Lib.hid (HALL.out ▸ HL.out.reads (fun i _ => sk_lt HA.out.1 HB.out.1 j i))
      go_wp2
      go_ret2
      exact ⟨_, rfl, ⟨_, _, by rw [HLL.out]; rfl, by rw [HLL.out]; exact Nat.le_refl _, HR.out⟩, HY.out⟩
    | succ g =>
      have hj : j < n := by omega
      have hjI : (j : Int) < (n : Int) := by omega
      obtain ⟨b1, o1, e1, hc1⟩ := (HA.out.ext HY.out).2 j (by rw [HNA.out]; exact hj)
      obtain ⟨b2, o2, e2, hc2⟩ := (HB.out.ext HY.out).2 j (by rw [HNB.out]; exact hj)
      subst e1; subst e2
      have hc3 := HL.out.cell j hj
      have hfz := HL.out.frozen j
      have HU := Lib.hid (((HL.out.drewN 1).store j (co t j ^^^ co p j)).congr (f' := sk t p (j + 1)) (fun i _ => sk_step t p j i))
      have HE := Lib.hid ((HY.out.drewN 1).setCell (p := ⟨w.heap.size, j, none⟩) (Nat.le_refl _) (.int .u8 ((co t j ^^^ co p j : Nat) : Int)))
      have HM := Lib.hid (fun W => (add_is (co t j) (co p j) _ (HA.out.1 j) (HB.out.1 j) rfl W).mono fun _ _ h => (⟨h.1, h.2.symm⟩ : _ ∧ _ = W))
      go_wp2
      go_still_tail 12, (by kernel_rfl)
      still_call (HM.out _)
      repeat still_step
      refine wpStill_nil ?_
      change wpList _ _ _ _ _ wr.drew
      go_wp2
      go_roundg g
      case measure => omega
      case rel => exact ⟨j + 1, by omega, by go_num, HU.out, HE.out⟩

theorem j_sum_no (t p : Nat) (A B : Option Addr) (ca cb : Nat) (w : World) (he : t ≠ p) :
    Calls Try.prog 29 #[.slice A t ca, .slice B p cb] w (GivesE [] 1 w) := by
  have t0 : ((t : Int) != (p : Int)) = true := by simp; omega
  clear he
  go_enter Try.func29, Try.ntmps29
  go_wp2
  go_ret2
  exact ⟨_, rfl, sl_none _, Ext.refl w⟩
theorem j_seal (l : List Nat) (n : Int) (x y : Value) (w : World) (h : Calls Try.prog 29 #[x, y] w (GivesE l n w)) :
    Calls Try.prog 16 #[x, y] w (GivesE l n w) := by
  have H := Lib.hid h
  clear h
  go_enter Try.func16, Try.ntmps16
  go_wp2_with fail
  refine H.out.mono ?_
  rintro e w1 ⟨v, rfl, hs, hx⟩
  have HS := Lib.hid hs
  have HX := Lib.hid hx
  clear hs hx
  go_wp2
  go_ret2
  exact ⟨_, rfl, HS.out, HX.out⟩
end Go.Proofs.Ytjifionpblpfoaa

/-
  The code's own valid: which orders can be. Conditions: none.
-/
namespace Go.Proofs.Ytjifionpblpfoaa
open Go.RowKit
open Pol (co Sm)

set_option maxHeartbeats 1600000 in
theorem tx_valid (k t : Int) (a n c : Nat) (A : Option Addr) (w : World) : Calls Try.prog 26 #[.agg #[.int .i64 k, .int .i64 t, .int .u64 (a : Int), .slice A n c]] w (Tells (.bool (decide (RightN k t a n))) w) := by
  by_cases h0 : 16 < n
  · have d0 : decide ((n : Int) > 16) = true := decide_eq_true (by omega)
    have d0' : decide (16 < (n : Int)) = true := decide_eq_true (by omega)
    rw [show decide (RightN k t a n) = false from decide_eq_false (by unfold RightN; omega)]
    go_enter Try.func26, Try.ntmps26
    go_wp2
    go_ret
    exact ⟨rfl, (Ext.refl _).alloc _⟩
  have d0 : decide ((n : Int) > 16) = false := decide_eq_false (by omega)
  have d0' : decide (16 < (n : Int)) = false := decide_eq_false (by omega)
  by_cases h1 : k = 1
  · by_cases h2 : 0 ≤ t
    · have d2 : decide (t ≥ 0) = true := decide_eq_true (by omega)
      have d2' : decide (0 ≤ t) = true := decide_eq_true (by omega)
      by_cases h3 : t < 6
      · have d3 : decide (t < 6) = true := decide_eq_true h3
        rw [show decide (RightN k t a n) = true from decide_eq_true (by unfold RightN; omega)]
        subst h1
        go_enter Try.func26, Try.ntmps26
        go_wp2
        go_ret
        exact ⟨rfl, (Ext.refl _).alloc _⟩
      · have d3 : decide (t < 6) = false := decide_eq_false h3
        rw [show decide (RightN k t a n) = false from decide_eq_false (by unfold RightN; omega)]
        subst h1
        go_enter Try.func26, Try.ntmps26
        go_wp2
        go_ret
        exact ⟨rfl, (Ext.refl _).alloc _⟩
    · have d2 : decide (t ≥ 0) = false := decide_eq_false (by omega)
      have d2' : decide (0 ≤ t) = false := decide_eq_false (by omega)
      rw [show decide (RightN k t a n) = false from decide_eq_false (by unfold RightN; omega)]
      subst h1
      go_enter Try.func26, Try.ntmps26
      go_wp2
      go_ret
      exact ⟨rfl, (Ext.refl _).alloc _⟩
  have d1 : (k == 1) = false := by simp; omega
  have d1' : decide (k = 1) = false := decide_eq_false h1
  by_cases h4 : k = 2
  · by_cases h5 : t = 0
    · by_cases h6 : a = 0
      · have HD := Lib.hid (show decide (RightN k t a n) = true from decide_eq_true (by unfold RightN; omega))
        rw [HD.out]
        subst h4 h5 h6
        go_enter Try.func26, Try.ntmps26
        go_wp2
        go_ret
        exact ⟨rfl, (Ext.refl _).alloc _⟩
      · have d6 : ((a : Int) == 0) = false := by simp; omega
        have d6' : decide ((a : Int) = 0) = false := decide_eq_false (by omega)
        have d6'' : decide (a = 0) = false := decide_eq_false h6
        have HD := Lib.hid (show decide (RightN k t a n) = false from decide_eq_false (by unfold RightN; omega))
        rw [HD.out]
        subst h4 h5
        go_enter Try.func26, Try.ntmps26
        go_wp2
        go_ret
        exact ⟨rfl, (Ext.refl _).alloc _⟩
    · have d5 : (t == 0) = false := by simp; omega
      have d5' : decide (t = 0) = false := decide_eq_false h5
      have HD := Lib.hid (show decide (RightN k t a n) = false from decide_eq_false (by unfold RightN; omega))
      rw [HD.out]
      subst h4
      go_enter Try.func26, Try.ntmps26
      go_wp2
      go_ret
      exact ⟨rfl, (Ext.refl _).alloc _⟩
  · have d4 : (k == 2) = false := by simp; omega
    have d4' : decide (k = 2) = false := decide_eq_false h4
    rw [show decide (RightN k t a n) = false from decide_eq_false (by unfold RightN; omega)]
    go_enter Try.func26, Try.ntmps26
    go_wp2
    go_ret
    exact ⟨rfl, (Ext.refl _).alloc _⟩
end Go.Proofs.Ytjifionpblpfoaa
