/-
  Part 7 of the texts that the seat's proofs stand on; each part of it begins with its own sentence and conditions. Conditions: those that each theorem names.
-/
import Derived.Test.YthbfodmpoheahaaDoorGrowsPack6
import Derived.Lib.Hide
import Derived.Lib.SliceRun

/-
  The digests that stage 11's laws begin with, in digits. Conditions: none; no function is named here.
-/
namespace Go.Proofs.YthbfodmpoheahaaDoor
open Pol (co Sm)

theorem sha_nil : sha [] = [227, 176, 196, 66, 152, 252, 28, 20, 154, 251, 244, 200, 153, 111, 185, 36, 39, 174, 65, 228, 100, 155, 147, 76, 164, 149, 153, 27, 120, 82, 184, 85] := sha_is (p := [128, 0, 0, 0, 0, 0, 0, 0, 0, 0, 0, 0, 0, 0, 0, 0, 0, 0, 0, 0, 0, 0, 0, 0, 0, 0, 0, 0, 0, 0, 0, 0, 0, 0, 0, 0, 0, 0, 0, 0, 0, 0, 0, 0, 0, 0, 0, 0, 0, 0, 0, 0, 0, 0, 0, 0, 0, 0, 0, 0, 0, 0, 0, 0]) (n := 1) (s := [3820012610, 2566659092, 2600203464, 2574235940, 665731556, 1687917388, 2761267483, 2018687061]) (by decide +kernel) (by decide +kernel) (by decide +kernel) (by decide +kernel)
theorem sha_l1 : sha [0, 1] = [180, 19, 244, 125, 19, 238, 47, 230, 200, 69, 178, 238, 20, 26, 248, 29, 232, 88, 223, 78, 197, 73, 165, 139, 121, 112, 187, 150, 100, 91, 200, 210] := sha_is (p := [0, 1, 128, 0, 0, 0, 0, 0, 0, 0, 0, 0, 0, 0, 0, 0, 0, 0, 0, 0, 0, 0, 0, 0, 0, 0, 0, 0, 0, 0, 0, 0, 0, 0, 0, 0, 0, 0, 0, 0, 0, 0, 0, 0, 0, 0, 0, 0, 0, 0, 0, 0, 0, 0, 0, 0, 0, 0, 0, 0, 0, 0, 0, 16]) (n := 1) (s := [3021206653, 334376934, 3360010990, 337311773, 3898138446, 3309938059, 2037431190, 1683736786]) (by decide +kernel) (by decide +kernel) (by decide +kernel) (by decide +kernel)
theorem sha_l2 : sha [0, 2] = [252, 240, 166, 199, 0, 221, 19, 226, 116, 182, 251, 168, 222, 234, 141, 217, 178, 110, 78, 237, 222, 52, 149, 113, 124, 172, 132, 8, 201, 197, 23, 127] := sha_is (p := [0, 2, 128, 0, 0, 0, 0, 0, 0, 0, 0, 0, 0, 0, 0, 0, 0, 0, 0, 0, 0, 0, 0, 0, 0, 0, 0, 0, 0, 0, 0, 0, 0, 0, 0, 0, 0, 0, 0, 0, 0, 0, 0, 0, 0, 0, 0, 0, 0, 0, 0, 0, 0, 0, 0, 0, 0, 0, 0, 0, 0, 0, 0, 16]) (n := 1) (s := [4243629767, 14488546, 1958149032, 3739913689, 2993573613, 3727988081, 2091680776, 3385137023]) (by decide +kernel) (by decide +kernel) (by decide +kernel) (by decide +kernel)
theorem sha_l3 : sha [0, 3] = [88, 60, 125, 251, 123, 48, 85, 217, 148, 101, 84, 64, 50, 165, 113, 225, 10, 19, 75, 27, 111, 118, 148, 34, 187, 183, 31, 215, 250, 22, 122, 93] := sha_is (p := [0, 3, 128, 0, 0, 0, 0, 0, 0, 0, 0, 0, 0, 0, 0, 0, 0, 0, 0, 0, 0, 0, 0, 0, 0, 0, 0, 0, 0, 0, 0, 0, 0, 0, 0, 0, 0, 0, 0, 0, 0, 0, 0, 0, 0, 0, 0, 0, 0, 0, 0, 0, 0, 0, 0, 0, 0, 0, 0, 0, 0, 0, 0, 16]) (n := 1) (s := [1480359419, 2066765273, 2489668672, 849703393, 169036571, 1870042146, 3149340631, 4195777117]) (by decide +kernel) (by decide +kernel) (by decide +kernel) (by decide +kernel)
theorem sha_n12 : sha [1, 180, 19, 244, 125, 19, 238, 47, 230, 200, 69, 178, 238, 20, 26, 248, 29, 232, 88, 223, 78, 197, 73, 165, 139, 121, 112, 187, 150, 100, 91, 200, 210, 252, 240, 166, 199, 0, 221, 19, 226, 116, 182, 251, 168, 222, 234, 141, 217, 178, 110, 78, 237, 222, 52, 149, 113, 124, 172, 132, 8, 201, 197, 23, 127] = [107, 207, 14, 46, 147, 224, 161, 142, 34, 120, 154, 238, 150, 94, 101, 83, 244, 251, 233, 63, 10, 207, 196, 167, 5, 214, 145, 200, 49, 28, 73, 101] := sha_is (p := [1, 180, 19, 244, 125, 19, 238, 47, 230, 200, 69, 178, 238, 20, 26, 248, 29, 232, 88, 223, 78, 197, 73, 165, 139, 121, 112, 187, 150, 100, 91, 200, 210, 252, 240, 166, 199, 0, 221, 19, 226, 116, 182, 251, 168, 222, 234, 141, 217, 178, 110, 78, 237, 222, 52, 149, 113, 124, 172, 132, 8, 201, 197, 23, 127, 128, 0, 0, 0, 0, 0, 0, 0, 0, 0, 0, 0, 0, 0, 0, 0, 0, 0, 0, 0, 0, 0, 0, 0, 0, 0, 0, 0, 0, 0, 0, 0, 0, 0, 0, 0, 0, 0, 0, 0, 0, 0, 0, 0, 0, 0, 0, 0, 0, 0, 0, 0, 0, 0, 0, 0, 0, 0, 0, 0, 0, 2, 8]) (n := 2) (s := [1808731694, 2480972174, 578329326, 2522768723, 4110149951, 181388455, 97948104, 823937381]) (by decide +kernel) (by decide +kernel) (by decide +kernel) (by decide +kernel)
theorem sha_r : sha [1, 107, 207, 14, 46, 147, 224, 161, 142, 34, 120, 154, 238, 150, 94, 101, 83, 244, 251, 233, 63, 10, 207, 196, 167, 5, 214, 145, 200, 49, 28, 73, 101, 88, 60, 125, 251, 123, 48, 85, 217, 148, 101, 84, 64, 50, 165, 113, 225, 10, 19, 75, 27, 111, 118, 148, 34, 187, 183, 31, 215, 250, 22, 122, 93] = [226, 218, 2, 66, 147, 110, 179, 142, 201, 150, 165, 67, 96, 27, 58, 29, 164, 34, 99, 145, 255, 146, 1, 78, 209, 167, 162, 72, 172, 227, 99, 71] := sha_is (p := [1, 107, 207, 14, 46, 147, 224, 161, 142, 34, 120, 154, 238, 150, 94, 101, 83, 244, 251, 233, 63, 10, 207, 196, 167, 5, 214, 145, 200, 49, 28, 73, 101, 88, 60, 125, 251, 123, 48, 85, 217, 148, 101, 84, 64, 50, 165, 113, 225, 10, 19, 75, 27, 111, 118, 148, 34, 187, 183, 31, 215, 250, 22, 122, 93, 128, 0, 0, 0, 0, 0, 0, 0, 0, 0, 0, 0, 0, 0, 0, 0, 0, 0, 0, 0, 0, 0, 0, 0, 0, 0, 0, 0, 0, 0, 0, 0, 0, 0, 0, 0, 0, 0, 0, 0, 0, 0, 0, 0, 0, 0, 0, 0, 0, 0, 0, 0, 0, 0, 0, 0, 0, 0, 0, 0, 0, 2, 8]) (n := 2) (s := [3805938242, 2473505678, 3382093123, 1612397085, 2753717137, 4287758670, 3517424200, 2900583239]) (by decide +kernel) (by decide +kernel) (by decide +kernel) (by decide +kernel)
theorem sha_q : sha [1, 107, 207, 14, 46, 147, 224, 161, 142, 34, 120, 154, 238, 150, 94, 101, 83, 244, 251, 233, 63, 10, 207, 196, 167, 5, 214, 145, 200, 49, 28, 73, 101, 252, 240, 166, 199, 0, 221, 19, 226, 116, 182, 251, 168, 222, 234, 141, 217, 178, 110, 78, 237, 222, 52, 149, 113, 124, 172, 132, 8, 201, 197, 23, 127] = [226, 166, 35, 90, 153, 246, 240, 43, 167, 230, 243, 23, 211, 228, 197, 224, 26, 26, 157, 207, 167, 244, 205, 147, 98, 219, 233, 25, 62, 140, 138, 55] := sha_is (p := [1, 107, 207, 14, 46, 147, 224, 161, 142, 34, 120, 154, 238, 150, 94, 101, 83, 244, 251, 233, 63, 10, 207, 196, 167, 5, 214, 145, 200, 49, 28, 73, 101, 252, 240, 166, 199, 0, 221, 19, 226, 116, 182, 251, 168, 222, 234, 141, 217, 178, 110, 78, 237, 222, 52, 149, 113, 124, 172, 132, 8, 201, 197, 23, 127, 128, 0, 0, 0, 0, 0, 0, 0, 0, 0, 0, 0, 0, 0, 0, 0, 0, 0, 0, 0, 0, 0, 0, 0, 0, 0, 0, 0, 0, 0, 0, 0, 0, 0, 0, 0, 0, 0, 0, 0, 0, 0, 0, 0, 0, 0, 0, 0, 0, 0, 0, 0, 0, 0, 0, 0, 0, 0, 0, 0, 0, 2, 8]) (n := 2) (s := [3802538842, 2583097387, 2816930583, 3554985440, 437951951, 2817838483, 1658579225, 1049397815]) (by decide +kernel) (by decide +kernel) (by decide +kernel) (by decide +kernel)
end Go.Proofs.YthbfodmpoheahaaDoor

/-
  What the document's own Proof of layer 11 does. Conditions: under what its Of is to do; no more than 4096 texts of 2^15 bytes.
-/
namespace Go.Proofs.YthbfodmpoheahaaDoor
open Go.RowKit
open Pol (co Sm)

theorem mprf_one (D : List Nat → List Nat) {l : List (List Nat)} {i : Nat} (h : l.length < 2) : mprf D l i = [] := by rw [mprf, dif_pos h]
theorem mprf_lo (D : List Nat → List Nat) {l : List (List Nat)} {i : Nat} (h : 2 ≤ l.length) (hi : i < spl l.length) : mprf D l i = mprf D (l.take (spl l.length)) i ++ [mroot D (l.drop (spl l.length))] := by rw [mprf, dif_neg (by omega), if_pos hi]
theorem mprf_hi (D : List Nat → List Nat) {l : List (List Nat)} {i : Nat} (h : 2 ≤ l.length) (hi : ¬ i < spl l.length) : mprf D l i = mprf D (l.drop (spl l.length)) (i - spl l.length) ++ [mroot D (l.take (spl l.length))] := by rw [mprf, dif_neg (by omega), if_neg hi]
theorem dep_le : ∀ (m n i : Nat), n ≤ m → dep n i ≤ n
  | m, n, i, hm => by
    rw [dep]
    by_cases h : n < 2
    · rw [dif_pos h]; omega
    · rw [dif_neg h]
      have h1 := spl_lt (n := n) (by omega)
      have h2 := spl_pos n
      cases m with
      | zero => omega
      | succ m =>
        by_cases hi : i < spl n
        · rw [if_pos hi]; have := dep_le m (spl n) i (by omega); omega
        · rw [if_neg hi]; have := dep_le m (n - spl n) (i - spl n) (by omega); omega
theorem one_drd (w : World) (d : List Nat) (h : d.length = 32) (hs : Sm d) : DRd (w.alloc (.cells (bt 32 (co d)) 30)) (some ⟨w.heap.size, 0, none⟩) [d] := by
  refine ⟨fun x hx => by simp at hx; subst hx; exact h, ?_⟩
  rw [show [d].flatten = d from by simp]
  exact rd_of_blk (heap_alloc_new w _) h hs
set_option maxHeartbeats 3200000 in
set_option maxRecDepth 100000 in
theorem ref11_proof (R : RefOf) (m : Nat) : ∀ (rows : List (List Nat)) (i : Nat) (A : Option Addr) (c : Nat) (w : World), rows.length ≤ m → i < rows.length → RRd w A rows → rows.length ≤ c → rows.length ≤ 4096 → (∀ i, i < rows.length → (ro rows i).length ≤ 32768) →
    Calls Tryd.prog 15 #[.slice A rows.length c, .int .i64 (i : Int)] w (DOwn (mprf sha rows i) w) := by
  induction m with
  | zero => intro rows i A c w hm hil; omega
  | succ m ih =>
    intro rows i A c w hm hil hr hc hl hls
    have HR := Lib.hid hr
    by_cases h2 : 2 ≤ rows.length
    · have hk1 := spl_lt h2
      have hk0 := spl_pos rows.length
      have HSP := Lib.hid (fun W => ref11_split rows.length W (by omega))
      obtain ⟨n, hn⟩ : ∃ n, rows.length = n := ⟨_, rfl⟩
      rw [hn] at hm hil hc hl h2 hk1 hk0 HSP ⊢
      obtain ⟨k, hk⟩ : ∃ k, spl n = k := ⟨_, rfl⟩
      rw [hk] at hk1 hk0 HSP
      have HTL := Lib.hid (show (rows.take k).length = k from by rw [List.length_take]; omega)
      have HDL := Lib.hid (show (rows.drop k).length = n - k from by rw [List.length_drop]; omega)
      have htl := HTL.out
      have hdl := HDL.out
      have ht := run_to_rows A n c k (by omega)
      obtain ⟨X, hx, hxr⟩ := run_rest_rows A n c k (by omega) hc
      have d1 : decide ((n : Int) = 1) = false := decide_eq_false (by omega)
      have n1 : ¬ (n : Int) = 1 := by omega
      have n2 : ¬ n = 1 := by omega
      by_cases hik : i < k
      · skip
        have HP := Lib.hid (fun W (h : Ext w W) => show Calls Tryd.prog 15 #[.slice A k c, .int .i64 (i : Int)] W (DOwn (mprf sha (rows.take k) i) W) from by
          have h1 := ih (rows.take k) i A c W (by omega) (by omega) ((HR.out.ext h).take k) (by omega) (by omega) (fun j hj => by rw [ro_take rows k j (by omega)]; exact hls j (by omega))
          rw [HTL.out] at h1
          exact h1)
        have HRT := Lib.hid (fun W (h : Ext w W) => show Calls Tryd.prog 13 #[.slice X (n - k) (c - k)] W (Tells (dgv (mroot sha (rows.drop k))) W) from by
          have h1 := ref11_root R 4096 (rows.drop k) X (c - k) W (by omega) (hxr W rows (HR.out.ext h) hn) (by omega) (by omega) (fun j hj => by rw [ro_drop]; exact hls (k + j) (by omega))
          rw [HDL.out] at h1
          exact h1)
        have HMP := Lib.hid (show mprf sha rows i = mprf sha (rows.take k) i ++ [mroot sha (rows.drop k)] from by rw [mprf_lo sha (by omega) (by rw [hn, hk]; exact hik), hn, hk])
        have HPL := Lib.hid (show (mprf sha (rows.take k) i).length ≤ 4096 from by rw [mprf_len sha 4096 _ _ (by omega)]; have := dep_le 4096 (rows.take k).length i (by omega); omega)
        have HRL := Lib.hid (mroot_32 (rows.drop k))
        have HRS := Lib.hid (mroot_sm (rows.drop k))
        obtain ⟨P1, hP1⟩ : ∃ P, mprf sha (rows.take k) i = P := ⟨_, rfl⟩
        obtain ⟨D2, hD2⟩ : ∃ D, mroot sha (rows.drop k) = D := ⟨_, rfl⟩
        have d3 : decide ((i : Int) < (k : Int)) = true := decide_eq_true (by omega)
        have n5 : (i : Int) < (k : Int) := by omega
        rw [hP1] at HP HMP HPL
        rw [hD2] at HRT HMP HRL HRS
        rw [HMP.out]
        unfold dgv at HRT
        have HLD := Lib.hid (fun W => one_drd W D2 HRL.out HRS.out)
        have HVS := Lib.hid (bt_size 32 (co D2))
        obtain ⟨V2, hV2⟩ : ∃ V, bt 32 (co D2) = V := ⟨_, rfl⟩
        rw [hV2] at HRT HLD HVS
        obtain ⟨p, hp⟩ : ∃ p, P1.length = p := ⟨_, rfl⟩
        have HPN := Lib.hid hp
        have HLP := Lib.hid (show P1.length + [D2].length ≤ 1048576 from by have := HPL.out; simp; omega)
        unfold DOwn at HP
        clear hm hc hl hls hr hk hxr hik HMP HPL hP1 hD2 hV2 hp hil
        go_enter Tryd.func15, Tryd.ntmps15
        go_wp2_with fail
        refine (HSP.out _).mono ?_
        rintro e w2 ⟨rfl, q, rfl⟩
        have HX1 := Lib.hid ((Ext.refl w).drewN q)
        generalize w.drewN q = w1 at HX1 ⊢
        go_wp2
        refine wp_region_plan (AfterH w1) [0, 1, 2, 3, 4, 5, 6, 7, 8, 9] (.yes 0 (.yes 1 (.yes 2 (.yes 3 (.yes 5 (.yes 6 (.yes 7 (.one 4 (.one 8 (.one 9 (.one 10 (.one 11 .done)))))))))))) (by kernel_rfl) (fun c a a' w e h => ⟨e ▸ h.1, h.2⟩) (by kernel_rfl) ((Ext.refl w1).drew) ?_
        refine plan_yes rfl (fun K hK => ?_); go_simp; refine ⟨_, fun _ _ => rfl, hK _ ?_⟩; clear hK K
        refine plan_yes rfl (fun K hK => ?_); go_simp; refine ⟨_, fun _ _ => rfl, hK _ ?_⟩; clear hK K
        refine plan_yes rfl (fun K hK => ?_); go_simp; refine ⟨_, fun _ _ => rfl, hK _ ?_⟩; clear hK K
        refine plan_yes rfl (fun K hK => ?_); go_simp; refine ⟨_, fun _ _ => rfl, hK _ ?_⟩; clear hK K
        refine plan_yes rfl (fun K hK => ?_); go_simp; refine ⟨_, fun _ _ => rfl, hK _ ?_⟩; clear hK K
        refine plan_yes rfl (fun K hK => ?_); go_simp; refine ⟨_, fun _ _ => rfl, hK _ ?_⟩; clear hK K
        refine plan_yes rfl (fun K hK => ?_); go_simp; refine ⟨_, fun _ _ => rfl, hK _ ?_⟩; clear hK K
        refine plan_one rfl (fun K hK => ?_)
        go_wp2_with fail
        refine (HP.out _ (HX1.out.trans ((Ext.refl w1).drew))).mono ?_
        rintro e v4 ⟨p4, rfl, hm4, hx4⟩
        obtain ⟨B4, c4, rfl, hc4, hr4⟩ := hm4.slice
        rw [HPN.out]
        have HX4 := Lib.hid (show AfterH w1 v4 from Ext.trans ((Ext.refl w1).drew) hx4)
        have HM4 := Lib.hid (hm4.down (base' := w.heap.size) (Ext.size (HX1.out.trans ((Ext.refl w1).drew))))
        rw [HPN.out] at HM4
        clear hm4 hx4 hc4 hr4
        go_wp2
        refine ⟨fun _ => HX4.out, ?_⟩
        refine plan_one rfl (fun K hK => ?_)
        go_wp2_with fail
        refine (HRT.out _ (HX1.out.trans HX4.out)).mono ?_
        rintro e v5 ⟨rfl, hx5⟩
        have HX5 := Lib.hid (show AfterH w1 v5 from Ext.trans HX4.out hx5)
        have HM5 := Lib.hid (HM4.out.ext hx5)
        clear hx5
        go_wp2
        refine ⟨fun _ => HX5.out, ?_⟩
        refine plan_one rfl (fun K hK => ?_)
        have HB := Lib.hid (HLD.out v5)
        have HX6 := Lib.hid (show AfterH w1 (World.alloc v5 (.cells V2 30)) from Ext.alloc HX5.out _)
        have HM6 := Lib.hid (HM5.out.ext ((Ext.refl _).alloc (.cells V2 30)))
        go_wp2_with (with_reducible refine wpList_build_dig rfl (.tmp 23) rfl V2 rfl HVS.out ?_)
        refine ⟨fun _ => HX6.out, ?_⟩
        obtain ⟨gx, hgx⟩ : ∃ g, (v5).heap.size = g := ⟨_, rfl⟩
        rw [hgx] at HB ⊢
        generalize World.alloc v5 _ = v6 at HX6 HB HM6 ⊢
        clear hgx
        have HS7 := Lib.hid (show w.heap.size ≤ (v6).heap.size from Ext.size (HX1.out.trans HX6.out))
        have HOB := Lib.hid (fun k e => (HM6.out.block k e).1)
        refine plan_one rfl (fun K hK => ?_)
        go_wp2_with (at_builtin; refine wpList_append_drd rfl (.tmp 19) (.tmp 24) rfl w.heap.size _ P1 [D2] rfl HM6.out (some ⟨gx, 0, none⟩) 1 1 rfl rfl HB.out HLP.out HS7.out ?_; intro v' w7 hm7 hg7 hb7; have HM7 := Lib.hid hm7; have HX7 := Lib.hid ((HX1.out.trans HX6.out).more hg7 (fun k e => HOB.out k e)); clear hm7 hg7 hb7)
        refine ⟨fun h => absurd h (by decide), ?_⟩
        refine plan_one rfl (fun K hK => ?_)
        go_wp2
        refine ⟨fun h => absurd h (by decide), ?_⟩
        unfold wpPlan
        go_wp2
        go_ret
        exact ⟨_, rfl, HM7.out, HX7.out⟩
      · skip
        obtain ⟨j, hj⟩ : ∃ j, i - k = j := ⟨_, rfl⟩
        have e1 : (i : Int) - (k : Int) = (j : Int) := by omega
        have e2 : IntKind.i64.wrap (j : Int) = (j : Int) := by rw [IntKind.wrap_i64]; omega
        have HP := Lib.hid (fun W (h : Ext w W) => show Calls Tryd.prog 15 #[.slice X (n - k) (c - k), .int .i64 (j : Int)] W (DOwn (mprf sha (rows.drop k) j) W) from by
          have h1 := ih (rows.drop k) j X (c - k) W (by omega) (by omega) (hxr W rows (HR.out.ext h) hn) (by omega) (by omega) (fun j hj => by rw [ro_drop]; exact hls (k + j) (by omega))
          rw [HDL.out] at h1
          exact h1)
        have HRT := Lib.hid (fun W (h : Ext w W) => show Calls Tryd.prog 13 #[.slice A k c] W (Tells (dgv (mroot sha (rows.take k))) W) from by
          have h1 := ref11_root R 4096 (rows.take k) A c W (by omega) ((HR.out.ext h).take k) (by omega) (by omega) (fun j hj => by rw [ro_take rows k j (by omega)]; exact hls j (by omega))
          rw [HTL.out] at h1
          exact h1)
        have HMP := Lib.hid (show mprf sha rows i = mprf sha (rows.drop k) j ++ [mroot sha (rows.take k)] from by rw [mprf_hi sha (by omega) (by rw [hn, hk]; exact hik), hn, hk, hj])
        have HPL := Lib.hid (show (mprf sha (rows.drop k) j).length ≤ 4096 from by rw [mprf_len sha 4096 _ _ (by omega)]; have := dep_le 4096 (rows.drop k).length j (by omega); omega)
        have HRL := Lib.hid (mroot_32 (rows.take k))
        have HRS := Lib.hid (mroot_sm (rows.take k))
        obtain ⟨P1, hP1⟩ : ∃ P, mprf sha (rows.drop k) j = P := ⟨_, rfl⟩
        obtain ⟨D2, hD2⟩ : ∃ D, mroot sha (rows.take k) = D := ⟨_, rfl⟩
        have d3 : decide ((i : Int) < (k : Int)) = false := decide_eq_false (by omega)
        have n5 : ¬ (i : Int) < (k : Int) := by omega
        rw [hP1] at HP HMP HPL
        rw [hD2] at HRT HMP HRL HRS
        rw [HMP.out]
        unfold dgv at HRT
        have HLD := Lib.hid (fun W => one_drd W D2 HRL.out HRS.out)
        have HVS := Lib.hid (bt_size 32 (co D2))
        obtain ⟨V2, hV2⟩ : ∃ V, bt 32 (co D2) = V := ⟨_, rfl⟩
        rw [hV2] at HRT HLD HVS
        obtain ⟨p, hp⟩ : ∃ p, P1.length = p := ⟨_, rfl⟩
        have HPN := Lib.hid hp
        have HLP := Lib.hid (show P1.length + [D2].length ≤ 1048576 from by have := HPL.out; simp; omega)
        unfold DOwn at HP
        clear hm hc hl hls hr hk hxr hik HMP HPL hP1 hD2 hV2 hp hil hj
        go_enter Tryd.func15, Tryd.ntmps15
        go_wp2_with fail
        refine (HSP.out _).mono ?_
        rintro e w2 ⟨rfl, q, rfl⟩
        have HX1 := Lib.hid ((Ext.refl w).drewN q)
        generalize w.drewN q = w1 at HX1 ⊢
        go_wp2
        refine wp_region_plan (AfterH w1) [0, 1, 2, 3, 4, 5, 6, 7, 8, 9, 10, 11] (.yes 0 (.yes 1 (.yes 2 (.yes 3 (.yes 4 (.yes 5 (.yes 7 (.yes 8 (.yes 9 (.one 6 (.one 10 (.one 11 (.one 12 (.one 13 .done)))))))))))))) (by kernel_rfl) (fun c a a' w e h => ⟨e ▸ h.1, h.2⟩) (by kernel_rfl) ((Ext.refl w1).drew) ?_
        refine plan_yes rfl (fun K hK => ?_); go_simp; refine ⟨_, fun _ _ => rfl, hK _ ?_⟩; clear hK K
        refine plan_yes rfl (fun K hK => ?_); go_simp; refine ⟨_, fun _ _ => rfl, hK _ ?_⟩; clear hK K
        refine plan_yes rfl (fun K hK => ?_); go_simp; refine ⟨_, fun _ _ => rfl, hK _ ?_⟩; clear hK K
        refine plan_yes rfl (fun K hK => ?_); go_simp; refine ⟨_, fun _ _ => rfl, hK _ ?_⟩; clear hK K
        refine plan_yes rfl (fun K hK => ?_); go_simp; refine ⟨_, fun _ _ => rfl, hK _ ?_⟩; clear hK K
        refine plan_yes rfl (fun K hK => ?_); go_simp; refine ⟨_, fun _ _ => rfl, hK _ ?_⟩; clear hK K
        refine plan_yes rfl (fun K hK => ?_); go_simp; refine ⟨_, fun _ _ => rfl, hK _ ?_⟩; clear hK K
        refine plan_yes rfl (fun K hK => ?_); go_simp; refine ⟨_, fun _ _ => rfl, hK _ ?_⟩; clear hK K
        refine plan_yes rfl (fun K hK => ?_); go_simp; refine ⟨_, fun _ _ => rfl, hK _ ?_⟩; clear hK K
        refine plan_one rfl (fun K hK => ?_)
        go_wp2_with fail
        refine (HP.out _ (HX1.out.trans ((Ext.refl w1).drew))).mono ?_
        rintro e v4 ⟨p4, rfl, hm4, hx4⟩
        obtain ⟨B4, c4, rfl, hc4, hr4⟩ := hm4.slice
        rw [HPN.out]
        have HX4 := Lib.hid (show AfterH w1 v4 from Ext.trans ((Ext.refl w1).drew) hx4)
        have HM4 := Lib.hid (hm4.down (base' := w.heap.size) (Ext.size (HX1.out.trans ((Ext.refl w1).drew))))
        rw [HPN.out] at HM4
        clear hm4 hx4 hc4 hr4
        go_wp2
        refine ⟨fun _ => HX4.out, ?_⟩
        refine plan_one rfl (fun K hK => ?_)
        go_wp2_with fail
        refine (HRT.out _ (HX1.out.trans HX4.out)).mono ?_
        rintro e v5 ⟨rfl, hx5⟩
        have HX5 := Lib.hid (show AfterH w1 v5 from Ext.trans HX4.out hx5)
        have HM5 := Lib.hid (HM4.out.ext hx5)
        clear hx5
        go_wp2
        refine ⟨fun _ => HX5.out, ?_⟩
        refine plan_one rfl (fun K hK => ?_)
        have HB := Lib.hid (HLD.out v5)
        have HX6 := Lib.hid (show AfterH w1 (World.alloc v5 (.cells V2 30)) from Ext.alloc HX5.out _)
        have HM6 := Lib.hid (HM5.out.ext ((Ext.refl _).alloc (.cells V2 30)))
        go_wp2_with (with_reducible refine wpList_build_dig rfl (.tmp 36) rfl V2 rfl HVS.out ?_)
        refine ⟨fun _ => HX6.out, ?_⟩
        obtain ⟨gx, hgx⟩ : ∃ g, (v5).heap.size = g := ⟨_, rfl⟩
        rw [hgx] at HB ⊢
        generalize World.alloc v5 _ = v6 at HX6 HB HM6 ⊢
        clear hgx
        have HS7 := Lib.hid (show w.heap.size ≤ (v6).heap.size from Ext.size (HX1.out.trans HX6.out))
        have HOB := Lib.hid (fun k e => (HM6.out.block k e).1)
        refine plan_one rfl (fun K hK => ?_)
        go_wp2_with (at_builtin; refine wpList_append_drd rfl (.tmp 32) (.tmp 37) rfl w.heap.size _ P1 [D2] rfl HM6.out (some ⟨gx, 0, none⟩) 1 1 rfl rfl HB.out HLP.out HS7.out ?_; intro v' w7 hm7 hg7 hb7; have HM7 := Lib.hid hm7; have HX7 := Lib.hid ((HX1.out.trans HX6.out).more hg7 (fun k e => HOB.out k e)); clear hm7 hg7 hb7)
        refine ⟨fun h => absurd h (by decide), ?_⟩
        refine plan_one rfl (fun K hK => ?_)
        go_wp2
        refine ⟨fun h => absurd h (by decide), ?_⟩
        unfold wpPlan
        go_wp2
        go_ret
        exact ⟨_, rfl, HM7.out, HX7.out⟩
    · have hn1 : rows.length = 1 := by omega
      rw [mprf_one sha (by omega), hn1]
      clear hr HR
      go_enter Tryd.func15, Tryd.ntmps15
      go_wp2
      go_ret
      exact ⟨_, rfl, DMine.nil _ _, Ext.refl _⟩
end Go.Proofs.YthbfodmpoheahaaDoor

/-
  What stage 11's laws begin with, as plain facts. Conditions: none; no function is named here.
-/
namespace Go.Proofs.YthbfodmpoheahaaDoor
open Pol (co Sm)

def awl : List (List Nat) := [[1], [2], [3]]
theorem spl2 : spl 2 = 1 := spl_mid (e := 0) (by decide) (by decide)
theorem spl3 : spl 3 = 2 := spl_mid (e := 1) (by decide) (by decide)
def n12 : List Nat := nd sha (lf sha [1]) (lf sha [2])
theorem aw_12 : mroot sha [[1], [2]] = n12 := by
  rw [mroot_more sha (by decide), show ([[1], [2]] : List (List Nat)).length = 2 from rfl, spl2]
  show nd sha (mroot sha [[1]]) (mroot sha [[2]]) = _
  rw [mroot_one, mroot_one]
  rfl
theorem aw_root : mroot sha awl = nd sha n12 (lf sha [3]) := by
  rw [mroot_more sha (by decide), show awl.length = 3 from rfl, spl3]
  show nd sha (mroot sha [[1], [2]]) (mroot sha [[3]]) = _
  rw [aw_12, mroot_one]
theorem aw_prf : mprf sha awl 2 = [n12] := by
  rw [mprf_hi sha (by decide) (by rw [show awl.length = 3 from rfl, spl3]; decide), show awl.length = 3 from rfl, spl3]
  show mprf sha [[3]] 0 ++ [mroot sha [[1], [2]]] = _
  rw [mprf_one sha (by decide), aw_12]
  rfl
theorem aw_lift (t : List Nat) : mlift sha (lf sha t) 3 2 [n12] = some (nd sha n12 (lf sha t)) := by
  have h := mlift_hi sha (lf sha t) (n := 3) 2 [] n12 (by decide) (by rw [spl3]; decide)
  rw [spl3] at h
  rw [show ([] ++ [n12] : List (List Nat)) = [n12] from rfl] at h
  rw [h, mlift_one sha _ _ _ (by decide), if_pos rfl]
  rfl
theorem n12_is : n12 = [107, 207, 14, 46, 147, 224, 161, 142, 34, 120, 154, 238, 150, 94, 101, 83, 244, 251, 233, 63, 10, 207, 196, 167, 5, 214, 145, 200, 49, 28, 73, 101] := by
  unfold n12 nd
  show sha (1 :: (sha [0, 1] ++ sha [0, 2])) = _
  rw [sha_l1, sha_l2]
  exact sha_n12
theorem aw_ne : nd sha n12 (lf sha [2]) ≠ nd sha n12 (lf sha [3]) := by
  unfold nd
  show sha (1 :: (n12 ++ sha [0, 2])) ≠ sha (1 :: (n12 ++ sha [0, 3]))
  rw [n12_is, sha_l2, sha_l3]
  intro h
  have h2 := (sha_q.symm.trans h).trans sha_r
  exact absurd h2 (by decide)
theorem aw_t : shw (mroot sha awl) [3] 2 3 (mprf sha awl 2) = true := by
  have h := shw_is (d := mroot sha awl) (t := [3]) (i := 2) (n := 3) (by decide) (by decide) (aw_lift [3])
  rw [aw_root, decide_eq_true rfl] at h
  rw [aw_root, aw_prf]
  exact h
theorem aw_f : shw (mroot sha awl) [2] 2 3 (mprf sha awl 2) = false := by
  have h := shw_is (d := mroot sha awl) (t := [2]) (i := 2) (n := 3) (by decide) (by decide) (aw_lift [2])
  rw [aw_root, decide_eq_false aw_ne] at h
  rw [aw_root, aw_prf]
  exact h
end Go.Proofs.YthbfodmpoheahaaDoor

/-
  What stage 11's laws begin with, walked, under what the functions of layers 10 and 11 are to do. Conditions: none.
-/
namespace Go.Proofs.YthbfodmpoheahaaDoor
open Go.RowKit
open Pol (co Sm)

set_option maxHeartbeats 3200000 in
set_option maxRecDepth 100000 in
theorem awake11 (S : ShaOH) (C : MerkleSaid) (w : World) (hgl : GL w) : Calls Tryd.prog 9 #[] w (Holds w) := by
  obtain ⟨g0, hg0⟩ : ∃ g, w.heap.size = g := ⟨_, rfl⟩
  have HGL := Lib.hid hgl
  have s1 : Sl (w.alloc (.cells #[.int .u8 1] 5)) (.slice (some ⟨g0, 0, none⟩) 1 1) [1] := sl_lit1 w g0 1 (by omega) hg0
  have z1 : (w.alloc (.cells #[.int .u8 1] 5)).heap.size = g0 + 1 := by rw [← hg0]; simp
  have x1 : Ext w (w.alloc (.cells #[.int .u8 1] 5)) := (Ext.refl w).alloc _
  obtain ⟨w1, hw1⟩ : ∃ q, w.alloc (.cells #[.int .u8 1] 5) = q := ⟨_, rfl⟩
  rw [hw1] at s1 z1 x1
  have s2 := sl_lit1 w1 (g0 + 1) 2 (by omega) z1
  have z2 : (w1.alloc (.cells #[.int .u8 2] 5)).heap.size = g0 + 1 + 1 := by rw [← z1]; simp
  have x2 : Ext w1 (w1.alloc (.cells #[.int .u8 2] 5)) := (Ext.refl w1).alloc _
  have e2 : ((2 : Nat) : Int) = 2 := rfl
  rw [e2] at s2
  obtain ⟨w2, hw2⟩ : ∃ q, w1.alloc (.cells #[.int .u8 2] 5) = q := ⟨_, rfl⟩
  rw [hw2] at s2 z2 x2
  have s3 := sl_lit1 w2 (g0 + 1 + 1) 3 (by omega) z2
  have z3 : (w2.alloc (.cells #[.int .u8 3] 5)).heap.size = g0 + 1 + 1 + 1 := by rw [← z2]; simp
  have x3 : Ext w2 (w2.alloc (.cells #[.int .u8 3] 5)) := (Ext.refl w2).alloc _
  have e3 : ((3 : Nat) : Int) = 3 := rfl
  rw [e3] at s3
  obtain ⟨w3, hw3⟩ : ∃ q, w2.alloc (.cells #[.int .u8 3] 5) = q := ⟨_, rfl⟩
  rw [hw3] at s3 z3 x3
  have r4 := rrd_lit w3 _ awl (rowsV_3 ((s1.ext x2).ext x3) (s2.ext x3) s3)
  rw [z3] at r4
  have x4 : Ext w3 (w3.alloc (.cells #[.slice (some ⟨g0, 0, none⟩) 1 1, .slice (some ⟨g0 + 1, 0, none⟩) 1 1, .slice (some ⟨g0 + 1 + 1, 0, none⟩) 1 1] 35)) := (Ext.refl w3).alloc _
  obtain ⟨w4, hw4⟩ : ∃ q, w3.alloc (.cells #[.slice (some ⟨g0, 0, none⟩) 1 1, .slice (some ⟨g0 + 1, 0, none⟩) 1 1, .slice (some ⟨g0 + 1 + 1, 0, none⟩) 1 1] 35) = q := ⟨_, rfl⟩
  have HW4 := Lib.hid (show (((w.alloc (.cells #[.int .u8 1] 5)).alloc (.cells #[.int .u8 2] 5)).alloc (.cells #[.int .u8 3] 5)).alloc (.cells #[.slice (some ⟨g0, 0, none⟩) 1 1, .slice (some ⟨g0 + 1, 0, none⟩) 1 1, .slice (some ⟨g0 + 1 + 1, 0, none⟩) 1 1] 35) = w4 from by rw [hw1, hw2, hw3, hw4])
  have HR4 := Lib.hid (show RRd w4 (some ⟨g0 + 1 + 1 + 1, 0, none⟩) awl from by rw [← hw4]; exact r4)
  have HX4 := Lib.hid (show Ext w w4 from by rw [← hw4]; exact ((x1.trans x2).trans x3).trans x4)
  clear s1 z1 x1 s2 z2 x2 s3 z3 x3 r4 x4 hw1 hw2 hw3 hw4 e2 e3
  have hla : awl.length = 3 := rfl
  have hlr : ∀ i, i < awl.length → (ro awl i).length ≤ 32768 := fun i hi => by
    match i, hi with
    | 0, _ => decide
    | 1, _ => decide
    | 2, _ => decide
  have HP := Lib.hid (show Calls Tryd.prog 11 #[.slice (some ⟨g0 + 1 + 1 + 1, 0, none⟩) 3 3, .int .i64 2] w4 (ProofS awl 2 w4) from C.prf awl 2 _ 3 w4 (by decide) (HGL.out.ext HX4.out) HR4.out (by decide) (by decide) hlr)
  have HRT := Lib.hid (fun W (h : Ext w4 W) => show Calls Tryd.prog 12 #[.slice (some ⟨g0 + 1 + 1 + 1, 0, none⟩) 3 3] W (Tells (dgv (mroot sha awl)) W) from C.root awl _ 3 W (HGL.out.ext (HX4.out.trans h)) (HR4.out.ext h) (by decide) (by decide) hlr)
  have HRN := Lib.hid (fun W (h : Ext w W) => show Calls Tryd.prog 12 #[.slice none 0 0] W (Tells (dgv (sha [])) W) from by
    have h1 := C.root [] none 0 W (HGL.out.ext h) (RRd.nil _ _) (by simp) (by simp) (by simp)
    rw [mroot_nil] at h1
    exact h1)
  have HON := Lib.hid (fun W (h : Ext w W) => show Calls Tryd.prog 22 #[.slice none 0 0] W (Tells (dgv (sha [])) W) from (S.of [] none 0 W (HGL.out.ext h) (Rd.nil _ _) (Nat.le_refl _) (by simp)).mono fun _ _ h => h.tells)
  have HHX := Lib.hid (fun W => S.hex (bt 32 (co (sha []))) (sha []) W (bt_dgc _) (sha_len _) (sha_sm _))
  have HT := Lib.hid (show hxs (sha []) = hxs [227, 176, 196, 66, 152, 252, 28, 20, 154, 251, 244, 200, 153, 111, 185, 36, 39, 174, 65, 228, 100, 155, 147, 76, 164, 149, 153, 27, 120, 82, 184, 85] from by rw [sha_nil])
  have HSH := Lib.hid (fun (W : World) (h : Ext w W) (t : List Nat) (x : Nat) (ht : t = [x]) (hx : x < 256) (B : Option Addr) (k : Nat) (hk : 1 ≤ k) (hd : DRd W B (mprf sha awl 2)) =>
    show Calls Tryd.prog 16 #[dgv (mroot sha awl), .slice (some ⟨W.heap.size, 0, none⟩) 1 1, .int .i64 2, .int .i64 3, .slice B 1 k] (W.alloc (.cells #[.int .u8 (x : Int)] 5)) (Tells (.bool (shw (mroot sha awl) t 2 3 (mprf sha awl 2))) (W.alloc (.cells #[.int .u8 (x : Int)] 5))) from by
    subst ht
    have hl1 : (mprf sha awl 2).length = 1 := by rw [aw_prf]; rfl
    have h1 := C.shows (mroot sha awl) [x] 2 3 (mprf sha awl 2) (some ⟨W.heap.size, 0, none⟩) B 1 k (W.alloc (.cells #[.int .u8 (x : Int)] 5)) ((HGL.out.ext h).ext ((Ext.refl _).alloc _)) (mroot_32 _) (mroot_sm _) (rd_one W x hx) (by simp) (by simp) (hd.ext ((Ext.refl _).alloc _)) (by rw [hl1]; exact hk) (by rw [hl1]; decide)
    rw [hl1] at h1
    exact h1)
  have HS3 := Lib.hid (fun (W : World) (h : Ext w W) (B : Option Addr) (k : Nat) (hk : 1 ≤ k) (hd : DRd W B (mprf sha awl 2)) => show Calls Tryd.prog 16 #[dgv (mroot sha awl), .slice (some ⟨W.heap.size, 0, none⟩) 1 1, .int .i64 2, .int .i64 3, .slice B 1 k] (W.alloc (.cells #[.int .u8 3] 5)) (Tells (.bool true) (W.alloc (.cells #[.int .u8 3] 5))) from by
    have h1 := HSH.out W h [3] 3 rfl (by omega) B k hk hd
    rw [aw_t] at h1
    exact h1)
  have HS2 := Lib.hid (fun (W : World) (h : Ext w W) (B : Option Addr) (k : Nat) (hk : 1 ≤ k) (hd : DRd W B (mprf sha awl 2)) => show Calls Tryd.prog 16 #[dgv (mroot sha awl), .slice (some ⟨W.heap.size, 0, none⟩) 1 1, .int .i64 2, .int .i64 3, .slice B 1 k] (W.alloc (.cells #[.int .u8 2] 5)) (Tells (.bool false) (W.alloc (.cells #[.int .u8 2] 5))) from by
    have h1 := HSH.out W h [2] 2 rfl (by omega) B k hk hd
    rw [aw_f] at h1
    exact h1)
  have hz := zero_digest.1
  have HZ32 := Lib.hid (fun (_ : Unit) => show (bt 32 fun _ => 0).size = 32 from bt_size _ _)
  obtain ⟨Z, hZ⟩ : ∃ Z, (bt 32 fun _ => 0) = Z := ⟨_, rfl⟩
  rw [hZ] at hz HZ32
  have HPL := Lib.hid (show (mprf sha awl 2).length = 1 from by rw [aw_prf]; rfl)
  have HVR := Lib.hid (bt_dgc (mroot sha awl))
  have HQN := Lib.hid (fun W => show (binOp .eql 30 (dgv (sha [])) (dgv (sha []))).run Tryd.prog W = .ok (.bool true) W from by
    have h := run_eq_dgc (bt_dgc (sha [])) (bt_dgc (sha [])) (sha_len _) (sha_len _) (sha_sm _) (sha_sm _) W
    rw [decide_eq_true rfl] at h
    exact h)
  unfold ProofS at HP
  unfold dgv at HRT HRN HON HS3 HS2 HQN
  generalize mprf sha awl 2 = P at HP HS3 HS2 HPL
  obtain ⟨VR, hVR⟩ : ∃ V, bt 32 (co (mroot sha awl)) = V := ⟨_, rfl⟩
  rw [hVR] at HRT HS3 HS2 HVR
  obtain ⟨VN, hVN⟩ : ∃ V, bt 32 (co (sha [])) = V := ⟨_, rfl⟩
  rw [hVN] at HRN HON HHX HQN
  obtain ⟨DN, hDN⟩ : ∃ D, sha [] = D := ⟨_, rfl⟩
  rw [hDN] at HHX HT
  clear HSH hgl hla hlr hZ hVR hVN hDN
  go_enter Tryd.func9, Tryd.ntmps9
  go_wp2_with fail
  rw [HW4.out]
  refine HP.out.mono ?_
  rintro e w5 ⟨v, rfl, hm, hx5⟩
  have HX5 := Lib.hid hx5
  obtain ⟨B, k, rfl, hk, hrd⟩ := hm.slice
  rw [HPL.out] at hk ⊢
  have HK := Lib.hid hk
  have HRD := Lib.hid hrd
  clear hm hx5 hk hrd
  go_wp2_with fail
  refine (HRT.out _ HX5.out).mono ?_
  rintro e w6 ⟨rfl, hx6⟩
  have HX6 := Lib.hid (HX5.out.trans hx6)
  have HRD6 := Lib.hid (HRD.out.ext hx6)
  obtain ⟨gx, hgx⟩ : ∃ g, w6.heap.size = g := ⟨_, rfl⟩
  have HGX := Lib.hid (show (w6.alloc (.cells Z 30)).heap[gx]? = some (.cells Z 30 (0, 0)) from by rw [← hgx]; exact heap_alloc_new _ _)
  have HI := Lib.hid HVR.out.info
  have HO := Lib.hid HVR.out.one
  have HZZ := Lib.hid (show Z.size = VR.size from by rw [HVR.out.1]; exact HZ32.out ())
  have HX7 := Lib.hid (show Ext w6 ((w6.alloc (.cells Z 30)).setRow gx VR) from Ext.setRow ((Ext.refl w6).alloc _) (by rw [← hgx]; exact Nat.le_refl _) VR)
  have HG7 := Lib.hid (setRow_heap _ gx _ VR _ _ HGX.out)
  clear hx6
  go_wp2_with (with_reducible refine wpList_store_all rfl 30 (.tmp 4) (.tmp 15) rfl gx Z VR rfl rfl HGX.out HI.out HZZ.out HO.out ?_)
  generalize (w6.alloc (.cells Z 30)).setRow gx VR = w7 at HX7 HG7 ⊢
  clear hgx
  have HY7 := Lib.hid (HX4.out.trans (HX6.out.trans HX7.out))
  have HRD7 := Lib.hid (HRD6.out.ext HX7.out)
  refine (HRN.out _ HY7.out).mono ?_
  rintro e w8 ⟨rfl, hx8⟩
  have HX8 := Lib.hid hx8
  clear hx8
  go_wp2_with fail
  refine (HON.out _ (HY7.out.trans HX8.out)).mono ?_
  rintro e w9 ⟨rfl, hx9⟩
  have HX9 := Lib.hid (HX8.out.trans hx9)
  have hq := HQN.out
  clear hx9
  go_wp2_with fail
  refine (HON.out _ (HY7.out.trans HX9.out)).mono ?_
  rintro e w10 ⟨rfl, hx10⟩
  have HX10 := Lib.hid (HX9.out.trans hx10)
  clear hx10
  go_wp2_with fail
  refine (HHX.out _).mono ?_
  rintro e w11 ⟨rfl, hx11⟩
  have HX11 := Lib.hid (HX10.out.trans hx11)
  obtain ⟨s, hse⟩ : ∃ s, hxb DN = s := ⟨_, rfl⟩
  have hs : s.toList = hxs [227, 176, 196, 66, 152, 252, 28, 20, 154, 251, 244, 200, 153, 111, 185, 36, 39, 174, 65, 228, 100, 155, 147, 76, 164, 149, 153, 27, 120, 82, 184, 85] := by rw [← hse, hxb_list]; exact HT.out
  rw [hse]
  have HG11 := Lib.hid (WBlk.ext' HG7.out HX11.out)
  have HC3 := Lib.hid (HS3.out w11 (HY7.out.trans HX11.out) B k HK.out (HRD7.out.ext HX11.out))
  clear hx11 hse
  go_wp2_with (first | (refine wpList_load_row_g (by rfl) 30 (.tmp 4) rfl gx rfl 30 VR (0, 0) _ HG11.out Tryd.underlying30 rfl HI.out ?_) | (refine wpIf_load_row (by rfl) 30 (.tmp 4) rfl gx rfl 30 VR (0, 0) _ HG11.out Tryd.underlying30 rfl HI.out ?_))
  refine HC3.out.mono ?_
  rintro e w12 ⟨rfl, hx12⟩
  have HX12 := Lib.hid (show Ext w7 w12 from (HX11.out.alloc _).trans hx12)
  have HG12 := Lib.hid (WBlk.ext' HG7.out HX12.out)
  have HC2 := Lib.hid (HS2.out w12 (HY7.out.trans HX12.out) B k HK.out (HRD7.out.ext HX12.out))
  clear hx12 hs
  go_wp2_with (first | (refine wpList_load_row_g (by rfl) 30 (.tmp 4) rfl gx rfl 30 VR (0, 0) _ HG12.out Tryd.underlying30 rfl HI.out ?_) | (refine wpIf_load_row (by rfl) 30 (.tmp 4) rfl gx rfl 30 VR (0, 0) _ HG12.out Tryd.underlying30 rfl HI.out ?_))
  refine HC2.out.mono ?_
  rintro e w13 ⟨rfl, hx13⟩
  have HX13 := Lib.hid (show Ext w7 w13 from (HX12.out.alloc _).trans hx13)
  clear hx13
  go_wp2
  go_ret
  exact ⟨rfl, HY7.out.trans HX13.out⟩
end Go.Proofs.YthbfodmpoheahaaDoor

/-
  What few and same of layer 11's laws tell. Conditions: no more than 2^20 digests.
-/
namespace Go.Proofs.YthbfodmpoheahaaDoor
open Go.RowKit
open Pol (co Sm)

theorem w64_succ (i : Nat) (h : i ≤ 1048577) : wrap64 ((i : Int) + 1) = ((i + 1 : Nat) : Int) := by unfold wrap64; omega
def fewQ (rows : List (List Nat)) : Prop := rows.length ≤ 12 ∧ ∀ i, i < rows.length → (ro rows i).length ≤ 20
set_option maxHeartbeats 800000 in
theorem few11 (rows : List (List Nat)) (A : Option Addr) (ca : Nat) (w : World) (hr : RRd w A rows) (hl : rows.length ≤ maxLen) :
    Calls Tryd.prog 10 #[.slice A rows.length ca] w (fun e w' => ∃ b, e = .returned (.bool b) ∧ (b = true → fewQ rows) ∧ w = w') := by
  have HR := Lib.hid hr
  have HQ := Lib.hid (show rows.length ≤ 12 → (∀ i, i < rows.length → (ro rows i).length ≤ 20) → fewQ rows from fun a b => ⟨a, b⟩)
  obtain ⟨n, hn⟩ : ∃ n, rows.length = n := ⟨_, rfl⟩
  have HN := Lib.hid hn
  have hm : (maxLen : Int) = 9223372036854775807 := by decide
  have hl' : (n : Int) ≤ 9223372036854775807 := by rw [← hm]; omega
  rw [hn] at HQ ⊢
  clear hr hl hn hm
  go_enter Tryd.func10, Tryd.ntmps10
  go_wp2
  go_loopg [6] n (fun g s6 wx => ∃ i : Nat, i + g = n ∧ s6 = .int .i64 (i : Int) ∧ (∀ j, j < i → (ro rows j).length ≤ 20) ∧ wx = w)
  case atStart => exact ⟨0, by omega, rfl, fun j hj => by omega, rfl⟩
  case round =>
    obtain ⟨i, hig, rfl, hs, rfl⟩ := hrel
    have HS := Lib.hid hs
    clear hs
    cases gk with
    | zero =>
      obtain rfl : i = n := by omega
      by_cases h12 : i ≤ 12
      · have d1 : decide ((i : Int) ≤ 12) = true := decide_eq_true (by omega)
        have HF := Lib.hid (HQ.out h12 HS.out)
        go_wp2
        go_ret
        exact ⟨true, rfl, fun _ => HF.out, rfl⟩
      · have d1 : decide ((i : Int) ≤ 12) = false := decide_eq_false (by omega)
        go_wp2
        go_ret
        exact ⟨false, rfl, fun h => by simp at h, rfl⟩
    | succ g =>
      have hi : i < n := by omega
      have hiI : (i : Int) < (n : Int) := by omega
      obtain ⟨b1, o1, R1, c1, rfl, hc1, hl1, hr1⟩ := HR.out i (by rw [HN.out]; exact hi)
      obtain ⟨t, ht⟩ : ∃ t, (ro rows i).length = t := ⟨_, rfl⟩
      have HT := Lib.hid ht
      rw [ht] at hc1 hl1
      have HIG := Lib.hid hig
      clear hr1 ht hig
      by_cases h20 : t ≤ 20
      · have d2 : decide ((t : Int) > 20) = false := decide_eq_false (by omega)
        have n2 : ¬ 20 < (t : Int) := by omega
        have HS2 := Lib.hid (show ∀ j, j < i + 1 → (ro rows j).length ≤ 20 from fun j hj => by
          by_cases e : j = i
          · rw [e, HT.out]; exact h20
          · exact HS.out j (by omega))
        have e1 : IntKind.i64.wrap ((i : Int) + 1) = ((i + 1 : Nat) : Int) := by rw [IntKind.wrap_i64]; omega
        clear h20
        go_wp2
        go_roundg g
        case measure => omega
        case rel => exact ⟨i + 1, by have := HIG.out; omega, by first | rfl | (congr 1; omega) | go_num, HS2.out, rfl⟩
      · have d2 : decide ((t : Int) > 20) = true := decide_eq_true (by omega)
        have n2 : 20 < (t : Int) := by omega
        clear h20
        go_wp2
        go_ret
        exact ⟨false, rfl, fun h => by simp at h, rfl⟩
theorem ro_ext2 {a b : List (List Nat)} (hl : a.length = b.length) (h : ∀ i, i < a.length → ro a i = ro b i) : a = b := ro_ext hl h
set_option maxHeartbeats 1600000 in
set_option maxRecDepth 100000 in
theorem same11 (a b : List (List Nat)) (A B : Option Addr) (ca cb : Nat) (w : World) (ha : DRd w A a) (hb : DRd w B b) (hla : a.length ≤ 1048576) :
    Calls Tryd.prog 14 #[.slice A a.length ca, .slice B b.length cb] w (Tells (.bool (decide (a = b))) w) := by
  by_cases hlm : a.length = b.length
  · obtain ⟨v, hv⟩ : ∃ v, decide (a = b) = v := ⟨_, rfl⟩
    have HT := Lib.hid (fun (h : ∀ j, j < a.length → ro a j = ro b j) => show v = true from by rw [← hv]; exact decide_eq_true (ro_ext hlm h))
    have HF := Lib.hid (fun j (h : ro a j ≠ ro b j) => show v = false from by rw [← hv]; exact decide_eq_false (fun e => h (by rw [e])))
    rw [hv, ← hlm]
    have HA := Lib.hid ha
    have HB := Lib.hid hb
    obtain ⟨n, hn⟩ : ∃ n, a.length = n := ⟨_, rfl⟩
    have HN := Lib.hid hn
    have HM := Lib.hid (show b.length = n from by rw [← hlm, hn])
    rw [hn] at hla HT ⊢
    clear ha hb hn hv hlm
    go_enter Tryd.func14, Tryd.ntmps14
    go_wp2
    go_loopg [13] n (fun g s wx => ∃ i : Nat, i + g = n ∧ s = .int .i64 (i : Int) ∧ Ext w wx ∧ ∀ j, j < i → ro a j = ro b j)
    case atStart => exact ⟨0, by omega, rfl, Ext.refl w, fun j hj => by omega⟩
    case round =>
      obtain ⟨i, hig, rfl, hx, hsame⟩ := hrel
      have HSAME := Lib.hid hsame
      have HX := Lib.hid hx
      clear hsame hx
      cases gk with
      | zero =>
        obtain rfl : i = n := by omega
        have hv := HT.out HSAME.out
        subst hv
        clear hig HF HT
        go_wp2
        go_ret
        exact ⟨rfl, HX.out⟩
      | succ g =>
        have hi : i < n := by omega
        have hiI : (i : Int) < (n : Int) := by omega
        have HAI := Lib.hid (HA.out.one i (by rw [HN.out]; exact hi))
        have HBI := Lib.hid (HB.out.one i (by rw [HM.out]; exact hi))
        obtain ⟨b1, o1, rfl, hc1⟩ := HA.out.addr (by rw [HN.out]; omega)
        obtain ⟨b2, o2, rfl, hc2⟩ := HB.out.addr (by rw [HM.out]; omega)
        have HC1 := Lib.hid (hc1 i (by rw [HN.out]; exact hi))
        have HC2 := Lib.hid (hc2 i (by rw [HM.out]; exact hi))
        have HSN := Lib.hid (fun (e : ro a i = ro b i) => show ∀ j, j < i + 1 → ro a j = ro b j from fun j hj => by
          by_cases e2 : j = i
          · rw [e2, e]
          · exact HSAME.out j (by omega))
        have HFI := Lib.hid (HF.out i)
        obtain ⟨x, hx⟩ : ∃ x, ro a i = x := ⟨_, rfl⟩
        obtain ⟨y, hy⟩ : ∃ y, ro b i = y := ⟨_, rfl⟩
        rw [hx] at HAI HC1 HSN HFI
        rw [hy] at HBI HC2 HSN HFI
        have L1 := Lib.hid (fun (W : World) (h : Ext w W) => show (Instr.loadAt 30 (.pointer (some ⟨b1, o1 + i * 32, none⟩))).run Tryd.prog W = .ok (dgv x) W from run_load_dig W b1 (o1 + i * 32) x (fun j hj => by rw [(h.below.cell (p := ⟨b1, o1 + i * 32 + j, none⟩) (block_lt_of_cell (HC1.out j hj)))]; exact HC1.out j hj))
        have L2 := Lib.hid (fun (W : World) (h : Ext w W) => show (Instr.loadAt 30 (.pointer (some ⟨b2, o2 + i * 32, none⟩))).run Tryd.prog W = .ok (dgv y) W from run_load_dig W b2 (o2 + i * 32) y (fun j hj => by rw [(h.below.cell (p := ⟨b2, o2 + i * 32 + j, none⟩) (block_lt_of_cell (HC2.out j hj)))]; exact HC2.out j hj))
        have HQ := Lib.hid (fun W => run_ne_dgc (bt_dgc x) (bt_dgc y) HAI.out.1 HBI.out.1 HAI.out.2 HBI.out.2 W)
        unfold dgv at L1 L2
        obtain ⟨VX, hVX⟩ : ∃ V, bt 32 (co x) = V := ⟨_, rfl⟩
        obtain ⟨VY, hVY⟩ : ∃ V, bt 32 (co y) = V := ⟨_, rfl⟩
        rw [hVX] at L1 HQ
        rw [hVY] at L2 HQ
        have HIG := Lib.hid hig
        have hn0 : (0 : Int) ≤ (i : Int) := by omega
        have hib : i ≤ 1048577 := by omega
        have HLA := Lib.hid hla
        clear hc1 hc2 hx hy hVX hVY hig hla hib
        go_wp2
        have hq := HQ.out
        refine wp_region_quiet (C := AfterH w) (by kernel_rfl) (by kernel_rfl) (show AfterH w wr.drew from Ext.drew HX.out) ?_
        refine wpQuiet_step (fun K hK => ?_); go_simp; refine ⟨_, fun _ _ => rfl, hK _ ?_⟩; clear hK K
        refine wpQuiet_step (fun K hK => ?_); go_simp; refine ⟨_, fun _ _ => rfl, hK _ ?_⟩; clear hK K
        refine wpQuiet_step (fun K hK => ?_); go_simp; refine ⟨_, fun _ _ => rfl, hK _ ?_⟩; clear hK K
        refine wpQuiet_load rfl 30 (.tmp 18) rfl (.agg VX) (fun W hW => L1.out W hW) ?_
        refine wpQuiet_step (fun K hK => ?_); go_simp; refine ⟨_, fun _ _ => rfl, hK _ ?_⟩; clear hK K
        refine wpQuiet_step (fun K hK => ?_); go_simp; refine ⟨_, fun _ _ => rfl, hK _ ?_⟩; clear hK K
        refine wpQuiet_step (fun K hK => ?_); go_simp; refine ⟨_, fun _ _ => rfl, hK _ ?_⟩; clear hK K
        refine wpQuiet_load rfl 30 (.tmp 22) rfl (.agg VY) (fun W hW => L2.out W hW) ?_
        refine wpQuiet_step (fun K hK => ?_); go_simp; refine ⟨_, fun _ _ => rfl, hK _ ?_⟩; clear hK K
        refine wpQuiet_nil ?_
        intro w3 hx3
        have HX3 := Lib.hid (show Ext w w3 from hx3)
        clear hx3 hq
        by_cases hxy : x = y
        · have dq : decide (x = y) = true := decide_eq_true hxy
          rw [dq]
          have HS2 := Lib.hid (HSN.out hxy)
          clear hxy dq
          go_wp2
          go_roundg g
          case measure => omega
          case rel => exact ⟨i + 1, by have := HIG.out; omega, by rw [w64_succ i (by have := HLA.out; omega)], HX3.out, HS2.out⟩
        · have dq : decide (x = y) = false := decide_eq_false hxy
          rw [dq]
          have hv := HFI.out hxy
          subst hv
          clear hxy dq HFI HF HT
          go_wp2
          go_ret
          exact ⟨rfl, HX3.out⟩
  · have hv : decide (a = b) = false := decide_eq_false (fun e => hlm (by rw [e]))
    rw [hv]
    obtain ⟨n, hn⟩ : ∃ n, a.length = n := ⟨_, rfl⟩
    obtain ⟨m, hm⟩ : ∃ m, b.length = m := ⟨_, rfl⟩
    rw [hn, hm] at hlm ⊢
    have hlI : ¬ (n : Int) = (m : Int) := by omega
    clear ha hb hla hn hm hv
    go_enter Tryd.func14, Tryd.ntmps14
    go_wp2
    go_ret
    exact ⟨rfl, Ext.refl _⟩
end Go.Proofs.YthbfodmpoheahaaDoor

/-
  The law MerkleTells, walked, under what the functions of layers 10 and 11 and the document's Of are to do. Conditions: none.
-/
namespace Go.Proofs.YthbfodmpoheahaaDoor
open Go.RowKit
open Pol (co Sm)

theorem dep_big (rows : List (List Nat)) (i : Nat) (h : rows.length ≤ 12) : (mprf sha rows i).length ≤ 12 := by
  rw [mprf_len sha rows.length rows i (Nat.le_refl _)]
  exact Nat.le_trans (dep_le rows.length rows.length i (Nat.le_refl _)) h
theorem run_eq_dg (D : List Nat) (h : D.length = 32) (hs : Sm D) (W : World) : (binOp .eql 30 (dgv D) (dgv D)).run Tryd.prog W = .ok (.bool true) W := by
  have h1 := run_eq_dgc (bt_dgc D) (bt_dgc D) h h hs hs W
  rw [decide_eq_true rfl] at h1
  exact h1
set_option maxHeartbeats 1600000 in
set_option maxRecDepth 100000 in
theorem tells11_walk (S : ShaOH) (C : MerkleSaid) (R : RefOf) (rows : List (List Nat)) (at' : Int) (A : Option Addr) (c : Nat) (w : World) (hgl : GL w) (hr : RRd w A rows) (hc : rows.length ≤ c) (hl : rows.length ≤ maxLen) :
    Calls Tryd.prog 3 #[.slice A rows.length c, .int .i64 at'] w (Holds w) := by
  have HAW := Lib.hid (fun W (h : Ext w W) => awake11 S C W (hgl.ext h))
  have HFW := Lib.hid (fun W (h : Ext w W) => few11 rows A c W (hr.ext h) hl)
  have HC := Lib.hid hc
  have hls := fun (h : fewQ rows) => show ∀ i, i < rows.length → (ro rows i).length ≤ 32768 from fun i hi => Nat.le_trans (h.2 i hi) (by decide)
  have HRT := Lib.hid (fun (h : fewQ rows) W (hx : Ext w W) => C.root rows A c W (hgl.ext hx) (hr.ext hx) hc (by have := h.1; omega) (hls h))
  have HRR := Lib.hid (fun (h : fewQ rows) W (hx : Ext w W) => ref11_root R 4096 rows A c W (by have := h.1; omega) (hr.ext hx) hc (by have := h.1; omega) (hls h))
  have HPR := Lib.hid (fun (h : fewQ rows) i (hi : i < rows.length) W (hx : Ext w W) => C.prf rows i A c W hi (hgl.ext hx) (hr.ext hx) hc (by have := h.1; omega) (hls h))
  have HPX := Lib.hid (fun (h : at' < 0 ∨ (rows.length : Int) ≤ at') W => C.prx rows.length c at' A W h)
  have HRP := Lib.hid (fun (h : fewQ rows) i (hi : i < rows.length) W (hx : Ext w W) => ref11_proof R 4096 rows i A c W (by have := h.1; omega) hi (hr.ext hx) hc (by have := h.1; omega) (hls h))
  have HDB := Lib.hid (fun (h : fewQ rows) i => dep_big rows i h.1)
  have HQ := Lib.hid (fun W => run_eq_dg (mroot sha rows) (mroot_32 _) (mroot_sm _) W)
  obtain ⟨n, hn⟩ : ∃ n, rows.length = n := ⟨_, rfl⟩
  rw [hn] at HFW HRT HRR HPR HPX HRP ⊢
  unfold ProofS at HPR
  unfold DOwn at HRP
  unfold dgv at HRT HRR HQ
  obtain ⟨VR, hVR⟩ : ∃ V, bt 32 (co (mroot sha rows)) = V := ⟨_, rfl⟩
  rw [hVR] at HRT HRR HQ
  clear hgl hr hc hl hls hn hVR
  go_enter Tryd.func3, Tryd.ntmps3
  go_wp2_with fail
  refine (HAW.out _ (Ext.refl w)).mono ?_
  rintro e w1 ⟨rfl, hx1⟩
  have HX1 := Lib.hid hx1
  clear hx1
  go_wp2_with fail
  refine (HFW.out _ HX1.out).mono ?_
  rintro e w2 ⟨b, rfl, hq, rfl⟩
  cases b with
  | false =>
    clear hq
    go_wp2_with fail
    refine (HAW.out _ HX1.out).mono ?_
    rintro e w3 ⟨rfl, hx3⟩
    have HX3 := Lib.hid (HX1.out.trans hx3)
    clear hx3
    go_wp2
    go_ret
    exact ⟨rfl, HX3.out⟩
  | true =>
    have HF := Lib.hid (hq rfl)
    have hqe := HQ.out
    clear hq
    by_cases hin : 0 ≤ at' ∧ at' < (n : Int)
    · obtain ⟨i, rfl⟩ : ∃ i : Nat, at' = (i : Int) := ⟨at'.toNat, by omega⟩
      have hi : i < n := by omega
      have HP := Lib.hid (HPR.out HF.out i hi)
      have HP2 := Lib.hid (HRP.out HF.out i hi)
      have HL := Lib.hid (HDB.out HF.out i)
      have d1 : decide ((i : Int) < 0) = false := decide_eq_false (by omega)
      have n1 : ¬ (i : Int) < 0 := by omega
      have d2 : decide ((i : Int) ≥ (n : Int)) = false := decide_eq_false (by omega)
      have n2 : ¬ (n : Int) ≤ (i : Int) := by omega
      clear hin hi HPX
      go_wp2_with fail
      refine (HP.out _ HX1.out).mono ?_
      rintro e w3 ⟨v, rfl, hm, hx3⟩
      have HX3 := Lib.hid (HX1.out.trans hx3)
      obtain ⟨B, k, rfl, hk, hrd⟩ := hm.slice
      have HRD := Lib.hid hrd
      clear hm hx3 hk hrd
      go_wp2_with fail
      refine (HRT.out HF.out _ HX3.out).mono ?_
      rintro e w4 ⟨rfl, hx4⟩
      have HX4 := Lib.hid (HX3.out.trans hx4)
      have HRD4 := Lib.hid (HRD.out.ext hx4)
      clear hx4
      go_wp2_with fail
      refine (HRR.out HF.out _ HX4.out).mono ?_
      rintro e w5 ⟨rfl, hx5⟩
      have HX5 := Lib.hid (HX4.out.trans hx5)
      have HRD5 := Lib.hid (HRD4.out.ext hx5)
      clear hx5
      go_wp2_with fail
      refine (HP2.out _ HX5.out).mono ?_
      rintro e w6 ⟨v, rfl, hm, hx6⟩
      have HX6 := Lib.hid (HX5.out.trans hx6)
      have HRD6 := Lib.hid (HRD5.out.ext hx6)
      obtain ⟨B2, k2, rfl, hk2, hrd2⟩ := hm.slice
      have HSM := Lib.hid (same11 (mprf sha rows i) (mprf sha rows i) B B2 k k2 w6 HRD6.out hrd2 (by have := HL.out; omega))
      rw [decide_eq_true rfl] at HSM
      clear hm hx6 hk2 hrd2
      go_wp2_with fail
      refine HSM.out.mono ?_
      rintro e w7 ⟨rfl, hx7⟩
      have HX7 := Lib.hid (HX6.out.trans hx7)
      clear hx7
      go_wp2
      go_ret
      exact ⟨rfl, HX7.out⟩
    · have ho : at' < 0 ∨ (n : Int) ≤ at' := by omega
      have HP := Lib.hid (HPX.out ho)
      clear hin
      by_cases h0 : at' < 0
      · have d1 : decide (at' < 0) = true := decide_eq_true h0
        clear ho
        go_wp2_with fail
        refine (HP.out _).mono ?_
        rintro e w3 ⟨rfl, hx3⟩
        have HX3 := Lib.hid (HX1.out.trans hx3)
        clear hx3
        go_wp2_with fail
        refine (HRT.out HF.out _ HX3.out).mono ?_
        rintro e w4 ⟨rfl, hx4⟩
        have HX4 := Lib.hid (HX3.out.trans hx4)
        clear hx4
        go_wp2_with fail
        refine (HRR.out HF.out _ HX4.out).mono ?_
        rintro e w5 ⟨rfl, hx5⟩
        have HX5 := Lib.hid (HX4.out.trans hx5)
        clear hx5
        go_wp2
        go_ret
        exact ⟨rfl, HX5.out⟩
      · have d1 : decide (at' < 0) = false := decide_eq_false h0
        have h2 : (n : Int) ≤ at' := by omega
        have d2 : decide (at' ≥ (n : Int)) = true := decide_eq_true h2
        clear ho
        go_wp2_with fail
        refine (HP.out _).mono ?_
        rintro e w3 ⟨rfl, hx3⟩
        have HX3 := Lib.hid (HX1.out.trans hx3)
        clear hx3
        go_wp2_with fail
        refine (HRT.out HF.out _ HX3.out).mono ?_
        rintro e w4 ⟨rfl, hx4⟩
        have HX4 := Lib.hid (HX3.out.trans hx4)
        clear hx4
        go_wp2_with fail
        refine (HRR.out HF.out _ HX4.out).mono ?_
        rintro e w5 ⟨rfl, hx5⟩
        have HX5 := Lib.hid (HX4.out.trans hx5)
        clear hx5
        go_wp2
        go_ret
        exact ⟨rfl, HX5.out⟩
end Go.Proofs.YthbfodmpoheahaaDoor

/-
  A load under a guard, in a quiet walk. Conditions: none; no function is named here.
-/
namespace Go.Proofs.YthbfodmpoheahaaDoor
open Go.RowKit

section
variable {P : Program} {ops : Array Oper} {C : World → Prop} {Q : Act → Prop}
theorem wpQuiet_load_g {o : Oper} {rest : List Oper} {a : Act} (hw : Region.wanted o (yielded ops a.tmps) = true) (ty : TypeId) (x : Operand) (ho : o.op = .load ty x) (v : Value)
    (hrun : ∀ w, C w → (Instr.loadAt ty (a.eval x)).run P w = .ok v w) (h : wpQuiet P ops C Q rest (a.put o.dst v)) : wpQuiet P ops C Q (o :: rest) a := by
  unfold wpQuiet
  rw [if_pos hw]
  refine ⟨v, fun w hw => ?_, h⟩
  unfold Oper.quietAt
  simp only [execOp, ho, Sem.run_bind, hrun w hw, Result.andThen, Sem.run_pure]
  exact ⟨rfl, rfl⟩
end
end Go.Proofs.YthbfodmpoheahaaDoor

/-
  The law MerkleShows, walked, under what the functions of layers 10 and 11 are to do. Conditions: none.
-/
namespace Go.Proofs.YthbfodmpoheahaaDoor
open Go.RowKit
open Pol (co Sm)

theorem run_load_u8s (W : World) (p : Addr) (v : Value) (h : W.cell? p = some v) : (Instr.loadAt 35 (.pointer (some p))).run Tryd.prog W = .ok v W := by
  simp only [Instr.loadAt, Instr.sureAddr, Sem.run_bind, Sem.run_pure, Result.andThen, loadVar]
  simp [isAgg, run_underlying Tryd.underlying35, h, Result.andThen, go_sem]
theorem wpList_of_wp {P : Program} {ops : Array Oper} {rest : List Oper} {o : Oper} {a : Act} {w : World} {Q : Exit → Act → World → Prop} (hgd : Region.wanted o (yielded ops a.tmps) = true) (h : Oper.wp P o a w (fun a w => wpList P ops Q rest a w) Q) : wpList P ops Q (o :: rest) a w := by
  unfold wpList
  rw [if_pos hgd]
  exact .inl h
theorem wpList_build_dig_g {ops : Array Oper} {rest : List Oper} {o : Oper} {a : Act} {w : World} {Q : Exit → Act → World → Prop} (hgd : Region.wanted o (yielded ops a.tmps) = true) (x : Operand)
    (ho : o.op = .buildSlice 25 1 #[(0, x)]) (V : Array Value) (hx : a.eval x = .agg V) (hV : V.size = 32)
    (h : wpList Tryd.prog ops Q rest (a.put o.dst (.slice (some ⟨w.heap.size, 0, none⟩) 1 1)) (w.alloc (.cells V 30))) : wpList Tryd.prog ops Q (o :: rest) a w :=
  wpList_of_wp hgd (by
    unfold Oper.wp execOp
    have e : (#[(0, x)] : Array (Nat × Operand)).map (fun (i, x) => (i, a.eval x)) = #[(0, .agg V)] := by simp [hx]
    simp only [ho, Sem.run_bind, e, run_build_dig V hV, Result.andThen_ok]
    exact h)
theorem wpList_append_drd_g {ops : Array Oper} {rest : List Oper} {o : Oper} {a : Act} {w : World} {Q : Exit → Act → World → Prop} (hgd : Region.wanted o (yielded ops a.tmps) = true) (s x : Operand)
    (ho : o.op = .call { callee := .builtin .append, args := #[s, x], argTypes := #[25, 25] })
    (base : Nat) (v : Value) (l m : List (List Nat)) (hs : a.eval s = v) (hown : DMine w base v l) (A : Option Addr) (n c : Nat) (hx : a.eval x = .slice A n c) (hn : m.length = n) (hr : DRd w A m)
    (hlen : l.length + m.length ≤ 1048576) (hbase : base ≤ w.heap.size)
    (h : ∀ v' w', DMine w' base v' (l ++ m) → w.grownBy w' v.ownBlock → (v'.ownBlock = v.ownBlock ∨ v'.ownBlock = some w.heap.size) → wpList Tryd.prog ops Q rest (a.put o.dst v') w') :
    wpList Tryd.prog ops Q (o :: rest) a w := by
  subst hn
  obtain ⟨v', w', hrun, h2, h3, h4⟩ := run_append_drd w base o.type v l m hown A c hr hlen hbase
  refine wpList_of_wp hgd ?_
  unfold Oper.wp execOp
  simp only [ho, resolve, invoke, builtin, Sem.run_bind, Sem.run_pure, Result.andThen_ok, List.map_toArray, List.map_cons, List.map_nil, hs, hx, hrun]
  exact h v' w' h2 h3 h4
theorem dmine_empty (w : World) : DMine (w.alloc (.cells #[] 30)) w.heap.size (.slice (some ⟨w.heap.size, 0, none⟩) 0 0) [] :=
  ⟨fun _ h => absurd h (by simp), World.ownsRow_lit w #[] 0 (Nat.le_refl _) (Nat.zero_le _) rfl⟩
theorem drd_keep {w w' : World} {g : Nat} {l : List (List Nat)} {row : Option Nat} (h : DRd w (some ⟨g, 0, none⟩) l) (hg : w.grownBy w' row) (hne : some g ≠ row) : DRd w' (some ⟨g, 0, none⟩) l :=
  ⟨h.1, h.2.keep hg (fun b o e _ => by injection e with e; injection e with e1; rw [← e1]; exact hne)⟩
theorem get_ro {l : List (List Nat)} {i : Nat} (h : i < l.length) : l[i]? = some (ro l i) := by
  unfold ro
  rw [List.getElem?_eq_getElem h]
  rfl
theorem shows_yes (l : List (List Nat)) (i : Nat) (hi : i < l.length) (hl : l.length ≤ 12) : shw (mroot sha l) (ro l i) (i : Int) (l.length : Int) (mprf sha l i) = true := by
  rw [shw_is hi (by omega) (mlift_prf sha l.length l i (ro l i) (Nat.le_refl _) (get_ro hi)), decide_eq_true rfl]
theorem shows_no (l : List (List Nat)) (i : Nat) (_hi : i < l.length) (d : List Nat) (t : List Nat) (ps : List (List Nat)) (h : ps.length ≠ (mprf sha l i).length) : shw d t (i : Int) (l.length : Int) ps = false := by
  refine shw_not ?_
  cases e : mlift sha (lf sha t) l.length i ps with
  | none => rfl
  | some x =>
    have h1 := (mlift_len sha l.length (lf sha t) l.length i ps (Nat.le_refl _)).1 (by rw [e]; rfl)
    rw [← mprf_len sha l.length l i (Nat.le_refl _)] at h1
    exact absurd h1 h
set_option maxHeartbeats 6400000 in
set_option maxRecDepth 100000 in
theorem shows11_walk (S : ShaOH) (C : MerkleSaid) (rows : List (List Nat)) (x : Nat) (hx256 : x < 256) (d : List Nat) (hd : d.length = 32) (hsd : Sm d) (A : Option Addr) (c : Nat) (w : World) (hgl : GL w) (hr : RRd w A rows) (hc : rows.length ≤ c) (hl : rows.length ≤ maxLen) :
    Calls Tryd.prog 5 #[.slice A rows.length c, .int .u8 (x : Int), dgv d] w (Holds w) := by
  have HAW := Lib.hid (fun W (h : Ext w W) => awake11 S C W (hgl.ext h))
  have HFW := Lib.hid (fun W (h : Ext w W) => few11 rows A c W (hr.ext h) hl)
  have hls := fun (h : fewQ rows) => show ∀ i, i < rows.length → (ro rows i).length ≤ 32768 from fun i hi => Nat.le_trans (h.2 i hi) (by decide)
  have HRT := Lib.hid (fun (h : fewQ rows) W (hx : Ext w W) => C.root rows A c W (hgl.ext hx) (hr.ext hx) hc (by have := h.1; omega) (hls h))
  have HPR := Lib.hid (fun (h : fewQ rows) i (hi : i < rows.length) W (hx : Ext w W) => C.prf rows i A c W hi (hgl.ext hx) (hr.ext hx) hc (by have := h.1; omega) (hls h))
  have HDB := Lib.hid (fun (h : fewQ rows) i => dep_big rows i h.1)
  have HRO := Lib.hid (fun i (hi : i < rows.length) => hr i hi)
  have HSC := Lib.hid (fun (h : fewQ rows) i (hi : i < rows.length) W R k qs D kd (hx : Ext w W) (ht : Rd w R (ro rows i)) (hk : (ro rows i).length ≤ k) (hq : DRd W D qs) (hkd : qs.length ≤ kd ∧ qs.length ≤ 64) =>
    C.shows (mroot sha rows) (ro rows i) (i : Int) (rows.length : Int) qs R D k kd W (hgl.ext hx) (mroot_32 _) (mroot_sm _) (ht.ext hx) hk (Nat.le_trans (h.2 i hi) (by decide)) hq hkd.1 (by omega))
  have HYS := Lib.hid (fun (h : fewQ rows) i (hi : i < rows.length) => shows_yes rows i hi h.1)
  have HNO := Lib.hid (fun i (hi : i < rows.length) ps h => shows_no rows i hi (mroot sha rows) (ro rows i) ps h)
  have HLB := Lib.hid (fun (W : World) (g : Nat) (h : W.heap[g]? = some (.cells (bt 32 (co (mroot sha rows))) 30 (0, 0))) => load_blk W g (mroot sha rows) 30 (0, 0) h)
  have HLM := Lib.hid (fun (W : World) (g : Nat) (h : W.heap[g]? = some (.cells (bt 32 (co d)) 30 (0, 0))) => load_blk W g d 30 (0, 0) h)
  have HLD := Lib.hid (fun W => one_drd W d hd hsd)
  have HVS := Lib.hid (show (bt 32 (co d)).size = 32 from bt_size _ _)
  have HVR := Lib.hid (bt_dgc (mroot sha rows))
  have HVD := Lib.hid (bt_dgc d)
  have hz := zero_digest.1
  have HZ32 := Lib.hid (fun (_ : Unit) => show (bt 32 fun _ => 0).size = 32 from bt_size _ _)
  obtain ⟨Z, hZ⟩ : ∃ Z, (bt 32 fun _ => 0) = Z := ⟨_, rfl⟩
  rw [hZ] at hz HZ32
  obtain ⟨n, hn⟩ : ∃ n, rows.length = n := ⟨_, rfl⟩
  rw [hn] at HFW HRT HPR HRO HSC HYS HNO ⊢
  unfold ProofS at HPR
  unfold dgv at HRT HSC HLB HLM ⊢
  obtain ⟨VR, hVR⟩ : ∃ V, bt 32 (co (mroot sha rows)) = V := ⟨_, rfl⟩
  rw [hVR] at HRT HSC HLB HVR
  obtain ⟨VD, hVD⟩ : ∃ V, bt 32 (co d) = V := ⟨_, rfl⟩
  rw [hVD] at HLM HVD HLD HVS ⊢
  obtain ⟨MR, hMR⟩ : ∃ m, mroot sha rows = m := ⟨_, rfl⟩
  rw [hMR] at HSC HYS HNO HVR
  obtain ⟨gd, hgd⟩ : ∃ g, w.heap.size = g := ⟨_, rfl⟩
  have HGD0 := Lib.hid (show (w.alloc (.cells VD 30)).heap[gd]? = some (.cells VD 30 (0, 0)) from by rw [← hgd]; exact heap_alloc_new w _)
  have HX0 := Lib.hid ((Ext.refl w).alloc (.cells VD 30))
  clear hgl hr hc hl hls hVR hVD hZ hMR hd hsd
  go_enter Tryd.func5, Tryd.ntmps5
  go_wp2_with (refine wpList_box_of rfl 30 (.tmp 2) rfl VD rfl ?_)
  generalize w.alloc (.cells VD 30) = w0 at HGD0 HX0 ⊢
  clear hgd
  go_wp2_with fail
  refine (HAW.out _ HX0.out).mono ?_
  rintro e w1 ⟨rfl, hx1⟩
  have HX1 := Lib.hid (HX0.out.trans hx1)
  have HGD1 := Lib.hid (WBlk.ext' HGD0.out hx1)
  clear hx1
  go_wp2_with fail
  refine (HFW.out _ HX1.out).mono ?_
  rintro e w2 ⟨b, rfl, hq, rfl⟩
  cases b with
  | false =>
    clear hq
    go_wp2_with fail
    refine (HAW.out _ HX1.out).mono ?_
    rintro e w3 ⟨rfl, hx3⟩
    have HX3 := Lib.hid (HX1.out.trans hx3)
    clear hx3
    go_wp2
    go_ret
    exact ⟨rfl, HX3.out⟩
  | true =>
    have HF := Lib.hid (hq rfl)
    clear hq
    by_cases hn0 : n = 0
    · subst hn0
      go_wp2_with fail
      refine (HAW.out _ HX1.out).mono ?_
      rintro e w3 ⟨rfl, hx3⟩
      have HX3 := Lib.hid (HX1.out.trans hx3)
      clear hx3
      go_wp2
      go_ret
      exact ⟨rfl, HX3.out⟩
    have hnI : ¬ (n : Int) = 0 := by omega
    have dn : decide ((n : Int) = 0) = false := decide_eq_false hnI
    obtain ⟨i, hi⟩ : ∃ i, x % n = i := ⟨_, rfl⟩
    have him : i < n := by rw [← hi]; exact Nat.mod_lt _ (by omega)
    have htm : Int.tmod (x : Int) (n : Int) = (i : Int) := by rw [← hi]; rfl
    have HP := Lib.hid (HPR.out HF.out i him)
    have HL := Lib.hid (HDB.out HF.out i)
    obtain ⟨ba, oa, R1, k1, rfl, hc1, hl1, hr1⟩ := HRO.out i him
    have HT1 := Lib.hid (fun W (h : Ext w W) => run_load_u8s W _ _ ((h.below.cell (p := ⟨ba, oa + i, none⟩) (block_lt_of_cell hc1)).trans hc1))
    have HSI := Lib.hid (fun W qs D kd (hx : Ext w W) (hq : DRd W D qs) (hkd : qs.length ≤ kd ∧ qs.length ≤ 64) => HSC.out HF.out i him W R1 k1 qs D kd hx hr1 hl1 hq hkd)
    have HYI := Lib.hid (HYS.out HF.out i him)
    have HNI := Lib.hid (HNO.out i him)
    have hiI : (i : Int) < (n : Int) := by omega
    obtain ⟨t1, ht1⟩ : ∃ t, (ro rows i).length = t := ⟨_, rfl⟩
    rw [ht1] at HT1 HSI
    have HIM := Lib.hid him
    clear hi hc1 hl1 hr1 ht1 HSC HYS HNO HRO him
    go_wp2_with fail
    refine (HRT.out HF.out _ HX1.out).mono ?_
    rintro e w3 ⟨rfl, hx3⟩
    have HX3 := Lib.hid (HX1.out.trans hx3)
    have HGD3 := Lib.hid (WBlk.ext' HGD1.out hx3)
    clear hx3
    obtain ⟨gx, hgx⟩ : ∃ g, w3.heap.size = g := ⟨_, rfl⟩
    have HGX := Lib.hid (show (w3.alloc (.cells Z 30)).heap[gx]? = some (.cells Z 30 (0, 0)) from by rw [← hgx]; exact heap_alloc_new _ _)
    have HI := Lib.hid HVR.out.info
    have HO := Lib.hid HVR.out.one
    have HZZ := Lib.hid (show Z.size = VR.size from by rw [HVR.out.1]; exact HZ32.out ())
    have HX34 := Lib.hid (show Ext w3 ((w3.alloc (.cells Z 30)).setRow gx VR) from Ext.setRow ((Ext.refl w3).alloc _) (by rw [← hgx]; exact Nat.le_refl _) VR)
    have HG4 := Lib.hid (setRow_heap _ gx _ VR _ _ HGX.out)
    go_wp2_with (with_reducible refine wpList_store_all rfl 30 (.tmp 8) (.tmp 30) rfl gx Z VR rfl rfl HGX.out HI.out HZZ.out HO.out ?_)
    generalize (w3.alloc (.cells Z 30)).setRow gx VR = w4 at HX34 HG4 ⊢
    clear hgx
    have HX4 := Lib.hid (HX3.out.trans HX34.out)
    have HGD4 := Lib.hid (WBlk.ext' HGD3.out HX34.out)
    refine (HP.out _ HX4.out).mono ?_
    rintro e w5 ⟨v, rfl, hm, hx5⟩
    have HX5 := Lib.hid (HX4.out.trans hx5)
    have HG5 := Lib.hid (WBlk.ext' HG4.out hx5)
    have HGD5 := Lib.hid (WBlk.ext' HGD4.out hx5)
    obtain ⟨B, k, rfl, hk, hrd⟩ := hm.slice
    obtain ⟨P, hP⟩ : ∃ P, mprf sha rows i = P := ⟨_, rfl⟩
    rw [hP] at hk hrd HL HYI HNI ⊢
    have HRD := Lib.hid hrd
    have HK := Lib.hid hk
    obtain ⟨p, hp⟩ : ∃ p, P.length = p := ⟨_, rfl⟩
    have HPL := Lib.hid hp
    rw [hp] at hk HK HL ⊢
    clear hm hk hrd hP hx5 hp
    go_wp2
    obtain ⟨wz, hwz⟩ : ∃ W, W = w5 := ⟨_, rfl⟩
    have LR := Lib.hid (fun (W : World) (h : AfterH w5 W) => show (Instr.loadAt 30 (.pointer (some ⟨gx, 0, none⟩))).run Tryd.prog W = .ok (.agg VR) W from HLB.out W gx (WBlk.ext' HG5.out h))
    have LM := Lib.hid (fun (W : World) (h : AfterH w5 W) => show (Instr.loadAt 30 (.pointer (some ⟨gd, 0, none⟩))).run Tryd.prog W = .ok (.agg VD) W from HLM.out W gd (WBlk.ext' HGD5.out h))
    have LT := Lib.hid (fun (W : World) (h : AfterH w5 W) => show (Instr.loadAt 35 (.pointer (some ⟨ba, oa + i, none⟩))).run Tryd.prog W = .ok (.slice R1 t1 k1) W from HT1.out W (HX5.out.trans h))
    have S1 := Lib.hid (fun (W : World) (h : AfterH w5 W) => show Calls Tryd.prog 16 #[.agg VR, .slice R1 t1 k1, .int .i64 (i : Int), .int .i64 (n : Int), .slice B p k] W (fun e w' => e = .returned (.bool true) ∧ AfterH w5 w') from by have h1 := HSI.out W P B k (HX5.out.trans h) (HRD.out.ext h) ⟨by have := HPL.out; have := HK.out; omega, by have := HPL.out; have := HL.out; omega⟩; rw [HYI.out, HPL.out] at h1; exact h1.mono fun _ _ x => ⟨x.1, Ext.trans h x.2⟩)
    have HS5 := Lib.hid (Nat.le_refl w5.heap.size)
    clear hwz wz
    refine wp_region_plan (AfterH w5) [0, 1, 2, 3, 4, 5, 6, 7, 8, 9, 10, 11, 12, 13, 14, 15, 16, 17, 18, 19, 20, 21, 22, 23, 24, 25, 26, 27, 28, 29] (.yes 0 (.yes 1 (.yes 2 (.yes 3 (.yes 4 (.yes 5 (.yes 6 (.yes 7 (.yes 8 (.yes 9 (.yes 10 (.yes 11 (.one 12 (.yes 13 (.yes 14 (.yes 15 (.yes 16 (.yes 17 (.yes 18 (.yes 19 (.yes 20 (.yes 21 (.yes 22 (.yes 23 (.yes 25 (.yes 27 (.two 24 (.two 26 (.one 28 (.one 29 (.one 30 (.one 31 .done)))) 28 (.one 26 (.one 29 (.one 30 (.one 31 .done))))) 28 (.one 24 (.one 26 (.one 29 (.one 30 (.one 31 .done)))))))))))))))))))))))))))))))) (by kernel_rfl) (fun c a a' w e h => ⟨e ▸ h.1, h.2⟩) (by kernel_rfl) ((Ext.refl w5).drew) ?_
    refine plan_yes rfl (fun K hK => ?_); go_simp; refine ⟨_, fun _ _ => rfl, hK _ ?_⟩; clear hK K
    refine plan_yes rfl (fun K hK => ?_); go_simp; refine ⟨_, fun _ _ => rfl, hK _ ?_⟩; clear hK K
    refine plan_yes rfl (fun K hK => ?_); go_simp; refine ⟨_, fun _ _ => rfl, hK _ ?_⟩; clear hK K
    refine plan_load rfl 30 (.tmp 8) rfl (.agg VR) (by rfl) (fun W hW => LR.out W hW) ?_
    refine plan_yes rfl (fun K hK => ?_); go_simp; refine ⟨_, fun _ _ => rfl, hK _ ?_⟩; clear hK K
    refine plan_yes rfl (fun K hK => ?_); go_simp; refine ⟨_, fun _ _ => rfl, hK _ ?_⟩; clear hK K
    refine plan_yes rfl (fun K hK => ?_); go_simp; refine ⟨_, fun _ _ => rfl, hK _ ?_⟩; clear hK K
    refine plan_load rfl 35 (.tmp 43) rfl (.slice R1 t1 k1) (by rfl) (fun W hW => LT.out W hW) ?_
    refine plan_yes rfl (fun K hK => ?_); go_simp; refine ⟨_, fun _ _ => rfl, hK _ ?_⟩; clear hK K
    refine plan_yes rfl (fun K hK => ?_); go_simp; refine ⟨_, fun _ _ => rfl, hK _ ?_⟩; clear hK K
    refine plan_yes rfl (fun K hK => ?_); go_simp; refine ⟨_, fun _ _ => rfl, hK _ ?_⟩; clear hK K
    refine plan_yes rfl (fun K hK => ?_); go_simp; refine ⟨_, fun _ _ => rfl, hK _ ?_⟩; clear hK K
    refine plan_one rfl (fun K hK => ?_)
    go_wp2_with fail
    refine (S1.out _ ((Ext.refl w5).drew)).mono ?_
    rintro e v6 ⟨rfl, hx6⟩
    have HXv6 := Lib.hid hx6
    clear hx6
    go_wp2
    refine ⟨fun _ => HXv6.out, ?_⟩
    refine plan_yes rfl (fun K hK => ?_); go_simp; refine ⟨_, fun _ _ => rfl, hK _ ?_⟩; clear hK K
    refine plan_yes rfl (fun K hK => ?_); go_simp; refine ⟨_, fun _ _ => rfl, hK _ ?_⟩; clear hK K
    refine plan_yes rfl (fun K hK => ?_); go_simp; refine ⟨_, fun _ _ => rfl, hK _ ?_⟩; clear hK K
    refine plan_load rfl 30 (.tmp 8) rfl (.agg VR) (by rfl) (fun W hW => LR.out W hW) ?_
    refine plan_yes rfl (fun K hK => ?_); go_simp; refine ⟨_, fun _ _ => rfl, hK _ ?_⟩; clear hK K
    refine plan_yes rfl (fun K hK => ?_); go_simp; refine ⟨_, fun _ _ => rfl, hK _ ?_⟩; clear hK K
    refine plan_yes rfl (fun K hK => ?_); go_simp; refine ⟨_, fun _ _ => rfl, hK _ ?_⟩; clear hK K
    refine plan_load rfl 35 (.tmp 56) rfl (.slice R1 t1 k1) (by rfl) (fun W hW => LT.out W hW) ?_
    refine plan_yes rfl (fun K hK => ?_); go_simp; refine ⟨_, fun _ _ => rfl, hK _ ?_⟩; clear hK K
    refine plan_yes rfl (fun K hK => ?_); go_simp; refine ⟨_, fun _ _ => rfl, hK _ ?_⟩; clear hK K
    refine plan_yes rfl (fun K hK => ?_); go_simp; refine ⟨_, fun _ _ => rfl, hK _ ?_⟩; clear hK K
    refine plan_yes rfl (fun K hK => ?_); go_simp; refine ⟨_, fun _ _ => rfl, hK _ ?_⟩; clear hK K
    refine plan_load rfl 30 (.tmp 5) rfl (.agg VD) (by rfl) (fun W hW => LM.out W hW) ?_
  -- the arms
    refine plan_two rfl rfl (fun K hK => ?_) (fun K hK => ?_)
    · skip
      have HXn := Lib.hid (show AfterH w5 (World.alloc v6 (.cells #[] 30)) from Ext.alloc HXv6.out _)
      have HMn := Lib.hid (show DMine (World.alloc v6 (.cells #[] 30)) v6.heap.size (.slice (some ⟨v6.heap.size, 0, none⟩) 0 0) [] from dmine_empty v6)
      have HSn := Lib.hid (show w5.heap.size ≤ v6.heap.size from Ext.size HXv6.out)
      go_wp2
      refine ⟨fun _ => HXn.out, ?_⟩
      obtain ⟨ge, hge⟩ : ∃ g, v6.heap.size = g := ⟨_, rfl⟩
      rw [hge] at HMn HSn ⊢
      generalize World.alloc v6 _ = v624 at HXn HMn ⊢
      have HXv624 := Lib.hid HXn.out
      have HMv624 := Lib.hid HMn.out
      have HSE := Lib.hid HSn.out
      clear HXn HMn HSn hge
      refine plan_two rfl rfl (fun K hK => ?_) (fun K hK => ?_)
      · skip
        refine wpList_append_drd_g (by rfl) (.tmp 61) (.tmp 62) rfl ge _ [] P rfl HMv624.out B p k rfl HPL.out (HRD.out.ext HXv624.out) (by have := HL.out; have := HPL.out; simp; omega) (by have := HMv624.out.block ge rfl; omega) ?_
        intro v' v62426 hm' hg' hb'
        rw [List.nil_append] at hm'
        have HXv62426 := Lib.hid (show AfterH w5 v62426 from Ext.more HXv624.out hg' (fun k e => Nat.le_trans HSE.out (HMv624.out.block k e).1))
        have HMv62426 := Lib.hid (show DMine v62426 w5.heap.size v' P from hm'.down HSE.out)
        clear hm' hg' hb'
        go_wp2
        refine ⟨fun _ => HXv62426.out, ?_⟩
        refine plan_one rfl (fun K hK => ?_)
        have HXn := Lib.hid (show AfterH w5 (World.alloc v62426 (.cells VD 30)) from Ext.alloc HXv62426.out _)
        have HBn := Lib.hid (HLD.out v62426)
        have HLn := Lib.hid (show w5.heap.size ≤ v62426.heap.size from Ext.size HXv62426.out)
        have HMn := Lib.hid (HMv62426.out.ext ((Ext.refl _).alloc (.cells VD 30)))
        have HNn := Lib.hid (fun k e => (HMv62426.out.block k e).2)
        refine wpList_build_dig_g (by rfl) (.tmp 64) rfl VD rfl HVS.out ?_
        go_wp2
        refine ⟨fun _ => HXn.out, ?_⟩
        have HLS := Lib.hid (show (World.alloc v62426 (.cells VD 30)).heap.size = v62426.heap.size + 1 from by simp)
        obtain ⟨gl, hgl⟩ : ∃ g, v62426.heap.size = g := ⟨_, rfl⟩
        rw [hgl] at HBn HLS HNn ⊢
        generalize World.alloc v62426 _ = v6242628 at HXn HBn HLS HMn ⊢
        have HXv6242628 := Lib.hid HXn.out
        have HBv6242628 := Lib.hid HBn.out
        have HLG := Lib.hid (show gl < v6242628.heap.size from by have h := HLS.out; omega)
        clear HXn HBn HLn HLS hgl
        have HMv6242628 := Lib.hid HMn.out
        have HNV := Lib.hid HNn.out
        clear HMn HNn
        refine plan_one rfl (fun K hK => ?_)
        refine wpList_append_drd_g (by rfl) (.tmp 63) (.tmp 65) rfl w5.heap.size _ P [d] rfl HMv6242628.out (some ⟨gl, 0, none⟩) 1 1 rfl rfl HBv6242628.out (by have := HL.out; have := HPL.out; simp; omega) (Ext.size HXv6242628.out) ?_
        intro v7 w7 hm7 hg7 hb7
        have HX7 := Lib.hid (show AfterH w5 w7 from Ext.more HXv6242628.out hg7 (fun k e => (HMv6242628.out.block k e).1))
        obtain ⟨B7, c7, rfl, hc7, hr7⟩ := hm7.slice
        have HR7 := Lib.hid hr7
        have HC7 := Lib.hid hc7
        obtain ⟨qs, hqs⟩ : ∃ q, P ++ [d] = q := ⟨_, rfl⟩
        have HQL := Lib.hid (show qs.length = P.length + 1 from by rw [← hqs]; simp)
        rw [hqs] at HR7 HC7 ⊢
        have S7 := Lib.hid (fun (W : World) (h : Ext w7 W) => show Calls Tryd.prog 16 #[.agg VR, .slice R1 t1 k1, .int .i64 (i : Int), .int .i64 (n : Int), .slice B7 qs.length c7] W (fun e w' => e = .returned (.bool false) ∧ AfterH w5 w') from by have h1 := HSI.out W qs B7 c7 ((HX5.out.trans HX7.out).trans h) (HR7.out.ext h) ⟨HC7.out, by have := HPL.out; have := HL.out; have := HQL.out; omega⟩; rw [HNI.out qs (by have := HQL.out; omega)] at h1; exact h1.mono fun _ _ x => ⟨x.1, Ext.trans HX7.out (h.trans x.2)⟩)
        clear hm7 hg7 hb7 hc7 hr7 hqs
        go_wp2
        refine ⟨fun _ => HX7.out, ?_⟩
        refine plan_one rfl (fun K hK => ?_)
        go_wp2_with fail
        refine (S7.out _ (Ext.refl _)).mono ?_
        rintro e w8 ⟨rfl, hx8⟩
        have HX8 := Lib.hid hx8
        clear hx8
        go_wp2
        refine ⟨fun h => absurd h (by decide), ?_⟩
        refine plan_one rfl (fun K hK => ?_)
        go_wp2
        refine ⟨fun h => absurd h (by decide), ?_⟩
        unfold wpPlan
        go_wp2
        have HX9 := Lib.hid (HX5.out.trans HX8.out)
        have HG9 := Lib.hid (WBlk.ext' HG5.out HX8.out)
        have HR9 := Lib.hid (HRD.out.ext HX8.out)
        clear HX7 HR7 HC7 HQL S7
        by_cases hp0 : p = 0
        · have dp : decide ((p : Int) = 0) = true := decide_eq_true (by omega)
          subst hp0
          go_quiet (skip)
          all_goals (go_wp2; go_ret; exact ⟨rfl, HX9.out.drewN _⟩)
        · have dp : decide ((p : Int) = 0) = false := decide_eq_false (by omega)
          obtain ⟨q, rfl⟩ : ∃ q, p = q + 1 := ⟨p - 1, by omega⟩
          clear hp0
          have HTO := Lib.hid (fun W => run_to_dig B (q + 1) k q (by have := HK.out; omega) W)
          have HQ64 := Lib.hid (show q ≤ 1048577 from by have := HL.out; omega)
          have hw1 := w64_pred q HQ64.out
          have hw3 := i64_nat q HQ64.out
          have hq0 : (0 : Int) ≤ (q : Int) := by omega
          have hqk : (q : Int) ≤ (k : Int) := by have := HK.out; omega
          have hw2 := w64_prd q HQ64.out
          have L9 := Lib.hid (fun (W : World) (h : AfterH w8 W) => show (Instr.loadAt 30 (.pointer (some ⟨gx, 0, none⟩))).run Tryd.prog W = .ok (.agg VR) W from HLB.out W gx (WBlk.ext' HG9.out h))
          have T9 := Lib.hid (fun (W : World) (h : AfterH w8 W) => show (Instr.loadAt 35 (.pointer (some ⟨ba, oa + i, none⟩))).run Tryd.prog W = .ok (.slice R1 t1 k1) W from HT1.out W (HX9.out.trans h))
          have HTL := Lib.hid (show (P.take q).length = q from by rw [List.length_take, HPL.out]; omega)
          have S9 := Lib.hid (fun (W : World) (h : AfterH w8 W) => show Calls Tryd.prog 16 #[.agg VR, .slice R1 t1 k1, .int .i64 (i : Int), .int .i64 (n : Int), .slice B q k] W (fun e w' => e = .returned (.bool false) ∧ AfterH w8 w') from by have h1 := HSI.out W (P.take q) B k (HX9.out.trans h) ((HR9.out.take q).ext h) ⟨by have := HTL.out; have := HK.out; omega, by have := HTL.out; have := HL.out; omega⟩; rw [HNI.out (P.take q) (by have := HTL.out; have := HPL.out; omega), HTL.out] at h1; exact h1.mono fun _ _ x => ⟨x.1, Ext.trans h x.2⟩)
          refine wp_region_quiet (C := AfterH w8) (by kernel_rfl) (by kernel_rfl) (show AfterH w8 w8.drew from (Ext.refl w8).drew) ?_
          refine wpQuiet_step (fun K hK => ?_); go_simp; refine ⟨_, fun _ _ => rfl, hK _ ?_⟩; clear hK K
          refine wpQuiet_step (fun K hK => ?_); go_simp; refine ⟨_, fun _ _ => rfl, hK _ ?_⟩; clear hK K
          refine wpQuiet_step (fun K hK => ?_); go_simp; refine ⟨_, fun _ _ => rfl, hK _ ?_⟩; clear hK K
          refine wpQuiet_step (fun K hK => ?_); go_simp; refine ⟨_, fun _ _ => rfl, hK _ ?_⟩; clear hK K
          refine wpQuiet_load_g (by rfl) 30 (.tmp 8) rfl (.agg VR) (fun W hW => L9.out W hW) ?_
          refine wpQuiet_step (fun K hK => ?_); go_simp; refine ⟨_, fun _ _ => rfl, hK _ ?_⟩; clear hK K
          refine wpQuiet_step (fun K hK => ?_); go_simp; refine ⟨_, fun _ _ => rfl, hK _ ?_⟩; clear hK K
          refine wpQuiet_step (fun K hK => ?_); go_simp; refine ⟨_, fun _ _ => rfl, hK _ ?_⟩; clear hK K
          refine wpQuiet_load_g (by rfl) 35 (.tmp 76) rfl (.slice R1 t1 k1) (fun W hW => T9.out W hW) ?_
          refine wpQuiet_step (fun K hK => ?_); go_simp; refine ⟨_, fun _ _ => rfl, hK _ ?_⟩; clear hK K
          refine wpQuiet_step (fun K hK => ?_); go_simp; refine ⟨_, fun _ _ => rfl, hK _ ?_⟩; clear hK K
          refine wpQuiet_step (fun K hK => ?_); go_simp; refine ⟨_, fun _ _ => rfl, hK _ ?_⟩; clear hK K
          refine wpQuiet_step (fun K hK => ?_); go_simp; refine ⟨_, fun _ _ => rfl, hK _ ?_⟩; clear hK K
          refine wpQuiet_step (fun K hK => ?_); go_simp; refine ⟨_, fun _ _ => rfl, hK _ ?_⟩; clear hK K
          refine wpQuiet_step (fun K hK => ?_); go_simp; refine ⟨_, fun _ _ => rfl, hK _ ?_⟩; clear hK K
          refine wpQuiet_step (fun K hK => ?_); go_simp; refine ⟨_, fun _ _ => rfl, hK _ ?_⟩; clear hK K
          refine wpQuiet_step (fun K hK => ?_); go_simp; refine ⟨_, fun W _ => (by first | exact ⟨rfl, rfl⟩ | rfl), hK _ ?_⟩; clear hK K
          refine wpQuiet_step (fun K hK => ?_); go_simp; refine ⟨_, fun W hW => S9.out W hW, hK _ ?_⟩; clear hK K
          refine wpQuiet_step (fun K hK => ?_); go_simp; refine ⟨_, fun _ _ => rfl, hK _ ?_⟩; clear hK K
          refine wpQuiet_step (fun K hK => ?_); go_simp; refine ⟨_, fun _ _ => rfl, hK _ ?_⟩; clear hK K
          refine wpQuiet_step (fun K hK => ?_); go_simp; refine ⟨_, fun _ _ => rfl, hK _ ?_⟩; clear hK K
          refine wpQuiet_nil ?_
          intro w9 hx9
          have HXE := Lib.hid (HX9.out.trans hx9)
          clear hx9
          go_wp2
          go_ret
          exact ⟨rfl, HXE.out⟩
      · skip
        have HXn := Lib.hid (show AfterH w5 (World.alloc v624 (.cells VD 30)) from Ext.alloc HXv624.out _)
        have HBn := Lib.hid (HLD.out v624)
        have HLn := Lib.hid (show w5.heap.size ≤ v624.heap.size from Ext.size HXv624.out)
        have HMn := Lib.hid (HMv624.out.ext ((Ext.refl _).alloc (.cells VD 30)))
        have HNn := Lib.hid (fun k e => (HMv624.out.block k e).2)
        refine wpList_build_dig_g (by rfl) (.tmp 64) rfl VD rfl HVS.out ?_
        go_wp2
        refine ⟨fun _ => HXn.out, ?_⟩
        have HLS := Lib.hid (show (World.alloc v624 (.cells VD 30)).heap.size = v624.heap.size + 1 from by simp)
        obtain ⟨gl, hgl⟩ : ∃ g, v624.heap.size = g := ⟨_, rfl⟩
        rw [hgl] at HBn HLS HNn ⊢
        generalize World.alloc v624 _ = v62428 at HXn HBn HLS HMn ⊢
        have HXv62428 := Lib.hid HXn.out
        have HBv62428 := Lib.hid HBn.out
        have HLG := Lib.hid (show gl < v62428.heap.size from by have h := HLS.out; omega)
        clear HXn HBn HLn HLS hgl
        have HMv62428 := Lib.hid HMn.out
        have HNV := Lib.hid HNn.out
        clear HMn HNn
        refine plan_one rfl (fun K hK => ?_)
        refine wpList_append_drd_g (by rfl) (.tmp 61) (.tmp 62) rfl ge _ [] P rfl HMv62428.out B p k rfl HPL.out (HRD.out.ext HXv62428.out) (by have := HL.out; have := HPL.out; simp; omega) (by have := HMv62428.out.block ge rfl; omega) ?_
        intro v' v6242826 hm' hg' hb'
        rw [List.nil_append] at hm'
        have HXv6242826 := Lib.hid (show AfterH w5 v6242826 from Ext.more HXv62428.out hg' (fun k e => Nat.le_trans HSE.out (HMv62428.out.block k e).1))
        have HMv6242826 := Lib.hid (show DMine v6242826 w5.heap.size v' P from hm'.down HSE.out)
        have HBv6242826 := Lib.hid (drd_keep HBv62428.out hg' (by first | (intro h; injection h with h; exact HNE.out h.symm) | (intro h; have := HNV.out gl h.symm; omega)))
        clear hm' hg' hb'
        go_wp2
        refine ⟨fun _ => HXv6242826.out, ?_⟩
        refine plan_one rfl (fun K hK => ?_)
        refine wpList_append_drd_g (by rfl) (.tmp 63) (.tmp 65) rfl w5.heap.size _ P [d] rfl HMv6242826.out (some ⟨gl, 0, none⟩) 1 1 rfl rfl HBv6242826.out (by have := HL.out; have := HPL.out; simp; omega) (Ext.size HXv6242826.out) ?_
        intro v7 w7 hm7 hg7 hb7
        have HX7 := Lib.hid (show AfterH w5 w7 from Ext.more HXv6242826.out hg7 (fun k e => (HMv6242826.out.block k e).1))
        obtain ⟨B7, c7, rfl, hc7, hr7⟩ := hm7.slice
        have HR7 := Lib.hid hr7
        have HC7 := Lib.hid hc7
        obtain ⟨qs, hqs⟩ : ∃ q, P ++ [d] = q := ⟨_, rfl⟩
        have HQL := Lib.hid (show qs.length = P.length + 1 from by rw [← hqs]; simp)
        rw [hqs] at HR7 HC7 ⊢
        have S7 := Lib.hid (fun (W : World) (h : Ext w7 W) => show Calls Tryd.prog 16 #[.agg VR, .slice R1 t1 k1, .int .i64 (i : Int), .int .i64 (n : Int), .slice B7 qs.length c7] W (fun e w' => e = .returned (.bool false) ∧ AfterH w5 w') from by have h1 := HSI.out W qs B7 c7 ((HX5.out.trans HX7.out).trans h) (HR7.out.ext h) ⟨HC7.out, by have := HPL.out; have := HL.out; have := HQL.out; omega⟩; rw [HNI.out qs (by have := HQL.out; omega)] at h1; exact h1.mono fun _ _ x => ⟨x.1, Ext.trans HX7.out (h.trans x.2)⟩)
        clear hm7 hg7 hb7 hc7 hr7 hqs
        go_wp2
        refine ⟨fun _ => HX7.out, ?_⟩
        refine plan_one rfl (fun K hK => ?_)
        go_wp2_with fail
        refine (S7.out _ (Ext.refl _)).mono ?_
        rintro e w8 ⟨rfl, hx8⟩
        have HX8 := Lib.hid hx8
        clear hx8
        go_wp2
        refine ⟨fun h => absurd h (by decide), ?_⟩
        refine plan_one rfl (fun K hK => ?_)
        go_wp2
        refine ⟨fun h => absurd h (by decide), ?_⟩
        unfold wpPlan
        go_wp2
        have HX9 := Lib.hid (HX5.out.trans HX8.out)
        have HG9 := Lib.hid (WBlk.ext' HG5.out HX8.out)
        have HR9 := Lib.hid (HRD.out.ext HX8.out)
        clear HX7 HR7 HC7 HQL S7
        by_cases hp0 : p = 0
        · have dp : decide ((p : Int) = 0) = true := decide_eq_true (by omega)
          subst hp0
          go_quiet (skip)
          all_goals (go_wp2; go_ret; exact ⟨rfl, HX9.out.drewN _⟩)
        · have dp : decide ((p : Int) = 0) = false := decide_eq_false (by omega)
          obtain ⟨q, rfl⟩ : ∃ q, p = q + 1 := ⟨p - 1, by omega⟩
          clear hp0
          have HTO := Lib.hid (fun W => run_to_dig B (q + 1) k q (by have := HK.out; omega) W)
          have HQ64 := Lib.hid (show q ≤ 1048577 from by have := HL.out; omega)
          have hw1 := w64_pred q HQ64.out
          have hw3 := i64_nat q HQ64.out
          have hq0 : (0 : Int) ≤ (q : Int) := by omega
          have hqk : (q : Int) ≤ (k : Int) := by have := HK.out; omega
          have hw2 := w64_prd q HQ64.out
          have L9 := Lib.hid (fun (W : World) (h : AfterH w8 W) => show (Instr.loadAt 30 (.pointer (some ⟨gx, 0, none⟩))).run Tryd.prog W = .ok (.agg VR) W from HLB.out W gx (WBlk.ext' HG9.out h))
          have T9 := Lib.hid (fun (W : World) (h : AfterH w8 W) => show (Instr.loadAt 35 (.pointer (some ⟨ba, oa + i, none⟩))).run Tryd.prog W = .ok (.slice R1 t1 k1) W from HT1.out W (HX9.out.trans h))
          have HTL := Lib.hid (show (P.take q).length = q from by rw [List.length_take, HPL.out]; omega)
          have S9 := Lib.hid (fun (W : World) (h : AfterH w8 W) => show Calls Tryd.prog 16 #[.agg VR, .slice R1 t1 k1, .int .i64 (i : Int), .int .i64 (n : Int), .slice B q k] W (fun e w' => e = .returned (.bool false) ∧ AfterH w8 w') from by have h1 := HSI.out W (P.take q) B k (HX9.out.trans h) ((HR9.out.take q).ext h) ⟨by have := HTL.out; have := HK.out; omega, by have := HTL.out; have := HL.out; omega⟩; rw [HNI.out (P.take q) (by have := HTL.out; have := HPL.out; omega), HTL.out] at h1; exact h1.mono fun _ _ x => ⟨x.1, Ext.trans h x.2⟩)
          refine wp_region_quiet (C := AfterH w8) (by kernel_rfl) (by kernel_rfl) (show AfterH w8 w8.drew from (Ext.refl w8).drew) ?_
          refine wpQuiet_step (fun K hK => ?_); go_simp; refine ⟨_, fun _ _ => rfl, hK _ ?_⟩; clear hK K
          refine wpQuiet_step (fun K hK => ?_); go_simp; refine ⟨_, fun _ _ => rfl, hK _ ?_⟩; clear hK K
          refine wpQuiet_step (fun K hK => ?_); go_simp; refine ⟨_, fun _ _ => rfl, hK _ ?_⟩; clear hK K
          refine wpQuiet_step (fun K hK => ?_); go_simp; refine ⟨_, fun _ _ => rfl, hK _ ?_⟩; clear hK K
          refine wpQuiet_load_g (by rfl) 30 (.tmp 8) rfl (.agg VR) (fun W hW => L9.out W hW) ?_
          refine wpQuiet_step (fun K hK => ?_); go_simp; refine ⟨_, fun _ _ => rfl, hK _ ?_⟩; clear hK K
          refine wpQuiet_step (fun K hK => ?_); go_simp; refine ⟨_, fun _ _ => rfl, hK _ ?_⟩; clear hK K
          refine wpQuiet_step (fun K hK => ?_); go_simp; refine ⟨_, fun _ _ => rfl, hK _ ?_⟩; clear hK K
          refine wpQuiet_load_g (by rfl) 35 (.tmp 76) rfl (.slice R1 t1 k1) (fun W hW => T9.out W hW) ?_
          refine wpQuiet_step (fun K hK => ?_); go_simp; refine ⟨_, fun _ _ => rfl, hK _ ?_⟩; clear hK K
          refine wpQuiet_step (fun K hK => ?_); go_simp; refine ⟨_, fun _ _ => rfl, hK _ ?_⟩; clear hK K
          refine wpQuiet_step (fun K hK => ?_); go_simp; refine ⟨_, fun _ _ => rfl, hK _ ?_⟩; clear hK K
          refine wpQuiet_step (fun K hK => ?_); go_simp; refine ⟨_, fun _ _ => rfl, hK _ ?_⟩; clear hK K
          refine wpQuiet_step (fun K hK => ?_); go_simp; refine ⟨_, fun _ _ => rfl, hK _ ?_⟩; clear hK K
          refine wpQuiet_step (fun K hK => ?_); go_simp; refine ⟨_, fun _ _ => rfl, hK _ ?_⟩; clear hK K
          refine wpQuiet_step (fun K hK => ?_); go_simp; refine ⟨_, fun _ _ => rfl, hK _ ?_⟩; clear hK K
          refine wpQuiet_step (fun K hK => ?_); go_simp; refine ⟨_, fun W _ => (by first | exact ⟨rfl, rfl⟩ | rfl), hK _ ?_⟩; clear hK K
          refine wpQuiet_step (fun K hK => ?_); go_simp; refine ⟨_, fun W hW => S9.out W hW, hK _ ?_⟩; clear hK K
          refine wpQuiet_step (fun K hK => ?_); go_simp; refine ⟨_, fun _ _ => rfl, hK _ ?_⟩; clear hK K
          refine wpQuiet_step (fun K hK => ?_); go_simp; refine ⟨_, fun _ _ => rfl, hK _ ?_⟩; clear hK K
          refine wpQuiet_step (fun K hK => ?_); go_simp; refine ⟨_, fun _ _ => rfl, hK _ ?_⟩; clear hK K
          refine wpQuiet_nil ?_
          intro w9 hx9
          have HXE := Lib.hid (HX9.out.trans hx9)
          clear hx9
          go_wp2
          go_ret
          exact ⟨rfl, HXE.out⟩
    · skip
      have HXn := Lib.hid (show AfterH w5 (World.alloc v6 (.cells VD 30)) from Ext.alloc HXv6.out _)
      have HBn := Lib.hid (HLD.out v6)
      have HLn := Lib.hid (show w5.heap.size ≤ v6.heap.size from Ext.size HXv6.out)
      refine wpList_build_dig_g (by rfl) (.tmp 64) rfl VD rfl HVS.out ?_
      go_wp2
      refine ⟨fun _ => HXn.out, ?_⟩
      have HLS := Lib.hid (show (World.alloc v6 (.cells VD 30)).heap.size = v6.heap.size + 1 from by simp)
      obtain ⟨gl, hgl⟩ : ∃ g, v6.heap.size = g := ⟨_, rfl⟩
      rw [hgl] at HBn HLS ⊢
      generalize World.alloc v6 _ = v628 at HXn HBn HLS ⊢
      have HXv628 := Lib.hid HXn.out
      have HBv628 := Lib.hid HBn.out
      have HLG := Lib.hid (show gl < v628.heap.size from by have h := HLS.out; omega)
      clear HXn HBn HLn HLS hgl
      refine plan_one rfl (fun K hK => ?_)
      have HXn := Lib.hid (show AfterH w5 (World.alloc v628 (.cells #[] 30)) from Ext.alloc HXv628.out _)
      have HMn := Lib.hid (show DMine (World.alloc v628 (.cells #[] 30)) v628.heap.size (.slice (some ⟨v628.heap.size, 0, none⟩) 0 0) [] from dmine_empty v628)
      have HSn := Lib.hid (show w5.heap.size ≤ v628.heap.size from Ext.size HXv628.out)
      have HBn := Lib.hid (HBv628.out.ext ((Ext.refl _).alloc (.cells #[] 30)))
      have HLn := Lib.hid (show gl < v628.heap.size from by have h := HLG.out; omega)
      go_wp2
      refine ⟨fun _ => HXn.out, ?_⟩
      obtain ⟨ge, hge⟩ : ∃ g, v628.heap.size = g := ⟨_, rfl⟩
      rw [hge] at HMn HSn HLn ⊢
      generalize World.alloc v628 _ = v62824 at HXn HMn HBn ⊢
      have HXv62824 := Lib.hid HXn.out
      have HMv62824 := Lib.hid HMn.out
      have HSE := Lib.hid HSn.out
      clear HXn HMn HSn hge
      have HBv62824 := Lib.hid HBn.out
      have HNE := Lib.hid (show ge ≠ gl from by have h := HLn.out; omega)
      clear HBn HLn
      refine plan_one rfl (fun K hK => ?_)
      refine wpList_append_drd_g (by rfl) (.tmp 61) (.tmp 62) rfl ge _ [] P rfl HMv62824.out B p k rfl HPL.out (HRD.out.ext HXv62824.out) (by have := HL.out; have := HPL.out; simp; omega) (by have := HMv62824.out.block ge rfl; omega) ?_
      intro v' v6282426 hm' hg' hb'
      rw [List.nil_append] at hm'
      have HXv6282426 := Lib.hid (show AfterH w5 v6282426 from Ext.more HXv62824.out hg' (fun k e => Nat.le_trans HSE.out (HMv62824.out.block k e).1))
      have HMv6282426 := Lib.hid (show DMine v6282426 w5.heap.size v' P from hm'.down HSE.out)
      have HBv6282426 := Lib.hid (drd_keep HBv62824.out hg' (by first | (intro h; injection h with h; exact HNE.out h.symm) | (intro h; have := HNV.out gl h.symm; omega)))
      clear hm' hg' hb'
      go_wp2
      refine ⟨fun _ => HXv6282426.out, ?_⟩
      refine plan_one rfl (fun K hK => ?_)
      refine wpList_append_drd_g (by rfl) (.tmp 63) (.tmp 65) rfl w5.heap.size _ P [d] rfl HMv6282426.out (some ⟨gl, 0, none⟩) 1 1 rfl rfl HBv6282426.out (by have := HL.out; have := HPL.out; simp; omega) (Ext.size HXv6282426.out) ?_
      intro v7 w7 hm7 hg7 hb7
      have HX7 := Lib.hid (show AfterH w5 w7 from Ext.more HXv6282426.out hg7 (fun k e => (HMv6282426.out.block k e).1))
      obtain ⟨B7, c7, rfl, hc7, hr7⟩ := hm7.slice
      have HR7 := Lib.hid hr7
      have HC7 := Lib.hid hc7
      obtain ⟨qs, hqs⟩ : ∃ q, P ++ [d] = q := ⟨_, rfl⟩
      have HQL := Lib.hid (show qs.length = P.length + 1 from by rw [← hqs]; simp)
      rw [hqs] at HR7 HC7 ⊢
      have S7 := Lib.hid (fun (W : World) (h : Ext w7 W) => show Calls Tryd.prog 16 #[.agg VR, .slice R1 t1 k1, .int .i64 (i : Int), .int .i64 (n : Int), .slice B7 qs.length c7] W (fun e w' => e = .returned (.bool false) ∧ AfterH w5 w') from by have h1 := HSI.out W qs B7 c7 ((HX5.out.trans HX7.out).trans h) (HR7.out.ext h) ⟨HC7.out, by have := HPL.out; have := HL.out; have := HQL.out; omega⟩; rw [HNI.out qs (by have := HQL.out; omega)] at h1; exact h1.mono fun _ _ x => ⟨x.1, Ext.trans HX7.out (h.trans x.2)⟩)
      clear hm7 hg7 hb7 hc7 hr7 hqs
      go_wp2
      refine ⟨fun _ => HX7.out, ?_⟩
      refine plan_one rfl (fun K hK => ?_)
      go_wp2_with fail
      refine (S7.out _ (Ext.refl _)).mono ?_
      rintro e w8 ⟨rfl, hx8⟩
      have HX8 := Lib.hid hx8
      clear hx8
      go_wp2
      refine ⟨fun h => absurd h (by decide), ?_⟩
      refine plan_one rfl (fun K hK => ?_)
      go_wp2
      refine ⟨fun h => absurd h (by decide), ?_⟩
      unfold wpPlan
      go_wp2
      have HX9 := Lib.hid (HX5.out.trans HX8.out)
      have HG9 := Lib.hid (WBlk.ext' HG5.out HX8.out)
      have HR9 := Lib.hid (HRD.out.ext HX8.out)
      clear HX7 HR7 HC7 HQL S7
      by_cases hp0 : p = 0
      · have dp : decide ((p : Int) = 0) = true := decide_eq_true (by omega)
        subst hp0
        go_quiet (skip)
        all_goals (go_wp2; go_ret; exact ⟨rfl, HX9.out.drewN _⟩)
      · have dp : decide ((p : Int) = 0) = false := decide_eq_false (by omega)
        obtain ⟨q, rfl⟩ : ∃ q, p = q + 1 := ⟨p - 1, by omega⟩
        clear hp0
        have HTO := Lib.hid (fun W => run_to_dig B (q + 1) k q (by have := HK.out; omega) W)
        have HQ64 := Lib.hid (show q ≤ 1048577 from by have := HL.out; omega)
        have hw1 := w64_pred q HQ64.out
        have hw3 := i64_nat q HQ64.out
        have hq0 : (0 : Int) ≤ (q : Int) := by omega
        have hqk : (q : Int) ≤ (k : Int) := by have := HK.out; omega
        have hw2 := w64_prd q HQ64.out
        have L9 := Lib.hid (fun (W : World) (h : AfterH w8 W) => show (Instr.loadAt 30 (.pointer (some ⟨gx, 0, none⟩))).run Tryd.prog W = .ok (.agg VR) W from HLB.out W gx (WBlk.ext' HG9.out h))
        have T9 := Lib.hid (fun (W : World) (h : AfterH w8 W) => show (Instr.loadAt 35 (.pointer (some ⟨ba, oa + i, none⟩))).run Tryd.prog W = .ok (.slice R1 t1 k1) W from HT1.out W (HX9.out.trans h))
        have HTL := Lib.hid (show (P.take q).length = q from by rw [List.length_take, HPL.out]; omega)
        have S9 := Lib.hid (fun (W : World) (h : AfterH w8 W) => show Calls Tryd.prog 16 #[.agg VR, .slice R1 t1 k1, .int .i64 (i : Int), .int .i64 (n : Int), .slice B q k] W (fun e w' => e = .returned (.bool false) ∧ AfterH w8 w') from by have h1 := HSI.out W (P.take q) B k (HX9.out.trans h) ((HR9.out.take q).ext h) ⟨by have := HTL.out; have := HK.out; omega, by have := HTL.out; have := HL.out; omega⟩; rw [HNI.out (P.take q) (by have := HTL.out; have := HPL.out; omega), HTL.out] at h1; exact h1.mono fun _ _ x => ⟨x.1, Ext.trans h x.2⟩)
        refine wp_region_quiet (C := AfterH w8) (by kernel_rfl) (by kernel_rfl) (show AfterH w8 w8.drew from (Ext.refl w8).drew) ?_
        refine wpQuiet_step (fun K hK => ?_); go_simp; refine ⟨_, fun _ _ => rfl, hK _ ?_⟩; clear hK K
        refine wpQuiet_step (fun K hK => ?_); go_simp; refine ⟨_, fun _ _ => rfl, hK _ ?_⟩; clear hK K
        refine wpQuiet_step (fun K hK => ?_); go_simp; refine ⟨_, fun _ _ => rfl, hK _ ?_⟩; clear hK K
        refine wpQuiet_step (fun K hK => ?_); go_simp; refine ⟨_, fun _ _ => rfl, hK _ ?_⟩; clear hK K
        refine wpQuiet_load_g (by rfl) 30 (.tmp 8) rfl (.agg VR) (fun W hW => L9.out W hW) ?_
        refine wpQuiet_step (fun K hK => ?_); go_simp; refine ⟨_, fun _ _ => rfl, hK _ ?_⟩; clear hK K
        refine wpQuiet_step (fun K hK => ?_); go_simp; refine ⟨_, fun _ _ => rfl, hK _ ?_⟩; clear hK K
        refine wpQuiet_step (fun K hK => ?_); go_simp; refine ⟨_, fun _ _ => rfl, hK _ ?_⟩; clear hK K
        refine wpQuiet_load_g (by rfl) 35 (.tmp 76) rfl (.slice R1 t1 k1) (fun W hW => T9.out W hW) ?_
        refine wpQuiet_step (fun K hK => ?_); go_simp; refine ⟨_, fun _ _ => rfl, hK _ ?_⟩; clear hK K
        refine wpQuiet_step (fun K hK => ?_); go_simp; refine ⟨_, fun _ _ => rfl, hK _ ?_⟩; clear hK K
        refine wpQuiet_step (fun K hK => ?_); go_simp; refine ⟨_, fun _ _ => rfl, hK _ ?_⟩; clear hK K
        refine wpQuiet_step (fun K hK => ?_); go_simp; refine ⟨_, fun _ _ => rfl, hK _ ?_⟩; clear hK K
        refine wpQuiet_step (fun K hK => ?_); go_simp; refine ⟨_, fun _ _ => rfl, hK _ ?_⟩; clear hK K
        refine wpQuiet_step (fun K hK => ?_); go_simp; refine ⟨_, fun _ _ => rfl, hK _ ?_⟩; clear hK K
        refine wpQuiet_step (fun K hK => ?_); go_simp; refine ⟨_, fun _ _ => rfl, hK _ ?_⟩; clear hK K
        refine wpQuiet_step (fun K hK => ?_); go_simp; refine ⟨_, fun W _ => (by first | exact ⟨rfl, rfl⟩ | rfl), hK _ ?_⟩; clear hK K
        refine wpQuiet_step (fun K hK => ?_); go_simp; refine ⟨_, fun W hW => S9.out W hW, hK _ ?_⟩; clear hK K
        refine wpQuiet_step (fun K hK => ?_); go_simp; refine ⟨_, fun _ _ => rfl, hK _ ?_⟩; clear hK K
        refine wpQuiet_step (fun K hK => ?_); go_simp; refine ⟨_, fun _ _ => rfl, hK _ ?_⟩; clear hK K
        refine wpQuiet_step (fun K hK => ?_); go_simp; refine ⟨_, fun _ _ => rfl, hK _ ?_⟩; clear hK K
        refine wpQuiet_nil ?_
        intro w9 hx9
        have HXE := Lib.hid (HX9.out.trans hx9)
        clear hx9
        go_wp2
        go_ret
        exact ⟨rfl, HXE.out⟩
end Go.Proofs.YthbfodmpoheahaaDoor

/-
  What slices.Clone does with a slice of digests. Conditions: at most 2^20 - 1 digests.
-/
namespace Go.Proofs.YthbfodmpoheahaaDoor
open Go.RowKit
open Pol (co Sm)

set_option maxHeartbeats 1600000 in
set_option maxRecDepth 100000 in
theorem mk_clone (ds : List (List Nat)) (A : Option Addr) (n c : Nat) (w : World) (hr : DRd w A ds) (hl : ds.length = n) (hb : n ≤ 1048575) :
    Calls Tryd.prog 39 #[.slice A n c] w (DOwn ds w) := by
  have qn : ∀ (W : World) (B : Option Addr) (n c : Nat), (binOp .eql 25 (.slice B n c) (.slice none 0 0)).run Tryd.prog W = .ok (.bool B.isNone) W := fun W B n c => Lib.run_eql_slice_nil W _ _ B n c 0 0 Tryd.underlying25
  cases A with
  | none =>
    have h0 : ds = [] := by
      rcases Nat.eq_zero_or_pos ds.length with h | h
      · exact List.eq_nil_of_length_eq_zero h
      · obtain ⟨_, _, e, _⟩ := hr.addr h; cases e
    subst h0
    obtain rfl : n = 0 := by simpa using hl.symm
    unfold DOwn
    clear hr hl
    go_enter Tryd.func39, Tryd.ntmps39
    go_wp2
    go_ret
    exact ⟨_, rfl, DMine.nil _ _, Ext.refl _⟩
  | some a =>
    have HR := Lib.hid hr
    have HL := Lib.hid hl
    obtain ⟨g0, hg0⟩ : ∃ g, w.heap.size = g := ⟨_, rfl⟩
    have HM := Lib.hid (show DMine (w.alloc (.cells #[] 30)) g0 (.slice (some ⟨g0, 0, none⟩) 0 0) [] from by rw [← hg0]; exact dmine_empty w)
    have HX := Lib.hid ((Ext.refl w).alloc (.cells #[] 30))
    have HW := Lib.hid hg0
    have HS := Lib.hid (show g0 ≤ (w.alloc (.cells #[] 30)).heap.size from by simp; omega)
    have HLN := Lib.hid (show ([] : List (List Nat)).length + ds.length ≤ 1048576 from by simp; omega)
    unfold DOwn
    clear hr hl
    go_enter Tryd.func39, Tryd.ntmps39
    go_wp2_with (at_builtin; go_loud (refine wpList_append_drd rfl (.tmp 5) (.tmp 6) rfl g0 _ [] ds rfl HM.out (some a) n c rfl HL.out (HR.out.ext HX.out) HLN.out HS.out ?_; intro v5 w5 hm5 hg5 hb5; rw [List.nil_append] at hm5; have HM5 := Lib.hid (hm5.down (base' := w.heap.size) (by have := HW.out; omega)); have HX5 := Lib.hid (HX.out.more hg5 (fun k e => by have e2 : some g0 = some k := e; injection e2 with e2; have := HW.out; omega)); clear hm5 hg5 hb5))
    go_ret
    exact ⟨_, rfl, HM5.out, HX5.out⟩
end Go.Proofs.YthbfodmpoheahaaDoor
