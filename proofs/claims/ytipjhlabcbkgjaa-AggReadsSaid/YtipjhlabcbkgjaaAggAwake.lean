/- The chapter's examples hold. -/
import Derived.Test.YtipjhlabcbkgjaaAggFold
import Derived.Test.YtipjhlabcbkgjaaAggMean
import Derived.Test.YtipjhlabcbkgjaaAggEq
import Derived.Deep.CutRange
set_option maxRecDepth 20000
namespace Go.Proofs.Ytipjhlabcbkgjaa.Ag
open Go.RowKit Go.Proofs.Ytipjhlabcbkgjaa Go.Proofs.Ytipjhlabcbkgjaa.Wd Go.Proofs.Ytipjhlabcbkgjaa.Vi Go.Proofs.Ytipjhlabcbkgjaa.Mk

def pA : Pt := ⟨⟨#[]⟩, 0, 3, ⟨1, 0, 1⟩⟩
def pB : Pt := ⟨⟨#[]⟩, 0, 5, ⟨2, 0, 2⟩⟩
def gAB (b : Nat → Int) : Ag := ⟨2, 8, 3, 5, 5, ⟨2, 0, 2⟩, b⟩
theorem fold_AB : ∃ b, foldA [pA, pB] = gAB b := by
  refine ⟨fun i => w64 ((oneA 3 ⟨1, 0, 1⟩).b i + (oneA 5 ⟨2, 0, 2⟩).b i), ?_⟩
  show mgA (mgA Ag.zero (oneA 3 ⟨1, 0, 1⟩)) (oneA 5 ⟨2, 0, 2⟩) = _
  rw [show mgA Ag.zero (oneA 3 ⟨1, 0, 1⟩) = oneA 3 ⟨1, 0, 1⟩ from if_pos rfl]
  unfold mgA
  rw [if_neg (by decide), if_neg (by decide)]
  rfl
theorem mean_AB (b : Nat → Int) : meanA (gAB b) = some 4 := rfl
theorem bk_neg5 : bk (-5) = 0 := by unfold bk; rw [if_pos (by decide)]
theorem bk_0 : bk 0 = 1 := by unfold bk; rw [if_neg (by decide), bkN_end (by decide)]
theorem bk_7 : bk 7 = 2 := by unfold bk; rw [if_neg (by decide), bkN_step (by decide), bkN_end (by decide)]
theorem bk_10 : bk 10 = 3 := by unfold bk; rw [if_neg (by decide), bkN_step (by decide), bkN_step (by decide), bkN_end (by decide)]
theorem bk_9 : bk 1000000000 = 8 := by unfold bk; rw [if_neg (by decide), bkN_step (by decide), bkN_step (by decide), bkN_step (by decide), bkN_step (by decide), bkN_step (by decide), bkN_step (by decide), bkN_step (by decide), bkN_end (by decide)]
/-- What stands behind the first lines of awake. -/
structure AWk (w : World) (b1 : Nat) (g : Ag) (W : World) : Prop where
  g : AgAt W b1 g
  bel : Below w.heap.size w W
  hb : w.heap.size < b1
set_option maxHeartbeats 4000000 in
theorem awake_is (w : World) : Calls Try.prog 11 #[] w fun e w' => e = .returned (.bool true) ∧ Below w.heap.size w w' := by
  obtain ⟨bb, hbb⟩ := fold_AB
  have HP := Lib.hid (show Pts (w.alloc (.cells #[.string ⟨#[]⟩, .int .i64 0, .int .i64 3, .int .i64 1, .int .i64 0, .int .i64 1, .string ⟨#[]⟩, .int .i64 0, .int .i64 5, .int .i64 2, .int .i64 0, .int .i64 2] 31)) (w.heap.size + 1) (some ⟨w.heap.size, 0, none⟩) [pA, pB] from
    ⟨Or.inr ⟨w.heap.size, 0, rfl, Nat.lt_succ_self _, fun j hj => by
      match j, hj with
      | 0, _ => constructor <;> simp [go_sem, pA]
      | 1, _ => constructor <;> simp [go_sem, pB]⟩⟩)
  have HF := Lib.hid (show ∀ p ∈ [pA, pB], p.fits from fun p hp => by
    simp only [List.mem_cons, List.not_mem_nil, or_false] at hp
    rcases hp with rfl | rfl <;> exact ⟨by decide, by decide, by decide⟩)
  have HB := Lib.hid hbb
  have HG := Lib.hid (show (gAB bb).fits from hbb ▸ foldA_fits HF.out)
  have km := fun w => merge_is Ag.zero (gAB bb) zero_fits HG.out w
  rw [agV_zero, show mgA Ag.zero (gAB bb) = gAB bb from if_pos rfl] at km
  clear hbb
  go_enter Try.func11, Try.ntmps11
  go_upto_region 1 with fail
  refine wp_region_lit ?_
  refine wpList_plain rfl fun K hK => ?_
  go_simp
  refine hK _ _ ?_
  clear hK K
  (try simp only [Act.put, List.setIfInBounds_toArray, List.set_cons_zero, List.set_cons_succ])
  refine wpList_plain rfl fun K hK => ?_
  go_simp
  refine hK _ _ ?_
  clear hK K
  (try simp only [Act.put, List.setIfInBounds_toArray, List.set_cons_zero, List.set_cons_succ])
  refine wpList_plain rfl fun K hK => ?_
  go_simp
  refine hK _ _ ?_
  clear hK K
  (try simp only [Act.put, List.setIfInBounds_toArray, List.set_cons_zero, List.set_cons_succ])
  refine wpList_plain rfl fun K hK => ?_
  go_simp
  refine hK _ _ ?_
  clear hK K
  (try simp only [Act.put, List.setIfInBounds_toArray, List.set_cons_zero, List.set_cons_succ])
  refine wpList_plain rfl fun K hK => ?_
  go_simp
  refine hK _ _ ?_
  clear hK K
  (try simp only [Act.put, List.setIfInBounds_toArray, List.set_cons_zero, List.set_cons_succ])
  refine wpList_plain rfl fun K hK => ?_
  go_simp
  ((with_reducible refine (fold_is _ 2 2 [pA, pB] _ (Lib.hid rfl) (by have := HP.out; rw [World.size_alloc]; exact this) HF.out (by decide)).mono ?_); rintro e w1 ⟨rfl, hb1⟩)
  refine hK _ _ ?_
  clear hK K
  (try simp only [Act.put, List.setIfInBounds_toArray, List.set_cons_zero, List.set_cons_succ])
  refine wpList_plain rfl fun K hK => ?_
  go_simp
  refine hK _ _ ?_
  clear hK K
  (try simp only [Act.put, List.setIfInBounds_toArray, List.set_cons_zero, List.set_cons_succ])
  refine list_store_ag rfl _ _ rfl w1.heap.size Ag.zero (gAB bb) rfl (by rw [HB.out]; rfl) (AgW.zero w1 _) ?_
  refine wpList_nil ?_
  rw [HB.out]
  obtain ⟨w2, hw2, h2⟩ : ∃ x, x = stA (w1.alloc (.cells #[.int .i64 0, .int .i64 0, .int .u64 0, .int .i64 0, .int .i64 0, .int .i64 0, .int .i64 0, .int .i64 0, .int .i64 0, .int .i64 0, .int .i64 0, .int .i64 0, .int .i64 0, .int .i64 0, .int .i64 0, .int .i64 0, .int .i64 0, .int .i64 0] 29)) w1.heap.size (gAB bb) ∧ AWk w w1.heap.size (gAB bb) x :=
    ⟨_, rfl, ((AgW.zero w1 29).st (gAB bb)).at_, stA_below _ (bel_new (bel_next (bel_new (Below.refl _ _) _) hb1) _) (by have := hb1.size; simp at this; omega), by have := hb1.size; simp at this; omega⟩
  rw [← hw2]
  obtain ⟨b1, hb1e⟩ : ∃ b, w1.heap.size = b := ⟨_, rfl⟩
  rw [hb1e] at h2 ⊢
  have H2 := Lib.hid h2
  clear hw2 h2 hb1 hb1e HP HF HB
  go_upto_region 2 with fail
  refine wp_region_lit ?_
  refine list_load_ag rfl _ rfl b1 (gAB bb) rfl H2.out.g ?_
  refine wpList_plain rfl fun K hK => ?_
  go_simp
  ((with_reducible refine (mean_is (gAB bb) HG.out _).mono ?_); rintro e w3 ⟨rfl, hb3⟩)
  refine hK _ _ ?_
  clear hK K
  (try simp only [Act.put, List.setIfInBounds_toArray, List.set_cons_zero, List.set_cons_succ])
  refine wpList_plain rfl fun K hK => ?_
  go_simp
  refine hK _ _ ?_
  clear hK K
  (try simp only [Act.put, List.setIfInBounds_toArray, List.set_cons_zero, List.set_cons_succ])
  refine wpList_plain rfl fun K hK => ?_
  go_simp
  refine hK _ _ ?_
  clear hK K
  (try simp only [Act.put, List.setIfInBounds_toArray, List.set_cons_zero, List.set_cons_succ])
  refine wpList_plain rfl fun K hK => ?_
  go_simp
  refine hK _ _ ?_
  clear hK K
  (try simp only [Act.put, List.setIfInBounds_toArray, List.set_cons_zero, List.set_cons_succ])
  refine wpList_plain rfl fun K hK => ?_
  go_simp
  refine hK _ _ ?_
  clear hK K
  (try simp only [Act.put, List.setIfInBounds_toArray, List.set_cons_zero, List.set_cons_succ])
  refine wpList_plain rfl fun K hK => ?_
  go_simp
  refine hK _ _ ?_
  clear hK K
  (try simp only [Act.put, List.setIfInBounds_toArray, List.set_cons_zero, List.set_cons_succ])
  refine wpList_nil ?_
  have H3 := Lib.hid (AWk.mk (H2.out.g.below hb3) (bel_next H2.out.bel hb3) H2.out.hb)
  clear hb3
  go_upto_region 3 with fail
  refine wp_region_lit ?_
  refine wpList_plain rfl fun K hK => ?_
  go_simp
  refine hK _ _ ?_
  clear hK K
  (try simp only [Act.put, List.setIfInBounds_toArray, List.set_cons_zero, List.set_cons_succ])
  refine list_load_ag rfl _ rfl b1 (gAB bb) rfl H3.out.g ?_
  refine wpList_plain rfl fun K hK => ?_
  go_simp
  ((with_reducible refine (km _).mono ?_); rintro e w4 ⟨rfl, hb4⟩)
  refine hK _ _ ?_
  clear hK K
  (try simp only [Act.put, List.setIfInBounds_toArray, List.set_cons_zero, List.set_cons_succ])
  refine wpList_plain rfl fun K hK => ?_
  go_simp
  refine hK _ _ ?_
  clear hK K
  (try simp only [Act.put, List.setIfInBounds_toArray, List.set_cons_zero, List.set_cons_succ])
  refine list_store_ag rfl _ _ rfl w4.heap.size Ag.zero (gAB bb) rfl rfl (AgW.zero w4 _) ?_
  refine wpList_nil ?_
  have hr4 : b1 < w4.heap.size := (H3.out.g.below hb4).room
  obtain ⟨w5, hw5, h5, h6⟩ : ∃ x, x = stA (w4.alloc (.cells #[.int .i64 0, .int .i64 0, .int .u64 0, .int .i64 0, .int .i64 0, .int .i64 0, .int .i64 0, .int .i64 0, .int .i64 0, .int .i64 0, .int .i64 0, .int .i64 0, .int .i64 0, .int .i64 0, .int .i64 0, .int .i64 0, .int .i64 0, .int .i64 0] 29)) w4.heap.size (gAB bb) ∧ AWk w b1 (gAB bb) x ∧ AgAt x w4.heap.size (gAB bb) :=
    ⟨_, rfl, ⟨((H3.out.g.below hb4).below ((Below.refl _ _).alloc (Nat.le_refl _) _)).st (by omega), stA_below _ (bel_new (bel_next H3.out.bel hb4) _) (by have := H3.out.hb; omega), H3.out.hb⟩, ((AgW.zero w4 29).st (gAB bb)).at_⟩
  rw [← hw5]
  obtain ⟨b4, hb4e⟩ : ∃ b, w4.heap.size = b := ⟨_, rfl⟩
  rw [hb4e] at h6 hr4 ⊢
  have H5 := Lib.hid h5
  have H6 := Lib.hid h6
  clear hw5 h5 h6 hb4 hb4e HG km
  have q0 := fun w => eqAg_self (gAB bb) w
  have g0 := fun x y w => guardAg x y (gAB bb) (gAB bb) w
  have x0 : w5.cell? ⟨b1, 0, none⟩ = some (.int .i64 2) := H5.out.g.cell 0 rfl
  have x2 : w5.cell? ⟨b1, 2, none⟩ = some (.int .u64 8) := H5.out.g.cell 2 rfl
  have x3 : w5.cell? ⟨b1, 3, none⟩ = some (.int .i64 3) := H5.out.g.cell 3 rfl
  have x4 : w5.cell? ⟨b1, 4, none⟩ = some (.int .i64 5) := H5.out.g.cell 4 rfl
  have x5 : w5.cell? ⟨b1, 5, none⟩ = some (.int .i64 5) := H5.out.g.cell 5 rfl
  have k1 := fun w => bucket_is (-5) w (by decide) 0 (Lib.hid bk_neg5)
  have k2 := fun w => bucket_is 0 w (by decide) 1 (Lib.hid bk_0)
  have k3 := fun w => bucket_is 7 w (by decide) 2 (Lib.hid bk_7)
  have k4 := fun w => bucket_is 10 w (by decide) 3 (Lib.hid bk_10)
  have k5 := fun w => bucket_is 1000000000 w (by decide) 8 (Lib.hid bk_9)
  go_upto_region 4 with fail
  refine wp_region_lit ?_
  refine wpList_plain rfl fun K hK => ?_
  go_simp
  ((with_reducible refine (k1 _).mono ?_); rintro e w8 ⟨rfl, rfl⟩)
  refine hK _ _ ?_
  clear hK K
  (try simp only [Act.put, List.setIfInBounds_toArray, List.set_cons_zero, List.set_cons_succ])
  refine wpList_plain rfl fun K hK => ?_
  go_simp
  refine hK _ _ ?_
  clear hK K
  (try simp only [Act.put, List.setIfInBounds_toArray, List.set_cons_zero, List.set_cons_succ])
  refine wpList_plain rfl fun K hK => ?_
  go_simp
  refine hK _ _ ?_
  clear hK K
  (try simp only [Act.put, List.setIfInBounds_toArray, List.set_cons_zero, List.set_cons_succ])
  refine wpList_step fun K hK => ?_
  refine (if_pos (by kernel_rfl)).mpr ?_
  go_simp
  ((with_reducible refine (k2 _).mono ?_); rintro e w8 ⟨rfl, rfl⟩)
  refine hK _ _ ?_
  clear hK K
  (try simp only [Act.put, List.setIfInBounds_toArray, List.set_cons_zero, List.set_cons_succ])
  refine wpList_step fun K hK => ?_
  refine (if_pos (by kernel_rfl)).mpr ?_
  go_simp
  refine hK _ _ ?_
  clear hK K
  (try simp only [Act.put, List.setIfInBounds_toArray, List.set_cons_zero, List.set_cons_succ])
  refine wpList_plain rfl fun K hK => ?_
  go_simp
  refine hK _ _ ?_
  clear hK K
  (try simp only [Act.put, List.setIfInBounds_toArray, List.set_cons_zero, List.set_cons_succ])
  refine wpList_plain rfl fun K hK => ?_
  go_simp
  refine hK _ _ ?_
  clear hK K
  (try simp only [Act.put, List.setIfInBounds_toArray, List.set_cons_zero, List.set_cons_succ])
  refine wpList_step fun K hK => ?_
  refine (if_pos (by kernel_rfl)).mpr ?_
  go_simp
  ((with_reducible refine (k3 _).mono ?_); rintro e w8 ⟨rfl, rfl⟩)
  refine hK _ _ ?_
  clear hK K
  (try simp only [Act.put, List.setIfInBounds_toArray, List.set_cons_zero, List.set_cons_succ])
  refine wpList_step fun K hK => ?_
  refine (if_pos (by kernel_rfl)).mpr ?_
  go_simp
  refine hK _ _ ?_
  clear hK K
  (try simp only [Act.put, List.setIfInBounds_toArray, List.set_cons_zero, List.set_cons_succ])
  refine wpList_plain rfl fun K hK => ?_
  go_simp
  refine hK _ _ ?_
  clear hK K
  (try simp only [Act.put, List.setIfInBounds_toArray, List.set_cons_zero, List.set_cons_succ])
  refine wpList_plain rfl fun K hK => ?_
  go_simp
  refine hK _ _ ?_
  clear hK K
  (try simp only [Act.put, List.setIfInBounds_toArray, List.set_cons_zero, List.set_cons_succ])
  refine wpList_step fun K hK => ?_
  refine (if_pos (by kernel_rfl)).mpr ?_
  go_simp
  ((with_reducible refine (k4 _).mono ?_); rintro e w8 ⟨rfl, rfl⟩)
  refine hK _ _ ?_
  clear hK K
  (try simp only [Act.put, List.setIfInBounds_toArray, List.set_cons_zero, List.set_cons_succ])
  refine wpList_step fun K hK => ?_
  refine (if_pos (by kernel_rfl)).mpr ?_
  go_simp
  refine hK _ _ ?_
  clear hK K
  (try simp only [Act.put, List.setIfInBounds_toArray, List.set_cons_zero, List.set_cons_succ])
  refine wpList_plain rfl fun K hK => ?_
  go_simp
  refine hK _ _ ?_
  clear hK K
  (try simp only [Act.put, List.setIfInBounds_toArray, List.set_cons_zero, List.set_cons_succ])
  refine wpList_plain rfl fun K hK => ?_
  go_simp
  refine hK _ _ ?_
  clear hK K
  (try simp only [Act.put, List.setIfInBounds_toArray, List.set_cons_zero, List.set_cons_succ])
  refine wpList_step fun K hK => ?_
  refine (if_pos (by kernel_rfl)).mpr ?_
  go_simp
  ((with_reducible refine (k5 _).mono ?_); rintro e w8 ⟨rfl, rfl⟩)
  refine hK _ _ ?_
  clear hK K
  (try simp only [Act.put, List.setIfInBounds_toArray, List.set_cons_zero, List.set_cons_succ])
  refine wpList_step fun K hK => ?_
  refine (if_pos (by kernel_rfl)).mpr ?_
  go_simp
  refine hK _ _ ?_
  clear hK K
  (try simp only [Act.put, List.setIfInBounds_toArray, List.set_cons_zero, List.set_cons_succ])
  refine wpList_plain rfl fun K hK => ?_
  go_simp
  refine hK _ _ ?_
  clear hK K
  (try simp only [Act.put, List.setIfInBounds_toArray, List.set_cons_zero, List.set_cons_succ])
  refine wpList_plain rfl fun K hK => ?_
  go_simp
  refine hK _ _ ?_
  clear hK K
  (try simp only [Act.put, List.setIfInBounds_toArray, List.set_cons_zero, List.set_cons_succ])
  refine wpList_step fun K hK => ?_
  refine (if_pos (by kernel_rfl)).mpr ?_
  go_simp
  refine hK _ _ ?_
  clear hK K
  (try simp only [Act.put, List.setIfInBounds_toArray, List.set_cons_zero, List.set_cons_succ])
  refine wpList_step fun K hK => ?_
  refine (if_pos (by kernel_rfl)).mpr ?_
  go_simp
  refine hK _ _ ?_
  clear hK K
  (try simp only [Act.put, List.setIfInBounds_toArray, List.set_cons_zero, List.set_cons_succ])
  refine wpList_step fun K hK => ?_
  refine (if_pos (by kernel_rfl)).mpr ?_
  go_simp
  refine hK _ _ ?_
  clear hK K
  (try simp only [Act.put, List.setIfInBounds_toArray, List.set_cons_zero, List.set_cons_succ])
  refine wpList_plain rfl fun K hK => ?_
  go_simp
  refine hK _ _ ?_
  clear hK K
  (try simp only [Act.put, List.setIfInBounds_toArray, List.set_cons_zero, List.set_cons_succ])
  refine wpList_plain rfl fun K hK => ?_
  go_simp
  refine hK _ _ ?_
  clear hK K
  (try simp only [Act.put, List.setIfInBounds_toArray, List.set_cons_zero, List.set_cons_succ])
  refine wpList_step fun K hK => ?_
  refine (if_pos (by kernel_rfl)).mpr ?_
  go_simp
  refine hK _ _ ?_
  clear hK K
  (try simp only [Act.put, List.setIfInBounds_toArray, List.set_cons_zero, List.set_cons_succ])
  refine wpList_step fun K hK => ?_
  refine (if_pos (by kernel_rfl)).mpr ?_
  go_simp
  refine hK _ _ ?_
  clear hK K
  (try simp only [Act.put, List.setIfInBounds_toArray, List.set_cons_zero, List.set_cons_succ])
  refine wpList_step fun K hK => ?_
  refine (if_pos (by kernel_rfl)).mpr ?_
  go_simp
  refine hK _ _ ?_
  clear hK K
  (try simp only [Act.put, List.setIfInBounds_toArray, List.set_cons_zero, List.set_cons_succ])
  refine wpList_step fun K hK => ?_
  refine (if_pos (by kernel_rfl)).mpr ?_
  go_simp
  refine hK _ _ ?_
  clear hK K
  (try simp only [Act.put, List.setIfInBounds_toArray, List.set_cons_zero, List.set_cons_succ])
  refine wpList_plain rfl fun K hK => ?_
  go_simp
  refine hK _ _ ?_
  clear hK K
  (try simp only [Act.put, List.setIfInBounds_toArray, List.set_cons_zero, List.set_cons_succ])
  refine wpList_plain rfl fun K hK => ?_
  go_simp
  refine hK _ _ ?_
  clear hK K
  (try simp only [Act.put, List.setIfInBounds_toArray, List.set_cons_zero, List.set_cons_succ])
  refine wpList_step fun K hK => ?_
  refine (if_pos (by kernel_rfl)).mpr ?_
  go_simp
  refine hK _ _ ?_
  clear hK K
  (try simp only [Act.put, List.setIfInBounds_toArray, List.set_cons_zero, List.set_cons_succ])
  refine wpList_step fun K hK => ?_
  refine (if_pos (by kernel_rfl)).mpr ?_
  go_simp
  refine hK _ _ ?_
  clear hK K
  (try simp only [Act.put, List.setIfInBounds_toArray, List.set_cons_zero, List.set_cons_succ])
  refine wpList_step fun K hK => ?_
  refine (if_pos (by kernel_rfl)).mpr ?_
  go_simp
  refine hK _ _ ?_
  clear hK K
  (try simp only [Act.put, List.setIfInBounds_toArray, List.set_cons_zero, List.set_cons_succ])
  refine wpList_plain rfl fun K hK => ?_
  go_simp
  refine hK _ _ ?_
  clear hK K
  (try simp only [Act.put, List.setIfInBounds_toArray, List.set_cons_zero, List.set_cons_succ])
  refine wpList_plain rfl fun K hK => ?_
  go_simp
  refine hK _ _ ?_
  clear hK K
  (try simp only [Act.put, List.setIfInBounds_toArray, List.set_cons_zero, List.set_cons_succ])
  refine wpList_step fun K hK => ?_
  refine (if_pos (by kernel_rfl)).mpr ?_
  go_simp
  refine hK _ _ ?_
  clear hK K
  (try simp only [Act.put, List.setIfInBounds_toArray, List.set_cons_zero, List.set_cons_succ])
  refine wpList_step fun K hK => ?_
  refine (if_pos (by kernel_rfl)).mpr ?_
  go_simp
  refine hK _ _ ?_
  clear hK K
  (try simp only [Act.put, List.setIfInBounds_toArray, List.set_cons_zero, List.set_cons_succ])
  refine wpList_step fun K hK => ?_
  refine (if_pos (by kernel_rfl)).mpr ?_
  go_simp
  refine hK _ _ ?_
  clear hK K
  (try simp only [Act.put, List.setIfInBounds_toArray, List.set_cons_zero, List.set_cons_succ])
  refine wpList_plain rfl fun K hK => ?_
  go_simp
  refine hK _ _ ?_
  clear hK K
  (try simp only [Act.put, List.setIfInBounds_toArray, List.set_cons_zero, List.set_cons_succ])
  refine wpList_plain rfl fun K hK => ?_
  go_simp
  refine hK _ _ ?_
  clear hK K
  (try simp only [Act.put, List.setIfInBounds_toArray, List.set_cons_zero, List.set_cons_succ])
  refine wpList_step fun K hK => ?_
  refine (if_pos (by kernel_rfl)).mpr ?_
  go_simp
  refine hK _ _ ?_
  clear hK K
  (try simp only [Act.put, List.setIfInBounds_toArray, List.set_cons_zero, List.set_cons_succ])
  refine wpList_step fun K hK => ?_
  refine (if_pos (by kernel_rfl)).mpr ?_
  go_simp
  refine hK _ _ ?_
  clear hK K
  (try simp only [Act.put, List.setIfInBounds_toArray, List.set_cons_zero, List.set_cons_succ])
  refine wpList_step fun K hK => ?_
  refine (if_pos (by kernel_rfl)).mpr ?_
  go_simp
  refine hK _ _ ?_
  clear hK K
  (try simp only [Act.put, List.setIfInBounds_toArray, List.set_cons_zero, List.set_cons_succ])
  refine wpList_plain rfl fun K hK => ?_
  go_simp
  refine hK _ _ ?_
  clear hK K
  (try simp only [Act.put, List.setIfInBounds_toArray, List.set_cons_zero, List.set_cons_succ])
  refine wpList_plain rfl fun K hK => ?_
  go_simp
  refine hK _ _ ?_
  clear hK K
  (try simp only [Act.put, List.setIfInBounds_toArray, List.set_cons_zero, List.set_cons_succ])
  refine wpList_step fun K hK => ?_
  refine (if_pos (by kernel_rfl)).mpr ?_
  go_simp
  refine hK _ _ ?_
  clear hK K
  (try simp only [Act.put, List.setIfInBounds_toArray, List.set_cons_zero, List.set_cons_succ])
  refine wpList_step fun K hK => ?_
  refine (if_pos (by kernel_rfl)).mpr ?_
  go_simp
  refine hK _ _ ?_
  clear hK K
  (try simp only [Act.put, List.setIfInBounds_toArray, List.set_cons_zero, List.set_cons_succ])
  refine wpList_plain rfl fun K hK => ?_
  go_simp
  refine hK _ _ ?_
  clear hK K
  (try simp only [Act.put, List.setIfInBounds_toArray, List.set_cons_zero, List.set_cons_succ])
  refine wpList_plain rfl fun K hK => ?_
  go_simp
  refine hK _ _ ?_
  clear hK K
  (try simp only [Act.put, List.setIfInBounds_toArray, List.set_cons_zero, List.set_cons_succ])
  refine wpList_step fun K hK => ?_
  refine (if_pos (by kernel_rfl)).mpr ?_
  go_simp
  refine hK _ _ ?_
  clear hK K
  (try simp only [Act.put, List.setIfInBounds_toArray, List.set_cons_zero, List.set_cons_succ])
  refine wpList_plain rfl fun K hK => ?_
  go_simp
  refine hK _ _ ?_
  clear hK K
  (try simp only [Act.put, List.setIfInBounds_toArray, List.set_cons_zero, List.set_cons_succ])
  refine wpList_plain rfl fun K hK => ?_
  go_simp
  refine hK _ _ ?_
  clear hK K
  (try simp only [Act.put, List.setIfInBounds_toArray, List.set_cons_zero, List.set_cons_succ])
  refine wpList_step fun K hK => ?_
  refine (if_pos (by kernel_rfl)).mpr ?_
  refine load_ag _ rfl b4 (gAB bb) rfl H6.out ?_
  refine hK _ _ ?_
  clear hK K
  (try simp only [Act.put, List.setIfInBounds_toArray, List.set_cons_zero, List.set_cons_succ])
  refine wpList_step fun K hK => ?_
  refine (if_pos (by kernel_rfl)).mpr ?_
  refine load_ag _ rfl b1 (gAB bb) rfl H5.out.g ?_
  refine hK _ _ ?_
  clear hK K
  (try simp only [Act.put, List.setIfInBounds_toArray, List.set_cons_zero, List.set_cons_succ])
  refine wpList_step fun K hK => ?_
  refine (if_pos (by kernel_rfl)).mpr ?_
  go_simp
  refine hK _ _ ?_
  clear hK K
  (try simp only [Act.put, List.setIfInBounds_toArray, List.set_cons_zero, List.set_cons_succ])
  refine wpList_plain rfl fun K hK => ?_
  go_simp
  refine hK _ _ ?_
  clear hK K
  (try simp only [Act.put, List.setIfInBounds_toArray, List.set_cons_zero, List.set_cons_succ])
  refine wpList_plain rfl fun K hK => ?_
  go_simp
  refine hK _ _ ?_
  clear hK K
  (try simp only [Act.put, List.setIfInBounds_toArray, List.set_cons_zero, List.set_cons_succ])
  refine wpList_nil ?_
  go_wp2
  go_ret
  exact ⟨rfl, H5.out.bel⟩
end Go.Proofs.Ytipjhlabcbkgjaa.Ag
