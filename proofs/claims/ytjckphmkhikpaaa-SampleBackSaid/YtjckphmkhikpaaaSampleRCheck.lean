/- The contract of the document's Check of records. -/
import Derived.Test.YtjckphmkhikpaaaSampleRec
set_option maxRecDepth 20000
namespace Go.Proofs.Ytjckphmkhikpaaa
open Go.RowKit Go.Proofs.Ytjckphmkhikpaaa.Vi Go.Proofs.Ytjckphmkhikpaaa.Mk


set_option maxHeartbeats 4000000 in
theorem rck_time (r : Rec) (dv : Value) (w : World) (h : Ns w dv r.d) (h1 : decide (0 ≤ r.t ∧ r.t ≤ 1099511627776) = false) : Calls Try.prog 17 #[recV r dv] w fun e w' => e = .returned (.int .i64 r.err) ∧ Below w.heap.size w w' := by
  have kt := fun w => rtime_is r.t false w h1
  have kr := fun w h => rright_is dv r.d w h
  rw [show sameL r.d (plainL r.d) = sameL r.d (plainL r.d) from rfl] at kr
  have HE := Lib.hid (Rec.err_head (Rec.head_time h1))
  clear h1
  have H0 := RHeld.new (r := r) h
  unfold recV
  clear h
  go_enter Try.func17, Try.ntmps17
  go_wp2_with (first
    | (go_at_call 50; (with_reducible refine (kt _).mono ?_); rintro e w1 ⟨rfl, rfl⟩)
    | (go_at_call 51; (with_reducible refine (kr _ H0.ns).mono ?_); rintro e w2 ⟨rfl, hb2⟩))
  have H1 := H0.keep hb2
  clear hb2 H0 kt kr
  refine wp_region_held_drew (S := (RHeld w w.heap.size r dv)) (by kernel_rfl) H1.drew (fun hHeld => ?_)
  refine wpAnyH_take (i := 0) (oi := ?orck_time1o) (v := ?orck_time1v) ?orck_time1h (by kernel_rfl) (by kernel_rfl) (by kernel_rfl) ?orck_time1q ?orck_time1y hHeld ?orck_time1r
  case orck_time1h => (simp only [List.getElem?_toArray, List.getElem?_cons_zero]; rfl)
  case orck_time1q => exact fun _ _ _ h => h
  case orck_time1y => (refine Or.inl ⟨by first | kernel_rfl | rfl, ?_⟩; intro w hSw; (try dsimp only at hSw); obtain ⟨⟨x0, x1, x2, x3, x4, x5, x6, x7, x8⟩, -, -⟩ := hSw; go_simp <;> (try with_reducible rfl))
  try simp only [Act.put, List.setIfInBounds_toArray, List.set_cons_zero, List.set_cons_succ]
  refine wpAnyH_take (i := 1) (oi := ?orck_time2o) (v := ?orck_time2v) ?orck_time2h (by kernel_rfl) (by kernel_rfl) (by kernel_rfl) ?orck_time2q ?orck_time2y hHeld ?orck_time2r
  case orck_time2h => (simp only [List.getElem?_toArray, List.getElem?_cons_succ, List.getElem?_cons_zero]; rfl)
  case orck_time2q => exact fun _ _ _ h => h
  case orck_time2y => (refine Or.inl ⟨by first | kernel_rfl | rfl, ?_⟩; intro w hSw; (try dsimp only at hSw); obtain ⟨⟨x0, x1, x2, x3, x4, x5, x6, x7, x8⟩, -, -⟩ := hSw; go_simp <;> (try with_reducible rfl))
  try simp only [Act.put, List.setIfInBounds_toArray, List.set_cons_zero, List.set_cons_succ]
  refine wpAnyH_take (i := 2) (oi := ?orck_time3o) (v := ?orck_time3v) ?orck_time3h (by kernel_rfl) (by kernel_rfl) (by kernel_rfl) ?orck_time3q ?orck_time3y hHeld ?orck_time3r
  case orck_time3h => (simp only [List.getElem?_toArray, List.getElem?_cons_succ, List.getElem?_cons_zero]; rfl)
  case orck_time3q => exact fun _ _ _ h => h
  case orck_time3y => (refine Or.inl ⟨by first | kernel_rfl | rfl, ?_⟩; intro w hSw; (try dsimp only at hSw); obtain ⟨⟨x0, x1, x2, x3, x4, x5, x6, x7, x8⟩, -, -⟩ := hSw; go_simp <;> (try with_reducible rfl))
  try simp only [Act.put, List.setIfInBounds_toArray, List.set_cons_zero, List.set_cons_succ]
  refine wpAnyH_take (i := 3) (oi := ?orck_time4o) (v := undef) ?orck_time4h (by kernel_rfl) (by kernel_rfl) (by kernel_rfl) ?orck_time4q ?orck_time4y hHeld ?orck_time4r
  case orck_time4h => (simp only [List.getElem?_toArray, List.getElem?_cons_succ, List.getElem?_cons_zero]; rfl)
  case orck_time4q => exact fun _ _ _ h => h
  case orck_time4y => exact Or.inr ⟨by first | kernel_rfl | rfl, rfl⟩
  try simp only [Act.put, List.setIfInBounds_toArray, List.set_cons_zero, List.set_cons_succ]
  refine wpAnyH_take (i := 4) (oi := ?orck_time5o) (v := undef) ?orck_time5h (by kernel_rfl) (by kernel_rfl) (by kernel_rfl) ?orck_time5q ?orck_time5y hHeld ?orck_time5r
  case orck_time5h => (simp only [List.getElem?_toArray, List.getElem?_cons_succ, List.getElem?_cons_zero]; rfl)
  case orck_time5q => exact fun _ _ _ h => h
  case orck_time5y => exact Or.inr ⟨by first | kernel_rfl | rfl, rfl⟩
  try simp only [Act.put, List.setIfInBounds_toArray, List.set_cons_zero, List.set_cons_succ]
  refine wpAnyH_take (i := 5) (oi := ?orck_time6o) (v := ?orck_time6v) ?orck_time6h (by kernel_rfl) (by kernel_rfl) (by kernel_rfl) ?orck_time6q ?orck_time6y hHeld ?orck_time6r
  case orck_time6h => (simp only [List.getElem?_toArray, List.getElem?_cons_succ, List.getElem?_cons_zero]; rfl)
  case orck_time6q => exact fun _ _ _ h => h
  case orck_time6y => (refine Or.inl ⟨by first | kernel_rfl | rfl, ?_⟩; intro w hSw; (try dsimp only at hSw); obtain ⟨⟨x0, x1, x2, x3, x4, x5, x6, x7, x8⟩, -, -⟩ := hSw; go_simp <;> (try with_reducible rfl))
  try simp only [Act.put, List.setIfInBounds_toArray, List.set_cons_zero, List.set_cons_succ]
  refine wpAnyH_take (i := 6) (oi := ?orck_time7o) (v := ?orck_time7v) ?orck_time7h (by kernel_rfl) (by kernel_rfl) (by kernel_rfl) ?orck_time7q ?orck_time7y hHeld ?orck_time7r
  case orck_time7h => (simp only [List.getElem?_toArray, List.getElem?_cons_succ, List.getElem?_cons_zero]; rfl)
  case orck_time7q => exact fun _ _ _ h => h
  case orck_time7y => (refine Or.inl ⟨by first | kernel_rfl | rfl, ?_⟩; intro w hSw; (try dsimp only at hSw); obtain ⟨⟨x0, x1, x2, x3, x4, x5, x6, x7, x8⟩, -, -⟩ := hSw; go_simp <;> (try with_reducible rfl))
  try simp only [Act.put, List.setIfInBounds_toArray, List.set_cons_zero, List.set_cons_succ]
  refine wpAnyH_take (i := 7) (oi := ?orck_time8o) (v := undef) ?orck_time8h (by kernel_rfl) (by kernel_rfl) (by kernel_rfl) ?orck_time8q ?orck_time8y hHeld ?orck_time8r
  case orck_time8h => (simp only [List.getElem?_toArray, List.getElem?_cons_succ, List.getElem?_cons_zero]; rfl)
  case orck_time8q => exact fun _ _ _ h => h
  case orck_time8y => exact Or.inr ⟨by first | kernel_rfl | rfl, rfl⟩
  try simp only [Act.put, List.setIfInBounds_toArray, List.set_cons_zero, List.set_cons_succ]
  refine wpAnyH_take (i := 8) (oi := ?orck_time9o) (v := undef) ?orck_time9h (by kernel_rfl) (by kernel_rfl) (by kernel_rfl) ?orck_time9q ?orck_time9y hHeld ?orck_time9r
  case orck_time9h => (simp only [List.getElem?_toArray, List.getElem?_cons_succ, List.getElem?_cons_zero]; rfl)
  case orck_time9q => exact fun _ _ _ h => h
  case orck_time9y => exact Or.inr ⟨by first | kernel_rfl | rfl, rfl⟩
  try simp only [Act.put, List.setIfInBounds_toArray, List.set_cons_zero, List.set_cons_succ]
  refine wpAnyH_take (i := 9) (oi := ?orck_time10o) (v := undef) ?orck_time10h (by kernel_rfl) (by kernel_rfl) (by kernel_rfl) ?orck_time10q ?orck_time10y hHeld ?orck_time10r
  case orck_time10h => (simp only [List.getElem?_toArray, List.getElem?_cons_succ, List.getElem?_cons_zero]; rfl)
  case orck_time10q => exact fun _ _ _ h => h
  case orck_time10y => exact Or.inr ⟨by first | kernel_rfl | rfl, rfl⟩
  try simp only [Act.put, List.setIfInBounds_toArray, List.set_cons_zero, List.set_cons_succ]
  refine wpAnyH_take (i := 10) (oi := ?orck_time11o) (v := undef) ?orck_time11h (by kernel_rfl) (by kernel_rfl) (by kernel_rfl) ?orck_time11q ?orck_time11y hHeld ?orck_time11r
  case orck_time11h => (simp only [List.getElem?_toArray, List.getElem?_cons_succ, List.getElem?_cons_zero]; rfl)
  case orck_time11q => exact fun _ _ _ h => h
  case orck_time11y => exact Or.inr ⟨by first | kernel_rfl | rfl, rfl⟩
  try simp only [Act.put, List.setIfInBounds_toArray, List.set_cons_zero, List.set_cons_succ]
  refine wpAnyH_take (i := 11) (oi := ?orck_time12o) (v := ?orck_time12v) ?orck_time12h (by kernel_rfl) (by kernel_rfl) (by kernel_rfl) ?orck_time12q ?orck_time12y hHeld ?orck_time12r
  case orck_time12h => (simp only [List.getElem?_toArray, List.getElem?_cons_succ, List.getElem?_cons_zero]; rfl)
  case orck_time12q => exact fun _ _ _ h => h
  case orck_time12y => (refine Or.inl ⟨by first | kernel_rfl | rfl, ?_⟩; intro w hSw; (try dsimp only at hSw); obtain ⟨⟨x0, x1, x2, x3, x4, x5, x6, x7, x8⟩, -, -⟩ := hSw; go_simp <;> (try with_reducible rfl))
  try simp only [Act.put, List.setIfInBounds_toArray, List.set_cons_zero, List.set_cons_succ]
  refine wpAnyH_take (i := 12) (oi := ?orck_time13o) (v := ?orck_time13v) ?orck_time13h (by kernel_rfl) (by kernel_rfl) (by kernel_rfl) ?orck_time13q ?orck_time13y hHeld ?orck_time13r
  case orck_time13h => (simp only [List.getElem?_toArray, List.getElem?_cons_succ, List.getElem?_cons_zero]; rfl)
  case orck_time13q => exact fun _ _ _ h => h
  case orck_time13y => (refine Or.inl ⟨by first | kernel_rfl | rfl, ?_⟩; intro w hSw; (try dsimp only at hSw); obtain ⟨⟨x0, x1, x2, x3, x4, x5, x6, x7, x8⟩, -, -⟩ := hSw; go_simp <;> (try with_reducible rfl))
  try simp only [Act.put, List.setIfInBounds_toArray, List.set_cons_zero, List.set_cons_succ]
  refine wpAnyH_take (i := 13) (oi := ?orck_time14o) (v := undef) ?orck_time14h (by kernel_rfl) (by kernel_rfl) (by kernel_rfl) ?orck_time14q ?orck_time14y hHeld ?orck_time14r
  case orck_time14h => (simp only [List.getElem?_toArray, List.getElem?_cons_succ, List.getElem?_cons_zero]; rfl)
  case orck_time14q => exact fun _ _ _ h => h
  case orck_time14y => exact Or.inr ⟨by first | kernel_rfl | rfl, rfl⟩
  try simp only [Act.put, List.setIfInBounds_toArray, List.set_cons_zero, List.set_cons_succ]
  refine wpAnyH_take (i := 14) (oi := ?orck_time15o) (v := undef) ?orck_time15h (by kernel_rfl) (by kernel_rfl) (by kernel_rfl) ?orck_time15q ?orck_time15y hHeld ?orck_time15r
  case orck_time15h => (simp only [List.getElem?_toArray, List.getElem?_cons_succ, List.getElem?_cons_zero]; rfl)
  case orck_time15q => exact fun _ _ _ h => h
  case orck_time15y => exact Or.inr ⟨by first | kernel_rfl | rfl, rfl⟩
  try simp only [Act.put, List.setIfInBounds_toArray, List.set_cons_zero, List.set_cons_succ]
  refine wpAnyH_take (i := 15) (oi := ?orck_time16o) (v := undef) ?orck_time16h (by kernel_rfl) (by kernel_rfl) (by kernel_rfl) ?orck_time16q ?orck_time16y hHeld ?orck_time16r
  case orck_time16h => (simp only [List.getElem?_toArray, List.getElem?_cons_succ, List.getElem?_cons_zero]; rfl)
  case orck_time16q => exact fun _ _ _ h => h
  case orck_time16y => exact Or.inr ⟨by first | kernel_rfl | rfl, rfl⟩
  try simp only [Act.put, List.setIfInBounds_toArray, List.set_cons_zero, List.set_cons_succ]
  refine wpAnyH_take (i := 16) (oi := ?orck_time17o) (v := undef) ?orck_time17h (by kernel_rfl) (by kernel_rfl) (by kernel_rfl) ?orck_time17q ?orck_time17y hHeld ?orck_time17r
  case orck_time17h => (simp only [List.getElem?_toArray, List.getElem?_cons_succ, List.getElem?_cons_zero]; rfl)
  case orck_time17q => exact fun _ _ _ h => h
  case orck_time17y => exact Or.inr ⟨by first | kernel_rfl | rfl, rfl⟩
  try simp only [Act.put, List.setIfInBounds_toArray, List.set_cons_zero, List.set_cons_succ]
  refine wpAnyH_take (i := 17) (oi := ?orck_time18o) (v := undef) ?orck_time18h (by kernel_rfl) (by kernel_rfl) (by kernel_rfl) ?orck_time18q ?orck_time18y hHeld ?orck_time18r
  case orck_time18h => (simp only [List.getElem?_toArray, List.getElem?_cons_succ, List.getElem?_cons_zero]; rfl)
  case orck_time18q => exact fun _ _ _ h => h
  case orck_time18y => exact Or.inr ⟨by first | kernel_rfl | rfl, rfl⟩
  try simp only [Act.put, List.setIfInBounds_toArray, List.set_cons_zero, List.set_cons_succ]
  refine wpAnyH_take (i := 18) (oi := ?orck_time19o) (v := undef) ?orck_time19h (by kernel_rfl) (by kernel_rfl) (by kernel_rfl) ?orck_time19q ?orck_time19y hHeld ?orck_time19r
  case orck_time19h => (simp only [List.getElem?_toArray, List.getElem?_cons_succ, List.getElem?_cons_zero]; rfl)
  case orck_time19q => exact fun _ _ _ h => h
  case orck_time19y => exact Or.inr ⟨by first | kernel_rfl | rfl, rfl⟩
  try simp only [Act.put, List.setIfInBounds_toArray, List.set_cons_zero, List.set_cons_succ]
  refine wpAnyH_take (i := 19) (oi := ?orck_time20o) (v := undef) ?orck_time20h (by kernel_rfl) (by kernel_rfl) (by kernel_rfl) ?orck_time20q ?orck_time20y hHeld ?orck_time20r
  case orck_time20h => (simp only [List.getElem?_toArray, List.getElem?_cons_succ, List.getElem?_cons_zero]; rfl)
  case orck_time20q => exact fun _ _ _ h => h
  case orck_time20y => exact Or.inr ⟨by first | kernel_rfl | rfl, rfl⟩
  try simp only [Act.put, List.setIfInBounds_toArray, List.set_cons_zero, List.set_cons_succ]
  refine wpAnyH_take (i := 20) (oi := ?orck_time21o) (v := undef) ?orck_time21h (by kernel_rfl) (by kernel_rfl) (by kernel_rfl) ?orck_time21q ?orck_time21y hHeld ?orck_time21r
  case orck_time21h => (simp only [List.getElem?_toArray, List.getElem?_cons_succ, List.getElem?_cons_zero]; rfl)
  case orck_time21q => exact fun _ _ _ h => h
  case orck_time21y => exact Or.inr ⟨by first | kernel_rfl | rfl, rfl⟩
  try simp only [Act.put, List.setIfInBounds_toArray, List.set_cons_zero, List.set_cons_succ]
  refine wpAnyH_take (i := 21) (oi := ?orck_time22o) (v := undef) ?orck_time22h (by kernel_rfl) (by kernel_rfl) (by kernel_rfl) ?orck_time22q ?orck_time22y hHeld ?orck_time22r
  case orck_time22h => (simp only [List.getElem?_toArray, List.getElem?_cons_succ, List.getElem?_cons_zero]; rfl)
  case orck_time22q => exact fun _ _ _ h => h
  case orck_time22y => exact Or.inr ⟨by first | kernel_rfl | rfl, rfl⟩
  try simp only [Act.put, List.setIfInBounds_toArray, List.set_cons_zero, List.set_cons_succ]
  refine wpAnyH_take (i := 22) (oi := ?orck_time23o) (v := undef) ?orck_time23h (by kernel_rfl) (by kernel_rfl) (by kernel_rfl) ?orck_time23q ?orck_time23y hHeld ?orck_time23r
  case orck_time23h => (simp only [List.getElem?_toArray, List.getElem?_cons_succ, List.getElem?_cons_zero]; rfl)
  case orck_time23q => exact fun _ _ _ h => h
  case orck_time23y => exact Or.inr ⟨by first | kernel_rfl | rfl, rfl⟩
  try simp only [Act.put, List.setIfInBounds_toArray, List.set_cons_zero, List.set_cons_succ]
  refine wpAnyH_take (i := 23) (oi := ?orck_time24o) (v := undef) ?orck_time24h (by kernel_rfl) (by kernel_rfl) (by kernel_rfl) ?orck_time24q ?orck_time24y hHeld ?orck_time24r
  case orck_time24h => (simp only [List.getElem?_toArray, List.getElem?_cons_succ, List.getElem?_cons_zero]; rfl)
  case orck_time24q => exact fun _ _ _ h => h
  case orck_time24y => exact Or.inr ⟨by first | kernel_rfl | rfl, rfl⟩
  try simp only [Act.put, List.setIfInBounds_toArray, List.set_cons_zero, List.set_cons_succ]
  refine wpAnyH_take (i := 24) (oi := ?orck_time25o) (v := ?orck_time25v) ?orck_time25h (by kernel_rfl) (by kernel_rfl) (by kernel_rfl) ?orck_time25q ?orck_time25y hHeld ?orck_time25r
  case orck_time25h => (simp only [List.getElem?_toArray, List.getElem?_cons_succ, List.getElem?_cons_zero]; rfl)
  case orck_time25q => exact fun _ _ _ h => h
  case orck_time25y => (refine Or.inl ⟨by first | kernel_rfl | rfl, ?_⟩; intro w hSw; (try dsimp only at hSw); obtain ⟨⟨x0, x1, x2, x3, x4, x5, x6, x7, x8⟩, -, -⟩ := hSw; go_simp <;> (try with_reducible rfl))
  try simp only [Act.put, List.setIfInBounds_toArray, List.set_cons_zero, List.set_cons_succ]
  refine wpAnyH_done (by kernel_rfl) ?_ _
  have hbel := hHeld.bel
  go_wp2
  go_ret
  exact ⟨by rw [HE.out]; rfl, hbel⟩

set_option maxHeartbeats 4000000 in
theorem rck_deps (r : Rec) (dv : Value) (w : World) (h : Ns w dv r.d) (h1 : decide (0 ≤ r.t ∧ r.t ≤ 1099511627776) = true) (h2 : sameL r.d (plainL r.d) = false) : Calls Try.prog 17 #[recV r dv] w fun e w' => e = .returned (.int .i64 r.err) ∧ Below w.heap.size w w' := by
  have kt := fun w => rtime_is r.t true w h1
  have kr := fun w h => rright_is dv r.d w h
  rw [h2] at kr
  have HE := Lib.hid (Rec.err_head (Rec.head_deps h2))
  clear h1 h2
  have H0 := RHeld.new (r := r) h
  unfold recV
  clear h
  go_enter Try.func17, Try.ntmps17
  go_wp2_with (first
    | (go_at_call 50; (with_reducible refine (kt _).mono ?_); rintro e w1 ⟨rfl, rfl⟩)
    | (go_at_call 51; (with_reducible refine (kr _ H0.ns).mono ?_); rintro e w2 ⟨rfl, hb2⟩))
  have H1 := H0.keep hb2
  clear hb2 H0 kt kr
  refine wp_region_held_drew (S := (RHeld w w.heap.size r dv)) (by kernel_rfl) H1.drew (fun hHeld => ?_)
  refine wpAnyH_take (i := 0) (oi := ?orck_deps1o) (v := ?orck_deps1v) ?orck_deps1h (by kernel_rfl) (by kernel_rfl) (by kernel_rfl) ?orck_deps1q ?orck_deps1y hHeld ?orck_deps1r
  case orck_deps1h => (simp only [List.getElem?_toArray, List.getElem?_cons_zero]; rfl)
  case orck_deps1q => exact fun _ _ _ h => h
  case orck_deps1y => (refine Or.inl ⟨by first | kernel_rfl | rfl, ?_⟩; intro w hSw; (try dsimp only at hSw); obtain ⟨⟨x0, x1, x2, x3, x4, x5, x6, x7, x8⟩, -, -⟩ := hSw; go_simp <;> (try with_reducible rfl))
  try simp only [Act.put, List.setIfInBounds_toArray, List.set_cons_zero, List.set_cons_succ]
  refine wpAnyH_take (i := 1) (oi := ?orck_deps2o) (v := ?orck_deps2v) ?orck_deps2h (by kernel_rfl) (by kernel_rfl) (by kernel_rfl) ?orck_deps2q ?orck_deps2y hHeld ?orck_deps2r
  case orck_deps2h => (simp only [List.getElem?_toArray, List.getElem?_cons_succ, List.getElem?_cons_zero]; rfl)
  case orck_deps2q => exact fun _ _ _ h => h
  case orck_deps2y => (refine Or.inl ⟨by first | kernel_rfl | rfl, ?_⟩; intro w hSw; (try dsimp only at hSw); obtain ⟨⟨x0, x1, x2, x3, x4, x5, x6, x7, x8⟩, -, -⟩ := hSw; go_simp <;> (try with_reducible rfl))
  try simp only [Act.put, List.setIfInBounds_toArray, List.set_cons_zero, List.set_cons_succ]
  refine wpAnyH_take (i := 2) (oi := ?orck_deps3o) (v := ?orck_deps3v) ?orck_deps3h (by kernel_rfl) (by kernel_rfl) (by kernel_rfl) ?orck_deps3q ?orck_deps3y hHeld ?orck_deps3r
  case orck_deps3h => (simp only [List.getElem?_toArray, List.getElem?_cons_succ, List.getElem?_cons_zero]; rfl)
  case orck_deps3q => exact fun _ _ _ h => h
  case orck_deps3y => (refine Or.inl ⟨by first | kernel_rfl | rfl, ?_⟩; intro w hSw; (try dsimp only at hSw); obtain ⟨⟨x0, x1, x2, x3, x4, x5, x6, x7, x8⟩, -, -⟩ := hSw; go_simp <;> (try with_reducible rfl))
  try simp only [Act.put, List.setIfInBounds_toArray, List.set_cons_zero, List.set_cons_succ]
  refine wpAnyH_take (i := 3) (oi := ?orck_deps4o) (v := ?orck_deps4v) ?orck_deps4h (by kernel_rfl) (by kernel_rfl) (by kernel_rfl) ?orck_deps4q ?orck_deps4y hHeld ?orck_deps4r
  case orck_deps4h => (simp only [List.getElem?_toArray, List.getElem?_cons_succ, List.getElem?_cons_zero]; rfl)
  case orck_deps4q => exact fun _ _ _ h => h
  case orck_deps4y => (refine Or.inl ⟨by first | kernel_rfl | rfl, ?_⟩; intro w hSw; (try dsimp only at hSw); obtain ⟨⟨x0, x1, x2, x3, x4, x5, x6, x7, x8⟩, -, -⟩ := hSw; go_simp <;> (try with_reducible rfl))
  try simp only [Act.put, List.setIfInBounds_toArray, List.set_cons_zero, List.set_cons_succ]
  refine wpAnyH_take (i := 4) (oi := ?orck_deps5o) (v := ?orck_deps5v) ?orck_deps5h (by kernel_rfl) (by kernel_rfl) (by kernel_rfl) ?orck_deps5q ?orck_deps5y hHeld ?orck_deps5r
  case orck_deps5h => (simp only [List.getElem?_toArray, List.getElem?_cons_succ, List.getElem?_cons_zero]; rfl)
  case orck_deps5q => exact fun _ _ _ h => h
  case orck_deps5y => (refine Or.inl ⟨by first | kernel_rfl | rfl, ?_⟩; intro w hSw; (try dsimp only at hSw); obtain ⟨⟨x0, x1, x2, x3, x4, x5, x6, x7, x8⟩, -, -⟩ := hSw; go_simp <;> (try with_reducible rfl))
  try simp only [Act.put, List.setIfInBounds_toArray, List.set_cons_zero, List.set_cons_succ]
  refine wpAnyH_take (i := 5) (oi := ?orck_deps6o) (v := ?orck_deps6v) ?orck_deps6h (by kernel_rfl) (by kernel_rfl) (by kernel_rfl) ?orck_deps6q ?orck_deps6y hHeld ?orck_deps6r
  case orck_deps6h => (simp only [List.getElem?_toArray, List.getElem?_cons_succ, List.getElem?_cons_zero]; rfl)
  case orck_deps6q => exact fun _ _ _ h => h
  case orck_deps6y => (refine Or.inl ⟨by first | kernel_rfl | rfl, ?_⟩; intro w hSw; (try dsimp only at hSw); obtain ⟨⟨x0, x1, x2, x3, x4, x5, x6, x7, x8⟩, -, -⟩ := hSw; go_simp <;> (try with_reducible rfl))
  try simp only [Act.put, List.setIfInBounds_toArray, List.set_cons_zero, List.set_cons_succ]
  refine wpAnyH_take (i := 6) (oi := ?orck_deps7o) (v := ?orck_deps7v) ?orck_deps7h (by kernel_rfl) (by kernel_rfl) (by kernel_rfl) ?orck_deps7q ?orck_deps7y hHeld ?orck_deps7r
  case orck_deps7h => (simp only [List.getElem?_toArray, List.getElem?_cons_succ, List.getElem?_cons_zero]; rfl)
  case orck_deps7q => exact fun _ _ _ h => h
  case orck_deps7y => (refine Or.inl ⟨by first | kernel_rfl | rfl, ?_⟩; intro w hSw; (try dsimp only at hSw); obtain ⟨⟨x0, x1, x2, x3, x4, x5, x6, x7, x8⟩, -, -⟩ := hSw; go_simp <;> (try with_reducible rfl))
  try simp only [Act.put, List.setIfInBounds_toArray, List.set_cons_zero, List.set_cons_succ]
  refine wpAnyH_take (i := 7) (oi := ?orck_deps8o) (v := undef) ?orck_deps8h (by kernel_rfl) (by kernel_rfl) (by kernel_rfl) ?orck_deps8q ?orck_deps8y hHeld ?orck_deps8r
  case orck_deps8h => (simp only [List.getElem?_toArray, List.getElem?_cons_succ, List.getElem?_cons_zero]; rfl)
  case orck_deps8q => exact fun _ _ _ h => h
  case orck_deps8y => exact Or.inr ⟨by first | kernel_rfl | rfl, rfl⟩
  try simp only [Act.put, List.setIfInBounds_toArray, List.set_cons_zero, List.set_cons_succ]
  refine wpAnyH_take (i := 8) (oi := ?orck_deps9o) (v := undef) ?orck_deps9h (by kernel_rfl) (by kernel_rfl) (by kernel_rfl) ?orck_deps9q ?orck_deps9y hHeld ?orck_deps9r
  case orck_deps9h => (simp only [List.getElem?_toArray, List.getElem?_cons_succ, List.getElem?_cons_zero]; rfl)
  case orck_deps9q => exact fun _ _ _ h => h
  case orck_deps9y => exact Or.inr ⟨by first | kernel_rfl | rfl, rfl⟩
  try simp only [Act.put, List.setIfInBounds_toArray, List.set_cons_zero, List.set_cons_succ]
  refine wpAnyH_take (i := 9) (oi := ?orck_deps10o) (v := undef) ?orck_deps10h (by kernel_rfl) (by kernel_rfl) (by kernel_rfl) ?orck_deps10q ?orck_deps10y hHeld ?orck_deps10r
  case orck_deps10h => (simp only [List.getElem?_toArray, List.getElem?_cons_succ, List.getElem?_cons_zero]; rfl)
  case orck_deps10q => exact fun _ _ _ h => h
  case orck_deps10y => exact Or.inr ⟨by first | kernel_rfl | rfl, rfl⟩
  try simp only [Act.put, List.setIfInBounds_toArray, List.set_cons_zero, List.set_cons_succ]
  refine wpAnyH_take (i := 10) (oi := ?orck_deps11o) (v := undef) ?orck_deps11h (by kernel_rfl) (by kernel_rfl) (by kernel_rfl) ?orck_deps11q ?orck_deps11y hHeld ?orck_deps11r
  case orck_deps11h => (simp only [List.getElem?_toArray, List.getElem?_cons_succ, List.getElem?_cons_zero]; rfl)
  case orck_deps11q => exact fun _ _ _ h => h
  case orck_deps11y => exact Or.inr ⟨by first | kernel_rfl | rfl, rfl⟩
  try simp only [Act.put, List.setIfInBounds_toArray, List.set_cons_zero, List.set_cons_succ]
  refine wpAnyH_take (i := 11) (oi := ?orck_deps12o) (v := ?orck_deps12v) ?orck_deps12h (by kernel_rfl) (by kernel_rfl) (by kernel_rfl) ?orck_deps12q ?orck_deps12y hHeld ?orck_deps12r
  case orck_deps12h => (simp only [List.getElem?_toArray, List.getElem?_cons_succ, List.getElem?_cons_zero]; rfl)
  case orck_deps12q => exact fun _ _ _ h => h
  case orck_deps12y => (refine Or.inl ⟨by first | kernel_rfl | rfl, ?_⟩; intro w hSw; (try dsimp only at hSw); obtain ⟨⟨x0, x1, x2, x3, x4, x5, x6, x7, x8⟩, -, -⟩ := hSw; go_simp <;> (try with_reducible rfl))
  try simp only [Act.put, List.setIfInBounds_toArray, List.set_cons_zero, List.set_cons_succ]
  refine wpAnyH_take (i := 12) (oi := ?orck_deps13o) (v := ?orck_deps13v) ?orck_deps13h (by kernel_rfl) (by kernel_rfl) (by kernel_rfl) ?orck_deps13q ?orck_deps13y hHeld ?orck_deps13r
  case orck_deps13h => (simp only [List.getElem?_toArray, List.getElem?_cons_succ, List.getElem?_cons_zero]; rfl)
  case orck_deps13q => exact fun _ _ _ h => h
  case orck_deps13y => (refine Or.inl ⟨by first | kernel_rfl | rfl, ?_⟩; intro w hSw; (try dsimp only at hSw); obtain ⟨⟨x0, x1, x2, x3, x4, x5, x6, x7, x8⟩, -, -⟩ := hSw; go_simp <;> (try with_reducible rfl))
  try simp only [Act.put, List.setIfInBounds_toArray, List.set_cons_zero, List.set_cons_succ]
  refine wpAnyH_take (i := 13) (oi := ?orck_deps14o) (v := undef) ?orck_deps14h (by kernel_rfl) (by kernel_rfl) (by kernel_rfl) ?orck_deps14q ?orck_deps14y hHeld ?orck_deps14r
  case orck_deps14h => (simp only [List.getElem?_toArray, List.getElem?_cons_succ, List.getElem?_cons_zero]; rfl)
  case orck_deps14q => exact fun _ _ _ h => h
  case orck_deps14y => exact Or.inr ⟨by first | kernel_rfl | rfl, rfl⟩
  try simp only [Act.put, List.setIfInBounds_toArray, List.set_cons_zero, List.set_cons_succ]
  refine wpAnyH_take (i := 14) (oi := ?orck_deps15o) (v := undef) ?orck_deps15h (by kernel_rfl) (by kernel_rfl) (by kernel_rfl) ?orck_deps15q ?orck_deps15y hHeld ?orck_deps15r
  case orck_deps15h => (simp only [List.getElem?_toArray, List.getElem?_cons_succ, List.getElem?_cons_zero]; rfl)
  case orck_deps15q => exact fun _ _ _ h => h
  case orck_deps15y => exact Or.inr ⟨by first | kernel_rfl | rfl, rfl⟩
  try simp only [Act.put, List.setIfInBounds_toArray, List.set_cons_zero, List.set_cons_succ]
  refine wpAnyH_take (i := 15) (oi := ?orck_deps16o) (v := undef) ?orck_deps16h (by kernel_rfl) (by kernel_rfl) (by kernel_rfl) ?orck_deps16q ?orck_deps16y hHeld ?orck_deps16r
  case orck_deps16h => (simp only [List.getElem?_toArray, List.getElem?_cons_succ, List.getElem?_cons_zero]; rfl)
  case orck_deps16q => exact fun _ _ _ h => h
  case orck_deps16y => exact Or.inr ⟨by first | kernel_rfl | rfl, rfl⟩
  try simp only [Act.put, List.setIfInBounds_toArray, List.set_cons_zero, List.set_cons_succ]
  refine wpAnyH_take (i := 16) (oi := ?orck_deps17o) (v := undef) ?orck_deps17h (by kernel_rfl) (by kernel_rfl) (by kernel_rfl) ?orck_deps17q ?orck_deps17y hHeld ?orck_deps17r
  case orck_deps17h => (simp only [List.getElem?_toArray, List.getElem?_cons_succ, List.getElem?_cons_zero]; rfl)
  case orck_deps17q => exact fun _ _ _ h => h
  case orck_deps17y => exact Or.inr ⟨by first | kernel_rfl | rfl, rfl⟩
  try simp only [Act.put, List.setIfInBounds_toArray, List.set_cons_zero, List.set_cons_succ]
  refine wpAnyH_take (i := 17) (oi := ?orck_deps18o) (v := undef) ?orck_deps18h (by kernel_rfl) (by kernel_rfl) (by kernel_rfl) ?orck_deps18q ?orck_deps18y hHeld ?orck_deps18r
  case orck_deps18h => (simp only [List.getElem?_toArray, List.getElem?_cons_succ, List.getElem?_cons_zero]; rfl)
  case orck_deps18q => exact fun _ _ _ h => h
  case orck_deps18y => exact Or.inr ⟨by first | kernel_rfl | rfl, rfl⟩
  try simp only [Act.put, List.setIfInBounds_toArray, List.set_cons_zero, List.set_cons_succ]
  refine wpAnyH_take (i := 18) (oi := ?orck_deps19o) (v := undef) ?orck_deps19h (by kernel_rfl) (by kernel_rfl) (by kernel_rfl) ?orck_deps19q ?orck_deps19y hHeld ?orck_deps19r
  case orck_deps19h => (simp only [List.getElem?_toArray, List.getElem?_cons_succ, List.getElem?_cons_zero]; rfl)
  case orck_deps19q => exact fun _ _ _ h => h
  case orck_deps19y => exact Or.inr ⟨by first | kernel_rfl | rfl, rfl⟩
  try simp only [Act.put, List.setIfInBounds_toArray, List.set_cons_zero, List.set_cons_succ]
  refine wpAnyH_take (i := 19) (oi := ?orck_deps20o) (v := undef) ?orck_deps20h (by kernel_rfl) (by kernel_rfl) (by kernel_rfl) ?orck_deps20q ?orck_deps20y hHeld ?orck_deps20r
  case orck_deps20h => (simp only [List.getElem?_toArray, List.getElem?_cons_succ, List.getElem?_cons_zero]; rfl)
  case orck_deps20q => exact fun _ _ _ h => h
  case orck_deps20y => exact Or.inr ⟨by first | kernel_rfl | rfl, rfl⟩
  try simp only [Act.put, List.setIfInBounds_toArray, List.set_cons_zero, List.set_cons_succ]
  refine wpAnyH_take (i := 20) (oi := ?orck_deps21o) (v := undef) ?orck_deps21h (by kernel_rfl) (by kernel_rfl) (by kernel_rfl) ?orck_deps21q ?orck_deps21y hHeld ?orck_deps21r
  case orck_deps21h => (simp only [List.getElem?_toArray, List.getElem?_cons_succ, List.getElem?_cons_zero]; rfl)
  case orck_deps21q => exact fun _ _ _ h => h
  case orck_deps21y => exact Or.inr ⟨by first | kernel_rfl | rfl, rfl⟩
  try simp only [Act.put, List.setIfInBounds_toArray, List.set_cons_zero, List.set_cons_succ]
  refine wpAnyH_take (i := 21) (oi := ?orck_deps22o) (v := undef) ?orck_deps22h (by kernel_rfl) (by kernel_rfl) (by kernel_rfl) ?orck_deps22q ?orck_deps22y hHeld ?orck_deps22r
  case orck_deps22h => (simp only [List.getElem?_toArray, List.getElem?_cons_succ, List.getElem?_cons_zero]; rfl)
  case orck_deps22q => exact fun _ _ _ h => h
  case orck_deps22y => exact Or.inr ⟨by first | kernel_rfl | rfl, rfl⟩
  try simp only [Act.put, List.setIfInBounds_toArray, List.set_cons_zero, List.set_cons_succ]
  refine wpAnyH_take (i := 22) (oi := ?orck_deps23o) (v := undef) ?orck_deps23h (by kernel_rfl) (by kernel_rfl) (by kernel_rfl) ?orck_deps23q ?orck_deps23y hHeld ?orck_deps23r
  case orck_deps23h => (simp only [List.getElem?_toArray, List.getElem?_cons_succ, List.getElem?_cons_zero]; rfl)
  case orck_deps23q => exact fun _ _ _ h => h
  case orck_deps23y => exact Or.inr ⟨by first | kernel_rfl | rfl, rfl⟩
  try simp only [Act.put, List.setIfInBounds_toArray, List.set_cons_zero, List.set_cons_succ]
  refine wpAnyH_take (i := 23) (oi := ?orck_deps24o) (v := undef) ?orck_deps24h (by kernel_rfl) (by kernel_rfl) (by kernel_rfl) ?orck_deps24q ?orck_deps24y hHeld ?orck_deps24r
  case orck_deps24h => (simp only [List.getElem?_toArray, List.getElem?_cons_succ, List.getElem?_cons_zero]; rfl)
  case orck_deps24q => exact fun _ _ _ h => h
  case orck_deps24y => exact Or.inr ⟨by first | kernel_rfl | rfl, rfl⟩
  try simp only [Act.put, List.setIfInBounds_toArray, List.set_cons_zero, List.set_cons_succ]
  refine wpAnyH_take (i := 24) (oi := ?orck_deps25o) (v := ?orck_deps25v) ?orck_deps25h (by kernel_rfl) (by kernel_rfl) (by kernel_rfl) ?orck_deps25q ?orck_deps25y hHeld ?orck_deps25r
  case orck_deps25h => (simp only [List.getElem?_toArray, List.getElem?_cons_succ, List.getElem?_cons_zero]; rfl)
  case orck_deps25q => exact fun _ _ _ h => h
  case orck_deps25y => (refine Or.inl ⟨by first | kernel_rfl | rfl, ?_⟩; intro w hSw; (try dsimp only at hSw); obtain ⟨⟨x0, x1, x2, x3, x4, x5, x6, x7, x8⟩, -, -⟩ := hSw; go_simp <;> (try with_reducible rfl))
  try simp only [Act.put, List.setIfInBounds_toArray, List.set_cons_zero, List.set_cons_succ]
  refine wpAnyH_done (by kernel_rfl) ?_ _
  have hbel := hHeld.bel
  go_wp2
  go_ret
  exact ⟨by rw [HE.out]; rfl, hbel⟩

set_option maxHeartbeats 4000000 in
theorem rck_st (r : Rec) (dv : Value) (w : World) (h : Ns w dv r.d) (h1 : decide (0 ≤ r.t ∧ r.t ≤ 1099511627776) = true) (h2 : sameL r.d (plainL r.d) = true) (h3 : r.st.ok = false) : Calls Try.prog 17 #[recV r dv] w fun e w' => e = .returned (.int .i64 r.err) ∧ Below w.heap.size w w' := by
  have kt := fun w => rtime_is r.t true w h1
  have kr := fun w h => rright_is dv r.d w h
  rw [h2] at kr
  have HE := Lib.hid (Rec.err_head (Rec.head_st h3))
  have kc := fun w => rcheckV r.st 1 (Lib.hid (by rw [St.err_eq, h3]; rfl)) w
  clear h1 h2 h3
  have H0 := RHeld.new (r := r) h
  unfold recV
  clear h
  go_enter Try.func17, Try.ntmps17
  go_wp2_with (first
    | (go_at_call 50; (with_reducible refine (kt _).mono ?_); rintro e w1 ⟨rfl, rfl⟩)
    | (go_at_call 51; (with_reducible refine (kr _ H0.ns).mono ?_); rintro e w2 ⟨rfl, hb2⟩))
  have H1 := H0.keep hb2
  clear hb2 H0 kt kr
  refine wp_region_held_drew (S := (RHeld w w.heap.size r dv)) (by kernel_rfl) H1.drew (fun hHeld => ?_)
  refine wpAnyH_take (i := 0) (oi := ?orck_st1o) (v := ?orck_st1v) ?orck_st1h (by kernel_rfl) (by kernel_rfl) (by kernel_rfl) ?orck_st1q ?orck_st1y hHeld ?orck_st1r
  case orck_st1h => (simp only [List.getElem?_toArray, List.getElem?_cons_zero]; rfl)
  case orck_st1q => exact fun _ _ _ h => h
  case orck_st1y => (refine Or.inl ⟨by first | kernel_rfl | rfl, ?_⟩; intro w hSw; (try dsimp only at hSw); obtain ⟨⟨x0, x1, x2, x3, x4, x5, x6, x7, x8⟩, -, -⟩ := hSw; go_simp <;> (try with_reducible rfl))
  try simp only [Act.put, List.setIfInBounds_toArray, List.set_cons_zero, List.set_cons_succ]
  refine wpAnyH_take (i := 1) (oi := ?orck_st2o) (v := ?orck_st2v) ?orck_st2h (by kernel_rfl) (by kernel_rfl) (by kernel_rfl) ?orck_st2q ?orck_st2y hHeld ?orck_st2r
  case orck_st2h => (simp only [List.getElem?_toArray, List.getElem?_cons_succ, List.getElem?_cons_zero]; rfl)
  case orck_st2q => exact fun _ _ _ h => h
  case orck_st2y => (refine Or.inl ⟨by first | kernel_rfl | rfl, ?_⟩; intro w hSw; (try dsimp only at hSw); obtain ⟨⟨x0, x1, x2, x3, x4, x5, x6, x7, x8⟩, -, -⟩ := hSw; go_simp <;> (try with_reducible rfl))
  try simp only [Act.put, List.setIfInBounds_toArray, List.set_cons_zero, List.set_cons_succ]
  refine wpAnyH_take (i := 2) (oi := ?orck_st3o) (v := ?orck_st3v) ?orck_st3h (by kernel_rfl) (by kernel_rfl) (by kernel_rfl) ?orck_st3q ?orck_st3y hHeld ?orck_st3r
  case orck_st3h => (simp only [List.getElem?_toArray, List.getElem?_cons_succ, List.getElem?_cons_zero]; rfl)
  case orck_st3q => exact fun _ _ _ h => h
  case orck_st3y => (refine Or.inl ⟨by first | kernel_rfl | rfl, ?_⟩; intro w hSw; (try dsimp only at hSw); obtain ⟨⟨x0, x1, x2, x3, x4, x5, x6, x7, x8⟩, -, -⟩ := hSw; go_simp <;> (try with_reducible rfl))
  try simp only [Act.put, List.setIfInBounds_toArray, List.set_cons_zero, List.set_cons_succ]
  refine wpAnyH_take (i := 3) (oi := ?orck_st4o) (v := ?orck_st4v) ?orck_st4h (by kernel_rfl) (by kernel_rfl) (by kernel_rfl) ?orck_st4q ?orck_st4y hHeld ?orck_st4r
  case orck_st4h => (simp only [List.getElem?_toArray, List.getElem?_cons_succ, List.getElem?_cons_zero]; rfl)
  case orck_st4q => exact fun _ _ _ h => h
  case orck_st4y => (refine Or.inl ⟨by first | kernel_rfl | rfl, ?_⟩; intro w hSw; (try dsimp only at hSw); obtain ⟨⟨x0, x1, x2, x3, x4, x5, x6, x7, x8⟩, -, -⟩ := hSw; go_simp <;> (try with_reducible rfl))
  try simp only [Act.put, List.setIfInBounds_toArray, List.set_cons_zero, List.set_cons_succ]
  refine wpAnyH_take (i := 4) (oi := ?orck_st5o) (v := ?orck_st5v) ?orck_st5h (by kernel_rfl) (by kernel_rfl) (by kernel_rfl) ?orck_st5q ?orck_st5y hHeld ?orck_st5r
  case orck_st5h => (simp only [List.getElem?_toArray, List.getElem?_cons_succ, List.getElem?_cons_zero]; rfl)
  case orck_st5q => exact fun _ _ _ h => h
  case orck_st5y => (refine Or.inl ⟨by first | kernel_rfl | rfl, ?_⟩; intro w hSw; (try dsimp only at hSw); obtain ⟨⟨x0, x1, x2, x3, x4, x5, x6, x7, x8⟩, -, -⟩ := hSw; go_simp <;> (try with_reducible rfl))
  try simp only [Act.put, List.setIfInBounds_toArray, List.set_cons_zero, List.set_cons_succ]
  refine wpAnyH_take (i := 5) (oi := ?orck_st6o) (v := ?orck_st6v) ?orck_st6h (by kernel_rfl) (by kernel_rfl) (by kernel_rfl) ?orck_st6q ?orck_st6y hHeld ?orck_st6r
  case orck_st6h => (simp only [List.getElem?_toArray, List.getElem?_cons_succ, List.getElem?_cons_zero]; rfl)
  case orck_st6q => exact fun _ _ _ h => h
  case orck_st6y => (refine Or.inl ⟨by first | kernel_rfl | rfl, ?_⟩; intro w hSw; (try dsimp only at hSw); obtain ⟨⟨x0, x1, x2, x3, x4, x5, x6, x7, x8⟩, -, -⟩ := hSw; go_simp <;> (try with_reducible rfl))
  try simp only [Act.put, List.setIfInBounds_toArray, List.set_cons_zero, List.set_cons_succ]
  refine wpAnyH_take (i := 6) (oi := ?orck_st7o) (v := ?orck_st7v) ?orck_st7h (by kernel_rfl) (by kernel_rfl) (by kernel_rfl) ?orck_st7q ?orck_st7y hHeld ?orck_st7r
  case orck_st7h => (simp only [List.getElem?_toArray, List.getElem?_cons_succ, List.getElem?_cons_zero]; rfl)
  case orck_st7q => exact fun _ _ _ h => h
  case orck_st7y => (refine Or.inl ⟨by first | kernel_rfl | rfl, ?_⟩; intro w hSw; (try dsimp only at hSw); obtain ⟨⟨x0, x1, x2, x3, x4, x5, x6, x7, x8⟩, -, -⟩ := hSw; go_simp <;> (try with_reducible rfl))
  try simp only [Act.put, List.setIfInBounds_toArray, List.set_cons_zero, List.set_cons_succ]
  refine wpAnyH_take (i := 7) (oi := ?orck_st8o) (v := ?orck_st8v) ?orck_st8h (by kernel_rfl) (by kernel_rfl) (by kernel_rfl) ?orck_st8q ?orck_st8y hHeld ?orck_st8r
  case orck_st8h => (simp only [List.getElem?_toArray, List.getElem?_cons_succ, List.getElem?_cons_zero]; rfl)
  case orck_st8q => exact fun _ _ _ h => h
  case orck_st8y => (refine Or.inl ⟨by first | kernel_rfl | rfl, ?_⟩; intro w hSw; (try dsimp only at hSw); obtain ⟨⟨x0, x1, x2, x3, x4, x5, x6, x7, x8⟩, -, -⟩ := hSw; go_simp <;> (try with_reducible rfl))
  try simp only [Act.put, List.setIfInBounds_toArray, List.set_cons_zero, List.set_cons_succ]
  refine wpAnyH_take (i := 8) (oi := ?orck_st9o) (v := ?orck_st9v) ?orck_st9h (by kernel_rfl) (by kernel_rfl) (by kernel_rfl) ?orck_st9q ?orck_st9y hHeld ?orck_st9r
  case orck_st9h => (simp only [List.getElem?_toArray, List.getElem?_cons_succ, List.getElem?_cons_zero]; rfl)
  case orck_st9q => exact fun _ _ _ h => h
  case orck_st9y => (refine Or.inl ⟨by first | kernel_rfl | rfl, ?_⟩; intro w hSw; (try dsimp only at hSw); obtain ⟨⟨x0, x1, x2, x3, x4, x5, x6, x7, x8⟩, -, -⟩ := hSw; go_simp <;> (try with_reducible rfl))
  try simp only [Act.put, List.setIfInBounds_toArray, List.set_cons_zero, List.set_cons_succ]
  refine wpAnyH_ready (rs := [9]) (by kernel_rfl) (by simp) ?_
  refine (AllReadyH.cons rfl (fun K hK => ?_) AllReadyH.nil)
  go_simp
  ((with_reducible refine (kc _).mono ?_); rintro e w' ⟨rfl, hb'⟩)
  refine hK.out _ _ (hHeld.keep hb') (fun hHeld => ?_)
  clear hK K
  try simp only [Act.put, List.setIfInBounds_toArray, List.set_cons_zero, List.set_cons_succ]
  refine wpAnyH_take (i := 10) (oi := ?orck_st10o) (v := ?orck_st10v) ?orck_st10h (by kernel_rfl) (by kernel_rfl) (by kernel_rfl) ?orck_st10q ?orck_st10y hHeld ?orck_st10r
  case orck_st10h => (simp only [List.getElem?_toArray, List.getElem?_cons_succ, List.getElem?_cons_zero]; rfl)
  case orck_st10q => exact fun _ _ _ h => h
  case orck_st10y => (refine Or.inl ⟨by first | kernel_rfl | rfl, ?_⟩; intro w hSw; (try dsimp only at hSw); obtain ⟨⟨x0, x1, x2, x3, x4, x5, x6, x7, x8⟩, -, -⟩ := hSw; go_simp <;> (try with_reducible rfl))
  try simp only [Act.put, List.setIfInBounds_toArray, List.set_cons_zero, List.set_cons_succ]
  refine wpAnyH_take (i := 11) (oi := ?orck_st11o) (v := ?orck_st11v) ?orck_st11h (by kernel_rfl) (by kernel_rfl) (by kernel_rfl) ?orck_st11q ?orck_st11y hHeld ?orck_st11r
  case orck_st11h => (simp only [List.getElem?_toArray, List.getElem?_cons_succ, List.getElem?_cons_zero]; rfl)
  case orck_st11q => exact fun _ _ _ h => h
  case orck_st11y => (refine Or.inl ⟨by first | kernel_rfl | rfl, ?_⟩; intro w hSw; (try dsimp only at hSw); obtain ⟨⟨x0, x1, x2, x3, x4, x5, x6, x7, x8⟩, -, -⟩ := hSw; go_simp <;> (try with_reducible rfl))
  try simp only [Act.put, List.setIfInBounds_toArray, List.set_cons_zero, List.set_cons_succ]
  refine wpAnyH_take (i := 12) (oi := ?orck_st12o) (v := ?orck_st12v) ?orck_st12h (by kernel_rfl) (by kernel_rfl) (by kernel_rfl) ?orck_st12q ?orck_st12y hHeld ?orck_st12r
  case orck_st12h => (simp only [List.getElem?_toArray, List.getElem?_cons_succ, List.getElem?_cons_zero]; rfl)
  case orck_st12q => exact fun _ _ _ h => h
  case orck_st12y => (refine Or.inl ⟨by first | kernel_rfl | rfl, ?_⟩; intro w hSw; (try dsimp only at hSw); obtain ⟨⟨x0, x1, x2, x3, x4, x5, x6, x7, x8⟩, -, -⟩ := hSw; go_simp <;> (try with_reducible rfl))
  try simp only [Act.put, List.setIfInBounds_toArray, List.set_cons_zero, List.set_cons_succ]
  refine wpAnyH_take (i := 13) (oi := ?orck_st13o) (v := undef) ?orck_st13h (by kernel_rfl) (by kernel_rfl) (by kernel_rfl) ?orck_st13q ?orck_st13y hHeld ?orck_st13r
  case orck_st13h => (simp only [List.getElem?_toArray, List.getElem?_cons_succ, List.getElem?_cons_zero]; rfl)
  case orck_st13q => exact fun _ _ _ h => h
  case orck_st13y => exact Or.inr ⟨by first | kernel_rfl | rfl, rfl⟩
  try simp only [Act.put, List.setIfInBounds_toArray, List.set_cons_zero, List.set_cons_succ]
  refine wpAnyH_take (i := 14) (oi := ?orck_st14o) (v := undef) ?orck_st14h (by kernel_rfl) (by kernel_rfl) (by kernel_rfl) ?orck_st14q ?orck_st14y hHeld ?orck_st14r
  case orck_st14h => (simp only [List.getElem?_toArray, List.getElem?_cons_succ, List.getElem?_cons_zero]; rfl)
  case orck_st14q => exact fun _ _ _ h => h
  case orck_st14y => exact Or.inr ⟨by first | kernel_rfl | rfl, rfl⟩
  try simp only [Act.put, List.setIfInBounds_toArray, List.set_cons_zero, List.set_cons_succ]
  refine wpAnyH_take (i := 15) (oi := ?orck_st15o) (v := undef) ?orck_st15h (by kernel_rfl) (by kernel_rfl) (by kernel_rfl) ?orck_st15q ?orck_st15y hHeld ?orck_st15r
  case orck_st15h => (simp only [List.getElem?_toArray, List.getElem?_cons_succ, List.getElem?_cons_zero]; rfl)
  case orck_st15q => exact fun _ _ _ h => h
  case orck_st15y => exact Or.inr ⟨by first | kernel_rfl | rfl, rfl⟩
  try simp only [Act.put, List.setIfInBounds_toArray, List.set_cons_zero, List.set_cons_succ]
  refine wpAnyH_take (i := 16) (oi := ?orck_st16o) (v := undef) ?orck_st16h (by kernel_rfl) (by kernel_rfl) (by kernel_rfl) ?orck_st16q ?orck_st16y hHeld ?orck_st16r
  case orck_st16h => (simp only [List.getElem?_toArray, List.getElem?_cons_succ, List.getElem?_cons_zero]; rfl)
  case orck_st16q => exact fun _ _ _ h => h
  case orck_st16y => exact Or.inr ⟨by first | kernel_rfl | rfl, rfl⟩
  try simp only [Act.put, List.setIfInBounds_toArray, List.set_cons_zero, List.set_cons_succ]
  refine wpAnyH_take (i := 17) (oi := ?orck_st17o) (v := undef) ?orck_st17h (by kernel_rfl) (by kernel_rfl) (by kernel_rfl) ?orck_st17q ?orck_st17y hHeld ?orck_st17r
  case orck_st17h => (simp only [List.getElem?_toArray, List.getElem?_cons_succ, List.getElem?_cons_zero]; rfl)
  case orck_st17q => exact fun _ _ _ h => h
  case orck_st17y => exact Or.inr ⟨by first | kernel_rfl | rfl, rfl⟩
  try simp only [Act.put, List.setIfInBounds_toArray, List.set_cons_zero, List.set_cons_succ]
  refine wpAnyH_take (i := 18) (oi := ?orck_st18o) (v := undef) ?orck_st18h (by kernel_rfl) (by kernel_rfl) (by kernel_rfl) ?orck_st18q ?orck_st18y hHeld ?orck_st18r
  case orck_st18h => (simp only [List.getElem?_toArray, List.getElem?_cons_succ, List.getElem?_cons_zero]; rfl)
  case orck_st18q => exact fun _ _ _ h => h
  case orck_st18y => exact Or.inr ⟨by first | kernel_rfl | rfl, rfl⟩
  try simp only [Act.put, List.setIfInBounds_toArray, List.set_cons_zero, List.set_cons_succ]
  refine wpAnyH_take (i := 19) (oi := ?orck_st19o) (v := undef) ?orck_st19h (by kernel_rfl) (by kernel_rfl) (by kernel_rfl) ?orck_st19q ?orck_st19y hHeld ?orck_st19r
  case orck_st19h => (simp only [List.getElem?_toArray, List.getElem?_cons_succ, List.getElem?_cons_zero]; rfl)
  case orck_st19q => exact fun _ _ _ h => h
  case orck_st19y => exact Or.inr ⟨by first | kernel_rfl | rfl, rfl⟩
  try simp only [Act.put, List.setIfInBounds_toArray, List.set_cons_zero, List.set_cons_succ]
  refine wpAnyH_take (i := 20) (oi := ?orck_st20o) (v := undef) ?orck_st20h (by kernel_rfl) (by kernel_rfl) (by kernel_rfl) ?orck_st20q ?orck_st20y hHeld ?orck_st20r
  case orck_st20h => (simp only [List.getElem?_toArray, List.getElem?_cons_succ, List.getElem?_cons_zero]; rfl)
  case orck_st20q => exact fun _ _ _ h => h
  case orck_st20y => exact Or.inr ⟨by first | kernel_rfl | rfl, rfl⟩
  try simp only [Act.put, List.setIfInBounds_toArray, List.set_cons_zero, List.set_cons_succ]
  refine wpAnyH_take (i := 21) (oi := ?orck_st21o) (v := undef) ?orck_st21h (by kernel_rfl) (by kernel_rfl) (by kernel_rfl) ?orck_st21q ?orck_st21y hHeld ?orck_st21r
  case orck_st21h => (simp only [List.getElem?_toArray, List.getElem?_cons_succ, List.getElem?_cons_zero]; rfl)
  case orck_st21q => exact fun _ _ _ h => h
  case orck_st21y => exact Or.inr ⟨by first | kernel_rfl | rfl, rfl⟩
  try simp only [Act.put, List.setIfInBounds_toArray, List.set_cons_zero, List.set_cons_succ]
  refine wpAnyH_take (i := 22) (oi := ?orck_st22o) (v := undef) ?orck_st22h (by kernel_rfl) (by kernel_rfl) (by kernel_rfl) ?orck_st22q ?orck_st22y hHeld ?orck_st22r
  case orck_st22h => (simp only [List.getElem?_toArray, List.getElem?_cons_succ, List.getElem?_cons_zero]; rfl)
  case orck_st22q => exact fun _ _ _ h => h
  case orck_st22y => exact Or.inr ⟨by first | kernel_rfl | rfl, rfl⟩
  try simp only [Act.put, List.setIfInBounds_toArray, List.set_cons_zero, List.set_cons_succ]
  refine wpAnyH_take (i := 23) (oi := ?orck_st23o) (v := undef) ?orck_st23h (by kernel_rfl) (by kernel_rfl) (by kernel_rfl) ?orck_st23q ?orck_st23y hHeld ?orck_st23r
  case orck_st23h => (simp only [List.getElem?_toArray, List.getElem?_cons_succ, List.getElem?_cons_zero]; rfl)
  case orck_st23q => exact fun _ _ _ h => h
  case orck_st23y => exact Or.inr ⟨by first | kernel_rfl | rfl, rfl⟩
  try simp only [Act.put, List.setIfInBounds_toArray, List.set_cons_zero, List.set_cons_succ]
  refine wpAnyH_take (i := 24) (oi := ?orck_st24o) (v := ?orck_st24v) ?orck_st24h (by kernel_rfl) (by kernel_rfl) (by kernel_rfl) ?orck_st24q ?orck_st24y hHeld ?orck_st24r
  case orck_st24h => (simp only [List.getElem?_toArray, List.getElem?_cons_succ, List.getElem?_cons_zero]; rfl)
  case orck_st24q => exact fun _ _ _ h => h
  case orck_st24y => (refine Or.inl ⟨by first | kernel_rfl | rfl, ?_⟩; intro w hSw; (try dsimp only at hSw); obtain ⟨⟨x0, x1, x2, x3, x4, x5, x6, x7, x8⟩, -, -⟩ := hSw; go_simp <;> (try with_reducible rfl))
  try simp only [Act.put, List.setIfInBounds_toArray, List.set_cons_zero, List.set_cons_succ]
  refine wpAnyH_done (by kernel_rfl) ?_ _
  have hbel := hHeld.bel
  go_wp2
  go_ret
  exact ⟨by rw [HE.out]; rfl, hbel⟩

set_option maxHeartbeats 4000000 in
theorem rck_at (r : Rec) (dv : Value) (w : World) (h : Ns w dv r.d) (h1 : decide (0 ≤ r.t ∧ r.t ≤ 1099511627776) = true) (h2 : sameL r.d (plainL r.d) = true) (h3 : r.st.ok = true) (h4 : atL r.d r.st.s ≠ r.st.q - 1) : Calls Try.prog 17 #[recV r dv] w fun e w' => e = .returned (.int .i64 r.err) ∧ Below w.heap.size w w' := by
  have kt := fun w => rtime_is r.t true w h1
  have kr := fun w h => rright_is dv r.d w h
  rw [h2] at kr
  have kc := fun w => rcheckV r.st 0 (Lib.hid (by rw [St.err_eq, h3]; rfl)) w
  have ka := fun w h => rat_is dv r.d r.st.s w h
  obtain ⟨q1, q2, q3, q4, q5, q6⟩ := St.ok_iff.1 h3
  have hwq : IntKind.i64.wrap (r.st.q - 1) = r.st.q - 1 := by rw [IntKind.wrap_i64]; omega
  have HE := Lib.hid (Rec.err_head (Rec.head_at h4))
  have hq : (atL r.d r.st.s == r.st.q - 1) = false := by simpa using h4
  generalize atL r.d r.st.s = aa at *
  clear h1 h2 h3 h4
  have H0 := RHeld.new (r := r) h
  unfold recV
  clear h
  go_enter Try.func17, Try.ntmps17
  go_wp2_with (first
    | (go_at_call 50; (with_reducible refine (kt _).mono ?_); rintro e w1 ⟨rfl, rfl⟩)
    | (go_at_call 51; (with_reducible refine (kr _ H0.ns).mono ?_); rintro e w2 ⟨rfl, hb2⟩))
  have H1 := H0.keep hb2
  clear hb2 H0 kt kr
  refine wp_region_held_drew (S := (RHeld w w.heap.size r dv)) (by kernel_rfl) H1.drew (fun hHeld => ?_)
  refine wpAnyH_take (i := 0) (oi := ?orck_at1o) (v := ?orck_at1v) ?orck_at1h (by kernel_rfl) (by kernel_rfl) (by kernel_rfl) ?orck_at1q ?orck_at1y hHeld ?orck_at1r
  case orck_at1h => (simp only [List.getElem?_toArray, List.getElem?_cons_zero]; rfl)
  case orck_at1q => exact fun _ _ _ h => h
  case orck_at1y => (refine Or.inl ⟨by first | kernel_rfl | rfl, ?_⟩; intro w hSw; (try dsimp only at hSw); obtain ⟨⟨x0, x1, x2, x3, x4, x5, x6, x7, x8⟩, -, -⟩ := hSw; go_simp <;> (try with_reducible rfl))
  try simp only [Act.put, List.setIfInBounds_toArray, List.set_cons_zero, List.set_cons_succ]
  refine wpAnyH_take (i := 1) (oi := ?orck_at2o) (v := ?orck_at2v) ?orck_at2h (by kernel_rfl) (by kernel_rfl) (by kernel_rfl) ?orck_at2q ?orck_at2y hHeld ?orck_at2r
  case orck_at2h => (simp only [List.getElem?_toArray, List.getElem?_cons_succ, List.getElem?_cons_zero]; rfl)
  case orck_at2q => exact fun _ _ _ h => h
  case orck_at2y => (refine Or.inl ⟨by first | kernel_rfl | rfl, ?_⟩; intro w hSw; (try dsimp only at hSw); obtain ⟨⟨x0, x1, x2, x3, x4, x5, x6, x7, x8⟩, -, -⟩ := hSw; go_simp <;> (try with_reducible rfl))
  try simp only [Act.put, List.setIfInBounds_toArray, List.set_cons_zero, List.set_cons_succ]
  refine wpAnyH_take (i := 2) (oi := ?orck_at3o) (v := ?orck_at3v) ?orck_at3h (by kernel_rfl) (by kernel_rfl) (by kernel_rfl) ?orck_at3q ?orck_at3y hHeld ?orck_at3r
  case orck_at3h => (simp only [List.getElem?_toArray, List.getElem?_cons_succ, List.getElem?_cons_zero]; rfl)
  case orck_at3q => exact fun _ _ _ h => h
  case orck_at3y => (refine Or.inl ⟨by first | kernel_rfl | rfl, ?_⟩; intro w hSw; (try dsimp only at hSw); obtain ⟨⟨x0, x1, x2, x3, x4, x5, x6, x7, x8⟩, -, -⟩ := hSw; go_simp <;> (try with_reducible rfl))
  try simp only [Act.put, List.setIfInBounds_toArray, List.set_cons_zero, List.set_cons_succ]
  refine wpAnyH_take (i := 3) (oi := ?orck_at4o) (v := ?orck_at4v) ?orck_at4h (by kernel_rfl) (by kernel_rfl) (by kernel_rfl) ?orck_at4q ?orck_at4y hHeld ?orck_at4r
  case orck_at4h => (simp only [List.getElem?_toArray, List.getElem?_cons_succ, List.getElem?_cons_zero]; rfl)
  case orck_at4q => exact fun _ _ _ h => h
  case orck_at4y => (refine Or.inl ⟨by first | kernel_rfl | rfl, ?_⟩; intro w hSw; (try dsimp only at hSw); obtain ⟨⟨x0, x1, x2, x3, x4, x5, x6, x7, x8⟩, -, -⟩ := hSw; go_simp <;> (try with_reducible rfl))
  try simp only [Act.put, List.setIfInBounds_toArray, List.set_cons_zero, List.set_cons_succ]
  refine wpAnyH_take (i := 4) (oi := ?orck_at5o) (v := ?orck_at5v) ?orck_at5h (by kernel_rfl) (by kernel_rfl) (by kernel_rfl) ?orck_at5q ?orck_at5y hHeld ?orck_at5r
  case orck_at5h => (simp only [List.getElem?_toArray, List.getElem?_cons_succ, List.getElem?_cons_zero]; rfl)
  case orck_at5q => exact fun _ _ _ h => h
  case orck_at5y => (refine Or.inl ⟨by first | kernel_rfl | rfl, ?_⟩; intro w hSw; (try dsimp only at hSw); obtain ⟨⟨x0, x1, x2, x3, x4, x5, x6, x7, x8⟩, -, -⟩ := hSw; go_simp <;> (try with_reducible rfl))
  try simp only [Act.put, List.setIfInBounds_toArray, List.set_cons_zero, List.set_cons_succ]
  refine wpAnyH_take (i := 5) (oi := ?orck_at6o) (v := ?orck_at6v) ?orck_at6h (by kernel_rfl) (by kernel_rfl) (by kernel_rfl) ?orck_at6q ?orck_at6y hHeld ?orck_at6r
  case orck_at6h => (simp only [List.getElem?_toArray, List.getElem?_cons_succ, List.getElem?_cons_zero]; rfl)
  case orck_at6q => exact fun _ _ _ h => h
  case orck_at6y => (refine Or.inl ⟨by first | kernel_rfl | rfl, ?_⟩; intro w hSw; (try dsimp only at hSw); obtain ⟨⟨x0, x1, x2, x3, x4, x5, x6, x7, x8⟩, -, -⟩ := hSw; go_simp <;> (try with_reducible rfl))
  try simp only [Act.put, List.setIfInBounds_toArray, List.set_cons_zero, List.set_cons_succ]
  refine wpAnyH_take (i := 6) (oi := ?orck_at7o) (v := ?orck_at7v) ?orck_at7h (by kernel_rfl) (by kernel_rfl) (by kernel_rfl) ?orck_at7q ?orck_at7y hHeld ?orck_at7r
  case orck_at7h => (simp only [List.getElem?_toArray, List.getElem?_cons_succ, List.getElem?_cons_zero]; rfl)
  case orck_at7q => exact fun _ _ _ h => h
  case orck_at7y => (refine Or.inl ⟨by first | kernel_rfl | rfl, ?_⟩; intro w hSw; (try dsimp only at hSw); obtain ⟨⟨x0, x1, x2, x3, x4, x5, x6, x7, x8⟩, -, -⟩ := hSw; go_simp <;> (try with_reducible rfl))
  try simp only [Act.put, List.setIfInBounds_toArray, List.set_cons_zero, List.set_cons_succ]
  refine wpAnyH_take (i := 7) (oi := ?orck_at8o) (v := ?orck_at8v) ?orck_at8h (by kernel_rfl) (by kernel_rfl) (by kernel_rfl) ?orck_at8q ?orck_at8y hHeld ?orck_at8r
  case orck_at8h => (simp only [List.getElem?_toArray, List.getElem?_cons_succ, List.getElem?_cons_zero]; rfl)
  case orck_at8q => exact fun _ _ _ h => h
  case orck_at8y => (refine Or.inl ⟨by first | kernel_rfl | rfl, ?_⟩; intro w hSw; (try dsimp only at hSw); obtain ⟨⟨x0, x1, x2, x3, x4, x5, x6, x7, x8⟩, -, -⟩ := hSw; go_simp <;> (try with_reducible rfl))
  try simp only [Act.put, List.setIfInBounds_toArray, List.set_cons_zero, List.set_cons_succ]
  refine wpAnyH_take (i := 8) (oi := ?orck_at9o) (v := ?orck_at9v) ?orck_at9h (by kernel_rfl) (by kernel_rfl) (by kernel_rfl) ?orck_at9q ?orck_at9y hHeld ?orck_at9r
  case orck_at9h => (simp only [List.getElem?_toArray, List.getElem?_cons_succ, List.getElem?_cons_zero]; rfl)
  case orck_at9q => exact fun _ _ _ h => h
  case orck_at9y => (refine Or.inl ⟨by first | kernel_rfl | rfl, ?_⟩; intro w hSw; (try dsimp only at hSw); obtain ⟨⟨x0, x1, x2, x3, x4, x5, x6, x7, x8⟩, -, -⟩ := hSw; go_simp <;> (try with_reducible rfl))
  try simp only [Act.put, List.setIfInBounds_toArray, List.set_cons_zero, List.set_cons_succ]
  refine wpAnyH_ready (rs := [9]) (by kernel_rfl) (by simp) ?_
  refine (AllReadyH.cons rfl (fun K hK => ?_) AllReadyH.nil)
  go_simp
  ((with_reducible refine (kc _).mono ?_); rintro e w' ⟨rfl, hb'⟩)
  refine hK.out _ _ (hHeld.keep hb') (fun hHeld => ?_)
  clear hK K
  try simp only [Act.put, List.setIfInBounds_toArray, List.set_cons_zero, List.set_cons_succ]
  refine wpAnyH_take (i := 10) (oi := ?orck_at10o) (v := ?orck_at10v) ?orck_at10h (by kernel_rfl) (by kernel_rfl) (by kernel_rfl) ?orck_at10q ?orck_at10y hHeld ?orck_at10r
  case orck_at10h => (simp only [List.getElem?_toArray, List.getElem?_cons_succ, List.getElem?_cons_zero]; rfl)
  case orck_at10q => exact fun _ _ _ h => h
  case orck_at10y => (refine Or.inl ⟨by first | kernel_rfl | rfl, ?_⟩; intro w hSw; (try dsimp only at hSw); obtain ⟨⟨x0, x1, x2, x3, x4, x5, x6, x7, x8⟩, -, -⟩ := hSw; go_simp <;> (try with_reducible rfl))
  try simp only [Act.put, List.setIfInBounds_toArray, List.set_cons_zero, List.set_cons_succ]
  refine wpAnyH_take (i := 11) (oi := ?orck_at11o) (v := ?orck_at11v) ?orck_at11h (by kernel_rfl) (by kernel_rfl) (by kernel_rfl) ?orck_at11q ?orck_at11y hHeld ?orck_at11r
  case orck_at11h => (simp only [List.getElem?_toArray, List.getElem?_cons_succ, List.getElem?_cons_zero]; rfl)
  case orck_at11q => exact fun _ _ _ h => h
  case orck_at11y => (refine Or.inl ⟨by first | kernel_rfl | rfl, ?_⟩; intro w hSw; (try dsimp only at hSw); obtain ⟨⟨x0, x1, x2, x3, x4, x5, x6, x7, x8⟩, -, -⟩ := hSw; go_simp <;> (try with_reducible rfl))
  try simp only [Act.put, List.setIfInBounds_toArray, List.set_cons_zero, List.set_cons_succ]
  refine wpAnyH_take (i := 12) (oi := ?orck_at12o) (v := ?orck_at12v) ?orck_at12h (by kernel_rfl) (by kernel_rfl) (by kernel_rfl) ?orck_at12q ?orck_at12y hHeld ?orck_at12r
  case orck_at12h => (simp only [List.getElem?_toArray, List.getElem?_cons_succ, List.getElem?_cons_zero]; rfl)
  case orck_at12q => exact fun _ _ _ h => h
  case orck_at12y => (refine Or.inl ⟨by first | kernel_rfl | rfl, ?_⟩; intro w hSw; (try dsimp only at hSw); obtain ⟨⟨x0, x1, x2, x3, x4, x5, x6, x7, x8⟩, -, -⟩ := hSw; go_simp <;> (try with_reducible rfl))
  try simp only [Act.put, List.setIfInBounds_toArray, List.set_cons_zero, List.set_cons_succ]
  refine wpAnyH_take (i := 13) (oi := ?orck_at13o) (v := ?orck_at13v) ?orck_at13h (by kernel_rfl) (by kernel_rfl) (by kernel_rfl) ?orck_at13q ?orck_at13y hHeld ?orck_at13r
  case orck_at13h => (simp only [List.getElem?_toArray, List.getElem?_cons_succ, List.getElem?_cons_zero]; rfl)
  case orck_at13q => exact fun _ _ _ h => h
  case orck_at13y => (refine Or.inl ⟨by first | kernel_rfl | rfl, ?_⟩; intro w hSw; (try dsimp only at hSw); obtain ⟨⟨x0, x1, x2, x3, x4, x5, x6, x7, x8⟩, -, -⟩ := hSw; go_simp <;> (try with_reducible rfl))
  try simp only [Act.put, List.setIfInBounds_toArray, List.set_cons_zero, List.set_cons_succ]
  refine wpAnyH_take (i := 14) (oi := ?orck_at14o) (v := ?orck_at14v) ?orck_at14h (by kernel_rfl) (by kernel_rfl) (by kernel_rfl) ?orck_at14q ?orck_at14y hHeld ?orck_at14r
  case orck_at14h => (simp only [List.getElem?_toArray, List.getElem?_cons_succ, List.getElem?_cons_zero]; rfl)
  case orck_at14q => exact fun _ _ _ h => h
  case orck_at14y => (refine Or.inl ⟨by first | kernel_rfl | rfl, ?_⟩; intro w hSw; (try dsimp only at hSw); obtain ⟨⟨x0, x1, x2, x3, x4, x5, x6, x7, x8⟩, -, -⟩ := hSw; go_simp <;> (try with_reducible rfl))
  try simp only [Act.put, List.setIfInBounds_toArray, List.set_cons_zero, List.set_cons_succ]
  refine wpAnyH_take (i := 15) (oi := ?orck_at15o) (v := ?orck_at15v) ?orck_at15h (by kernel_rfl) (by kernel_rfl) (by kernel_rfl) ?orck_at15q ?orck_at15y hHeld ?orck_at15r
  case orck_at15h => (simp only [List.getElem?_toArray, List.getElem?_cons_succ, List.getElem?_cons_zero]; rfl)
  case orck_at15q => exact fun _ _ _ h => h
  case orck_at15y => (refine Or.inl ⟨by first | kernel_rfl | rfl, ?_⟩; intro w hSw; (try dsimp only at hSw); obtain ⟨⟨x0, x1, x2, x3, x4, x5, x6, x7, x8⟩, -, -⟩ := hSw; go_simp <;> (try with_reducible rfl))
  try simp only [Act.put, List.setIfInBounds_toArray, List.set_cons_zero, List.set_cons_succ]
  refine wpAnyH_take (i := 16) (oi := ?orck_at16o) (v := ?orck_at16v) ?orck_at16h (by kernel_rfl) (by kernel_rfl) (by kernel_rfl) ?orck_at16q ?orck_at16y hHeld ?orck_at16r
  case orck_at16h => (simp only [List.getElem?_toArray, List.getElem?_cons_succ, List.getElem?_cons_zero]; rfl)
  case orck_at16q => exact fun _ _ _ h => h
  case orck_at16y => (refine Or.inl ⟨by first | kernel_rfl | rfl, ?_⟩; intro w hSw; (try dsimp only at hSw); obtain ⟨⟨x0, x1, x2, x3, x4, x5, x6, x7, x8⟩, -, -⟩ := hSw; go_simp <;> (try with_reducible rfl))
  try simp only [Act.put, List.setIfInBounds_toArray, List.set_cons_zero, List.set_cons_succ]
  refine wpAnyH_take (i := 17) (oi := ?orck_at17o) (v := ?orck_at17v) ?orck_at17h (by kernel_rfl) (by kernel_rfl) (by kernel_rfl) ?orck_at17q ?orck_at17y hHeld ?orck_at17r
  case orck_at17h => (simp only [List.getElem?_toArray, List.getElem?_cons_succ, List.getElem?_cons_zero]; rfl)
  case orck_at17q => exact fun _ _ _ h => h
  case orck_at17y => (refine Or.inl ⟨by first | kernel_rfl | rfl, ?_⟩; intro w hSw; (try dsimp only at hSw); obtain ⟨⟨x0, x1, x2, x3, x4, x5, x6, x7, x8⟩, -, -⟩ := hSw; go_simp <;> (try with_reducible rfl))
  try simp only [Act.put, List.setIfInBounds_toArray, List.set_cons_zero, List.set_cons_succ]
  refine wpAnyH_take (i := 19) (oi := ?orck_at18o) (v := ?orck_at18v) ?orck_at18h (by kernel_rfl) (by kernel_rfl) (by kernel_rfl) ?orck_at18q ?orck_at18y hHeld ?orck_at18r
  case orck_at18h => (simp only [List.getElem?_toArray, List.getElem?_cons_succ, List.getElem?_cons_zero]; rfl)
  case orck_at18q => exact fun _ _ _ h => h
  case orck_at18y => (refine Or.inl ⟨by first | kernel_rfl | rfl, ?_⟩; intro w hSw; (try dsimp only at hSw); obtain ⟨⟨x0, x1, x2, x3, x4, x5, x6, x7, x8⟩, -, -⟩ := hSw; go_simp <;> (try with_reducible rfl))
  try simp only [Act.put, List.setIfInBounds_toArray, List.set_cons_zero, List.set_cons_succ]
  refine wpAnyH_take (i := 20) (oi := ?orck_at19o) (v := ?orck_at19v) ?orck_at19h (by kernel_rfl) (by kernel_rfl) (by kernel_rfl) ?orck_at19q ?orck_at19y hHeld ?orck_at19r
  case orck_at19h => (simp only [List.getElem?_toArray, List.getElem?_cons_succ, List.getElem?_cons_zero]; rfl)
  case orck_at19q => exact fun _ _ _ h => h
  case orck_at19y => (refine Or.inl ⟨by first | kernel_rfl | rfl, ?_⟩; intro w hSw; (try dsimp only at hSw); obtain ⟨⟨x0, x1, x2, x3, x4, x5, x6, x7, x8⟩, -, -⟩ := hSw; go_simp <;> (try with_reducible rfl))
  try simp only [Act.put, List.setIfInBounds_toArray, List.set_cons_zero, List.set_cons_succ]
  refine wpAnyH_take (i := 21) (oi := ?orck_at20o) (v := ?orck_at20v) ?orck_at20h (by kernel_rfl) (by kernel_rfl) (by kernel_rfl) ?orck_at20q ?orck_at20y hHeld ?orck_at20r
  case orck_at20h => (simp only [List.getElem?_toArray, List.getElem?_cons_succ, List.getElem?_cons_zero]; rfl)
  case orck_at20q => exact fun _ _ _ h => h
  case orck_at20y => (refine Or.inl ⟨by first | kernel_rfl | rfl, ?_⟩; intro w hSw; (try dsimp only at hSw); obtain ⟨⟨x0, x1, x2, x3, x4, x5, x6, x7, x8⟩, -, -⟩ := hSw; go_simp <;> (try with_reducible rfl))
  try simp only [Act.put, List.setIfInBounds_toArray, List.set_cons_zero, List.set_cons_succ]
  refine wpAnyH_take (i := 22) (oi := ?orck_at21o) (v := ?orck_at21v) ?orck_at21h (by kernel_rfl) (by kernel_rfl) (by kernel_rfl) ?orck_at21q ?orck_at21y hHeld ?orck_at21r
  case orck_at21h => (simp only [List.getElem?_toArray, List.getElem?_cons_succ, List.getElem?_cons_zero]; rfl)
  case orck_at21q => exact fun _ _ _ h => h
  case orck_at21y => (refine Or.inl ⟨by first | kernel_rfl | rfl, ?_⟩; intro w hSw; (try dsimp only at hSw); obtain ⟨⟨x0, x1, x2, x3, x4, x5, x6, x7, x8⟩, -, -⟩ := hSw; go_simp <;> (try with_reducible rfl))
  try simp only [Act.put, List.setIfInBounds_toArray, List.set_cons_zero, List.set_cons_succ]
  refine wpAnyH_ready (rs := [18]) (by kernel_rfl) (by simp) ?_
  refine (AllReadyH.cons rfl (fun K hK => ?_) AllReadyH.nil)
  go_simp
  ((with_reducible refine (ka _ hHeld.ns).mono ?_); rintro e w' ⟨rfl, hb'⟩)
  refine hK.out _ _ (hHeld.keep hb') (fun hHeld => ?_)
  clear hK K
  try simp only [Act.put, List.setIfInBounds_toArray, List.set_cons_zero, List.set_cons_succ]
  refine wpAnyH_take (i := 23) (oi := ?orck_at22o) (v := ?orck_at22v) ?orck_at22h (by kernel_rfl) (by kernel_rfl) (by kernel_rfl) ?orck_at22q ?orck_at22y hHeld ?orck_at22r
  case orck_at22h => (simp only [List.getElem?_toArray, List.getElem?_cons_succ, List.getElem?_cons_zero]; rfl)
  case orck_at22q => exact fun _ _ _ h => h
  case orck_at22y => (refine Or.inl ⟨by first | kernel_rfl | rfl, ?_⟩; intro w hSw; (try dsimp only at hSw); obtain ⟨⟨x0, x1, x2, x3, x4, x5, x6, x7, x8⟩, -, -⟩ := hSw; go_simp <;> (try with_reducible rfl))
  try simp only [Act.put, List.setIfInBounds_toArray, List.set_cons_zero, List.set_cons_succ]
  refine wpAnyH_take (i := 24) (oi := ?orck_at23o) (v := ?orck_at23v) ?orck_at23h (by kernel_rfl) (by kernel_rfl) (by kernel_rfl) ?orck_at23q ?orck_at23y hHeld ?orck_at23r
  case orck_at23h => (simp only [List.getElem?_toArray, List.getElem?_cons_succ, List.getElem?_cons_zero]; rfl)
  case orck_at23q => exact fun _ _ _ h => h
  case orck_at23y => (refine Or.inl ⟨by first | kernel_rfl | rfl, ?_⟩; intro w hSw; (try dsimp only at hSw); obtain ⟨⟨x0, x1, x2, x3, x4, x5, x6, x7, x8⟩, -, -⟩ := hSw; go_simp <;> (try with_reducible rfl))
  try simp only [Act.put, List.setIfInBounds_toArray, List.set_cons_zero, List.set_cons_succ]
  refine wpAnyH_done (by kernel_rfl) ?_ _
  have hbel := hHeld.bel
  go_wp2
  go_ret
  exact ⟨by rw [HE.out]; rfl, hbel⟩

set_option maxHeartbeats 4000000 in
theorem rck_yes (r : Rec) (dv : Value) (w : World) (h : Ns w dv r.d) (hf : r.fits) (h1 : decide (0 ≤ r.t ∧ r.t ≤ 1099511627776) = true) (h2 : sameL r.d (plainL r.d) = true) (h3 : r.st.ok = true) (h4 : atL r.d r.st.s = r.st.q - 1) : Calls Try.prog 17 #[recV r dv] w fun e w' => e = .returned (.int .i64 r.err) ∧ Below w.heap.size w w' := by
  have kt := fun w => rtime_is r.t true w h1
  have kr := fun w h => rright_is dv r.d w h
  rw [h2] at kr
  have kc := fun w => rcheckV r.st 0 (Lib.hid (by rw [St.err_eq, h3]; rfl)) w
  have ka := fun w h => rat_is dv r.d r.st.s w h
  obtain ⟨q1, q2, q3, q4, q5, q6⟩ := St.ok_iff.1 h3
  have hwq : IntKind.i64.wrap (r.st.q - 1) = r.st.q - 1 := by rw [IntKind.wrap_i64]; omega
  have HH := Lib.hid (Rec.head_yes h1 h2 h3 h4)
  have kn := fun w => rname_is r.s _ w hf.s (Lib.hid rfl)
  rw [h4] at ka
  have hq : (r.st.q - 1 == r.st.q - 1) = true := by simp
  clear h1 h2 h3 h4 hf
  have H0 := RHeld.new (r := r) h
  unfold recV
  clear h
  go_enter Try.func17, Try.ntmps17
  go_wp2_with (first
    | (go_at_call 50; (with_reducible refine (kt _).mono ?_); rintro e w1 ⟨rfl, rfl⟩)
    | (go_at_call 51; (with_reducible refine (kr _ H0.ns).mono ?_); rintro e w2 ⟨rfl, hb2⟩))
  have H1 := H0.keep hb2
  clear hb2 H0 kt kr
  refine wp_region_held_drew (S := (RHeld w w.heap.size r dv)) (by kernel_rfl) H1.drew (fun hHeld => ?_)
  refine wpAnyH_take (i := 0) (oi := ?orck_yes1o) (v := ?orck_yes1v) ?orck_yes1h (by kernel_rfl) (by kernel_rfl) (by kernel_rfl) ?orck_yes1q ?orck_yes1y hHeld ?orck_yes1r
  case orck_yes1h => (simp only [List.getElem?_toArray, List.getElem?_cons_zero]; rfl)
  case orck_yes1q => exact fun _ _ _ h => h
  case orck_yes1y => (refine Or.inl ⟨by first | kernel_rfl | rfl, ?_⟩; intro w hSw; (try dsimp only at hSw); obtain ⟨⟨x0, x1, x2, x3, x4, x5, x6, x7, x8⟩, -, -⟩ := hSw; go_simp <;> (try with_reducible rfl))
  try simp only [Act.put, List.setIfInBounds_toArray, List.set_cons_zero, List.set_cons_succ]
  refine wpAnyH_take (i := 1) (oi := ?orck_yes2o) (v := ?orck_yes2v) ?orck_yes2h (by kernel_rfl) (by kernel_rfl) (by kernel_rfl) ?orck_yes2q ?orck_yes2y hHeld ?orck_yes2r
  case orck_yes2h => (simp only [List.getElem?_toArray, List.getElem?_cons_succ, List.getElem?_cons_zero]; rfl)
  case orck_yes2q => exact fun _ _ _ h => h
  case orck_yes2y => (refine Or.inl ⟨by first | kernel_rfl | rfl, ?_⟩; intro w hSw; (try dsimp only at hSw); obtain ⟨⟨x0, x1, x2, x3, x4, x5, x6, x7, x8⟩, -, -⟩ := hSw; go_simp <;> (try with_reducible rfl))
  try simp only [Act.put, List.setIfInBounds_toArray, List.set_cons_zero, List.set_cons_succ]
  refine wpAnyH_take (i := 2) (oi := ?orck_yes3o) (v := ?orck_yes3v) ?orck_yes3h (by kernel_rfl) (by kernel_rfl) (by kernel_rfl) ?orck_yes3q ?orck_yes3y hHeld ?orck_yes3r
  case orck_yes3h => (simp only [List.getElem?_toArray, List.getElem?_cons_succ, List.getElem?_cons_zero]; rfl)
  case orck_yes3q => exact fun _ _ _ h => h
  case orck_yes3y => (refine Or.inl ⟨by first | kernel_rfl | rfl, ?_⟩; intro w hSw; (try dsimp only at hSw); obtain ⟨⟨x0, x1, x2, x3, x4, x5, x6, x7, x8⟩, -, -⟩ := hSw; go_simp <;> (try with_reducible rfl))
  try simp only [Act.put, List.setIfInBounds_toArray, List.set_cons_zero, List.set_cons_succ]
  refine wpAnyH_take (i := 3) (oi := ?orck_yes4o) (v := ?orck_yes4v) ?orck_yes4h (by kernel_rfl) (by kernel_rfl) (by kernel_rfl) ?orck_yes4q ?orck_yes4y hHeld ?orck_yes4r
  case orck_yes4h => (simp only [List.getElem?_toArray, List.getElem?_cons_succ, List.getElem?_cons_zero]; rfl)
  case orck_yes4q => exact fun _ _ _ h => h
  case orck_yes4y => (refine Or.inl ⟨by first | kernel_rfl | rfl, ?_⟩; intro w hSw; (try dsimp only at hSw); obtain ⟨⟨x0, x1, x2, x3, x4, x5, x6, x7, x8⟩, -, -⟩ := hSw; go_simp <;> (try with_reducible rfl))
  try simp only [Act.put, List.setIfInBounds_toArray, List.set_cons_zero, List.set_cons_succ]
  refine wpAnyH_take (i := 4) (oi := ?orck_yes5o) (v := ?orck_yes5v) ?orck_yes5h (by kernel_rfl) (by kernel_rfl) (by kernel_rfl) ?orck_yes5q ?orck_yes5y hHeld ?orck_yes5r
  case orck_yes5h => (simp only [List.getElem?_toArray, List.getElem?_cons_succ, List.getElem?_cons_zero]; rfl)
  case orck_yes5q => exact fun _ _ _ h => h
  case orck_yes5y => (refine Or.inl ⟨by first | kernel_rfl | rfl, ?_⟩; intro w hSw; (try dsimp only at hSw); obtain ⟨⟨x0, x1, x2, x3, x4, x5, x6, x7, x8⟩, -, -⟩ := hSw; go_simp <;> (try with_reducible rfl))
  try simp only [Act.put, List.setIfInBounds_toArray, List.set_cons_zero, List.set_cons_succ]
  refine wpAnyH_take (i := 5) (oi := ?orck_yes6o) (v := ?orck_yes6v) ?orck_yes6h (by kernel_rfl) (by kernel_rfl) (by kernel_rfl) ?orck_yes6q ?orck_yes6y hHeld ?orck_yes6r
  case orck_yes6h => (simp only [List.getElem?_toArray, List.getElem?_cons_succ, List.getElem?_cons_zero]; rfl)
  case orck_yes6q => exact fun _ _ _ h => h
  case orck_yes6y => (refine Or.inl ⟨by first | kernel_rfl | rfl, ?_⟩; intro w hSw; (try dsimp only at hSw); obtain ⟨⟨x0, x1, x2, x3, x4, x5, x6, x7, x8⟩, -, -⟩ := hSw; go_simp <;> (try with_reducible rfl))
  try simp only [Act.put, List.setIfInBounds_toArray, List.set_cons_zero, List.set_cons_succ]
  refine wpAnyH_take (i := 6) (oi := ?orck_yes7o) (v := ?orck_yes7v) ?orck_yes7h (by kernel_rfl) (by kernel_rfl) (by kernel_rfl) ?orck_yes7q ?orck_yes7y hHeld ?orck_yes7r
  case orck_yes7h => (simp only [List.getElem?_toArray, List.getElem?_cons_succ, List.getElem?_cons_zero]; rfl)
  case orck_yes7q => exact fun _ _ _ h => h
  case orck_yes7y => (refine Or.inl ⟨by first | kernel_rfl | rfl, ?_⟩; intro w hSw; (try dsimp only at hSw); obtain ⟨⟨x0, x1, x2, x3, x4, x5, x6, x7, x8⟩, -, -⟩ := hSw; go_simp <;> (try with_reducible rfl))
  try simp only [Act.put, List.setIfInBounds_toArray, List.set_cons_zero, List.set_cons_succ]
  refine wpAnyH_take (i := 7) (oi := ?orck_yes8o) (v := ?orck_yes8v) ?orck_yes8h (by kernel_rfl) (by kernel_rfl) (by kernel_rfl) ?orck_yes8q ?orck_yes8y hHeld ?orck_yes8r
  case orck_yes8h => (simp only [List.getElem?_toArray, List.getElem?_cons_succ, List.getElem?_cons_zero]; rfl)
  case orck_yes8q => exact fun _ _ _ h => h
  case orck_yes8y => (refine Or.inl ⟨by first | kernel_rfl | rfl, ?_⟩; intro w hSw; (try dsimp only at hSw); obtain ⟨⟨x0, x1, x2, x3, x4, x5, x6, x7, x8⟩, -, -⟩ := hSw; go_simp <;> (try with_reducible rfl))
  try simp only [Act.put, List.setIfInBounds_toArray, List.set_cons_zero, List.set_cons_succ]
  refine wpAnyH_take (i := 8) (oi := ?orck_yes9o) (v := ?orck_yes9v) ?orck_yes9h (by kernel_rfl) (by kernel_rfl) (by kernel_rfl) ?orck_yes9q ?orck_yes9y hHeld ?orck_yes9r
  case orck_yes9h => (simp only [List.getElem?_toArray, List.getElem?_cons_succ, List.getElem?_cons_zero]; rfl)
  case orck_yes9q => exact fun _ _ _ h => h
  case orck_yes9y => (refine Or.inl ⟨by first | kernel_rfl | rfl, ?_⟩; intro w hSw; (try dsimp only at hSw); obtain ⟨⟨x0, x1, x2, x3, x4, x5, x6, x7, x8⟩, -, -⟩ := hSw; go_simp <;> (try with_reducible rfl))
  try simp only [Act.put, List.setIfInBounds_toArray, List.set_cons_zero, List.set_cons_succ]
  refine wpAnyH_ready (rs := [9]) (by kernel_rfl) (by simp) ?_
  refine (AllReadyH.cons rfl (fun K hK => ?_) AllReadyH.nil)
  go_simp
  ((with_reducible refine (kc _).mono ?_); rintro e w' ⟨rfl, hb'⟩)
  refine hK.out _ _ (hHeld.keep hb') (fun hHeld => ?_)
  clear hK K
  try simp only [Act.put, List.setIfInBounds_toArray, List.set_cons_zero, List.set_cons_succ]
  refine wpAnyH_take (i := 10) (oi := ?orck_yes10o) (v := ?orck_yes10v) ?orck_yes10h (by kernel_rfl) (by kernel_rfl) (by kernel_rfl) ?orck_yes10q ?orck_yes10y hHeld ?orck_yes10r
  case orck_yes10h => (simp only [List.getElem?_toArray, List.getElem?_cons_succ, List.getElem?_cons_zero]; rfl)
  case orck_yes10q => exact fun _ _ _ h => h
  case orck_yes10y => (refine Or.inl ⟨by first | kernel_rfl | rfl, ?_⟩; intro w hSw; (try dsimp only at hSw); obtain ⟨⟨x0, x1, x2, x3, x4, x5, x6, x7, x8⟩, -, -⟩ := hSw; go_simp <;> (try with_reducible rfl))
  try simp only [Act.put, List.setIfInBounds_toArray, List.set_cons_zero, List.set_cons_succ]
  refine wpAnyH_take (i := 11) (oi := ?orck_yes11o) (v := ?orck_yes11v) ?orck_yes11h (by kernel_rfl) (by kernel_rfl) (by kernel_rfl) ?orck_yes11q ?orck_yes11y hHeld ?orck_yes11r
  case orck_yes11h => (simp only [List.getElem?_toArray, List.getElem?_cons_succ, List.getElem?_cons_zero]; rfl)
  case orck_yes11q => exact fun _ _ _ h => h
  case orck_yes11y => (refine Or.inl ⟨by first | kernel_rfl | rfl, ?_⟩; intro w hSw; (try dsimp only at hSw); obtain ⟨⟨x0, x1, x2, x3, x4, x5, x6, x7, x8⟩, -, -⟩ := hSw; go_simp <;> (try with_reducible rfl))
  try simp only [Act.put, List.setIfInBounds_toArray, List.set_cons_zero, List.set_cons_succ]
  refine wpAnyH_take (i := 12) (oi := ?orck_yes12o) (v := ?orck_yes12v) ?orck_yes12h (by kernel_rfl) (by kernel_rfl) (by kernel_rfl) ?orck_yes12q ?orck_yes12y hHeld ?orck_yes12r
  case orck_yes12h => (simp only [List.getElem?_toArray, List.getElem?_cons_succ, List.getElem?_cons_zero]; rfl)
  case orck_yes12q => exact fun _ _ _ h => h
  case orck_yes12y => (refine Or.inl ⟨by first | kernel_rfl | rfl, ?_⟩; intro w hSw; (try dsimp only at hSw); obtain ⟨⟨x0, x1, x2, x3, x4, x5, x6, x7, x8⟩, -, -⟩ := hSw; go_simp <;> (try with_reducible rfl))
  try simp only [Act.put, List.setIfInBounds_toArray, List.set_cons_zero, List.set_cons_succ]
  refine wpAnyH_take (i := 13) (oi := ?orck_yes13o) (v := ?orck_yes13v) ?orck_yes13h (by kernel_rfl) (by kernel_rfl) (by kernel_rfl) ?orck_yes13q ?orck_yes13y hHeld ?orck_yes13r
  case orck_yes13h => (simp only [List.getElem?_toArray, List.getElem?_cons_succ, List.getElem?_cons_zero]; rfl)
  case orck_yes13q => exact fun _ _ _ h => h
  case orck_yes13y => (refine Or.inl ⟨by first | kernel_rfl | rfl, ?_⟩; intro w hSw; (try dsimp only at hSw); obtain ⟨⟨x0, x1, x2, x3, x4, x5, x6, x7, x8⟩, -, -⟩ := hSw; go_simp <;> (try with_reducible rfl))
  try simp only [Act.put, List.setIfInBounds_toArray, List.set_cons_zero, List.set_cons_succ]
  refine wpAnyH_take (i := 14) (oi := ?orck_yes14o) (v := ?orck_yes14v) ?orck_yes14h (by kernel_rfl) (by kernel_rfl) (by kernel_rfl) ?orck_yes14q ?orck_yes14y hHeld ?orck_yes14r
  case orck_yes14h => (simp only [List.getElem?_toArray, List.getElem?_cons_succ, List.getElem?_cons_zero]; rfl)
  case orck_yes14q => exact fun _ _ _ h => h
  case orck_yes14y => (refine Or.inl ⟨by first | kernel_rfl | rfl, ?_⟩; intro w hSw; (try dsimp only at hSw); obtain ⟨⟨x0, x1, x2, x3, x4, x5, x6, x7, x8⟩, -, -⟩ := hSw; go_simp <;> (try with_reducible rfl))
  try simp only [Act.put, List.setIfInBounds_toArray, List.set_cons_zero, List.set_cons_succ]
  refine wpAnyH_take (i := 15) (oi := ?orck_yes15o) (v := ?orck_yes15v) ?orck_yes15h (by kernel_rfl) (by kernel_rfl) (by kernel_rfl) ?orck_yes15q ?orck_yes15y hHeld ?orck_yes15r
  case orck_yes15h => (simp only [List.getElem?_toArray, List.getElem?_cons_succ, List.getElem?_cons_zero]; rfl)
  case orck_yes15q => exact fun _ _ _ h => h
  case orck_yes15y => (refine Or.inl ⟨by first | kernel_rfl | rfl, ?_⟩; intro w hSw; (try dsimp only at hSw); obtain ⟨⟨x0, x1, x2, x3, x4, x5, x6, x7, x8⟩, -, -⟩ := hSw; go_simp <;> (try with_reducible rfl))
  try simp only [Act.put, List.setIfInBounds_toArray, List.set_cons_zero, List.set_cons_succ]
  refine wpAnyH_take (i := 16) (oi := ?orck_yes16o) (v := ?orck_yes16v) ?orck_yes16h (by kernel_rfl) (by kernel_rfl) (by kernel_rfl) ?orck_yes16q ?orck_yes16y hHeld ?orck_yes16r
  case orck_yes16h => (simp only [List.getElem?_toArray, List.getElem?_cons_succ, List.getElem?_cons_zero]; rfl)
  case orck_yes16q => exact fun _ _ _ h => h
  case orck_yes16y => (refine Or.inl ⟨by first | kernel_rfl | rfl, ?_⟩; intro w hSw; (try dsimp only at hSw); obtain ⟨⟨x0, x1, x2, x3, x4, x5, x6, x7, x8⟩, -, -⟩ := hSw; go_simp <;> (try with_reducible rfl))
  try simp only [Act.put, List.setIfInBounds_toArray, List.set_cons_zero, List.set_cons_succ]
  refine wpAnyH_take (i := 17) (oi := ?orck_yes17o) (v := ?orck_yes17v) ?orck_yes17h (by kernel_rfl) (by kernel_rfl) (by kernel_rfl) ?orck_yes17q ?orck_yes17y hHeld ?orck_yes17r
  case orck_yes17h => (simp only [List.getElem?_toArray, List.getElem?_cons_succ, List.getElem?_cons_zero]; rfl)
  case orck_yes17q => exact fun _ _ _ h => h
  case orck_yes17y => (refine Or.inl ⟨by first | kernel_rfl | rfl, ?_⟩; intro w hSw; (try dsimp only at hSw); obtain ⟨⟨x0, x1, x2, x3, x4, x5, x6, x7, x8⟩, -, -⟩ := hSw; go_simp <;> (try with_reducible rfl))
  try simp only [Act.put, List.setIfInBounds_toArray, List.set_cons_zero, List.set_cons_succ]
  refine wpAnyH_take (i := 19) (oi := ?orck_yes18o) (v := ?orck_yes18v) ?orck_yes18h (by kernel_rfl) (by kernel_rfl) (by kernel_rfl) ?orck_yes18q ?orck_yes18y hHeld ?orck_yes18r
  case orck_yes18h => (simp only [List.getElem?_toArray, List.getElem?_cons_succ, List.getElem?_cons_zero]; rfl)
  case orck_yes18q => exact fun _ _ _ h => h
  case orck_yes18y => (refine Or.inl ⟨by first | kernel_rfl | rfl, ?_⟩; intro w hSw; (try dsimp only at hSw); obtain ⟨⟨x0, x1, x2, x3, x4, x5, x6, x7, x8⟩, -, -⟩ := hSw; go_simp <;> (try with_reducible rfl))
  try simp only [Act.put, List.setIfInBounds_toArray, List.set_cons_zero, List.set_cons_succ]
  refine wpAnyH_take (i := 20) (oi := ?orck_yes19o) (v := ?orck_yes19v) ?orck_yes19h (by kernel_rfl) (by kernel_rfl) (by kernel_rfl) ?orck_yes19q ?orck_yes19y hHeld ?orck_yes19r
  case orck_yes19h => (simp only [List.getElem?_toArray, List.getElem?_cons_succ, List.getElem?_cons_zero]; rfl)
  case orck_yes19q => exact fun _ _ _ h => h
  case orck_yes19y => (refine Or.inl ⟨by first | kernel_rfl | rfl, ?_⟩; intro w hSw; (try dsimp only at hSw); obtain ⟨⟨x0, x1, x2, x3, x4, x5, x6, x7, x8⟩, -, -⟩ := hSw; go_simp <;> (try with_reducible rfl))
  try simp only [Act.put, List.setIfInBounds_toArray, List.set_cons_zero, List.set_cons_succ]
  refine wpAnyH_take (i := 21) (oi := ?orck_yes20o) (v := ?orck_yes20v) ?orck_yes20h (by kernel_rfl) (by kernel_rfl) (by kernel_rfl) ?orck_yes20q ?orck_yes20y hHeld ?orck_yes20r
  case orck_yes20h => (simp only [List.getElem?_toArray, List.getElem?_cons_succ, List.getElem?_cons_zero]; rfl)
  case orck_yes20q => exact fun _ _ _ h => h
  case orck_yes20y => (refine Or.inl ⟨by first | kernel_rfl | rfl, ?_⟩; intro w hSw; (try dsimp only at hSw); obtain ⟨⟨x0, x1, x2, x3, x4, x5, x6, x7, x8⟩, -, -⟩ := hSw; go_simp <;> (try with_reducible rfl))
  try simp only [Act.put, List.setIfInBounds_toArray, List.set_cons_zero, List.set_cons_succ]
  refine wpAnyH_take (i := 22) (oi := ?orck_yes21o) (v := ?orck_yes21v) ?orck_yes21h (by kernel_rfl) (by kernel_rfl) (by kernel_rfl) ?orck_yes21q ?orck_yes21y hHeld ?orck_yes21r
  case orck_yes21h => (simp only [List.getElem?_toArray, List.getElem?_cons_succ, List.getElem?_cons_zero]; rfl)
  case orck_yes21q => exact fun _ _ _ h => h
  case orck_yes21y => (refine Or.inl ⟨by first | kernel_rfl | rfl, ?_⟩; intro w hSw; (try dsimp only at hSw); obtain ⟨⟨x0, x1, x2, x3, x4, x5, x6, x7, x8⟩, -, -⟩ := hSw; go_simp <;> (try with_reducible rfl))
  try simp only [Act.put, List.setIfInBounds_toArray, List.set_cons_zero, List.set_cons_succ]
  refine wpAnyH_ready (rs := [18]) (by kernel_rfl) (by simp) ?_
  refine (AllReadyH.cons rfl (fun K hK => ?_) AllReadyH.nil)
  go_simp
  ((with_reducible refine (ka _ hHeld.ns).mono ?_); rintro e w' ⟨rfl, hb'⟩)
  refine hK.out _ _ (hHeld.keep hb') (fun hHeld => ?_)
  clear hK K
  try simp only [Act.put, List.setIfInBounds_toArray, List.set_cons_zero, List.set_cons_succ]
  refine wpAnyH_take (i := 23) (oi := ?orck_yes22o) (v := ?orck_yes22v) ?orck_yes22h (by kernel_rfl) (by kernel_rfl) (by kernel_rfl) ?orck_yes22q ?orck_yes22y hHeld ?orck_yes22r
  case orck_yes22h => (simp only [List.getElem?_toArray, List.getElem?_cons_succ, List.getElem?_cons_zero]; rfl)
  case orck_yes22q => exact fun _ _ _ h => h
  case orck_yes22y => (refine Or.inl ⟨by first | kernel_rfl | rfl, ?_⟩; intro w hSw; (try dsimp only at hSw); obtain ⟨⟨x0, x1, x2, x3, x4, x5, x6, x7, x8⟩, -, -⟩ := hSw; go_simp <;> (try with_reducible rfl))
  try simp only [Act.put, List.setIfInBounds_toArray, List.set_cons_zero, List.set_cons_succ]
  refine wpAnyH_take (i := 24) (oi := ?orck_yes23o) (v := ?orck_yes23v) ?orck_yes23h (by kernel_rfl) (by kernel_rfl) (by kernel_rfl) ?orck_yes23q ?orck_yes23y hHeld ?orck_yes23r
  case orck_yes23h => (simp only [List.getElem?_toArray, List.getElem?_cons_succ, List.getElem?_cons_zero]; rfl)
  case orck_yes23q => exact fun _ _ _ h => h
  case orck_yes23y => (refine Or.inl ⟨by first | kernel_rfl | rfl, ?_⟩; intro w hSw; (try dsimp only at hSw); obtain ⟨⟨x0, x1, x2, x3, x4, x5, x6, x7, x8⟩, -, -⟩ := hSw; go_simp <;> (try with_reducible rfl))
  try simp only [Act.put, List.setIfInBounds_toArray, List.set_cons_zero, List.set_cons_succ]
  refine wpAnyH_done (by kernel_rfl) ?_ _
  have hbel := hHeld.bel
  have hat := hHeld.at_
  obtain ⟨x0, x1, x2, x3, x4, x5, x6, x7, x8⟩ := hat
  by_cases hk1 : r.k = 1
  · have kk1 : (r.k == 1) = true := by simpa using hk1
    have kk2 : (r.k == 2) = false := by simp; omega
    have hok := Rec.ok_sample hk1
    rw [HH.out] at hok
    cases hnm : nameB r.s with
    | true =>
      rw [hnm] at hok kn
      by_cases ht : r.tier = 0
      · have tt : (r.tier == 0) = true := by simpa using ht
        have HE : Hid (r.err = 0) := by show _ = _; unfold Rec.err; rw [hok, decide_eq_true ht]; rfl
        clear hok hk1 hnm ht
        go_wp2_with (first | (go_at_call 19; (with_reducible refine (kn _).mono ?_); rintro e w4 ⟨rfl, rfl⟩))
        go_ret
        exact ⟨by rw [HE.out]; rfl, hbel⟩
      · have tt : (r.tier == 0) = false := by simpa using ht
        have HE : Hid (r.err = 1) := by show _ = _; unfold Rec.err; rw [hok, decide_eq_false ht]; rfl
        clear hok hk1 hnm ht
        go_wp2_with (first | (go_at_call 19; (with_reducible refine (kn _).mono ?_); rintro e w4 ⟨rfl, rfl⟩))
        go_ret
        exact ⟨by rw [HE.out]; rfl, hbel⟩
    | false =>
      rw [hnm] at hok kn
      have HE : Hid (r.err = 1) := by show _ = _; unfold Rec.err; rw [hok]; rfl
      clear hok hk1 hnm
      go_wp2_with (first | (go_at_call 19; (with_reducible refine (kn _).mono ?_); rintro e w4 ⟨rfl, rfl⟩))
      go_ret
      exact ⟨by rw [HE.out]; rfl, hbel⟩
  · have kk1 : (r.k == 1) = false := by simpa using hk1
    generalize nameB r.s = nn at *
    by_cases hk2 : r.k = 2
    · have kk2 : (r.k == 2) = true := by simpa using hk2
      have hok := Rec.ok_cut hk2
      rw [HH.out] at hok
      have five : (r.s ≠ ⟨#[]⟩) ∨ (r.s = ⟨#[]⟩ ∧ r.v ≠ 0) ∨ (r.s = ⟨#[]⟩ ∧ r.v = 0 ∧ r.tier < 0) ∨ (r.s = ⟨#[]⟩ ∧ r.v = 0 ∧ 0 ≤ r.tier ∧ 3 < r.tier) ∨ (r.s = ⟨#[]⟩ ∧ r.v = 0 ∧ 0 ≤ r.tier ∧ r.tier ≤ 3) := by
        by_cases c1 : r.s = ⟨#[]⟩
        · by_cases c2 : r.v = 0
          · have : r.tier < 0 ∨ (0 ≤ r.tier ∧ 3 < r.tier) ∨ (0 ≤ r.tier ∧ r.tier ≤ 3) := by omega
            rcases this with h | h | h
            · exact Or.inr (Or.inr (Or.inl ⟨c1, c2, h⟩))
            · exact Or.inr (Or.inr (Or.inr (Or.inl ⟨c1, c2, h⟩)))
            · exact Or.inr (Or.inr (Or.inr (Or.inr ⟨c1, c2, h⟩)))
          · exact Or.inr (Or.inl ⟨c1, c2⟩)
        · exact Or.inl c1
      rcases five with c1 | ⟨c1, c2⟩ | ⟨c1, c2, c3⟩ | ⟨c1, c2, c3, c4⟩ | ⟨c1, c2, c3, c4⟩
      · have hs : (r.s.toList == (⟨#[]⟩ : ByteArray).toList) = false := by
          rw [ByteArray.toList_eq, ByteArray.toList_eq]
          apply Bool.eq_false_iff.2
          intro e
          exact c1 (ByteArray.ext (Array.toList_inj.1 (eq_of_beq e)))
        have hs2 : (r.s.toList == []) = false := by
          have e0 : (⟨#[]⟩ : ByteArray).toList = [] := by rw [ByteArray.toList_eq]
          rw [e0] at hs; exact hs
        have HE : Hid (r.err = 1) := by show _ = _; unfold Rec.err; rw [hok, decide_eq_false c1]; rfl
        clear hok hk1 hk2
        go_wp2_with (first | (go_at_call 19; (with_reducible refine (kn _).mono ?_); rintro e w4 ⟨rfl, rfl⟩))
        go_ret
        exact ⟨by rw [HE.out]; rfl, hbel⟩
      · have hv : (r.v == 0) = false := by simpa using c2
        have HE : Hid (r.err = 1) := by show _ = _; unfold Rec.err; rw [hok, decide_eq_false c2, decide_eq_true c1]; rfl
        rw [c1] at x1 kn
        clear hok hk1 hk2 c2
        go_wp2_with (first | (go_at_call 19; (with_reducible refine (kn _).mono ?_); rintro e w4 ⟨rfl, rfl⟩))
        go_ret
        exact ⟨by rw [HE.out]; rfl, hbel⟩
      · have hv : (r.v == 0) = true := by simpa using c2
        have h3 : ¬ 0 ≤ r.tier := by omega
        have HE : Hid (r.err = 1) := by show _ = _; unfold Rec.err; rw [hok, decide_eq_true c2, decide_eq_true c1, decide_eq_false (show ¬ (0 ≤ r.tier ∧ r.tier ≤ 3) by omega)]; rfl
        rw [c1] at x1 kn
        clear hok hk1 hk2 c2 c3
        go_wp2_with (first | (go_at_call 19; (with_reducible refine (kn _).mono ?_); rintro e w4 ⟨rfl, rfl⟩))
        go_ret
        exact ⟨by rw [HE.out]; rfl, hbel⟩
      · have hv : (r.v == 0) = true := by simpa using c2
        have h3 : ¬ r.tier ≤ 3 := by omega
        have HE : Hid (r.err = 1) := by show _ = _; unfold Rec.err; rw [hok, decide_eq_true c2, decide_eq_true c1, decide_eq_false (show ¬ (0 ≤ r.tier ∧ r.tier ≤ 3) by omega)]; rfl
        rw [c1] at x1 kn
        clear hok hk1 hk2 c2 c4
        go_wp2_with (first | (go_at_call 19; (with_reducible refine (kn _).mono ?_); rintro e w4 ⟨rfl, rfl⟩))
        go_ret
        exact ⟨by rw [HE.out]; rfl, hbel⟩
      · have hv : (r.v == 0) = true := by simpa using c2
        have HE : Hid (r.err = 0) := by show _ = _; unfold Rec.err; rw [hok, decide_eq_true c2, decide_eq_true c1, decide_eq_true (show (0 ≤ r.tier ∧ r.tier ≤ 3) by omega)]; rfl
        rw [c1] at x1 kn
        clear hok hk1 hk2 c2
        go_wp2_with (first | (go_at_call 19; (with_reducible refine (kn _).mono ?_); rintro e w4 ⟨rfl, rfl⟩))
        go_ret
        exact ⟨by rw [HE.out]; rfl, hbel⟩
    · have kk2 : (r.k == 2) = false := by simpa using hk2
      have HE : Hid (r.err = 1) := by show _ = _; unfold Rec.err; rw [Rec.ok_none hk1 hk2]; rfl
      clear hk1 hk2
      go_wp2_with (first | (go_at_call 19; (with_reducible refine (kn _).mono ?_); rintro e w4 ⟨rfl, rfl⟩))
      go_ret
      exact ⟨by rw [HE.out]; rfl, hbel⟩

theorem rcheck6_is (r : Rec) (dv : Value) (w : World) (h : Ns w dv r.d) (hf : r.fits) : Calls Try.prog 17 #[recV r dv] w fun e w' => e = .returned (.int .i64 r.err) ∧ Below w.heap.size w w' := by
  cases h1 : decide (0 ≤ r.t ∧ r.t ≤ 1099511627776) with
  | false => exact rck_time r dv w h h1
  | true =>
    cases h2 : sameL r.d (plainL r.d) with
    | false => exact rck_deps r dv w h h1 h2
    | true =>
      cases h3 : r.st.ok with
      | false => exact rck_st r dv w h h1 h2 h3
      | true =>
        by_cases h4 : atL r.d r.st.s = r.st.q - 1
        · exact rck_yes r dv w h hf h1 h2 h3 h4
        · exact rck_at r dv w h h1 h2 h3 h4
end Go.Proofs.Ytjckphmkhikpaaa
