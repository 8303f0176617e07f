/- The contracts of the program's list of points and of ReadPoints. -/
import Derived.Test.YtjckphmkhikpaaaSampleTakeP
import Derived.Test.YtjckphmkhikpaaaSamplePts
import Derived.Test.YtjckphmkhikpaaaSampleFew
set_option maxRecDepth 20000
namespace Go.Proofs.Ytjckphmkhikpaaa
open Go.RowKit Go.Proofs.Ytjckphmkhikpaaa.Vi Go.Proofs.Ytjckphmkhikpaaa.Mk

set_option maxHeartbeats 2000000 in
theorem rp1_is (d z : Nat) (r r' : ByteArray) (b b' : Bool) (p : Pt) (w : World) (hr : r.size ≤ 100000) (H : Hid (ptR r b = (p, r', b'))) (hi : b = true → r = ⟨#[]⟩) (h : RA w d r b) (hz : w.cell? ⟨z, 0, none⟩ = some (.pointer (some ⟨d, 0, none⟩))) :
    Calls Try.prog 70 #[.pointer (some ⟨z, 0, none⟩)] w (Took d (ptV p) r' b' w) := by
  have kt := fun w h => takep_is d r r' b b' p w hr H hi h
  have hd := h.room
  have hA0 := h.below ((Below.refl _ _).alloc (Nat.le_refl _) (.cells #[.string ⟨#[]⟩, .int .i64 0, .int .i64 0, .int .i64 0, .int .i64 0, .int .i64 0] 34))
  have hB0 := (But.refl d w).alloc (.cells #[.string ⟨#[]⟩, .int .i64 0, .int .i64 0, .int .i64 0, .int .i64 0, .int .i64 0] 34)
  have hP0 : PtW (w.alloc (.cells #[.string ⟨#[]⟩, .int .i64 0, .int .i64 0, .int .i64 0, .int .i64 0, .int .i64 0] 34)) w.heap.size ⟨⟨#[]⟩, 0, 0, ⟨0, 0, 0⟩⟩ := PtW.new w ⟨⟨#[]⟩, 0, 0, ⟨0, 0, 0⟩⟩
  have HD := Lib.hid hd
  have hzr := World.block_lt_of_cell? w _ hz
  have hzn : ¬ z = w.heap.size := by show ¬ z = w.heap.size; have : z < w.heap.size := hzr; omega
  have hz1 : (w.alloc (.cells #[.string ⟨#[]⟩, .int .i64 0, .int .i64 0, .int .i64 0, .int .i64 0, .int .i64 0] 34)).cell? ⟨z, 0, none⟩ = some (.pointer (some ⟨d, 0, none⟩)) := (((Below.refl w.heap.size w).alloc (Nat.le_refl _) _).cell (p := ⟨z, 0, none⟩) hzr).trans hz
  obtain ⟨s, t, v, ⟨c, si, q⟩⟩ := p
  unfold ptV at kt ⊢
  dsimp only at kt ⊢
  clear H hi hr h hd
  go_enter Try.func70, Try.ntmps70
  go_wp2_with (first
    | (go_at_call 58; (with_reducible refine (kt _ hA0).mono ?_); rintro e w4 ⟨rfl, hA4, hB4⟩; have hP4 := hP0.but hB4 (by have := HD.out; omega); obtain ⟨⟨z0, z1, z2, z3, z4, z5⟩, g0, g1, g2, g3, g4, g5⟩ := hP4; dsimp only at z0 z1 z2 z3 z4 z5))
  have h6 := six_at (Below.refl w.heap.size w4) w.heap.size (Nat.le_refl _) (.string s) (.int .i64 t) (.int .i64 v) (.int .i64 c) (.int .i64 si) (.int .i64 q)
  refine bodyPost_ret (v := .agg #[.string s, .int .i64 t, .int .i64 v, .int .i64 c, .int .i64 si, .int .i64 q]) (by simp [results, Try.results70, go_sem, z0, z1, z2, z3, z4, z5]; try rfl) rfl ⟨rfl, hA4.farB h6 HD.out, (hB0.trans hB4).ofB h6 (Nat.le_refl _)⟩

/-- What list's loop has read. -/
structure LsR (w wr : World) (d : Nat) (S : ByteArray) (o : Value) (k : Nat) : Prop where
  row : PRow wr w.heap.size o (outR S k)
  ra : RA wr d (stpR S k).1 (stpR S k).2
  bel : But d w wr
theorem LsR.len {w wr : World} {d : Nat} {S : ByteArray} {o : Value} {k : Nat} (R : LsR w wr d S o k) : ∃ a c, o = .slice a k c := by
  have := R.row.slice; rw [outR_len] at this; exact this
theorem owns6_but {w w' : World} {B d size n : Nat} {e : TypeId} {v : Value} {xs : List Value} (h : w.ownsRow B e size v n xs) (k : But d w w') (hd : d < B) : w'.ownsRow B e size v n xs := by
  obtain ⟨h1, h2⟩ := h
  refine ⟨h1, ?_⟩
  rcases h2 with h2 | ⟨g, cap, cur, e1, e2, e3, rest⟩
  · exact Or.inl h2
  · have hg : g < w.heap.size := (Array.getElem?_eq_some_iff.1 e3).1
    exact Or.inr ⟨g, cap, cur, e1, e2, (k.block g hg (by omega)).trans e3, rest⟩
/-- What list answers. -/
def LsDone (d : Nat) (S : ByteArray) (n : Nat) (w : World) (e : Ending) (w' : World) : Prop := ∃ v, e = .returned v ∧ LsR w w' d S v n
set_option maxHeartbeats 8000000 in
theorem listp_is (d z n : Nat) (S : ByteArray) (w : World) (hs : S.size ≤ 100000) (hn : (n : Int) = cntP S) (h : RA w d S false) (hz : w.cell? ⟨z, 0, none⟩ = some (.pointer (some ⟨d, 0, none⟩))) (hne : z ≠ d) :
    Calls Try.prog 69 #[.pointer (some ⟨d, 0, none⟩), .int .i64 1000, .func (.func 70) #[] #[.pointer (some ⟨z, 0, none⟩)]] w (LsDone d S n w) := by
  obtain ⟨i0, hi, hz0, hz1, hz2⟩ := info_parts infoP
  have hc := cntP_bounds S
  have hn1 : n ≤ 1000 := by omega
  have k1 := fun w h => small_is d S (stpR S 0).1 false (stpR S 0).2 (cntP S) 1000 w (by unfold maxLen; omega) (by omega) (Lib.hid (stpR_zero S)) h
  rw [← hn] at k1
  have hd := h.room
  have hzr := World.block_lt_of_cell? w _ hz
  have HN := Lib.hid hn
  have HZ := Lib.hid hz
  clear hc hn hz
  go_enter Try.func69, Try.ntmps69
  go_wp2_with (first
    | (go_at_call 57; (with_reducible refine (k1 _ h).mono ?_); rintro e w1 ⟨rfl, hA, hB⟩))
  have R0 := Lib.hid (show LsR w w1 d S (.slice none 0 0) 0 from ⟨PRow.nil _ _, hA, hB⟩)
  clear hA hB k1 h
  go_loopw [7, 11] (fun o i wr => ∃ k : Nat, k ≤ n ∧ i = .int .i64 (k : Int) ∧ LsR w wr d S o k) (fun _ i _ => n - (intOf i).toNat)
  case atStart => exact ⟨0, by omega, rfl, R0.out⟩
  case round =>
    obtain ⟨k, hk, rfl, R⟩ := hrel
    obtain ⟨a1, cc1, rfl⟩ := R.len
    clear R0
    by_cases hlt : k < n
    · have hlt2 : (k : Int) < (n : Int) := by omega
      have hzw := (R.bel.cell (p := ⟨z, 0, none⟩) hne hzr).trans HZ.out
      have k2 := rp1_is d z (stpR S k).1 (stpR S (k + 1)).1 (stpR S k).2 (stpR S (k + 1)).2 (pR S k) wr (by have := (stpR_inv S k).2; omega) (Lib.hid (stpR_step S k)) (stpR_inv S k).1 R.ra hzw
      have hrow : wr.ownsRow w.heap.size 34 6 (.slice a1 k cc1) k ((outR S k).flatMap cells6) := by have := R.row; unfold PRow at this; rw [outR_len] at this; exact this
      have HROW := Lib.hid hrow
      have HBEL := Lib.hid R.bel
      obtain ⟨p, hp⟩ : ∃ p, pR S k = p := ⟨_, rfl⟩
      rw [hp] at k2
      have HP := Lib.hid hp
      unfold ptV at k2
      clear R hrow hp hzw
      go_wp2_with (first
        | (go_at_call 70; (with_reducible refine k2.mono ?_); rintro e w2 ⟨rfl, hA2, hB2⟩; have hR := owns6_but HROW.out hB2 hd; have hb2 := HBEL.out.trans hB2; have hBr := hb2.size; have hown : ∀ q, (Value.slice a1 k cc1).ownBlock = some q → w.heap.size ≤ q := fun q hq => (World.ownsRow.lt hR q hq).1)
        | (at_builtin; refine wpList_append_own _ rfl _ _ 42 rfl w.heap.size 34 i0 (.agg #[.string ⟨#[]⟩, .int .i64 0, .int .i64 0, .int .i64 0, .int .i64 0, .int .i64 0]) 6 56 Try.underlying42 hi hz0 hz1 hz2 rfl (by decide) _ _ _ rfl (hR.alloc _) ⟨w2.heap.size, 0, none⟩ 1 1 (cells6 p) rfl rfl ?c1 ?c2 ?c3 ?c4 ?c5 ?_))
      case c1 =>
        intro j u hj
        match j, hj with
        | 0, hj | 1, hj | 2, hj | 3, hj | 4, hj | 5, hj => simp [cells6] at hj; subst hj; first | (simp [Addr.add]; done) | (simp; done)
      case c2 => intro u hu; simp [cells6] at hu; rcases hu with rfl | rfl | rfl | rfl | rfl | rfl <;> rfl
      case c3 => unfold maxLen; (try simp); omega
      case c4 => (try simp); omega
      case c5 => (try simp); omega
      intro v' w3 hown3 hgrow _
      have hB3 : Below w.heap.size w2 w3 := ((Below.refl w.heap.size w2).alloc hBr _).grown hgrow (by simp; omega) hown
      have hR3 : PRow w3 w.heap.size v' (outR S (k + 1)) := by
        unfold PRow
        rw [outR_succ, HP.out, List.length_append, List.flatMap_append, outR_len]
        simpa [cells6] using hown3
      have HR3 := Lib.hid (show LsR w w3 d S v' (k + 1) from ⟨hR3, hA2.farB hB3 hd, hb2.ofB hB3 (Nat.le_refl _)⟩)
      clear hown3 hgrow hR3 hB3 hR hA2 hB2 hb2 hown
      go_wp2
      go_roundw
      case rel => exact ⟨k + 1, by omega, by go_num, HR3.out⟩
      case measure => simp [intOf]; omega
    · obtain rfl : k = n := by omega
      have hlt2 : ¬ (k : Int) < (k : Int) := by omega
      have HR := Lib.hid R
      clear R
      go_wp2
      go_ret
      exact ⟨_, rfl, HR.out⟩

/-- What ReadPoints answers. -/
def RPDone (S : ByteArray) (w : World) (e : Ending) (w' : World) : Prop := ∃ v, e = .returned (.tuple #[v, .int .i64 (if (ptsQ S).isSome then 0 else 10)]) ∧ PRow w' w.heap.size v ((ptsQ S).getD []) ∧ Below w.heap.size w w'
theorem rp_none {S : ByteArray} {w w' : World} (h : ptsQ S = none) (hb : Below w.heap.size w w') : RPDone S w (.returned (.tuple #[.slice none 0 0, .int .i64 10])) w' := by
  unfold RPDone
  rw [h]
  exact ⟨_, rfl, PRow.nil _ _, hb⟩
theorem rp_some {S : ByteArray} {l : List Pt} {v : Value} {w w' : World} (h : ptsQ S = some l) (hr : PRow w' w.heap.size v l) (hb : Below w.heap.size w w') : RPDone S w (.returned (.tuple #[v, .int .i64 0])) w' := by
  unfold RPDone
  rw [h]
  exact ⟨_, rfl, hr, hb⟩
theorem PRow.mono {w : World} {B B' : Nat} {v : Value} {xs : List Pt} (h : PRow w B v xs) (hB : B' ≤ B) : PRow w B' v xs := by
  obtain ⟨h1, h2⟩ := h
  refine ⟨h1, ?_⟩
  rcases h2 with h2 | ⟨g, cap, cur, e1, e2, e3, rest⟩
  · exact Or.inl h2
  · exact Or.inr ⟨g, cap, cur, e1, by omega, e3, rest⟩
set_option maxHeartbeats 8000000 in
theorem readpoints_is (S : ByteArray) (w : World) (hs : S.size ≤ 100000) : Calls Try.prog 22 #[.string S] w (RPDone S w) := by
  have hmf := makeFunc_run
  have hc := cntP_bounds S
  obtain ⟨n, hn⟩ : ∃ n : Nat, (n : Int) = cntP S := ⟨(cntP S).toNat, by omega⟩
  have hn1 : n ≤ 1000 := by omega
  obtain ⟨en, hen⟩ : ∃ en, endQ (stpR S n).1 (stpR S n).2 = en := ⟨_, rfl⟩
  have k1 := fun W z h hz hne => listp_is w.heap.size z n S W hs hn h hz hne
  have k2 := fun W h => end_is w.heap.size (stpR S n).1 (stpR S n).2 en W h (Lib.hid hen)
  have HN := Lib.hid hn
  clear hc
  by_cases he : en = 0
  · subst he
    have HE := Lib.hid hen
    clear hen hn
    go_enter Try.func22, Try.ntmps22
    go_wp2_with (first
      | (go_at_call 56; (with_reducible refine (read_is _ _).mono ?_); rintro e w1 ⟨rfl, hA1, hb1, hz1⟩; have hA2 := hA1.below ((Below.refl _ _).alloc (Nat.le_refl _) (.cells #[.pointer (some ⟨w.heap.size, 0, none⟩)] 68)); have hB2 := bel_new hb1 (.cells #[.pointer (some ⟨w.heap.size, 0, none⟩)] 68); have hcz : (w1.alloc (.cells #[.pointer (some ⟨w.heap.size, 0, none⟩)] 68)).cell? ⟨w1.heap.size, 0, none⟩ = some (.pointer (some ⟨w.heap.size, 0, none⟩)) := by simp [go_sem])
      | (go_at_call 69; (with_reducible refine (k1 _ _ hA2 hcz (by omega)).mono ?_); rintro e w3 ⟨v, rfl, hR3⟩; obtain ⟨a5, c5, rfl⟩ := hR3.len; have hcz3 := (hR3.bel.cell (p := ⟨w1.heap.size, 0, none⟩) (by show w1.heap.size ≠ w.heap.size; omega) (World.block_lt_of_cell? _ _ hcz)).trans hcz)
      | (go_at_call 62; (with_reducible refine (k2 _ hR3.ra).mono ?_); rintro e w4 ⟨rfl, rfl⟩))
    have hB3 : Below w.heap.size w w3 := hB2.trans (hR3.bel.below (Nat.le_refl _) hB2.size)
    have HROW := Lib.hid (hR3.row.mono (B' := w.heap.size) hB2.size)
    have HP := Lib.hid hR3.row.pts
    have HB := Lib.hid hB3
    clear hA1 hb1 hz1 hA2 hB2 hcz hcz3 hR3 hB3 k1 k2
    go_loopw [18] (fun i wr => ∃ (k : Nat), k ≤ n ∧ i = .int .i64 (k : Int) ∧ Below w3.heap.size w3 wr ∧ Hid (∀ j, j < k → (pR S j).ok = true)) (fun i _ => n - (intOf i).toNat)
    case atStart => exact ⟨0, by omega, rfl, Below.refl _ _, Lib.hid fun j hj => absurd hj (Nat.not_lt_zero _)⟩
    case round =>
      obtain ⟨k, hk, rfl, hB, hall⟩ := hrel
      by_cases hlt : k < n
      · have hlti : (k : Int) < (n : Int) := by omega
        rcases HP.out.at_ with hl0 | ⟨b, off, rfl, hbw, hcc⟩
        · have := outR_len S n; rw [hl0] at this; simp at this; omega
        · have hA := (hcc k (by rw [outR_len]; exact hlt)).below hB hbw
          rw [outR_at] at hA
          have hsz := pR_size S k
          have HNO := Lib.hid (fun (h : (pR S k).ok = false) => ptsQ_no_ok HN.out hlt h)
          have HGO := Lib.hid (fun (h : (pR S k).ok = true) => show ∀ j, j < k + 1 → (pR S j).ok = true from fun j hjk => by
            by_cases e : j = k
            · subst e; exact h
            · exact hall.out j (by omega))
          obtain ⟨p, hp⟩ : ∃ p, pR S k = p := ⟨_, rfl⟩
          rw [hp] at hA hsz HNO HGO
          obtain ⟨c0, c1, c2, c3, c4, c6⟩ := hA
          have kc := fun w => checkp_is p w (by omega)
          unfold Pt.err at kc
          unfold ptV at kc
          have HBH := Lib.hid hB
          clear hcc hp hall hB hsz
          cases hok : p.ok with
          | true =>
            have HH := Lib.hid (HGO.out hok)
            rw [hok] at kc
            clear HGO HNO hok
            go_wp2_with (go_at_call 33; (with_reducible refine (kc _).mono ?_); rintro e w1 ⟨rfl, hb1⟩)
            go_roundw
            case rel => exact ⟨k + 1, by omega, by go_num, HBH.out.trans ((((Below.refl wr.heap.size wr).alloc (Nat.le_refl _) _).trans (hb1.mono (by simp))).mono HBH.out.size), HH⟩
            case measure => simp [intOf]; omega
          | false =>
            have HH := Lib.hid (HNO.out hok)
            rw [hok] at kc
            clear HGO HNO hok
            go_wp2_with (go_at_call 33; (with_reducible refine (kc _).mono ?_); rintro e w1 ⟨rfl, hb1⟩)
            go_ret2
            exact rp_none HH.out (HB.out.trans ((HBH.out.trans ((((Below.refl wr.heap.size wr).alloc (Nat.le_refl _) _).trans (hb1.mono (by simp))).mono HBH.out.size)).mono HB.out.size))
      · have hlti : ¬ (k : Int) < (n : Int) := by omega
        have HH := Lib.hid (ptsQ_yes HN.out HE.out fun j hj => hall.out j (by omega))
        have HBH := Lib.hid hB
        clear hall hB
        go_wp2
        go_ret2
        exact rp_some HH.out (HROW.out.later HBH.out) (HB.out.trans (HBH.out.mono HB.out.size))
  · have HE := Lib.hid (ptsQ_no_end hn (by rw [hen]; exact he))
    have hne : (en == 0) = false := by simpa using he
    have hnn : (en != 0) = true := by simpa using he
    clear hen hn he
    go_enter Try.func22, Try.ntmps22
    go_wp2_with (first
      | (go_at_call 56; (with_reducible refine (read_is _ _).mono ?_); rintro e w1 ⟨rfl, hA1, hb1, hz1⟩; have hA2 := hA1.below ((Below.refl _ _).alloc (Nat.le_refl _) (.cells #[.pointer (some ⟨w.heap.size, 0, none⟩)] 68)); have hB2 := bel_new hb1 (.cells #[.pointer (some ⟨w.heap.size, 0, none⟩)] 68); have hcz : (w1.alloc (.cells #[.pointer (some ⟨w.heap.size, 0, none⟩)] 68)).cell? ⟨w1.heap.size, 0, none⟩ = some (.pointer (some ⟨w.heap.size, 0, none⟩)) := by simp [go_sem])
      | (go_at_call 69; (with_reducible refine (k1 _ _ hA2 hcz (by omega)).mono ?_); rintro e w3 ⟨v, rfl, hR3⟩; obtain ⟨a5, c5, rfl⟩ := hR3.len; have hcz3 := (hR3.bel.cell (p := ⟨w1.heap.size, 0, none⟩) (by show w1.heap.size ≠ w.heap.size; omega) (World.block_lt_of_cell? _ _ hcz)).trans hcz)
      | (go_at_call 62; (with_reducible refine (k2 _ hR3.ra).mono ?_); rintro e w4 ⟨rfl, rfl⟩))
    go_ret2
    exact rp_none HE.out (hB2.trans (hR3.bel.below (Nat.le_refl _) hB2.size))
end Go.Proofs.Ytjckphmkhikpaaa
