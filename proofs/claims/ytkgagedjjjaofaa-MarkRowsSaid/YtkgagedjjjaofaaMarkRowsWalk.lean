/- The walk of law MarkRows: it returns true and turns nothing that was there. -/
import Derived.Test.YtkgagedjjjaofaaMarkRowsMath
namespace Go.Proofs.Ytkgagedjjjaofaa.markRows
open Go.RowKit Go.Proofs.Ytkgagedjjjaofaa Go.Proofs.Ytkgagedjjjaofaa.Vi Go.Proofs.Ytkgagedjjjaofaa.Mk

/-- What the first loop has put together. -/
structure PutRel (w wr : World) (l : List St) (m : Value) (k : Nat) : Prop where
  row : SRow wr w.heap.size m (good (l.take k))
  bel : Below w.heap.size w wr
/-- What the second loop finds: j stamps have been read. -/
structure LastRel (w wr : World) (pr : Nat) (a5 : Option Addr) (g : List St) (j : Nat) : Prop where
  ra : RA wr pr (tx (bytesAll (g.drop j))) false
  st : Sts wr pr a5 g
  bel : Below w.heap.size w wr
theorem end_b (b : Nat) (r : ByteArray) (br : Bool) (z : Int) (w : World) (h : RA w b r br) (H : Hid (endQ r br = z)) : Calls Try.prog 44 #[.pointer (some ⟨b, 0, none⟩)] w fun e w' => e = .returned (.int .i64 z) ∧ w = w' := end_is b r br z w h H
set_option maxHeartbeats 16000000 in
set_option maxRecDepth 20000 in
theorem core (a0 : Option Addr) (cap0 : Nat) (l : List St) (w : World) (hS : Sts w w.heap.size a0 l) (hl : l.length ≤ 9223372036854775807) :
    Calls Try.prog 9 #[.slice a0 l.length cap0] w fun e w' => e = .returned (.bool true) ∧ Below w.heap.size w w' := by
  obtain ⟨i0, hi, hz0, hz1, hz2⟩ := info_parts infoS
  have HS := Lib.hid hS
  clear hS
  go_enter Try.func9, Try.ntmps9
  go_wp2_with (first
    | (go_at_call 10; (with_reducible refine (awake_any _).mono ?_); rintro e w1 ⟨rfl, hb1⟩))
  have HR0 := Lib.hid (show PutRel w w1 l (.slice none 0 0) 0 from ⟨SRow.nil _ _, hb1⟩)
  clear hb1
  go_loopw [4, 5, 6] (fun s m i wr => ∃ (k : Nat), k ≤ 12 ∧ k ≤ l.length ∧ i = .int .i64 (k : Int) ∧ s = .string (tx (bytesAll (good (l.take k)))) ∧ PutRel w wr l m k) (fun _ _ i _ => 12 - (intOf i).toNat)
  case atStart => exact ⟨0, by omega, by omega, rfl, rfl, HR0.out⟩
  case round =>
    obtain ⟨k, hk1, hk2, rfl, rfl, P⟩ := hrel
    clear HR0
    by_cases hgo : k < l.length ∧ k < 12
    · obtain ⟨g1, g2⟩ := hgo
      have hi1 : (k : Int) < (l.length : Int) := by omega
      have hi2 : (k : Int) < 12 := by omega
      rcases HS.out.at_ with rfl | ⟨b, off, rfl, hbw, hc⟩
      · simp at g1
      · have hA := hc k g1
        obtain ⟨a, ha⟩ : ∃ a, l[k] = a := ⟨_, rfl⟩
        rw [ha] at hA
        have HA := Lib.hid hA
        have HP := Lib.hid P
        obtain ⟨c0, c1, c2⟩ := hA.below P.bel hbw
        have hgl := good_len l k
        obtain ⟨s0, hs0⟩ : ∃ s, tx (bytesAll (good (l.take k))) = s := ⟨_, rfl⟩
        have hz0' : s0.size ≤ 400 := by rw [← hs0, tx_size]; have := bytesAll_len (good (l.take k)); omega
        obtain ⟨a5, cc5, rfl⟩ := P.row.slice
        obtain ⟨n, hn⟩ : ∃ n, (good (l.take k)).length = n := ⟨_, rfl⟩
        cases ho : a.ok with
        | true =>
          have kc := fun w => checkV a 0 (Lib.hid (by unfold St.err; rw [ho]; rfl)) w
          obtain ⟨sb, hsb⟩ : ∃ s, tx a.bytes = s := ⟨_, rfl⟩
          have kb := fun w => bytes_is a sb w (Lib.hid hsb)
          have hzb : sb.size ≤ 30 := by rw [← hsb, tx_size]; exact bytes_len a
          have hq1 : s0.size + sb.size ≤ 9223372036854775807 := by omega
          have hq2 : ¬ 9223372036854775807 < s0.size + sb.size := by omega
          have HG := Lib.hid (show good (l.take (k + 1)) = good (l.take k) ++ [a] by rw [← ha]; exact good_yes l k g1 (by rw [ha]; exact ho))
          have HSB := Lib.hid (show s0 ++ sb = tx (bytesAll (good (l.take (k + 1)))) by rw [HG.out, bytesAll_snoc, ← hs0, ← hsb, tx_app])
          have hrow : wr.ownsRow w.heap.size 23 3 (.slice a5 n cc5) n ((good (l.take k)).flatMap cells3) := by rw [← hn]; exact P.row
          have HRW := Lib.hid hrow
          have HB0 := Lib.hid P.bel
          rw [hs0]
          rw [hn] at hgl ⊢
          have HNN := Lib.hid hn
          have HHA := Lib.hid (fun w' h => HA.out.below (B := w.heap.size) (w' := w') h hbw)
          clear hc ha hs0 hsb hzb hz0' ho hA P hn HP hrow
          go_wp2_with (first
            | (go_at_call 15; (with_reducible refine (kc _).mono ?_); rintro e w2 ⟨rfl, hb2⟩; have hbb2 := bel_next HB0.out hb2; have G := HHA.out _ hbb2; obtain ⟨c0, c1, c2⟩ := G; have hR := owns_later HRW.out hb2; have hBr := hbb2.size; have hne : ∀ q, (Value.slice a5 n cc5).ownBlock = some q → w.heap.size ≤ q := fun q hq => (World.ownsRow.lt hR q hq).1)
            | (at_builtin; refine wpList_append_own _ rfl _ _ 56 rfl w.heap.size 23 i0 (.agg #[.int .i64 0, .int .i64 0, .int .i64 0]) 3 24 Try.underlying56 hi hz0 hz1 hz2 rfl (by decide) _ _ _ rfl (hR.alloc _) ⟨w2.heap.size, 0, none⟩ 1 1 (cells3 a) rfl rfl ?c1 ?c2 ?c3 ?c4 ?c5 ?_))
          case c1 =>
            intro j u hj
            match j, hj with
            | 0, hj | 1, hj | 2, hj => simp [cells3] at hj; subst hj; first | (simp [Addr.add]; done) | (simp; done)
          case c2 => intro u hu; simp [cells3] at hu; rcases hu with rfl | rfl | rfl <;> rfl
          case c3 => unfold maxLen; (try simp); omega
          case c4 => (try simp); omega
          case c5 => (try simp); omega
          intro v' w3 hown3 hgrow _
          have hB3 : Below w.heap.size w2 w3 := ((Below.refl w.heap.size w2).alloc hBr _).grown hgrow (by simp; omega) hne
          have hR3 : SRow w3 w.heap.size v' (good (l.take (k + 1))) := by
            unfold SRow
            rw [HG.out, List.length_append, List.flatMap_append, HNN.out]
            simpa [cells3] using hown3
          have hbb3 := hbb2.trans hB3
          have G3 := HHA.out _ hbb3
          obtain ⟨p0, p1, p2⟩ := G3
          have HR3 := Lib.hid hR3
          have HB3 := Lib.hid hbb3
          clear hown3 hgrow hR3 hB3 hR hne hbb2 hbb3
          go_wp2_with (go_at_call 19; (with_reducible refine (kb _).mono ?_); rintro e w4 ⟨rfl, hb4⟩)
          go_roundw
          case rel => exact ⟨k + 1, by omega, by omega, by go_num, by rw [← HSB.out], ⟨HR3.out.later hb4, bel_next HB3.out hb4⟩⟩
          case measure => simp [intOf]; omega
        | false =>
          have kc := fun w => checkV a 1 (Lib.hid (by unfold St.err; rw [ho]; rfl)) w
          have kb := fun w => bytes_is a ⟨#[]⟩ w (Lib.hid (by rw [St.bytes_no ho]; rfl))
          have HG := Lib.hid (show good (l.take (k + 1)) = good (l.take k) by exact good_no l k g1 (by rw [ha]; exact ho))
          have HB0 := Lib.hid P.bel
          have HHA := Lib.hid (fun w' h => HA.out.below (B := w.heap.size) (w' := w') h hbw)
          rw [hn]
          have HNN := Lib.hid hn
          clear hc ha hs0 hz0' ho hA P hn hgl
          go_wp2_with (first
            | (go_at_call 15; (with_reducible refine (kc _).mono ?_); rintro e w2 ⟨rfl, hb2⟩; have hbb2 := bel_next HB0.out hb2; have G := HHA.out _ hbb2; obtain ⟨c0, c1, c2⟩ := G)
            | (go_at_call 19; (with_reducible refine (kb _).mono ?_); rintro e w4 ⟨rfl, hb4⟩))
          go_roundw
          case rel => exact ⟨k + 1, by omega, by omega, by go_num, by rw [HG.out], ⟨by rw [HG.out, ← HNN.out]; exact (HP.out.row.later hb2).later hb4, bel_next hbb2 hb4⟩⟩
          case measure => simp [intOf]; omega
    · obtain ⟨g, hg⟩ : ∃ g, good (l.take k) = g := ⟨_, rfl⟩
      have hgok : ∀ a ∈ g, a.ok = true := by rw [← hg]; exact fun a ha => good_ok ha
      have hg12 : g.length ≤ 12 := by rw [← hg]; have := good_len l k; omega
      obtain ⟨a5, cc5, rfl⟩ := P.row.slice
      have hrow := P.row
      rw [hg] at hrow ⊢
      have hst := hrow.sts
      have hB := P.bel
      obtain ⟨s0, hs0⟩ : ∃ s, tx (bytesAll g) = s := ⟨_, rfl⟩
      rw [hs0]
      have HS0 := Lib.hid hs0
      have HST := Lib.hid hst
      have HB := Lib.hid hB
      have HOK := Lib.hid hgok
      have hg2 : ((k : Int) < (l.length : Int) ∧ ¬ (k : Int) < 12) ∨ ¬ (k : Int) < (l.length : Int) := by omega
      clear hs0 hst hB hgok hrow P hg hgo
      rcases hg2 with ⟨hg2, hg3⟩ | hg2
      · go_wp2_with (first
          | (go_at_call 11; (with_reducible refine (read_is _ _).mono ?_); rintro e w3 ⟨rfl, hA3, hb3, hz3⟩))
        have HL := Lib.hid (show LastRel w w3 wr.heap.size a5 g 0 from ⟨by rw [List.drop_zero, HS0.out]; exact hA3, HST.out.below hb3, bel_next HB.out hb3⟩)
        have hwr := HB.out.size
        clear hA3 hb3 hz3
        generalize wr.heap.size = pr at HL hwr ⊢
        go_loopw [8] (fun i wr => ∃ j : Nat, j ≤ g.length ∧ i = .int .i64 (j : Int) ∧ LastRel w wr pr a5 g j) (fun i _ => g.length - (intOf i).toNat)
        case atStart => exact ⟨0, by omega, rfl, HL.out⟩
        case round =>
          obtain ⟨j, hj, rfl, LR⟩ := hrel
          clear HL
          by_cases hjn : j < g.length
          · have hj2 : (j : Int) < (g.length : Int) := by omega
            rcases LR.st.at_ with e0 | ⟨b5, off5, rfl, hb5, hc5⟩
            · exact absurd hjn (by rw [e0]; simp)
            · have hO := hc5 j hjn
              have e1 := bytesAll_drop g j hjn
              have hao := HOK.out _ (List.getElem_mem hjn)
              obtain ⟨a, ha⟩ : ∃ a, g[j] = a := ⟨_, rfl⟩
              rw [ha] at hO e1 hao
              have hz : (tx (bytesAll (g.drop j))).size ≤ 100000 := by
                rw [tx_size]
                have h1 := bytesAll_len (g.drop j)
                rw [List.length_drop] at h1; omega
              have t1 := fun w hA => take_is pr (tx (bytesAll (g.drop j))) (tx (bytesAll (g.drop (j + 1)))) false false a w hz (Lib.hid (by rw [e1]; exact takeQ_enc a _ hao)) (fun e => (by cases e)) hA
              have hRd := LR.ra.below ((Below.refl wr.heap.size wr).drew)
              have hSd := LR.st.below (w' := wr.drew) (Below.drew (Below.refl pr wr))
              have q3 := neq_self a
              have hbne : b5 ≠ pr := by omega
              obtain ⟨x0, x1, x2⟩ := hO
              have hO : StO wr b5 (off5 + j * 3) a := ⟨x0, x1, x2⟩
              clear hc5 e1 hao ha hz
              go_wp2_with fail
              refine wp_region_held_drew (S := (HeldO w b5 (off5 + j * 3) a)) (by kernel_rfl) (HeldO.drew ⟨hO, LR.bel⟩) (fun hHeld => ?_)
              refine wpAnyH_take (i := 0) (oi := ?oa1o) (v := ?oa1v) ?oa1h (by kernel_rfl) (by kernel_rfl) (by kernel_rfl) ?oa1q ?oa1y hHeld ?oa1r
              case oa1h => (simp only [List.getElem?_toArray, List.getElem?_cons_zero]; rfl)
              case oa1q => exact fun _ _ _ h => h
              case oa1y => (refine Or.inl ⟨by first | kernel_rfl | rfl, ?_⟩; intro w hSw; (try dsimp only at hSw); obtain ⟨⟨x0, x1, x2⟩, -⟩ := hSw; go_simp <;> (try with_reducible rfl))
              try simp only [Act.put, List.setIfInBounds_toArray, List.set_cons_zero, List.set_cons_succ]
              refine wpAnyH_take (i := 2) (oi := ?oa2o) (v := ?oa2v) ?oa2h (by kernel_rfl) (by kernel_rfl) (by kernel_rfl) ?oa2q ?oa2y hHeld ?oa2r
              case oa2h => (simp only [List.getElem?_toArray, List.getElem?_cons_succ, List.getElem?_cons_zero]; rfl)
              case oa2q => exact fun _ _ _ h => h
              case oa2y => (refine Or.inl ⟨by first | kernel_rfl | rfl, ?_⟩; intro w hSw; (try dsimp only at hSw); obtain ⟨⟨x0, x1, x2⟩, -⟩ := hSw; go_simp <;> (try with_reducible rfl))
              try simp only [Act.put, List.setIfInBounds_toArray, List.set_cons_zero, List.set_cons_succ]
              refine wpAnyH_take (i := 3) (oi := ?oa3o) (v := ?oa3v) ?oa3h (by kernel_rfl) (by kernel_rfl) (by kernel_rfl) ?oa3q ?oa3y hHeld ?oa3r
              case oa3h => (simp only [List.getElem?_toArray, List.getElem?_cons_succ, List.getElem?_cons_zero]; rfl)
              case oa3q => exact fun _ _ _ h => h
              case oa3y => (refine Or.inl ⟨by first | kernel_rfl | rfl, ?_⟩; intro w hSw; (try dsimp only at hSw); obtain ⟨⟨x0, x1, x2⟩, -⟩ := hSw; go_simp <;> (try with_reducible rfl))
              try simp only [Act.put, List.setIfInBounds_toArray, List.set_cons_zero, List.set_cons_succ]
              refine wpAnyH_take (i := 4) (oi := ?oa4o) (v := ?oa4v) ?oa4h (by kernel_rfl) (by kernel_rfl) (by kernel_rfl) ?oa4q ?oa4y hHeld ?oa4r
              case oa4h => (simp only [List.getElem?_toArray, List.getElem?_cons_succ, List.getElem?_cons_zero]; rfl)
              case oa4q => exact fun _ _ _ h => h
              case oa4y => (refine Or.inl ⟨by first | kernel_rfl | rfl, ?_⟩; intro w hSw; (try dsimp only at hSw); obtain ⟨⟨x0, x1, x2⟩, -⟩ := hSw; go_simp <;> (try with_reducible rfl))
              try simp only [Act.put, List.setIfInBounds_toArray, List.set_cons_zero, List.set_cons_succ]
              refine wpAnyH_take (i := 5) (oi := ?oa5o) (v := ?oa5v) ?oa5h (by kernel_rfl) (by kernel_rfl) (by kernel_rfl) ?oa5q ?oa5y hHeld ?oa5r
              case oa5h => (simp only [List.getElem?_toArray, List.getElem?_cons_succ, List.getElem?_cons_zero]; rfl)
              case oa5q => exact fun _ _ _ h => h
              case oa5y => (refine Or.inl ⟨by first | kernel_rfl | rfl, ?_⟩; intro w hSw; (try dsimp only at hSw); obtain ⟨⟨x0, x1, x2⟩, -⟩ := hSw; go_simp <;> (try with_reducible rfl))
              try simp only [Act.put, List.setIfInBounds_toArray, List.set_cons_zero, List.set_cons_succ]
              refine wpAnyH_ready (rs := [1]) (by kernel_rfl) (by simp) ?_
              refine (AllReadyH.cons rfl (fun K hK => ?_) AllReadyH.nil)
              go_simp
              ((with_reducible refine (t1 _ hRd).mono ?_); rintro e w' ⟨rfl, hR2, hB2⟩; have hS2 := hSd.but hB2 (Nat.le_refl _))
              refine hK.out _ _ (hHeld.but hB2 (by omega) hwr) (fun hHeld => ?_)
              clear hK K
              try simp only [Act.put, List.setIfInBounds_toArray, List.set_cons_zero, List.set_cons_succ]
              refine wpAnyH_take (i := 6) (oi := ?oa6o) (v := ?oa6v) ?oa6h (by kernel_rfl) (by kernel_rfl) (by kernel_rfl) ?oa6q ?oa6y hHeld ?oa6r
              case oa6h => (simp only [List.getElem?_toArray, List.getElem?_cons_succ, List.getElem?_cons_zero]; rfl)
              case oa6q => exact fun _ _ _ h => h
              case oa6y => (refine Or.inl ⟨by first | kernel_rfl | rfl, ?_⟩; intro w hSw; (try dsimp only at hSw); obtain ⟨⟨x0, x1, x2⟩, -⟩ := hSw; go_simp <;> (try with_reducible rfl))
              try simp only [Act.put, List.setIfInBounds_toArray, List.set_cons_zero, List.set_cons_succ]
              refine wpAnyH_done (by kernel_rfl) ?_ _
              have hbel := Lib.hid hHeld.bel
              have HN := Lib.hid (show LastRel w w' pr (some ⟨b5, off5, none⟩) g (j + 1) from ⟨hR2, hS2, hHeld.bel⟩)
              clear hR2 hB2 hS2 hHeld
              go_wp2
              go_roundw
              case rel => exact ⟨j + 1, by omega, by go_num, HN.out⟩
              case measure => simp [intOf]; omega
          · obtain rfl : j = g.length := by omega
            have hj2 : ¬ (g.length : Int) < (g.length : Int) := by omega
            have hA0 := LR.ra
            rw [List.drop_length] at hA0
            have hA0 : RA wr pr (tx []) false := hA0
            have t1 := fun w hA => take_is pr (tx []) ⟨#[]⟩ false true ⟨0, 0, 0⟩ w (by decide) (Lib.hid takeQ_nil) (fun e => (by cases e)) hA
            have n1 := fun w hA => end_b pr (tx []) false 0 w hA (Lib.hid rfl)
            have n2 := fun w hA => end_b pr ⟨#[]⟩ true 10 w hA (Lib.hid rfl)
            simp only at t1
            have hB0 := LR.bel
            clear LR hjn hj
            go_wp2_with (first
              | (go_at_call 44; (with_reducible refine (n1 _ hA0).mono ?_); rintro e wx ⟨rfl, rfl⟩)
              | (go_at_call 12; (with_reducible refine (t1 _ hA0).mono ?_); rintro e w6 ⟨rfl, hA6, hB6⟩; have hA7 := hA6.below ((Below.refl _ _).alloc (Nat.le_refl _) (.cells #[.int .i64 0, .int .i64 0, .int .i64 0] 23)); have hB7 := bel_new (hB0.trans (hB6.below hwr hB0.size)) (.cells #[.int .i64 0, .int .i64 0, .int .i64 0] 23))
              | (go_at_call 44; (with_reducible refine (n2 _ hA7).mono ?_); rintro e wx ⟨rfl, rfl⟩))
            go_ret
            exact ⟨rfl, hB7⟩
      · go_wp2_with (first
          | (go_at_call 11; (with_reducible refine (read_is _ _).mono ?_); rintro e w3 ⟨rfl, hA3, hb3, hz3⟩))
        have HL := Lib.hid (show LastRel w w3 wr.heap.size a5 g 0 from ⟨by rw [List.drop_zero, HS0.out]; exact hA3, HST.out.below hb3, bel_next HB.out hb3⟩)
        have hwr := HB.out.size
        clear hA3 hb3 hz3
        generalize wr.heap.size = pr at HL hwr ⊢
        go_loopw [8] (fun i wr => ∃ j : Nat, j ≤ g.length ∧ i = .int .i64 (j : Int) ∧ LastRel w wr pr a5 g j) (fun i _ => g.length - (intOf i).toNat)
        case atStart => exact ⟨0, by omega, rfl, HL.out⟩
        case round =>
          obtain ⟨j, hj, rfl, LR⟩ := hrel
          clear HL
          by_cases hjn : j < g.length
          · have hj2 : (j : Int) < (g.length : Int) := by omega
            rcases LR.st.at_ with e0 | ⟨b5, off5, rfl, hb5, hc5⟩
            · exact absurd hjn (by rw [e0]; simp)
            · have hO := hc5 j hjn
              have e1 := bytesAll_drop g j hjn
              have hao := HOK.out _ (List.getElem_mem hjn)
              obtain ⟨a, ha⟩ : ∃ a, g[j] = a := ⟨_, rfl⟩
              rw [ha] at hO e1 hao
              have hz : (tx (bytesAll (g.drop j))).size ≤ 100000 := by
                rw [tx_size]
                have h1 := bytesAll_len (g.drop j)
                rw [List.length_drop] at h1; omega
              have t1 := fun w hA => take_is pr (tx (bytesAll (g.drop j))) (tx (bytesAll (g.drop (j + 1)))) false false a w hz (Lib.hid (by rw [e1]; exact takeQ_enc a _ hao)) (fun e => (by cases e)) hA
              have hRd := LR.ra.below ((Below.refl wr.heap.size wr).drew)
              have hSd := LR.st.below (w' := wr.drew) (Below.drew (Below.refl pr wr))
              have q3 := neq_self a
              have hbne : b5 ≠ pr := by omega
              obtain ⟨x0, x1, x2⟩ := hO
              have hO : StO wr b5 (off5 + j * 3) a := ⟨x0, x1, x2⟩
              clear hc5 e1 hao ha hz
              go_wp2_with fail
              refine wp_region_held_drew (S := (HeldO w b5 (off5 + j * 3) a)) (by kernel_rfl) (HeldO.drew ⟨hO, LR.bel⟩) (fun hHeld => ?_)
              refine wpAnyH_take (i := 0) (oi := ?ob1o) (v := ?ob1v) ?ob1h (by kernel_rfl) (by kernel_rfl) (by kernel_rfl) ?ob1q ?ob1y hHeld ?ob1r
              case ob1h => (simp only [List.getElem?_toArray, List.getElem?_cons_zero]; rfl)
              case ob1q => exact fun _ _ _ h => h
              case ob1y => (refine Or.inl ⟨by first | kernel_rfl | rfl, ?_⟩; intro w hSw; (try dsimp only at hSw); obtain ⟨⟨x0, x1, x2⟩, -⟩ := hSw; go_simp <;> (try with_reducible rfl))
              try simp only [Act.put, List.setIfInBounds_toArray, List.set_cons_zero, List.set_cons_succ]
              refine wpAnyH_take (i := 2) (oi := ?ob2o) (v := ?ob2v) ?ob2h (by kernel_rfl) (by kernel_rfl) (by kernel_rfl) ?ob2q ?ob2y hHeld ?ob2r
              case ob2h => (simp only [List.getElem?_toArray, List.getElem?_cons_succ, List.getElem?_cons_zero]; rfl)
              case ob2q => exact fun _ _ _ h => h
              case ob2y => (refine Or.inl ⟨by first | kernel_rfl | rfl, ?_⟩; intro w hSw; (try dsimp only at hSw); obtain ⟨⟨x0, x1, x2⟩, -⟩ := hSw; go_simp <;> (try with_reducible rfl))
              try simp only [Act.put, List.setIfInBounds_toArray, List.set_cons_zero, List.set_cons_succ]
              refine wpAnyH_take (i := 3) (oi := ?ob3o) (v := ?ob3v) ?ob3h (by kernel_rfl) (by kernel_rfl) (by kernel_rfl) ?ob3q ?ob3y hHeld ?ob3r
              case ob3h => (simp only [List.getElem?_toArray, List.getElem?_cons_succ, List.getElem?_cons_zero]; rfl)
              case ob3q => exact fun _ _ _ h => h
              case ob3y => (refine Or.inl ⟨by first | kernel_rfl | rfl, ?_⟩; intro w hSw; (try dsimp only at hSw); obtain ⟨⟨x0, x1, x2⟩, -⟩ := hSw; go_simp <;> (try with_reducible rfl))
              try simp only [Act.put, List.setIfInBounds_toArray, List.set_cons_zero, List.set_cons_succ]
              refine wpAnyH_take (i := 4) (oi := ?ob4o) (v := ?ob4v) ?ob4h (by kernel_rfl) (by kernel_rfl) (by kernel_rfl) ?ob4q ?ob4y hHeld ?ob4r
              case ob4h => (simp only [List.getElem?_toArray, List.getElem?_cons_succ, List.getElem?_cons_zero]; rfl)
              case ob4q => exact fun _ _ _ h => h
              case ob4y => (refine Or.inl ⟨by first | kernel_rfl | rfl, ?_⟩; intro w hSw; (try dsimp only at hSw); obtain ⟨⟨x0, x1, x2⟩, -⟩ := hSw; go_simp <;> (try with_reducible rfl))
              try simp only [Act.put, List.setIfInBounds_toArray, List.set_cons_zero, List.set_cons_succ]
              refine wpAnyH_take (i := 5) (oi := ?ob5o) (v := ?ob5v) ?ob5h (by kernel_rfl) (by kernel_rfl) (by kernel_rfl) ?ob5q ?ob5y hHeld ?ob5r
              case ob5h => (simp only [List.getElem?_toArray, List.getElem?_cons_succ, List.getElem?_cons_zero]; rfl)
              case ob5q => exact fun _ _ _ h => h
              case ob5y => (refine Or.inl ⟨by first | kernel_rfl | rfl, ?_⟩; intro w hSw; (try dsimp only at hSw); obtain ⟨⟨x0, x1, x2⟩, -⟩ := hSw; go_simp <;> (try with_reducible rfl))
              try simp only [Act.put, List.setIfInBounds_toArray, List.set_cons_zero, List.set_cons_succ]
              refine wpAnyH_ready (rs := [1]) (by kernel_rfl) (by simp) ?_
              refine (AllReadyH.cons rfl (fun K hK => ?_) AllReadyH.nil)
              go_simp
              ((with_reducible refine (t1 _ hRd).mono ?_); rintro e w' ⟨rfl, hR2, hB2⟩; have hS2 := hSd.but hB2 (Nat.le_refl _))
              refine hK.out _ _ (hHeld.but hB2 (by omega) hwr) (fun hHeld => ?_)
              clear hK K
              try simp only [Act.put, List.setIfInBounds_toArray, List.set_cons_zero, List.set_cons_succ]
              refine wpAnyH_take (i := 6) (oi := ?ob6o) (v := ?ob6v) ?ob6h (by kernel_rfl) (by kernel_rfl) (by kernel_rfl) ?ob6q ?ob6y hHeld ?ob6r
              case ob6h => (simp only [List.getElem?_toArray, List.getElem?_cons_succ, List.getElem?_cons_zero]; rfl)
              case ob6q => exact fun _ _ _ h => h
              case ob6y => (refine Or.inl ⟨by first | kernel_rfl | rfl, ?_⟩; intro w hSw; (try dsimp only at hSw); obtain ⟨⟨x0, x1, x2⟩, -⟩ := hSw; go_simp <;> (try with_reducible rfl))
              try simp only [Act.put, List.setIfInBounds_toArray, List.set_cons_zero, List.set_cons_succ]
              refine wpAnyH_done (by kernel_rfl) ?_ _
              have hbel := Lib.hid hHeld.bel
              have HN := Lib.hid (show LastRel w w' pr (some ⟨b5, off5, none⟩) g (j + 1) from ⟨hR2, hS2, hHeld.bel⟩)
              clear hR2 hB2 hS2 hHeld
              go_wp2
              go_roundw
              case rel => exact ⟨j + 1, by omega, by go_num, HN.out⟩
              case measure => simp [intOf]; omega
          · obtain rfl : j = g.length := by omega
            have hj2 : ¬ (g.length : Int) < (g.length : Int) := by omega
            have hA0 := LR.ra
            rw [List.drop_length] at hA0
            have hA0 : RA wr pr (tx []) false := hA0
            have t1 := fun w hA => take_is pr (tx []) ⟨#[]⟩ false true ⟨0, 0, 0⟩ w (by decide) (Lib.hid takeQ_nil) (fun e => (by cases e)) hA
            have n1 := fun w hA => end_b pr (tx []) false 0 w hA (Lib.hid rfl)
            have n2 := fun w hA => end_b pr ⟨#[]⟩ true 10 w hA (Lib.hid rfl)
            simp only at t1
            have hB0 := LR.bel
            clear LR hjn hj
            go_wp2_with (first
              | (go_at_call 44; (with_reducible refine (n1 _ hA0).mono ?_); rintro e wx ⟨rfl, rfl⟩)
              | (go_at_call 12; (with_reducible refine (t1 _ hA0).mono ?_); rintro e w6 ⟨rfl, hA6, hB6⟩; have hA7 := hA6.below ((Below.refl _ _).alloc (Nat.le_refl _) (.cells #[.int .i64 0, .int .i64 0, .int .i64 0] 23)); have hB7 := bel_new (hB0.trans (hB6.below hwr hB0.size)) (.cells #[.int .i64 0, .int .i64 0, .int .i64 0] 23))
              | (go_at_call 44; (with_reducible refine (n2 _ hA7).mono ?_); rintro e wx ⟨rfl, rfl⟩))
            go_ret
            exact ⟨rfl, hB7⟩

theorem walk (a0 : Option Addr) (len0 cap0 : Nat) (w : World) (h : ArgStamps w a0 len0 cap0) : Calls Try.prog 9 #[.slice a0 len0 cap0] w fun e w' => e = .returned (.bool true) ∧ Below w.heap.size w w' := by
  obtain ⟨l, rfl, h2, h3⟩ := h.has
  exact core a0 cap0 l w h2 h3
end Go.Proofs.Ytkgagedjjjaofaa.markRows
