/- slices.Equal at spans; the set's replace. -/
import Derived.Test.YtdkenokjdiamhaaDoorWindowTouched
import Derived.Test.YtdkenokjdiamhaaDoorWindowReplace
set_option maxRecDepth 20000
namespace Go.Proofs.YtdkenokjdiamhaaDoor
open Go.RowKit Go.Lib

set_option maxHeartbeats 2000000 in
theorem equal_is (a0 b0 : Option Addr) (ca cb na nb : Nat) (a b : List Sp) (z : Bool) (w : World) (hna : Hid (a.length = na)) (hnb : Hid (b.length = nb)) (ha : Sps w w.heap.size a0 a) (hb : Sps w w.heap.size b0 b) (hla : na ≤ 1000000) (hlb : nb ≤ 1000000) (H : Hid (decide (a = b) = z)) :
    Calls Tryd.prog 60 #[.slice a0 na ca, .slice b0 nb cb] w fun e w' => e = .returned (.bool z) ∧ Below w.heap.size w w' := by
  by_cases hl : na = nb
  · subst hl
    have hln : ((na : Int) != (na : Int)) = false := by simp
    have HA := Lib.hid ha
    have HB := Lib.hid hb
    clear ha hb
    go_enter Tryd.func60, Tryd.ntmps60
    go_wp2
    go_loopw [13] (fun i wr => ∃ (k : Nat), k ≤ na ∧ i = .int .i64 (k : Int) ∧ Below w.heap.size w wr ∧ Hid (∀ j (h1 : j < a.length) (h2 : j < b.length), j < k → a[j] = b[j])) (fun i _ => na - (intOf i).toNat)
    case atStart => exact ⟨0, by omega, rfl, Below.refl _ _, Lib.hid fun j _ _ hj => absurd hj (Nat.not_lt_zero _)⟩
    case round =>
      obtain ⟨k, hk, rfl, hB, hall⟩ := hrel
      by_cases hlt : k < na
      · have hlti : (k : Int) < (na : Int) := by omega
        have hka : k < a.length := by rw [hna.out]; exact hlt
        have hkb : k < b.length := by rw [hnb.out]; exact hlt
        have hwk : IntKind.i64.wrap ((k : Int) + 1) = (k : Int) + 1 := by rw [IntKind.wrap_i64]; omega
        rcases HA.out.at_ with rfl | ⟨p, o, rfl, hpw, hc⟩
        · simp at hka
        · rcases HB.out.at_ with rfl | ⟨p2, o2, rfl, hpw2, hc2⟩
          · simp at hkb
          · obtain ⟨x, hx⟩ : ∃ x, a[k] = x := ⟨_, rfl⟩
            obtain ⟨y, hy⟩ : ∃ y, b[k] = y := ⟨_, rfl⟩
            have g1 := hc k hka
            have g2 := hc2 k hkb
            rw [hx] at g1
            rw [hy] at g2
            have qn := fun w => sp_neq x y w
            have HNO := Lib.hid (fun (h : x.same y = false) => show false = z by
              rw [← H.out]; symm; apply decide_eq_false
              intro he; subst he
              rw [hx] at hy; rw [Sp.same_iff.2 hy] at h; cases h)
            have HGO := Lib.hid (fun (h : x.same y = true) => show ∀ j (h1 : j < a.length) (h2 : j < b.length), j < k + 1 → a[j] = b[j] from fun j h1 h2 hj => by
              by_cases e : j = k
              · subst e; rw [hx, hy]; exact Sp.same_iff.1 h
              · exact hall.out j h1 h2 (by omega))
            obtain ⟨c0, c1⟩ := g1.below hB hpw
            obtain ⟨d0, d1⟩ := g2.below hB hpw2
            clear g1 g2 hc hc2 hall hx hy hka hkb
            cases hs : x.same y with
            | true =>
              rw [hs] at qn
              have HH := Lib.hid (HGO.out hs)
              clear HGO HNO hs
              go_wp2_with fail
              go_quiet (fail)
              go_wp2
              go_roundw
              case rel => exact ⟨k + 1, by omega, by go_num, by first | exact hB | exact hB.drew | exact below_drewN hB _, HH⟩
              case measure => simp [intOf]; omega
            | false =>
              rw [hs] at qn
              have HH := Lib.hid (HNO.out hs)
              clear HGO HNO hs
              go_wp2_with fail
              go_quiet (fail)
              go_wp2
              go_ret
              exact ⟨by rw [← HH.out]; rfl, by first | exact hB | exact hB.drew | exact below_drewN hB _⟩
      · have hlti : ¬ (k : Int) < (na : Int) := by omega
        have HH := Lib.hid (show true = z by
          rw [← H.out]; symm; apply decide_eq_true
          exact List.ext_getElem (hna.out.trans hnb.out.symm) fun j h1 h2 => hall.out j h1 h2 (by rw [hna.out] at h1; omega))
        go_wp2
        go_ret
        exact ⟨by rw [← HH.out]; rfl, hB⟩
  · have hli : ((na : Int) == (nb : Int)) = false := by rw [beq_eq_false_iff_ne]; omega
    have hln : ((na : Int) != (nb : Int)) = true := by simp [bne, hli]
    have HH := Lib.hid (show false = z by rw [← H.out]; symm; apply decide_eq_false; intro he; exact hl (by rw [← hna.out, ← hnb.out, he]))
    clear hl
    go_enter Tryd.func60, Tryd.ntmps60
    go_wp2
    go_ret
    exact ⟨by rw [← HH.out]; rfl, Below.refl _ _⟩

/-- Are the spans others than ahead? -/
def changed (T L : List Sp) : Bool := decide (T ≠ L)
/-- What a call of the set leaves. -/
def PutDone (b : Nat) (v : Value) (L T : List Sp) (w : World) (e : Ending) (w' : World) : Prop :=
  ∃ v', e = .returned (.bool (changed T L)) ∧ SetAt w' b v' T ∧ Moves w w' b v v'
theorem Sps.mid {w : World} {B g off c : Nat} {L : List Sp} (h : ∀ j (h : j < L.length), SpO w g (off + j * 2) L[j]) (hg : g < B) (i j : Nat) (hij : i ≤ j) (hj : j ≤ L.length) (p : Option Addr) (hp : i < c → p = (some ⟨g, off, none⟩ : Option Addr).map (·.add (i * 2))) (hc : L.length ≤ c) : Sps w B p ((L.drop i).take (j - i)) := by
  by_cases e : i = j
  · refine ⟨Or.inl ?_⟩
    rw [e, Nat.sub_self, List.take_zero]
  · have hpe := hp (by omega)
    have ha : (⟨g, off, none⟩ : Addr).add (i * 2) = ⟨g, off + i * 2, none⟩ := by rw [Addr.add_lit]
    refine ⟨Or.inr ⟨g, off + i * 2, by rw [hpe]; simp [ha], hg, fun k hk => ?_⟩⟩
    have hk2 : k < j - i := by rw [List.length_take, List.length_drop] at hk; omega
    have := h (i + k) (by omega)
    have e2 : ((L.drop i).take (j - i))[k] = L[i + k]'(by omega) := by simp
    rw [e2, show off + i * 2 + k * 2 = off + (i + k) * 2 by omega]
    exact this
theorem mid_len (L : List Sp) (i j : Nat) (hij : i ≤ j) (hj : j ≤ L.length) : ((L.drop i).take (j - i)).length = j - i := by rw [List.length_take, List.length_drop]; omega
theorem put_same {L l : List Sp} {i j : Nat} (hij : i ≤ j) : (L.take i ++ l ++ L.drop j ≠ L) ↔ ¬ (L.drop i).take (j - i) = l := by
  have e : L = L.take i ++ (L.drop i).take (j - i) ++ L.drop j := by
    have h1 : L.drop j = (L.drop i).drop (j - i) := by rw [List.drop_drop]; congr 1; omega
    rw [List.append_assoc, h1, List.take_append_drop, List.take_append_drop]
  constructor
  · intro h hh; apply h; rw [← hh]; exact e.symm
  · intro h hh
    apply h
    have : L.take i ++ (L.drop i).take (j - i) ++ L.drop j = L.take i ++ l ++ L.drop j := by rw [hh]; exact e.symm
    rw [List.append_cancel_right_eq, List.append_cancel_left_eq] at this
    exact this

set_option maxHeartbeats 2000000 in
theorem put_is (b : Nat) (v : Value) (L l T : List Sp) (i j : Nat) (a2 : Option Addr) (m c2 : Nat) (w : World) (hS : SetAt w b v L) (hij : i ≤ j) (hj : j ≤ L.length) (hm : l.length = m) (hs : SrcOk w v.ownBlock a2 l)
    (hsz : L.length + l.length ≤ 1000000) (hT : L.take i ++ l ++ L.drop j = T) :
    Calls Tryd.prog 52 #[.pointer (some ⟨b, 0, none⟩), .int .i64 (i : Int), .int .i64 (j : Int), .slice a2 m c2] w (PutDone b v L T w) := by
  obtain ⟨a, c, rfl⟩ := hS.row.slice
  have hb := hS.room
  have hcn : L.length ≤ c := by
    rcases hS.row.2 with ⟨e, h0⟩ | ⟨g', cap', cur', e, _, _, hf, _⟩
    · omega
    · injection e with e1 e2 e3; omega
  obtain ⟨p, hpa, hp, hp'⟩ := cut_mid a L.length c i j (i : Int) (j : Int) rfl rfl hij (by omega)
  have hsp : Sps w w.heap.size a2 l := by
    rcases hs with h | ⟨b2, off2, e, _, hc, _⟩
    · exact ⟨Or.inl h⟩
    · by_cases h0 : l = []
      · exact ⟨Or.inl h0⟩
      · exact ⟨Or.inr ⟨b2, off2, e, (hc 0 (List.length_pos_iff.2 h0)).room, hc⟩⟩
  have hmid : Sps w w.heap.size p ((L.drop i).take (j - i)) := by
    rcases (hS.row.sps).at_ with h0 | ⟨g, off, e, hgw, hcells⟩
    · refine ⟨Or.inl ?_⟩
      rw [h0]; simp
    · subst e
      exact Sps.mid hcells hgw i j hij hj p hpa hcn
  have ke := fun z hz => equal_is p a2 (c - i) c2 (j - i) m _ l z w (Lib.hid (mid_len L i j hij hj)) (Lib.hid hm) hmid hsp (by omega) (by omega) (Lib.hid hz)
  have hbel := fun w' (h : Below w.heap.size w w') => hS.later h
  have c0 := hS.cell
  have f0 := hS.free
  obtain ⟨n, hn⟩ : ∃ n, L.length = n := ⟨_, rfl⟩
  by_cases hq : (L.drop i).take (j - i) = l
  · have ke := ke true (decide_eq_true hq)
    have hTL : T = L := by
      have := (put_same (l := l) (L := L) hij)
      rw [hT] at this
      exact Decidable.byContradiction fun h => (this.1 h) hq
    have HZ := Lib.hid (show false = changed T L by unfold changed; rw [hTL]; simp)
    have HB := Lib.hid (fun w' (h : Below w.heap.size w w') => show SetAt w' b (.slice a n c) T by rw [hTL, ← hn]; exact hbel w' h)
    rw [hn] at hp hp' c0 ⊢
    clear hq hTL hT hbel hS hn hs hsp hmid hpa hcn hj hsz hm
    go_enter Tryd.func52, Tryd.ntmps52
    go_wp2_with (go_at_call 60; (with_reducible refine ke.mono ?_); rintro e w1 ⟨rfl, hb1⟩)
    go_ret
    exact ⟨_, by rw [← HZ.out]; rfl, HB.out _ hb1, Moves.of _ _ hb1⟩
  · have ke := ke false (decide_eq_false hq)
    have hne : i = j → l ≠ [] := by
      intro e h
      apply hq
      rw [e, Nat.sub_self, List.take_zero, h]
    have HZ := Lib.hid (show true = changed T L by unfold changed; rw [← hT]; exact (decide_eq_true ((put_same hij).2 hq)).symm)
    have kr := fun w' (h : Below w.heap.size w w') => replace_lib (b + 1) a a2 i j c c2 L l w' (hbel w' h).row (by have := h.size; omega) (hs.grown ⟨h.os, h.tape, h.output, h.size, fun k hk _ => h.block k hk⟩) hij hj hne hsz T (Lib.hid hT)
    have HAP := Lib.hid hS.apart
    rw [hm] at kr
    rw [hn] at kr hp hp' c0 ⊢
    rw [hn] at HAP
    clear hq hT hbel hS hs hsp hmid hpa hcn hj hsz hm hne
    have HBE := Lib.hid hb
    go_enter Tryd.func52, Tryd.ntmps52
    go_wp2_with (first
      | (go_at_call 60; (with_reducible refine ke.mono ?_); rintro e w1 ⟨rfl, hb1⟩; have c1 := (hb1.cell (p := ⟨b, 0, none⟩) hb).trans c0)
      | (go_at_call 61; (with_reducible refine (kr _ hb1).mono ?_); rintro e w2 ⟨v', rfl, hrow, hgr, hft⟩; (have hk := hgr.block b (Nat.lt_of_lt_of_le hb hb1.size) HAP.out); (have c2' := (World.cell?_of_block (a := ⟨b, 0, none⟩) hk).trans c1); (have f2' : w2.frozen? ⟨b, 0, none⟩ = false := (World.frozen?_of_block (a := ⟨b, 0, none⟩) hk).trans ((hb1.frozen (p := ⟨b, 0, none⟩) hb).trans f0)); obtain ⟨a', c', rfl⟩ := hrow.slice; have HROW := Lib.hid hrow; clear hrow hk))
    go_ret
    have hsize := hgr.size
    have hsize1 := hb1.size
    refine ⟨_, by rw [← HZ.out]; rfl, ⟨World.cell?_setCell_same _ _ _ c2', by simp [go_sem, f2'], ownsRow_setCell_below HROW.out (Nat.lt_succ_self b) _⟩, ⟨hgr.os.trans hb1.os, hgr.tape.trans hb1.tape, hgr.output.trans hb1.output, by simp; omega, fun k hk h1 h2 => ?_, ?_⟩⟩
    · rw [Below.heap_setCell _ _ _ _ h1, hgr.block k (by omega) h2, hb1.block k hk]
    · rcases hft with h | ⟨k, h, hk⟩
      · exact Or.inl h
      · exact Or.inr ⟨k, h, by omega⟩
end Go.Proofs.YtdkenokjdiamhaaDoor
