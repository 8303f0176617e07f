/- The contract of the document's Mark. -/
import Derived.Test.YtdkenokjdiamhaaDoorWindowSet
set_option maxRecDepth 20000
namespace Go.Proofs.YtdkenokjdiamhaaDoor
open Go.RowKit

/-- What Mark leaves. -/
def MkDone (b : Nat) (v : Value) (B : List Bool) (z : Bool) (w : World) (e : Ending) (w' : World) : Prop := ∃ v', e = .returned (.bool z) ∧ BitsAt w' b v' B ∧ Moves w w' b v v'
set_option maxHeartbeats 2000000 in
theorem rmark_not (s : Sp) (x : Bool) (b : Nat) (v : Value) (B : List Bool) (w : World) (h : BitsAt w b v B) (hs : s.is = false) : Calls Tryd.prog 36 #[.pointer (some ⟨b, 0, none⟩), s.v, .bool x] w (MkDone b v B false w) := by
  have hB := (Below.refl w.heap.size w).alloc (Nat.le_refl _) (.cells #[.int .i64 s.f, .int .i64 s.t] 26)
  have hI := SpAt.new w s 26
  have ki := fun w => ris_is s false w (Lib.hid hs)
  have H := Lib.hid h
  unfold Sp.v at ki ⊢
  clear hs h
  go_enter Tryd.func36, Tryd.ntmps36
  go_wp2_with (go_at_call 20; (with_reducible refine (ki _).mono ?_); rintro e w1 ⟨rfl, hb1⟩; have hI1 := hI.below hb1; have B1 := bel_next hB hb1; obtain ⟨x0, x1⟩ := hI1)
  go_loopw [8, 9] (fun c i wr => c = .bool false ∧ i = .int .i64 s.f ∧ wr = w1) (fun _ _ _ => 0)
  case atStart => exact ⟨rfl, rfl, rfl⟩
  case round =>
    obtain ⟨rfl, rfl, rfl⟩ := hrel
    go_wp2
    go_ret
    exact ⟨v, rfl, H.out.later B1, Moves.of b v B1⟩

structure MkR (w wr : World) (d b : Nat) (s : Sp) (v v' : Value) (B : List Bool) : Prop where
  set : BitsAt wr b v' B
  at_ : SpAt wr d s
  mov : Moves w wr b v v'
  ne : v'.ownBlock ≠ some d
  db : d ≠ b
theorem MkR.next {w wr w2 : World} {d b : Nat} {s : Sp} {v v1 v2 : Value} {B C : List Bool} (R : MkR w wr d b s v v1 B) (h : BitsAt w2 b v2 C) (k : Moves wr w2 b v1 v2) : MkR w w2 d b s v v2 C :=
  ⟨h, R.at_.moves k R.db R.ne, R.mov.trans k, k.not R.ne R.at_.room, R.db⟩
def bitLen (w : World) (b : Nat) : Nat := match w.cell? ⟨b, 0, none⟩ with
  | some (.slice _ n _) => n
  | _ => 0
theorem BitsAt.len {w : World} {b : Nat} {v : Value} {B : List Bool} (h : BitsAt w b v B) : bitLen w b = B.length := by
  obtain ⟨a, c, rfl⟩ := h.row.slice
  unfold bitLen
  rw [h.cell]
theorem padB_step {B : List Bool} {n j : Nat} (hj : B.length + j < n + 1) : padB B n = (B ++ List.replicate j false) ++ List.replicate (n + 1 - (B.length + j)) false := by
  unfold padB
  rw [List.append_assoc, List.replicate_append_replicate]
  congr 2; omega
set_option maxHeartbeats 8000000 in
theorem rmark_yes (f t : Nat) (x : Bool) (b : Nat) (v : Value) (B0 : List Bool) (w : World) (h : BitsAt w b v B0) (hft : f ≤ t) (ht : t ≤ 1000) (_hl : B0.length ≤ 1000) :
    Calls Tryd.prog 36 #[.pointer (some ⟨b, 0, none⟩), (Sp.mk f t).v, .bool x] w (MkDone b v (markN x f (t - f) B0).1 (markN x f (t - f) B0).2 w) := by
  obtain ⟨i0, hi, hz0, hz1, hz2⟩ := info_parts infoBool
  obtain ⟨s, hs⟩ : ∃ s : Sp, Sp.mk f t = s := ⟨_, rfl⟩
  have hsf : s.f = f := by rw [← hs]
  have hst : s.t = t := by rw [← hs]
  have his : s.is = true := Sp.is_iff.2 (by omega)
  have hB := (Below.refl w.heap.size w).alloc (Nat.le_refl _) (.cells #[.int .i64 (f : Int), .int .i64 (t : Int)] 26)
  have hI := SpAt.new w s 26
  rw [hsf, hst] at hI
  have ki := fun w => ris_is s true w (Lib.hid his)
  have H := Lib.hid h
  rw [hs]
  unfold Sp.v at ki ⊢
  rw [hsf, hst] at ki ⊢
  have HS := Lib.hid (And.intro hsf hst)
  clear his h hs hsf hst
  go_enter Tryd.func36, Tryd.ntmps36
  go_wp2_with (go_at_call 20; (with_reducible refine (ki _).mono ?_); rintro e w1 ⟨rfl, hb1⟩; have hI1 := hI.below hb1; have B1 := bel_next hB hb1; have G := hI1; obtain ⟨x0, x1⟩ := G; rw [HS.out.1] at x0; rw [HS.out.2] at x1)
  have R0 := Lib.hid (show MkR w w1 w.heap.size b s v v B0 from ⟨H.out.later B1, hI1, Moves.of b v B1, H.out.in_ (Nat.le_refl _), by have := H.out.room; omega⟩)
  clear hI hI1 hB B1 hb1 ki x0 x1
  go_loopw [8, 9] (fun c i wr => ∃ (k : Nat) (v1 : Value), f + k ≤ t ∧ i = .int .i64 ((f + k : Nat) : Int) ∧ c = .bool (markN x f k B0).2 ∧ MkR w wr w.heap.size b s v v1 (markN x f k B0).1) (fun _ i _ => t - (intOf i).toNat)
  case atStart => exact ⟨0, v, by omega, rfl, rfl, R0.out⟩
  case round =>
    obtain ⟨k, v1, hk, rfl, rfl, R⟩ := hrel
    clear R0
    obtain ⟨wo, hwo⟩ : ∃ y, y = wr := ⟨_, rfl⟩
    subst hwo
    obtain ⟨n, hn⟩ : ∃ n, f + k = n := ⟨_, rfl⟩
    obtain ⟨p, hp⟩ : ∃ p, markN x f k B0 = p := ⟨_, rfl⟩
    have hpl := markN_length x f k B0
    have HN := Lib.hid (show markN x f (k + 1) B0 = ((padB p.1 n).set n x, p.2 || (padB p.1 n).getD n false != x) by simp only [markN]; rw [hn, hp])
    rw [hp, hn] at hpl
    rw [hn] at hk ⊢
    rw [hp] at R ⊢
    obtain ⟨C, ch⟩ := p
    simp only at R hpl HN ⊢
    obtain ⟨x0, x1⟩ := R.at_
    rw [HS.out.1] at x0
    rw [HS.out.2] at x1
    by_cases hlt : n < t
    · have hlti : (n : Int) < (t : Int) := by omega
      have HP := Lib.hid hp
      clear hp
      have RO := Lib.hid R
      go_wp2_with fail
      clear x0 x1 R
      go_loopw [] (fun wr => ∃ (j : Nat) (v2 : Value), C.length + j ≤ max C.length (n + 1) ∧ MkR w wr w.heap.size b s v v2 (C ++ List.replicate j false)) (fun wr => n + 1 - bitLen wr b)
      case atStart => exact ⟨0, v1, by omega, by rw [List.replicate_zero, List.append_nil]; exact RO.out⟩
      case round =>
        obtain ⟨j, v2, hj, Q⟩ := hrel
        clear RO
        obtain ⟨L, hL⟩ : ∃ L, C.length + j = L := ⟨_, rfl⟩
        have hDl : (C ++ List.replicate j false).length = L := by simp; omega
        have hrow := Q.set.row
        have hcell := Q.set.cell
        have hfree := Q.set.free
        have hroom := Q.set.room
        unfold BRow at hrow
        rw [hDl] at hrow
        by_cases hm : L ≤ n
        · have hmi : (L : Int) ≤ (n : Int) := by omega
          obtain ⟨a2, c2, rfl⟩ : ∃ a2 c2, v2 = .slice a2 L c2 := by
            have := Q.set.row.slice; rw [hDl] at this; exact this
          have HQ := Lib.hid Q
          have HDL := Lib.hid hDl
          have HLL := Lib.hid hL
          clear Q hDl hL
          go_wp2_with (first
            | (at_builtin; refine wpList_append_own_at _ rfl _ _ 47 rfl (b + 1) 4 i0 (.bool false) 1 1 Tryd.underlying47 hi hz0 hz1 hz2 rfl (by decide) _ _ _ rfl (hrow.alloc _) ⟨wr.heap.size, 0, none⟩ 1 1 [.bool false] rfl rfl ?c1 ?c2 ?c3 ?c4 ?c5 ?_))
          case c1 => exact cell_one_new _ _ _
          case c2 => intro u hu; simp at hu; subst hu; rfl
          case c3 => unfold maxLen; omega
          case c4 => omega
          case c5 => (try simp); omega
          intro v' w3 hown hgrow _ h4
          have M := HQ.out.set.more (by rw [HDL.out]; simpa using hown) hgrow (by simpa using h4)
          obtain ⟨⟨hc3, hf3⟩, S, MV⟩ := M
          rw [List.append_assoc, ← List.replicate_succ'] at S
          obtain ⟨a3, c3, hv3⟩ := S.row.slice
          rw [show (C ++ List.replicate (j + 1) false).length = L + 1 by have := HLL.out; simp; omega] at hv3
          subst hv3
          have HR := Lib.hid (HQ.out.next S MV)
          have HM := Lib.hid (show n + 1 - bitLen (w3.setCell ⟨b, 0, none⟩ (.slice a3 (L + 1) c3)) b < n + 1 - bitLen wr b by
            have h1 := HQ.out.set.len
            have h2 := S.len
            rw [h1, h2]; have := HLL.out; simp; omega)
          clear hown hgrow h4 S MV hrow hcell hfree HQ
          go_wp2
          go_roundw
          case rel => exact ⟨j + 1, _, by have := HLL.out; omega, HR.out⟩
          case measure => exact HM.out
        · have hmi : ¬ (L : Int) ≤ (n : Int) := by omega
          have hjj : j = n + 1 - C.length := by omega
          obtain ⟨D, hD⟩ : ∃ D, padB C n = D := ⟨_, rfl⟩
          have hDD : C ++ List.replicate j false = D := by rw [← hD, hjj]; rfl
          rw [hDD] at hrow hDl Q
          rw [hD] at HN
          have hnL : n < L := by omega
          have hnLi : (n : Int) < (L : Int) := by omega
          have hnD : n < D.length := by omega
          obtain ⟨g, cap, rfl⟩ : ∃ g cap, v2 = .slice (some ⟨g, 0, none⟩) L cap := by
            rcases hrow.2 with ⟨_, h0⟩ | ⟨g, cap, cur, h1, _⟩
            · omega
            · exact ⟨g, cap, h1⟩
          obtain ⟨y, hy⟩ : ∃ y, D[n] = y := ⟨_, rfl⟩
          have hat : wr.cell? ⟨g, n, none⟩ = some (.bool y) := by
            rw [World.ownsRow.cellAt hrow n (by omega), List.getElem?_map, List.getElem?_eq_getElem hnD, hy]; rfl
          have hfz := World.ownsRow.frozenAt hrow n
          have hgd : D.getD n false = y := by rw [List.getD_eq_getElem?_getD, List.getElem?_eq_getElem hnD, hy]; rfl
          rw [hgd] at HN
          have HQ := Lib.hid Q
          have HDL := Lib.hid hDl
          have HPUT := Lib.hid (by have := Q.set; rw [← hDl] at this; have P := this.put n x; rw [hDl] at P; exact P)
          clear hm hjj hDD hrow hD hgd Q hDl
          cases hyx : (y != x) with
          | true =>
            rw [hyx] at HN
            have HR := Lib.hid (HQ.out.next HPUT.out.1 HPUT.out.2)
            have hyn : ¬ y = x := by simpa using hyx
            have hyb : (y == x) = false := by simpa using hyx
            clear HPUT HQ hyx
            go_wp2
            go_roundw
            case rel => exact ⟨k + 1, _, by omega, by go_num, by rw [HN.out]; simp, by rw [HN.out]; exact HR.out⟩
            case measure => simp [intOf]; omega
          | false =>
            rw [hyx] at HN
            have hset : D.set n x = D := by
              have : y = x := by simpa using hyx
              rw [← this, ← hy]; exact List.set_getElem_self hnD
            rw [hset] at HN
            have hye : y = x := by simpa using hyx
            clear HPUT hset hyx
            subst hye
            go_wp2
            go_roundw
            case rel => exact ⟨k + 1, _, by omega, by go_num, by rw [HN.out]; simp, by rw [HN.out]; exact HQ.out⟩
            case measure => simp [intOf]; omega
    · have hend : t - f = k := by omega
      have hlti : ¬ (n : Int) < (t : Int) := by omega
      have HP := Lib.hid (show markN x f (t - f) B0 = (C, ch) by rw [hend]; exact hp)
      have HR := Lib.hid R
      clear hp R hend hlt
      go_wp2
      go_ret
      exact ⟨v1, by rw [HP.out]; rfl, by rw [HP.out]; exact HR.out.set, HR.out.mov⟩
theorem rmark_is (s : Sp) (x : Bool) (b : Nat) (v : Value) (B : List Bool) (w : World) (h : BitsAt w b v B) (hl : B.length ≤ 1000) (hs : s.is = true → s.t ≤ 1000) :
    Calls Tryd.prog 36 #[.pointer (some ⟨b, 0, none⟩), s.v, .bool x] w (MkDone b v (markB B s x).1 (markB B s x).2 w) := by
  cases hi : s.is with
  | false =>
    have e : markB B s x = (B, false) := by unfold markB; rw [hi, if_neg (by simp)]
    rw [e]
    exact rmark_not s x b v B w h hi
  | true =>
    have e : markB B s x = markN x s.f.toNat (s.t - s.f).toNat B := by unfold markB; rw [if_pos hi]
    have hp := Sp.is_iff.1 hi
    have ht := hs hi
    rw [e]
    have e1 : (Sp.mk (s.f.toNat : Int) (s.t.toNat : Int)) = s := by
      obtain ⟨f, t⟩ := s
      simp only at hp ht ⊢
      rw [Int.toNat_of_nonneg (by omega), Int.toNat_of_nonneg (by omega)]
    have e2 : (s.t - s.f).toNat = s.t.toNat - s.f.toNat := by omega
    have := rmark_yes s.f.toNat s.t.toNat x b v B w h (by omega) (by omega) hl
    rw [e1] at this
    rw [e2]
    exact this
end Go.Proofs.YtdkenokjdiamhaaDoor
