/- Cuts of lists of points. -/
import Derived.Test.YtolmhlfegllfoaaBlockRow
set_option maxRecDepth 20000
namespace Go.Proofs.Ytolmhlfegllfoaa
open Go.RowKit Go.Proofs.Ytolmhlfegllfoaa.Vi Go.Proofs.Ytolmhlfegllfoaa.Mk

theorem undPT : Try.prog.underlying PTT = some (.slice 31) := Try.underlying36
theorem sizePT (w : World) : (sizeOf (Try.prog.elem PTT)).run Try.prog w = .ok 6 w := by kernel_rfl
/-- What a cut of a list is. -/
def cutP (a : Option Addr) (lo c : Nat) : Option Addr := if c = lo then a else a.map (·.add (lo * 6))
theorem Lst.cut {w : World} {B c lo hi : Nat} {a : Option Addr} {l : List Pt} (h : Lst w B a c l) (h1 : lo ≤ hi) (h2 : hi ≤ l.length) : Lst w B (cutP a lo c) (c - lo) ((l.take hi).drop lo) := by
  have hc := h.cap
  refine ⟨⟨?_⟩, by rw [List.length_drop, List.length_take]; omega, fun k => ?_⟩
  · by_cases e : lo = hi
    · subst e; exact Or.inl (by simp)
    · have hne : ¬ c = lo := by omega
      rcases h.pts.at_ with rfl | ⟨b, o, rfl, hb, hp⟩
      · simp at h2; omega
      · refine Or.inr ⟨b, o + lo * 6, by unfold cutP; rw [if_neg hne]; simp [pt_add], hb, ?_⟩
        refine Pts.drop (fun j hj => ?_) lo
        rw [List.getElem_take]
        exact hp j (by rw [List.length_take] at hj; omega)
  · have := h.no
    unfold cutP at k
    split at k
    · have := this k; omega
    · have := this (by cases a <;> simp_all); omega
theorem cut_mid (x : Option Addr) (n c i j : Nat) (zi zj : Int) (hzi : zi = (i : Int)) (hzj : zj = (j : Int)) (h : i ≤ j) (hc : j ≤ c) : ∀ w, (Instr.slice PTT (.slice x n c) (some (.int .i64 zi)) (some (.int .i64 zj)) none).run Try.prog w = .ok (.slice (cutP x i c) (j - i) (c - i)) w := by
  intro w
  rw [run_slice_lh (P := Try.prog) w PTT _ n c undPT .i64 .i64 zi zj (by omega) (by omega) (by omega), sizePT w, hzi, hzj, Int.toNat_natCast, Int.toNat_natCast]; rfl
theorem cut_from (x : Option Addr) (n c i : Nat) (zi : Int) (hzi : zi = (i : Int)) (h : i ≤ n) : ∀ w, (Instr.slice PTT (.slice x n c) (some (.int .i64 zi)) none none).run Try.prog w = .ok (.slice (cutP x i c) (n - i) (c - i)) w := by
  intro w
  rw [run_slice_l (P := Try.prog) w PTT _ n c undPT .i64 zi (by omega) (by omega), sizePT w, hzi, Int.toNat_natCast]; rfl
theorem cut_to (x : Option Addr) (n c j : Nat) (zj : Int) (hzj : zj = (j : Int)) (hc : j ≤ c) : ∀ w, (Instr.slice PTT (.slice x n c) none (some (.int .i64 zj)) none).run Try.prog w = .ok (.slice (cutP x 0 c) j c) w := by
  intro w
  rw [run_slice_h (P := Try.prog) w PTT _ n c undPT .i64 zj (by omega) (by omega), sizePT w, hzj, Int.toNat_natCast]; rfl
theorem at_mid (x : Option Addr) (n c i j : Nat) (zi zj : Int) (hzi : zi = (i : Int)) (hzj : zj = (j : Int)) (h : i ≤ j) (hc : j ≤ c) : ∀ w, (Instr.sliceAt PTT (.slice x n c) (some (.int .i64 zi)) (some (.int .i64 zj)) none).run Try.prog w = .ok (.slice (cutP x i c) (j - i) (c - i)) w := by
  intro w; rw [run_sliceAt_slice (P := Try.prog) w PTT _ _ _ _ undPT]; exact cut_mid x n c i j zi zj hzi hzj h hc w
theorem at_from (x : Option Addr) (n c i : Nat) (zi : Int) (hzi : zi = (i : Int)) (h : i ≤ n) : ∀ w, (Instr.sliceAt PTT (.slice x n c) (some (.int .i64 zi)) none none).run Try.prog w = .ok (.slice (cutP x i c) (n - i) (c - i)) w := by
  intro w; rw [run_sliceAt_slice (P := Try.prog) w PTT _ _ _ _ undPT]; exact cut_from x n c i zi hzi h w
theorem at_to (x : Option Addr) (n c j : Nat) (zj : Int) (hzj : zj = (j : Int)) (hc : j ≤ c) : ∀ w, (Instr.sliceAt PTT (.slice x n c) none (some (.int .i64 zj)) none).run Try.prog w = .ok (.slice (cutP x 0 c) j c) w := by
  intro w; rw [run_sliceAt_slice (P := Try.prog) w PTT _ _ _ _ undPT]; exact cut_to x n c j zj hzj hc w
theorem Lst.from_ {w : World} {B c lo : Nat} {a : Option Addr} {l : List Pt} (h : Lst w B a c l) (h1 : lo ≤ l.length) : Lst w B (cutP a lo c) (c - lo) (l.drop lo) := by
  have := h.cut h1 (Nat.le_refl _); rwa [List.take_length] at this
theorem Lst.to_ {w : World} {B c hi : Nat} {a : Option Addr} {l : List Pt} (h : Lst w B a c l) (h1 : hi ≤ l.length) : Lst w B (cutP a 0 c) c (l.take hi) := by
  have := h.cut (Nat.zero_le hi) h1; simpa using this
theorem cutP_zero (a : Option Addr) (c : Nat) : cutP a 0 c = a := by
  unfold cutP
  have z : ∀ q : Addr, q.add 0 = q := fun q => by unfold Addr.add; split <;> simp_all
  split
  · rfl
  · cases a <;> simp [z]
theorem at_to0 (x : Option Addr) (n c j : Nat) (zj : Int) (hzj : zj = (j : Int)) (hc : j ≤ c) : ∀ w, (Instr.sliceAt PTT (.slice x n c) none (some (.int .i64 zj)) none).run Try.prog w = .ok (.slice x j c) w := by
  intro w; rw [at_to x n c j zj hzj hc w, cutP_zero]
theorem cut_to0 (x : Option Addr) (n c j : Nat) (zj : Int) (hzj : zj = (j : Int)) (hc : j ≤ c) : ∀ w, (Instr.slice PTT (.slice x n c) none (some (.int .i64 zj)) none).run Try.prog w = .ok (.slice x j c) w := by
  intro w; rw [cut_to x n c j zj hzj hc w, cutP_zero]
theorem PRow.base {w : World} {B B' : Nat} {v : Value} {xs : List Pt} (h : PRow w B v xs) (k : B' ≤ B) : PRow w B' v xs := by
  obtain ⟨h1, h2⟩ := h
  refine ⟨h1, ?_⟩
  rcases h2 with h2 | ⟨g, cap, cur, e1, e2, rest⟩
  · exact Or.inl h2
  · exact Or.inr ⟨g, cap, cur, e1, by omega, rest⟩
end Go.Proofs.Ytolmhlfegllfoaa
