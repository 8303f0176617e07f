/- Joined: WalMany, WalCuts, WalReads, WalCrashed, WalRolls, WalCkpts, WalRollMath, WalRollsAid, WalRollsWalk. -/
import Derived.Test.YteijmjbiaffcmaaGreatDoorWalH
import Derived.Test.YteijmjbiaffcmaaGreatDoorWalCkpt
import Derived.Laws.MakeOwn
import Derived.Laws.OwnMore
import Derived.Deep.CutRange
import Derived.Deep.CutBlock
/- A folder of several segments whose power stays: what is appended, synced, begun, left by a crash. -/
set_option maxRecDepth 20000
set_option linter.unusedSimpArgs false
set_option linter.unusedVariables false
namespace Go.Proofs.YteijmjbiaffcmaaGreatDoor
open Go.RowKit Go.Maps Go.Shelf Go.Proofs.YteijmjbiaffcmaaGreatDoor.Vi Go.Proofs.YteijmjbiaffcmaaGreatDoor.Crc Go.Proofs.YteijmjbiaffcmaaGreatDoor.Fr Go.Proofs.YteijmjbiaffcmaaGreatDoor.Fi

/-- A segment: its number, its file, the bytes, how many are firm. -/
structure Sg where
  n : Nat
  q : Nat
  s : ByteArray
  k : Nat
def nq (g : Sg) : Nm × Nat := (seg g.n, g.q)
def Rise (G : List Sg) : Prop := G.Pairwise fun a b => a.n < b.n ∧ a.q ≠ b.q
theorem seg_bef : ∀ a b : Fin 64, a.val < b.val → bytesBefore (seg a.val) (seg b.val) = true ∧ bytesBefore (seg b.val) (seg a.val) = false := by decide +kernel
theorem seg_bef' {a b : Nat} (h : a < b) (hb : b < 64) : bytesBefore (seg a) (seg b) = true ∧ bytesBefore (seg b) (seg a) = false := seg_bef ⟨a, by omega⟩ ⟨b, hb⟩ h
theorem seg_ne {a b : Nat} (h : a ≠ b) (ha : 1 ≤ a ∧ a ≤ 60) (hb : 1 ≤ b ∧ b ≤ 60) : ¬ seg a = seg b := fun e => h (seg_inj ⟨ha.1, by omega⟩ ⟨hb.1, by omega⟩ e)
/-- A folder of segments. -/
structure Fold (S : FS) (r : Int) (G : List Sg) : Prop where
  room : S.room = r
  now : S.now = G.map nq
  firm : S.firm = S.now
  chg : S.chg = []
  on : S.on = true
  ar : S.armed = false
  num : ∀ g ∈ G, 1 ≤ g.n ∧ g.n ≤ 60
  rise : Rise G
  fil : ∀ g ∈ G, filQ S.fil g.q = some ⟨g.q, g.s, g.k⟩
theorem look_in : ∀ {G : List Sg}, Rise G → (∀ g ∈ G, 1 ≤ g.n ∧ g.n ≤ 60) → ∀ {g : Sg}, g ∈ G → Fi.look (G.map nq) (seg g.n) = some g.q
  | [], _, _, g, hg => absurd hg List.not_mem_nil
  | a :: G, hr, hn, g, hg => by
    unfold Fi.look
    rw [List.map_cons, List.find?_cons]
    rcases List.mem_cons.1 hg with rfl | hg'
    · have : ((nq g).1 == seg g.n) = true := by simp [nq]
      rw [this]; rfl
    · have h1 := (List.pairwise_cons.1 hr).1 g hg'
      have : ((nq a).1 == seg g.n) = false := by
        rw [beq_eq_false_iff_ne]
        exact seg_ne (by omega) (hn a List.mem_cons_self) (hn g hg)
      rw [this]
      exact look_in (List.pairwise_cons.1 hr).2 (fun x hx => hn x (List.mem_cons_of_mem _ hx)) hg'
theorem look_out : ∀ {G : List Sg}, (∀ g ∈ G, 1 ≤ g.n ∧ g.n ≤ 60) → ∀ {n : Nat}, 1 ≤ n ∧ n ≤ 60 → (∀ g ∈ G, g.n ≠ n) → Fi.look (G.map nq) (seg n) = none
  | [], _, n, _, _ => rfl
  | a :: G, hn, n, h, hne => by
    unfold Fi.look
    rw [List.map_cons, List.find?_cons]
    have : ((nq a).1 == seg n) = false := by
      rw [beq_eq_false_iff_ne]
      exact seg_ne (hne a List.mem_cons_self) (hn a List.mem_cons_self) h
    rw [this]
    exact look_out (fun x hx => hn x (List.mem_cons_of_mem _ hx)) h (fun x hx => hne x (List.mem_cons_of_mem _ hx))
theorem rise_srt {G : List Sg} (hr : Rise G) (hn : ∀ g ∈ G, 1 ≤ g.n ∧ g.n ≤ 60) : Srt (G.map nq) := by
  unfold Srt
  rw [List.pairwise_map]
  refine List.Pairwise.imp_of_mem ?_ hr
  intro a b ha hb h
  exact (seg_bef' h.1 (by have := hn b hb; omega)).1
theorem Fold.quiet {S : FS} {r : Int} {G : List Sg} (h : Fold S r G) : Quiet S := ⟨h.on, h.ar, by rw [h.now]; exact rise_srt h.rise h.num⟩
theorem Fold.look {S : FS} {r : Int} {G : List Sg} (h : Fold S r G) {g : Sg} (hg : g ∈ G) : Fi.look S.now (nm (tx (seg g.n))) = some g.q := by
  rw [nm_tx, h.now]; exact look_in h.rise h.num hg
theorem Fold.nums {S : FS} {r : Int} {G : List Sg} (h : Fold S r G) : numsS S = G.map (·.n) := by
  unfold numsS numsL
  rw [h.now, List.map_map, List.filterMap_map]
  have hn := h.num
  clear h
  induction G with
  | nil => rfl
  | cons a G ih =>
    rw [List.filterMap_cons, List.map_cons, ih (fun g hg => hn g (List.mem_cons_of_mem _ hg))]
    have ha := hn a List.mem_cons_self
    have : (numN ∘ (fun x : Nm × Nat => x.1) ∘ nq) a = some a.n := numN_seg ha.1 (by omega)
    rw [this]
theorem Fold.used {S : FS} {r : Int} {G : List Sg} (h : Fold S r G) : usedS S = (G.map (·.s.size)).sum := by
  unfold usedS
  rw [h.now, List.map_map]
  congr 1
  refine List.map_congr_left fun g hg => ?_
  show szQ S.fil g.q = _
  unfold szQ
  rw [h.fil g hg]
theorem Fold.text {S : FS} {r : Int} {G : List Sg} (h : Fold S r G) {g : Sg} (hg : g ∈ G) : textS S g.n = g.s := by
  unfold textS
  rw [read_q h.quiet seg_ok (h.look hg) (h.fil g hg)]
theorem Fold.sync {S : FS} {r : Int} {G : List Sg} (h : Fold S r G) {g : Sg} (hg : g ∈ G) : syncS S (tx (seg g.n)) = (0, updS S g.q g.s g.s.size) := sync_q h.quiet seg_ok (h.look hg) (h.fil g hg)
theorem rise_uniq {G : List Sg} (hr : Rise G) {a b : Sg} (ha : a ∈ G) (hb : b ∈ G) (h : a.n = b.n) : a = b := by
  induction G with
  | nil => exact absurd ha List.not_mem_nil
  | cons x G ih =>
    obtain ⟨h1, h2⟩ := List.pairwise_cons.1 hr
    rcases List.mem_cons.1 ha with rfl | ha' <;> rcases List.mem_cons.1 hb with rfl | hb'
    · rfl
    · have := (h1 b hb').1; omega
    · have := (h1 a ha').1; omega
    · exact ih h2 ha' hb'
theorem rise_q {G : List Sg} (hr : Rise G) {a b : Sg} (ha : a ∈ G) (hb : b ∈ G) (h : a.n ≠ b.n) : a.q ≠ b.q := by
  induction G with
  | nil => exact absurd ha List.not_mem_nil
  | cons x G ih =>
    obtain ⟨h1, h2⟩ := List.pairwise_cons.1 hr
    rcases List.mem_cons.1 ha with rfl | ha' <;> rcases List.mem_cons.1 hb with rfl | hb'
    · exact absurd rfl h
    · exact (h1 b hb').2
    · exact Ne.symm (h1 a ha').2
    · exact ih h2 ha' hb'
/-- A segment's bytes are others. -/
def putG (G : List Sg) (n : Nat) (s : ByteArray) (k : Nat) : List Sg := G.map fun g => if g.n = n then ⟨g.n, g.q, s, k⟩ else g
theorem putG_mem {G : List Sg} {n : Nat} {s : ByteArray} {k : Nat} {x : Sg} (h : x ∈ putG G n s k) : ∃ g ∈ G, (g.n = n ∧ x = ⟨g.n, g.q, s, k⟩) ∨ (g.n ≠ n ∧ x = g) := by
  obtain ⟨g, hg, e⟩ := List.mem_map.1 h
  by_cases c : g.n = n
  · rw [if_pos c] at e; exact ⟨g, hg, Or.inl ⟨c, e.symm⟩⟩
  · rw [if_neg c] at e; exact ⟨g, hg, Or.inr ⟨c, e.symm⟩⟩
theorem putG_nq (G : List Sg) (n : Nat) (s : ByteArray) (k : Nat) : (putG G n s k).map nq = G.map nq := by
  unfold putG
  rw [List.map_map]
  refine List.map_congr_left fun g _ => ?_
  show nq (if g.n = n then _ else g) = nq g
  split <;> rfl
theorem putG_rise {G : List Sg} {n : Nat} {s : ByteArray} {k : Nat} (h : Rise G) : Rise (putG G n s k) := by
  unfold Rise putG
  rw [List.pairwise_map]
  refine List.Pairwise.imp ?_ h
  intro a b hab
  have e1 : (if a.n = n then (⟨a.n, a.q, s, k⟩ : Sg) else a).n = a.n ∧ (if a.n = n then (⟨a.n, a.q, s, k⟩ : Sg) else a).q = a.q := by split <;> exact ⟨rfl, rfl⟩
  have e2 : (if b.n = n then (⟨b.n, b.q, s, k⟩ : Sg) else b).n = b.n ∧ (if b.n = n then (⟨b.n, b.q, s, k⟩ : Sg) else b).q = b.q := by split <;> exact ⟨rfl, rfl⟩
  rw [e1.1, e1.2, e2.1, e2.2]
  exact hab
theorem filQ_upd {F : List Fil} {q : Nat} {f : Fil} (h : filQ F q = some f) (s : ByteArray) (k : Nat) : filQ (updQ F q s k) q = some ⟨q, s, k⟩ := by
  induction F with
  | nil => cases h
  | cons a F ih =>
    unfold filQ updQ at *
    rw [List.map_cons, List.find?_cons]
    by_cases c : a.q = q
    · rw [if_pos c]; simp
    · rw [if_neg c]
      have c2 : (a.q == q) = false := by simpa using c
      rw [c2]
      rw [List.find?_cons, c2] at h
      exact ih h
theorem filQ_other {F : List Fil} {q q' : Nat} (h : q' ≠ q) (s : ByteArray) (k : Nat) : filQ (updQ F q s k) q' = filQ F q' := by
  induction F with
  | nil => rfl
  | cons a F ih =>
    unfold filQ updQ at *
    rw [List.map_cons, List.find?_cons, List.find?_cons]
    by_cases c : a.q = q
    · rw [if_pos c]
      have c1 : ((⟨q, s, k⟩ : Fil).q == q') = false := by simpa using Ne.symm h
      have c2 : (a.q == q') = false := by rw [c]; exact c1
      rw [c1, c2]
      exact ih
    · rw [if_neg c, ih]
theorem Fold.upd {S : FS} {r : Int} {G : List Sg} (h : Fold S r G) {g : Sg} (hg : g ∈ G) (s : ByteArray) (k : Nat) : Fold (updS S g.q s k) r (putG G g.n s k) := by
  refine ⟨h.room, h.now.trans (putG_nq _ _ _ _).symm, h.firm, h.chg, h.on, h.ar, fun x hx => ?_, putG_rise h.rise, fun x hx => ?_⟩
  · obtain ⟨y, hy, ⟨_, rfl⟩ | ⟨_, rfl⟩⟩ := putG_mem hx
    · exact h.num y hy
    · exact h.num _ hy
  · obtain ⟨y, hy, ⟨c, rfl⟩ | ⟨c, rfl⟩⟩ := putG_mem hx
    · obtain rfl := rise_uniq h.rise hy hg c
      exact filQ_upd (h.fil _ hg) s k
    · exact (filQ_other (rise_q h.rise hy hg c) s k).trans (h.fil x hy)
/-- All segments are firm. -/
def firmG (G : List Sg) (l : List Nat) : List Sg := G.map fun g => if g.n ∈ l then ⟨g.n, g.q, g.s, g.s.size⟩ else g
theorem putG_firm {G : List Sg} (hr : Rise G) {g : Sg} (hg : g ∈ G) (l : List Nat) : firmG (putG G g.n g.s g.s.size) l = firmG G (g.n :: l) := by
  unfold firmG putG
  rw [List.map_map]
  refine List.map_congr_left fun x hx => ?_
  show (fun y : Sg => if y.n ∈ l then (⟨y.n, y.q, y.s, y.s.size⟩ : Sg) else y) (if x.n = g.n then (⟨x.n, x.q, g.s, g.s.size⟩ : Sg) else x) = if x.n ∈ g.n :: l then (⟨x.n, x.q, x.s, x.s.size⟩ : Sg) else x
  by_cases c : x.n = g.n
  · have e := rise_uniq hr hx hg c
    subst e
    rw [if_pos rfl, if_pos List.mem_cons_self]
    dsimp only
    split <;> rfl
  · rw [if_neg c]
    dsimp only
    by_cases d : x.n ∈ l
    · rw [if_pos d, if_pos (List.mem_cons_of_mem _ d)]
    · rw [if_neg d, if_neg (fun e => by rcases List.mem_cons.1 e with e | e; exact c e; exact d e)]
theorem Fold.syncs {r : Int} : ∀ (l : List Nat) {S : FS} {G : List Sg}, Fold S r G → (∀ n ∈ l, ∃ g ∈ G, g.n = n) → (syncL S l).1 = 0 ∧ Fold (syncL S l).2 r (firmG G l)
  | [], S, G, h, _ => ⟨rfl, by
      have e : firmG G [] = G := by
        unfold firmG
        refine (List.map_congr_left fun g _ => ?_).trans (List.map_id _)
        rw [if_neg List.not_mem_nil]; rfl
      rw [e]; exact h⟩
  | n :: l, S, G, h, hl => by
    obtain ⟨g, hg, rfl⟩ := hl n List.mem_cons_self
    have e := h.sync hg
    have h2 := h.upd hg g.s g.s.size
    have ih := Fold.syncs l h2 (fun m hm => by
      obtain ⟨y, hy, e⟩ := hl m (List.mem_cons_of_mem _ hm)
      refine ⟨if y.n = g.n then ⟨y.n, y.q, g.s, g.s.size⟩ else y, List.mem_map.2 ⟨y, hy, rfl⟩, ?_⟩
      split <;> exact e)
    rw [putG_firm h.rise hg] at ih
    unfold syncL
    rw [e]
    dsimp only
    rw [if_neg (by simp)]
    exact ih
theorem firmG_all (G : List Sg) : firmG G (G.map (·.n)) = G.map fun g => ⟨g.n, g.q, g.s, g.s.size⟩ := by
  unfold firmG
  refine List.map_congr_left fun g hg => ?_
  rw [if_pos (List.mem_map.2 ⟨g, hg, rfl⟩)]
/-- The highest number. -/
def topN (G : List Sg) : Nat := match G.getLast? with | some g => g.n | none => 0
theorem Fold.beginN {S : FS} {r : Int} {G : List Sg} (h : Fold S r G) : Go.Proofs.YteijmjbiaffcmaaGreatDoor.beginN S = ((topN G + 1 : Nat) : Int) := by
  unfold Go.Proofs.YteijmjbiaffcmaaGreatDoor.beginN topN
  rw [h.nums, List.getLast?_map]
  cases G.getLast? with
  | none => rfl
  | some g => rfl
theorem top_le : ∀ {G : List Sg}, Rise G → ∀ g ∈ G, g.n ≤ topN G
  | [], _, g, hg => absurd hg List.not_mem_nil
  | [a], _, g, hg => by
    rcases List.mem_cons.1 hg with rfl | hg
    · exact Nat.le_refl _
    · exact absurd hg List.not_mem_nil
  | a :: b :: G, hr, g, hg => by
    have e : topN (a :: b :: G) = topN (b :: G) := by unfold topN; rw [List.getLast?_cons_cons]
    rw [e]
    obtain ⟨h1, h2⟩ := List.pairwise_cons.1 hr
    rcases List.mem_cons.1 hg with rfl | hg
    · have := top_le h2 b List.mem_cons_self
      have := (h1 b List.mem_cons_self).1
      omega
    · exact top_le h2 g hg
theorem insM_end : ∀ (M : FM) (x : Nm × Nat), (∀ y ∈ M, bytesBefore x.1 y.1 = false) → insM x M = M ++ [x]
  | [], x, _ => rfl
  | y :: M, x, h => by
    show (if bytesBefore x.1 y.1 then x :: y :: M else y :: insM x M) = _
    rw [h y List.mem_cons_self, if_neg (by decide), insM_end M x (fun z hz => h z (List.mem_cons_of_mem _ hz)), List.cons_append]
theorem put_end {G : List Sg} (hr : Rise G) (hn : ∀ g ∈ G, 1 ≤ g.n ∧ g.n ≤ 60) (h60 : topN G + 1 ≤ 60) (q : Nat) : putM (seg (topN G + 1)) q (G.map nq) = G.map nq ++ [(seg (topN G + 1), q)] := by
  unfold putM
  have e : delM (seg (topN G + 1)) (G.map nq) = G.map nq := by
    unfold delM
    rw [List.filter_eq_self]
    intro p hp
    obtain ⟨g, hg, rfl⟩ := List.mem_map.1 hp
    have := top_le hr g hg
    have h2 : ((nq g).1 == seg (topN G + 1)) = false := by
      rw [beq_eq_false_iff_ne]
      exact seg_ne (by omega) (hn g hg) (by omega)
    rw [h2]; rfl
  rw [e]
  refine insM_end _ _ fun y hy => ?_
  obtain ⟨g, hg, rfl⟩ := List.mem_map.1 hy
  have := top_le hr g hg
  exact (seg_bef' (show g.n < topN G + 1 by omega) (by omega)).2
/-- A new segment. -/
theorem Fold.begin {S : FS} {r : Int} {G : List Sg} (h : Fold S r G) {W : WS} {k : Bool} {st : ByteArray} {q : Nat} (h60 : topN G + 1 ≤ 60) (hlen : G.length < 64) (hq : ∀ f ∈ S.fil, f.q ≠ q) (hgq : ∀ g ∈ G, g.q ≠ q) {hd : ByteArray} (hh : headB (lastW W + 1) k st = hd) (hs : hd.size ≠ 0) (hu : (((G.map (·.s.size)).sum : Nat) : Int) + (hd.size : Int) ≤ r) :
    ∃ S', beginW S W k st q = (0, S', { W with sg := ((topN G + 1 : Nat) : Int) }) ∧ Fold S' r (G ++ [⟨topN G + 1, q, hd, hd.size⟩]) := by
  have hpe := put_end h.rise h.num h60 q
  have hfn : filQ S.fil q = none := by
    unfold filQ
    rw [List.find?_eq_none]
    intro f hf
    simpa using hq f hf
  have hkeep : ∀ (s : ByteArray) (k : Nat) (g : Sg), g ∈ G → filQ (S.fil ++ [⟨q, s, k⟩]) g.q = some ⟨g.q, g.s, g.k⟩ := fun s k g hg => by
    have := h.fil g hg
    unfold filQ at *
    rw [List.find?_append, this]; rfl
  have hused : usedS (doS (addS S q) (.mk (seg (topN G + 1)) q)) = (G.map (·.s.size)).sum := by
    unfold usedS
    show ((putM (seg (topN G + 1)) q S.now).map fun p => szQ (S.fil ++ [⟨q, ⟨#[]⟩, 0⟩]) p.2).sum = _
    rw [h.now, hpe, List.map_append, List.map_map, List.sum_append]
    have e1 : (G.map ((fun p : Nm × Nat => szQ (S.fil ++ [⟨q, ⟨#[]⟩, 0⟩]) p.2) ∘ nq)) = G.map (·.s.size) := List.map_congr_left fun g hg => by
      show szQ (S.fil ++ [⟨q, ⟨#[]⟩, 0⟩]) g.q = _
      unfold szQ
      rw [hkeep _ _ g hg]
    rw [e1]
    have e2 : szQ (S.fil ++ [⟨q, ⟨#[]⟩, 0⟩]) q = 0 := by
      unfold szQ
      rw [filQ_last hq]; rfl
    simp [e2]
  have hb := begin_q h.quiet (W := W) (k := k) (st := st) (q := q) (n := topN G + 1) h.beginN ⟨by omega, by omega⟩ (by rw [h.now]; exact look_out h.num ⟨by omega, h60⟩ (fun g hg => by have := top_le h.rise g hg; omega)) (by rw [h.now, List.length_map]; exact hlen) hq hh hs (by rw [hused, h.room]; exact hu)
  refine ⟨_, hb, h.room, ?_, rfl, rfl, h.on, h.ar, fun g hg => ?_, ?_, fun g hg => ?_⟩
  · show putM (seg (topN G + 1)) q S.now = _
    rw [h.now, hpe, List.map_append]; rfl
  · rcases List.mem_append.1 hg with hg | hg
    · exact h.num g hg
    · obtain rfl := List.mem_singleton.1 hg
      exact ⟨by show 1 ≤ topN G + 1; omega, h60⟩
  · unfold Rise
    rw [List.pairwise_append]
    refine ⟨h.rise, List.pairwise_singleton _ _, fun a ha b hb => ?_⟩
    obtain rfl := List.mem_singleton.1 hb
    have := top_le h.rise a ha
    exact ⟨by show a.n < topN G + 1; omega, hgq a ha⟩
  · show filQ (S.fil ++ [⟨q, hd, hd.size⟩]) g.q = _
    rcases List.mem_append.1 hg with hg | hg
    · exact hkeep _ _ g hg
    · obtain rfl := List.mem_singleton.1 hg
      exact filQ_last hq _ _
end Go.Proofs.YteijmjbiaffcmaaGreatDoor

/- A folder of several segments: append, sync, a crash, and what is read of it. -/
set_option maxRecDepth 20000
set_option linter.unusedSimpArgs false
set_option linter.unusedVariables false
namespace Go.Proofs.YteijmjbiaffcmaaGreatDoor
open Go.RowKit Go.Maps Go.Shelf Go.Proofs.YteijmjbiaffcmaaGreatDoor.Vi Go.Proofs.YteijmjbiaffcmaaGreatDoor.Crc Go.Proofs.YteijmjbiaffcmaaGreatDoor.Fr Go.Proofs.YteijmjbiaffcmaaGreatDoor.Fi

theorem segW_nat {W : WS} {n : Nat} (h : W.sg = (n : Int)) (hn : 1 ≤ n ∧ n ≤ 60) : segW W = tx (seg n) := by unfold segW; rw [h, segI_nat ⟨hn.1, by omega⟩]
/-- Texts appended to a segment. -/
theorem Fold.append {S : FS} {r : Int} {G : List Sg} (h : Fold S r G) {W : WS} {g : Sg} (hg : g ∈ G) (hw : W.sg = (g.n : Int)) (hbr : W.br = false) {l : List ByteArray} (hl : ∀ s ∈ l, s.size ≤ 60000) (hu : (((G.map (·.s.size)).sum : Nat) : Int) + ((frs (byL l)).length : Int) ≤ r) :
    ∃ S', appendW S W l = (0, S', { W with rc := W.rc ++ l }) ∧ Fold S' r (putG G g.n (g.s ++ tx (frs (byL l))) g.k) := by
  have e1 := append_q (t := tx (frs (byL l))) h.quiet seg_ok (h.look hg) (h.fil g hg) (by rw [h.used, h.room, tx_size]; exact hu)
  refine ⟨_, ?_, h.upd hg (g.s ++ tx (frs (byL l))) g.k⟩
  unfold appendW
  rw [hbr, if_neg (by decide), if_neg (by
    intro e
    obtain ⟨s, hs, h2⟩ := List.any_eq_true.1 e
    have := of_decide_eq_true h2
    have := hl s hs
    omega), segW_nat hw (h.num g hg), e1, if_pos rfl]
/-- A segment is made firm. -/
theorem Fold.settle {S : FS} {r : Int} {G : List Sg} (h : Fold S r G) {W : WS} {g : Sg} (hg : g ∈ G) (hw : W.sg = (g.n : Int)) :
    ∃ S', settleW S W = (0, S', { W with fm := lastW W }) ∧ Fold S' r (putG G g.n g.s g.s.size) := by
  refine ⟨_, ?_, h.upd hg g.s g.s.size⟩
  unfold settleW
  rw [segW_nat hw (h.num g hg), h.sync hg, if_pos rfl]
/-- Sync of a segment that is not too long yet. -/
theorem Fold.syncW_in {S : FS} {r : Int} {G : List Sg} (h : Fold S r G) {W : WS} {g : Sg} (hg : g ∈ G) (hw : W.sg = (g.n : Int)) (hbr : W.br = false) (hs : g.s.size ≤ 4000) (q : Nat) :
    ∃ S', Go.Proofs.YteijmjbiaffcmaaGreatDoor.syncW S W q = (0, S', { W with fm := lastW W }) ∧ Fold S' r (putG G g.n g.s g.s.size) := by
  obtain ⟨S', e, hF⟩ := h.settle hg hw
  refine ⟨S', ?_, hF⟩
  have hg' : (⟨g.n, g.q, g.s, g.s.size⟩ : Sg) ∈ putG G g.n g.s g.s.size := List.mem_map.2 ⟨g, hg, if_pos rfl⟩
  have e2 : (readS S' (tx (seg g.n))).1 = g.s := hF.text (g := ⟨g.n, g.q, g.s, g.s.size⟩) hg'
  unfold Go.Proofs.YteijmjbiaffcmaaGreatDoor.syncW
  rw [if_neg (show ¬ W.br = true by rw [hbr]; decide), e, if_neg (by simp)]
  dsimp only
  rw [segW_nat hw (h.num g hg), e2, if_pos hs]
/-- Sync of one that is: another one is begun. -/
theorem Fold.syncW_out {S : FS} {r : Int} {G : List Sg} (h : Fold S r G) {W : WS} {g : Sg} (hg : g ∈ G) (hw : W.sg = (g.n : Int)) (hbr : W.br = false) (hs : 4000 < g.s.size) {q : Nat} (h60 : topN G + 1 ≤ 60) (hlen : G.length < 64) (hq : ∀ f ∈ S.fil, f.q ≠ q) (hgq : ∀ g ∈ G, g.q ≠ q) {hd : ByteArray} (hh : headB (lastW W + 1) false ⟨#[]⟩ = hd) (hs0 : hd.size ≠ 0) (hu : (((G.map (·.s.size)).sum : Nat) : Int) + (hd.size : Int) ≤ r) :
    ∃ S', Go.Proofs.YteijmjbiaffcmaaGreatDoor.syncW S W q = (0, S', { W with fm := lastW W, sg := ((topN G + 1 : Nat) : Int) }) ∧ Fold S' r (putG G g.n g.s g.s.size ++ [⟨topN G + 1, q, hd, hd.size⟩]) := by
  have e0 : settleW S W = (0, updS S g.q g.s g.s.size, { W with fm := lastW W }) := by
    unfold settleW
    rw [segW_nat hw (h.num g hg), h.sync hg, if_pos rfl]
  have hF := h.upd hg g.s g.s.size
  have hg' : (⟨g.n, g.q, g.s, g.s.size⟩ : Sg) ∈ putG G g.n g.s g.s.size := List.mem_map.2 ⟨g, hg, if_pos rfl⟩
  have e2 : (readS (updS S g.q g.s g.s.size) (tx (seg g.n))).1 = g.s := hF.text (g := ⟨g.n, g.q, g.s, g.s.size⟩) hg'
  have etop : topN (putG G g.n g.s g.s.size) = topN G := by
    unfold topN putG
    rw [List.getLast?_map]
    cases G.getLast? with
    | none => rfl
    | some x =>
      show (if x.n = g.n then (⟨x.n, x.q, g.s, g.s.size⟩ : Sg) else x).n = x.n
      split <;> rfl
  have esum : ((putG G g.n g.s g.s.size).map (·.s.size)).sum = (G.map (·.s.size)).sum := by
    unfold putG
    rw [List.map_map]
    congr 1
    refine List.map_congr_left fun x hx => ?_
    show (if x.n = g.n then (⟨x.n, x.q, g.s, g.s.size⟩ : Sg) else x).s.size = _
    by_cases c : x.n = g.n
    · obtain rfl := rise_uniq h.rise hx hg c
      rw [if_pos rfl]
    · rw [if_neg c]
  obtain ⟨S', e, hF'⟩ := hF.begin (W := { W with fm := lastW W }) (k := false) (st := ⟨#[]⟩) (q := q) (by rw [etop]; exact h60) (by unfold putG; rw [List.length_map]; exact hlen) (fun f hf => by
      rcases updQ_mem hf with ⟨rfl, y, hy, e⟩ | ⟨hf, -⟩
      · rw [← e]; exact hq y hy
      · exact hq f hf) (fun x hx => by
      obtain ⟨y, hy, ⟨_, rfl⟩ | ⟨_, rfl⟩⟩ := putG_mem hx
      · exact hgq y hy
      · exact hgq x hy) (hd := hd) hh hs0 (by rw [esum]; exact hu)
  rw [etop] at e hF'
  refine ⟨S', ?_, hF'⟩
  unfold Go.Proofs.YteijmjbiaffcmaaGreatDoor.syncW
  rw [if_neg (show ¬ W.br = true by rw [hbr]; decide), e0, if_neg (by simp)]
  dsimp only
  rw [segW_nat hw (h.num g hg), e2, if_neg (by omega), e]

/-- Frames cut off anywhere: some of them, and a torn one. -/
theorem frs_cut : ∀ (l : List (List UInt8)), (∀ b ∈ l, b.length ≤ 70000) → ∀ m, ∃ j t, j ≤ l.length ∧ (frs l).take m = frs (l.take j) ++ t ∧ (getF t).w ≠ 0
  | [], _, m => ⟨0, [], Nat.le_refl _, by simp [frs], by rw [getF_nil]; decide⟩
  | b :: l, hl, m => by
    have hb := hl b List.mem_cons_self
    by_cases h : m < (fr b).length
    · refine ⟨0, (fr b).take m, Nat.zero_le _, ?_, ?_⟩
      · rw [frs_cons, List.take_append_of_le_length (by omega)]
        simp [frs]
      · by_cases h0 : m = 0
        · subst h0; rw [List.take_zero, getF_nil]; decide
        · rw [getF_prefix b hb m (by omega) h]; simp
    · obtain ⟨j, t, h1, h2, h3⟩ := frs_cut l (fun x hx => hl x (List.mem_cons_of_mem _ hx)) (m - (fr b).length)
      refine ⟨j + 1, t, by rw [List.length_cons]; omega, ?_, h3⟩
      rw [frs_cons, List.take_append, List.take_of_length_le (by omega), h2, List.take_succ_cons, frs_cons, List.append_assoc]
/-- A segment's contents: its head, its records, a torn tail. -/
structure Ct (g : Sg) (f : Int) (kp : Bool) (st : ByteArray) (L : List ByteArray) (t : List UInt8) : Prop where
  s : g.s = headB f kp st ++ tx (frs (byL L) ++ t)
  ok : rightB f kp st = true
  st : st.size ≤ 60000
  L : ∀ b ∈ L, b.size ≤ 60000
  t : (getF t).w ≠ 0
theorem byL_len {L : List ByteArray} (h : ∀ b ∈ L, b.size ≤ 60000) : ∀ b ∈ byL L, b.length ≤ 70000 := fun b hb => by
  obtain ⟨s, hs, rfl⟩ := List.mem_map.1 hb
  have e : s.data.toList.length = s.size := by simp
  have := h s hs
  omega
/-- What a segment adds to what is read. -/
def addR (n : Nat) (f : Int) (kp : Bool) (st : ByteArray) (L : List ByteArray) (acc : Nat × WS) : Nat × WS := if kp = true then (n, { acc.2 with fi := f, st := st, rc := L }) else if acc.1 = 0 ∨ f ≠ lastW acc.2 + 1 then acc else (acc.1, { acc.2 with rc := acc.2.rc ++ L })
theorem Ct.step {S : FS} {r : Int} {G : List Sg} (h : Fold S r G) {g : Sg} (hg : g ∈ G) {f : Int} {kp : Bool} {st : ByteArray} {L : List ByteArray} {t : List UInt8} (c : Ct g f kp st L t) (acc : Nat × WS) : stepR (textS S) acc g.n = addR g.n f kp st L acc := by
  have := step_seg (T := textS S) (n := g.n) (L := byL L) (t := t) acc (by rw [h.text hg]; exact c.s) c.ok c.st (byL_len c.L) c.t
  rw [txL_byL] at this
  exact this
/-- A crash leaves a beginning of each segment, with all that was firm. -/
structure CutOf (a b : Sg) : Prop where
  n : b.n = a.n
  q : b.q = a.q
  cut : ∃ m, m ≤ a.s.size - a.k ∧ b.s = a.s.extract 0 (a.k + m) ∧ b.k = a.k + m
theorem Ct.cut {a b : Sg} {f : Int} {kp : Bool} {st : ByteArray} {L : List ByteArray} (c : Ct a f kp st L []) (h : CutOf a b) (hk : (headB f kp st).size ≤ a.k) : ∃ j t, j ≤ L.length ∧ Ct b f kp st (L.take j) t := by
  obtain ⟨m, hm, hs, -⟩ := h.cut
  obtain ⟨j, t, h1, h2, h3⟩ := frs_cut (byL L) (byL_len c.L) (a.k + m - (headB f kp st).size)
  have hlen : (byL L).length = L.length := by unfold byL; rw [List.length_map]
  have htake : byL (L.take j) = (byL L).take j := by unfold byL; rw [List.map_take]
  refine ⟨j, t, by omega, ⟨?_, c.ok, c.st, fun b hb => c.L b (List.mem_of_mem_take hb), h3⟩⟩
  rw [hs, c.s, List.append_nil, htake, ← h2]
  apply ByteArray.ext
  apply Array.toList_inj.1
  have hhl : (headB f kp st).data.toList.length = (headB f kp st).size := Array.length_toList
  have e := extract_tx (headB f kp st ++ tx (frs (byL L))) 0 (a.k + m)
  rw [Nat.zero_add] at e
  rw [e, tx_data, List.drop_zero, ByteArray.data_append, ByteArray.data_append, Array.toList_append, Array.toList_append, tx_data, tx_data, List.take_append, List.take_of_length_le (by omega), hhl]
end Go.Proofs.YteijmjbiaffcmaaGreatDoor

/- A folder of several segments: what Open reads of it and begins; what a crash leaves. -/
set_option maxRecDepth 20000
set_option linter.unusedSimpArgs false
set_option linter.unusedVariables false
namespace Go.Proofs.YteijmjbiaffcmaaGreatDoor
open Go.RowKit Go.Maps Go.Shelf Go.Proofs.YteijmjbiaffcmaaGreatDoor.Vi Go.Proofs.YteijmjbiaffcmaaGreatDoor.Crc Go.Proofs.YteijmjbiaffcmaaGreatDoor.Fr Go.Proofs.YteijmjbiaffcmaaGreatDoor.Fi

/-- Segments that go on from a record's number. -/
inductive Tail : Int → List Sg → List ByteArray → Prop
  | nil (f : Int) : Tail f [] []
  | cons {f : Int} {g : Sg} {G : List Sg} {L R : List ByteArray} {t : List UInt8} : Ct g f false ⟨#[]⟩ L t → Tail (f + (L.length : Int)) G R → Tail f (g :: G) (L ++ R)
theorem tail_read {S : FS} {r : Int} {G : List Sg} (h : Fold S r G) {f : Int} {gs : List Sg} {R : List ByteArray} (ht : Tail f gs R) : (∀ g ∈ gs, g ∈ G) → ∀ acc : Nat × WS, acc.1 ≠ 0 → lastW acc.2 + 1 = f → (gs.map (·.n)).foldl (stepR (textS S)) acc = (acc.1, { acc.2 with rc := acc.2.rc ++ R }) := by
  induction ht with
  | nil f => intro _ acc _ _; rw [List.append_nil]; rfl
  | @cons f g G' L R t c _ ih =>
    intro hg acc h0 hl
    rw [List.map_cons, List.foldl_cons, c.step h (hg g List.mem_cons_self)]
    have e : addR g.n f false ⟨#[]⟩ L acc = (acc.1, (⟨acc.2.sg, acc.2.st, acc.2.fi, acc.2.rc ++ L, acc.2.fm, acc.2.br⟩ : WS)) := by
      unfold addR
      rw [if_neg (by decide), if_neg (by intro q; rcases q with q | q; exact h0 q; exact q hl.symm)]
    have e2 := ih (fun x hx => hg x (List.mem_cons_of_mem _ hx)) (acc.1, (⟨acc.2.sg, acc.2.st, acc.2.fi, acc.2.rc ++ L, acc.2.fm, acc.2.br⟩ : WS)) h0 (by
      unfold lastW at hl ⊢
      dsimp only
      rw [List.length_append]; omega)
    rw [e, e2]
    dsimp only
    rw [List.append_assoc]
/-- A folder's segments: the contents begin at the first one. -/
structure Chain (G : List Sg) (n : Nat) (f : Int) (st : ByteArray) (R : List ByteArray) : Prop where
  has : ∃ g gs L t R', G = g :: gs ∧ g.n = n ∧ Ct g f true st L t ∧ Tail (f + (L.length : Int)) gs R' ∧ R = L ++ R'
theorem Chain.read {S : FS} {r : Int} {G : List Sg} (h : Fold S r G) {n : Nat} {f : Int} {st : ByteArray} {R : List ByteArray} (c : Chain G n f st R) : readN (textS S) (G.map (·.n)) newW = (n, { newW with fi := f, st := st, rc := R }) := by
  obtain ⟨g, gs, L, t, R', rfl, rfl, c0, ht, rfl⟩ := c.has
  have hn := h.num g List.mem_cons_self
  unfold readN
  rw [List.map_cons, List.foldl_cons, c0.step h List.mem_cons_self]
  have e : addR g.n f true st L (0, newW) = (g.n, { newW with fi := f, st := st, rc := L }) := if_pos rfl
  rw [e, tail_read h ht (fun x hx => List.mem_cons_of_mem _ hx) _ (by show g.n ≠ 0; omega) (by
    unfold lastW
    show f + (L.length : Int) - 1 + 1 = _
    omega)]
theorem removeL_none (P : Nat → Bool) (S : FS) (W : WS) : ∀ l : List Nat, (∀ n ∈ l, P n = false) → removeL P l S W = (0, S, W)
  | [], _ => rfl
  | n :: l, h => by
    unfold removeL
    rw [h n List.mem_cons_self, if_neg (by decide)]
    exact removeL_none P S W l (fun m hm => h m (List.mem_cons_of_mem _ hm))
theorem firm_chain {G : List Sg} {n : Nat} {f : Int} {st : ByteArray} {R : List ByteArray} (c : Chain G n f st R) : Chain (G.map fun g => ⟨g.n, g.q, g.s, g.s.size⟩) n f st R := by
  obtain ⟨g, gs, L, t, R', rfl, rfl, c0, ht, rfl⟩ := c.has
  have key : ∀ {f : Int} {gs : List Sg} {R : List ByteArray}, Tail f gs R → Tail f (gs.map fun g => ⟨g.n, g.q, g.s, g.s.size⟩) R := by
    intro f gs R h
    induction h with
    | nil f => exact Tail.nil f
    | cons c _ ih => exact Tail.cons ⟨c.s, c.ok, c.st, c.L, c.t⟩ ih
  exact ⟨_, _, L, t, R', rfl, rfl, ⟨c0.s, c0.ok, c0.st, c0.L, c0.t⟩, key ht, rfl⟩
/-- Open of a folder of segments. -/
theorem Fold.open_ {S : FS} {r : Int} {G : List Sg} (h : Fold S r G) {n : Nat} {f : Int} {st : ByteArray} {R : List ByteArray} (c : Chain G n f st R) {q : Nat} (h60 : topN G + 1 ≤ 60) (hlen : G.length < 64) (hq : ∀ x ∈ S.fil, x.q ≠ q) (hgq : ∀ g ∈ G, g.q ≠ q) {hd : ByteArray} (hh : headB (f + (R.length : Int)) false ⟨#[]⟩ = hd) (hs : hd.size ≠ 0) (hu : (((G.map (·.s.size)).sum : Nat) : Int) + (hd.size : Int) ≤ r) :
    ∃ S', openW S q = (0, S', ⟨((topN G + 1 : Nat) : Int), st, f, R, f + (R.length : Int) - 1, false⟩) ∧ Fold S' r ((G.map fun g => ⟨g.n, g.q, g.s, g.s.size⟩) ++ [⟨topN G + 1, q, hd, hd.size⟩]) := by
  obtain ⟨e1, hF⟩ := Fold.syncs (G.map (·.n)) h (fun n hn => by obtain ⟨g, hg, e⟩ := List.mem_map.1 hn; exact ⟨g, hg, e⟩)
  rw [firmG_all] at hF
  have hids : ∀ x ∈ (syncL S (G.map (·.n))).2.fil, x.q ≠ q := by
    have key : ∀ (l : List Nat) (S : FS), (∀ x ∈ S.fil, x.q ≠ q) → ∀ x ∈ (syncL S l).2.fil, x.q ≠ q := by
      intro l
      induction l with
      | nil => intro S h; exact h
      | cons m l ih =>
        intro S hS
        have h1 : ∀ x ∈ (syncS S (tx (seg m))).2.fil, x.q ≠ q := by
          unfold syncS
          split
          · split
            · intro x hx
              have h2 : ∀ y ∈ (stepS S).2.fil, y.q ≠ q := by
                unfold stepS
                split
                · exact hS
                · split <;> exact hS
              rcases updQ_mem hx with ⟨rfl, y, hy, e⟩ | ⟨hx, -⟩
              · rw [← e]; exact h2 y hy
              · exact h2 x hx
            · show ∀ x ∈ (stepS S).2.fil, x.q ≠ q
              unfold stepS
              split
              · exact hS
              · split <;> exact hS
          · exact hS
        unfold syncL
        split
        · exact h1
        · exact ih _ h1
    exact key _ S hq
  have htop : topN (G.map fun g => (⟨g.n, g.q, g.s, g.s.size⟩ : Sg)) = topN G := by
    unfold topN
    rw [List.getLast?_map]
    cases G.getLast? <;> rfl
  have hsum : (((G.map fun g => (⟨g.n, g.q, g.s, g.s.size⟩ : Sg)).map (·.s.size)).sum) = (G.map (·.s.size)).sum := by
    rw [List.map_map]; rfl
  have hread := (firm_chain c).read hF
  have hnum2 : (G.map fun g => (⟨g.n, g.q, g.s, g.s.size⟩ : Sg)).map (·.n) = G.map (·.n) := by rw [List.map_map]; rfl
  rw [hnum2] at hread
  obtain ⟨S', e2, hF'⟩ := hF.begin (W := firmW { newW with fi := f, st := st, rc := R }) (k := false) (st := ⟨#[]⟩) (q := q) (by rw [htop]; exact h60) (by rw [List.length_map]; exact hlen) hids (fun g hg => by obtain ⟨x, hx, rfl⟩ := List.mem_map.1 hg; exact hgq x hx) (hd := hd) (by
    rw [← hh]
    have e : lastW (firmW { newW with fi := f, st := st, rc := R }) + 1 = f + (R.length : Int) := by
      unfold lastW firmW
      show f + (R.length : Int) - 1 + 1 = _
      omega
    rw [e]) hs (by rw [hsum]; exact hu)
  rw [htop] at e2 hF'
  refine ⟨S', ?_, hF'⟩
  have hn0 : n ≠ 0 := by
    obtain ⟨g, gs, L, t, R', rfl, rfl, -⟩ := c.has
    have := h.num g List.mem_cons_self
    omega
  have hnums2 := hF.nums
  rw [hnum2] at hnums2
  unfold openW
  rw [h.nums, if_neg (by rw [e1]; simp)]
  unfold open2
  rw [hnums2, hread]
  dsimp only
  have hb : (n == 0) = false := by simpa using hn0
  rw [hb, e2]
  unfold open3
  rw [if_neg (by simp)]
  dsimp only
  rw [if_neg hn0, removeL_none]
  · rfl
  · intro m hm
    rw [hF'.nums, List.map_append, List.mem_append] at hm
    obtain ⟨g, gs, L, t, R', rfl, rfl, -⟩ := c.has
    have hle : ∀ x ∈ g :: gs, g.n ≤ x.n := fun x hx => by
      rcases List.mem_cons.1 hx with rfl | hx
      · exact Nat.le_refl _
      · have := ((List.pairwise_cons.1 h.rise).1 x hx).1; omega
    rw [decide_eq_false_iff_not]
    rcases hm with hm | hm
    · rw [hnum2] at hm
      obtain ⟨x, hx, rfl⟩ := List.mem_map.1 hm
      have := hle x hx
      omega
    · obtain rfl : m = topN (g :: gs) + 1 := by simpa using hm
      have := top_le h.rise g List.mem_cons_self
      omega
end Go.Proofs.YteijmjbiaffcmaaGreatDoor

/- What a crash leaves of a folder of several segments. -/
set_option maxRecDepth 20000
set_option linter.unusedSimpArgs false
set_option linter.unusedVariables false
namespace Go.Proofs.YteijmjbiaffcmaaGreatDoor
open Go.RowKit Go.Maps Go.Shelf Go.Proofs.YteijmjbiaffcmaaGreatDoor.Vi Go.Proofs.YteijmjbiaffcmaaGreatDoor.Crc Go.Proofs.YteijmjbiaffcmaaGreatDoor.Fr Go.Proofs.YteijmjbiaffcmaaGreatDoor.Fi

theorem cutQ_other {l : List Int} {i q q' : Nat} {F : List Fil} (h : q' ≠ q) : filQ (cutQ l i q F) q' = filQ F q' := by
  unfold cutQ
  split
  · exact filQ_other h _ _
  · rfl
theorem cut_other {l : List Int} : ∀ (ids : List Nat) (i : Nat) (F : List Fil) {q' : Nat}, q' ∉ ids → filQ (cutAll l ids i F) q' = filQ F q'
  | [], i, F, q', _ => rfl
  | q :: t, i, F, q', h => by
    show filQ (cutAll l t (i + 1) (cutQ l (i + 1) q F)) q' = _
    rw [cut_other t (i + 1) _ (fun e => h (List.mem_cons_of_mem _ e)), cutQ_other (q := q) (q' := q') (fun e => h (by rw [e]; exact List.mem_cons_self))]
theorem cut_one {l : List Int} : ∀ (gs : List Sg) (i : Nat) (F : List Fil), (gs.map (·.q)).Nodup → (∀ g ∈ gs, filQ F g.q = some ⟨g.q, g.s, g.k⟩) → ∀ g ∈ gs, ∃ m, m ≤ g.s.size - g.k ∧ filQ (cutAll l (gs.map (·.q)) i F) g.q = some ⟨g.q, g.s.extract 0 (g.k + m), g.k + m⟩
  | [], i, F, _, _, g, hg => absurd hg List.not_mem_nil
  | a :: gs, i, F, hd, hf, g, hg => by
    rw [List.map_cons] at hd
    obtain ⟨h1, h2⟩ := List.nodup_cons.1 hd
    have ha := hf a List.mem_cons_self
    show ∃ m, _ ∧ filQ (cutAll l (gs.map (·.q)) (i + 1) (cutQ l (i + 1) a.q F)) g.q = _
    rcases List.mem_cons.1 hg with rfl | hg'
    · refine ⟨pickI l (i + 1) (g.s.size - g.k), pickI_le _ _ _, ?_⟩
      rw [cut_other _ _ _ h1]
      unfold cutQ
      rw [ha]
      exact filQ_upd ha _ _
    · refine cut_one gs (i + 1) (cutQ l (i + 1) a.q F) h2 (fun x hx => ?_) g hg'
      rw [cutQ_other (fun e => h1 (List.mem_map.2 ⟨x, hx, e⟩))]
      exact hf x (List.mem_cons_of_mem _ hx)
/-- What the crash leaves of a segment. -/
def leftG (F : List Fil) (g : Sg) : Sg := match filQ F g.q with | some f => ⟨g.n, g.q, f.s, f.k⟩ | none => g
theorem leftG_n (F : List Fil) (g : Sg) : (leftG F g).n = g.n ∧ (leftG F g).q = g.q := by
  unfold leftG
  split <;> exact ⟨rfl, rfl⟩
theorem Fold.crash {S : FS} {r : Int} {G : List Sg} (h : Fold S r G) (l : List Int) : ∃ φ : Sg → Sg, Fold (crashS S l) r (G.map φ) ∧ ∀ g ∈ G, CutOf g (φ g) := by
  have hnd : (G.map (·.q)).Nodup := by
    unfold List.Nodup
    rw [List.pairwise_map]
    exact List.Pairwise.imp (fun h => h.2) h.rise
  have hnames : ∀ k, namesK S k = S.now := fun k => by
    unfold namesK
    rw [h.chg, List.take_nil, h.firm]; rfl
  have hids : S.now.map (·.2) = G.map (·.q) := by rw [h.now, List.map_map]; rfl
  have hfil : (crashS S l).fil = cutAll l (G.map (·.q)) 0 S.fil := by
    unfold crashS
    rw [hnames, hids]
  have hcut := cut_one (l := l) G 0 S.fil hnd h.fil
  refine ⟨leftG (crashS S l).fil, ⟨h.room, ?_, ?_, rfl, rfl, rfl, fun g hg => ?_, ?_, fun g hg => ?_⟩, fun g hg => ?_⟩
  · have e : (crashS S l).now = S.now := by unfold crashS; rw [hnames]
    rw [e, h.now, List.map_map]
    refine List.map_congr_left fun g _ => ?_
    show nq g = nq (leftG _ g)
    obtain ⟨e1, e2⟩ := leftG_n (crashS S l).fil g
    unfold nq
    rw [e1, e2]
  · unfold crashS
    rw [hnames]
  · obtain ⟨x, hx, rfl⟩ := List.mem_map.1 hg
    rw [(leftG_n _ x).1]
    exact h.num x hx
  · unfold Rise
    rw [List.pairwise_map]
    refine List.Pairwise.imp ?_ h.rise
    intro a b hab
    rw [(leftG_n _ a).1, (leftG_n _ b).1, (leftG_n _ a).2, (leftG_n _ b).2]
    exact hab
  · obtain ⟨x, hx, rfl⟩ := List.mem_map.1 hg
    obtain ⟨m, hm, e⟩ := hcut x hx
    rw [← hfil] at e
    unfold leftG
    rw [e]
    exact e
  · obtain ⟨m, hm, e⟩ := hcut g hg
    rw [← hfil] at e
    have el : leftG (crashS S l).fil g = ⟨g.n, g.q, g.s.extract 0 (g.k + m), g.k + m⟩ := by unfold leftG; rw [e]
    rw [el]
    exact ⟨rfl, rfl, m, hm, rfl, rfl⟩
/-- What is firm stands. -/
theorem CutOf.firm {a b : Sg} (h : CutOf a b) (hk : a.k = a.s.size) : b = a := by
  obtain ⟨h1, h2, m, hm, hs, hk2⟩ := h
  have hm0 : m = 0 := by omega
  subst hm0
  have e4 : a.s.extract 0 (a.k + 0) = a.s := by
    have h := extract_tx a.s 0 (a.k + 0)
    rw [Nat.zero_add] at h
    have hl : a.s.data.toList.length = a.s.size := by simp
    rw [h, List.drop_zero, Nat.add_zero, hk, ← hl, List.take_length, tx_list]
  rw [e4] at hs
  cases a
  cases b
  simp_all
/-- A folder whose names are not all firm yet. -/
structure FoldN (S : FS) (r : Int) (G : List Sg) : Prop where
  room : S.room = r
  now : S.now = G.map nq
  on : S.on = true
  ar : S.armed = false
  num : ∀ g ∈ G, 1 ≤ g.n ∧ g.n ≤ 60
  rise : Rise G
  fil : ∀ g ∈ G, filQ S.fil g.q = some ⟨g.q, g.s, g.k⟩
theorem Fold.names {S : FS} {r : Int} {G : List Sg} (h : Fold S r G) : FoldN S r G := ⟨h.room, h.now, h.on, h.ar, h.num, h.rise, h.fil⟩
theorem FoldN.quiet {S : FS} {r : Int} {G : List Sg} (h : FoldN S r G) : Quiet S := ⟨h.on, h.ar, by rw [h.now]; exact rise_srt h.rise h.num⟩
theorem FoldN.delete {S : FS} {r : Int} {G : List Sg} (h : FoldN S r G) {g : Sg} (hg : g ∈ G) : (deleteS S (tx (seg g.n))).1 = 0 ∧ FoldN (deleteS S (tx (seg g.n))).2 r (G.filter fun x => x.n != g.n) := by
  have e := delete_q h.quiet (seg_ok (n := g.n)) (by rw [nm_tx, h.now]; exact look_in h.rise h.num hg)
  rw [nm_tx] at e
  rw [e]
  refine ⟨rfl, h.room, ?_, h.on, h.ar, fun x hx => h.num x (List.mem_filter.1 hx).1, h.rise.filter _, fun x hx => h.fil x (List.mem_filter.1 hx).1⟩
  show delM (seg g.n) S.now = _
  unfold delM
  rw [h.now, List.filter_map]
  congr 1
  refine List.filter_congr fun x hx => ?_
  show (!((nq x).1 == seg g.n)) = (x.n != g.n)
  by_cases c : x.n = g.n
  · have h1 : ((nq x).1 == seg g.n) = true := by rw [beq_iff_eq]; show seg x.n = seg g.n; rw [c]
    rw [h1, c]; simp
  · have h1 : ((nq x).1 == seg g.n) = false := by
      rw [beq_eq_false_iff_ne]
      exact seg_ne c (h.num x hx) (h.num g hg)
    rw [h1]
    simpa using c
theorem FoldN.settled {S : FS} {r : Int} {G : List Sg} (h : FoldN S r G) : syncDirS S = (0, settleS S) ∧ Fold (settleS S) r G := ⟨syncDir_q h.quiet, h.room, h.now, rfl, rfl, h.on, h.ar, h.num, h.rise, h.fil⟩
/-- Segments are deleted, up to all that go. -/
theorem FoldN.remove {r : Int} (P : Nat → Bool) (W : WS) : ∀ (l : List Nat) {S : FS} {G : List Sg}, FoldN S r G → l.Nodup → (∀ n ∈ l, ∃ g ∈ G, g.n = n) → ∃ S', removeL P l S W = (0, S', W) ∧ FoldN S' r (G.filter fun x => !(decide (x.n ∈ l) && P x.n))
  | [], S, G, h, _, _ => ⟨S, rfl, by
      have e : (G.filter fun x => !(decide (x.n ∈ ([] : List Nat)) && P x.n)) = G := by rw [List.filter_eq_self]; intro x _; simp
      rw [e]; exact h⟩
  | n :: l, S, G, h, hd, hl => by
    obtain ⟨h1, h2⟩ := List.nodup_cons.1 hd
    by_cases c : P n = true
    · obtain ⟨g, hg, rfl⟩ := hl n List.mem_cons_self
      obtain ⟨e1, hF⟩ := h.delete hg
      obtain ⟨S', e2, hF'⟩ := FoldN.remove P W l hF h2 (fun m hm => by
        obtain ⟨y, hy, rfl⟩ := hl m (List.mem_cons_of_mem _ hm)
        refine ⟨y, List.mem_filter.2 ⟨hy, ?_⟩, rfl⟩
        have : y.n ≠ g.n := fun e => h1 (e ▸ hm)
        simpa using this)
      refine ⟨S', ?_, ?_⟩
      · unfold removeL
        rw [c, if_pos rfl, if_neg (by rw [e1]; simp), e2]
      · have e : (G.filter fun x => !(decide (x.n ∈ g.n :: l) && P x.n)) = (G.filter fun x => x.n != g.n).filter fun x => !(decide (x.n ∈ l) && P x.n) := by
          rw [List.filter_filter]
          refine List.filter_congr fun x hx => ?_
          by_cases q : x.n = g.n
          · rw [q, c]; simp
          · simp [q]
        rw [e]
        exact hF'
    · have c' : P n = false := by simpa using c
      obtain ⟨S', e2, hF'⟩ := FoldN.remove P W l h h2 (fun m hm => hl m (List.mem_cons_of_mem _ hm))
      refine ⟨S', ?_, ?_⟩
      · unfold removeL
        rw [c', if_neg (by decide), e2]
      · have e : (G.filter fun x => !(decide (x.n ∈ n :: l) && P x.n)) = G.filter fun x => !(decide (x.n ∈ l) && P x.n) := by
          refine List.filter_congr fun x hx => ?_
          by_cases q : x.n = n
          · rw [q, c']; simp
          · simp [q]
        rw [e]
        exact hF'
end Go.Proofs.YteijmjbiaffcmaaGreatDoor

/- A log that is appended to and synced, however long: its segments; a checkpoint of it. -/
set_option maxRecDepth 20000
set_option linter.unusedSimpArgs false
set_option linter.unusedVariables false
namespace Go.Proofs.YteijmjbiaffcmaaGreatDoor
open Go.RowKit Go.Maps Go.Shelf Go.Proofs.YteijmjbiaffcmaaGreatDoor.Vi Go.Proofs.YteijmjbiaffcmaaGreatDoor.Crc Go.Proofs.YteijmjbiaffcmaaGreatDoor.Fr Go.Proofs.YteijmjbiaffcmaaGreatDoor.Fi

theorem tail_snoc {f : Int} {gs : List Sg} {R : List ByteArray} (h : Tail f gs R) {g : Sg} {L : List ByteArray} {t : List UInt8} (c : Ct g (f + (R.length : Int)) false ⟨#[]⟩ L t) : Tail f (gs ++ [g]) (R ++ L) := by
  induction h with
  | nil f =>
    have c' : Ct g f false ⟨#[]⟩ L t := by simpa using c
    have := Tail.cons c' (Tail.nil (f + (L.length : Int)))
    simpa using this
  | @cons f g' G' L' R' t' c0 _ ih =>
    rw [List.cons_append, List.append_assoc]
    refine Tail.cons c0 (ih ?_)
    have e : f + (L'.length : Int) + (R'.length : Int) = f + ((L' ++ R').length : Int) := by rw [List.length_append]; omega
    rw [e]; exact c
theorem chain_snoc {gs : List Sg} {n : Nat} {f : Int} {st : ByteArray} {R : List ByteArray} (h : Chain gs n f st R) {g : Sg} {L : List ByteArray} {t : List UInt8} (c : Ct g (f + (R.length : Int)) false ⟨#[]⟩ L t) : Chain (gs ++ [g]) n f st (R ++ L) := by
  obtain ⟨a, gz, L0, t0, R', rfl, rfl, c0, ht, rfl⟩ := h.has
  have e : f + (L0.length : Int) + (R'.length : Int) = f + ((L0 ++ R').length : Int) := by rw [List.length_append]; omega
  have c2 : Ct g (f + (L0.length : Int) + (R'.length : Int)) false ⟨#[]⟩ L t := by rw [e]; exact c
  exact ⟨a, gz ++ [g], L0, t0, R' ++ L, rfl, rfl, c0, tail_snoc ht c2, by rw [List.append_assoc]⟩
theorem chain_one {g : Sg} {f : Int} {st : ByteArray} {L : List ByteArray} {t : List UInt8} (c : Ct g f true st L t) : Chain [g] g.n f st L := ⟨g, [], L, t, [], rfl, rfl, c, Tail.nil _, by rw [List.append_nil]⟩
/-- What stands ahead of the last segment. -/
def Pre (gs : List Sg) (R : List ByteArray) (kp : Bool) : Prop := (gs = [] ∧ R = [] ∧ kp = true) ∨ (Chain gs 1 1 ⟨#[]⟩ R ∧ kp = false)
theorem Pre.chain {gs : List Sg} {R : List ByteArray} {kp : Bool} (h : Pre gs R kp) {g : Sg} {L : List ByteArray} {t : List UInt8} (c : Ct g (1 + (R.length : Int)) kp ⟨#[]⟩ L t) (h1 : gs = [] → g.n = 1) : Chain (gs ++ [g]) 1 1 ⟨#[]⟩ (R ++ L) := by
  rcases h with ⟨rfl, rfl, rfl⟩ | ⟨h, rfl⟩
  · have := chain_one (show Ct g 1 true ⟨#[]⟩ L t by simpa using c)
    rw [h1 rfl] at this
    simpa using this
  · exact chain_snoc h c
theorem top_snoc (gs : List Sg) (g : Sg) : topN (gs ++ [g]) = g.n := by
  unfold topN
  rw [List.getLast?_append]; rfl
theorem put_last {gs : List Sg} {g : Sg} (hr : Rise (gs ++ [g])) (s : ByteArray) (k : Nat) : putG (gs ++ [g]) g.n s k = gs ++ [⟨g.n, g.q, s, k⟩] := by
  unfold putG
  rw [List.map_append]
  congr 1
  · refine (List.map_congr_left fun x hx => ?_).trans (List.map_id _)
    have := ((List.pairwise_append.1 hr).2.2 x hx g List.mem_cons_self).1
    rw [if_neg (by omega)]; rfl
  · simp
theorem Ct.more {g : Sg} {f : Int} {kp : Bool} {st : ByteArray} {L : List ByteArray} (c : Ct g f kp st L []) {l : List ByteArray} (hl : ∀ b ∈ l, b.size ≤ 60000) (k : Nat) : Ct ⟨g.n, g.q, g.s ++ tx (frs (byL l)), k⟩ f kp st (L ++ l) [] := by
  refine ⟨?_, c.ok, c.st, fun b hb => ?_, c.t⟩
  · show g.s ++ tx (frs (byL l)) = _
    have e : byL (L ++ l) = byL L ++ byL l := by simp [byL]
    rw [c.s, List.append_nil, List.append_nil, e, frs_app, ← tx_app, ByteArray.append_assoc]
  · rcases List.mem_append.1 hb with hb | hb
    · exact c.L b hb
    · exact hl b hb
theorem head_ct {n q : Nat} {f : Int} {kp : Bool} {st : ByteArray} (h : rightB f kp st = true) (hs : st.size ≤ 60000) : Ct ⟨n, q, headB f kp st, (headB f kp st).size⟩ f kp st [] [] :=
  ⟨by
    show headB f kp st = headB f kp st ++ tx (frs (byL []) ++ [])
    apply ByteArray.ext
    apply Array.toList_inj.1
    simp [byL, frs, tx], h, hs, fun b hb => absurd hb List.not_mem_nil, by rw [getF_nil]; decide⟩
theorem right_of {f : Int} (h1 : 1 ≤ f) (h2 : f ≤ 1099511627776) : rightB f false ⟨#[]⟩ = true := by
  unfold rightB
  rw [decide_eq_true h1, decide_eq_true h2]
  rfl
theorem head_small {f : Int} (h1 : 1 ≤ f) (h2 : f ≤ 1099511627776) : (headB f false ⟨#[]⟩).size ≤ 60 := by
  unfold headB
  rw [if_pos (right_of h1 h2), tx_size]
  have hb : (bodyH f false ⟨#[]⟩).length ≤ 30 := by
    unfold bodyH
    have e1 := enc_len10 f.toNat (by omega)
    have e2 := enc_len10 (ByteArray.size ⟨#[]⟩) (by decide)
    have e3 : (⟨#[]⟩ : ByteArray).data.toList.length = 0 := rfl
    simp only [List.length_append, List.length_cons, List.length_nil] at *
    omega
  have h3 := fr_len (bodyH f false ⟨#[]⟩)
  have h4 := enc_len10 (bodyH f false ⟨#[]⟩).length (by omega)
  omega
/-- A log that is synced behind each record. -/
structure Roll (S : FS) (W : WS) (gs : List Sg) (g : Sg) (R L : List ByteArray) (kp : Bool) : Prop where
  fold : Fold S 1000000 (gs ++ [g])
  pre : Pre gs R kp
  ct : Ct g (1 + (R.length : Int)) kp ⟨#[]⟩ L []
  w : W = ⟨(g.n : Int), ⟨#[]⟩, 1, R ++ L, ((R ++ L).length : Int), false⟩
  n : g.n = gs.length + 1
  big : ∀ x ∈ gs, 4000 < x.s.size ∧ x.s.size ≤ 4920 ∧ x.k = x.s.size
  low : g.s.size ≤ 4000 ∧ g.k = g.s.size
  few : gs.length ≤ R.length
theorem sum_le_of (gs : List Sg) (M : Nat) (h : ∀ x ∈ gs, x.s.size ≤ M) : (gs.map (·.s.size)).sum ≤ M * gs.length := by
  induction gs with
  | nil => simp
  | cons a gs ih =>
    rw [List.map_cons, List.sum_cons, List.length_cons, Nat.mul_add]
    have := ih (fun x hx => h x (List.mem_cons_of_mem _ hx))
    have := h a List.mem_cons_self
    omega
theorem Roll.sum {S : FS} {W : WS} {gs : List Sg} {g : Sg} {R L : List ByteArray} {kp : Bool} (h : Roll S W gs g R L kp) (hn : (R ++ L).length ≤ 30) : ((gs ++ [g]).map (·.s.size)).sum ≤ 200000 := by
  rw [List.map_append, List.sum_append]
  have h1 := sum_le_of gs 4920 (fun x hx => (h.big x hx).2.1)
  have h2 := h.few
  have h3 := h.low.1
  rw [List.length_append] at hn
  have h4 : 4920 * gs.length ≤ 4920 * 30 := Nat.mul_le_mul_left _ (by omega)
  simp only [List.map_cons, List.map_nil, List.sum_cons, List.sum_nil]
  omega
/-- A record more, and synced. -/
theorem Roll.step {S : FS} {W : WS} {gs : List Sg} {g : Sg} {R L : List ByteArray} {kp : Bool} (h : Roll S W gs g R L kp) (hn : (R ++ L).length < 30) {s : ByteArray} (hs : s.size ≤ 900) (q : Nat) :
    ∃ S1 W1, appendW S W [s] = (0, S1, W1) ∧ W1 = { W with rc := (R ++ L) ++ [s] } ∧ S1.chg = [] ∧ ((∀ f ∈ S1.fil, f.q ≠ q) → ∃ S2 W2 gs' g' R' L' kp', syncW S1 W1 q = (0, S2, W2) ∧ Roll S2 W2 gs' g' R' L' kp' ∧ R' ++ L' = (R ++ L) ++ [s]) := by
  have hsum := h.sum (by omega)
  have hg : g ∈ gs ++ [g] := List.mem_append.2 (Or.inr List.mem_cons_self)
  have hfl : (frs (byL [s])).length ≤ s.size + 14 := by
    have e : frs (byL [s]) = fr s.data.toList := by simp [byL, frs]
    rw [e]
    have h3 := fr_len s.data.toList
    have e2 : s.data.toList.length = s.size := Array.length_toList
    have h4 := enc_len10 s.data.toList.length (by omega)
    omega
  have hwsg : W.sg = (g.n : Int) := by rw [h.w]
  have hwbr : W.br = false := by rw [h.w]
  have hwrc : W.rc = R ++ L := by rw [h.w]
  obtain ⟨S1, e1, hF1⟩ := h.fold.append hg hwsg hwbr (l := [s]) (fun x hx => by obtain rfl := List.mem_singleton.1 hx; omega) (by omega)
  rw [put_last h.fold.rise] at hF1
  have hct := h.ct.more (l := [s]) (fun x hx => by obtain rfl := List.mem_singleton.1 hx; omega) g.k
  obtain ⟨g1, hg1⟩ : ∃ g1 : Sg, g1 = ⟨g.n, g.q, g.s ++ tx (frs (byL [s])), g.k⟩ := ⟨_, rfl⟩
  rw [← hg1] at hF1 hct
  have hz1 : g1.s.size ≤ 4920 := by
    rw [hg1]
    show (g.s ++ tx (frs (byL [s]))).size ≤ _
    rw [ByteArray.size_append, tx_size]
    have := h.low.1
    omega
  have hn1 : g1.n = g.n := by rw [hg1]
  have hq1 : g1.q = g.q := by rw [hg1]
  refine ⟨S1, _, e1, by rw [hwrc], hF1.chg, fun hfq => ?_⟩
  have hg1m : g1 ∈ gs ++ [g1] := List.mem_append.2 (Or.inr List.mem_cons_self)
  have hsum1 : ((gs ++ [g1]).map (·.s.size)).sum ≤ 210000 := by
    rw [List.map_append, List.sum_append] at hsum ⊢
    simp only [List.map_cons, List.map_nil, List.sum_cons, List.sum_nil] at hsum ⊢
    omega
  have hlw : lastW ({ W with rc := W.rc ++ [s] } : WS) = (((R ++ L) ++ [s]).length : Int) := by
    rw [h.w]
    unfold lastW
    show (1 : Int) + (((R ++ L) ++ [s]).length : Int) - 1 = _
    omega
  have hlenG : gs.length ≤ 29 := by
    have := h.few
    rw [List.length_append] at hn
    omega
  by_cases hbig : g1.s.size ≤ 4000
  · obtain ⟨S2, e2, hF2⟩ := hF1.syncW_in (W := { W with rc := W.rc ++ [s] }) hg1m (by rw [hn1]; exact hwsg) hwbr hbig q
    rw [put_last hF1.rise] at hF2
    refine ⟨S2, _, gs, ⟨g1.n, g1.q, g1.s, g1.s.size⟩, R, L ++ [s], kp, e2, ⟨hF2, h.pre, ⟨hct.s, hct.ok, hct.st, hct.L, hct.t⟩, ?_, by show g1.n = _; rw [hn1]; exact h.n, h.big, ⟨hbig, rfl⟩, h.few⟩, by rw [List.append_assoc]⟩
    rw [hlw, hwrc, h.w, ← List.append_assoc]
    show (⟨(g.n : Int), _, _, _, _, _⟩ : WS) = ⟨(g1.n : Int), _, _, _, _, _⟩
    rw [hn1]
  · have hL : (1 : Int) + (R.length : Int) + ((L ++ [s]).length : Int) = lastW ({ W with rc := W.rc ++ [s] } : WS) + 1 := by
      rw [hlw]
      simp only [List.length_append]
      omega
    have hb1 : 1 ≤ lastW ({ W with rc := W.rc ++ [s] } : WS) + 1 := by rw [hlw]; omega
    have hb2 : lastW ({ W with rc := W.rc ++ [s] } : WS) + 1 ≤ 1099511627776 := by
      rw [hlw, List.length_append]
      show ((((R ++ L).length + 1 : Nat)) : Int) + 1 ≤ _
      omega
    have hsm := head_small hb1 hb2
    have hp := headB_pos (right_of hb1 hb2) (by decide)
    obtain ⟨hd, hhd⟩ : ∃ hd, headB (lastW ({ W with rc := W.rc ++ [s] } : WS) + 1) false ⟨#[]⟩ = hd := ⟨_, rfl⟩
    rw [hhd] at hsm hp
    have htop : topN (gs ++ [g1]) = g1.n := top_snoc gs g1
    have hnn : g1.n = gs.length + 1 := by rw [hn1]; exact h.n
    obtain ⟨S2, e2, hF2⟩ := hF1.syncW_out (W := { W with rc := W.rc ++ [s] }) hg1m (by rw [hn1]; exact hwsg) hwbr (by omega) (q := q) (by rw [htop]; omega) (by rw [List.length_append]; show gs.length + 1 < 64; omega) hfq (fun x hx => by
      have := hF1.fil x hx
      exact fun e => hfq _ (filQ_mem this).1 e) hhd hp.1 (by omega)
    rw [put_last hF1.rise, htop] at hF2
    rw [htop] at e2
    have hpre' : Pre (gs ++ [⟨g1.n, g1.q, g1.s, g1.s.size⟩]) (R ++ (L ++ [s])) false := Or.inr ⟨h.pre.chain (g := ⟨g1.n, g1.q, g1.s, g1.s.size⟩) ⟨hct.s, hct.ok, hct.st, hct.L, hct.t⟩ (fun e => by show g1.n = 1; rw [hnn, e]; rfl), rfl⟩
    refine ⟨S2, _, gs ++ [⟨g1.n, g1.q, g1.s, g1.s.size⟩], ⟨g1.n + 1, q, hd, hd.size⟩, R ++ (L ++ [s]), [], false, e2, ⟨hF2, hpre', ?_, ?_, ?_, ?_, ⟨by show hd.size ≤ 4000; omega, rfl⟩, ?_⟩, by rw [List.append_nil, List.append_assoc]⟩
    · have e : (1 : Int) + ((R ++ (L ++ [s])).length : Int) = lastW ({ W with rc := W.rc ++ [s] } : WS) + 1 := by rw [← hL]; simp only [List.length_append]; omega
      rw [e, ← hhd]
      exact head_ct (right_of hb1 hb2) (by decide)
    · rw [hlw, hwrc, h.w, List.append_nil, ← List.append_assoc]
    · show g1.n + 1 = (gs ++ [_]).length + 1
      rw [List.length_append, hnn]; rfl
    · intro x hx
      rcases List.mem_append.1 hx with hx | hx
      · exact h.big x hx
      · obtain rfl := List.mem_singleton.1 hx
        exact ⟨by show 4000 < g1.s.size; omega, hz1, rfl⟩
    · have := h.few
      rw [List.length_append, List.length_append, List.length_append]
      show gs.length + 1 ≤ R.length + (L.length + 1)
      omega
end Go.Proofs.YteijmjbiaffcmaaGreatDoor

/- A checkpoint of a log in a folder of several segments. -/
set_option maxRecDepth 20000
set_option linter.unusedSimpArgs false
set_option linter.unusedVariables false
namespace Go.Proofs.YteijmjbiaffcmaaGreatDoor
open Go.RowKit Go.Maps Go.Shelf Go.Proofs.YteijmjbiaffcmaaGreatDoor.Vi Go.Proofs.YteijmjbiaffcmaaGreatDoor.Crc Go.Proofs.YteijmjbiaffcmaaGreatDoor.Fr Go.Proofs.YteijmjbiaffcmaaGreatDoor.Fi

theorem rise_nodup {G : List Sg} (h : Rise G) : (G.map (·.n)).Nodup := by
  unfold List.Nodup
  rw [List.pairwise_map]
  exact List.Pairwise.imp (fun h => by omega) h
theorem upd_fresh {S : FS} {q p : Nat} {s : ByteArray} {k : Nat} (hq : ∀ f ∈ S.fil, f.q ≠ q) : ∀ f ∈ (updS S p s k).fil, f.q ≠ q := fun f hf => by
  rcases updQ_mem hf with ⟨rfl, y, hy, e⟩ | ⟨hf, -⟩
  · rw [← e]; exact hq y hy
  · exact hq f hf
theorem put_top (G : List Sg) (n : Nat) (s : ByteArray) (k : Nat) : topN (putG G n s k) = topN G := by
  unfold topN putG
  rw [List.getLast?_map]
  cases G.getLast? with
  | none => rfl
  | some x =>
    show (if x.n = n then (⟨x.n, x.q, s, k⟩ : Sg) else x).n = x.n
    split <;> rfl
theorem Fold.ckpt {S : FS} {r : Int} {G : List Sg} (h : Fold S r G) {W : WS} {g : Sg} (hg : g ∈ G) (hw : W.sg = (g.n : Int)) (hbr : W.br = false) {st : ByteArray} (hst : st.size ≤ 60000) {q : Nat} (h60 : topN G + 1 ≤ 60) (hlen : G.length < 64) (hq : ∀ f ∈ S.fil, f.q ≠ q) {hd : ByteArray} (hh : headB (lastW W + 1) true st = hd) (hs0 : hd.size ≠ 0) (hu : (((G.map (·.s.size)).sum : Nat) : Int) + (hd.size : Int) ≤ r) :
    ∃ S', ckptW S W st q = (0, S', ⟨((topN G + 1 : Nat) : Int), st, lastW W + 1, [], lastW W, false⟩) ∧ Fold S' r [⟨topN G + 1, q, hd, hd.size⟩] := by
  have e0 : settleW S W = (0, updS S g.q g.s g.s.size, { W with fm := lastW W }) := by
    unfold settleW
    rw [segW_nat hw (h.num g hg), h.sync hg, if_pos rfl]
  have hF := h.upd hg g.s g.s.size
  have esum : ((putG G g.n g.s g.s.size).map (·.s.size)).sum = (G.map (·.s.size)).sum := by
    unfold putG
    rw [List.map_map]
    congr 1
    refine List.map_congr_left fun x hx => ?_
    show (if x.n = g.n then (⟨x.n, x.q, g.s, g.s.size⟩ : Sg) else x).s.size = _
    by_cases c : x.n = g.n
    · obtain rfl := rise_uniq h.rise hx hg c
      rw [if_pos rfl]
    · rw [if_neg c]
  obtain ⟨S2, e2, hF2⟩ := hF.begin (W := { W with fm := lastW W }) (k := true) (st := st) (q := q) (by rw [put_top]; exact h60) (by unfold putG; rw [List.length_map]; exact hlen) (upd_fresh hq) (fun x hx => by
      obtain ⟨y, hy, hyx⟩ := putG_mem hx
      have e : x.q = y.q := by rcases hyx with ⟨_, rfl⟩ | ⟨_, rfl⟩ <;> rfl
      rw [e]
      exact fun e2 => hq _ (filQ_mem (h.fil y hy)).1 e2) (hd := hd) hh hs0 (by rw [esum]; exact hu)
  rw [put_top] at e2 hF2
  obtain ⟨S3, e3, hF3⟩ := FoldN.remove (fun n => ((n : Int) != ((topN G + 1 : Nat) : Int))) (ckpt3 { ({ W with fm := lastW W } : WS) with sg := ((topN G + 1 : Nat) : Int) } st) (numsS S2) hF2.names (by rw [hF2.nums]; exact rise_nodup hF2.rise) (fun n hn => by
    rw [hF2.nums] at hn
    obtain ⟨x, hx, e⟩ := List.mem_map.1 hn
    exact ⟨x, hx, e⟩)
  have efil : ((putG G g.n g.s g.s.size ++ [(⟨topN G + 1, q, hd, hd.size⟩ : Sg)]).filter fun x => !(decide (x.n ∈ numsS S2) && ((x.n : Int) != ((topN G + 1 : Nat) : Int)))) = [⟨topN G + 1, q, hd, hd.size⟩] := by
    rw [List.filter_append]
    have h1 : ((putG G g.n g.s g.s.size).filter fun x => !(decide (x.n ∈ numsS S2) && ((x.n : Int) != ((topN G + 1 : Nat) : Int)))) = [] := by
      rw [List.filter_eq_nil_iff]
      intro x hx
      have hle := top_le hF.rise x hx
      rw [put_top] at hle
      have hin : x.n ∈ numsS S2 := by rw [hF2.nums]; exact List.mem_map.2 ⟨x, List.mem_append.2 (Or.inl hx), rfl⟩
      have hne : ((x.n : Int) != ((topN G + 1 : Nat) : Int)) = true := by rw [bne_iff_ne]; omega
      rw [decide_eq_true hin, hne]
      decide
    rw [h1]
    have h2 : (((topN G + 1 : Nat) : Int) != ((topN G + 1 : Nat) : Int)) = false := by simp
    rw [List.filter_cons, h2]
    simp
  rw [efil] at hF3
  obtain ⟨e4, hF4⟩ := hF3.settled
  refine ⟨settleS S3, ?_, hF4⟩
  unfold ckptW
  rw [hbr, if_neg (by decide), if_neg (by omega), e0, if_neg (by simp)]
  dsimp only
  rw [e2]
  unfold ckpt2
  rw [if_neg (by simp)]
  dsimp only
  rw [e3]
  unfold ckpt4
  rw [if_neg (by simp)]
  dsimp only
  rw [e4]
  have elw : lastW ({ ({ W with fm := lastW W } : WS) with sg := ((topN G + 1 : Nat) : Int) } : WS) = lastW W := rfl
  unfold ckpt3 toldW
  rw [elw]
  simp [hbr]
end Go.Proofs.YteijmjbiaffcmaaGreatDoor

/- WalRolls as mathematics. -/
set_option maxRecDepth 20000
set_option linter.unusedSimpArgs false
set_option linter.unusedVariables false
namespace Go.Proofs.YteijmjbiaffcmaaGreatDoor
open Go.RowKit Go.Maps Go.Shelf Go.Proofs.YteijmjbiaffcmaaGreatDoor.Vi Go.Proofs.YteijmjbiaffcmaaGreatDoor.Crc Go.Proofs.YteijmjbiaffcmaaGreatDoor.Fr Go.Proofs.YteijmjbiaffcmaaGreatDoor.Fi

theorem Fold.read {S : FS} {r : Int} {G : List Sg} (h : Fold S r G) {g : Sg} (hg : g ∈ G) : readS S (tx (seg g.n)) = (g.s, 0) := read_q h.quiet seg_ok (h.look hg) (h.fil g hg)
theorem text_le {S : FS} {r : Int} {G : List Sg} (h : Fold S r G) {B : Nat} (hB : ∀ g ∈ G, g.s.size ≤ B) (n : Nat) : (textS S n).size ≤ B := by
  unfold textS readS
  split
  · rename_i q e hf
    obtain ⟨-, hl⟩ := find_some hf
    unfold Fi.look at hl
    rw [Option.map_eq_some_iff] at hl
    obtain ⟨p, hp, rfl⟩ := hl
    have hm := List.mem_of_find?_eq_some hp
    rw [h.now] at hm
    obtain ⟨g, hg, rfl⟩ := List.mem_map.1 hm
    show (filS S g.q).s.size ≤ B
    unfold filS
    rw [h.fil g hg]
    exact hB g hg
  · exact Nat.zero_le _
theorem Fold.texts {S : FS} {r : Int} {G : List Sg} (h : Fold S r G) {B : Nat} (hB : ∀ g ∈ G, g.s.size ≤ B) (n : Nat) : (textS (syncL S (numsS S)).2 n).size ≤ B := by
  obtain ⟨-, hF⟩ := Fold.syncs (G.map (·.n)) h (fun n hn => by obtain ⟨g, hg, e⟩ := List.mem_map.1 hn; exact ⟨g, hg, e⟩)
  rw [firmG_all] at hF
  rw [h.nums]
  refine text_le hF (fun g hg => ?_) n
  obtain ⟨x, hx, rfl⟩ := List.mem_map.1 hg
  exact hB x hx
theorem Fold.crash_firm {S : FS} {r : Int} {G : List Sg} (h : Fold S r G) (hk : ∀ g ∈ G, g.k = g.s.size) (l : List Int) : Fold (crashS S l) r G := by
  obtain ⟨φ, hF, hc⟩ := h.crash l
  have e : G.map φ = G := (List.map_congr_left fun g hg => (hc g hg).firm (hk g hg)).trans (List.map_id _)
  rw [e] at hF
  exact hF
/-- A log that is synced behind each record, of these records. -/
def RollE (S : FS) (W : WS) (xs : List ByteArray) : Prop := ∃ gs g R L kp, Roll S W gs g R L kp ∧ R ++ L = xs
theorem RollE.start (q0 : Nat) : RollE (oneS 1000000 q0 aH1 8) (aW 1 ⟨#[]⟩ 1 [] 0) [] := by
  have hct : Ct ⟨1, q0, aH1, 8⟩ (1 + (([] : List ByteArray).length : Int)) true ⟨#[]⟩ [] [] := by
    have := head_ct (n := 1) (q := q0) (f := 1) (kp := true) (st := ⟨#[]⟩) rfl (by decide)
    exact ⟨this.s, this.ok, this.st, this.L, this.t⟩
  refine ⟨[], ⟨1, q0, aH1, 8⟩, [], [], true, ⟨⟨rfl, rfl, rfl, rfl, rfl, rfl, fun g hg => ?_, List.pairwise_singleton _ _, fun g hg => ?_⟩, Or.inl ⟨rfl, rfl, rfl⟩, hct, rfl, rfl, fun x hx => absurd hx List.not_mem_nil, ⟨?_, ?_⟩, Nat.le_refl _⟩, rfl⟩
  · obtain rfl := List.mem_singleton.1 hg
    exact ⟨Nat.le_refl _, by show 1 ≤ 60; decide⟩
  · obtain rfl := List.mem_singleton.1 hg
    simp [oneS, filQ]
  · show aH1.size ≤ 4000
    rw [aH1_size]; decide
  · show 8 = aH1.size
    rw [aH1_size]
theorem RollE.w {S : FS} {W : WS} {xs : List ByteArray} (h : RollE S W xs) (hn : xs.length ≤ 30) : ∃ sg : Int, W = ⟨sg, ⟨#[]⟩, 1, xs, (xs.length : Int), false⟩ ∧ 1 ≤ sg ∧ sg ≤ 31 := by
  obtain ⟨gs, g, R, L, kp, h, rfl⟩ := h
  refine ⟨(g.n : Int), h.w, ?_, ?_⟩
  · have := h.n; omega
  · have h1 := h.n
    have h2 := h.few
    rw [List.length_append] at hn
    omega
theorem RollE.fine {S : FS} {W : WS} {xs : List ByteArray} (h : RollE S W xs) (hn : xs.length ≤ 30) : Fine W := by
  obtain ⟨sg, rfl, h1, h2⟩ := h.w hn
  exact ⟨by show (0 : Int) ≤ 1; decide, by show (1 : Int) ≤ 2199023255552; decide, by show xs.length ≤ _; omega, by show 0 ≤ sg; omega, by show sg ≤ _; omega⟩
theorem RollE.app {S : FS} {W : WS} {xs : List ByteArray} (h : RollE S W xs) (hn : xs.length < 30) {s : ByteArray} (hs : s.size ≤ 900) :
    ∃ S1 W1, appendW S W [s] = (0, S1, W1) ∧ Fine W1 ∧ (settleW S1 W1).2.1.chg.length ≤ 900000 ∧ ∀ q, (∀ f ∈ S1.fil, f.q ≠ q) → ∃ S2 W2, syncW S1 W1 q = (0, S2, W2) ∧ RollE S2 W2 (xs ++ [s]) := by
  obtain ⟨sg, hW, h1, h2⟩ := h.w (by omega)
  obtain ⟨gs, g, R, L, kp, h, rfl⟩ := h
  obtain ⟨S1, W1, e1, eW, hc, -⟩ := h.step hn hs 0
  refine ⟨S1, W1, e1, ?_, ?_, fun q hq => ?_⟩
  · rw [eW, hW]
    exact ⟨by show (0 : Int) ≤ 1; decide, by show (1 : Int) ≤ 2199023255552; decide, by show ((R ++ L) ++ [s]).length ≤ _; rw [List.length_append]; show (R ++ L).length + 1 ≤ _; omega, by show 0 ≤ sg; omega, by show sg ≤ _; omega⟩
  · have e : (settleW S1 W1).2.1.chg = [] := by
      unfold settleW
      split
      · show (syncS S1 (segW W1)).2.chg = []
        rw [syncS_chg, hc]
      · show (syncS S1 (segW W1)).2.chg = []
        rw [syncS_chg, hc]
    rw [e]
    exact Nat.zero_le _
  · obtain ⟨S1', W1', e1', -, -, k⟩ := h.step hn hs q
    rw [e1] at e1'
    injection e1' with _ e2
    injection e2 with e3 e4
    subst e3 e4
    obtain ⟨S2, W2, gs', g', R', L', kp', h3, h4, h5⟩ := k hq
    exact ⟨S2, W2, h3, gs', g', R', L', kp', h4, h5⟩
/-- The segments at the end. -/
theorem RollE.segs {S : FS} {W : WS} {xs : List ByteArray} (h : RollE S W xs) (hn : xs.length ≤ 30) : ∃ G, Fold S 1000000 G ∧ Chain G 1 1 ⟨#[]⟩ xs ∧ (G.map (·.s.size)).sum ≤ 200000 ∧ topN G ≤ 31 ∧ 1 ≤ topN G ∧ G.length ≤ 31 ∧ (∀ g ∈ G, g.k = g.s.size) ∧ ∀ j (hj : j < G.length), G[j].s.size ≤ 4920 ∧ (j + 1 < G.length → 4000 < G[j].s.size) := by
  obtain ⟨gs, g, R, L, kp, h, rfl⟩ := h
  have h1 := h.n
  have h2 := h.few
  have h3 := hn
  rw [List.length_append] at h3
  refine ⟨gs ++ [g], h.fold, h.pre.chain h.ct (fun e => by rw [h1, e]; rfl), h.sum hn, by rw [top_snoc]; omega, by rw [top_snoc]; omega, by rw [List.length_append]; show gs.length + 1 ≤ 31; omega, fun x hx => ?_, fun j hj => ?_⟩
  · rcases List.mem_append.1 hx with hx | hx
    · exact (h.big x hx).2.2
    · obtain rfl := List.mem_singleton.1 hx
      exact h.low.2
  · rw [List.length_append] at hj
    have hj2 : j < gs.length + 1 := hj
    by_cases c : j < gs.length
    · rw [List.getElem_append_left c]
      have := h.big gs[j] (List.getElem_mem c)
      exact ⟨this.2.1, fun _ => this.1⟩
    · have e : j = gs.length := by omega
      subst e
      have h4 := h.low.1
      refine ⟨by simp; omega, fun k => ?_⟩
      rw [List.length_append] at k
      have k2 : gs.length + 1 < gs.length + 1 := k
      omega
/-- A log opened anew. -/
structure Ended (S : FS) (W : WS) (xs : List ByteArray) : Prop where
  has : ∃ G g, Fold S 1000000 G ∧ g ∈ G ∧ W = ⟨(g.n : Int), ⟨#[]⟩, 1, xs, (xs.length : Int), false⟩ ∧ topN G ≤ 32 ∧ G.length ≤ 32 ∧ (G.map (·.s.size)).sum ≤ 200100
theorem roll_open {S : FS} {G : List Sg} {xs : List ByteArray} (h : Fold S 1000000 G) (c : Chain G 1 1 ⟨#[]⟩ xs) (hs : (G.map (·.s.size)).sum ≤ 200000) (ht : topN G ≤ 31) (hl : G.length ≤ 31) (hn : xs.length ≤ 30) {q : Nat} (hq : ∀ f ∈ S.fil, f.q ≠ q) : ∃ S' W', openW S q = (0, S', W') ∧ Ended S' W' xs := by
  have hb1 : (1 : Int) ≤ 1 + (xs.length : Int) := by omega
  have hb2 : 1 + (xs.length : Int) ≤ 1099511627776 := by omega
  have hsm := head_small hb1 hb2
  have hp := headB_pos (right_of hb1 hb2) (by decide)
  obtain ⟨hd, hhd⟩ : ∃ hd, headB (1 + (xs.length : Int)) false ⟨#[]⟩ = hd := ⟨_, rfl⟩
  rw [hhd] at hsm hp
  obtain ⟨S', e, hF⟩ := h.open_ c (q := q) (by omega) (by omega) hq (fun g hg e => hq _ (filQ_mem (h.fil g hg)).1 e) hhd hp.1 (by omega)
  refine ⟨S', _, e, ⟨_, ⟨topN G + 1, q, hd, hd.size⟩, hF, List.mem_append.2 (Or.inr List.mem_cons_self), ?_, ?_, ?_, ?_⟩⟩
  · have e2 : 1 + (xs.length : Int) - 1 = (xs.length : Int) := by omega
    rw [e2]
  · rw [top_snoc]; show topN G + 1 ≤ 32; omega
  · rw [List.length_append, List.length_map]; show G.length + 1 ≤ 32; omega
  · rw [List.map_append, List.sum_append, List.map_map]
    have e3 : (G.map ((fun x : Sg => x.s.size) ∘ fun g => (⟨g.n, g.q, g.s, g.s.size⟩ : Sg))).sum = (G.map (·.s.size)).sum := rfl
    rw [e3]
    simp only [List.map_cons, List.map_nil, List.sum_cons, List.sum_nil]
    omega
theorem Ended.fine {S : FS} {W : WS} {xs : List ByteArray} (h : Ended S W xs) (hn : xs.length ≤ 30) : Fine W := by
  obtain ⟨G, g, hF, hg, rfl, -⟩ := h.has
  have := hF.num g hg
  exact ⟨by show (0 : Int) ≤ 1; decide, by show (1 : Int) ≤ 2199023255552; decide, by show xs.length ≤ _; omega, by show (0 : Int) ≤ (g.n : Int); omega, by show (g.n : Int) ≤ _; omega⟩
theorem Ended.rc {S : FS} {W : WS} {xs : List ByteArray} (h : Ended S W xs) : W.rc = xs := by
  obtain ⟨G, g, hF, hg, rfl, -⟩ := h.has
  rfl
theorem Ended.last {S : FS} {W : WS} {xs : List ByteArray} (h : Ended S W xs) : lastW W = (xs.length : Int) := by
  obtain ⟨G, g, hF, hg, rfl, -⟩ := h.has
  unfold lastW
  show (1 : Int) + (xs.length : Int) - 1 = _
  omega
theorem Ended.chg {S : FS} {W : WS} {xs : List ByteArray} (h : Ended S W xs) : (settleW S W).2.1.chg.length ≤ 900000 := by
  obtain ⟨G, g, hF, hg, -, -⟩ := h.has
  have e : (settleW S W).2.1.chg = [] := by
    unfold settleW
    split
    · show (syncS S (segW W)).2.chg = []
      rw [syncS_chg, hF.chg]
    · show (syncS S (segW W)).2.chg = []
      rw [syncS_chg, hF.chg]
  rw [e]
  exact Nat.zero_le _
/-- A folder of one segment, that of a checkpoint. -/
structure Done1 (S : FS) (st : ByteArray) (f : Int) : Prop where
  has : ∃ g : Sg, Fold S 1000000 [g] ∧ Ct g f true st [] [] ∧ g.k = g.s.size ∧ g.n ≤ 40 ∧ g.s.size ≤ 70200
theorem right_st {f : Int} {st : ByteArray} (h1 : 1 ≤ f) (h2 : f ≤ 1099511627776) (hs : st.size ≤ 60000) : rightB f true st = true := by
  unfold rightB
  rw [decide_eq_true h1, decide_eq_true h2]
  simp
theorem roll_ckpt {S : FS} {W : WS} {xs : List ByteArray} (h : Ended S W xs) (hn : xs.length ≤ 30) {st : ByteArray} (hst : st.size ≤ 300) {q : Nat} (hq : ∀ f ∈ S.fil, f.q ≠ q) :
    ∃ S' sg, ckptW S W st q = (0, S', ⟨sg, st, (xs.length : Int) + 1, [], (xs.length : Int), false⟩) ∧ Done1 S' st ((xs.length : Int) + 1) ∧ (numsS S').length = 1 := by
  have hlw := h.last
  obtain ⟨G, g, hF, hg, rfl, h1, h2, h3⟩ := h.has
  have hb1 : (1 : Int) ≤ (xs.length : Int) + 1 := by omega
  have hb2 : (xs.length : Int) + 1 ≤ 1099511627776 := by omega
  have hr := right_st hb1 hb2 (show st.size ≤ 60000 by omega)
  have hp := headB_pos hr (by omega)
  obtain ⟨hd, hhd⟩ : ∃ hd, headB ((xs.length : Int) + 1) true st = hd := ⟨_, rfl⟩
  rw [hhd] at hp
  obtain ⟨S', e, hF'⟩ := hF.ckpt hg (W := ⟨(g.n : Int), ⟨#[]⟩, 1, xs, (xs.length : Int), false⟩) rfl rfl (st := st) (by omega) (q := q) (by omega) (by omega) hq (hd := hd) (by rw [hlw, hhd]) hp.1 (by omega)
  rw [hlw] at e
  have hct := head_ct (n := topN G + 1) (q := q) hr (show st.size ≤ 60000 by omega)
  rw [hhd] at hct
  refine ⟨S', _, e, ⟨⟨_, hF', hct, rfl, by show topN G + 1 ≤ 40; omega, hp.2⟩⟩, ?_⟩
  rw [hF'.nums]; rfl
theorem Done1.crash {S : FS} {st : ByteArray} {f : Int} (h : Done1 S st f) (l : List Int) : Done1 (crashS S l) st f := by
  obtain ⟨g, hF, h1, h2, h3, h4⟩ := h.has
  exact ⟨g, hF.crash_firm (fun x hx => by obtain rfl := List.mem_singleton.1 hx; exact h2) l, h1, h2, h3, h4⟩
theorem Done1.texts {S : FS} {st : ByteArray} {f : Int} (h : Done1 S st f) (n : Nat) : (textS (syncL S (numsS S)).2 n).size ≤ 1000000 := by
  obtain ⟨g, hF, h1, h2, h3, h4⟩ := h.has
  exact Nat.le_trans (hF.texts (B := 70200) (fun x hx => by obtain rfl := List.mem_singleton.1 hx; exact h4) n) (by decide)
theorem Done1.chg {S : FS} {st : ByteArray} {f : Int} (h : Done1 S st f) : S.chg = [] := by
  obtain ⟨g, hF, -⟩ := h.has
  exact hF.chg
theorem Done1.open_ {S : FS} {st : ByteArray} {f : Int} (h : Done1 S st f) (hf1 : 1 ≤ f) (hf2 : f ≤ 1000) {q : Nat} (hq : ∀ f ∈ S.fil, f.q ≠ q) : ∃ S' sg, openW S q = (0, S', ⟨sg, st, f, [], f - 1, false⟩) ∧ 0 ≤ sg ∧ sg ≤ 100 := by
  obtain ⟨g, hF, h1, h2, h3, h4⟩ := h.has
  have hb2 : f ≤ 1099511627776 := by omega
  have hsm := head_small hf1 hb2
  have hp := headB_pos (right_of hf1 hb2) (by decide)
  obtain ⟨hd, hhd⟩ : ∃ hd, headB f false ⟨#[]⟩ = hd := ⟨_, rfl⟩
  rw [hhd] at hsm hp
  have htop : topN [g] = g.n := rfl
  obtain ⟨S', e, -⟩ := hF.open_ (chain_one h1) (q := q) (by rw [htop]; omega) (by show 1 < 64; decide) hq (fun x hx e => hq _ (filQ_mem (hF.fil x hx)).1 e) (hd := hd) (by
    have e0 : f + (([] : List ByteArray).length : Int) = f := by show f + 0 = f; omega
    rw [e0, hhd]) hp.1 (by simp only [List.map_cons, List.map_nil, List.sum_cons, List.sum_nil]; omega)
  refine ⟨S', ((topN [g] + 1 : Nat) : Int), e.trans ?_, ?_, ?_⟩
  · have e0 : f + (([] : List ByteArray).length : Int) - 1 = f - 1 := by show f + 0 - 1 = _; omega
    rw [e0]
  · omega
  · rw [htop]; omega
end Go.Proofs.YteijmjbiaffcmaaGreatDoor

/- What the walk of WalRolls needs of worlds. -/
set_option maxRecDepth 20000
set_option linter.unusedSimpArgs false
set_option linter.unusedVariables false
namespace Go.Proofs.YteijmjbiaffcmaaGreatDoor
open Go.RowKit Go.Maps Go.Shelf Go.Proofs.YteijmjbiaffcmaaGreatDoor.Vi Go.Proofs.YteijmjbiaffcmaaGreatDoor.Crc Go.Proofs.YteijmjbiaffcmaaGreatDoor.Fr Go.Proofs.YteijmjbiaffcmaaGreatDoor.Fi

section
variable {w0 w w' : World} {b a : Nat} {S S' : FS} {L L' : Lay} {W W' : WS} {v v' u : Value} {xs : List ByteArray}
theorem DAt.unlike (h : DAt w0 w b S L) {q : Nat} (hq : w.heap.size ≤ q) : ∀ f ∈ S.fil, f.q ≠ q := fun f hf e => by
  have h1 : f.q < w.heap.size := h.dir.at_.room (Or.inr (Or.inr (Or.inr (Or.inr ⟨f, hf, Or.inl rfl⟩))))
  omega
theorem LAt.unlike (h : LAt w0 w b S L a W v) {q : Nat} (hq : w.heap.size ≤ q) : ∀ f ∈ S.fil, f.q ≠ q := h.d.unlike hq
theorem Rec.over (hr : Rec w u xs) (h : DAt w0 w b S L) (k : Frm (mods b S L) w w') : Rec w' u xs := hr.of fun i hi => by
  obtain ⟨c, e⟩ := hr.heap hi
  exact k.block i (some_lt e) (h.dir.at_.not e (by decide) (by decide) (by decide) (by decide))
theorem names_row {B : Nat} {r : Int} {G : List Sg} (h : Fold S r G) (hr : NRow w B u (S.now.map (·.1))) (h0 : 0 < G.length) : ∃ p c, u = .slice (some ⟨p, 0, none⟩) G.length c ∧ p < w.heap.size ∧ ∀ j (hj : j < G.length), w.cell? ⟨p, j, none⟩ = some (.string (tx (seg G[j].n))) := by
  have e : S.now.map (·.1) = G.map fun g => seg g.n := by rw [h.now, List.map_map]; rfl
  rw [e] at hr
  have hlen : (G.map fun g => seg g.n).length = G.length := List.length_map ..
  obtain ⟨x, c, hu⟩ := nrow_slice hr
  subst hu
  obtain ⟨p, hx, hp, -⟩ := nrow_cell hr (j := 0) (by rw [hlen]; exact h0)
  subst hx
  refine ⟨p, c, by rw [hlen], hp, fun j hj => ?_⟩
  obtain ⟨p', e1, -, e2⟩ := nrow_cell hr (j := j) (by rw [hlen]; exact hj)
  injection e1 with e1
  injection e1 with e1
  subst e1
  rw [e2, List.getElem_map]
  rfl
theorem is_ints {W0 : World} {p : Nat} {l : List Int} {t : TypeId} (h : W0.heap[p]? = some (.cells (l.map fun z => Value.int .i64 z).toArray t)) (hw : ∀ n ∈ l, -9223372036854775808 ≤ n ∧ n ≤ 9223372036854775807) (hl : l.length ≤ 9223372036854775807) : Is W0 (.slice (some ⟨p, 0, none⟩) l.length l.length) l :=
  ⟨⟨_, _, rfl, Or.inr ⟨p, 0, rfl, some_lt h, fun j hj => by
    have e : W0.cell? ⟨p, 0 + j, none⟩ = (l.map fun z => Value.int .i64 z).toArray[0 + j]? := cell_of h
    rw [e, Nat.zero_add]
    simp [hj]⟩⟩, hw, hl⟩
end
end Go.Proofs.YteijmjbiaffcmaaGreatDoor
/- The walk of WalRolls. -/
set_option maxRecDepth 20000
set_option linter.unusedSimpArgs false
set_option linter.unusedVariables false
namespace Go.Proofs.YteijmjbiaffcmaaGreatDoor
open Go.RowKit Go.Maps Go.Shelf Go.Proofs.YteijmjbiaffcmaaGreatDoor.Vi Go.Proofs.YteijmjbiaffcmaaGreatDoor.Crc Go.Proofs.YteijmjbiaffcmaaGreatDoor.Fr Go.Proofs.YteijmjbiaffcmaaGreatDoor.Fi

namespace walRolls
theorem text0 (r : Int) (n : Nat) : (textS (syncL (emptyS r) (numsS (emptyS r))).2 n).size ≤ 1000000 := by
  show (readS (emptyS r) _).1.size ≤ _
  exact read_size (fun f hf => by cases hf) _
set_option maxHeartbeats 16000000 in
theorem walk (a1 : Option Addr) (n1 c1 : Nat) (state : ByteArray) (w : World) (h1 : ArgStrs w a1 n1 c1) (_hst : state.size ≤ maxLen) (GL : Glob w) : Calls Tryz.prog 5 #[.slice a1 n1 c1, .string state] w fun e w' => e = .returned (.bool true) ∧ Below w.heap.size w w' := by
  have G := Lib.hid GL
  have ka := awake_is w GL
  obtain ⟨l, hl, hss⟩ : ∃ l : List ByteArray, l.length = n1 ∧ (0 < n1 → Ss w (.slice a1 n1 c1) l) := by
    rcases ss_of_args h1 with h | ⟨l, h2, h3, -⟩
    · exact ⟨[], h.symm, fun h' => by omega⟩
    · exact ⟨l, h2, fun _ => h3⟩
  have HN1 := Lib.hid hl
  have HSS := Lib.hid hss
  obtain ⟨N, hN⟩ : ∃ N, min n1 30 = N := ⟨_, rfl⟩
  have hNN : N ≤ 30 ∧ N ≤ n1 ∧ (N = n1 ∨ N = 30) := by omega
  obtain ⟨st, hst⟩ : ∃ st, cutS state 300 = st := ⟨_, rfl⟩
  have HST := Lib.hid (show st.size ≤ 300 by rw [← hst]; exact cutS_size _ _)
  have HS0 := Lib.hid hst
  clear hl hss hN GL h1 _hst hst
  go_enter Tryz.func5, Tryz.ntmps5
  go_wp2_with (first
    | (go_at_call 9; (with_reducible refine ka.mono ?_); rintro _ w1 ⟨rfl, hB⟩; (have HB1 := Lib.hid hB); (have k1 := new_dir 1000000 w1); clear hB ka)
    | (go_at_call 17; (with_reducible refine k1.mono ?_); rintro e w2 ⟨b, L2, rfl, hD, hB, hlo⟩; (have HD2 := Lib.hid (show DAt w w2 b (emptyS 1000000) L2 from ⟨hD, fun k hk => Nat.le_trans HB1.out.size (hlo k hk), HB1.out.trans (hB.mono HB1.out.size)⟩)); (have k2 := lawOpen_is HD2.out.dir HD2.out.lo HD2.out.bel.size (HD2.out.gl G.out) (by show 0 ≤ 800000; decide) (text0 1000000)); clear hD hB hlo k1)
    | (go_at_call 18; (with_reducible refine k2.mono ?_); rintro e w3 ⟨q0, -, L3, a, v3, hO⟩; rw [one_open0 1000000 (by decide)] at hO; (obtain rfl : e = .returned (.pointer (some ⟨a, 0, none⟩)) := hO.ret); (have HL3 := Lib.hid (show LAt w w3 b (oneS 1000000 q0 aH1 8) L3 a (aW 1 ⟨#[]⟩ 1 [] 0) v3 from HD2.out.open_ G.out hO)); (have k3 := lshort_is state st 300 300 w3 rfl (by decide) HS0); clear hO k2)
    | (go_at_call 10; (with_reducible refine k3.mono ?_); rintro _ w4 ⟨rfl, rfl⟩; clear k3))
  go_loopg [8, 9] N (fun g av ii wr => ∃ (i : Nat) (all : List ByteArray) (u v : Value) (L : Lay) (S : FS) (W : WS), i + g = N ∧ ii = .int .i64 (i : Int) ∧ av = u ∧ all.length = i ∧ Hid (RollE S W all) ∧ Hid (Rec wr u all) ∧ Hid (Off u b S L a v) ∧ Hid (∀ k, u.ownBlock = some k → w.heap.size ≤ k) ∧ LAt w wr b S L a W v)
  case atStart => exact ⟨0, [], .slice none 0 0, v3, L3, _, _, by omega, rfl, rfl, rfl, Lib.hid (RollE.start q0), Lib.hid (Rec.nil _), Lib.hid Off.nil, Lib.hid (fun k e => by cases e), HL3.out⟩
  case round =>
    obtain ⟨i, all, u, v, L, S, W, hi, rfl, rfl, hlen, hroll, hrec, hoff, hown, hlog⟩ := hrel
    have HLG := Lib.hid hlog
    clear hlog HL3
    cases gk with
    | zero =>
      obtain rfl : i = N := by omega
      have hexit : ¬ (i : Int) < (n1 : Int) ∨ ((i : Int) < (n1 : Int) ∧ ¬ (i : Int) < 30) := by omega
      have hlen30 : all.length ≤ 30 := by omega
      obtain ⟨G0, hF, hch, hsum, htop, htop1, hGl, hfirm, hbig⟩ := hroll.out.segs hlen30
      have HF := Lib.hid hF
      have HCH := Lib.hid hch
      have HSUM := Lib.hid hsum
      have HTOP := Lib.hid htop
      have HGL := Lib.hid hGl
      have HFIRM := Lib.hid hfirm
      have HBIG := Lib.hid hbig
      have HL30 := Lib.hid hlen30
      have HCG := Lib.hid (show S.chg = [] from hF.chg)
      have hG0 : 0 < G0.length := by
        cases G0 with
        | nil => exact absurd htop1 (by decide)
        | cons => exact Nat.succ_pos _
      obtain ⟨m, hm⟩ : ∃ m, G0.length = m := ⟨_, rfl⟩
      have HM := Lib.hid hm
      have HG0 := Lib.hid hG0
      have HTX := Lib.hid (hF.crash_firm hfirm [1, 1, 1])
      have HT5 := Lib.hid (HTX.out.texts (B := 4920) (fun g hg => by obtain ⟨j, hj, e⟩ := List.getElem_of_mem hg; rw [← e]; exact (hbig j hj).1))
      have km := names_dir HLG.out.log.at_.dir
      obtain ⟨ra, rc, rfl⟩ := hrec.out.slice
      have hmle : m ≤ 31 := by omega
      have hm1 : 1 ≤ m := by omega
      rw [hlen] at hrec hoff hown ⊢
      clear hF hch hsum htop htop1 hGl hfirm hbig hlen30 hroll hG0 hm
      have HR := hrec
      have HLEN := Lib.hid hlen
      rcases hexit with hx1 | ⟨hx1, hx2⟩
      · go_wp2_with (go_at_call 33; (with_reducible refine km.mono ?_); rintro e w5 ⟨u5, rfl, hr, hB⟩; (obtain ⟨p5, c5, hu5, hp5, hc5⟩ := names_row HF.out hr HG0.out); rw [HM.out] at hu5; subst hu5; (have HL5 := Lib.hid (HLG.out.below hB)); (have HR5 := Lib.hid (HR.out.later hB)); (have HP5 := Lib.hid hp5); (have HC5 := Lib.hid hc5); clear hr hB hp5 hc5 km)
        go_loopg [12] m (fun g jj wr => ∃ j : Nat, j + g = m ∧ jj = .int .i64 (j : Int) ∧ Below w5.heap.size w5 wr)
        case atStart => exact ⟨0, by omega, rfl, Below.refl _ _⟩
        case round =>
          obtain ⟨j, hj, rfl, hbel⟩ := hrel
          have HBE := Lib.hid hbel
          have HL6 := Lib.hid (HL5.out.below hbel)
          have HR6 := Lib.hid (HR5.out.later hbel)
          cases gk with
          | zero =>
            obtain rfl : j = m := by omega
            have hltm : ¬ (j : Int) < (j : Int) := by omega
            have hnw : IntKind.i64.wrap ((i : Int) + 1) = (i : Int) + 1 := by rw [IntKind.wrap_i64]; omega
            clear hbel
            go_wp2_with (first
              | (go_at_call 35; (have HA7 := Lib.hid (HL6.out.below (bel_al wr (.cells #[.int .i64 1, .int .i64 1, .int .i64 1] 3)))); (have HR7 := Lib.hid (HR6.out.later (bel_al wr (.cells #[.int .i64 1, .int .i64 1, .int .i64 1] 3)))); (have HNB := Lib.hid (show ¬ mods b S L wr.heap.size from fun h => by have := HL6.out.log.at_.dir.at_.room h; omega)); (have kc := crash_dir (.slice (some ⟨wr.heap.size, 0, none⟩) 3 3) [1, 1, 1] HA7.out.log.at_.dir.at_ HA7.out.log.at_.dir.whole (by rw [HCG.out]; exact Nat.zero_le _) (fun W k => is_ints (l := [1, 1, 1]) ((k.block _ (some_lt (heap_alloc_new wr (.cells #[.int .i64 1, .int .i64 1, .int .i64 1] 3))) HNB.out).trans (heap_alloc_new wr (.cells #[.int .i64 1, .int .i64 1, .int .i64 1] 3))) (by decide) (by decide))); (with_reducible refine kc.mono ?_); rintro e w8 ⟨L8, rfl, hW, hD⟩; (have HR8 := Lib.hid (HR7.out.over HA7.out.d hW.frm)); (have HD8 := Lib.hid (HA7.out.d.next hW hD)); (have k9 := lawOpen_is HD8.out.dir HD8.out.lo HD8.out.bel.size (HD8.out.gl G.out) (by rw [HTX.out.chg]; exact Nat.zero_le _) (fun n => Nat.le_trans (HT5.out n) (by decide))); clear hW hD kc)
              | (go_at_call 18; (with_reducible refine k9.mono ?_); rintro e w9 ⟨q1, hq, L9, x, v9, hO⟩; (obtain ⟨S9, W9, e9, hE⟩ := roll_open HTX.out HCH.out HSUM.out HTOP.out HGL.out HL30.out (HD8.out.unlike hq)); rw [e9] at hO; (obtain rfl : e = .returned (.pointer (some ⟨x, 0, none⟩)) := hO.ret); (have HR9 := Lib.hid (HR8.out.over HD8.out hO.frm)); (have HL9 := Lib.hid (show LAt w w9 b S9 L9 x W9 v9 from HD8.out.open_ G.out hO)); (have HE9 := Lib.hid hE); (have k10 : Calls Tryz.prog 25 #[.pointer (some ⟨x, 0, none⟩)] w9 (TDone all w9) := by have h := records_is HL9.out.log.at_ (HE9.out.fine HL30.out); rw [HE9.out.rc] at h; exact h); clear hO hq e9 hE k9)
              | (go_at_call 25; (with_reducible refine k10.mono ?_); rintro e w10 ⟨u10, rfl, hR, hB⟩; (have HL10 := Lib.hid (HL9.out.below hB)); (have HP := Lib.hid (show Ss w10 u10 all from SRow.ss (B := 0) (row_base hR))); (have HP2 := Lib.hid (HR9.out.later hB).ss); (have HPZ := Lib.hid (show prefB all all (i : Int) = true from by have e := prefB_self all; rw [HLEN.out] at e; exact e)); (have k11 := prefix_is _ _ _ _ (i : Int) _ HP.out HP2.out true HPZ); clear hR hB k10)
              | (go_at_call 36; (with_reducible refine k11.mono ?_); rintro e w11 ⟨rfl, hB⟩; (have HL11 := Lib.hid (HL10.out.below hB)); (have k12 := ckpt_is HL11.out.log (HE9.out.fine HL30.out) st HE9.out.chg (by have := HE9.out.last; have := HL30.out; omega)); clear hB k11)
              | (go_at_call 22; (with_reducible refine k12.mono ?_); rintro e w12 ⟨q2, hq, hWD⟩; (obtain ⟨S12, sg, e12, hDn, hnum⟩ := roll_ckpt HE9.out HL30.out HST.out (HL11.out.unlike hq)); rw [e12] at hWD; (obtain ⟨L12, v12, rfl, hW⟩ := hWD); rw [HLEN.out] at hW hDn; (have HL12 := Lib.hid (show LAt w w12 b S12 L12 x ⟨sg, st, (i : Int) + 1, [], (i : Int), false⟩ v12 from HL11.out.next hW)); (have HDN := Lib.hid hDn); (have k13 : Calls Tryz.prog 37 #[.pointer (some ⟨x, 0, none⟩)] w12 (fun e w' => e = .returned (.int .i64 1) ∧ Below w12.heap.size w12 w') := by have h := segments_is HL12.out.log; rw [hnum] at h; exact h); clear hW hDn hq e12 hnum k12)
              | (go_at_call 37; (with_reducible refine k13.mono ?_); rintro e w13 ⟨rfl, hB⟩; (have HL13 := Lib.hid (HL12.out.below hB)); (have k14 : Calls Tryz.prog 24 #[.pointer (some ⟨x, 0, none⟩)] w13 (fun e w' => e = .returned (.string st) ∧ w13 = w') := state_is HL13.out.log.at_); (have k15 : Calls Tryz.prog 23 #[.pointer (some ⟨x, 0, none⟩)] w13 (fun e w' => e = .returned (.int .i64 ((i : Int) + 1)) ∧ w13 = w') := first_is HL13.out.log.at_); clear hB k13)
              | (go_at_call 24; (with_reducible refine k14.mono ?_); rintro _ w14 ⟨rfl, rfl⟩; clear k14)
              | (go_at_call 23; (with_reducible refine k15.mono ?_); rintro _ w15 ⟨rfl, rfl⟩; clear k15)
              | (go_at_call 35; (have HA16 := Lib.hid (HL13.out.below (bel_al w13 (.cells #[.int .i64 0] 3)))); (have HNB2 := Lib.hid (show ¬ mods b S12 L12 w13.heap.size from fun h => by have := HL13.out.log.at_.dir.at_.room h; omega)); (have kd := crash_dir (.slice (some ⟨w13.heap.size, 0, none⟩) 1 1) [0] HA16.out.log.at_.dir.at_ HA16.out.log.at_.dir.whole (by rw [HDN.out.chg]; exact Nat.zero_le _) (fun W k => is_ints (l := [0]) ((k.block _ (some_lt (heap_alloc_new w13 (.cells #[.int .i64 0] 3))) HNB2.out).trans (heap_alloc_new w13 (.cells #[.int .i64 0] 3))) (by decide) (by decide))); (with_reducible refine kd.mono ?_); rintro e w17 ⟨L17, rfl, hW, hD⟩; (have HD17 := Lib.hid (HA16.out.d.next hW hD)); (have HDC := Lib.hid (HDN.out.crash [0])); (have k18 := lawOpen_is HD17.out.dir HD17.out.lo HD17.out.bel.size (HD17.out.gl G.out) (by rw [HDC.out.chg]; exact Nat.zero_le _) HDC.out.texts); clear hW hD kd)
              | (go_at_call 18; (with_reducible refine k18.mono ?_); rintro e w18 ⟨q3, hq, L18, y, v18, hO⟩; (obtain ⟨S18, sg2, e18, hg1, hg2⟩ := HDC.out.open_ (by omega) (by have := HL30.out; have := HLEN.out; omega) (HD17.out.unlike hq)); rw [e18] at hO; (obtain rfl : e = .returned (.pointer (some ⟨y, 0, none⟩)) := hO.ret); (have HL18 := Lib.hid (show LAt w w18 b S18 L18 y ⟨sg2, st, (i : Int) + 1, [], (i : Int) + 1 - 1, false⟩ v18 from HD17.out.open_ G.out hO)); (have k19 : Calls Tryz.prog 24 #[.pointer (some ⟨y, 0, none⟩)] w18 (fun e w' => e = .returned (.string st) ∧ w18 = w') := state_is HL18.out.log.at_); (have k20 : Calls Tryz.prog 23 #[.pointer (some ⟨y, 0, none⟩)] w18 (fun e w' => e = .returned (.int .i64 ((i : Int) + 1)) ∧ w18 = w') := first_is HL18.out.log.at_); (have k21 : Calls Tryz.prog 25 #[.pointer (some ⟨y, 0, none⟩)] w18 (TDone [] w18) := records_is HL18.out.log.at_ ⟨by show 0 ≤ (i : Int) + 1; omega, by show (i : Int) + 1 ≤ _; have := HL30.out; have := HLEN.out; omega, Nat.zero_le _, hg1, by show sg2 ≤ _; omega⟩); clear hO hq e18 hg1 hg2 k18)
              | (go_at_call 24; (with_reducible refine k19.mono ?_); rintro _ w19 ⟨rfl, rfl⟩; clear k19)
              | (go_at_call 23; (with_reducible refine k20.mono ?_); rintro _ w20 ⟨rfl, rfl⟩; clear k20)
              | (go_at_call 25; (with_reducible refine k21.mono ?_); rintro e w21 ⟨u21, rfl, hR, hB⟩; (obtain ⟨az, cz, hz⟩ := ownsRow_slice hR); subst hz; (have HB21 := Lib.hid (HL18.out.bel.trans (hB.mono HL18.out.bel.size))); clear hR hB k21))
            go_ret
            exact ⟨rfl, HB21.out⟩
          | succ g =>
            have hltm : (j : Int) < (m : Int) := by omega
            have hjG : j < G0.length := by rw [HM.out]; omega
            have hjw : IntKind.i64.wrap ((j : Int) + 1) = (j : Int) + 1 := by rw [IntKind.wrap_i64]; omega
            have hmw : IntKind.i64.wrap ((m : Int) - 1) = (m : Int) - 1 := by rw [IntKind.wrap_i64]; omega
            have c3 : wr.cell? ⟨p5, j, none⟩ = some (.string (tx (seg G0[j].n))) := (World.cell?_of_block (a := ⟨p5, j, none⟩) (hbel.block p5 HP5.out)).trans (HC5.out j hjG)
            have hbg := HBIG.out j hjG
            have krd := Fi.read_is b S L (tx (seg G0[j].n)) wr HL6.out.log.at_.dir.at_ HL6.out.log.at_.dir.whole.sane (by rw [tx_size, seg_len]; unfold maxLen; omega)
            rw [HF.out.read (List.getElem_mem hjG)] at krd
            obtain ⟨s, hs⟩ : ∃ s, G0[j].s = s := ⟨_, rfl⟩
            obtain ⟨nm, hnm⟩ : ∃ nm, tx (seg G0[j].n) = nm := ⟨_, rfl⟩
            rw [hs] at krd hbg
            rw [hnm] at krd c3
            dsimp only at krd
            have hs1 : ¬ (4920 : Int) < (s.size : Int) := by omega
            have hs2 : ¬ (s.size : Int) > 4920 := by omega
            by_cases hj1 : (j : Int) < (m : Int) - 1
            · have hs3 : ¬ (s.size : Int) ≤ 4000 := by have := hbg.2 (by rw [HM.out]; omega); omega
              clear hs hnm hbg hbel
              go_wp2_with (go_at_call 34; (with_reducible refine krd.mono ?_); rintro _ w7 ⟨rfl, hB⟩; (have HB7 := Lib.hid (HBE.out.trans (hB.mono HBE.out.size))); clear hB krd)
              go_roundg g
              case measure => omega
              case rel => exact ⟨j + 1, by omega, by go_num, HB7.out⟩
            · clear hs hnm hbg hbel
              go_wp2_with (go_at_call 34; (with_reducible refine krd.mono ?_); rintro _ w7 ⟨rfl, hB⟩; (have HB7 := Lib.hid (HBE.out.trans (hB.mono HBE.out.size))); clear hB krd)
              go_roundg g
              case measure => omega
              case rel => exact ⟨j + 1, by omega, by go_num, HB7.out⟩
      · go_wp2_with (go_at_call 33; (with_reducible refine km.mono ?_); rintro e w5 ⟨u5, rfl, hr, hB⟩; (obtain ⟨p5, c5, hu5, hp5, hc5⟩ := names_row HF.out hr HG0.out); rw [HM.out] at hu5; subst hu5; (have HL5 := Lib.hid (HLG.out.below hB)); (have HR5 := Lib.hid (HR.out.later hB)); (have HP5 := Lib.hid hp5); (have HC5 := Lib.hid hc5); clear hr hB hp5 hc5 km)
        go_loopg [12] m (fun g jj wr => ∃ j : Nat, j + g = m ∧ jj = .int .i64 (j : Int) ∧ Below w5.heap.size w5 wr)
        case atStart => exact ⟨0, by omega, rfl, Below.refl _ _⟩
        case round =>
          obtain ⟨j, hj, rfl, hbel⟩ := hrel
          have HBE := Lib.hid hbel
          have HL6 := Lib.hid (HL5.out.below hbel)
          have HR6 := Lib.hid (HR5.out.later hbel)
          cases gk with
          | zero =>
            obtain rfl : j = m := by omega
            have hltm : ¬ (j : Int) < (j : Int) := by omega
            have hnw : IntKind.i64.wrap ((i : Int) + 1) = (i : Int) + 1 := by rw [IntKind.wrap_i64]; omega
            clear hbel
            go_wp2_with (first
              | (go_at_call 35; (have HA7 := Lib.hid (HL6.out.below (bel_al wr (.cells #[.int .i64 1, .int .i64 1, .int .i64 1] 3)))); (have HR7 := Lib.hid (HR6.out.later (bel_al wr (.cells #[.int .i64 1, .int .i64 1, .int .i64 1] 3)))); (have HNB := Lib.hid (show ¬ mods b S L wr.heap.size from fun h => by have := HL6.out.log.at_.dir.at_.room h; omega)); (have kc := crash_dir (.slice (some ⟨wr.heap.size, 0, none⟩) 3 3) [1, 1, 1] HA7.out.log.at_.dir.at_ HA7.out.log.at_.dir.whole (by rw [HCG.out]; exact Nat.zero_le _) (fun W k => is_ints (l := [1, 1, 1]) ((k.block _ (some_lt (heap_alloc_new wr (.cells #[.int .i64 1, .int .i64 1, .int .i64 1] 3))) HNB.out).trans (heap_alloc_new wr (.cells #[.int .i64 1, .int .i64 1, .int .i64 1] 3))) (by decide) (by decide))); (with_reducible refine kc.mono ?_); rintro e w8 ⟨L8, rfl, hW, hD⟩; (have HR8 := Lib.hid (HR7.out.over HA7.out.d hW.frm)); (have HD8 := Lib.hid (HA7.out.d.next hW hD)); (have k9 := lawOpen_is HD8.out.dir HD8.out.lo HD8.out.bel.size (HD8.out.gl G.out) (by rw [HTX.out.chg]; exact Nat.zero_le _) (fun n => Nat.le_trans (HT5.out n) (by decide))); clear hW hD kc)
              | (go_at_call 18; (with_reducible refine k9.mono ?_); rintro e w9 ⟨q1, hq, L9, x, v9, hO⟩; (obtain ⟨S9, W9, e9, hE⟩ := roll_open HTX.out HCH.out HSUM.out HTOP.out HGL.out HL30.out (HD8.out.unlike hq)); rw [e9] at hO; (obtain rfl : e = .returned (.pointer (some ⟨x, 0, none⟩)) := hO.ret); (have HR9 := Lib.hid (HR8.out.over HD8.out hO.frm)); (have HL9 := Lib.hid (show LAt w w9 b S9 L9 x W9 v9 from HD8.out.open_ G.out hO)); (have HE9 := Lib.hid hE); (have k10 : Calls Tryz.prog 25 #[.pointer (some ⟨x, 0, none⟩)] w9 (TDone all w9) := by have h := records_is HL9.out.log.at_ (HE9.out.fine HL30.out); rw [HE9.out.rc] at h; exact h); clear hO hq e9 hE k9)
              | (go_at_call 25; (with_reducible refine k10.mono ?_); rintro e w10 ⟨u10, rfl, hR, hB⟩; (have HL10 := Lib.hid (HL9.out.below hB)); (have HP := Lib.hid (show Ss w10 u10 all from SRow.ss (B := 0) (row_base hR))); (have HP2 := Lib.hid (HR9.out.later hB).ss); (have HPZ := Lib.hid (show prefB all all (i : Int) = true from by have e := prefB_self all; rw [HLEN.out] at e; exact e)); (have k11 := prefix_is _ _ _ _ (i : Int) _ HP.out HP2.out true HPZ); clear hR hB k10)
              | (go_at_call 36; (with_reducible refine k11.mono ?_); rintro e w11 ⟨rfl, hB⟩; (have HL11 := Lib.hid (HL10.out.below hB)); (have k12 := ckpt_is HL11.out.log (HE9.out.fine HL30.out) st HE9.out.chg (by have := HE9.out.last; have := HL30.out; omega)); clear hB k11)
              | (go_at_call 22; (with_reducible refine k12.mono ?_); rintro e w12 ⟨q2, hq, hWD⟩; (obtain ⟨S12, sg, e12, hDn, hnum⟩ := roll_ckpt HE9.out HL30.out HST.out (HL11.out.unlike hq)); rw [e12] at hWD; (obtain ⟨L12, v12, rfl, hW⟩ := hWD); rw [HLEN.out] at hW hDn; (have HL12 := Lib.hid (show LAt w w12 b S12 L12 x ⟨sg, st, (i : Int) + 1, [], (i : Int), false⟩ v12 from HL11.out.next hW)); (have HDN := Lib.hid hDn); (have k13 : Calls Tryz.prog 37 #[.pointer (some ⟨x, 0, none⟩)] w12 (fun e w' => e = .returned (.int .i64 1) ∧ Below w12.heap.size w12 w') := by have h := segments_is HL12.out.log; rw [hnum] at h; exact h); clear hW hDn hq e12 hnum k12)
              | (go_at_call 37; (with_reducible refine k13.mono ?_); rintro e w13 ⟨rfl, hB⟩; (have HL13 := Lib.hid (HL12.out.below hB)); (have k14 : Calls Tryz.prog 24 #[.pointer (some ⟨x, 0, none⟩)] w13 (fun e w' => e = .returned (.string st) ∧ w13 = w') := state_is HL13.out.log.at_); (have k15 : Calls Tryz.prog 23 #[.pointer (some ⟨x, 0, none⟩)] w13 (fun e w' => e = .returned (.int .i64 ((i : Int) + 1)) ∧ w13 = w') := first_is HL13.out.log.at_); clear hB k13)
              | (go_at_call 24; (with_reducible refine k14.mono ?_); rintro _ w14 ⟨rfl, rfl⟩; clear k14)
              | (go_at_call 23; (with_reducible refine k15.mono ?_); rintro _ w15 ⟨rfl, rfl⟩; clear k15)
              | (go_at_call 35; (have HA16 := Lib.hid (HL13.out.below (bel_al w13 (.cells #[.int .i64 0] 3)))); (have HNB2 := Lib.hid (show ¬ mods b S12 L12 w13.heap.size from fun h => by have := HL13.out.log.at_.dir.at_.room h; omega)); (have kd := crash_dir (.slice (some ⟨w13.heap.size, 0, none⟩) 1 1) [0] HA16.out.log.at_.dir.at_ HA16.out.log.at_.dir.whole (by rw [HDN.out.chg]; exact Nat.zero_le _) (fun W k => is_ints (l := [0]) ((k.block _ (some_lt (heap_alloc_new w13 (.cells #[.int .i64 0] 3))) HNB2.out).trans (heap_alloc_new w13 (.cells #[.int .i64 0] 3))) (by decide) (by decide))); (with_reducible refine kd.mono ?_); rintro e w17 ⟨L17, rfl, hW, hD⟩; (have HD17 := Lib.hid (HA16.out.d.next hW hD)); (have HDC := Lib.hid (HDN.out.crash [0])); (have k18 := lawOpen_is HD17.out.dir HD17.out.lo HD17.out.bel.size (HD17.out.gl G.out) (by rw [HDC.out.chg]; exact Nat.zero_le _) HDC.out.texts); clear hW hD kd)
              | (go_at_call 18; (with_reducible refine k18.mono ?_); rintro e w18 ⟨q3, hq, L18, y, v18, hO⟩; (obtain ⟨S18, sg2, e18, hg1, hg2⟩ := HDC.out.open_ (by omega) (by have := HL30.out; have := HLEN.out; omega) (HD17.out.unlike hq)); rw [e18] at hO; (obtain rfl : e = .returned (.pointer (some ⟨y, 0, none⟩)) := hO.ret); (have HL18 := Lib.hid (show LAt w w18 b S18 L18 y ⟨sg2, st, (i : Int) + 1, [], (i : Int) + 1 - 1, false⟩ v18 from HD17.out.open_ G.out hO)); (have k19 : Calls Tryz.prog 24 #[.pointer (some ⟨y, 0, none⟩)] w18 (fun e w' => e = .returned (.string st) ∧ w18 = w') := state_is HL18.out.log.at_); (have k20 : Calls Tryz.prog 23 #[.pointer (some ⟨y, 0, none⟩)] w18 (fun e w' => e = .returned (.int .i64 ((i : Int) + 1)) ∧ w18 = w') := first_is HL18.out.log.at_); (have k21 : Calls Tryz.prog 25 #[.pointer (some ⟨y, 0, none⟩)] w18 (TDone [] w18) := records_is HL18.out.log.at_ ⟨by show 0 ≤ (i : Int) + 1; omega, by show (i : Int) + 1 ≤ _; have := HL30.out; have := HLEN.out; omega, Nat.zero_le _, hg1, by show sg2 ≤ _; omega⟩); clear hO hq e18 hg1 hg2 k18)
              | (go_at_call 24; (with_reducible refine k19.mono ?_); rintro _ w19 ⟨rfl, rfl⟩; clear k19)
              | (go_at_call 23; (with_reducible refine k20.mono ?_); rintro _ w20 ⟨rfl, rfl⟩; clear k20)
              | (go_at_call 25; (with_reducible refine k21.mono ?_); rintro e w21 ⟨u21, rfl, hR, hB⟩; (obtain ⟨az, cz, hz⟩ := ownsRow_slice hR); subst hz; (have HB21 := Lib.hid (HL18.out.bel.trans (hB.mono HL18.out.bel.size))); clear hR hB k21))
            go_ret
            exact ⟨rfl, HB21.out⟩
          | succ g =>
            have hltm : (j : Int) < (m : Int) := by omega
            have hjG : j < G0.length := by rw [HM.out]; omega
            have hjw : IntKind.i64.wrap ((j : Int) + 1) = (j : Int) + 1 := by rw [IntKind.wrap_i64]; omega
            have hmw : IntKind.i64.wrap ((m : Int) - 1) = (m : Int) - 1 := by rw [IntKind.wrap_i64]; omega
            have c3 : wr.cell? ⟨p5, j, none⟩ = some (.string (tx (seg G0[j].n))) := (World.cell?_of_block (a := ⟨p5, j, none⟩) (hbel.block p5 HP5.out)).trans (HC5.out j hjG)
            have hbg := HBIG.out j hjG
            have krd := Fi.read_is b S L (tx (seg G0[j].n)) wr HL6.out.log.at_.dir.at_ HL6.out.log.at_.dir.whole.sane (by rw [tx_size, seg_len]; unfold maxLen; omega)
            rw [HF.out.read (List.getElem_mem hjG)] at krd
            obtain ⟨s, hs⟩ : ∃ s, G0[j].s = s := ⟨_, rfl⟩
            obtain ⟨nm, hnm⟩ : ∃ nm, tx (seg G0[j].n) = nm := ⟨_, rfl⟩
            rw [hs] at krd hbg
            rw [hnm] at krd c3
            dsimp only at krd
            have hs1 : ¬ (4920 : Int) < (s.size : Int) := by omega
            have hs2 : ¬ (s.size : Int) > 4920 := by omega
            by_cases hj1 : (j : Int) < (m : Int) - 1
            · have hs3 : ¬ (s.size : Int) ≤ 4000 := by have := hbg.2 (by rw [HM.out]; omega); omega
              clear hs hnm hbg hbel
              go_wp2_with (go_at_call 34; (with_reducible refine krd.mono ?_); rintro _ w7 ⟨rfl, hB⟩; (have HB7 := Lib.hid (HBE.out.trans (hB.mono HBE.out.size))); clear hB krd)
              go_roundg g
              case measure => omega
              case rel => exact ⟨j + 1, by omega, by go_num, HB7.out⟩
            · clear hs hnm hbg hbel
              go_wp2_with (go_at_call 34; (with_reducible refine krd.mono ?_); rintro _ w7 ⟨rfl, hB⟩; (have HB7 := Lib.hid (HBE.out.trans (hB.mono HBE.out.size))); clear hB krd)
              go_roundg g
              case measure => omega
              case rel => exact ⟨j + 1, by omega, by go_num, HB7.out⟩
    | succ g =>
      have hlt : (i : Int) < (n1 : Int) := by omega
      have hl30 : (i : Int) < 30 := by omega
      have hin : i < n1 := by omega
      have hil : i < l.length := by rw [HN1.out]; omega
      obtain ⟨ba, oa, rfl, -, cax⟩ := ((HSS.out (by omega)).below (HLG.out.bel)).cell (by omega)
      have c2 := cax i hil
      obtain ⟨y, hy⟩ : ∃ y, l[i] = y := ⟨_, rfl⟩
      rw [hy] at c2
      have hiw : IntKind.i64.wrap ((i : Int) + 1) = (i : Int) + 1 := by rw [IntKind.wrap_i64]; omega
      obtain ⟨t, ht⟩ : ∃ t, cutS y 900 = t := ⟨_, rfl⟩
      have htz : t.size ≤ 900 := by rw [← ht]; exact cutS_size _ _
      have ks := lshort_is y t 900 900 wr rfl (by decide) (Lib.hid ht)
      have HTZ := Lib.hid htz
      obtain ⟨S1, W1, e1, hfn, hch, hsy⟩ := hroll.out.app (by omega) htz
      have HE1 := Lib.hid e1
      have HFN := Lib.hid hfn
      have HCH := Lib.hid hch
      have HSY := Lib.hid hsy
      have HFN0 := Lib.hid (hroll.out.fine (by omega))
      have HRC0 := Lib.hid (show W.rc.length ≤ 99000000 by obtain ⟨sg, e, -, -⟩ := hroll.out.w (by omega); rw [e]; show all.length ≤ _; omega)
      obtain ⟨ra, rc, rfl⟩ := hrec.out.slice
      have HLN := Lib.hid (show all.length ≤ 100000000 by omega)
      have HLA := Lib.hid hlen
      rw [hlen] at hrec hoff hown ⊢
      clear cax hy ht htz e1 hfn hch hsy hroll
      go_wp2_with (first
        | (go_at_call 10; (with_reducible refine ks.mono ?_); rintro _ w5 ⟨rfl, rfl⟩; clear ks)
        | (at_builtin; refine wpList_rec rfl _ _ rfl (.slice ra i rc) _ rfl t rfl hrec.out HLN.out ?_; rintro u2 w6 hR hg h1 hs; (have HR6 := Lib.hid hR); (have HB6 := Lib.hid (show Below w.heap.size w w6 from HLG.out.bel.grown hg HLG.out.bel.size (fun k hk => hown.out k hk))); (have HL6 := Lib.hid (HLG.out.aside hoff.out hg h1 HB6.out (fun w'' k => G.out.below (HB6.out.trans k)))); (have HO6 := Lib.hid (hoff.out.grown HLG.out.log.at_ hs)); (have HW6 := Lib.hid (show ∀ k, u2.ownBlock = some k → w.heap.size ≤ k from fun k hk => by
            rcases hs with h | ⟨q, h, hq⟩
            · exact hown.out k (h ▸ hk)
            · rw [h] at hk; injection hk with hk; subst hk
              exact Nat.le_trans HLG.out.bel.size hq)); (have hl2 : (all ++ [t]).length = i + 1 := by rw [List.length_append, HLA.out]; rfl); (have HL2 := Lib.hid hl2); (obtain ⟨ra2, rc2, hv2⟩ := hR.slice); rw [hl2] at hv2; subst hv2; (have HA6 := Lib.hid (HL6.out.below (bel_al w6 (.cells #[.string t] 9)))); (have HRA := Lib.hid (HR6.out.later (bel_al w6 (.cells #[.string t] 9)))); (have kp : Calls Tryz.prog 30 #[.pointer (some ⟨a, 0, none⟩), .slice (some ⟨w6.heap.size, 0, none⟩) 1 1] (w6.alloc (.cells #[.string t] 9)) (WDone b S L a W v (appendW S W [t]) (w6.alloc (.cells #[.string t] 9))) := append_is2 HA6.out.log HFN0.out HRC0.out (some ⟨w6.heap.size, 0, none⟩) 1 [t] (by show 1 ≤ 41; decide) (fun s hs => by rw [List.mem_singleton] at hs; subst hs; have := HTZ.out; omega) (fun _ _ _ _ _ k => ss_lit (HA6.out.keep (heap_alloc_new w6 _) HL6.out.fresh k).1 (by show 1 ≤ maxLen; unfold maxLen; decide))); rw [HE1.out] at kp; clear hR hg h1 hs hl2)
        | (go_at_call 30; (with_reducible refine kp.mono ?_); rintro e w7 ⟨L7, v7, rfl, hW⟩; (obtain ⟨hr7, ho7⟩ := HO6.out.went HRA.out hW); (have HR7 := Lib.hid hr7); (have HO7 := Lib.hid (show Off _ b S1 L7 a v7 from ho7)); (have HL7 := Lib.hid (show LAt w w7 b S1 L7 a W1 v7 from HA6.out.next hW)); (have kq := sync_is2 HL7.out.log HFN.out HCH.out); clear hW kp hr7 ho7)
        | (go_at_call 19; (with_reducible refine kq.mono ?_); rintro e w8 ⟨q, hq, hWD⟩; (obtain ⟨S2, W2, e2, hro⟩ := HSY.out q (HL7.out.unlike hq)); rw [e2] at hWD; (obtain ⟨L8, v8, rfl, hW⟩ := hWD); (obtain ⟨hr8, ho8⟩ := HO7.out.went HR7.out hW); (have HR8 := Lib.hid hr8); (have HO8 := Lib.hid (show Off _ b S2 L8 a v8 from ho8)); (have HL8 := Lib.hid (show LAt w w8 b S2 L8 a W2 v8 from HL7.out.next hW)); (have HRO := Lib.hid hro); (have kf : Calls Tryz.prog 20 #[.pointer (some ⟨a, 0, none⟩)] w8 (fun e w' => e = .returned (.int .i64 ((i : Int) + 1)) ∧ w8 = w') := (by
            have h := firm_is HL8.out.log.at_
            obtain ⟨sg, e3, -, -⟩ := HRO.out.w (by rw [HL2.out]; omega)
            rw [e3] at h
            have e4 : (((all ++ [t]).length : Nat) : Int) = (i : Int) + 1 := by rw [HL2.out]; rfl
            rw [← e4]
            exact h)); clear hW hq hro hr8 ho8 kq)
        | (go_at_call 20; (with_reducible refine kf.mono ?_); rintro e w9 ⟨rfl, rfl⟩; clear kf))
      go_roundg g
      case measure => omega
      case rel => exact ⟨i + 1, all ++ [t], _, v8, L8, S2, W2, by omega, by go_num, rfl, HL2.out, HRO, HR8, HO8, HW6, HL8.out⟩
end walRolls
end Go.Proofs.YteijmjbiaffcmaaGreatDoor
