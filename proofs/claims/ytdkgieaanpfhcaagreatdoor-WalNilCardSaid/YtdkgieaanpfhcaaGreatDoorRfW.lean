/-
  A range over a function that turns cells of its own between two rounds: its contract, and the loop over it. Conditions: as each theorem states.
-/
import Derived.Test.YtdkgieaanpfhcaaGreatDoorSkW
import Derived.RangeFuncNested
import Derived.RangeFuncBound
import Derived.RangeFuncCalls
import Derived.RangeFuncLeaves
import Derived.RangeFuncFrom
import Derived.Shelf.Abstract
import Derived.OwnWalkIn
import Derived.TacticsInMore
import Derived.LoopNIn
import Derived.LoopIn
namespace Go.Proofs.YtdkgieaanpfhcaaGreatDoor.Rf
open Go Go.RowKit Go.Shelf

/-- what an iterator gives that turns cells of its own ('Tn A B': how it may turn them) -/
def SeqTurns {α : Type} (F : Fence) (n : Nat) (P : Program) (g : Nat) (lb : Array Value) (encs : α → Array Value) (Tn Kp : World → World → Prop) (S Sp : List α → Prop) (N : Nat) (w : World) : Prop :=
  ∀ (l : Nat) (J Jx : List α → World → Prop) (W : World), Below w.heap.size w W → AbidesFrom W.heap.size J → AbidesFrom W.heap.size Jx → (∀ pre A B, J pre A → Tn A B → J pre B) →
    (∀ pre x W1, J pre W1 → pre.length < N → YieldAt F (n - 1) P l (encs x) W1 fun e W' => (e = .returned (.bool true) ∧ J (pre ++ [x]) W' ∧ Kp W1 W') ∨ (e = .returned (.bool false) ∧ Jx (pre ++ [x]) W')) →
    J [] W → CallsIn F n P g (#[.func (.yield l) #[] #[]] ++ lb) W fun e W' => (∃ v, e = .returned v) ∧ ((∃ xs, S xs ∧ J xs W') ∨ (∃ pre, Sp pre ∧ Jx pre W'))

/-- the loop's record and the block of its rounds' deferred calls -/
structure Book (b : Nat) (r : Loop) (W : World) : Prop where
  loop : W.heap[b + 1]? = some (.loop r)
  dfr : W.heap[b]? = some (.deferred (some []))
theorem Book.walks {b : Nat} {r : Loop} {A B : World} {row : Option Nat} (h : Book b r A) (hg : A.grownBy B row) (hr : ∀ j, row = some j → ∃ o : Obj, A.heap[j]? = some o ∧ o.isWalk = true) : Book b r B :=
  ⟨(grownBy_keeps hg hr h.loop rfl).trans h.loop, (grownBy_keeps hg hr h.dfr rfl).trans h.dfr⟩
theorem Book.turn {b : Nat} {fp : List Nat} {r : Loop} {A B : World} (h : Book b r A) (hg : Sk.Only fp A B) (ht : ∀ k ∈ fp, k < b) : Book b r B :=
  ⟨(hg.block _ (Array.getElem?_eq_some_iff.1 h.loop).1 (fun e => by have := ht _ e; omega)).trans h.loop, (hg.block _ (Array.getElem?_eq_some_iff.1 h.dfr).1 (fun e => by have := ht _ e; omega)).trans h.dfr⟩
theorem Book.put {b : Nat} {r : Loop} {W : World} (h : Book b r W) (r' : Loop) : Book b r' (W.putObj (b + 1) (.loop r')) :=
  ⟨World.putObj_heap_same (Array.getElem?_eq_some_iff.1 h.loop).1, (World.putObj_heap_other (by omega)).trans h.dfr⟩
theorem Book.others {b : Nat} {r : Loop} {A B : World} (h : Book b r A) (hk : KeepsOthers A B) : Book b r B := ⟨hk.same _ _ h.loop rfl, hk.same _ _ h.dfr rfl⟩
theorem Book.start (w : World) (r : Loop) : Book w.heap.size r ((w.alloc (.deferred (some []))).alloc (.loop r)) :=
  ⟨by have := World.alloc_heap_new (w.alloc (.deferred (some []))) (.loop r); rwa [World.size_alloc] at this, (Below.heap_alloc _ _ _ (by simp)).trans (World.alloc_heap_new w _)⟩

variable {F : Fence} {n : Nat} {P : Program}
theorem range_turns {α : Type} {g : Operand} {ps : Array Tmp} {assign body : Code} {Q : Exit → Act → World → Prop} {a : Act} {w : World}
    (hro : F.round = none) (h1 : 1 ≤ n) {gf : Nat} {lb : Array Value} (hg : a.eval g = .func (.func gf) #[] lb) (hFg : F.fn gf) (eg : ∀ args w, (callFunc gf args).run P w = .ok (.enter gf args) w)
    {encs : α → Array Value} {Tn Kp : World → World → Prop} {S Sp : List α → Prop} {N : Nat} {w0 : World} (hseq : SeqTurns F (n - 1) P gf lb encs Tn Kp S Sp N w0)
    {fp : List Nat} (hfp : ∀ k ∈ fp, k < w.heap.size) (hT : ∀ A B, Tn A B → Sk.Only fp A B)
    (hKt : ∀ {A B C : World}, Kp A B → Kp B C → Kp A C) (hKb : ∀ (W : World) (l : Nat) (o o' : Obj), w.heap.size ≤ l → W.heap[l]? = some o → o.isCells = false → o.isWalk = false → Kp W (W.putObj l o'))
    (hb0 : Below w0.heap.size w0 w) (hps : ∀ x, (encs x).size = ps.size)
    (I : List α → World → Prop) (Ix : Code → List α → World → Prop) (hI : OwnFrom w.heap.size I) (hIx : ∀ c, OwnFrom w.heap.size (Ix c)) (hIT : ∀ pre A B, I pre A → Tn A B → I pre B) (h0 : I [] w) (a₁ : α → Act)
    (hassign : ∀ (l : Nat) (x : α) (W : World) (K : Act → World → Prop), K (a₁ x) W →
      assign.wpIn (F.inRound l) (n - 1 - 1) P (Exit.then K (fun _ _ _ => False)) { tmps := (ps.zip (encs x)).foldl (fun t (p, v) => t.setIfInBounds p v) a.tmps, defers := [] } W)
    (hbody : ∀ (l : Nat) (pre : List α) (x : α) (W : World), I pre W → pre.length < N → body.wpIn (F.inRound l) (n - 1 - 1) P (ownPostK Kp I Ix (pre ++ [x]) W) (a₁ x) W)
    (hdone : ∀ (D : Nat) (xs : List α) (W : World), w.heap.size ≤ D → S xs → I xs W → W.heap[D]? = some (.deferred (some [])) → Q .normal { a with defers := { target := .collected D, args := #[] } :: a.defers } W)
    (hstop : ∀ (D : Nat) (c : Code) (pre : List α) (W : World), w.heap.size ≤ D → Sp pre → Ix c pre W → W.heap[D]? = some (.deferred (some [])) → c.wpIn F n P Q { a with defers := { target := .collected D, args := #[] } :: a.defers } W) :
    (Code.rangeFunc g ps assign body).wpIn F n P Q a w := by
  refine wpIn_rangeFunc fun fn hfn => ?_
  rw [hro]
  -- the record, by its state and its pending jump
  let R : LoopState → Option Code → Loop := fun st pe => { state := st, pending := pe, fn, tmps := a.tmps, params := ps, assign, body, defers := w.heap.size }
  have B1 := Book.start w (R .ready none)
  have hI1 : I [] ((w.alloc (.deferred (some []))).alloc (.loop (R .ready none))) := hI.alloc _ (hI.alloc _ h0)
  have hb1 : Below w0.heap.size w0 ((w.alloc (.deferred (some []))).alloc (.loop (R .ready none))) := hb0.trans ((((Below.refl _ w).alloc (Nat.le_refl _) _).alloc (by simp) _).mono hb0.size)
  refine ⟨w.heap.size + 1, [{ target := .collected w.heap.size, args := #[] }], ((w.alloc (.deferred (some []))).alloc (.loop (R .ready none))), { target := .fn (.func gf) lb, args := #[.func (.yield (w.heap.size + 1)) #[] #[]] }, ((w.alloc (.deferred (some []))).alloc (.loop (R .ready none))), gf,
    #[.func (.yield (w.heap.size + 1)) #[] #[]] ++ lb, ((w.alloc (.deferred (some []))).alloc (.loop (R .ready none))), run_enterLoop_outer _ _ _ _ _, ?_, (fun f' hf' => by simp [Target.leads] at hf'; subst hf'; exact hFg), ?_, fun _ => h1, ?_⟩
  · simp only [resolve, hg]; simp [go_sem]
  · simp [invoke, go_sem, eg]
  have hsz : ((w.alloc (.deferred (some []))).alloc (.loop (R .ready none))).heap.size = w.heap.size + 2 := by simp
  have hrow : ∀ {A : World} {row : Option Nat}, (∀ r, row = some r → w.heap.size + 2 ≤ r ∧ ∃ o : Obj, A.heap[r]? = some o ∧ o.isWalk = true) → ∀ r, row = some r → w.heap.size ≤ r ∧ ∃ o : Obj, A.heap[r]? = some o ∧ o.isCells = false :=
    fun hr r e => by obtain ⟨hB, o, ho, hw⟩ := hr r e; exact ⟨by omega, o, ho, Obj.not_cells_of_walk hw⟩
  have hAJ : AbidesFrom ((w.alloc (.deferred (some []))).alloc (.loop (R .ready none))).heap.size (fun pre W => I pre W ∧ Book w.heap.size (R .ready none) W) := fun s A B row hs hgr hr => by
    rw [hsz] at hr
    exact ⟨hI s A B row hs.1 hgr (hrow hr), hs.2.walks hgr (fun r e => (hr r e).2)⟩
  have hAX : AbidesFrom ((w.alloc (.deferred (some []))).alloc (.loop (R .ready none))).heap.size (fun pre W => ∃ c, Ix c pre W ∧ Book w.heap.size (R .done (some c)) W) := fun s A B row hs hgr hr => by
    rw [hsz] at hr
    obtain ⟨c, hc, hbk⟩ := hs
    exact ⟨c, hIx c s A B row hc hgr (hrow hr), hbk.walks hgr (fun r e => (hr r e).2)⟩
  refine (hseq (w.heap.size + 1) _ _ _ hb1 hAJ hAX (fun pre A B hs ht => ?_) ?_ ⟨hI1, B1⟩).mono ?_
  · exact ⟨hIT pre A B hs.1 ht, hs.2.turn (hT A B ht) hfp⟩
  · rintro pre x W ⟨hi, hbk⟩ hlen
    have hy := run_yield (P := P) (args := encs x) hbk.loop (hps x)
    refine ⟨fn, _, assign, body, hy, roundIn_of_wpIn hfn (hassign _ x W _ ⟨_, run_beginRound hbk.loop rfl, ?_⟩)⟩
    have hbb := hbk.put (R .busy none)
    have hw2 : Kp W (W.putObj (w.heap.size + 1) (.loop (R .busy none))) := hKb _ _ _ _ (by omega) hbk.loop rfl rfl
    refine wpIn_mono (hbody _ pre x _ (hI.putObj _ hi (by omega) hbk.loop rfl) hlen) ?_
    rintro e a3 W3 hp
    cases e with
    | normal =>
      obtain ⟨hk3, hkp3, hi3⟩ := hp
      have hb3 := hbb.others hk3
      exact ⟨_, _, run_endRound none hb3.loop, .inl ⟨rfl, ⟨hI.putObj _ hi3 (by omega) hb3.loop rfl, hb3.put _⟩, hKt (hKt hw2 hkp3) (hKb _ _ _ _ (by omega) hb3.loop rfl rfl)⟩⟩
    | ret =>
      obtain ⟨hk3, hi3⟩ := hp
      have hb3 := hbb.others hk3
      exact ⟨_, _, run_endRound (some .ret) hb3.loop, .inr ⟨rfl, .ret, (hIx _).putObj _ hi3 (by omega) hb3.loop rfl, hb3.put _⟩⟩
    | exit id =>
      obtain ⟨hk3, hi3⟩ := hp
      have hb3 := hbb.others hk3
      exact ⟨_, _, run_endRound (some (.exit id)) hb3.loop, .inr ⟨rfl, .exit id, (hIx _).putObj _ hi3 (by omega) hb3.loop rfl, hb3.put _⟩⟩
    | goto t =>
      obtain ⟨hk3, hi3⟩ := hp
      have hb3 := hbb.others hk3
      exact ⟨_, _, run_endRound (some (.goto t)) hb3.loop, .inr ⟨rfl, .goto t, (hIx _).putObj _ hi3 (by omega) hb3.loop rfl, hb3.put _⟩⟩
    | panic ch => exact hp.elim
    | outgrown => exact hp.elim
  · rintro e W2 ⟨⟨v, rfl⟩, (⟨xs, hS, hi, hbk⟩ | ⟨pre, hSp, c, hi, hbk⟩)⟩
    · exact ⟨none, _, run_endLoop hbk.loop (by simp [R]), hdone _ xs _ (Nat.le_refl _) hS (hI.putObj _ hi (by omega) hbk.loop rfl) ((World.putObj_heap_other (by omega)).trans hbk.dfr)⟩
    · exact ⟨some c, _, run_endLoop hbk.loop (by simp [R]), hstop _ c pre _ (Nat.le_refl _) hSp ((hIx c).putObj _ hi (by omega) hbk.loop rfl) ((World.putObj_heap_other (by omega)).trans hbk.dfr)⟩
/-- 'only some blocks, that lie ahead, are turned' goes through the loop -/
theorem ownFrom_only {β : Type} {fp : List Nat} {w : World} : OwnFrom w.heap.size (fun (_ : β) W => Sk.Only fp w W) := fun _ _ _ _ hs hg hr =>
  ⟨hg.os.trans hs.os, hg.tape.trans hs.tape, hg.output.trans hs.output, Nat.le_trans hs.size hg.size, fun k hk hn => (hg.block k (Nat.lt_of_lt_of_le hk hs.size) (fun e => by have := (hr k e.symm).1; omega)).trans (hs.block k hk hn)⟩
end Go.Proofs.YtdkgieaanpfhcaaGreatDoor.Rf
