/-
  A range over a function that turns cells of its own, and may itself range over another one: its contract, and the loop over it. Conditions: as each theorem states.
-/
import Derived.Test.YtdkgieaanpfhcaaGreatDoorRfW
namespace Go.Proofs.YtdkgieaanpfhcaaGreatDoor.Rf
open Go Go.RowKit Go.Shelf

theorem OwnFrom.abides {β : Type} {B : Nat} {J : β → World → Prop} (h : OwnFrom B J) : AbidesFrom B J := fun s W W' row hs hg hr => h s W W' row hs hg (fun r e => by obtain ⟨hB, o, ho, hw⟩ := hr r e; exact ⟨hB, o, ho, Obj.not_cells_of_walk hw⟩)
theorem OwnFrom.up {β : Type} {B B' : Nat} {J : β → World → Prop} (h : OwnFrom B J) (hB : B ≤ B') : OwnFrom B' J := fun s W W' row hs hg hr => h s W W' row hs hg (fun r e => by obtain ⟨h1, h2⟩ := hr r e; exact ⟨by omega, h2⟩)
theorem room_of_none {F : Fence} (hd : F.depth = none) (k : Nat) : F.room k := fun d h => by rw [hd] at h; cases h
theorem round_any {F : Fence} (hd : F.depth = none) {m m' : Nat} {P : Program} {l : Nat} {f : FuncId} {tmps : Array Value} {assign body : Code} {w : World} {R : Ending → World → Prop}
    (h : RoundIn F m P l f tmps assign body w R) : RoundIn F m' P l f tmps assign body w R := ⟨h.1, fun c cs _ => h.2 c cs (room_of_none hd _)⟩
theorem yield_any {F : Fence} (hd : F.depth = none) {m : Nat} (m' : Nat) {P : Program} {l : Nat} {args : Array Value} {W : World} {R : Ending → World → Prop} (h : YieldAt F m P l args W R) : YieldAt F m' P l args W R := by
  obtain ⟨fn, tmps, assign, body, hy, hR⟩ := h
  exact ⟨fn, tmps, assign, body, hy, round_any hd hR⟩

/-- what an iterator gives ('L': all that comes; 'Tn A B': how it may turn cells of its own; 'Kp A B': what a round must keep; it may lay records of loops of its own, which a round keeps) -/
def SeqT {α : Type} (F : Fence) (n : Nat) (P : Program) (g : Nat) (lb : Array Value) (encs : α → Array Value) (Tn Kp : World → World → Prop) (L : List α) (w : World) : Prop :=
  ∀ (l : Nat) (J Jx : List α → World → Prop) (W : World), Below w.heap.size w W → OwnFrom W.heap.size J → OwnFrom W.heap.size Jx → (∀ pre A B, J pre A → Tn A B → J pre B) →
    (∀ pre x W1, J pre W1 → pre ++ [x] <+: L → YieldAt F (n - 1) P l (encs x) W1 fun e W' => (e = .returned (.bool true) ∧ J (pre ++ [x]) W' ∧ Kp W1 W' ∧ KeepsFrom W.heap.size W1 W') ∨ (e = .returned (.bool false) ∧ Jx (pre ++ [x]) W' ∧ KeepsFrom W.heap.size W1 W')) →
    J [] W → CallsIn F n P g (#[.func (.yield l) #[] #[]] ++ lb) W fun e W' => (∃ v, e = .returned v) ∧ (J L W' ∨ (∃ pre, pre <+: L ∧ Jx pre W'))

variable {F : Fence} {n : Nat} {P : Program}
theorem Book.own {b : Nat} {r : Loop} {A B : World} {row : Option Nat} (h : Book b r A) (hg : A.grownBy B row) (hr : ∀ j, row = some j → b + 2 ≤ j) : Book b r B :=
  ⟨(hg.block _ (Array.getElem?_eq_some_iff.1 h.loop).1 (fun e => by have := hr _ e.symm; omega)).trans h.loop, (hg.block _ (Array.getElem?_eq_some_iff.1 h.dfr).1 (fun e => by have := hr _ e.symm; omega)).trans h.dfr⟩
theorem Book.from {b : Nat} {r : Loop} {A B : World} (h : Book b r A) (hk : KeepsFrom b A B) : Book b r B := ⟨hk.same _ _ (by omega) h.loop rfl, hk.same _ _ (Nat.le_refl _) h.dfr rfl⟩
theorem keepsFrom_put {B l : Nat} (W : World) (o : Obj) (h : l < B) : KeepsFrom B W (W.putObj l o) := KeepsFrom.of_grownBy (grownBy_putObj' W l o) (fun j e => by cases e; exact h)
theorem KeepsFrom.up {B B' : Nat} {X Y : World} (h : KeepsFrom B X Y) (hB : B ≤ B') : KeepsFrom B' X Y := ⟨h.size, fun k o hk h0 ho => h.same k o (by omega) h0 ho⟩
theorem range_t {α : Type} {g : Operand} {ps : Array Tmp} {assign body : Code} {Q : Exit → Act → World → Prop} {a : Act} {w : World}
    (hro : F.round = none) (h1 : 1 ≤ n) {gf : Nat} {lb : Array Value} (hg : a.eval g = .func (.func gf) #[] lb) (hFg : F.fn gf) (eg : ∀ args w, (callFunc gf args).run P w = .ok (.enter gf args) w)
    {encs : α → Array Value} {Tn Kp : World → World → Prop} {L : List α} {w0 : World} (hseq : SeqT F (n - 1) P gf lb encs Tn Kp L w0)
    {fp : List Nat} (hfp : ∀ k ∈ fp, k < w.heap.size) (hT : ∀ A B, Tn A B → Sk.Only fp A B)
    (hKt : ∀ {A B C : World}, Kp A B → Kp B C → Kp A C) (hKb : ∀ (W : World) (l : Nat) (o o' : Obj), w.heap.size ≤ l → W.heap[l]? = some o → o.isCells = false → o.isWalk = false → Kp W (W.putObj l o'))
    (hb0 : Below w0.heap.size w0 w) (hps : ∀ x, (encs x).size = ps.size)
    (I : List α → World → Prop) (Ix : Code → List α → World → Prop) (hI : OwnFrom w.heap.size I) (hIx : ∀ c, OwnFrom w.heap.size (Ix c)) (hIT : ∀ pre A B, I pre A → Tn A B → I pre B) (h0 : I [] w) (a₁ : α → Act)
    (hassign : ∀ (l : Nat) (x : α) (W : World) (K : Act → World → Prop), K (a₁ x) W →
      assign.wpIn (F.inRound l) (n - 1 - 1) P (Exit.then K (fun _ _ _ => False)) { tmps := (ps.zip (encs x)).foldl (fun t (p, v) => t.setIfInBounds p v) a.tmps, defers := [] } W)
    (hbody : ∀ (l : Nat) (pre : List α) (x : α) (W : World), I pre W → pre ++ [x] <+: L → body.wpIn (F.inRound l) (n - 1 - 1) P (ownPostG w.heap.size Kp I Ix (pre ++ [x]) W) (a₁ x) W)
    (hdone : ∀ (D : Nat) (W : World), w.heap.size ≤ D → I L W → W.heap[D]? = some (.deferred (some [])) → Q .normal { a with defers := { target := .collected D, args := #[] } :: a.defers } W)
    (hstop : ∀ (D : Nat) (c : Code) (pre : List α) (W : World), w.heap.size ≤ D → pre <+: L → Ix c pre W → W.heap[D]? = some (.deferred (some [])) → c.wpIn F n P Q { a with defers := { target := .collected D, args := #[] } :: a.defers } W) :
    (Code.rangeFunc g ps assign body).wpIn F n P Q a w := by
  refine wpIn_rangeFunc fun fn hfn => ?_
  rw [hro]
  -- the record, by its state and its pending jump
  let R : LoopState → Option Code → Loop := fun st pe => { state := st, pending := pe, fn, tmps := a.tmps, params := ps, assign, body, defers := w.heap.size }
  have B1 := Book.start w (R .ready none)
  have hI1 : I [] ((w.alloc (.deferred (some []))).alloc (.loop (R .ready none))) := hI.alloc _ (hI.alloc _ h0)
  have hb1 : Below w0.heap.size w0 ((w.alloc (.deferred (some []))).alloc (.loop (R .ready none))) := hb0.trans ((((Below.refl _ w).alloc (Nat.le_refl _) _).alloc (by simp) _).mono hb0.size)
  refine ⟨w.heap.size + 1, [{ target := .collected w.heap.size, args := #[] }], ((w.alloc (.deferred (some []))).alloc (.loop (R .ready none))), { target := .fn (.func gf) lb, args := #[.func (.yield (w.heap.size + 1)) #[] #[]] }, ((w.alloc (.deferred (some []))).alloc (.loop (R .ready none))), gf,
    #[.func (.yield (w.heap.size + 1)) #[] #[]] ++ lb, ((w.alloc (.deferred (some []))).alloc (.loop (R .ready none))), run_enterLoop_outer _ _ _ _ _, ?_, (fun f' hf' => by simp [Target.leads] at hf'; subst hf'; exact hFg), ?_, fun _ => h1, ?_⟩
  · simp only [resolve, hg]; simp [go_sem]
  · simp [invoke, go_sem, eg]
  have hsz : ((w.alloc (.deferred (some []))).alloc (.loop (R .ready none))).heap.size = w.heap.size + 2 := by simp
  have hrow : ∀ {A : World} {row : Option Nat}, (∀ r, row = some r → w.heap.size + 2 ≤ r ∧ ∃ o : Obj, A.heap[r]? = some o ∧ o.isCells = false) → ∀ r, row = some r → w.heap.size ≤ r ∧ ∃ o : Obj, A.heap[r]? = some o ∧ o.isCells = false :=
    fun hr r e => by obtain ⟨hB, h2⟩ := hr r e; exact ⟨by omega, h2⟩
  have hAJ : OwnFrom ((w.alloc (.deferred (some []))).alloc (.loop (R .ready none))).heap.size (fun pre W => I pre W ∧ Book w.heap.size (R .ready none) W) := fun s A B row hs hgr hr => by
    rw [hsz] at hr
    exact ⟨hI s A B row hs.1 hgr (hrow hr), hs.2.own hgr (fun r e => (hr r e).1)⟩
  have hAX : OwnFrom ((w.alloc (.deferred (some []))).alloc (.loop (R .ready none))).heap.size (fun pre W => ∃ c, Ix c pre W ∧ Book w.heap.size (R .done (some c)) W) := fun s A B row hs hgr hr => by
    rw [hsz] at hr
    obtain ⟨c, hc, hbk⟩ := hs
    exact ⟨c, hIx c s A B row hc hgr (hrow hr), hbk.own hgr (fun r e => (hr r e).1)⟩
  have hkf : ∀ (W W3 : World) (o o' : Obj), KeepsFrom w.heap.size (W.putObj (w.heap.size + 1) o) W3 → KeepsFrom ((w.alloc (.deferred (some []))).alloc (.loop (R .ready none))).heap.size W (W3.putObj (w.heap.size + 1) o') := fun W W3 o o' hk => by
    rw [hsz]
    exact ((keepsFrom_put W o (by omega)).trans (KeepsFrom.up hk (by omega))).trans (keepsFrom_put W3 o' (by omega))
  refine (hseq (w.heap.size + 1) _ _ _ hb1 hAJ hAX (fun pre A B hs ht => ?_) ?_ ⟨hI1, B1⟩).mono ?_
  · exact ⟨hIT pre A B hs.1 ht, hs.2.turn (hT A B ht) hfp⟩
  · rintro pre x W ⟨hi, hbk⟩ hlen
    have hy := run_yield (P := P) (args := encs x) hbk.loop (hps x)
    refine ⟨fn, _, assign, body, hy, roundIn_of_wpIn hfn (hassign _ x W _ ⟨_, run_beginRound hbk.loop rfl, ?_⟩)⟩
    have hbb := hbk.put (R .busy none)
    have hw2 : Kp W (W.putObj (w.heap.size + 1) (.loop (R .busy none))) := hKb _ _ _ _ (by omega) hbk.loop rfl rfl
    refine wpIn_mono (hbody _ pre x _ (hI.putObj _ hi (by omega) hbk.loop rfl) hlen) ?_
    rintro e a3 W3 hp
    cases e with
    | normal =>
      obtain ⟨hk3, hkp3, hi3⟩ := hp
      have hb3 := hbb.from hk3
      exact ⟨_, _, run_endRound none hb3.loop, .inl ⟨rfl, ⟨hI.putObj _ hi3 (by omega) hb3.loop rfl, hb3.put _⟩, hKt (hKt hw2 hkp3) (hKb _ _ _ _ (by omega) hb3.loop rfl rfl), hkf _ _ _ _ hk3⟩⟩
    | ret =>
      obtain ⟨hk3, hi3⟩ := hp
      have hb3 := hbb.from hk3
      exact ⟨_, _, run_endRound (some .ret) hb3.loop, .inr ⟨rfl, ⟨.ret, (hIx _).putObj _ hi3 (by omega) hb3.loop rfl, hb3.put _⟩, hkf _ _ _ _ hk3⟩⟩
    | exit id =>
      obtain ⟨hk3, hi3⟩ := hp
      have hb3 := hbb.from hk3
      exact ⟨_, _, run_endRound (some (.exit id)) hb3.loop, .inr ⟨rfl, ⟨.exit id, (hIx _).putObj _ hi3 (by omega) hb3.loop rfl, hb3.put _⟩, hkf _ _ _ _ hk3⟩⟩
    | goto t =>
      obtain ⟨hk3, hi3⟩ := hp
      have hb3 := hbb.from hk3
      exact ⟨_, _, run_endRound (some (.goto t)) hb3.loop, .inr ⟨rfl, ⟨.goto t, (hIx _).putObj _ hi3 (by omega) hb3.loop rfl, hb3.put _⟩, hkf _ _ _ _ hk3⟩⟩
    | panic ch => exact hp.elim
    | outgrown => exact hp.elim
  · rintro e W2 ⟨⟨v, rfl⟩, (⟨hi, hbk⟩ | ⟨pre, hSp, c, hi, hbk⟩)⟩
    · exact ⟨none, _, run_endLoop hbk.loop (by simp [R]), hdone _ _ (Nat.le_refl _) (hI.putObj _ hi (by omega) hbk.loop rfl) ((World.putObj_heap_other (by omega)).trans hbk.dfr)⟩
    · exact ⟨some c, _, run_endLoop hbk.loop (by simp [R]), hstop _ c pre _ (Nat.le_refl _) hSp ((hIx c).putObj _ hi (by omega) hbk.loop rfl) ((World.putObj_heap_other (by omega)).trans hbk.dfr)⟩
end Go.Proofs.YtdkgieaanpfhcaaGreatDoor.Rf
