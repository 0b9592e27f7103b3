/-
  A crash by names, bytes and how many last: the program's and the document's come to the same. Conditions: as each theorem states.
-/
import Derived.Test.YtpeobjnamflibaaDkZc
namespace Go.Proofs.Ytpeobjnamflibaa.Dk
open Go.RowKit Go.Maps

abbrev Tri := List UInt8 × List UInt8 × Nat
def rk (f : RFile) : Tri := (f.name.data.toList, f.s.data.toList, f.sure)
def ek (e : Ent) : Tri := (e.name, e.bytes, e.sure)
def keepT (keep : Int) (t : Tri) : Nat := (min (max keep 0) ((t.2.1.length - t.2.2 : Nat) : Int)).toNat
def turnT (f : FateS) (t : Tri) : List UInt8 :=
  if 0 ≤ f.plc ∧ f.plc < ((keepT f.keep t : Nat) : Int) then
    (match t.2.1[t.2.2 + f.plc.toNat]? with
      | some b => t.2.1.set (t.2.2 + f.plc.toNat) (b ^^^ f.turn)
      | none => t.2.1)
  else t.2.1
def meetT (f : FateS) (t : Tri) : Tri := (t.1, (turnT f t).take (t.2.2 + keepT f.keep t), t.2.2 + keepT f.keep t)
def crashT (fates : List FateS) : List (List UInt8) → Nat → List Tri → List Tri
  | [], _, L => L
  | x :: ss, k, L =>
    match L.find? (fun e => decide (e.1 = x)) with
    | none => crashT fates ss k L
    | some e =>
      if e.2.1.length - e.2.2 = 0 then crashT fates ss k L
      else crashT fates ss (k + 1) (L.map fun y => if y.1 = x then meetT (fates.getD k zeroFate) y else y)
theorem crashT_cons (fates : List FateS) (x : List UInt8) (ss : List (List UInt8)) (k : Nat) (L : List Tri) : crashT fates (x :: ss) k L = (match L.find? (fun e => decide (e.1 = x)) with
    | none => crashT fates ss k L
    | some e =>
      if e.2.1.length - e.2.2 = 0 then crashT fates ss k L
      else crashT fates ss (k + 1) (L.map fun y => if y.1 = x then meetT (fates.getD k zeroFate) y else y)) := rfl
theorem meet_ek (f : FateS) (e : Ent) : ek (meetE f e) = meetT f (ek e) := rfl
theorem crash_ek (fates : List FateS) : ∀ (ss : List (List UInt8)) (k : Nat) (L : List Ent), (crashGo fates ss k L).map ek = crashT fates ss k (L.map ek)
  | [], _, _ => rfl
  | x :: ss, k, L => by
    rw [crashGo_cons, crashT_cons]
    have hf : (L.map ek).find? (fun e => decide (e.1 = x)) = (L.find? (fun e => decide (e.name = x))).map ek := by rw [List.find?_map]; rfl
    rw [hf]
    cases L.find? (fun e => decide (e.name = x)) with
    | none => exact crash_ek fates ss k L
    | some e =>
      simp only [Option.map_some]
      show _ = if e.bytes.length - e.sure = 0 then _ else _
      by_cases h : e.bytes.length - e.sure = 0
      · rw [if_pos h, if_pos h]; exact crash_ek fates ss k L
      · rw [if_neg h, if_neg h, crash_ek fates ss (k + 1), List.map_map, List.map_map]
        congr 1
        refine List.map_congr_left fun y _ => ?_
        simp only [Function.comp]
        by_cases hy : y.name = x
        · rw [if_pos hy]; exact ((if_pos (c := (ek y).1 = x) hy).trans (meet_ek _ _).symm).symm
        · rw [if_neg hy]; exact (if_neg (c := (ek y).1 = x) hy).symm
theorem first_split {L : List RFile} {x : ByteArray} (h : ∃ f ∈ L, f.name = x) : ∃ A f B, L = A ++ f :: B ∧ f.name = x ∧ ∀ a ∈ A, a.name ≠ x := by
  induction L with
  | nil => obtain ⟨f, hf, _⟩ := h; cases hf
  | cons a L ih =>
    by_cases ha : a.name = x
    · exact ⟨[], a, L, rfl, ha, fun y hy => by cases hy⟩
    · obtain ⟨f, hf, he⟩ := h
      rcases List.mem_cons.1 hf with rfl | hf
      · exact absurd he ha
      · obtain ⟨A, g, B, rfl, hg, hA⟩ := ih ⟨f, hf, he⟩
        exact ⟨a :: A, g, B, rfl, hg, fun y hy => by
          rcases List.mem_cons.1 hy with rfl | hy
          · exact ha
          · exact hA y hy⟩
theorem toList_inj {a b : ByteArray} (h : a.data.toList = b.data.toList) : a = b := by
  cases a; cases b; simp at h; simp [h]
theorem find_rk {A B : List RFile} {f : RFile} (hA : ∀ a ∈ A, a.name ≠ f.name) : ((A ++ f :: B).map rk).find? (fun e => decide (e.1 = f.name.data.toList)) = some (rk f) := by
  rw [List.map_append, List.find?_append]
  have : (A.map rk).find? (fun e => decide (e.1 = f.name.data.toList)) = none := by
    rw [List.find?_eq_none]
    intro t ht
    obtain ⟨a, ha, rfl⟩ := List.mem_map.1 ht
    simpa [rk] using fun h => hA a ha (toList_inj h)
  rw [this]
  simp [rk]
/-- one name: nothing is loose -/
theorem crashT_skip {fates : List FateS} {ss : List (List UInt8)} {k : Nat} {A B : List RFile} {f : RFile} (hA : ∀ a ∈ A, a.name ≠ f.name) (hn : f.s.size - f.sure = 0) :
    crashT fates (f.name.data.toList :: ss) k ((A ++ f :: B).map rk) = crashT fates ss k ((A ++ f :: B).map rk) := by
  rw [crashT_cons, find_rk hA]
  exact if_pos hn
/-- one name: it meets its fate -/
theorem crashT_meet {fates : List FateS} {ss : List (List UInt8)} {k : Nat} {A B : List RFile} {f f' : RFile} (hA : ∀ a ∈ A, a.name ≠ f.name) (hB : ∀ a ∈ B, a.name ≠ f.name) (hn : ¬ f.s.size - f.sure = 0) (hf : rk f' = meetT (fates.getD k zeroFate) (rk f)) :
    crashT fates (f.name.data.toList :: ss) k ((A ++ f :: B).map rk) = crashT fates ss (k + 1) ((A ++ f' :: B).map rk) := by
  rw [crashT_cons, find_rk hA]
  refine (if_neg hn).trans ?_
  congr 1
  rw [List.map_append, List.map_cons, List.map_append, List.map_cons, List.map_append, List.map_cons]
  have same : ∀ X : List RFile, (∀ a ∈ X, a.name ≠ f.name) → (X.map rk).map (fun y => if y.1 = f.name.data.toList then meetT (fates.getD k zeroFate) y else y) = X.map rk := fun X hX => by
    rw [List.map_map]
    refine List.map_congr_left fun a ha => ?_
    exact if_neg (c := (rk a).1 = f.name.data.toList) fun h => hX a ha (toList_inj h)
  rw [same A hA, same B hB, hf]
  congr 2
  exact if_pos (c := (rk f).1 = f.name.data.toList) rfl
end Go.Proofs.Ytpeobjnamflibaa.Dk
