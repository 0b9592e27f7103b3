/-
  The document's Get and Add for rows of entries, walked; what they come to. Conditions: as each theorem states.
-/
import Derived.Test.YtadejeoiffaimaaGreatDoorMeR
import Derived.Test.YtadejeoiffaimaaGreatDoorMeG
namespace Go.Proofs.YtadejeoiffaimaaGreatDoor.Me
open Go.RowKit
open Vi

theorem box_at {W : World} {g : Nat} {o : Obj} (h : W.heap[g]? = some o) (o' : Obj) : (W.alloc o').heap[g]? = some o := old_alloc h o'
theorem get_res {X : World} {g : Nat} {a b c d : Value} {ok : Bool} {t : TypeId} (h : X.heap[g]? = some (.cells #[a, b, c, d] t (0, 0))) (tmps : Array Value) (h6 : tmps.getD 6 undef = .pointer (some ⟨g, 0, none⟩)) (h7 : tmps.getD 7 undef = .bool ok) :
    (results Tryz.f12 tmps).run Tryz.prog X = .ok (.tuple #[.agg #[a, b, c, d], .bool ok]) X := by
  have h6' : tmps[6]?.getD undef = .pointer (some ⟨g, 0, none⟩) := by simpa using h6
  have h7' : tmps[7]?.getD undef = .bool ok := by simpa using h7
  obtain ⟨y0, y1, y2, y3⟩ := box4 h
  simp [results, Tryz.results12, go_sem, h6', h7', asAddr, y0, y1, y2, y3]
set_option maxRecDepth 100000 in
set_option maxHeartbeats 2000000 in
theorem rget_e {w : World} {v : Value} {q : List En} (h : EAt w v q) (k : ByteArray) (at_ : Nat) (hq : q.length ≤ 1000) :
    Calls Tryz.prog 12 #[v, .string k, .int .u64 at_] w fun e w' => e = .returned (.tuple #[.agg (agE ((rgetE q k at_).getD noEn)), .bool (rgetE q k at_).isSome]) ∧ Below w.heap.size w w' := by
  obtain ⟨A, c, rfl, _, hc⟩ := h
  have HC := Lib.hid hc
  clear hc
  have hb0 : Below w.heap.size w (w.alloc (.cells #[.string ⟨#[]⟩, .int .u64 0, .int .i64 0, .string ⟨#[]⟩] 30)) := (Below.refl _ w).alloc (Nat.le_refl _) _
  have X0 : Hid ((w.alloc (.cells #[.string ⟨#[]⟩, .int .u64 0, .int .i64 0, .string ⟨#[]⟩] 30)).heap[w.heap.size]? = some (.cells #[.string ⟨#[]⟩, .int .u64 0, .int .i64 0, .string ⟨#[]⟩] 30 (0, 0))) := heap_alloc_new w _
  have HB0 := Lib.hid hb0
  clear hb0
  go_enter Tryz.func12, Tryz.ntmps12
  go_wp2
  go_loopw [12] (fun i wr => ∃ j : Nat, j ≤ q.length ∧ (∀ i (hi : i < q.length), i < j → (decide (q[i].key = k) && decide (q[i].seq ≤ at_)) = false) ∧ i = .int .i64 j ∧ wr.heap[w.heap.size]? = some (.cells #[.string ⟨#[]⟩, .int .u64 0, .int .i64 0, .string ⟨#[]⟩] 30 (0, 0)) ∧ Below w.heap.size w wr) (fun i _ => q.length - (intOf i).toNat)
  case atStart => exact ⟨0, by omega, fun i hi h => by omega, rfl, X0.out, HB0.out⟩
  case round =>
    obtain ⟨j, hj, hlo, rfl, hX, hb⟩ := hrel
    by_cases hlt : j < q.length
    · obtain ⟨g0, rfl, hg0, hx⟩ := HC.out (by omega)
      obtain ⟨y0, y1, y2, y3⟩ := e_cells (fun j x hjx => (hb.cell (p := ⟨g0, j, none⟩) hg0).trans (hx j x hjx)) hlt
      clear hx
      have hinf := ent_info
      have HB := Lib.hid hb
      have HX := Lib.hid hX
      clear hb hX
      have hinc : ∀ (hf : ¬ (q[j].key = k ∧ q[j].seq ≤ at_)), Hid (∀ i (hi : i < q.length), i < j + 1 → (decide (q[i].key = k) && decide (q[i].seq ≤ at_)) = false) := fun hf i hi hij => by
        by_cases e : i = j
        · subst e
          by_cases h1 : q[i].key = k
          · have h2 : ¬ q[i].seq ≤ at_ := fun h2 => hf ⟨h1, h2⟩
            simp [h2]
          · simp [h1]
        · exact hlo i hi (by omega)
      by_cases he : q[j].key = k ∧ q[j].seq ≤ at_
      · have hf := find_at (f := fun x => decide (x.key = k) && decide (x.seq ≤ at_)) hlt hlo (by simp [he.1, he.2])
        have HG : Hid (rgetE q k at_ = some q[j]) := hf
        clear hlo hf hinc
        generalize q[j] = y at *
        obtain ⟨he1, he2⟩ := he
        have hq1 : (y.key.toList == k.toList) = true := by rw [he1]; simp
        have hq2 : y.key.toList = k.toList := by rw [he1]
        have hq3 : ((y.seq : Int) ≤ (at_ : Int)) := by omega
        have HE1 := Lib.hid he1
        clear he1
        obtain ⟨z0, z1, z2, z3⟩ := box4 (e_box (W := wr) y 30)
        obtain ⟨r0, r1, r2, r3⟩ := box4 (box_at HX.out (.cells #[.string y.key, .int .u64 y.seq, .int .i64 y.kind, .string y.val] 30))
        have f0 := free_in (box_at HX.out (.cells #[.string y.key, .int .u64 y.seq, .int .i64 y.kind, .string y.val] 30)) 0
        have f1 := free_in (box_at HX.out (.cells #[.string y.key, .int .u64 y.seq, .int .i64 y.kind, .string y.val] 30)) 1
        have f2 := free_in (box_at HX.out (.cells #[.string y.key, .int .u64 y.seq, .int .i64 y.kind, .string y.val] 30)) 2
        have f3 := free_in (box_at HX.out (.cells #[.string y.key, .int .u64 y.seq, .int .i64 y.kind, .string y.val] 30)) 3
        go_wp2
        have r9 := Sk.heap_set (Sk.heap_set (Sk.heap_set (Sk.heap_set (box_at HX.out (.cells #[.string y.key, .int .u64 y.seq, .int .i64 y.kind, .string y.val] 30)) 0 (.string y.key)) 1 (.int .u64 y.seq)) 2 (.int .i64 y.kind)) 3 (.string y.val)
        exact bodyPost_ret (get_res r9 _ rfl rfl) rfl ⟨by rw [HG.out]; rfl, (((((HB.out.alloc HB.out.size _).setCell (p := ⟨w.heap.size, 0, none⟩) (Nat.le_refl _) _).setCell (p := ⟨w.heap.size, 1, none⟩) (Nat.le_refl _) _).setCell (p := ⟨w.heap.size, 2, none⟩) (Nat.le_refl _) _).setCell (p := ⟨w.heap.size, 3, none⟩) (Nat.le_refl _) _)⟩
      · have HL := hinc he
        clear hlo hinc
        generalize q[j] = y at y0 y1 y2 y3 he
        obtain ⟨z0, z1, z2, z3⟩ := box4 (e_box (W := wr) y 30)
        by_cases h1 : y.key = k
        · have h2 : ¬ ((y.seq : Int) ≤ (at_ : Int)) := fun h2 => he ⟨h1, by omega⟩
          have hq1 : (y.key.toList == k.toList) = true := by rw [h1]; simp
          have hq2 : y.key.toList = k.toList := by rw [h1]
          have H1 := Lib.hid h1
          clear he h1
          go_wp2
          go_roundw
          case rel => exact ⟨j + 1, by omega, HL.out, by go_num, box_at HX.out _, HB.out.alloc HB.out.size _⟩
          case measure => simp [intOf]; omega
        · obtain ⟨hq1, hq2⟩ := ne_lists h1
          have H1 := Lib.hid h1
          clear he h1
          go_wp2
          go_roundw
          case rel => exact ⟨j + 1, by omega, HL.out, by go_num, box_at HX.out _, HB.out.alloc HB.out.size _⟩
          case measure => simp [intOf]; omega
    · have hall : rgetE q k at_ = none := by
        unfold rgetE
        rw [List.find?_eq_none]
        intro x hx
        obtain ⟨i, hi, rfl⟩ := List.getElem_of_mem hx
        rw [hlo i hi (by omega)]; decide
      obtain ⟨r0, r1, r2, r3⟩ := box4 hX
      have f0 := free_in hX 0
      have f1 := free_in hX 1
      have f2 := free_in hX 2
      have f3 := free_in hX 3
      have HG := Lib.hid hall
      have HX := Lib.hid hX
      replace hb := Lib.hid hb
      clear hlo hall hX
      go_wp2
      have r9 := Sk.heap_set (Sk.heap_set (Sk.heap_set (Sk.heap_set HX.out 0 (.string ⟨#[]⟩)) 1 (.int .u64 0)) 2 (.int .i64 0)) 3 (.string ⟨#[]⟩)
      exact bodyPost_ret (get_res r9 _ rfl rfl) rfl ⟨by rw [HG.out]; rfl, ((((hb.out.setCell (p := ⟨w.heap.size, 0, none⟩) (Nat.le_refl _) _).setCell (p := ⟨w.heap.size, 1, none⟩) (Nat.le_refl _) _).setCell (p := ⟨w.heap.size, 2, none⟩) (Nat.le_refl _) _).setCell (p := ⟨w.heap.size, 3, none⟩) (Nat.le_refl _) _)⟩
end Go.Proofs.YtadejeoiffaimaaGreatDoor.Me
