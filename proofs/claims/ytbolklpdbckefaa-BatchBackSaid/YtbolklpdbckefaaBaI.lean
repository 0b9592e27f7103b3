/-
  The law BatchBack walked where the batch may be. Conditions: as each theorem states.
-/
import Derived.Test.YtbolklpdbckefaaBaH
import Derived.Deep.RegionLawGrows
import Derived.Deep.RegionHeldLaw
namespace Go.Proofs.Ytbolklpdbckefaa.Ba
open Go.RowKit
open Go.Proofs.Ytbolklpdbckefaa
open Vi

/-- an append that makes a new row, at a step of a region that is wanted -/
theorem step_append_new {ops : Array Oper} {o : Oper} {a : Act} {w : World} {K : Act → World → Prop} {Q : Exit → Act → World → Prop} {E : Prop}
    (hw : Region.wanted o (yielded ops a.tmps) = true) (s x : Operand) (t : TypeId) (hop : o.op = Op.call { callee := Callee.builtin Builtin.append, args := #[s, x], argTypes := #[t, t] })
    (e : TypeId) (i : TypeInfo) (z : Value) (size bytes : Nat) (h1 : Try.prog.underlying t = some (.slice e)) (h2 : Try.prog.info? e = some i) (h3 : i.zero = some z) (h4 : i.size = size) (h5 : i.bytes = bytes) (h6 : z.cells.size = size) (h7 : 0 < size)
    (ao : Option Addr) (n cap : Nat) (olds : List Value) (hs : a.eval s = .slice ao n cap) (hnone : ao = none → n = 0 ∧ cap = 0) (hlo : olds.length = n * size) (holds : ∀ b, ao = some b → ∀ j u, olds[j]? = some u → w.cell? (b.add j) = some u)
    (ad : Addr) (m c : Nat) (news : List Value) (hx : a.eval x = .slice (some ad) m c) (hn : news.length = m * size) (hc : ∀ j u, news[j]? = some u → w.cell? (ad.add j) = some u) (h1c : ∀ u ∈ news, u.oneCell' = true)
    (hfull : cap < n + m) (b1 : n + m ≤ maxLen) (b2 : (n + m) * bytes ≤ 140737488355328)
    (hK : ∀ v' w', w'.ownsRow w.heap.size e size v' (n + m) (olds ++ news) → w.grownBy w' none → K (a.put o.dst v') w') :
    if Region.wanted o (yielded ops a.tmps) = true then Oper.wp Try.prog o a w K Q else E := by
  have key := step_append_grows (P := Try.prog) (ops := ops) (o := { o with guard := none }) (a := a) (w := w) (K := K) (Q := Q) (E := E) rfl s x t hop e i z size bytes h1 h2 h3 h4 h5 h6 h7 ao n cap olds hs hnone hlo holds ad m c news hx hn hc h1c hfull b1 b2 hK
  rw [if_pos (by simp [Region.wanted])] at key
  rw [if_pos hw]
  exact key
/-- the law's two boxes and the rows in them -/
structure LS (w : World) (kb kx seq : Nat) (A : Option Addr) (c : Nat) (Ax : Option Addr) (cx : Nat) (l : List Chg) (W : World) : Prop where
  b : W.heap[kb]? = some (.cells #[.int .u64 seq, .slice A l.length c] 27 (0, 0))
  x : W.heap[kx]? = some (.cells #[.int .u64 seq, .slice Ax l.length cx] 27 (0, 0))
  ra : CRow W A l
  rx : CRow W Ax l
  below : Below w.heap.size w W
section
variable {w : World} {kb kx seq : Nat} {A : Option Addr} {c : Nat} {Ax : Option Addr} {cx : Nat} {l : List Chg} {W W' : World}
theorem ls_on (h : LS w kb kx seq A c Ax cx l W) (hb : Below W.heap.size W W') : LS w kb kx seq A c Ax cx l W' :=
  ⟨(hb.block _ (Array.getElem?_eq_some_iff.1 h.b).1).trans h.b, (hb.block _ (Array.getElem?_eq_some_iff.1 h.x).1).trans h.x, h.ra.on hb, h.rx.on hb, h.below.trans (hb.mono h.below.size)⟩
theorem ls_drew (h : LS w kb kx seq A c Ax cx l W) : LS w kb kx seq A c Ax cx l W.drew := ls_on h ⟨rfl, rfl, rfl, Nat.le_refl _, fun _ _ => rfl⟩
theorem ls_alloc (h : LS w kb kx seq A c Ax cx l W) (o : Obj) : LS w kb kx seq A c Ax cx l (W.alloc o) := ls_on h ((Below.refl _ _).alloc (Nat.le_refl _) _)
theorem ls_cells (h : LS w kb kx seq A c Ax cx l W) : W.cell? ⟨kb, 0, none⟩ = some (.int .u64 seq) ∧ W.cell? ⟨kb, 1, none⟩ = some (.slice A l.length c) ∧ W.cell? ⟨kx, 0, none⟩ = some (.int .u64 seq) ∧ W.cell? ⟨kx, 1, none⟩ = some (.slice Ax l.length cx) :=
  ⟨cell_in h.b 0 _ rfl, cell_in h.b 1 _ rfl, cell_in h.x 0 _ rfl, cell_in h.x 1 _ rfl⟩
end
theorem ls_start {w w1 w2 w3 w4 : World} {seq : Nat} {A : Option Addr} {c : Nat} {Ax : Option Addr} {cx : Nat} {l : List Chg} (b1 : Below w.heap.size w w1) (b2 : Below w1.heap.size w1 w2)
    (b3 : Below (w2.alloc (.cells #[.int .u64 seq, .slice A l.length c] 27 (0, 0))).heap.size (w2.alloc (.cells #[.int .u64 seq, .slice A l.length c] 27 (0, 0))) w3) (b4 : Below w3.heap.size w3 w4)
    (r2 : CRow (w2.alloc (.cells #[.int .u64 seq, .slice A l.length c] 27 (0, 0))) A l) (r4 : CRow w4 Ax l) :
    LS w w2.heap.size w4.heap.size seq A c Ax cx l (w4.alloc (.cells #[.int .u64 seq, .slice Ax l.length cx] 27 (0, 0))) := by
  have b5 : Below w4.heap.size w4 (w4.alloc (.cells #[.int .u64 seq, .slice Ax l.length cx] 27 (0, 0))) := (Below.refl _ _).alloc (Nat.le_refl _) _
  have h2 := b1.size
  have h3 := b2.size
  have h4 := b3.size
  have h5 := b4.size
  simp at h4
  refine ⟨?_, heap_alloc_new _ _, ((r2.on b3).on b4).on b5, r4.on b5, ?_⟩
  · rw [b5.block _ (by omega), b4.block _ (by omega), b3.block _ (by simp)]
    exact heap_alloc_new _ _
  · exact ((b1.trans (b2.mono h2)).alloc (by omega) _).trans ((b3.mono (by simp; omega)).trans ((b4.mono (by omega)).trans (b5.mono (by omega))))
theorem cCells_len (l : List Chg) : (cCells l).length = l.length * 3 := by
  induction l with
  | nil => rfl
  | cons x l ih =>
    have e : cCells (x :: l) = x.cells ++ cCells l := by unfold cCells; rw [List.flatMap_cons]
    rw [e, List.length_append, ih, List.length_cons]; simp [Chg.cells]; omega
theorem add_succ (q : Addr) (r : Nat) : q.add (r + 1) = ⟨q.block, q.off + (r + 1), none⟩ := by unfold Addr.add; simp
theorem crow_cells {w : World} {A : Option Addr} {l : List Chg} (h : CRow w A l) : ∀ b, A = some b → ∀ j u, (cCells l)[j]? = some u → w.cell? (b.add j) = some u := fun b hb j u hu => by
  have hj : j < l.length * 3 := by
    rw [← cCells_len]
    exact (List.getElem?_eq_some_iff.1 hu).1
  obtain ⟨a, ha, _, hc⟩ := h (by omega)
  rw [hb] at ha
  injection ha with ha
  subst ha
  have hi : j / 3 < l.length := by omega
  obtain ⟨c0, c1, c2⟩ := hc (j / 3) hi
  have hf := cflat_at l (j / 3) hi (j % 3) (by omega)
  rw [show j / 3 * 3 + j % 3 = j by omega, hu] at hf
  have hadd : b.add j = (b.add (j / 3 * 3)).add (j % 3) := by rw [Go.Deep.add_add]; congr 1; omega
  rw [hadd]
  rcases (show j % 3 = 0 ∨ j % 3 = 1 ∨ j % 3 = 2 by omega) with h3 | h3 | h3
  · rw [h3] at hf ⊢
    have e : u = .int .i64 l[j / 3].kind := by simpa [Chg.cells] using hf
    rw [e]; exact c0
  · rw [h3] at hf ⊢
    have e : u = .string l[j / 3].key := by simpa [Chg.cells] using hf
    rw [e, add_succ]; exact c1
  · rw [h3] at hf ⊢
    have e : u = .string l[j / 3].value := by simpa [Chg.cells] using hf
    rw [e, add_succ]; exact c2
set_option maxHeartbeats 4000000 in
set_option maxRecDepth 100000 in
theorem back_good {w : World} {seq : Nat} {A : Option Addr} {c : Nat} {l : List Chg} {s : ByteArray} (RA : CRow w A l) (hcap : l.length ≤ c) (hok : ∀ a ∈ l, okC l.length a) (hs : s.size ≤ 5000) (hc : chkB seq l = 0) :
    Calls Try.prog 3 #[.int .u64 seq, .slice A l.length c, .string s] w (BoPost w true) := by
  obtain ⟨l2, seq2, err, hp, hc2, hway⟩ := tail_ways s.data.toList
  obtain ⟨q1, q2, q3, q4⟩ := chkB_ok.1 hc
  have h60 : l.length ≤ 60 := by
    rcases Nat.eq_zero_or_pos l.length with h | h
    · omega
    · exact (hok l[0] (List.getElem_mem h)).1
  have hsm : ∀ p ∈ l, p.small := small_of_ok q2
  have LA := Lib.hid fun (W : World) (R : CRow W A l) => light_all (c := c) R (by omega) hok
  have BY := Lib.hid fun (W : World) (R : CRow W A l) => bytes_ok seq (c := c) R hsm hc
  have hbl := bb_len (seq := seq) q2 q1
  have PT : Hid (∀ W : World, Calls Try.prog 7 #[.string (bs (bb seq l))] W (PrPost W l seq 0)) := fun W => parse_at (bs (bb seq l)) (by rw [bs_size]; omega) (by rw [bs_toList]; exact parse_bb hc) W
  have PA := Lib.hid (parse_at s (by omega) hp)
  have B2 := Lib.hid fun (W : World) (A : Option Addr) (c : Nat) (R : CRow W A l2) => bytes_ok seq2 (c := c) R (small_of_ok (chkB_ok.1 hc2).2.1) hc2
  have S1 := Lib.hid fun (W : World) (Ax : Option Addr) (cx : Nat) (Rx : CRow W Ax l) (R : CRow W A l) => same_yes (x := seq) (c := cx) (c2 := c) (by omega) Rx R
  have S2 : Hid (∀ (W : World) (va vb : Value), Calls Try.prog 8 #[.agg #[.int .u64 seq, va], .agg #[.int .u64 (IntKind.u64.wrap ((seq : Int) + 1)), vb]] W (BoPost W false)) := fun W va vb => by
    have e : IntKind.u64.wrap ((seq : Int) + 1) = ((seq + 1 : Nat) : Int) := by rw [IntKind.wrap_u64]; omega
    rw [e]
    exact same_seq (y := seq + 1) (by omega)
  have S3 := Lib.hid fun (W : World) (A2 : Option Addr) (c2 : Nat) => same_len (w := W) (A := A) (c := c) (A2 := A2) (c2 := c2) (n := l.length) (m := l.length + 1) (x := seq) (by omega) (by omega) (by omega)
  have hN : Hid (A = none → l.length = 0 ∧ l.length = 0) := fun hA => by
    rcases Nat.eq_zero_or_pos l.length with h | h
    · exact ⟨h, h⟩
    · obtain ⟨a, ha, _⟩ := RA h
      rw [hA] at ha; cases ha
  obtain ⟨i0, hi, hz0, hz1, hz2⟩ := info_parts infoChg
  have HI := Lib.hid (And.intro hi (And.intro hz0 (And.intro hz1 hz2)))
  clear hi hz0 hz1 hz2
  replace RA := Lib.hid RA
  have hcap2 : (l.length : Int) ≤ (c : Int) := by omega
  clear hok hsm hc hc2 hp hbl q2
  go_enter Try.func3, Try.ntmps3
  go_wp2_with (first
      | (go_at_call 4; (with_reducible refine (awake_any _).mono ?_); rintro e w1 ⟨rfl, b1⟩; have R1 := Lib.hid (RA.out.on b1))
      | (go_at_call 5; (with_reducible refine (LA.out _ R1.out).mono ?_); rintro e w2 ⟨rfl, b2⟩; have R2 := Lib.hid (crow_alloc (R1.out.on b2) (.cells #[.int .u64 seq, .slice A l.length c] 27 (0, 0))))
      | (go_at_call 6; (with_reducible refine (BY.out _ R2.out).mono ?_); rintro e w3 ⟨rfl, b3⟩)
      | (go_at_call 7; (with_reducible refine (PT.out _).mono ?_); rintro e w4 ⟨Ax, cx, rfl, r4, b4⟩; have L0 := Lib.hid (ls_start (cx := cx) b1 b2 b3 b4 R2.out r4); obtain ⟨y0, y1, y2, y3⟩ := ls_cells L0.out; clear r4 b4))
  go_region_held_law (fun wx => wx.cell? ⟨w2.heap.size, 0, none⟩ = some (.int .u64 seq) ∧ wx.cell? ⟨w2.heap.size, 1, none⟩ = some (.slice A l.length c) ∧ wx.cell? ⟨w4.heap.size, 0, none⟩ = some (.int .u64 seq) ∧ wx.cell? ⟨w4.heap.size, 1, none⟩ = some (.slice Ax l.length cx))
    (first | exact ls_cells L0.out | exact ls_cells L5.out | exact ls_cells L6.out | exact ls_cells (ls_alloc L6.out _) | exact ls_cells L7.out | exact ls_cells L8.out | exact ls_cells (ls_drew L0.out) | exact ls_cells (ls_drew L5.out) | exact ls_cells (ls_drew L6.out))
    (first
      | (refine step_append_new rfl _ _ 23 rfl 35 i0 _ 3 40 Try.underlying23 HI.out.1 HI.out.2.1 HI.out.2.2.1 HI.out.2.2.2 rfl (by decide) A l.length l.length (cCells l) rfl hN.out (cCells_len l) (crow_cells (ls_alloc L6.out _).ra) ⟨w6.heap.size, 0, none⟩ 1 1 [.int .i64 0, .string ⟨#[]⟩, .string ⟨#[]⟩] rfl rfl (news_three w6 _ _ _ _) (by simp [Value.oneCell']) (by omega) (by unfold maxLen; omega) (by omega) ?_
         intro v7 w7 hown7 hgrow7
         obtain ⟨g7, cap7, rfl, _, _⟩ := hown7.form (by omega)
         have L7 := Lib.hid (ls_on (ls_alloc L6.out _) (show Below _ _ w7 from ⟨hgrow7.os, hgrow7.tape, hgrow7.output, hgrow7.size, fun k hk => hgrow7.block k hk (by simp)⟩))
         clear hown7 hgrow7)
      | (go_at_call 8; (with_reducible first | refine (S1.out _ _ _ L0.out.rx L0.out.ra).mono ?_ | refine (S1.out _ _ _ (ls_drew L0.out).rx (ls_drew L0.out).ra).mono ?_); rintro e w5 ⟨rfl, b5⟩; have L5 := Lib.hid (by first | exact ls_on L0.out b5 | exact ls_on (ls_drew L0.out) b5); clear b5)
      | (go_at_call 8; (with_reducible refine (S2.out _ _ _).mono ?_); rintro e w6 ⟨rfl, b6⟩; have L6 := Lib.hid (by first | exact ls_on L5.out b6 | exact ls_on (ls_drew L5.out) b6); clear b6)
      | (go_at_call 8; (with_reducible refine (S3.out _ _ _).mono ?_); rintro e w8 ⟨rfl, b8⟩; have L8 := Lib.hid (by first | exact ls_on L7.out b8 | exact ls_on (ls_drew L7.out) b8); clear b8))
  clear b1 b2 b3 R1 R2 RA L0 L5 L6 L7 S1 S2 S3 LA BY PT hN HI
  rcases hway with ⟨rfl, hX⟩ | ⟨he, rfl, rfl⟩
  · replace B2 : Hid (∀ (W : World) (A : Option Addr) (c : Nat), CRow W A l2 → Calls Try.prog 6 #[.agg #[.int .u64 seq2, .slice A l2.length c]] W fun e w' => e = .returned (.tuple #[.string s, .int .i64 0]) ∧ Below W.heap.size W w') := fun W A c R => by
      have := B2.out W A c R
      rw [hX] at this
      exact this.mono fun e w' ⟨h1, h2⟩ => ⟨by rw [h1, bs_of], h2⟩
    clear hX
    go_wp2_with (first
      | (go_at_call 7; (with_reducible refine (PA.out _).mono ?_); rintro e w5 ⟨A5, c5, rfl, r5, b5⟩; have Q5 := Lib.hid (And.intro (crow_alloc r5 (.cells #[.int .u64 seq2, .slice A5 l2.length c5] 27 (0, 0))) b5); clear r5 b5)
      | (go_at_call 6; (with_reducible refine (B2.out _ _ _ Q5.out.1).mono ?_); rintro e w6 ⟨rfl, b6⟩; obtain ⟨x0, x1⟩ := alloc_on rfl b6; have Q6 := Lib.hid b6; clear b6))
    go_ret
    exact ⟨rfl, below_alloc_on (L8.out.below.trans (Q5.out.2.mono L8.out.below.size)) (Nat.le_trans L8.out.below.size Q5.out.2.size) Q6.out⟩
  · have PA2 : Hid (∀ W : World, Calls Try.prog 7 #[.string s] W fun e w' => ∃ A c, e = .returned (.tuple #[.agg #[.int .u64 0, .slice A 0 c], .int .i64 err]) ∧ Below W.heap.size W w') := fun W => (PA.out W).mono fun e w' ⟨A, c, h1, _, h2⟩ => ⟨A, c, h1, h2⟩
    have B3 : Hid (∀ (W : World) (A : Option Addr) (c : Nat), Calls Try.prog 6 #[.agg #[.int .u64 0, .slice A 0 c]] W (ByPost W (bb 0 []) 0)) := fun W A c => B2.out W A c (crow_nil W A)
    have SM : Hid (∀ (W : World) (A : Option Addr) (c : Nat), Calls Try.prog 8 #[.agg #[.int .u64 0, .slice A 0 c], .agg #[.int .u64 0, .slice none 0 0]] W (BoPost W true)) := fun W A c => same_yes (x := 0) (c2 := 0) (l := []) (by simp) (crow_nil W A) (crow_nil W none)
    have he2 : (err != 0) = true := by simp [bne, he]
    clear PA B2
    go_wp2_with (first
      | (go_at_call 7; (with_reducible refine (PA2.out _).mono ?_); rintro e w5 ⟨A5, c5, rfl, b5⟩; have Q5 := Lib.hid b5; clear b5)
      | (go_at_call 6; (with_reducible refine (B3.out _ _ _).mono ?_); rintro e w6 ⟨rfl, b6⟩; obtain ⟨x0, x1⟩ := alloc_on rfl b6; have Q6 := Lib.hid b6; clear b6)
      | (go_at_call 8; (with_reducible refine (SM.out _ _ _).mono ?_); rintro e w7 ⟨rfl, b7⟩; have Q7 := Lib.hid b7; clear b7))
    go_ret
    have B6 : Below w.heap.size w w6 := below_alloc_on (L8.out.below.trans (Q5.out.mono L8.out.below.size)) (Nat.le_trans L8.out.below.size Q5.out.size) Q6.out
    exact ⟨rfl, B6.trans (Q7.out.mono B6.size)⟩
end Go.Proofs.Ytbolklpdbckefaa.Ba
