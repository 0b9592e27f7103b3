/-
  The Go text of a crash of a disk, walked. Conditions: as each theorem states.
-/
import Derived.Test.YtpeobjnamflibaaDkI
import Derived.Deep.CutBlock
namespace Go.Proofs.Ytpeobjnamflibaa.Dk
open Go.RowKit Go.Maps Go.Sort

structure FateS where
  keep : Int
  plc : Int
  turn : UInt8
def FateS.val (f : FateS) : Value := .agg #[.int .i64 f.keep, .int .i64 f.plc, .int .u8 (f.turn.toNat : Int)]
def turnBytes (f : FateS) (e : Ent) : List UInt8 :=
  if 0 ≤ f.plc ∧ f.plc < ((keepOf f.keep e : Nat) : Int) then
    (match e.bytes[e.sure + f.plc.toNat]? with
      | some b => e.bytes.set (e.sure + f.plc.toNat) (b ^^^ f.turn)
      | none => e.bytes)
  else e.bytes
/-- a file behind its fate -/
def meetE (f : FateS) (e : Ent) : Ent := (⟨e.name, turnBytes f e, e.sure, e.blk, e.v⟩ : Ent).kept (keepOf f.keep e) (cutV e.v (e.sure + keepOf f.keep e))
theorem cutV_own (v : Value) (n : Nat) : (cutV v n).ownBlock = v.ownBlock := by
  unfold cutV
  split
  · rename_i a _ c; cases a <;> rfl
  · rfl
theorem meetE_foot (f : FateS) (e : Ent) : (meetE f e).foot = e.foot := by
  unfold Ent.foot meetE Ent.kept
  simp only [cutV_own]
theorem turnBytes_len (f : FateS) (e : Ent) : (turnBytes f e).length = e.bytes.length := by
  unfold turnBytes
  split
  · split
    · simp
    · rfl
  · rfl
theorem meet_any {w : World} {e : Ent} (h : FileAt w e) (hb : e.bytes.length ≤ 16777216) (f : FateS) (hne : e.v.ownBlock ≠ some e.blk) :
    Calls Try.prog 41 #[.pointer (some ⟨e.blk, 0, none⟩), f.val] w fun r w' => r = .returned (.tuple #[]) ∧ FileAt w' (meetE f e) ∧ Only e.foot w w' := by
  by_cases hc : 0 ≤ f.plc ∧ f.plc < ((keepOf f.keep e : Nat) : Int)
  · have hkl := keepOf_le f.keep e
    have hn : f.plc.toNat < keepOf f.keep e := by omega
    have hlt : e.sure + f.plc.toNat < e.bytes.length := by omega
    have hm := meet_turn h hb f.keep f.plc.toNat f.turn hn hne e.bytes[e.sure + f.plc.toNat] (List.getElem?_eq_getElem hlt)
    have e1 : ((f.plc.toNat : Nat) : Int) = f.plc := by omega
    rw [e1] at hm
    have e2 : turnBytes f e = e.bytes.set (e.sure + f.plc.toNat) (e.bytes[e.sure + f.plc.toNat] ^^^ f.turn) := by
      unfold turnBytes
      rw [if_pos hc, List.getElem?_eq_getElem hlt]
    unfold meetE
    rw [e2]
    exact hm
  · have hm := meet_plain h hb f.keep f.plc (f.turn.toNat : Int) (by omega) hne
    have e2 : turnBytes f e = e.bytes := by unfold turnBytes; rw [if_neg hc]
    unfold meetE
    rw [e2]
    exact hm
def zeroFate : FateS := ⟨0, 0, 0⟩
/-- the files behind a crash: of those that have loose bytes, by their names, each has the next fate -/
def crashGo (fates : List FateS) : List (List UInt8) → Nat → List Ent → List Ent
  | [], _, L => L
  | x :: ss, k, L =>
    match L.find? (fun e => decide (e.name = x)) with
    | none => crashGo fates ss k L
    | some e =>
      if e.bytes.length - e.sure = 0 then crashGo fates ss k L
      else crashGo fates ss (k + 1) (L.map fun y => if y.name = x then meetE (fates.getD k zeroFate) y else y)
theorem crashGo_cons (fates : List FateS) (x : List UInt8) (ss : List (List UInt8)) (k : Nat) (L : List Ent) : crashGo fates (x :: ss) k L = (match L.find? (fun e => decide (e.name = x)) with
    | none => crashGo fates ss k L
    | some e =>
      if e.bytes.length - e.sure = 0 then crashGo fates ss k L
      else crashGo fates ss (k + 1) (L.map fun y => if y.name = x then meetE (fates.getD k zeroFate) y else y)) := rfl
/-- the state in the middle: what is left to go through gives the same end -/
structure CrashMid (fates : List FateS) (ss : List (List UInt8)) (L : List Ent) (i k : Nat) (L' : List Ent) : Prop where
  rest : crashGo fates (ss.drop i) k L' = crashGo fates ss 0 L
  feet : L'.map Ent.foot = L.map Ent.foot
  names : L'.map Ent.name = L.map Ent.name
structure FatesAt (w : World) (fv : Value) (fates : List FateS) : Prop where
  val : ∃ a c, fv = .slice a fates.length c
  cells : 0 < fates.length → ∃ (a : Addr) (c : Nat), fv = .slice (some a) fates.length c ∧ ∀ i f, fates[i]? = some f →
    w.cell? (a.add (i * 3)) = some (.int .i64 f.keep) ∧ w.cell? ⟨(a.add (i * 3)).block, (a.add (i * 3)).off + 1, none⟩ = some (.int .i64 f.plc) ∧ w.cell? ⟨(a.add (i * 3)).block, (a.add (i * 3)).off + 2, none⟩ = some (.int .u8 (f.turn.toNat : Int))
theorem add_block (a : Addr) (n : Nat) : (a.add n).block = a.block := by unfold Addr.add; split <;> rfl
theorem crash_nil (fv : Value) (w : World) : Calls Try.prog 13 #[.pointer none, fv] w fun r w' => r = .returned (.tuple #[]) ∧ w = w' := by
  go_enter Try.func13, Try.ntmps13
  go_wp2
  refine bodyPost_ret (results_none rfl _ _ _) rfl ?_
  exact ⟨rfl, rfl⟩
theorem names_perm {w : World} {d m : Nat} {L : List Ent} {room steps fuse fault : Int} {down : Bool} (h : DiskAt w d m L room steps fuse fault down) {D : DataW Unit} (ho : w.ownsMap Try.prog 9 ptrElem m L.length D) (hM : MapIs D L) :
    (L.map Ent.name).Perm (strKeys D) := by
  obtain ⟨es, hD, hp, _⟩ := ho.entries key9
  obtain ⟨es', hD', hk⟩ := ho.keysOf
  subst hD
  injection hD' with hD'
  subst hD'
  refine perm_strKeys hp (fun p hp' => ?_) ?_ (fun x => ?_)
  · obtain ⟨key, hkey⟩ := hk p hp'
    obtain ⟨x, _, hx, _⟩ := Maps.keyOf_str Try.underlying9 hkey
    exact ⟨x, hx⟩
  · unfold List.Nodup
    rw [List.pairwise_map]
    exact h.names
  · rw [hM.has x]; simp
theorem sorted_of (l : List (List UInt8)) : (l.mergeSort (fun x y => decide (x ≤ y))).Pairwise (fun a b => a ≤ b) := by
  have h := List.pairwise_mergeSort (le := fun x y : List UInt8 => decide (x ≤ y)) (fun a b c h1 h2 => by simp only [decide_eq_true_eq] at *; exact List.le_trans h1 h2) (fun a b => by simp only [Bool.or_eq_true, decide_eq_true_eq]; exact List.le_total a b) l
  exact h.imp (fun hab => by simpa using hab)
def CrashRel (w2 : World) (d m : Nat) (L : List Ent) (room steps : Int) (fates : List FateS) (ss : List (List UInt8)) (s4 s23 : Value) (wr : World) : Prop :=
  ∃ i k L', i ≤ ss.length ∧ s23 = .int .i64 ((i : Nat) : Int) ∧ s4 = .int .i64 ((k : Nat) : Int) ∧ k ≤ i ∧ CrashMid fates ss L i k L' ∧ DiskAt wr d m L' room steps (-1) (-1) false ∧ Only (feet d m L) w2 wr
theorem mid_find {fates : List FateS} {ss : List (List UInt8)} {L L' : List Ent} {i k : Nat} (h : CrashMid fates ss L i k L') (hp : ss.Perm (L.map Ent.name)) {x : List UInt8} (hx : x ∈ ss) : ∃ e ∈ L', e.name = x := by
  have h1 : x ∈ L'.map Ent.name := by rw [h.names]; exact hp.mem_iff.1 hx
  obtain ⟨e, he, hn⟩ := List.mem_map.1 h1
  exact ⟨e, he, hn⟩
theorem names_cell {w1 w2 wr : World} {fp : List Nat} {la : Option Addr} {lc : Nat} {ss : List (List UInt8)} (hrow : w2.ownsRow w1.heap.size 9 1 (.slice la ss.length lc) ss.length (ss.map encStr)) (hon : Only fp w2 wr) (hfp : ∀ k ∈ fp, k < w1.heap.size)
    {i : Nat} (hi : i < ss.length) : ∃ b, la = some ⟨b, 0, none⟩ ∧ wr.cell? ⟨b, i, none⟩ = some (.string ⟨ss[i].toArray⟩) := by
  rcases hrow.2 with ⟨_, h0⟩ | ⟨g, cap, cur, h1, hbg, hg, _⟩
  · omega
  · injection h1 with a1 _ _
    refine ⟨g, a1, ?_⟩
    have hc := hrow.cells (g := g) (by rw [a1]; rfl) i (encStr ss[i]) (by simp [hi])
    have hlt : g < w2.heap.size := (Array.getElem?_eq_some_iff.1 hg).1
    have hk := hon.block g hlt (fun hm => by have := hfp g hm; omega)
    rw [Addr.add_lit] at hc
    simp only [Nat.zero_add] at hc
    rw [World.cell?_of_block (a := ⟨g, i, none⟩) hk]
    exact hc
theorem below_drewN {B : Nat} {a w : World} (h : Below B a w) (n : Nat) : Below B a (w.drewN n) := ⟨h.os, h.tape, h.output, h.size, h.block⟩
theorem floose_q {w : World} {e : Ent} (h : FileAt w e) (hb : e.bytes.length ≤ 16777216) {q : Nat} (hq : e.bytes.length - e.sure = q) :
    Calls Try.prog 40 #[.pointer (some ⟨e.blk, 0, none⟩)] w fun r w' => r = .returned (.int .i64 (q : Int)) ∧ Below w.heap.size w w' := by
  subst hq
  refine (floose_any h hb).mono ?_
  rintro r w' ⟨rfl, n, rfl⟩
  exact ⟨rfl, below_drewN (Below.refl _ w) n⟩
theorem feet_ne {w : World} {d m : Nat} {L : List Ent} {e : Ent} {room steps fuse fault : Int} {down : Bool} (h : DiskAt w d m L room steps fuse fault down) (he : e ∈ L) : e.v.ownBlock ≠ some e.blk := by
  obtain ⟨A, B, rfl⟩ := List.append_of_mem he
  exact foot_ne h
theorem find_name {L : List Ent} (hp : L.Pairwise (fun a b => a.name ≠ b.name)) {e : Ent} (he : e ∈ L) : L.find? (fun y => decide (y.name = e.name)) = some e := by
  induction L with
  | nil => cases he
  | cons a L ih =>
    obtain ⟨h1, h2⟩ := List.pairwise_cons.1 hp
    rcases List.mem_cons.1 he with rfl | he
    · simp
    · rw [List.find?_cons_of_neg (by simpa using h1 e he)]
      exact ih h2 he
theorem drop_cons {ss : List (List UInt8)} {i : Nat} (h : i < ss.length) : ss.drop i = ss[i] :: ss.drop (i + 1) := List.drop_eq_getElem_cons h
theorem mid_skip {fates : List FateS} {ss : List (List UInt8)} {L L' : List Ent} {i k : Nat} (h : CrashMid fates ss L i k L') (hi : i < ss.length) {e : Ent} (he : e ∈ L') (hen : e.name = ss[i]) (hz : e.bytes.length - e.sure = 0) (hp : L'.Pairwise (fun a b => a.name ≠ b.name)) :
    CrashMid fates ss L (i + 1) k L' := by
  refine ⟨?_, h.feet, h.names⟩
  have h1 := h.rest
  rw [drop_cons hi] at h1
  rw [crashGo_cons, ← hen, find_name hp he] at h1
  simp only [hz, if_true] at h1
  exact h1
theorem Only.sub {fp fp' : List Nat} {w w' : World} (h : Only fp w w') (hs : ∀ k ∈ fp, k ∈ fp') : Only fp' w w' := ⟨h.os, h.tape, h.output, h.size, fun k hk hn => h.block k hk (fun hm => hn (hs k hm))⟩
def upd (f : FateS) (x : List UInt8) (L : List Ent) : List Ent := L.map fun y => if y.name = x then meetE f y else y
theorem map_far {f : FateS} {x : List UInt8} : ∀ {A : List Ent}, (∀ a ∈ A, a.name ≠ x) → A.map (fun y => if y.name = x then meetE f y else y) = A := by
  intro A
  induction A with
  | nil => intro _; rfl
  | cons a A ih =>
    intro h
    rw [List.map_cons, if_neg (h a (by simp)), ih (fun b hb => h b (by simp [hb]))]
theorem upd_mid {A B : List Ent} {e : Ent} (f : FateS) (hp : (A ++ e :: B).Pairwise (fun a b => a.name ≠ b.name)) : upd f e.name (A ++ e :: B) = A ++ meetE f e :: B := by
  rw [List.pairwise_append, List.pairwise_cons] at hp
  obtain ⟨_, ⟨p2, _⟩, p4⟩ := hp
  unfold upd
  rw [List.map_append, List.map_cons, if_pos rfl]
  congr 1
  · exact map_far (fun a ha => p4 a ha e (by simp))
  · congr 1
    exact map_far (fun b hb => Ne.symm (p2 b hb))
theorem upd_names (f : FateS) (x : List UInt8) (L : List Ent) : (upd f x L).map Ent.name = L.map Ent.name := by
  unfold upd
  rw [List.map_map]
  apply List.map_congr_left
  intro a _
  simp only [Function.comp]
  split <;> rfl
theorem upd_feet (f : FateS) (x : List UInt8) (L : List Ent) : (upd f x L).map Ent.foot = L.map Ent.foot := by
  unfold upd
  rw [List.map_map]
  apply List.map_congr_left
  intro a _
  simp only [Function.comp]
  split
  · exact meetE_foot f a
  · rfl
theorem feet_eq {d m : Nat} {L L' : List Ent} (h : L'.map Ent.foot = L.map Ent.foot) : feet d m L' = feet d m L := by
  unfold feet
  rw [List.flatMap_def, List.flatMap_def, h]
theorem round_end {wr W6 w5 w2 : World} {d m : Nat} {L L' : List Ent} {e : Ent} {room steps : Int} {fates : List FateS} {ss : List (List UInt8)} {i k : Nat} (hmid : CrashMid fates ss L i k L') (hD : DiskAt wr d m L' room steps (-1) (-1) false) (hon : Only (feet d m L) w2 wr)
    (hi : i < ss.length) (he : e ∈ L') (hen : e.name = ss[i]) (hq : ¬ e.bytes.length - e.sure = 0) (f : FateS) (hf : fates.getD k zeroFate = f) (hb : Below wr.heap.size wr W6) (hF : FileAt w5 (meetE f e)) (h5 : Only e.foot W6 w5) :
    CrashMid fates ss L (i + 1) (k + 1) (upd f e.name L') ∧ DiskAt w5 d m (upd f e.name L') room steps (-1) (-1) false ∧ Only (feet d m L) w2 w5 := by
  have hfe := feet_eq (d := d) (m := m) hmid.feet
  refine ⟨⟨?_, (upd_feet _ _ _).trans hmid.feet, (upd_names _ _ _).trans hmid.names⟩, ?_, ?_⟩
  · have h1 := hmid.rest
    rw [drop_cons hi, crashGo_cons, ← hen, find_name hD.names he] at h1
    simp only [if_neg hq, hf] at h1
    exact h1
  · obtain ⟨A, B, rfl⟩ := List.append_of_mem he
    rw [upd_mid f hD.names]
    refine (file_end (hD.below hb) h5 hF rfl rfl (Or.inl ?_) ?_).1
    · exact cutV_own _ _
    · have h1 := hD.vol
      rw [usedL_mid] at h1 ⊢
      have h2 : (meetE f e).bytes.length ≤ e.bytes.length := by
        show ((turnBytes f e).take (e.sure + keepOf f.keep e)).length ≤ _
        rw [List.length_take, turnBytes_len]; omega
      omega
  · refine (hon.trans (Only.of_below hb)).trans (h5.sub (fun k hk => ?_))
    rw [← hfe]
    exact mem_feet.2 (Or.inr (Or.inr ⟨e, he, hk⟩))
set_option maxRecDepth 100000 in
set_option maxHeartbeats 1000000 in
theorem crash_any {w : World} {d m : Nat} {L : List Ent} {room steps fuse fault : Int} {down : Bool} (h : DiskAt w d m L room steps fuse fault down) (fv : Value) (fates : List FateS) (hfv : FatesAt w fv fates)
    (hfb : 0 < fates.length → ∀ a n c, fv = .slice (some a) n c → a.block ∉ feet d m L ∧ a.block < w.heap.size) (hfl : fates.length ≤ 9223372036854775807) :
    Calls Try.prog 13 #[.pointer (some ⟨d, 0, none⟩), fv] w fun r w' => r = .returned (.tuple #[]) ∧ ∃ ss L', ss.Pairwise (fun a b => a ≤ b) ∧ ss.Perm (L.map Ent.name) ∧ L' = crashGo fates ss 0 L ∧ DiskAt w' d m L' room steps (-1) (-1) false ∧ Moves w (feet d m L) w' (feet d m L') := by
  have c3 := disk3 h.disk
  have c4 := disk4 h.disk
  have c5 := disk5 h.disk
  have f3 := free_in h.disk 3
  have f4 := free_in h.disk 4
  have f5 := free_in h.disk 5
  have H := Lib.hid h
  clear h
  go_enter Try.func13, Try.ntmps13
  go_upto_region 4 with fail
  generalize hw1 : ((w.setCell ⟨d, 5, none⟩ (.bool false)).setCell ⟨d, 3, none⟩ (.int .i64 (-1))).setCell ⟨d, 4, none⟩ (.int .i64 (-1)) = w1
  have hst : DiskAt w1 d m L room steps (-1) (-1) false ∧ Moves w (feet d m L) w1 (feet d m L) := by
    rw [← hw1]
    exact H.out.step (heap_set (heap_set (heap_set H.out.disk 5 _) 3 _) 4 _) (((grown_set _ _ _ _).trans (grown_set _ _ _ _)).trans (grown_set _ _ _ _))
  have HS := Lib.hid hst
  clear hst hw1
  obtain ⟨D, ho, hM⟩ := HS.out.1.map
  have hsz : Maps.size D ≤ 200 := by rw [hM.size]; exact HS.out.1.few
  have hlist := list_any HS.out.1.disk ho (by unfold maxLen; omega) (by omega)
  have HLi := Lib.hid hlist
  have HP := Lib.hid (names_perm HS.out.1 ho hM)
  clear hlist ho hM
  go_wp2_with (go_at_call 27; refine HLi.out.mono ?_; rintro r w2 ⟨lv, ss0, rfl, hperm, hrow, hnil, hb2⟩; obtain ⟨la, lc, hlv⟩ := row_slice hrow; subst hlv)
  obtain ⟨ss, hss⟩ : ∃ ss, ss0.mergeSort (fun x y => decide (x ≤ y)) = ss := ⟨_, rfl⟩
  rw [hss] at hrow
  have hlen : ss0.length = ss.length := by rw [← hss]; simp
  have hsp : ss.Perm (L.map Ent.name) := by rw [← hss]; exact ((List.mergeSort_perm _ _).trans hperm).trans HP.out.symm
  have hso : ss.Pairwise (fun a b => a ≤ b) := by rw [← hss]; exact sorted_of _
  rw [hlen] at hrow ⊢
  have hb12 := HS.out.1.below hb2
  have hll : ss.length ≤ 200 := by rw [hsp.length_eq, List.length_map]; exact HS.out.1.few
  have HX := Lib.hid (And.intro hrow (And.intro hsp (And.intro hso (And.intro hb12 hb2))))
  clear hrow hsp hso hb12 hb2 hnil hperm hlen hss
  go_loopw [4, 23] (CrashRel w2 d m L room steps fates ss) (fun _ i _ => ss.length - (intOf i).toNat)
  case atStart => exact ⟨0, 0, L, by omega, rfl, rfl, Nat.le_refl _, ⟨rfl, rfl, rfl⟩, HX.out.2.2.2.1, Only.refl _ _⟩
  case round =>
    obtain ⟨i, k, L', hi, rfl, rfl, hki, hmid, hD, hon⟩ := hrel
    by_cases hlt : i < ss.length
    · obtain ⟨e, he, hen⟩ := mid_find hmid HX.out.2.1 (List.getElem_mem hlt)
      obtain ⟨lb, hla, hcell⟩ := names_cell HX.out.1 hon (HS.out.1.lt) hlt
      subst hla
      obtain ⟨D', ho', hM'⟩ := hD.map
      have hs32 : (⟨ss[i].toArray⟩ : ByteArray).size ≤ maxLen := by
        show ss[i].toArray.size ≤ maxLen
        have := hD.short e he
        rw [hen] at this
        simp; unfold maxLen; omega
      have hl := look_hit ho' hM' hs32 he hen
      have c0 := disk0 hD.disk
      have HR := Lib.hid (And.intro hmid (And.intro hD hon))
      have hFe := Lib.hid (And.intro (hD.files e he) (Nat.le_trans (usedL_mem he) hD.vol))
      clear hmid hD hon ho' hM'
      obtain ⟨q, hq⟩ : ∃ q, e.bytes.length - e.sure = q := ⟨_, rfl⟩
      have hfl2 := floose_q hFe.out.1 hFe.out.2 hq
      have HFL := Lib.hid hfl2
      have HQ := Lib.hid hq
      clear hfl2 hq
      by_cases hz : q = 0
      · subst hz
        go_wp2_with (go_at_call 40; refine HFL.out.mono ?_; rintro r w4 ⟨rfl, hb4⟩)
        go_roundw
        case rel => exact ⟨i + 1, k, L', by omega, by go_num, rfl, by omega, mid_skip HR.out.1 hlt he hen HQ.out HR.out.2.1.names, HR.out.2.1.below hb4, HR.out.2.2.trans (Only.of_below hb4)⟩
        case measure => simp [intOf]; omega
      · have hq0 : ((q : Int) == 0) = false := by simp; omega
        clear hz
        by_cases hkf : k < fates.length
        · obtain ⟨fad, fc, hfve, hfc⟩ := hfv.cells (by omega)
          obtain ⟨hfn, hfz⟩ := hfb (by omega) _ _ _ hfve
          subst hfve
          obtain ⟨y1, y2, y3⟩ := hfc k fates[k] (List.getElem?_eq_getElem hkf)
          have hkeepf : ∀ {w4 : World}, Below wr.heap.size wr w4 → w4.heap[(fad.add (k * 3)).block]? = w.heap[(fad.add (k * 3)).block]? := fun {w4} hb4 => by
            have hz1 := HS.out.2.only.size
            have hz2 := HX.out.2.2.2.2.size
            have hz3 := HR.out.2.2.size
            rw [add_block]
            exact (hb4.block fad.block (by omega)).trans ((HR.out.2.2.block fad.block (by omega) hfn).trans ((HX.out.2.2.2.2.block fad.block (by omega)).trans (HS.out.2.only.block fad.block hfz hfn)))
          have HKF := Lib.hid (And.intro (And.intro y1 (And.intro y2 y3)) @hkeepf)
          clear y1 y2 y3 hkeepf hfc hfn
          go_wp2_with (first
            | (go_at_call 40
               refine HFL.out.mono ?_
               rintro r w4 ⟨rfl, hb4⟩
               have x1 := (World.cell?_of_block (a := fad.add (k * 3)) (HKF.out.2 hb4)).trans HKF.out.1.1
               have x2 := (World.cell?_of_block (a := ⟨(fad.add (k * 3)).block, (fad.add (k * 3)).off + 1, none⟩) (HKF.out.2 hb4)).trans HKF.out.1.2.1
               have x3 := (World.cell?_of_block (a := ⟨(fad.add (k * 3)).block, (fad.add (k * 3)).off + 2, none⟩) (HKF.out.2 hb4)).trans HKF.out.1.2.2
               have hfz4 : (fad.add (k * 3)).block < w4.heap.size := (World.block_lt_of_cell? w4 _ x1))
            | (go_at_call 41; refine (meet_any (f := fates[k]) (hFe.out.1.below (hb4.alloc hb4.size _)) hFe.out.2 (feet_ne HR.out.2.1 he)).mono ?_; rintro r w5 ⟨rfl, hF5, hon5⟩))
          have hre := round_end HR.out.1 HR.out.2.1 HR.out.2.2 hlt he hen (by rw [HQ.out]; simpa using hq0) fates[k] (by rw [List.getD_eq_getElem?_getD, List.getElem?_eq_getElem hkf]; rfl) (hb4.alloc hb4.size _) hF5 hon5
          go_roundw
          case rel => exact ⟨i + 1, k + 1, _, by omega, by go_num, by go_num, by omega, hre.1, hre.2.1, hre.2.2⟩
          case measure => simp [intOf]; omega
        · have hkf' : fates.length ≤ k := by omega
          obtain ⟨fa, fc, hfve⟩ := hfv.val
          subst hfve
          go_wp2_with (first
            | (go_at_call 40; refine HFL.out.mono ?_; rintro r w4 ⟨rfl, hb4⟩)
            | (go_at_call 41; refine (meet_any (f := zeroFate) (hFe.out.1.below (hb4.alloc hb4.size _)) hFe.out.2 (feet_ne HR.out.2.1 he)).mono ?_; rintro r w5 ⟨rfl, hF5, hon5⟩))
          have hre := round_end HR.out.1 HR.out.2.1 HR.out.2.2 hlt he hen (by rw [HQ.out]; simpa using hq0) zeroFate (by rw [List.getD_eq_getElem?_getD, List.getElem?_eq_none hkf']; rfl) (hb4.alloc hb4.size _) hF5 hon5
          go_roundw
          case rel => exact ⟨i + 1, k + 1, _, by omega, by go_num, by go_num, by omega, hre.1, hre.2.1, hre.2.2⟩
          case measure => simp [intOf]; omega
    · obtain rfl : i = ss.length := by omega
      go_wp2
      go_end0
      refine ⟨rfl, ss, L', HX.out.2.2.1, HX.out.2.1, ?_, hD, ?_⟩
      · have := hmid.rest
        rw [List.drop_length] at this
        exact this
      · refine HS.out.2.trans (Moves.trans ⟨Only.of_below HX.out.2.2.2.2, fun _ hk => Or.inl hk⟩ ⟨hon, fun x hx => Or.inl ?_⟩)
        rw [feet_eq hmid.feet] at hx
        exact hx
end Go.Proofs.Ytpeobjnamflibaa.Dk
