/-
  Entries, and where they stand in a list of pairs: mathematics only. Conditions: as each theorem states.
-/
import Derived.Test.YtadejeoiffaimaaDoorMeKy
import Derived.Test.YtadejeoiffaimaaDoorSkJ
import Derived.Test.YtadejeoiffaimaaDoorSkM
namespace Go.Proofs.YtadejeoiffaimaaDoor.Me
open Go.RowKit
open Vi
open Go.Proofs.YtadejeoiffaimaaDoor.Sk (lt Pr lt_irr lt_trans lt_tri lt_anti putL upL dnL Srt total filter_all filter_none)

structure En where
  key : ByteArray
  seq : Nat
  kind : Int
  val : ByteArray
def En.wf (e : En) : Prop := e.seq < 18446744073709551616 ∧ -9223372036854775808 ≤ e.kind ∧ e.kind ≤ 9223372036854775807
/-- may it be? -/
structure En.good (e : En) : Prop where
  k1 : 1 ≤ e.key.size
  k2 : e.key.size ≤ 85
  kd : e.kind = 1 ∨ e.kind = 2
  sq : e.seq ≤ 72057594037927935
theorem En.good.wf {e : En} (h : e.good) : e.wf := ⟨by have := h.sq; omega, by rcases h.kd with h | h <;> omega, by rcases h.kd with h | h <;> omega⟩
def cut86 (k : ByteArray) : ByteArray := bs (k.data.toList.take 86)
def row (e : En) : List KPart := [kText (cut86 e.key), kDown (min e.seq 72057594037927936 : Nat), kDown e.kind]
def plc (e : En) : ByteArray := bs (kbytes (row e))
def pr (e : En) : Pr := (plc e, e.val)
/-- is an entry ahead of another one? -/
def ahead (a b : En) : Bool := if a.key = b.key then (if a.seq = b.seq then decide (b.kind < a.kind) else decide (b.seq < a.seq)) else lt a.key b.key
theorem cut_small {k : ByteArray} (h : k.size ≤ 86) : cut86 k = k := by
  unfold cut86
  rw [List.take_of_length_le (by rw [size_len]; exact h)]; rfl
theorem cut_size (k : ByteArray) : (cut86 k).size ≤ 86 := by
  unfold cut86
  rw [bs_size, List.length_take]; omega
theorem row_bytes (e : En) : ∀ p ∈ row e, (pbytes p).2 = 0 := by
  intro p hp
  have hc := cut_size e.key
  simp only [row, List.mem_cons, List.not_mem_nil, or_false] at hp
  rcases hp with rfl | rfl | rfl
  · rw [pbytes_t rfl (by show ¬ 200 < (cut86 e.key).size; omega)]
  · rw [pbytes_d rfl]
  · rw [pbytes_d rfl]
theorem row_ok {e : En} (h : e.wf) : ∀ p ∈ row e, p.ok := by
  intro p hp
  obtain ⟨h1, h2, h3⟩ := h
  simp only [row, List.mem_cons, List.not_mem_nil, or_false] at hp
  rcases hp with rfl | rfl | rfl
  · exact ⟨by show (116 : Nat) < 256; decide, by show (-9223372036854775808 : Int) ≤ 0; decide, by show (0 : Int) ≤ 9223372036854775807; decide, by show (0 : Nat) < 18446744073709551616; decide⟩
  · exact ⟨by show (100 : Nat) < 256; decide, by show (-9223372036854775808 : Int) ≤ ((min e.seq 72057594037927936 : Nat) : Int); omega, by show ((min e.seq 72057594037927936 : Nat) : Int) ≤ 9223372036854775807; omega, by show (0 : Nat) < 18446744073709551616; decide⟩
  · exact ⟨by show (100 : Nat) < 256; decide, h2, h3, by show (0 : Nat) < 18446744073709551616; decide⟩
theorem kb_row (e : En) : kbytes (row e) = 116 :: (esc (cut86 e.key).data.toList ++ [0, 0]) ++ (100 :: big8 (18446744073709551615 - lift (min e.seq 72057594037927936 : Nat)) ++ (100 :: big8 (18446744073709551615 - lift e.kind))) := by
  have hc := cut_size e.key
  show (pbytes (kText (cut86 e.key))).1 ++ ((pbytes (kDown (min e.seq 72057594037927936 : Nat))).1 ++ ((pbytes (kDown e.kind)).1 ++ [])) = _
  rw [pbytes_t rfl (by show ¬ 200 < (cut86 e.key).size; omega), pbytes_d rfl, pbytes_d rfl, List.append_nil]
  rfl
theorem kb_len (e : En) : (kbytes (row e)).length ≤ 193 := by
  have hc := cut_size e.key
  have hl := esc_len (cut86 e.key).data.toList
  rw [size_len] at hl
  rw [kb_row]
  simp [big8_len]; omega
theorem mk_go : ∀ (l : List KPart) (k : List UInt8), (∀ p ∈ l, (pbytes p).2 = 0) → k.length + (kbytes l).length ≤ 200 → mkGo k l = (k ++ kbytes l, 0)
  | [], k, _, _ => by simp [mkGo, kbytes]
  | p :: l, k, h, hl => by
    have e1 : kbytes (p :: l) = (pbytes p).1 ++ kbytes l := rfl
    rw [e1, List.length_append] at hl
    rw [mkGo_on (h p (by simp)) (by omega), mk_go l _ (fun q hq => h q (by simp [hq])) (by rw [List.length_append]; omega), e1, List.append_assoc]
theorem mk_row (e : En) : mkGo [] (row e) = (kbytes (row e), 0) := by
  have h := mk_go (row e) [] (row_bytes e) (by have := kb_len e; rw [List.length_nil, Nat.zero_add]; exact Nat.le_trans this (by decide))
  rw [List.nil_append] at h
  exact h
theorem row_plain (e : En) : (row e).map pplain = row e := by
  apply plain_map
  intro p hp
  simp only [row, List.mem_cons, List.not_mem_nil, or_false] at hp
  rcases hp with rfl | rfl | rfl <;> rfl
theorem parts_row {e : En} (h : e.wf) : pparts (kbytes (row e)) = some (row e) := by
  have := pparts_bytes (row e) (row_ok h) (row_bytes e)
  rw [row_plain] at this
  exact this
theorem row_good {e : En} (h : e.good) : row e = [kText e.key, kDown e.seq, kDown e.kind] := by
  have h1 := h.k2
  have h2 := h.sq
  unfold row
  rw [cut_small (by omega), Nat.min_eq_left (by omega)]
/-! the order -/
theorem lt_plc {a b : En} (ha : a.wf) (hb : b.wf) : lt (plc a) (plc b) = pless (row a) (row b) := by
  have := bl_rows (row a) (row b) (fun p hp => ⟨row_ok ha p hp, row_bytes a p hp⟩) (fun p hp => ⟨row_ok hb p hp, row_bytes b p hp⟩)
  unfold lt plc
  rw [show (bs (kbytes (row a))).toList = kbytes (row a) from ByteArray.toList_mk _, show (bs (kbytes (row b))).toList = kbytes (row b) from ByteArray.toList_mk _]
  exact this
theorem pcmp_text (x y : ByteArray) : pcmp (kText x) (kText y) = cmpS x.data.toList y.data.toList := by
  simp [pcmp, kText]
theorem pcmp_down (x y : Int) : pcmp (kDown x) (kDown y) = cmpI y x := by
  simp [pcmp, kDown]
theorem lt_data (a b : ByteArray) : lt a b = Op.bytesLess a.data.toList b.data.toList := by
  unfold lt
  have e : ∀ x : ByteArray, x.toList = x.data.toList := fun x => ByteArray.toList_mk x.data.toList
  rw [e, e]
theorem bl_take : ∀ (a b : List UInt8) (n : Nat), a.length < n → Op.bytesLess a (b.take n) = Op.bytesLess a b
  | [], [], _, _ => by simp
  | [], _ :: _, 0, h => by omega
  | [], _ :: _, _ + 1, _ => rfl
  | _ :: _, [], n, _ => by simp
  | x :: a, y :: b, 0, h => by simp at h
  | x :: a, y :: b, n + 1, h => by
    rw [List.take_succ_cons]
    by_cases h1 : x.toNat < y.toNat
    · rw [bl_lt h1, bl_lt h1]
    · by_cases h2 : y.toNat < x.toNat
      · rw [bl_gt h2, bl_gt h2]
      · obtain rfl : x = y := UInt8.toNat_inj.1 (by omega)
        rw [bl_eq, bl_eq]
        exact bl_take a b n (by simpa using h)
theorem bl_take2 : ∀ (a b : List UInt8) (n : Nat), a.length < n → Op.bytesLess (b.take n) a = Op.bytesLess b a
  | a, [], n, _ => by simp
  | [], y :: b, 0, h => by simp at h
  | [], y :: b, n + 1, _ => by rw [List.take_succ_cons, bl_nil, bl_nil]
  | x :: a, y :: b, 0, h => by simp at h
  | x :: a, y :: b, n + 1, h => by
    rw [List.take_succ_cons]
    by_cases h1 : x.toNat < y.toNat
    · rw [bl_gt h1, bl_gt h1]
    · by_cases h2 : y.toNat < x.toNat
      · rw [bl_lt h2, bl_lt h2]
      · obtain rfl : x = y := UInt8.toNat_inj.1 (by omega)
        rw [bl_eq, bl_eq]
        exact bl_take2 a b n (by simpa using h)
theorem take_eq {a b : List UInt8} {n : Nat} (h : a.length < n) : a = b.take n ↔ a = b := by
  constructor
  · intro e
    have hl : a.length = min n b.length := by rw [e, List.length_take]
    rw [e, List.take_of_length_le (by omega)]
  · intro e
    rw [← e, List.take_of_length_le (by omega)]
theorem cmpS_of {x y : List UInt8} (h : ¬ x = y) : decide (cmpS x y < 0) = Op.bytesLess x y ∧ ¬ cmpS x y = 0 := by
  unfold cmpS
  cases hb : Op.bytesLess x y with
  | true => simp
  | false => rw [if_neg (by decide), if_neg h]; simp
theorem cmpS_self (x : List UInt8) : cmpS x x = 0 := by unfold cmpS; rw [bl_irrefl, if_neg (by decide), if_pos rfl]
theorem data_inj {a b : ByteArray} (h : a.data.toList = b.data.toList) : a = b := by
  have : bs a.data.toList = bs b.data.toList := by rw [h]
  exact this
theorem num_tail (s t : Nat) (i j : Int) : pless [kDown s, kDown i] [kDown t, kDown j] = if s = t then decide (j < i) else decide (t < s) := by
  by_cases h : s = t
  · subst h
    rw [if_pos rfl, pless_on (by rw [pcmp_down]; unfold cmpI; rw [if_neg (by omega), if_neg (by omega)])]
    by_cases h2 : j < i
    · rw [pless_off (by rw [pcmp_down]; unfold cmpI; rw [if_pos h2]; decide), pcmp_down]
      unfold cmpI; rw [if_pos h2]; simp [h2]
    · by_cases h3 : i < j
      · rw [pless_off (by rw [pcmp_down]; unfold cmpI; rw [if_neg h2, if_pos h3]; decide), pcmp_down]
        unfold cmpI; rw [if_neg h2, if_pos h3]; simp [h2]
      · rw [pless_on (by rw [pcmp_down]; unfold cmpI; rw [if_neg h2, if_neg h3])]
        simp [h2]; rfl
  · rw [if_neg h]
    by_cases h2 : t < s
    · rw [pless_off (by rw [pcmp_down]; unfold cmpI; rw [if_pos (by omega)]; decide), pcmp_down]
      unfold cmpI; rw [if_pos (by omega)]; simp [h2]
    · rw [pless_off (by rw [pcmp_down]; unfold cmpI; rw [if_neg (by omega), if_pos (by omega)]; decide), pcmp_down]
      unfold cmpI; rw [if_neg (by omega), if_pos (by omega)]; simp [h2]
theorem lt_good {a b : En} (ha : a.good) (hb : b.wf) : lt (plc a) (plc b) = ahead a b := by
  have hk := ha.k2
  have hs := ha.sq
  rw [lt_plc ha.wf hb, row_good ha]
  unfold row ahead
  by_cases h : a.key = b.key
  · rw [← h, cut_small (by omega), if_pos rfl, pless_on (by rw [pcmp_text, cmpS_self]), num_tail]
    by_cases h2 : a.seq = b.seq
    · rw [if_pos h2, if_pos (by omega)]
    · rw [if_neg h2, if_neg (by omega)]
      congr 1
      exact propext ⟨fun h => by omega, fun h => by omega⟩
  · have hne : ¬ a.key.data.toList = (cut86 b.key).data.toList := fun e => h (data_inj ((take_eq (by rw [size_len]; omega)).1 e))
    obtain ⟨h1, h2⟩ := cmpS_of hne
    rw [if_neg h, pless_off (by rw [pcmp_text]; exact h2), pcmp_text, h1, lt_data]
    exact bl_take _ _ _ (by rw [size_len]; omega)
theorem lt_good2 {a b : En} (ha : a.good) (hb : b.wf) : lt (plc b) (plc a) = ahead b a := by
  have hk := ha.k2
  have hs := ha.sq
  rw [lt_plc hb ha.wf, row_good ha]
  unfold row ahead
  by_cases h : b.key = a.key
  · rw [h, cut_small (by omega), if_pos rfl, pless_on (by rw [pcmp_text, cmpS_self]), num_tail]
    by_cases h2 : b.seq = a.seq
    · rw [if_pos h2, if_pos (by omega)]
    · rw [if_neg h2, if_neg (by omega)]
      congr 1
      exact propext ⟨fun h => by omega, fun h => by omega⟩
  · have hne : ¬ (cut86 b.key).data.toList = a.key.data.toList := fun e => h (data_inj ((take_eq (by rw [size_len]; omega)).1 e.symm).symm)
    obtain ⟨h1, h2⟩ := cmpS_of hne
    rw [if_neg h, pless_off (by rw [pcmp_text]; exact h2), pcmp_text, h1, lt_data]
    exact bl_take2 _ _ _ (by rw [size_len]; omega)
/-! rows of entries -/
def addE (E : List En) (e : En) : List En := E.filter (fun x => ahead x e) ++ e :: E.filter (fun x => ahead e x)
def upE (E : List En) (q : En) : List En := E.filter (fun x => !ahead x q)
theorem filter_map {E : List En} {p : Pr → Bool} {q : En → Bool} (h : ∀ x ∈ E, p (pr x) = q x) : (E.map pr).filter p = (E.filter q).map pr := by
  rw [List.filter_map]
  congr 1
  exact List.filter_congr (fun x hx => h x hx)
theorem put_e {E : List En} {e : En} (hE : ∀ x ∈ E, x.good) (he : e.good) : putL (E.map pr) (plc e) e.val = (addE E e).map pr := by
  unfold putL addE
  rw [filter_map (q := fun x => ahead x e) (fun x hx => lt_good (hE x hx) he.wf), filter_map (q := fun x => ahead e x) (fun x hx => lt_good2 (hE x hx) he.wf)]
  simp [pr]
theorem up_e {E : List En} {q : En} (hE : ∀ x ∈ E, x.good) (hq : q.wf) : upL (E.map pr) (plc q) = (upE E q).map pr := by
  unfold upL upE
  exact filter_map (fun x hx => by rw [show (pr x).1 = plc x from rfl, lt_good (hE x hx) hq])
theorem plc_ne (e : En) : ¬ plc e = ⟨#[]⟩ := fun h => by
  have : (plc e).size = 0 := by rw [h]; rfl
  unfold plc at this
  rw [bs_size, kb_row] at this
  simp at this
def dnE (E : List En) (q : En) : List En := (E.filter (fun x => !ahead q x)).reverse
theorem dn_e {E : List En} {q : En} (hE : ∀ x ∈ E, x.good) (hq : q.wf) : dnL (E.map pr) (plc q) = (dnE E q).map pr := by
  unfold dnL dnE
  rw [filter_map (q := fun x => !ahead q x) (fun x hx => by rw [show (pr x).1 = plc x from rfl, lt_good2 (hE x hx) hq]; simp [plc_ne]), List.map_reverse]
theorem dn_all (E : List En) : dnL (E.map pr) ⟨#[]⟩ = E.reverse.map pr := by
  unfold dnL
  rw [filter_all (fun x _ => by simp), List.map_reverse]
theorem add_good {E : List En} {e : En} (hE : ∀ x ∈ E, x.good) (he : e.good) : ∀ x ∈ addE E e, x.good := by
  intro x hx
  unfold addE at hx
  rcases List.mem_append.1 hx with h | h
  · exact hE x (List.mem_filter.1 h).1
  · rcases List.mem_cons.1 h with rfl | h
    · exact he
    · exact hE x (List.mem_filter.1 h).1
/-! bytes beyond those that count -/
def over (e : En) : Nat := (plc e).size - e.key.size - 8
theorem over_ge (e : En) (h : e.good) : e.key.size + 8 ≤ (plc e).size := by
  have hk := h.k2
  unfold plc
  rw [bs_size, kb_row, cut_small (by omega)]
  have : ∀ l : List UInt8, l.length ≤ (esc l).length := by
    intro l
    induction l with
    | nil => simp
    | cons c l ih =>
      by_cases hc : c = 0
      · subst hc; rw [esc_cons0]; simp; omega
      · rw [esc_cons hc]; simp; exact ih
  have h2 := this e.key.data.toList
  rw [size_len] at h2
  simp [big8_len]; omega
def bytesE (E : List En) : Nat := (E.map fun e => e.key.size + e.val.size + 8).sum
def overE (E : List En) : Nat := (E.map over).sum
theorem total_e : ∀ (E : List En), (∀ x ∈ E, x.good) → total (E.map pr) = bytesE E + overE E
  | [], _ => rfl
  | e :: E, h => by
    have ih := total_e E (fun x hx => h x (by simp [hx]))
    have h0 := over_ge e (h e (by simp))
    unfold total bytesE overE at *
    simp only [List.map_cons, List.sum_cons] at ih ⊢
    rw [ih]
    unfold over
    show (plc e).size + e.val.size + _ = _
    omega
end Go.Proofs.YtadejeoiffaimaaDoor.Me
