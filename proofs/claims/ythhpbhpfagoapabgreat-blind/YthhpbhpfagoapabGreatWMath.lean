
/-
  Tables, plans, rings and files as lists: plain mathematics, nothing of the program.
-/
import Derived.Test.YthhpbhpfagoapabGreatPPage
import Derived.Test.YthhpbhpfagoapabGreatMath
namespace Go.Proofs.YthhpbhpfagoapabGreat
set_option linter.unusedVariables false

/-- A column: its name, its kind, its key, its cells. -/
structure ColB where
  name : List UInt8
  kind : Int
  key : Int
  cells : List CellB

/-- A key: its number and its secret. -/
structure KeyB where
  number : Int
  secret : List UInt8

structure PlanB where
  group : Int
  page : Int
  foot : Int
  told : Bool

structure JobB where
  table : List ColB
  plan : PlanB
  pre : List UInt8
  draw : Int

/-- What was sealed. -/
structure SealB where
  secret : List UInt8
  nonce : List UInt8
  extra : List UInt8
  body : List UInt8

def nameOkB (s : List UInt8) : Bool := s.all (fun b => decide (97 ≤ b.toNat) && decide (b.toNat ≤ 122)) && (decide (1 ≤ s.length) && decide (s.length ≤ 8))

/-- A column may be, its cells aside. -/
def headOkB (c : ColB) : Bool := nameOkB c.name && ((decide (0 ≤ c.kind) && decide (c.kind ≤ 1)) && (decide (0 ≤ c.key) && decide (c.key ≤ 9)))

def hasNameB (t : List ColB) (s : List UInt8) : Bool := t.any fun c => c.name == s

/-- The first k columns may be, and have different names. -/
def headsTo (t : List ColB) : Nat → Bool
  | 0 => true
  | k + 1 => headsTo t k && (match t[k]? with | some c => headOkB c && !hasNameB (t.take k) c.name | none => true)

def headsOkB (t : List ColB) : Bool := headsTo t t.length && (decide (1 ≤ t.length) && decide (t.length ≤ 6))

def rowsB : List ColB → Nat
  | [] => 0
  | c :: _ => c.cells.length

def tableOkB (t : List ColB) : Bool := headsOkB t && t.all fun c => cellsOkB c.kind c.cells && decide (c.cells.length = rowsB t)

def planOkB (p : PlanB) : Bool := (decide (1 ≤ p.group) && decide (p.group ≤ 60)) && ((decide (1 ≤ p.page) && decide (p.page ≤ 60)) && (decide (1 ≤ p.foot) && decide (p.foot ≤ 9)))

def hasNumB (r : List KeyB) (n : Int) : Bool := r.any fun k => decide (k.number = n)

def keyOkB (k : KeyB) : Bool := (decide (1 ≤ k.number) && decide (k.number ≤ 9)) && decide (k.secret.length = 8)

/-- The first k keys may be, and have different numbers. -/
def ringTo (r : List KeyB) : Nat → Bool
  | 0 => true
  | k + 1 => ringTo r k && (match r[k]? with | some c => keyOkB c && !hasNumB (r.take k) c.number | none => true)

def ringOkB (r : List KeyB) : Bool := ringTo r r.length

/-- The secret of a key's number; none: it is not in the ring. -/
def findB (r : List KeyB) (n : Int) : Option (List UInt8) := (r.find? fun k => decide (k.number = n)).map (·.secret)
def secretB (r : List KeyB) (n : Int) : List UInt8 := (findB r n).getD []

def missesB (j : JobB) (r : List KeyB) : Bool := !hasNumB r j.plan.foot || j.table.any fun c => decide (0 < c.key) && !hasNumB r c.key

/-- The error of a job. -/
def jobErrB (j : JobB) (r : List KeyB) : Int :=
  if tableOkB j.table = false then 5
  else if (planOkB j.plan && (decide (j.pre.length ≤ 20) && (decide (0 ≤ j.draw) && decide (j.draw ≤ 65535)))) = false then 7
  else if ringOkB r = false then 1
  else if missesB j r = true then 8 else 0

/-- The extra text of a module. -/
def boundB (pre : List UInt8) (sort : UInt8) (g c p : Nat) : List UInt8 := xB pre ++ [sort] ++ twoB (g : Int) ++ twoB (c : Int) ++ twoB (p : Int)

/-- How many are in the i-th part, and how many parts there are. -/
def partN (n size i : Nat) : Nat := min size (n - i * size)
def cntN (n size : Nat) : Nat := (n + size - 1) / size

/-- Where a module belongs. -/
structure SpotB where
  sort : UInt8
  g : Nat
  c : Nat
  p : Nat
  start : Nat
  many : Nat

def pageSpots (P g c start n : Nat) (k : Nat) : List SpotB := (List.range k).map fun p => ⟨80, g, c, p, start + p * P, partN n P p⟩
def chunkSpots (R G P g c : Nat) : List SpotB := pageSpots P g c (g * G) (partN R G g) (cntN (partN R G g) P) ++ [⟨77, g, c, 0, g * G, partN R G g⟩]
def groupSpots (R G P g C : Nat) : List SpotB := (List.range C).flatMap fun c => chunkSpots R G P g c
def spotsTo (R C G P n : Nat) : List SpotB := (List.range n).flatMap fun g => groupSpots R G P g C
def spotsB (R C G P : Nat) : List SpotB := spotsTo R C G P (cntN R G)

def leastB (l : List CellB) : Int → Int := fun x => l.foldl (fun m c => if c.int < m then c.int else m) x
def mostB (l : List CellB) : Int → Int := fun x => l.foldl (fun m c => if m < c.int then c.int else m) x
def firstInt : List CellB → Int
  | [] => 0
  | c :: _ => c.int

/-- The meta of a chunk. -/
def metaB (kind : Int) (l : List CellB) : List UInt8 :=
  uB (l.length - (valuesB l).length) ++ if kind = 0 ∧ valuesB l ≠ [] then [1] ++ zB (leastB (valuesB l) (firstInt (valuesB l))) ++ zB (mostB (valuesB l) (firstInt (valuesB l))) else [0]

def colAt (t : List ColB) (c : Nat) : ColB := t.getD c ⟨[], 0, 0, []⟩

/-- The plain text of a module of a table. -/
def plainB (t : List ColB) (s : SpotB) : List UInt8 :=
  if s.sort = 77 then metaB (colAt t s.c).kind (((colAt t s.c).cells.drop s.start).take s.many) else pageB (colAt t s.c).kind (((colAt t s.c).cells.drop s.start).take s.many)

/-- What is written so far, and what was sealed for it. -/
structure StB where
  out : List UInt8
  log : List SealB

def openSt (plain : List UInt8) (st : StB) : StB := ⟨st.out ++ (twoB (plain.length : Int) ++ plain), st.log⟩
def nonceB (draw : Int) (n : Nat) : List UInt8 := twoB draw ++ twoB (n : Int)
def sealSt (draw : Int) (secret extra plain : List UInt8) (st : StB) : StB :=
  ⟨st.out ++ (twoB ((bodyB secret (nonceB draw st.log.length) extra plain).length : Int) ++ (nonceB draw st.log.length ++ bodyB secret (nonceB draw st.log.length) extra plain)),
    st.log ++ [⟨secret, nonceB draw st.log.length, extra, bodyB secret (nonceB draw st.log.length) extra plain⟩]⟩
def modSt (j : JobB) (r : List KeyB) (key : Int) (sort : UInt8) (g c p : Nat) (plain : List UInt8) (st : StB) : StB :=
  if key = 0 then openSt plain st else sealSt j.draw (secretB r key) (boundB j.pre sort g c p) plain st

def spotSt (j : JobB) (r : List KeyB) (st : StB) (s : SpotB) : StB := modSt j r (colAt j.table s.c).key s.sort s.g s.c s.p (plainB j.table s) st
def spotsSt (j : JobB) (r : List KeyB) (st : StB) (l : List SpotB) : StB := l.foldl (spotSt j r) st

/-- The last of these was a meta (or, of none, b). -/
def metaLast (b : Bool) : List SpotB → Bool
  | [] => b
  | s :: l => metaLast (decide (s.sort = 77)) l

/-- The places at which chunks begin. -/
def placesB (j : JobB) (r : List KeyB) : StB → Bool → List SpotB → List Nat
  | st, b, [] => []
  | st, b, s :: l => (if b = true then [st.out.length] else []) ++ placesB j r (spotSt j r st s) (decide (s.sort = 77)) l

def colFoot (c : ColB) : List UInt8 := xB c.name ++ uB c.kind.toNat ++ uB c.key.toNat
def footerB (rows : Nat) (p : PlanB) (t : List ColB) (places : List Nat) : List UInt8 :=
  uB rows ++ uB p.group.toNat ++ uB p.page.toNat ++ uB p.foot.toNat ++ uB t.length ++ t.flatMap colFoot ++ places.flatMap uB

def startB (p : PlanB) : List UInt8 := [67, 70] ++ [if p.told = true then 79 else 69] ++ [byB p.foot]

def spotsJ (j : JobB) : List SpotB := spotsB (rowsB j.table) j.table.length j.plan.group.toNat j.plan.page.toNat
def bodySt (j : JobB) (r : List KeyB) : StB := spotsSt j r ⟨startB j.plan, []⟩ (spotsJ j)
def placesJ (j : JobB) (r : List KeyB) : List Nat := placesB j r ⟨startB j.plan, []⟩ true (spotsJ j)
def footJ (j : JobB) (r : List KeyB) : List UInt8 := footerB (rowsB j.table) j.plan j.table (placesJ j r)

/-- With the footer part. -/
def endSt (j : JobB) (r : List KeyB) (f : List UInt8) (st : StB) : StB :=
  if j.plan.told = true then sealSt j.draw (secretB r j.plan.foot) (boundB j.pre 83 0 0 0 ++ f) [] (openSt f st)
  else sealSt j.draw (secretB r j.plan.foot) (boundB j.pre 70 0 0 0) f st

def fileB (j : JobB) (r : List KeyB) : List UInt8 :=
  (endSt j r (footJ j r) (bodySt j r)).out ++ (twoB (((endSt j r (footJ j r) (bodySt j r)).out.length - (bodySt j r).out.length : Nat) : Int) ++ [67, 70])
def logB (j : JobB) (r : List KeyB) : List SealB := (endSt j r (footJ j r) (bodySt j r)).log

/- The laws of these. -/

theorem metaLast_append (l m : List SpotB) : ∀ b, metaLast b (l ++ m) = metaLast (metaLast b l) m := by
  induction l with
  | nil => intro b; rfl
  | cons s l ih => intro b; simp only [List.cons_append, metaLast]; exact ih _

theorem spotsSt_append (j : JobB) (r : List KeyB) (st : StB) (l m : List SpotB) : spotsSt j r st (l ++ m) = spotsSt j r (spotsSt j r st l) m := by
  unfold spotsSt; rw [List.foldl_append]

theorem placesB_append (j : JobB) (r : List KeyB) (l m : List SpotB) : ∀ st b, placesB j r st b (l ++ m) = placesB j r st b l ++ placesB j r (spotsSt j r st l) (metaLast b l) m := by
  induction l with
  | nil => intro st b; rfl
  | cons s l ih =>
    intro st b
    simp only [List.cons_append, placesB, metaLast, List.append_assoc]
    rw [ih]
    rfl

theorem places_pages (j : JobB) (r : List KeyB) (l : List SpotB) (h : ∀ s ∈ l, s.sort = 80) : ∀ st, placesB j r st false l = [] := by
  induction l with
  | nil => intro st; rfl
  | cons s l ih =>
    intro st
    have h1 := h s (List.mem_cons_self ..)
    simp only [placesB, h1]
    exact ih (fun x hx => h x (List.mem_cons_of_mem _ hx)) _

theorem metaLast_pages (l : List SpotB) (h : ∀ s ∈ l, s.sort = 80) : l ≠ [] → ∀ b, metaLast b l = false := by
  induction l with
  | nil => intro h0; exact absurd rfl h0
  | cons s l ih =>
    intro _ b
    have h1 := h s (List.mem_cons_self ..)
    simp only [metaLast, h1]
    by_cases hl : l = []
    · subst hl; rfl
    · exact ih (fun x hx => h x (List.mem_cons_of_mem _ hx)) hl _

theorem pageSpots_sort (P g c start n k : Nat) : ∀ s ∈ pageSpots P g c start n k, s.sort = 80 := by
  intro s hs
  simp only [pageSpots, List.mem_map] at hs
  obtain ⟨p, _, rfl⟩ := hs
  rfl

/-- A chunk begins where it begins, and nowhere else. -/
theorem places_chunk (j : JobB) (r : List KeyB) (st : StB) (R G P g c : Nat) : placesB j r st true (chunkSpots R G P g c) = [st.out.length] := by
  unfold chunkSpots
  have hs := pageSpots_sort P g c (g * G) (partN R G g) (cntN (partN R G g) P)
  generalize pageSpots P g c (g * G) (partN R G g) (cntN (partN R G g) P) = L at *
  cases L with
  | nil => simp [placesB]
  | cons s l =>
    have h1 := hs s (List.mem_cons_self ..)
    have hl : ∀ x ∈ l, x.sort = 80 := fun x hx => hs x (List.mem_cons_of_mem _ hx)
    simp only [List.cons_append, placesB, h1, if_true]
    rw [placesB_append]
    have e1 : (decide ((80 : UInt8) = 77)) = false := by decide
    rw [e1, places_pages j r l hl]
    have e2 : metaLast false l = false := by
      by_cases h0 : l = []
      · subst h0; rfl
      · exact metaLast_pages l hl h0 _
    rw [e2]
    simp [placesB]

theorem metaLast_chunk (b : Bool) (R G P g c : Nat) : metaLast b (chunkSpots R G P g c) = true := by
  unfold chunkSpots
  rw [metaLast_append]
  rfl

theorem metaLast_group (R G P g C : Nat) : metaLast true (groupSpots R G P g C) = true := by
  unfold groupSpots
  induction C with
  | zero => rfl
  | succ C ih => rw [List.range_succ, List.flatMap_append, metaLast_append, ih]; simp only [List.flatMap_cons, List.flatMap_nil, List.append_nil]; exact metaLast_chunk _ _ _ _ _ _

theorem metaLast_to (R C G P n : Nat) : metaLast true (spotsTo R C G P n) = true := by
  unfold spotsTo
  induction n with
  | zero => rfl
  | succ n ih => rw [List.range_succ, List.flatMap_append, metaLast_append, ih]; simp only [List.flatMap_cons, List.flatMap_nil, List.append_nil]; exact metaLast_group _ _ _ _ _

theorem group_succ (R G P g C : Nat) : groupSpots R G P g (C + 1) = groupSpots R G P g C ++ chunkSpots R G P g C := by
  unfold groupSpots; rw [List.range_succ, List.flatMap_append]; simp
theorem spots_succ (R C G P n : Nat) : spotsTo R C G P (n + 1) = spotsTo R C G P n ++ groupSpots R G P n C := by
  unfold spotsTo; rw [List.range_succ, List.flatMap_append]; simp
theorem page_succ (P g c start n k : Nat) : pageSpots P g c start n (k + 1) = pageSpots P g c start n k ++ [⟨80, g, c, k, start + k * P, partN n P k⟩] := by
  unfold pageSpots; rw [List.range_succ, List.map_append]; rfl

/-- Parts: there is one at i just if i is below their number. -/
theorem cnt_lt {n size i : Nat} (hs : 1 ≤ size) : i < cntN n size ↔ i * size < n := by
  unfold cntN
  rw [Nat.lt_div_iff_mul_lt (by omega)]
  constructor <;> intro h <;> omega

theorem cnt_le {n size : Nat} (hs : 1 ≤ size) : cntN n size ≤ n := by
  rcases Nat.lt_or_ge n (cntN n size) with h | h
  · have h2 := (cnt_lt (n := n) (i := n) hs).1 h
    have : n * 1 ≤ n * size := Nat.mul_le_mul (Nat.le_refl _) hs
    omega
  · exact h

theorem part_le (n size i : Nat) : partN n size i ≤ size ∧ partN n size i ≤ n := by unfold partN; omega

theorem part_end (n size i : Nat) (h : i * size < n) : i * size + partN n size i = min (i * size + size) n := by unfold partN; omega

theorem part_pos {n size i : Nat} (hs : 1 ≤ size) : 0 < partN n size i ↔ i * size < n := by unfold partN; omega

theorem chunk_len (R G P g c : Nat) (hP : 1 ≤ P) (hG : G ≤ 60) : (chunkSpots R G P g c).length ≤ 61 := by
  unfold chunkSpots pageSpots
  have h1 := cnt_le (n := partN R G g) hP
  have h2 := (part_le R G g).1
  simp; omega

theorem group_len (R G P g C : Nat) (hP : 1 ≤ P) (hG : G ≤ 60) : (groupSpots R G P g C).length ≤ 61 * C := by
  induction C with
  | zero => simp [groupSpots]
  | succ C ih => have := chunk_len R G P g C hP hG; rw [group_succ, List.length_append]; omega

theorem spots_len (R C G P n : Nat) (hP : 1 ≤ P) (hG : G ≤ 60) (hC : C ≤ 6) : (spotsTo R C G P n).length ≤ 366 * n := by
  induction n with
  | zero => simp [spotsTo]
  | succ n ih => have := group_len R G P n C hP hG; rw [spots_succ, List.length_append]; omega

theorem bestTo_first (kind : Int) (v : List CellB) (k : Nat) : (bestTo kind v (k + 1)).length ≤ (candB (wayN kind 0) v).length := by
  induction k with
  | zero => simp [bestTo]
  | succ k ih =>
    rw [bestTo]
    split
    · rename_i h
      rcases h with h | h
      · omega
      · omega
    · exact ih

theorem page_len (kind : Int) (l : List CellB) (h : ∀ c ∈ l, smallC c) (hn : l.length ≤ 60) : (pageB kind l).length ≤ 3500 := by
  have h1 := headB_len l hn
  have hv : (valuesB l).length ≤ 60 := Nat.le_trans (List.length_filter_le ..) hn
  have hs : ∀ c ∈ valuesB l, smallC c := fun c hc => h c (List.mem_filter.1 hc).1
  have h2 : (bestTo kind (valuesB l) 3).length ≤ _ := bestTo_first kind (valuesB l) 2
  have h3 : (candB (wayN kind 0) (valuesB l)).length ≤ 2401 := by
    have h4 := stepsTo_len (wayN kind 0) (valuesB l) hs hv (valuesB l).length
    have h5 : wayN kind 0 ≠ 3 := by unfold wayN; split <;> simp
    simp only [candB, wayB, if_neg h5, List.length_cons, List.nil_append]
    omega
  unfold pageB
  split
  · omega
  · rw [List.length_append]; omega

theorem least_range (l : List CellB) (h : ∀ c ∈ l, smallC c) : ∀ x : Int, (-9223372036854775808 ≤ x ∧ x ≤ 9223372036854775807) → -9223372036854775808 ≤ leastB l x ∧ leastB l x ≤ 9223372036854775807 := by
  induction l with
  | nil => intro x hx; exact hx
  | cons c l ih =>
    intro x hx
    obtain ⟨c0, c1, _⟩ := h c (List.mem_cons_self ..)
    refine ih (fun y hy => h y (List.mem_cons_of_mem _ hy)) _ ?_
    dsimp only
    split <;> omega

theorem most_range (l : List CellB) (h : ∀ c ∈ l, smallC c) : ∀ x : Int, (-9223372036854775808 ≤ x ∧ x ≤ 9223372036854775807) → -9223372036854775808 ≤ mostB l x ∧ mostB l x ≤ 9223372036854775807 := by
  induction l with
  | nil => intro x hx; exact hx
  | cons c l ih =>
    intro x hx
    obtain ⟨c0, c1, _⟩ := h c (List.mem_cons_self ..)
    refine ih (fun y hy => h y (List.mem_cons_of_mem _ hy)) _ ?_
    dsimp only
    split <;> omega

theorem firstInt_range (l : List CellB) (h : ∀ c ∈ l, smallC c) : -9223372036854775808 ≤ firstInt l ∧ firstInt l ≤ 9223372036854775807 := by
  cases l with
  | nil => simp [firstInt]
  | cons c l => obtain ⟨c0, c1, _⟩ := h c (List.mem_cons_self ..); exact ⟨c0, c1⟩

theorem meta_len (kind : Int) (l : List CellB) (h : ∀ c ∈ l, smallC c) (hn : l.length ≤ 60) : (metaB kind l).length ≤ 40 := by
  have hs : ∀ c ∈ valuesB l, smallC c := fun c hc => h c (List.mem_filter.1 hc).1
  have h1 := uB_len10 (l.length - (valuesB l).length) (by omega)
  have hf := firstInt_range _ hs
  obtain ⟨a0, a1⟩ := least_range _ hs _ hf
  obtain ⟨b0, b1⟩ := most_range _ hs _ hf
  have h2 := zB_len _ a0 a1
  have h3 := zB_len _ b0 b1
  unfold metaB
  rw [List.length_append]
  split
  · simp only [List.length_append, List.length_cons, List.length_nil]; omega
  · simp only [List.length_cons, List.length_nil]; omega

theorem bound_len (pre : List UInt8) (sort : UInt8) (g c p : Nat) (h : pre.length ≤ 20) : (boundB pre sort g c p).length ≤ 40 := by
  have := uB_len10 pre.length (by omega)
  simp only [boundB, xB, List.length_append, twoB_length, List.length_cons, List.length_nil]; omega

/-- A module of this table. -/
structure SpotIn (t : List ColB) (s : SpotB) : Prop where
  sort : s.sort = 80 ∨ s.sort = 77
  col : s.c < t.length
  rows : s.start + s.many ≤ rowsB t
  few : s.g < 60 ∧ s.c < 60 ∧ s.p < 60 ∧ s.start < 60 ∧ s.many ≤ 60

theorem page_in {t : List ColB} {R G P g c k : Nat} (hR : R = rowsB t) (hr : R ≤ 60) (hG : 1 ≤ G) (hP : 1 ≤ P) (hG6 : G ≤ 60) (hc : c < t.length) (hC : t.length ≤ 6) (hg : g * G < R) (hk : k * P < partN R G g) :
    SpotIn t ⟨80, g, c, k, g * G + k * P, partN (partN R G g) P k⟩ := by
  have h1 : g * 1 ≤ g * G := Nat.mul_le_mul (Nat.le_refl _) hG
  have h2 : k * 1 ≤ k * P := Nat.mul_le_mul (Nat.le_refl _) hP
  have h3 := part_end R G g hg
  have h4 := part_end (partN R G g) P k hk
  have h5 := part_le R G g
  refine ⟨.inl rfl, hc, ?_, ?_, ?_, ?_, ?_, ?_⟩ <;> simp only <;> omega

theorem meta_in {t : List ColB} {R G g c : Nat} (hR : R = rowsB t) (hr : R ≤ 60) (hG : 1 ≤ G) (hG6 : G ≤ 60) (hc : c < t.length) (hC : t.length ≤ 6) (hg : g * G < R) :
    SpotIn t ⟨77, g, c, 0, g * G, partN R G g⟩ := by
  have h1 : g * 1 ≤ g * G := Nat.mul_le_mul (Nat.le_refl _) hG
  have h3 := part_end R G g hg
  have h5 := part_le R G g
  refine ⟨.inr rfl, hc, ?_, ?_, ?_, ?_, ?_, ?_⟩ <;> simp only <;> omega

theorem chunk_in {t : List ColB} {R G P g c : Nat} (hR : R = rowsB t) (hr : R ≤ 60) (hG : 1 ≤ G) (hP : 1 ≤ P) (hG6 : G ≤ 60) (hc : c < t.length) (hC : t.length ≤ 6) (hg : g * G < R) :
    ∀ s ∈ chunkSpots R G P g c, SpotIn t s := by
  intro s hs
  rcases List.mem_append.1 hs with hs | hs
  · simp only [pageSpots, List.mem_map, List.mem_range] at hs
    obtain ⟨k, hk, rfl⟩ := hs
    exact page_in hR hr hG hP hG6 hc hC hg ((cnt_lt hP).1 hk)
  · simp only [List.mem_cons, List.not_mem_nil, or_false] at hs
    subst hs
    exact meta_in hR hr hG hG6 hc hC hg

theorem spots_in {t : List ColB} {R G P : Nat} (hR : R = rowsB t) (hr : R ≤ 60) (hG : 1 ≤ G) (hP : 1 ≤ P) (hG6 : G ≤ 60) (hC : t.length ≤ 6) :
    ∀ s ∈ spotsB R t.length G P, SpotIn t s := by
  intro s hs
  simp only [spotsB, spotsTo, groupSpots, List.mem_flatMap, List.mem_range] at hs
  obtain ⟨g, hg, c, hc, hs⟩ := hs
  exact chunk_in hR hr hG hP hG6 hc hC ((cnt_lt hG).1 hg) s hs

/-- A table that may be: what is known of its columns. -/
theorem table_col {t : List ColB} (h : tableOkB t = true) : (1 ≤ t.length ∧ t.length ≤ 6) ∧ ∀ c ∈ t, cellsOkB c.kind c.cells = true ∧ c.cells.length = rowsB t := by
  simp only [tableOkB, headsOkB, Bool.and_eq_true, decide_eq_true_eq, List.all_eq_true] at h
  exact ⟨h.1.2, h.2⟩

theorem headsTo_at {t : List ColB} {n : Nat} (h : headsTo t n = true) (hn : n ≤ t.length) : ∀ k (hk : k < n), headOkB (t[k]'(by omega)) = true ∧ hasNameB (t.take k) (t[k]'(by omega)).name = false := by
  induction n with
  | zero => intro k hk; omega
  | succ n ih =>
    intro k hk
    simp only [headsTo, Bool.and_eq_true] at h
    rcases Nat.lt_or_ge k n with hkn | hkn
    · exact ih h.1 (by omega) k hkn
    · have : k = n := by omega
      subst this
      have h2 := h.2
      rw [List.getElem?_eq_getElem (by omega)] at h2
      simpa using h2

theorem head_parts {c : ColB} (h : headOkB c = true) : nameOkB c.name = true ∧ (c.kind = 0 ∨ c.kind = 1) ∧ 0 ≤ c.key ∧ c.key ≤ 9 := by
  simp only [headOkB, Bool.and_eq_true, decide_eq_true_eq] at h
  exact ⟨h.1, by omega, h.2.2.1, h.2.2.2⟩

theorem name_len {s : List UInt8} (h : nameOkB s = true) : 1 ≤ s.length ∧ s.length ≤ 8 := by
  simp only [nameOkB, Bool.and_eq_true, decide_eq_true_eq] at h
  exact h.2

/-- A table that may be, and its cells hold numbers of 64 bits. -/
structure GoodT (t : List ColB) : Prop where
  ok : tableOkB t = true
  fits : ∀ c ∈ t, ∀ x ∈ c.cells, -9223372036854775808 ≤ x.int ∧ x.int ≤ 9223372036854775807

theorem GoodT.few {t : List ColB} (h : GoodT t) : 1 ≤ t.length ∧ t.length ≤ 6 := (table_col h.ok).1

theorem GoodT.head {t : List ColB} (h : GoodT t) (c : Nat) (hc : c < t.length) : nameOkB (t[c]).name = true ∧ ((t[c]).kind = 0 ∨ (t[c]).kind = 1) ∧ 0 ≤ (t[c]).key ∧ (t[c]).key ≤ 9 := by
  have h1 := h.ok
  simp only [tableOkB, headsOkB, Bool.and_eq_true] at h1
  exact head_parts (headsTo_at h1.1.1 (Nat.le_refl _) c hc).1

theorem GoodT.cells {t : List ColB} (h : GoodT t) (c : Nat) (hc : c < t.length) : (t[c]).cells.length = rowsB t ∧ (t[c]).cells.length ≤ 60 ∧ ∀ x ∈ (t[c]).cells, smallC x := by
  obtain ⟨h1, h2⟩ := (table_col h.ok).2 t[c] (List.getElem_mem hc)
  have hf := h.fits t[c] (List.getElem_mem hc)
  simp only [cellsOkB, Bool.and_eq_true, Bool.or_eq_true, decide_eq_true_eq, List.all_eq_true] at h1
  refine ⟨h2, h1.1.2, fun x hx => ⟨(hf x hx).1, (hf x hx).2, ?_⟩⟩
  have := h1.2 x hx
  unfold fitsB at this
  split at this
  · simp at this; rw [this.2]; simp
  · split at this
    · simp at this; rw [this]; simp
    · simp at this; exact this.2

theorem GoodT.rows {t : List ColB} (h : GoodT t) : rowsB t ≤ 60 := by
  obtain ⟨h1, _⟩ := h.few
  have h2 := h.cells 0 (by omega)
  omega

theorem colAt_eq {t : List ColB} {c : Nat} (h : c < t.length) : colAt t c = t[c] := by simp [colAt, h]

theorem plain_len {t : List ColB} (h : GoodT t) {s : SpotB} (hs : s.c < t.length) (hm : s.many ≤ 60) : (plainB t s).length ≤ 3500 := by
  obtain ⟨_, _, h3⟩ := h.cells s.c hs
  have hsm : ∀ x ∈ ((colAt t s.c).cells.drop s.start).take s.many, smallC x := by
    rw [colAt_eq hs]
    exact fun x hx => h3 x (List.mem_of_mem_drop (List.mem_of_mem_take hx))
  have hl : (((colAt t s.c).cells.drop s.start).take s.many).length ≤ 60 := by rw [List.length_take]; omega
  unfold plainB
  split
  · have := meta_len (colAt t s.c).kind _ hsm hl; omega
  · exact page_len _ _ hsm hl

theorem open_len (plain : List UInt8) (st : StB) : (openSt plain st).out.length = st.out.length + plain.length + 2 := by
  simp only [openSt, List.length_append, twoB_length]; omega

theorem nonce_len (d : Int) (n : Nat) : (nonceB d n).length = 4 := rfl

theorem seal_len (d : Int) (s e p : List UInt8) (st : StB) : (sealSt d s e p st).out.length = st.out.length + p.length + 8 ∧ (sealSt d s e p st).log.length = st.log.length + 1 := by
  refine ⟨?_, by simp [sealSt]⟩
  simp only [sealSt, List.length_append, twoB_length, nonce_len, bodyB_length]
  omega

theorem mod_len (j : JobB) (r : List KeyB) (key : Int) (sort : UInt8) (g c p : Nat) (plain : List UInt8) (st : StB) :
    (modSt j r key sort g c p plain st).out.length ≤ st.out.length + plain.length + 8 ∧ (modSt j r key sort g c p plain st).log.length ≤ st.log.length + 1 := by
  unfold modSt
  split
  · rw [open_len]; simp only [openSt]; omega
  · have := seal_len j.draw (secretB r key) (boundB j.pre sort g c p) plain st; omega

theorem spotsSt_len {j : JobB} {r : List KeyB} (h : GoodT j.table) (l : List SpotB) : ∀ st : StB, (∀ s ∈ l, s.c < j.table.length ∧ s.many ≤ 60) →
    (spotsSt j r st l).out.length ≤ st.out.length + 3508 * l.length ∧ (spotsSt j r st l).log.length ≤ st.log.length + l.length := by
  induction l with
  | nil => intro st _; simp [spotsSt]
  | cons s l ih =>
    intro st hl
    obtain ⟨a0, a1⟩ := hl s (List.mem_cons_self ..)
    have h1 := plain_len h a0 a1
    have h2 := mod_len j r (colAt j.table s.c).key s.sort s.g s.c s.p (plainB j.table s) st
    have h3 := ih (spotSt j r st s) (fun x hx => hl x (List.mem_cons_of_mem _ hx))
    have e : spotsSt j r st (s :: l) = spotsSt j r (spotSt j r st s) l := rfl
    rw [e]
    simp only [List.length_cons]
    have e2 : spotSt j r st s = modSt j r (colAt j.table s.c).key s.sort s.g s.c s.p (plainB j.table s) st := rfl
    rw [← e2] at h2
    omega

theorem places_group_len (j : JobB) (r : List KeyB) (st : StB) (R G P g C : Nat) : (placesB j r st true (groupSpots R G P g C)).length = C := by
  induction C with
  | zero => rfl
  | succ C ih => rw [group_succ, placesB_append, List.length_append, ih, metaLast_group, places_chunk]; rfl

theorem places_to_len (j : JobB) (r : List KeyB) (st : StB) (R C G P n : Nat) : (placesB j r st true (spotsTo R C G P n)).length = n * C := by
  induction n with
  | zero => simp [spotsTo, placesB]
  | succ n ih => rw [spots_succ, placesB_append, List.length_append, ih, metaLast_to, places_group_len, Nat.succ_mul]

theorem places_le {j : JobB} {r : List KeyB} (h : GoodT j.table) (l : List SpotB) : ∀ (st : StB) (b : Bool), (∀ s ∈ l, s.c < j.table.length ∧ s.many ≤ 60) →
    ∀ p ∈ placesB j r st b l, p ≤ st.out.length + 3508 * l.length := by
  induction l with
  | nil => intro st b _ p hp; simp [placesB] at hp
  | cons s l ih =>
    intro st b hl p hp
    simp only [placesB, List.mem_append] at hp
    rcases hp with hp | hp
    · split at hp
      · simp only [List.mem_cons, List.not_mem_nil, or_false] at hp; simp only [List.length_cons]; omega
      · simp at hp
    · obtain ⟨a0, a1⟩ := hl s (List.mem_cons_self ..)
      have h1 := plain_len h a0 a1
      have h2 := mod_len j r (colAt j.table s.c).key s.sort s.g s.c s.p (plainB j.table s) st
      have e2 : spotSt j r st s = modSt j r (colAt j.table s.c).key s.sort s.g s.c s.p (plainB j.table s) st := rfl
      rw [← e2] at h2
      have := ih _ _ (fun x hx => hl x (List.mem_cons_of_mem _ hx)) p hp
      simp only [List.length_cons]
      omega

theorem flat_len {α : Type} (f : α → List UInt8) (m : Nat) (l : List α) (h : ∀ x ∈ l, (f x).length ≤ m) : (l.flatMap f).length ≤ m * l.length := by
  induction l with
  | nil => simp
  | cons a l ih =>
    have h1 := h a (List.mem_cons_self ..)
    have h2 := ih (fun x hx => h x (List.mem_cons_of_mem _ hx))
    rw [List.flatMap_cons, List.length_append, List.length_cons, Nat.mul_succ]
    omega

theorem colFoot_len {c : ColB} (h : c.name.length ≤ 8) (h1 : c.kind = 0 ∨ c.kind = 1) (h2 : 0 ≤ c.key ∧ c.key ≤ 9) : (colFoot c).length ≤ 38 := by
  have a := uB_len10 c.name.length (by omega)
  have b := uB_len10 c.kind.toNat (by omega)
  have d := uB_len10 c.key.toNat (by omega)
  simp only [colFoot, xB, List.length_append]; omega

theorem footer_len {t : List ColB} (h : GoodT t) {p : PlanB} (hp : planOkB p = true) (places : List Nat) (hl : places.length ≤ 360) (hb : ∀ x ∈ places, x < 18446744073709551616) : (footerB (rowsB t) p t places).length ≤ 3900 := by
  have h0 := h.rows
  obtain ⟨_, h6⟩ := h.few
  have hc : ∀ c ∈ t, (colFoot c).length ≤ 38 := by
    intro c hc
    obtain ⟨k, hk, rfl⟩ := List.mem_iff_getElem.1 hc
    obtain ⟨a, b, d⟩ := h.head k hk
    exact colFoot_len (name_len a).2 b d
  have h1 := flat_len colFoot 38 t hc
  have h2 := flat_len uB 10 places (fun x hx => uB_len10 x (hb x hx))
  simp only [planOkB, Bool.and_eq_true, decide_eq_true_eq] at hp
  have a := uB_len10 (rowsB t) (by omega)
  have b := uB_len10 p.group.toNat (by omega)
  have d := uB_len10 p.page.toNat (by omega)
  have e := uB_len10 p.foot.toNat (by omega)
  have f := uB_len10 t.length (by omega)
  simp only [footerB, List.length_append]
  omega

/-- A job that can be done. -/
structure GoodJ (j : JobB) (r : List KeyB) : Prop where
  table : GoodT j.table
  plan : planOkB j.plan = true
  pre : j.pre.length ≤ 20
  draw : 0 ≤ j.draw ∧ j.draw ≤ 65535
  ring : ringOkB r = true
  has : missesB j r = false

theorem GoodJ.sizes {j : JobB} {r : List KeyB} (h : GoodJ j r) : (1 ≤ j.plan.group.toNat ∧ j.plan.group.toNat ≤ 60) ∧ (1 ≤ j.plan.page.toNat ∧ j.plan.page.toNat ≤ 60) ∧ 1 ≤ j.plan.foot ∧ j.plan.foot ≤ 9 := by
  have hp := h.plan
  simp only [planOkB, Bool.and_eq_true, decide_eq_true_eq] at hp
  exact ⟨⟨by omega, by omega⟩, ⟨by omega, by omega⟩, by omega, by omega⟩

theorem GoodJ.spotIn {j : JobB} {r : List KeyB} (h : GoodJ j r) : ∀ s ∈ spotsJ j, SpotIn j.table s := by
  obtain ⟨⟨a, b⟩, ⟨c, d⟩, _⟩ := h.sizes
  exact spots_in rfl h.table.rows a c b h.table.few.2

theorem GoodJ.spotLen {j : JobB} {r : List KeyB} (h : GoodJ j r) : (spotsJ j).length ≤ 21960 := by
  obtain ⟨⟨a, b⟩, ⟨c, d⟩, _⟩ := h.sizes
  have h1 := spots_len (rowsB j.table) j.table.length j.plan.group.toNat j.plan.page.toNat (cntN (rowsB j.table) j.plan.group.toNat) c b h.table.few.2
  have h2 := cnt_le (n := rowsB j.table) a
  have h3 := h.table.rows
  unfold spotsJ spotsB
  omega

theorem GoodJ.foot {j : JobB} {r : List KeyB} (h : GoodJ j r) : (placesJ j r).length ≤ 360 ∧ (∀ x ∈ placesJ j r, x ≤ 80000000) ∧ (footJ j r).length ≤ 3900 := by
  obtain ⟨⟨a, b⟩, ⟨c, d⟩, _⟩ := h.sizes
  have h1 := places_to_len j r ⟨startB j.plan, []⟩ (rowsB j.table) j.table.length j.plan.group.toNat j.plan.page.toNat (cntN (rowsB j.table) j.plan.group.toNat)
  have h2 := cnt_le (n := rowsB j.table) a
  have h3 := h.table.rows
  have h4 := h.table.few.2
  have h5 : cntN (rowsB j.table) j.plan.group.toNat * j.table.length ≤ 60 * 6 := Nat.mul_le_mul (by omega) h4
  have hl : (placesJ j r).length ≤ 360 := by
    unfold placesJ spotsJ spotsB
    omega
  have h6 := places_le (r := r) h.table (spotsJ j) ⟨startB j.plan, []⟩ true (fun s hs => ⟨(h.spotIn s hs).col, (h.spotIn s hs).few.2.2.2.2⟩)
  have h7 := h.spotLen
  have h8 : (startB j.plan).length = 4 := rfl
  have hb : ∀ x ∈ placesJ j r, x ≤ 80000000 := by
    intro x hx
    have := h6 x hx
    simp only [h8] at this
    omega
  exact ⟨hl, hb, footer_len h.table h.plan _ hl (fun x hx => by have := hb x hx; omega)⟩

theorem GoodJ.body {j : JobB} {r : List KeyB} (h : GoodJ j r) (n : Nat) : (spotsSt j r ⟨startB j.plan, []⟩ ((spotsJ j).take n)).out.length ≤ 80000000 ∧ (spotsSt j r ⟨startB j.plan, []⟩ ((spotsJ j).take n)).log.length ≤ 21960 := by
  have h6 := spotsSt_len (r := r) h.table ((spotsJ j).take n) ⟨startB j.plan, []⟩ (fun s hs => ⟨(h.spotIn s (List.mem_of_mem_take hs)).col, (h.spotIn s (List.mem_of_mem_take hs)).few.2.2.2.2⟩)
  have h7 := h.spotLen
  have h8 : (startB j.plan).length = 4 := rfl
  have h9 : ((spotsJ j).take n).length ≤ (spotsJ j).length := by rw [List.length_take]; omega
  simp only [h8, List.length_nil] at h6
  omega

/-- A prefix of the modules, as chunk by chunk. -/
theorem spots_take {R C G P g : Nat} (hg : g ≤ cntN R G) : ∃ n, spotsTo R C G P g = (spotsB R C G P).take n := by
  refine ⟨(spotsTo R C G P g).length, ?_⟩
  have : spotsB R C G P = spotsTo R C G P g ++ ((List.range (cntN R G - g)).map (g + ·)).flatMap (fun g => groupSpots R G P g C) := by
    unfold spotsB spotsTo
    rw [← List.flatMap_append]
    congr 1
    rw [← List.range_add]
    congr 1
    omega
  rw [this, List.take_left]

end Go.Proofs.YthhpbhpfagoapabGreat
