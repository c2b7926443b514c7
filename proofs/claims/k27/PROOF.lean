import PyProof.Rows.All
import Wide.All
import OpenK.AllK
import Wide.FinOn
import HandS.ForMost
import HandS.Wide
import HandS.Walk
import HandS.TupAny
import HandS.IsInst
import HandS.Property
import HandS.Style
import HandS.TupLe
import HandS.Defaults
import PySem.Challenge.RW_pressalike_k27_blocks_on_pages
set_option Elab.async false
set_option linter.all false
namespace Pa
/-! ### the mathematics: lines, segments, pages -/
structure Ln where
  sp : Int
  br : Bool
  du : Bool
structure Bl where
  c : Nat
  s : Int
  k : Bool
  g : Bool
/-- the last line of a row ahead of which the place is free: (what stands ahead of it, it and what follows) -/
def cutT : List Ln → Option (List Ln × List Ln)
  | [] => none
  | x :: xs => match cutT xs with
    | some ab => some (x :: ab.1, ab.2)
    | none => if x.br = true then none else some ([], x :: xs)
def cut : List Ln → Option (List Ln × List Ln)
  | [] => none
  | x :: xs => (cutT xs).map fun ab => (x :: ab.1, ab.2)
theorem cutT_snoc (xs : List Ln) (l : Ln) : cutT (xs ++ [l]) = if l.br = true then (cutT xs).map (fun ab => (ab.1, ab.2 ++ [l])) else some (xs, [l]) := by
  induction xs with
  | nil => cases h : l.br <;> simp [cutT, h]
  | cons x xs ih =>
    rw [List.cons_append, cutT, ih]
    cases h : l.br with
    | true =>
      simp only [if_true]
      rw [cutT]
      cases h2 : cutT xs with
      | none => cases h3 : x.br <;> simp
      | some ab => simp
    | false => simp
theorem cut_snoc {xs : List Ln} (h : xs ≠ []) (l : Ln) : cut (xs ++ [l]) = if l.br = true then (cut xs).map (fun ab => (ab.1, ab.2 ++ [l])) else some (xs, [l]) := by
  cases xs with
  | nil => exact absurd rfl h
  | cons x xs =>
    rw [List.cons_append, cut, cutT_snoc, cut]
    cases l.br <;> simp [Option.map_map, Function.comp_def]
theorem cutT_spec : ∀ {xs a b : List Ln}, cutT xs = some (a, b) → xs = a ++ b ∧ ∃ x b', b = x :: b' ∧ x.br = false ∧ ∀ y ∈ b', y.br = true
  | [], a, b, h => by cases h
  | x :: xs, a, b, h => by
    rw [cutT] at h
    cases h2 : cutT xs with
    | some ab =>
      rw [h2] at h
      obtain ⟨a', b'⟩ := ab
      cases h
      obtain ⟨e, r⟩ := cutT_spec h2
      exact ⟨by rw [e]; rfl, r⟩
    | none =>
      rw [h2] at h
      cases h3 : x.br with
      | true => simp [h3] at h
      | false =>
        simp only [h3, Bool.false_eq_true, if_false, Option.some.injEq, Prod.mk.injEq] at h
        obtain ⟨rfl, rfl⟩ := h
        exact ⟨rfl, x, xs, rfl, h3, cutT_none h2⟩
where
  cutT_none : ∀ {xs : List Ln}, cutT xs = none → ∀ y ∈ xs, y.br = true
  | [], _, y, hy => by cases hy
  | x :: xs, h, y, hy => by
    rw [cutT] at h
    cases h2 : cutT xs with
    | some ab => rw [h2] at h; cases h
    | none =>
      rw [h2] at h
      cases h3 : x.br with
      | false => simp [h3] at h
      | true =>
        rcases List.mem_cons.mp hy with e | e
        · rw [e]; exact h3
        · exact cutT_none h2 y e
theorem cutT_none {xs : List Ln} (h : cutT xs = none) : ∀ y ∈ xs, y.br = true := cutT_spec.cutT_none h
theorem cutT_allbr : ∀ {xs : List Ln}, (∀ y ∈ xs, y.br = true) → cutT xs = none
  | [], _ => rfl
  | x :: xs, h => by
    rw [cutT, cutT_allbr fun y hy => h y (List.mem_cons_of_mem _ hy)]
    simp [h x List.mem_cons_self]
theorem cut_spec {xs a b : List Ln} (h : cut xs = some (a, b)) : xs = a ++ b ∧ a ≠ [] ∧ ∃ x b', b = x :: b' ∧ x.br = false ∧ ∀ y ∈ b', y.br = true := by
  cases xs with
  | nil => cases h
  | cons x xs =>
    rw [cut] at h
    cases h2 : cutT xs with
    | none => rw [h2] at h; cases h
    | some ab =>
      rw [h2] at h
      obtain ⟨a', b'⟩ := ab
      cases h
      obtain ⟨e, r⟩ := cutT_spec h2
      exact ⟨by rw [e]; rfl, by simp, r⟩
theorem cut_none {xs : List Ln} (h : cut xs = none) : ∀ y ∈ xs.tail, y.br = true := by
  cases xs with
  | nil => intro y hy; cases hy
  | cons x xs =>
    rw [cut] at h
    cases h2 : cutT xs with
    | none => exact cutT_none h2
    | some ab => rw [h2] at h; cases h
theorem cut_allbr {x : Ln} {xs : List Ln} (h : ∀ y ∈ xs, y.br = true) : cut (x :: xs) = none := by
  rw [cut, cutT_allbr h]; rfl
theorem cut_one (x : Ln) : cut [x] = none := rfl

/-- how far the last of these stands below what is ahead of them -/
def adv : List Ln → Int
  | [] => 0
  | l :: ls => l.sp + 1 + adv ls
theorem adv_append (a b : List Ln) : adv (a ++ b) = adv a + adv b := by
  induction a with
  | nil => simp [adv]
  | cons x a ih => rw [List.cons_append, adv, adv, ih]; omega
theorem adv_nonneg {a : List Ln} (h : ∀ l ∈ a, 0 ≤ l.sp) : (a.length : Int) ≤ adv a := by
  induction a with
  | nil => simp [adv]
  | cons x a ih =>
    have h1 := h x List.mem_cons_self
    have h2 := ih fun l hl => h l (List.mem_cons_of_mem _ hl)
    rw [adv, List.length_cons]
    omega
def lastRow (s : List Ln) : Int := adv s.tail
def pgGo (r : Int) : List Ln → List (Int × Bool)
  | [] => []
  | l :: ls => (r + l.sp + 1, l.br) :: pgGo (r + l.sp + 1) ls
def pgOf : List Ln → List (Int × Bool)
  | [] => []
  | l :: ls => (0, l.br) :: pgGo 0 ls
theorem pgGo_append (r : Int) (a b : List Ln) : pgGo r (a ++ b) = pgGo r a ++ pgGo (r + adv a) b := by
  induction a generalizing r with
  | nil => simp [pgGo, adv]
  | cons x a ih =>
    rw [List.cons_append, pgGo, pgGo, ih, List.cons_append, adv]
    congr 3
    omega
theorem pgGo_len (r : Int) (a : List Ln) : (pgGo r a).length = a.length := by
  induction a generalizing r with
  | nil => rfl
  | cons x a ih => rw [pgGo, List.length_cons, ih, List.length_cons]
theorem pgOf_len (a : List Ln) : (pgOf a).length = a.length := by
  cases a with
  | nil => rfl
  | cons x a => rw [pgOf, List.length_cons, pgGo_len, List.length_cons]
theorem pgOf_snoc {s : List Ln} (h : s ≠ []) (l : Ln) : pgOf (s ++ [l]) = pgOf s ++ [(lastRow s + l.sp + 1, l.br)] := by
  cases s with
  | nil => exact absurd rfl h
  | cons x s =>
    rw [List.cons_append, pgOf, pgGo_append, pgOf, List.cons_append]
    simp [pgGo, lastRow]
theorem lastRow_snoc {s : List Ln} (h : s ≠ []) (l : Ln) : lastRow (s ++ [l]) = lastRow s + l.sp + 1 := by
  cases s with
  | nil => exact absurd rfl h
  | cons x s =>
    show adv (s ++ [l]) = adv s + l.sp + 1
    rw [adv_append]
    simp [adv]
    omega
theorem lastRow_one (l : Ln) : lastRow [l] = 0 := rfl
theorem lastRow_append {a : List Ln} (h : a ≠ []) (x : Ln) (b : List Ln) : lastRow (a ++ x :: b) = lastRow a + x.sp + 1 + lastRow (x :: b) := by
  cases a with
  | nil => exact absurd rfl h
  | cons y a =>
    show adv (a ++ x :: b) = adv a + x.sp + 1 + adv b
    rw [adv_append, adv]
    omega
theorem lastRow_nonneg {s : List Ln} (h : ∀ l ∈ s, 0 ≤ l.sp) : 0 ≤ lastRow s := by
  have := adv_nonneg (a := s.tail) fun l hl => h l (List.mem_of_mem_tail hl)
  unfold lastRow
  omega
theorem pgOf_last {s : List Ln} (h : s ≠ []) : ∃ b, (pgOf s).getLast? = some (lastRow s, b) := by
  rcases List.eq_nil_or_concat s with e | ⟨t, l, e⟩
  · exact absurd e h
  · subst e
    by_cases ht : t = []
    · subst ht
      exact ⟨l.br, rfl⟩
    · rw [List.concat_eq_append] at *
      rw [pgOf_snoc ht, lastRow_snoc ht]
      exact ⟨l.br, by simp⟩
theorem pgGo_shift (r d : Int) (b : List Ln) : pgGo (r + d) b = (pgGo r b).map fun x => (x.1 + d, x.2) := by
  induction b generalizing r with
  | nil => rfl
  | cons x b ih =>
    rw [pgGo, pgGo, List.map_cons, ← ih]
    have e : r + d + x.sp + 1 = r + x.sp + 1 + d := by omega
    rw [e]
/-- a page parted at one of its lines -/
theorem pgOf_parted {a : List Ln} (h : a ≠ []) (x : Ln) (b : List Ln) : pgOf (a ++ x :: b) = pgOf a ++ (pgOf (x :: b)).map fun y => (y.1 + (lastRow a + x.sp + 1), y.2) := by
  cases a with
  | nil => exact absurd rfl h
  | cons y a =>
    rw [List.cons_append, pgOf, pgGo_append, pgOf, pgOf, pgGo, List.map_cons, ← pgGo_shift, List.cons_append]
    show _ = (0, y.br) :: (pgGo 0 a ++ (0 + (adv a + x.sp + 1), x.br) :: pgGo (0 + (adv a + x.sp + 1)) b)
    have e : (0 : Int) + adv a + x.sp + 1 = 0 + (adv a + x.sp + 1) := by omega
    rw [e]

/-! ### the lines of blocks -/
def blLn (c : Nat) (s : Int) (kp du : Bool) (i : Nat) : Ln := if i = 0 then ⟨s, kp, du⟩ else ⟨0, decide ((i : Int) = 1 ∨ (i : Int) = (c : Int) - 1), false⟩
def blLines (c : Nat) (s : Int) (kp du : Bool) (n : Nat) : List Ln := (List.range n).map (blLn c s kp du)
theorem blLines_succ (c : Nat) (s : Int) (kp du : Bool) (n : Nat) : blLines c s kp du (n + 1) = blLines c s kp du n ++ [blLn c s kp du n] := by
  unfold blLines
  rw [List.range_succ, List.map_append]
  rfl
structure LS where
  ls : List Ln
  du : Bool
  kp : Bool
def stepB (t : LS) (b : Bl) : LS :=
  ⟨t.ls ++ blLines b.c b.s t.kp (t.du || b.g) b.c, if b.c = 0 then (t.du || b.g) else false, if b.c = 0 then t.kp else b.k⟩
def linesOf (bs : List Bl) : LS := bs.foldl stepB ⟨[], true, false⟩
theorem linesOf_snoc (bs : List Bl) (b : Bl) : linesOf (bs ++ [b]) = stepB (linesOf bs) b := by
  unfold linesOf
  rw [List.foldl_append]
  rfl

/-! ### lines put onto pages: a state is its pages' lines, the last page first -/
def stepS (L : Int) (S : List (List Ln)) (l : Ln) : List (List Ln) :=
  if l.du = true then [l] :: S else match S with
  | [] => [[l]]
  | seg :: S' => if lastRow seg + l.sp + 1 < L then (seg ++ [l]) :: S' else
    match (if l.br = true then cut seg else none) with
    | none => [l] :: seg :: S'
    | some ab => if lastRow ab.2 + l.sp + 1 < L then (ab.2 ++ [l]) :: ab.1 :: S' else [l] :: ab.2 :: ab.1 :: S'
def runS (L : Int) (ls : List Ln) : List (List Ln) := ls.foldl (stepS L) []
theorem runS_snoc (L : Int) (ls : List Ln) (l : Ln) : runS L (ls ++ [l]) = stepS L (runS L ls) l := by
  unfold runS
  rw [List.foldl_append]
  rfl
theorem runS_append (L : Int) (a b : List Ln) : runS L (a ++ b) = b.foldl (stepS L) (runS L a) := by
  unfold runS
  rw [List.foldl_append]
def rowsOf (S : List (List Ln)) : List Int := ((S.reverse.map pgOf).flatten).map (·.1)
theorem rowsOf_cons (s : List Ln) (S : List (List Ln)) : rowsOf (s :: S) = rowsOf S ++ (pgOf s).map (·.1) := by
  unfold rowsOf
  simp

/-! ### a Page's state -/
structure PS' where
  h : Int
  t : Int
  lo : Int
  rows : List Int
def lng (t s : Int) : Int := if t > 0 then t + s + 1 else 0
structure NL where
  h : Int
  t : Int
  ov : Bool
def nextLine (L h t s : Int) (b : Bool) : NL :=
  if h > 0 ∧ h + s + 1 ≤ L then (if b = false then ⟨h + s + 1, 1, false⟩ else ⟨h + s + 1, lng t s, false⟩)
  else if b = false ∨ t = 0 then ⟨1, 0, false⟩ else ⟨if lng t s ≤ L then lng t s else 1, 0, true⟩
def overR (rows : List Int) (lo before : Int) : List Int := rows.take (rows.length - lo.toNat) ++ (rows.drop (rows.length - lo.toNat)).map (· - before)
def lineP (L : Int) (p : PS') (s : Int) (b : Bool) : PS' :=
  let n := nextLine L p.h p.t s b
  ⟨n.h, n.t, if n.t > 1 then p.lo + 1 else n.t, (if n.ov = true then overR p.rows p.lo (p.h - p.t) else p.rows) ++ [n.h - 1]⟩
def tailOf (s : List Ln) : Int := match cut s with
  | none => 0
  | some ab => lastRow ab.2 + 1
def looseOf (s : List Ln) : Int := match cut s with
  | none => 0
  | some ab => ab.2.length
/-- the page's state is that of these lines -/
structure Ex (S : List (List Ln)) (p : PS') : Prop where
  ok : ∃ s S', S = s :: S' ∧ s ≠ [] ∧ p.h = lastRow s + 1 ∧ p.t = tailOf s ∧ p.lo = looseOf s ∧ p.rows = rowsOf S
def NN (S : List (List Ln)) : Prop := ∀ s ∈ S, ∀ l ∈ s, 0 ≤ l.sp
theorem overR_ok {S' : List (List Ln)} {a b : List Ln} {x : Ln} (ha : a ≠ []) : overR (rowsOf ((a ++ x :: b) :: S')) ((x :: b).length : Int) (lastRow a + x.sp + 1) = rowsOf ((x :: b) :: a :: S') := by
  unfold overR
  rw [rowsOf_cons, rowsOf_cons, rowsOf_cons, pgOf_parted ha]
  have e : ((((pgOf a ++ (pgOf (x :: b)).map fun y => (y.1 + (lastRow a + x.sp + 1), y.2))).map (·.1)) : List Int) = (pgOf a).map (·.1) ++ ((pgOf (x :: b)).map (·.1)).map (· + (lastRow a + x.sp + 1)) := by
    simp [List.map_map, Function.comp_def]
  rw [e, ← List.append_assoc]
  have el : (rowsOf S' ++ (pgOf a).map (·.1) ++ ((pgOf (x :: b)).map (·.1)).map (· + (lastRow a + x.sp + 1))).length - (((x :: b).length : Int)).toNat = (rowsOf S' ++ (pgOf a).map (·.1)).length := by
    simp only [List.length_append, List.length_map, pgOf_len, Int.toNat_natCast]
    omega
  rw [el, List.take_left', List.drop_left']
  · rw [List.map_map]
    congr 1
    conv => rhs; rw [← List.map_id ((pgOf (x :: b)).map (·.1))]
    apply List.map_congr_left
    intro y _
    simp
  · rfl
  · rfl
theorem line_ok {L : Int} {seg : List Ln} {S' : List (List Ln)} {p : PS'} {l : Ln} (hL : 0 < L) (hn : NN (seg :: S')) (hs : seg ≠ []) (h0 : 0 ≤ l.sp) (hd : l.du = false) (hh : p.h = lastRow seg + 1) (hb : l.br = true → p.t = tailOf seg ∧ p.lo = looseOf seg)
    (hr : p.rows = rowsOf (seg :: S')) : Ex (stepS L (seg :: S') l) (lineP L p l.sp l.br) := by
  have hnn : 0 ≤ lastRow seg := lastRow_nonneg (hn seg List.mem_cons_self)
  unfold stepS lineP nextLine
  simp only [hd, Bool.false_eq_true, if_false, hh]
  by_cases hf : lastRow seg + l.sp + 1 < L
  · have hf' : lastRow seg + 1 > 0 ∧ lastRow seg + 1 + l.sp + 1 ≤ L := ⟨by omega, by omega⟩
    simp only [hf, hf', and_self, if_true]
    cases hbr : l.br with
    | false =>
      simp only [if_true]
      refine ⟨_, _, rfl, by simp, ?_, ?_, ?_, ?_⟩
      · rw [lastRow_snoc hs]; show lastRow seg + 1 + l.sp + 1 = _; omega
      · show (1 : Int) = _
        unfold tailOf; rw [cut_snoc hs, hbr]; rfl
      · show (if (1 : Int) > 1 then p.lo + 1 else (1 : Int)) = _
        unfold looseOf; rw [cut_snoc hs, hbr]; rfl
      · show p.rows ++ [_] = _
        rw [hr, rowsOf_cons, rowsOf_cons, pgOf_snoc hs, List.map_append, List.append_assoc]
        congr 2
        simp
        omega
    | true =>
      obtain ⟨ht, hlo⟩ := hb hbr
      simp only [Bool.true_eq_false, if_false]
      refine ⟨_, _, rfl, by simp, ?_, ?_, ?_, ?_⟩
      · rw [lastRow_snoc hs]; show lastRow seg + 1 + l.sp + 1 = _; omega
      · show lng p.t l.sp = _
        rw [ht]
        unfold tailOf lng
        rw [cut_snoc hs, hbr]
        simp only [if_true]
        cases hc : cut seg with
        | none => simp
        | some ab =>
          obtain ⟨a, b⟩ := ab
          obtain ⟨e, ha, x, b', hb', _⟩ := cut_spec hc
          have hbn : b ≠ [] := by rw [hb']; simp
          have : 0 ≤ lastRow b := lastRow_nonneg fun y hy => hn seg List.mem_cons_self y (by rw [e]; exact List.mem_append_right _ hy)
          simp only [Option.map_some]
          rw [lastRow_snoc hbn, if_pos (by omega)]
          omega
      · show (if lng p.t l.sp > 1 then p.lo + 1 else lng p.t l.sp) = _
        rw [ht, hlo]
        unfold tailOf looseOf lng
        rw [cut_snoc hs, hbr]
        simp only [if_true]
        cases hc : cut seg with
        | none => simp
        | some ab =>
          obtain ⟨a, b⟩ := ab
          obtain ⟨e, ha, x, b', hb', _⟩ := cut_spec hc
          have : 0 ≤ lastRow b := lastRow_nonneg fun y hy => hn seg List.mem_cons_self y (by rw [e]; exact List.mem_append_right _ hy)
          simp only [Option.map_some, List.length_append, List.length_singleton]
          rw [if_pos (by omega)]
          omega
      · show p.rows ++ [_] = _
        rw [hr, rowsOf_cons, rowsOf_cons, pgOf_snoc hs, List.map_append, List.append_assoc]
        congr 2
        simp
        omega
  · have hf' : ¬ (lastRow seg + 1 > 0 ∧ lastRow seg + 1 + l.sp + 1 ≤ L) := fun q => hf (by omega)
    simp only [hf, hf', if_false]
    cases hbr : l.br with
    | false =>
      simp only [Bool.false_eq_true, if_false, true_or, if_true]
      refine ⟨_, _, rfl, by simp, rfl, rfl, rfl, ?_⟩
      show p.rows ++ [_] = _
      rw [hr]
      rw [rowsOf_cons [l]]
      rfl
    | true =>
      obtain ⟨ht, hlo⟩ := hb hbr
      simp only [if_true, Bool.true_eq_false, false_or]
      cases hc : cut seg with
      | none =>
        have ht0 : p.t = 0 := by rw [ht]; unfold tailOf; rw [hc]
        simp only [ht0, if_true]
        refine ⟨_, _, rfl, by simp, rfl, rfl, rfl, ?_⟩
        show p.rows ++ [_] = _
        rw [hr]
        rw [rowsOf_cons [l]]
        rfl
      | some ab =>
        obtain ⟨a, b⟩ := ab
        obtain ⟨e, ha, x, b', hb', hx, hall⟩ := cut_spec hc
        have hbn : b ≠ [] := by rw [hb']; simp
        have hb0 : 0 ≤ lastRow b := lastRow_nonneg fun y hy => hn seg List.mem_cons_self y (by rw [e]; exact List.mem_append_right _ hy)
        have ht1 : p.t = lastRow b + 1 := by rw [ht]; unfold tailOf; rw [hc]
        have hlo1 : p.lo = b.length := by rw [hlo]; unfold looseOf; rw [hc]
        have htn : ¬ p.t = 0 := by omega
        have hlr : lastRow seg = lastRow a + x.sp + 1 + lastRow b := by rw [e, hb']; exact lastRow_append ha x b'
        have hov : overR p.rows p.lo (lastRow seg + 1 - p.t) = rowsOf (b :: a :: S') := by
          have e2 : lastRow seg + 1 - p.t = lastRow a + x.sp + 1 := by omega
          rw [e2, hr, hlo1, e, hb']
          exact overR_ok ha
        have hlng : lng p.t l.sp = lastRow b + l.sp + 1 + 1 := by
          unfold lng
          rw [if_pos (by omega)]
          omega
        simp only [htn, if_false, hlng, hov, if_true]
        by_cases hf2 : lastRow b + l.sp + 1 < L
        · have hf3 : lastRow b + l.sp + 1 + 1 ≤ L := by omega
          simp only [hf2, hf3, if_true]
          refine ⟨_, _, rfl, by simp, ?_, ?_, ?_, ?_⟩
          · rw [lastRow_snoc hbn]
          · show (0 : Int) = _
            unfold tailOf; rw [cut_snoc hbn, hbr, hb', cut_allbr hall]; rfl
          · show (if (0 : Int) > 1 then p.lo + 1 else (0 : Int)) = _
            unfold looseOf; rw [cut_snoc hbn, hbr, hb', cut_allbr hall]; rfl
          · show rowsOf (b :: a :: S') ++ [_] = _
            rw [rowsOf_cons, rowsOf_cons (b ++ [l]), pgOf_snoc hbn, List.map_append, List.append_assoc]
            congr 2
            simp
        · have hf3 : ¬ (lastRow b + l.sp + 1 + 1 ≤ L) := by omega
          simp only [hf2, hf3, if_false]
          refine ⟨_, _, rfl, by simp, rfl, rfl, rfl, ?_⟩
          show rowsOf (b :: a :: S') ++ [_] = _
          rw [rowsOf_cons [l]]
          rfl
/-! ### a block -/
structure SB where
  kd : Bool
  h : Int
  t : Int
  lo : Int
  rows : List Int
def runP (L : Int) (c : Nat) (s : Int) (kd : Bool) (p : PS') : Nat → PS'
  | 0 => p
  | n + 1 => lineP L (runP L c s kd p n) (if n = 0 then s else 0) (if n = 0 then kd else decide ((n : Int) = 1 ∨ (n : Int) = (c : Int) - 1))
def due0 (q : SB) (g : Bool) : SB := if g = true then ⟨false, 0, 0, 0, q.rows⟩ else q
def endP (L : Int) (p : PS') (k : Bool) : SB :=
  if p.h = L ∧ (k = false ∨ p.t = 0) then ⟨false, 0, 0, 0, p.rows⟩ else if k = true then ⟨true, p.h, p.t, if p.t = 0 then 0 else p.lo, p.rows⟩ else ⟨false, p.h, 0, 0, p.rows⟩
def blockP (L : Int) (q : SB) (b : Bl) : SB :=
  let q0 := due0 q b.g
  if b.c = 0 then q0 else endP L (runP L b.c b.s q0.kd ⟨q0.h, q0.t, q0.lo, q0.rows⟩ b.c) b.k
theorem NN_step {L : Int} {S : List (List Ln)} {l : Ln} (h : NN S) (h0 : 0 ≤ l.sp) : NN (stepS L S l) := by
  unfold stepS
  have h1 : ∀ y ∈ [l], 0 ≤ y.sp := fun y hy => by rw [List.mem_singleton.mp hy]; exact h0
  split
  · intro s hs
    rcases List.mem_cons.mp hs with e | e
    · rw [e]; exact h1
    · exact h s e
  · cases S with
    | nil =>
      intro s hs
      rw [List.mem_singleton.mp hs]; exact h1
    | cons seg S' =>
      have hseg := h seg List.mem_cons_self
      have hS' : ∀ s ∈ S', ∀ y ∈ s, 0 ≤ y.sp := fun s hs => h s (List.mem_cons_of_mem _ hs)
      have app : ∀ {a b : List Ln}, (∀ y ∈ a, 0 ≤ y.sp) → (∀ y ∈ b, 0 ≤ y.sp) → ∀ y ∈ a ++ b, 0 ≤ y.sp := fun ha hb y hy => (List.mem_append.mp hy).elim (ha y) (hb y)
      dsimp only
      split
      · intro s hs
        rcases List.mem_cons.mp hs with e | e
        · rw [e]; exact app hseg h1
        · exact hS' s e
      · cases hc : (if l.br = true then cut seg else none) with
        | none =>
          intro s hs
          rcases List.mem_cons.mp hs with e | e
          · rw [e]; exact h1
          · exact h s e
        | some ab =>
          obtain ⟨a, b⟩ := ab
          have hc' : cut seg = some (a, b) := by
            split at hc
            · exact hc
            · cases hc
          obtain ⟨e0, _, _⟩ := cut_spec hc'
          have ha : ∀ y ∈ a, 0 ≤ y.sp := fun y hy => hseg y (by rw [e0]; exact List.mem_append_left _ hy)
          have hb : ∀ y ∈ b, 0 ≤ y.sp := fun y hy => hseg y (by rw [e0]; exact List.mem_append_right _ hy)
          dsimp only
          split
          · intro s hs
            rcases List.mem_cons.mp hs with e | e
            · rw [e]; exact app hb h1
            · rcases List.mem_cons.mp e with e | e
              · rw [e]; exact ha
              · exact hS' s e
          · intro s hs
            rcases List.mem_cons.mp hs with e | e
            · rw [e]; exact h1
            · rcases List.mem_cons.mp e with e | e
              · rw [e]; exact hb
              · rcases List.mem_cons.mp e with e | e
                · rw [e]; exact ha
                · exact hS' s e
structure Rel (L : Int) (t : LS) (q : SB) : Prop where
  rows : q.rows = rowsOf (runS L t.ls)
  nn : NN (runS L t.ls)
  due : t.du = true → q.h = 0 ∧ q.t = 0 ∧ q.kd = false ∧ q.lo = 0
  not : t.du = false → ∃ seg S', runS L t.ls = seg :: S' ∧ seg ≠ [] ∧
    ((q.h = lastRow seg + 1 ∧ q.kd = t.kp ∧ (t.kp = true → q.t = tailOf seg ∧ q.lo = looseOf seg) ∧ (t.kp = false → q.t = 0 ∧ q.lo = 0)) ∨
     (lastRow seg + 1 = L ∧ q.h = 0 ∧ q.t = 0 ∧ q.kd = false ∧ q.lo = 0 ∧ (t.kp = false ∨ cut seg = none)))
theorem rel0 (L : Int) : Rel L ⟨[], true, false⟩ ⟨false, 0, 0, 0, []⟩ := ⟨rfl, (fun _ h => by cases h), (fun _ => ⟨rfl, rfl, rfl, rfl⟩), (fun h => by cases h)⟩
theorem line_new {L : Int} {S : List (List Ln)} {p : PS'} {l : Ln} (hh : p.h = 0) (hr : p.rows = rowsOf S) : Ex ([l] :: S) (lineP L p l.sp false) := by
  unfold lineP nextLine
  have : ¬ (p.h > 0 ∧ p.h + l.sp + 1 ≤ L) := by omega
  simp only [this, if_false, true_or, if_true, Bool.false_eq_true]
  refine ⟨_, _, rfl, by simp, rfl, rfl, rfl, ?_⟩
  rw [hr, rowsOf_cons [l]]
  rfl
theorem line_sp (p : PS') (L s s' : Int) (h : p.h = 0) : lineP L p s false = lineP L p s' false := by
  unfold lineP nextLine
  have h1 : ¬ (p.h > 0 ∧ p.h + s + 1 ≤ L) := by omega
  have h2 : ¬ (p.h > 0 ∧ p.h + s' + 1 ≤ L) := by omega
  simp only [h1, h2, if_false, true_or, if_true]
theorem first_ok {L : Int} (hL : 0 < L) {t : LS} {q : SB} (R : Rel L t q) {s : Int} (h0 : 0 ≤ s) (g : Bool) :
    Ex (stepS L (runS L t.ls) ⟨s, t.kp, t.du || g⟩) (lineP L ⟨(due0 q g).h, (due0 q g).t, (due0 q g).lo, (due0 q g).rows⟩ s (due0 q g).kd) := by
  cases hd : (t.du || g) with
  | true =>
    have z : (due0 q g).h = 0 ∧ (due0 q g).kd = false ∧ (due0 q g).rows = q.rows := by
      unfold due0
      cases g with
      | true => exact ⟨rfl, rfl, rfl⟩
      | false =>
        have := R.due (by simpa using hd)
        exact ⟨this.1, this.2.2.1, rfl⟩
    unfold stepS
    simp only [if_true]
    rw [z.2.1]
    exact line_new (l := ⟨s, t.kp, true⟩) z.1 (z.2.2.trans R.rows)
  | false =>
    obtain ⟨hd1, hg⟩ : t.du = false ∧ g = false := by simpa using hd
    subst hg
    have z : due0 q false = q := rfl
    rw [z]
    obtain ⟨seg, S', hS, hne, hh⟩ := R.not hd1
    have nn := R.nn
    have rr := R.rows
    rw [hS] at nn rr ⊢
    rcases hh with ⟨h1, h2, h3, h4⟩ | ⟨h1, h2, h3, h4, h5, h6⟩
    · rw [h2]
      exact line_ok (l := ⟨s, t.kp, false⟩) (p := ⟨q.h, q.t, q.lo, q.rows⟩) hL nn hne h0 rfl h1 h3 rr
    · have e : stepS L (seg :: S') ⟨s, t.kp, false⟩ = [⟨s, t.kp, false⟩] :: seg :: S' := by
        unfold stepS
        have : ¬ (lastRow seg + s + 1 < L) := by omega
        simp only [Bool.false_eq_true, if_false, this]
        have : (if t.kp = true then cut seg else none) = none := by
          rcases h6 with h6 | h6
          · simp [h6]
          · simp [h6]
        rw [this]
      rw [e, h4]
      exact line_new (l := ⟨s, t.kp, false⟩) (p := ⟨q.h, q.t, q.lo, q.rows⟩) h2 rr
theorem lines_ok {L : Int} (hL : 0 < L) {t : LS} {q : SB} (R : Rel L t q) {s : Int} (h0 : 0 ≤ s) (g : Bool) (c : Nat) : ∀ n : Nat,
    NN (runS L (t.ls ++ blLines c s t.kp (t.du || g) (n + 1))) ∧ Ex (runS L (t.ls ++ blLines c s t.kp (t.du || g) (n + 1))) (runP L c s (due0 q g).kd ⟨(due0 q g).h, (due0 q g).t, (due0 q g).lo, (due0 q g).rows⟩ (n + 1))
  | 0 => by
    have e : blLines c s t.kp (t.du || g) 1 = [⟨s, t.kp, t.du || g⟩] := rfl
    show NN (runS L (t.ls ++ blLines c s t.kp (t.du || g) 1)) ∧ Ex (runS L (t.ls ++ blLines c s t.kp (t.du || g) 1)) _
    rw [e, runS_snoc]
    exact ⟨NN_step R.nn h0, first_ok hL R h0 g⟩
  | n + 1 => by
    obtain ⟨nn, ex⟩ := lines_ok hL R h0 g c n
    rw [blLines_succ, ← List.append_assoc, runS_snoc]
    have e : blLn c s t.kp (t.du || g) (n + 1) = ⟨0, decide (((n + 1 : Nat) : Int) = 1 ∨ ((n + 1 : Nat) : Int) = (c : Int) - 1), false⟩ := by
      unfold blLn
      rw [if_neg (by omega)]
    refine ⟨NN_step nn (by rw [e]; exact Int.le_refl _), ?_⟩
    obtain ⟨seg, S', hS, hne, h1, h2, h3, h4⟩ := ex
    rw [hS] at nn ⊢
    rw [e]
    show Ex _ (lineP L _ (if n + 1 = 0 then s else 0) (if n + 1 = 0 then _ else _))
    rw [if_neg (by omega), if_neg (by omega)]
    exact line_ok (l := ⟨0, decide (((n + 1 : Nat) : Int) = 1 ∨ ((n + 1 : Nat) : Int) = (c : Int) - 1), false⟩) hL nn hne (Int.le_refl _) rfl h1 (fun _ => ⟨h2, h3⟩) (by rw [h4, hS])
theorem tail0 {s : List Ln} (hn : ∀ l ∈ s, 0 ≤ l.sp) (h : tailOf s = 0) : cut s = none := by
  unfold tailOf at h
  cases hc : cut s with
  | none => rfl
  | some ab =>
    obtain ⟨a, b⟩ := ab
    rw [hc] at h
    obtain ⟨e, _, _⟩ := cut_spec hc
    have : 0 ≤ lastRow b := lastRow_nonneg fun y hy => hn y (by rw [e]; exact List.mem_append_right _ hy)
    dsimp only at h
    omega
theorem rel_step {L : Int} (hL : 0 < L) {t : LS} {q : SB} (R : Rel L t q) {b : Bl} (h0 : 0 ≤ b.s) : Rel L (stepB t b) (blockP L q b) := by
  unfold blockP stepB
  by_cases hc : b.c = 0
  · have e : blLines b.c b.s t.kp (t.du || b.g) b.c = [] := by rw [hc]; rfl
    rw [e]
    simp only [hc, if_true, List.append_nil]
    unfold due0
    cases hg : b.g with
    | true =>
      simp only [if_true, Bool.or_true]
      exact ⟨R.rows, R.nn, fun _ => ⟨rfl, rfl, rfl, rfl⟩, fun h => by cases h⟩
    | false =>
      simp only [Bool.false_eq_true, if_false, Bool.or_false]
      exact ⟨R.rows, R.nn, R.due, R.not⟩
  · simp only [hc, if_false]
    obtain ⟨n, hn⟩ : ∃ n, b.c = n + 1 := ⟨b.c - 1, by omega⟩
    have key := lines_ok hL R h0 b.g b.c n
    rw [← hn] at key
    obtain ⟨nn, ex⟩ := key
    revert ex
    generalize runP L b.c b.s (due0 q b.g).kd ⟨(due0 q b.g).h, (due0 q b.g).t, (due0 q b.g).lo, (due0 q b.g).rows⟩ b.c = p
    intro ex
    obtain ⟨seg, S', hS, hne, h1, h2, h3, h4⟩ := ex
    have hsn : ∀ l ∈ seg, 0 ≤ l.sp := fun l hl => nn seg (by rw [hS]; exact List.mem_cons_self) l hl
    unfold endP
    split
    · rename_i hh
      refine ⟨h4, nn, fun h => (by cases h), fun _ => ⟨seg, S', hS, hne, .inr ⟨by omega, rfl, rfl, rfl, rfl, ?_⟩⟩⟩
      rcases hh.2 with z | z
      · exact .inl z
      · exact .inr (tail0 hsn (h2 ▸ z))
    · split
      · rename_i hh hk
        refine ⟨h4, nn, fun h => (by cases h), fun _ => ⟨seg, S', hS, hne, .inl ⟨h1, hk.symm, fun _ => ⟨h2, ?_⟩, fun z => ?_⟩⟩⟩
        · show (if p.t = 0 then (0 : Int) else p.lo) = _
          split
          · rename_i hz
            unfold looseOf
            rw [tail0 hsn (h2 ▸ hz)]
          · exact h3
        · exact absurd (hk.symm.trans z) (by decide)
      · rename_i hh hk
        have hk' : b.k = false := by simpa using hk
        refine ⟨h4, nn, fun h => (by cases h), fun _ => ⟨seg, S', hS, hne, .inl ⟨h1, hk'.symm, fun z => ?_, fun _ => ⟨rfl, rfl⟩⟩⟩⟩
        exact absurd z hk
def pageOf (L : Int) (bs : List Bl) : SB := bs.foldl (blockP L) ⟨false, 0, 0, 0, []⟩
theorem pageOf_snoc (L : Int) (bs : List Bl) (b : Bl) : pageOf L (bs ++ [b]) = blockP L (pageOf L bs) b := by
  unfold pageOf
  rw [List.foldl_append]
  rfl
theorem pageOf_rel {L : Int} (hL : 0 < L) (bs : List Bl) (h : ∀ b ∈ bs, 0 ≤ b.s) : Rel L (linesOf bs) (pageOf L bs) := by
  unfold linesOf pageOf
  have key : ∀ (bs : List Bl) (t : LS) (q : SB), (∀ b ∈ bs, 0 ≤ b.s) → Rel L t q → Rel L (bs.foldl stepB t) (bs.foldl (blockP L) q) := by
    intro bs
    induction bs with
    | nil => intro t q _ R; exact R
    | cons b bs ih => intro t q h R; exact ih _ _ (fun b' hb => h b' (List.mem_cons_of_mem _ hb)) (rel_step hL R (h b List.mem_cons_self))
  exact key bs _ _ h (rel0 L)
/-- both ways tell the same rows -/
theorem rows_same {L : Int} (hL : 0 < L) (bs : List Bl) (h : ∀ b ∈ bs, 0 ≤ b.s) : (pageOf L bs).rows = rowsOf (runS L (linesOf bs).ls) := (pageOf_rel hL bs h).rows
/-! ### each page is broken for a reason -/
def ln (ls : List Ln) (i : Nat) : Ln := (ls[i]?).getD ⟨0, false, false⟩
def allBr (ls : List Ln) (lo hi : Nat) : Bool := (List.range' lo (hi - lo)).all fun k => (ln ls k).br
def rsGo (L : Int) (ls : List Ln) (start stop : Nat) : Nat → Nat → Int → Bool
  | 0, _, _ => false
  | n + 1, i, row =>
    let r := row + (ln ls i).sp + 1
    if stop < i ∧ (ln ls i).du = true then false
    else if L ≤ r ∧ stop < i then (!(ln ls stop).br && allBr ls (stop + 1) (i + 1))
    else if L ≤ r then (decide (i = stop) && (!(ln ls i).br || allBr ls (start + 1) (i + 1)))
    else rsGo L ls start stop n (i + 1) r
def reasonB (L : Int) (ls : List Ln) (start stop : Nat) : Bool := if (ln ls stop).du = true then true else rsGo L ls start stop (ls.length - (start + 1)) (start + 1) 0
theorem ln_at (p : List Ln) (x : Ln) (q : List Ln) : ln (p ++ x :: q) p.length = x := by
  unfold ln
  simp
theorem allBr_of {ls p a q : List Ln} (e : ls = p ++ a ++ q) (h : ∀ y ∈ a, y.br = true) : allBr ls p.length (p.length + a.length) = true := by
  unfold allBr
  rw [List.all_eq_true]
  intro k hk
  rw [List.mem_range'_1] at hk
  have h1 : k - p.length < a.length := by omega
  have : ls[k]? = some a[k - p.length] := by
    rw [e, List.append_assoc, List.getElem?_append_right (by omega), List.getElem?_append_left h1, List.getElem?_eq_getElem h1]
  unfold ln
  rw [this]
  exact h _ (List.getElem_mem h1)
theorem rs_run {L : Int} {ls : List Ln} {start stop : Nat} : ∀ (xs p q : List Ln) (n : Nat) (row : Int), ls = p ++ xs ++ q → (∀ y ∈ xs, 0 ≤ y.sp) → row + adv xs < L → (p.length + xs.length ≤ stop + 1 ∨ ∀ y ∈ xs, y.du = false) →
    rsGo L ls start stop (xs.length + n) p.length row = rsGo L ls start stop n (p.length + xs.length) (row + adv xs)
  | [], p, q, n, row, _, _, _, _ => by simp [adv]
  | x :: xs, p, q, n, row, e, h0, hf, hd => by
    have e1 : ls = p ++ x :: (xs ++ q) := by rw [e]; simp
    have hx : ln ls p.length = x := by rw [e1]; exact ln_at _ _ _
    have hn := adv_nonneg (a := xs) fun y hy => h0 y (List.mem_cons_of_mem _ hy)
    rw [adv] at hf
    have e2 : (x :: xs).length + n = (xs.length + n) + 1 := by rw [List.length_cons]; omega
    rw [e2, rsGo]
    simp only [hx]
    have c1 : ¬ (stop < p.length ∧ x.du = true) := by
      rintro ⟨a, b⟩
      rcases hd with hd | hd
      · rw [List.length_cons] at hd; omega
      · rw [hd x List.mem_cons_self] at b; cases b
    have c2 : ¬ (L ≤ row + x.sp + 1 ∧ stop < p.length) := by omega
    have c3 : ¬ (L ≤ row + x.sp + 1) := by omega
    rw [if_neg c1, if_neg c2, if_neg c3]
    have ih := rs_run (L := L) (ls := ls) (start := start) (stop := stop) xs (p ++ [x]) q n (row + x.sp + 1) (by rw [e]; simp) (fun y hy => h0 y (List.mem_cons_of_mem _ hy)) (by omega) (by
      rcases hd with hd | hd
      · exact .inl (by simp at hd ⊢; omega)
      · exact .inr fun y hy => hd y (List.mem_cons_of_mem _ hy))
    rw [List.length_append, List.length_singleton] at ih
    rw [ih, adv, List.length_cons]
    congr 1 <;> omega
def OkSeg (L : Int) (s : List Ln) : Prop := s ≠ [] ∧ lastRow s < L ∧ ∀ y ∈ s.tail, y.du = false
def J (L : Int) (s rest : List Ln) : Prop := match rest with
  | [] => False
  | h :: t => h.du = true ∨ (L ≤ lastRow s + h.sp + 1 ∧ (h.br = false ∨ ∀ y ∈ s.tail, y.br = true)) ∨
    (h.br = false ∧ ∃ m f u, t = m ++ f :: u ∧ (∀ y ∈ m, y.br = true ∧ y.du = false) ∧ f.br = true ∧ f.du = false ∧ lastRow s + h.sp + 1 + adv m < L ∧ L ≤ lastRow s + h.sp + 1 + adv m + f.sp + 1)
theorem J_snoc {L : Int} {s rest : List Ln} (l : Ln) (h : J L s rest) : J L s (rest ++ [l]) := by
  cases rest with
  | nil => exact h.elim
  | cons x t =>
    rcases h with h | h | ⟨h1, m, f, u, h2, h3⟩
    · exact .inl h
    · exact .inr (.inl h)
    · exact .inr (.inr ⟨h1, m, f, u ++ [l], by rw [h2]; simp, h3⟩)
theorem reason_J {L : Int} {ls pre s rest : List Ln} (e : ls = pre ++ s ++ rest) (hs : OkSeg L s) (h0 : ∀ y ∈ ls, 0 ≤ y.sp) (hj : J L s rest) : reasonB L ls pre.length (pre.length + s.length) = true := by
  obtain ⟨hne, hlt, hdu⟩ := hs
  cases s with
  | nil => exact absurd rfl hne
  | cons x s =>
  cases rest with
  | nil => exact hj.elim
  | cons h t =>
  have hst : ln ls (pre.length + (x :: s).length) = h := by
    rw [e, ← List.length_append]; exact ln_at _ _ _
  unfold reasonB
  rw [hst]
  by_cases hd : h.du = true
  · rw [if_pos hd]
  rw [if_neg hd]
  have hs0 : ∀ y ∈ s, 0 ≤ y.sp := fun y hy => h0 y (by rw [e]; simp [hy])
  have hl : ls.length - (pre.length + 1) = s.length + (1 + t.length) := by rw [e]; simp; omega
  have e1 : ls = (pre ++ [x]) ++ s ++ (h :: t) := by rw [e]; simp
  have lp : pre.length + 1 = (pre ++ [x]).length := by simp
  have hlt' : adv s < L := hlt
  rw [hl, lp, rs_run s (pre ++ [x]) (h :: t) (1 + t.length) 0 e1 hs0 (by omega) (.inl (by simp; omega))]
  have e3 : (pre ++ [x]).length + s.length = pre.length + (x :: s).length := by simp; omega
  rw [e3, Nat.add_comm 1 t.length, rsGo]
  simp only [hst]
  rcases hj with hj | ⟨hj1, hj2⟩ | ⟨hj1, m, f, u, hj2, hj3, hj4, hj5, hj6, hj7⟩
  · exact absurd hj hd
  · have hj1 : L ≤ adv s + h.sp + 1 := hj1
    have hlt2 : ¬ (pre.length + (x :: s).length < pre.length + (x :: s).length) := Nat.lt_irrefl _
    have c3 : L ≤ 0 + adv s + h.sp + 1 := by omega
    rw [if_neg (fun q => hlt2 q.1), if_neg (fun q => hlt2 q.2), if_pos c3]
    simp only [decide_true, Bool.true_and, Bool.or_eq_true, Bool.not_eq_true']
    rcases hj2 with hj2 | hj2
    · exact .inl hj2
    · cases hb : h.br with
      | false => exact .inl rfl
      | true =>
        refine .inr ?_
        have e4 : ls = (pre ++ [x]) ++ (s ++ [h]) ++ t := by rw [e]; simp
        have := allBr_of e4 (fun y hy => by
          rcases List.mem_append.mp hy with z | z
          · exact hj2 y z
          · rw [List.mem_singleton.mp z]; exact hb)
        have e5 : (pre ++ [x]).length + (s ++ [h]).length = pre.length + (x :: s).length + 1 := by simp; omega
        rw [e5] at this
        rw [lp]
        exact this
  · have hj6 : adv s + h.sp + 1 + adv m < L := hj6
    have hj7 : L ≤ adv s + h.sp + 1 + adv m + f.sp + 1 := hj7
    have hm0 : ∀ y ∈ m, 0 ≤ y.sp := fun y hy => h0 y (by rw [e, hj2]; simp [hy])
    have hmn := adv_nonneg hm0
    have hlt2 : ¬ (pre.length + (x :: s).length < pre.length + (x :: s).length) := Nat.lt_irrefl _
    have c3 : ¬ (L ≤ 0 + adv s + h.sp + 1) := by omega
    rw [if_neg (fun q => hlt2 q.1), if_neg (fun q => hlt2 q.2), if_neg c3]
    have e6 : ls = (pre ++ x :: s ++ [h]) ++ m ++ (f :: u) := by rw [e, hj2]; simp
    have e7 : pre.length + (x :: s).length + 1 = (pre ++ x :: s ++ [h]).length := by simp; omega
    have e8 : t.length = m.length + (u.length + 1) := by rw [hj2]; simp
    rw [e7, e8, rs_run m _ (f :: u) (u.length + 1) _ e6 hm0 (by omega) (.inr fun y hy => (hj3 y hy).2)]
    have hf : ln ls ((pre ++ x :: s ++ [h]).length + m.length) = f := by
      rw [← List.length_append, e6]; exact ln_at _ _ _
    rw [rsGo]
    simp only [hf]
    have c4 : ¬ (pre.length + (x :: s).length < (pre ++ x :: s ++ [h]).length + m.length ∧ f.du = true) := fun q => by rw [hj5] at q; exact Bool.noConfusion q.2
    have c5 : L ≤ 0 + adv s + h.sp + 1 + adv m + f.sp + 1 ∧ pre.length + (x :: s).length < (pre ++ x :: s ++ [h]).length + m.length := ⟨by omega, by simp; omega⟩
    rw [if_neg c4, if_pos c5, hst, hj1]
    simp only [Bool.not_false, Bool.true_and]
    have e9 : ls = (pre ++ x :: s ++ [h]) ++ (m ++ [f]) ++ u := by rw [e6]; simp
    have := allBr_of e9 (fun y hy => by
      rcases List.mem_append.mp hy with z | z
      · exact (hj3 y z).1
      · rw [List.mem_singleton.mp z]; exact hj4)
    rw [List.length_append (as := m), List.length_singleton] at this
    rw [e7]
    exact this
def Just (L : Int) : List (List Ln) → List Ln → Prop
  | [], _ => True
  | s :: S, rest => OkSeg L s ∧ J L s rest ∧ Just L S (s ++ rest)
theorem Just_snoc {L : Int} {l : Ln} : ∀ {S : List (List Ln)} {rest : List Ln}, Just L S rest → Just L S (rest ++ [l])
  | [], _, _ => trivial
  | s :: S, rest, ⟨h1, h2, h3⟩ => ⟨h1, J_snoc l h2, by rw [← List.append_assoc]; exact Just_snoc h3⟩
def VS (L : Int) (S : List (List Ln)) : Prop := match S with
  | [] => True
  | s :: S' => OkSeg L s ∧ Just L S' s
theorem ok_one {L : Int} (hL : 0 < L) (l : Ln) : OkSeg L [l] := ⟨by simp, hL, fun y hy => by cases hy⟩
theorem VS_step {L : Int} (hL : 0 < L) {S : List (List Ln)} {l : Ln} (hn : NN S) (h0 : 0 ≤ l.sp) (hv : VS L S) (hd : S = [] → l.du = true) : VS L (stepS L S l) := by
  unfold stepS
  split
  · rename_i hdu
    cases S with
    | nil => exact ⟨ok_one hL l, trivial⟩
    | cons s S' => exact ⟨ok_one hL l, hv.1, .inl hdu, Just_snoc hv.2⟩
  · rename_i hdu
    have hdu' : l.du = false := by simpa using hdu
    cases S with
    | nil => exact absurd (hd rfl) hdu
    | cons s S' =>
      obtain ⟨⟨v1, v2, v3⟩, v4⟩ := hv
      dsimp only
      have hnn := hn s List.mem_cons_self
      split
      · rename_i hf
        refine ⟨⟨by simp, by rw [lastRow_snoc v1]; exact hf, fun y hy => ?_⟩, Just_snoc v4⟩
        cases s with
        | nil => exact absurd rfl v1
        | cons x s =>
          rcases List.mem_append.mp hy with z | z
          · exact v3 y z
          · rw [List.mem_singleton.mp z]; exact hdu'
      · rename_i hf
        cases hc : (if l.br = true then cut s else none) with
        | none =>
          refine ⟨ok_one hL l, ⟨v1, v2, v3⟩, .inr (.inl ⟨by omega, ?_⟩), Just_snoc v4⟩
          cases hb : l.br with
          | false => exact .inl rfl
          | true =>
            rw [hb, if_pos rfl] at hc
            exact .inr (cut_none hc)
        | some ab =>
          obtain ⟨a, b⟩ := ab
          have hb : l.br = true ∧ cut s = some (a, b) := by
            split at hc
            · rename_i z; exact ⟨z, hc⟩
            · cases hc
          obtain ⟨hb, hc'⟩ := hb
          obtain ⟨e, ha, x, b', eb, hx, hall⟩ := cut_spec hc'
          have hbn : b ≠ [] := by rw [eb]; simp
          have hsub : ∀ y ∈ b, y ∈ s.tail := fun y hy => by
            rw [e]
            cases a with
            | nil => exact absurd rfl ha
            | cons z a => exact List.mem_append_right _ hy
          have hlr : lastRow s = lastRow a + x.sp + 1 + lastRow b := by rw [e, eb]; exact lastRow_append ha x b'
          have hx0 : 0 ≤ x.sp := hnn x (by rw [e, eb]; simp)
          have hb0 : 0 ≤ lastRow b := lastRow_nonneg fun y hy => hnn y (by rw [e]; exact List.mem_append_right _ hy)
          have ha0 : 0 ≤ lastRow a := lastRow_nonneg fun y hy => hnn y (by rw [e]; exact List.mem_append_left _ hy)
          have oka : OkSeg L a := ⟨ha, by omega, fun y hy => v3 y (by
            rw [e]
            cases a with
            | nil => exact absurd rfl ha
            | cons z a => exact List.mem_append_left _ hy)⟩
          have okb : OkSeg L b := ⟨hbn, by omega, fun y hy => v3 y (hsub y (List.mem_of_mem_tail hy))⟩
          have ja : J L a (b ++ [l]) := by
            rw [eb]
            refine .inr (.inr ⟨hx, b', l, [], rfl, fun y hy => ⟨hall y hy, v3 y (hsub y (by rw [eb]; exact List.mem_cons_of_mem _ hy))⟩, hb, hdu', ?_, ?_⟩)
            · have : lastRow b = adv b' := by rw [eb]; rfl
              omega
            · have : lastRow b = adv b' := by rw [eb]; rfl
              omega
          have js : Just L S' (a ++ (b ++ [l])) := by
            rw [← List.append_assoc, ← e]; exact Just_snoc v4
          dsimp only
          split
          · rename_i hf2
            refine ⟨⟨by simp, by rw [lastRow_snoc hbn]; exact hf2, fun y hy => ?_⟩, oka, ja, js⟩
            rw [eb] at hy
            rcases List.mem_append.mp hy with z | z
            · exact okb.2.2 y (by rw [eb]; exact z)
            · rw [List.mem_singleton.mp z]; exact hdu'
          · rename_i hf2
            refine ⟨ok_one hL l, okb, .inr (.inl ⟨by omega, .inr ?_⟩), oka, ja, js⟩
            rw [eb]; exact hall
theorem step_flat (L : Int) (S : List (List Ln)) (l : Ln) : (stepS L S l).reverse.flatten = S.reverse.flatten ++ [l] := by
  unfold stepS
  split
  · simp
  · cases S with
    | nil => simp
    | cons s S' =>
      dsimp only
      split
      · simp
      · cases hc : (if l.br = true then cut s else none) with
        | none => simp
        | some ab =>
          obtain ⟨a, b⟩ := ab
          have hc' : cut s = some (a, b) := by
            split at hc
            · exact hc
            · cases hc
          obtain ⟨e, _, _⟩ := cut_spec hc'
          dsimp only
          split <;> simp [e]
theorem run_ok {L : Int} (hL : 0 < L) : ∀ (ls : List Ln), (∀ l ∈ ls, 0 ≤ l.sp) → (∀ l, ls.head? = some l → l.du = true) → NN (runS L ls) ∧ VS L (runS L ls) ∧ (runS L ls).reverse.flatten = ls := by
  intro ls
  rw [← List.reverse_reverse ls]
  generalize ls.reverse = r
  induction r with
  | nil => intro _ _; exact ⟨(fun _ h => by cases h), trivial, rfl⟩
  | cons l r ih =>
    intro h1 h2
    rw [List.reverse_cons] at h1 h2 ⊢
    obtain ⟨i1, i2, i3⟩ := ih (fun y hy => h1 y (List.mem_append_left _ hy)) (fun y hy => h2 y (by
      rw [List.head?_append, hy]; rfl))
    rw [runS_snoc]
    have h0 : 0 ≤ l.sp := h1 l (by simp)
    refine ⟨NN_step i1 h0, VS_step hL i1 h0 i2 (fun e => ?_), by rw [step_flat, i3]⟩
    rw [e] at i3
    have : r.reverse = [] := i3.symm
    exact h2 l (by rw [this]; rfl)
/-! the rows that are told -/
def startB (R : List Int) : Nat → Nat
  | 0 => 0
  | k + 1 => if (R[k]?).getD 1 = 0 then k else startB R k
structure OkAt (L : Int) (ls : List Ln) (R : List Int) (i : Nat) : Prop where
  lt : (R[i]?).getD 0 < L
  first : (R[i]?).getD 0 = 0 → i = 0 ∨ reasonB L ls (startB R i) i = true
  other : (R[i]?).getD 0 ≠ 0 → i ≠ 0 ∧ (ln ls i).du = false ∧ (R[i]?).getD 0 = (R[i - 1]?).getD 0 + (ln ls i).sp + 1
def FJ (L : Int) : List (List Ln) → Prop
  | [] => True
  | s :: T => OkSeg L s ∧ (T ≠ [] → J L s T.flatten) ∧ FJ L T
theorem FJ_of {L : Int} : ∀ (S T : List (List Ln)), Just L S T.flatten → FJ L T → T ≠ [] → FJ L (S.reverse ++ T)
  | [], T, _, h, _ => h
  | s :: S, T, ⟨h1, h2, h3⟩, h, hne => by
    rw [List.reverse_cons, List.append_assoc]
    exact FJ_of S (s :: T) h3 ⟨h1, fun _ => h2, h⟩ (by simp)
theorem FJ_VS {L : Int} {S : List (List Ln)} (h : VS L S) : FJ L S.reverse := by
  cases S with
  | nil => trivial
  | cons s S' =>
    rw [List.reverse_cons]
    exact FJ_of S' [s] (by simpa using h.2) ⟨h.1, fun q => absurd rfl q, trivial⟩ (by simp)
def rw1 (s : List Ln) : List Int := (pgOf s).map (·.1)
theorem rw1_len (s : List Ln) : (rw1 s).length = s.length := by unfold rw1; rw [List.length_map, pgOf_len]
theorem rw1_at {s a b : List Ln} {x : Ln} (e : s = a ++ x :: b) (h0 : ∀ y ∈ s, 0 ≤ y.sp) : (a = [] → (rw1 s)[0]? = some 0) ∧ (a ≠ [] → (rw1 s)[a.length]? = some (lastRow a + x.sp + 1) ∧ (rw1 s)[a.length - 1]? = some (lastRow a) ∧ 0 < lastRow a + x.sp + 1 ∧ lastRow a + x.sp + 1 ≤ lastRow s) := by
  subst e
  refine ⟨fun h => by subst h; rfl, fun h => ?_⟩
  have e1 : rw1 (a ++ x :: b) = rw1 a ++ (rw1 (x :: b)).map (· + (lastRow a + x.sp + 1)) := by
    unfold rw1
    rw [pgOf_parted h]
    simp [List.map_map, Function.comp_def]
  have hl : 0 < a.length := List.length_pos_iff.mpr h
  refine ⟨?_, ?_, ?_, ?_⟩
  · rw [e1, List.getElem?_append_right (by rw [rw1_len]; exact Nat.le_refl _), rw1_len, Nat.sub_self]
    show some (0 + (lastRow a + x.sp + 1)) = _
    rw [Int.zero_add]
  · rw [e1, List.getElem?_append_left (by rw [rw1_len]; omega)]
    obtain ⟨b', hb'⟩ := pgOf_last h
    rw [List.getLast?_eq_getElem?, pgOf_len] at hb'
    unfold rw1
    rw [List.getElem?_map, hb']
    rfl
  · have := lastRow_nonneg (s := a) fun y hy => h0 y (List.mem_append_left _ hy)
    have := h0 x (by simp)
    omega
  · rw [lastRow_append h]
    have := lastRow_nonneg (s := x :: b) fun y hy => h0 y (List.mem_append_right _ hy)
    omega
theorem startB_seg {R A B : List Int} {s : List Ln} (e : R = A ++ rw1 s ++ B) (h0 : ∀ y ∈ s, 0 ≤ y.sp) : ∀ j, 1 ≤ j → j ≤ s.length → startB R (A.length + j) = A.length
  | 0, h, _ => by omega
  | j + 1, _, hj => by
    show (if (R[A.length + j]?).getD 1 = 0 then A.length + j else startB R (A.length + j)) = A.length
    have hR : R[A.length + j]? = (rw1 s)[j]? := by
      rw [e, List.append_assoc, List.getElem?_append_right (by omega), List.getElem?_append_left (by rw [rw1_len]; omega)]
      congr 1
      omega
    rw [hR]
    by_cases hj0 : j = 0
    · subst hj0
      cases s with
      | nil => simp at hj
      | cons x s => simp [rw1, pgOf]
    · have hlt : j < s.length := by omega
      have e2 : s = s.take j ++ s[j] :: s.drop (j + 1) := by
        rw [List.getElem_cons_drop, List.take_append_drop]
      have hl : (s.take j).length = j := by rw [List.length_take]; omega
      obtain ⟨q1, q2, q3, q4⟩ := (rw1_at e2 h0).2 (fun q => by rw [q] at hl; simp at hl; omega)
      rw [hl] at q1
      rw [q1, if_neg (by simp; omega)]
      exact startB_seg e h0 j (by omega) (by omega)
theorem right_go {L : Int} {ls : List Ln} {R : List Int} (h0 : ∀ y ∈ ls, 0 ≤ y.sp) : ∀ (T : List (List Ln)) (pre : List Ln) (A : List Int), A.length = pre.length → ls = pre ++ T.flatten → R = A ++ (T.map rw1).flatten → FJ L T →
    (T ≠ [] → pre = [] ∨ reasonB L ls (startB R pre.length) pre.length = true) → ∀ i, pre.length ≤ i → i < ls.length → OkAt L ls R i
  | [], pre, A, _, el, _, _, _, i, h1, h2 => by
    rw [el] at h2
    simp at h2
    omega
  | s :: T, pre, A, hA, el, eR, ⟨hs, hj, hT⟩, hp, i, h1, h2 => by
    have el2 : ls = pre ++ s ++ T.flatten := by rw [el]; simp
    have eR2 : R = A ++ rw1 s ++ (T.map rw1).flatten := by rw [eR]; simp
    have hs0 : ∀ y ∈ s, 0 ≤ y.sp := fun y hy => h0 y (by rw [el2]; simp [hy])
    by_cases hi : i < pre.length + s.length
    · obtain ⟨j, rfl⟩ : ∃ j, i = pre.length + j := ⟨i - pre.length, by omega⟩
      have hj' : j < s.length := by omega
      have e2 : s = s.take j ++ s[j] :: s.drop (j + 1) := by
        rw [List.getElem_cons_drop, List.take_append_drop]
      have hl : (s.take j).length = j := by rw [List.length_take]; omega
      have hRj : ∀ k, k < s.length → R[pre.length + k]? = (rw1 s)[k]? := fun k hk => by
        rw [eR2, ← hA, List.append_assoc, List.getElem?_append_right (by omega), List.getElem?_append_left (by rw [rw1_len]; omega)]
        congr 1
        omega
      have hln : ln ls (pre.length + j) = s[j] := by
        unfold ln
        rw [el2, List.append_assoc, List.getElem?_append_right (by omega), List.getElem?_append_left (by omega)]
        have : pre.length + j - pre.length = j := by omega
        rw [this, List.getElem?_eq_getElem hj']
        rfl
      obtain ⟨q0, q1⟩ := rw1_at e2 hs0
      by_cases hj0 : j = 0
      · subst hj0
        have hr : R[pre.length + 0]? = some 0 := (hRj 0 hj').trans (q0 (by simpa using hl))
        have hL0 : (0 : Int) < L := by
          have := lastRow_nonneg hs0
          have := hs.2.1
          omega
        refine ⟨by rw [hr]; exact hL0, fun _ => ?_, fun q => absurd (by rw [hr]; rfl) q⟩
        rcases hp (by simp) with z | z
        · left; rw [z]; rfl
        · right; exact z
      · obtain ⟨q1, q2, q3, q4⟩ := q1 (fun q => by rw [q] at hl; simp at hl; omega)
        rw [hl] at q1 q2
        have hr : R[pre.length + j]? = some (lastRow (s.take j) + s[j].sp + 1) := (hRj j hj').trans q1
        have hr' : R[pre.length + j - 1]? = some (lastRow (s.take j)) := by
          have : pre.length + j - 1 = pre.length + (j - 1) := by omega
          rw [this]
          exact (hRj (j - 1) (by omega)).trans q2
        refine ⟨?_, fun q => ?_, fun _ => ⟨by omega, ?_, ?_⟩⟩
        · rw [hr]
          have := hs.2.1
          simp only [Option.getD_some]
          omega
        · rw [hr] at q
          simp only [Option.getD_some] at q
          omega
        · rw [hln]
          refine hs.2.2 _ ?_
          have : s.tail[j - 1]? = s[j]? := by
            rw [List.getElem?_tail]
            congr 1
            omega
          rw [List.getElem?_eq_getElem hj'] at this
          exact List.mem_of_getElem? this
        · rw [hr, hr', hln]
          rfl
    · refine right_go h0 T (pre ++ s) (A ++ rw1 s) (by rw [List.length_append, List.length_append, hA, rw1_len]) (by rw [el2]) (by rw [eR2]) hT (fun hne => .inr ?_) i (by rw [List.length_append]; omega) h2
      rw [List.length_append]
      have hsl : 1 ≤ s.length := List.length_pos_iff.mpr hs.1
      have := startB_seg eR2 hs0 s.length hsl (Nat.le_refl _)
      rw [hA] at this
      rw [this]
      exact reason_J el2 hs h0 (hj hne)
/-- the first line begins a page, no space is below 0 -/
structure GoodLs (ls : List Ln) : Prop where
  nn : ∀ l ∈ ls, 0 ≤ l.sp
  first : ∀ l, ls.head? = some l → l.du = true
theorem right_ok {L : Int} (hL : 0 < L) {ls : List Ln} (g : GoodLs ls) : (rowsOf (runS L ls)).length = ls.length ∧ ∀ i, i < ls.length → OkAt L ls (rowsOf (runS L ls)) i := by
  obtain ⟨h1, h2, h3⟩ := run_ok hL ls g.nn g.first
  have eR : rowsOf (runS L ls) = ((runS L ls).reverse.map rw1).flatten := by
    unfold rowsOf rw1
    rw [List.map_flatten, List.map_map]
    rfl
  refine ⟨?_, fun i hi => ?_⟩
  · rw [eR]
    conv => rhs; rw [← h3]
    rw [List.length_flatten, List.length_flatten, List.map_map]
    congr 1
    apply List.map_congr_left
    intro s _
    exact rw1_len s
  · exact right_go g.nn (runS L ls).reverse [] [] rfl h3.symm eR (FJ_VS h2) (fun _ => .inl rfl) i (Nat.zero_le _) hi
theorem good_lines (bs : List Bl) (h : ∀ b ∈ bs, 0 ≤ b.s) : GoodLs (linesOf bs).ls ∧ ((linesOf bs).ls = [] → (linesOf bs).du = true) := by
  rw [← List.reverse_reverse bs] at h ⊢
  generalize bs.reverse = r at h
  induction r with
  | nil => exact ⟨⟨(fun _ h => by cases h), (fun _ h => by cases h)⟩, fun _ => rfl⟩
  | cons b r ih =>
    rw [List.reverse_cons] at h ⊢
    obtain ⟨⟨i1, i2⟩, i3⟩ := ih fun y hy => h y (List.mem_append_left _ hy)
    rw [linesOf_snoc]
    have h0 : 0 ≤ b.s := h b (by simp)
    generalize linesOf r.reverse = t at i1 i2 i3
    refine ⟨⟨fun l hl => ?_, fun l hl => ?_⟩, fun e => ?_⟩
    · rcases List.mem_append.mp hl with z | z
      · exact i1 l z
      · unfold blLines at z
        obtain ⟨i, _, hi⟩ := List.mem_map.mp z
        rw [← hi]
        unfold blLn
        split
        · exact h0
        · exact Int.le_refl _
    · have hl : (t.ls ++ blLines b.c b.s t.kp (t.du || b.g) b.c).head? = some l := hl
      rw [List.head?_append] at hl
      cases ht : t.ls with
      | cons x xs =>
        rw [ht] at hl
        exact i2 l (by rw [ht]; exact hl)
      | nil =>
        rw [ht] at hl
        have hl : (blLines b.c b.s t.kp (t.du || b.g) b.c).head? = some l := hl
        unfold blLines at hl
        cases hc : b.c with
        | zero => rw [hc] at hl; cases hl
        | succ n =>
          rw [hc, List.range_succ_eq_map] at hl
          simp only [List.map_cons, List.head?_cons, Option.some.injEq] at hl
          rw [← hl, i3 ht]
          rfl
    · have e : t.ls ++ blLines b.c b.s t.kp (t.du || b.g) b.c = [] := e
      obtain ⟨e1, e2⟩ := List.append_eq_nil_iff.mp e
      have hc : b.c = 0 := by
        unfold blLines at e2
        simpa using e2
      show (if b.c = 0 then (t.du || b.g) else false) = true
      rw [if_pos hc, i3 e1]
      rfl
end Pa
namespace Pa
/-! ### the law's own pages -/
def lastFree (ls : List Ln) (lo hi d : Nat) : Nat := (((List.range' lo (hi - lo)).filter fun k => !(ln ls k).br).getLast?).getD d
def lcGo (L : Int) (ls : List Ln) (start : Nat) : Nat → Nat → Int → Nat
  | 0, _, _ => ls.length
  | n + 1, i, row =>
    let r := row + (ln ls i).sp + 1
    if (ln ls i).du = true then i else if L ≤ r then lastFree ls (start + 1) (i + 1) i else lcGo L ls start n (i + 1) r
def lawCut (L : Int) (ls : List Ln) (start : Nat) : Nat := lcGo L ls start (ls.length - (start + 1)) (start + 1) 0
theorem lc_run {L : Int} {ls : List Ln} {start : Nat} : ∀ (xs p q : List Ln) (n : Nat) (row : Int), ls = p ++ xs ++ q → (∀ y ∈ xs, 0 ≤ y.sp) → row + adv xs < L → (∀ y ∈ xs, y.du = false) →
    lcGo L ls start (xs.length + n) p.length row = lcGo L ls start n (p.length + xs.length) (row + adv xs)
  | [], p, q, n, row, _, _, _, _ => by simp [adv]
  | x :: xs, p, q, n, row, e, h0, hf, hd => by
    have e1 : ls = p ++ x :: (xs ++ q) := by rw [e]; simp
    have hx : ln ls p.length = x := by rw [e1]; exact ln_at _ _ _
    have hn := adv_nonneg (a := xs) fun y hy => h0 y (List.mem_cons_of_mem _ hy)
    rw [adv] at hf
    have e2 : (x :: xs).length + n = (xs.length + n) + 1 := by rw [List.length_cons]; omega
    rw [e2, lcGo]
    simp only [hx]
    have c1 : ¬ (x.du = true) := by rw [hd x List.mem_cons_self]; decide
    have c3 : ¬ (L ≤ row + x.sp + 1) := by omega
    rw [if_neg c1, if_neg c3]
    have ih := lc_run (L := L) (ls := ls) (start := start) xs (p ++ [x]) q n (row + x.sp + 1) (by rw [e]; simp) (fun y hy => h0 y (List.mem_cons_of_mem _ hy)) (by omega) (fun y hy => hd y (List.mem_cons_of_mem _ hy))
    rw [List.length_append, List.length_singleton] at ih
    rw [ih, adv, List.length_cons]
    congr 1 <;> omega
/-- none free among these -/
theorem lastFree_none {ls p a q : List Ln} {d : Nat} (e : ls = p ++ a ++ q) (h : ∀ y ∈ a, y.br = true) : lastFree ls p.length (p.length + a.length) d = d := by
  unfold lastFree
  have : ((List.range' p.length (p.length + a.length - p.length)).filter fun k => !(ln ls k).br) = [] := by
    rw [List.filter_eq_nil_iff]
    intro k hk
    rw [List.mem_range'_1] at hk
    have h1 : k - p.length < a.length := by omega
    have e2 : ls[k]? = some a[k - p.length] := by
      rw [e, List.append_assoc, List.getElem?_append_right (by omega), List.getElem?_append_left h1, List.getElem?_eq_getElem h1]
    unfold ln
    rw [e2]
    have := h _ (List.getElem_mem h1)
    simp [this]
  rw [this]
  rfl
/-- the last free one: x, all behind it barred -/
theorem lastFree_some {ls p a b q : List Ln} {x : Ln} {d : Nat} (e : ls = p ++ a ++ (x :: b) ++ q) (hx : x.br = false) (h : ∀ y ∈ b, y.br = true) :
    lastFree ls p.length (p.length + a.length + (b.length + 1)) d = p.length + a.length := by
  unfold lastFree
  have e1 : p.length + a.length + (b.length + 1) - p.length = (a.length + 1) + b.length := by omega
  rw [e1, ← List.range'_append_1, List.filter_append]
  have hb : ((List.range' (p.length + (a.length + 1)) b.length).filter fun k => !(ln ls k).br) = [] := by
    rw [List.filter_eq_nil_iff]
    intro k hk
    rw [List.mem_range'_1] at hk
    have h1 : k - (p.length + (a.length + 1)) < b.length := by omega
    have e2 : ls[k]? = some b[k - (p.length + (a.length + 1))] := by
      have e3 : ls = (p ++ a ++ [x]) ++ b ++ q := by rw [e]; simp
      have el : (p ++ a ++ [x]).length = p.length + (a.length + 1) := by simp [Nat.add_assoc]
      rw [e3, List.append_assoc, List.getElem?_append_right (by omega), el, List.getElem?_append_left h1, List.getElem?_eq_getElem h1]
    unfold ln
    rw [e2]
    have := h _ (List.getElem_mem h1)
    simp [this]
  rw [hb, List.append_nil, List.range'_concat, List.filter_append]
  have hx2 : ln ls (p.length + a.length) = x := by
    have e3 : ls = (p ++ a) ++ x :: (b ++ q) := by rw [e]; simp
    have el : (p ++ a).length = p.length + a.length := by simp
    rw [← el, e3]
    exact ln_at _ _ _
  have : ([p.length + 1 * a.length].filter fun k => !(ln ls k).br) = [p.length + a.length] := by
    rw [Nat.one_mul, List.filter_cons, hx2, hx]
    rfl
  rw [this, List.getLast?_append]
  rfl
theorem cut_J {L : Int} {ls pre s rest : List Ln} (e : ls = pre ++ s ++ rest) (hs : OkSeg L s) (h0 : ∀ y ∈ ls, 0 ≤ y.sp) (hj : rest ≠ [] → J L s rest) : lawCut L ls pre.length = pre.length + s.length := by
  obtain ⟨hne, hlt, hdu⟩ := hs
  cases s with
  | nil => exact absurd rfl hne
  | cons x s =>
  have hs0 : ∀ y ∈ s, 0 ≤ y.sp := fun y hy => h0 y (by rw [e]; simp [hy])
  have hlt' : adv s < L := hlt
  have lp : pre.length + 1 = (pre ++ [x]).length := by simp
  unfold lawCut
  cases rest with
  | nil =>
    have hl : ls.length - (pre.length + 1) = s.length + 0 := by rw [e]; simp; omega
    have e1 : ls = (pre ++ [x]) ++ s ++ [] := by rw [e]; simp
    rw [hl, lp, lc_run s (pre ++ [x]) [] 0 0 e1 hs0 (by omega) hdu, lcGo, e]
    simp
  | cons h t =>
  have hst : ln ls (pre.length + (x :: s).length) = h := by
    rw [e, ← List.length_append]; exact ln_at _ _ _
  have hl : ls.length - (pre.length + 1) = s.length + (t.length + 1) := by rw [e]; simp; omega
  have e1 : ls = (pre ++ [x]) ++ s ++ (h :: t) := by rw [e]; simp
  have e3 : (pre ++ [x]).length + s.length = pre.length + (x :: s).length := by simp; omega
  rw [hl, lp, lc_run s (pre ++ [x]) (h :: t) (t.length + 1) 0 e1 hs0 (by omega) hdu, e3, lcGo]
  simp only [hst]
  by_cases hd : h.du = true
  · rw [if_pos hd]
  rw [if_neg hd]
  rcases hj (by simp) with hj | ⟨hj1, hj2⟩ | ⟨hj1, m, f, u, hj2, hj3, hj4, hj5, hj6, hj7⟩
  · exact absurd hj hd
  · have hj1 : L ≤ adv s + h.sp + 1 := hj1
    rw [if_pos (by omega)]
    have e4 : pre.length + (x :: s).length + 1 = (pre ++ [x]).length + (s.length + 1) := by simp; omega
    cases hb : h.br with
    | false =>
      have e5 : ls = (pre ++ [x]) ++ s ++ (h :: []) ++ t := by rw [e]; simp
      have := lastFree_some (d := pre.length + (x :: s).length) e5 hb (fun y hy => by cases hy)
      have e6 : pre.length + (x :: s).length + 1 = (pre ++ [x]).length + s.length + (([] : List Ln).length + 1) := by simp; omega
      rw [e6, lp, this, e3]
    | true =>
      have hall : ∀ y ∈ s, y.br = true := by
        rcases hj2 with hj2 | hj2
        · rw [hb] at hj2; cases hj2
        · exact hj2
      have e5 : ls = (pre ++ [x]) ++ (s ++ [h]) ++ t := by rw [e]; simp
      have := lastFree_none (d := pre.length + (x :: s).length) e5 (fun y hy => by
        rcases List.mem_append.mp hy with z | z
        · exact hall y z
        · rw [List.mem_singleton.mp z]; exact hb)
      rw [List.length_append (as := s), List.length_singleton] at this
      rw [e4, lp, this]
  · have hj6 : adv s + h.sp + 1 + adv m < L := hj6
    have hj7 : L ≤ adv s + h.sp + 1 + adv m + f.sp + 1 := hj7
    have hm0 : ∀ y ∈ m, 0 ≤ y.sp := fun y hy => h0 y (by rw [e, hj2]; simp [hy])
    have hmn := adv_nonneg hm0
    rw [if_neg (by omega)]
    have e6 : ls = (pre ++ x :: s ++ [h]) ++ m ++ (f :: u) := by rw [e, hj2]; simp
    have e7 : pre.length + (x :: s).length + 1 = (pre ++ x :: s ++ [h]).length := by simp; omega
    have e8 : t.length = m.length + (u.length + 1) := by rw [hj2]; simp
    rw [e7, e8, lc_run m _ (f :: u) (u.length + 1) _ e6 hm0 (by omega) (fun y hy => (hj3 y hy).2)]
    have hf : ln ls ((pre ++ x :: s ++ [h]).length + m.length) = f := by
      rw [← List.length_append, e6]; exact ln_at _ _ _
    rw [lcGo]
    simp only [hf]
    rw [if_neg (by rw [hj5]; decide), if_pos (by omega)]
    have e9 : ls = (pre ++ [x]) ++ s ++ (h :: (m ++ [f])) ++ u := by rw [e6]; simp
    have := lastFree_some (d := (pre ++ x :: s ++ [h]).length + m.length) e9 hj1 (fun y hy => by
      rcases List.mem_append.mp hy with z | z
      · exact (hj3 y z).1
      · rw [List.mem_singleton.mp z]; exact hj4)
    have e10 : (pre ++ x :: s ++ [h]).length + m.length + 1 = (pre ++ [x]).length + s.length + ((m ++ [f]).length + 1) := by simp; omega
    rw [lp, e10, this, e3]
/-- the next page's first line, from a line on -/
def segEnd : List (List Ln) → Nat → Nat
  | [], _ => 0
  | s :: T, i => if i = 0 then 0 else if i ≤ s.length then s.length else s.length + segEnd T (i - s.length)
theorem segEnd_zero (T : List (List Ln)) : segEnd T 0 = 0 := by cases T <;> rfl
theorem segEnd_big {s : List Ln} {T : List (List Ln)} {i : Nat} (h : s.length ≤ i) (hs : s ≠ []) : segEnd (s :: T) i = s.length + segEnd T (i - s.length) := by
  have hl : 1 ≤ s.length := List.length_pos_iff.mpr hs
  show (if i = 0 then 0 else if i ≤ s.length then s.length else s.length + segEnd T (i - s.length)) = _
  rw [if_neg (by omega)]
  by_cases h2 : i ≤ s.length
  · have : i - s.length = 0 := by omega
    rw [if_pos h2, this, segEnd_zero]
    rfl
  · rw [if_neg h2]
theorem segEnd_mid {s : List Ln} {T : List (List Ln)} {i : Nat} (h0 : i ≠ 0) (h : i ≤ s.length) : segEnd (s :: T) i = s.length := by
  show (if i = 0 then 0 else if i ≤ s.length then s.length else s.length + segEnd T (i - s.length)) = _
  rw [if_neg h0, if_pos h]
def PgAt1 (L : Int) (ls : List Ln) (R : List Int) (E : Nat → Nat) (i : Nat) : Prop :=
  (E i = i ∧ R[i]? = some 0 ∧ lawCut L ls i = E (i + 1)) ∨ (E i ≠ i ∧ i ≠ 0 ∧ E (i + 1) = E i ∧ ∃ r, R[i - 1]? = some r ∧ R[i]? = some (r + (ln ls i).sp + 1) ∧ r + (ln ls i).sp + 1 ≠ 0)
theorem pages_go {L : Int} {ls : List Ln} {R : List Int} (h0 : ∀ y ∈ ls, 0 ≤ y.sp) : ∀ (T : List (List Ln)) (pre : List Ln) (A : List Int), A.length = pre.length → ls = pre ++ T.flatten → R = A ++ (T.map rw1).flatten → FJ L T →
    ∀ j, j < T.flatten.length → PgAt1 L ls R (fun i => pre.length + segEnd T (i - pre.length)) (pre.length + j)
  | [], _, _, _, _, _, _, j, h => by simp at h
  | s :: T, pre, A, hA, el, eR, ⟨hs, hj, hT⟩, j, h1 => by
    have el2 : ls = pre ++ s ++ T.flatten := by rw [el]; simp
    have eR2 : R = A ++ rw1 s ++ (T.map rw1).flatten := by rw [eR]; simp
    have hs0 : ∀ y ∈ s, 0 ≤ y.sp := fun y hy => h0 y (by rw [el2]; simp [hy])
    have hsl : 1 ≤ s.length := List.length_pos_iff.mpr hs.1
    have ej : pre.length + j - pre.length = j := by omega
    have ej1 : pre.length + j + 1 - pre.length = j + 1 := by omega
    by_cases hi : j < s.length
    · have e2 : s = s.take j ++ s[j] :: s.drop (j + 1) := by
        rw [List.getElem_cons_drop, List.take_append_drop]
      have hl : (s.take j).length = j := by rw [List.length_take]; omega
      have hRj : ∀ k, k < s.length → R[pre.length + k]? = (rw1 s)[k]? := fun k hk => by
        rw [eR2, ← hA, List.append_assoc, List.getElem?_append_right (by omega), List.getElem?_append_left (by rw [rw1_len]; omega)]
        congr 1
        omega
      have hln : ln ls (pre.length + j) = s[j] := by
        unfold ln
        rw [el2, List.append_assoc, List.getElem?_append_right (by omega), List.getElem?_append_left (by omega), ej, List.getElem?_eq_getElem hi]
        rfl
      obtain ⟨q0, q1⟩ := rw1_at e2 hs0
      by_cases hj0 : j = 0
      · subst hj0
        refine .inl ⟨?_, (hRj 0 hi).trans (q0 (by simpa using hl)), ?_⟩
        · show pre.length + segEnd (s :: T) (pre.length + 0 - pre.length) = _
          rw [ej, segEnd_zero]
        · show lawCut L ls (pre.length + 0) = pre.length + segEnd (s :: T) (pre.length + 0 + 1 - pre.length)
          rw [ej1, segEnd_mid (by omega) (by omega), Nat.add_zero]
          exact cut_J el2 hs h0 fun hne => hj fun q => hne (by rw [q]; rfl)
      · obtain ⟨q1, q2, q3, q4⟩ := q1 (fun q => by rw [q] at hl; simp at hl; omega)
        rw [hl] at q1 q2
        refine .inr ⟨?_, by omega, ?_, lastRow (s.take j), ?_, ?_, ?_⟩
        · show ¬ pre.length + segEnd (s :: T) (pre.length + j - pre.length) = pre.length + j
          rw [ej, segEnd_mid hj0 (by omega)]
          omega
        · show pre.length + segEnd (s :: T) (pre.length + j + 1 - pre.length) = pre.length + segEnd (s :: T) (pre.length + j - pre.length)
          rw [ej, ej1, segEnd_mid hj0 (by omega), segEnd_mid (by omega) (by omega)]
        · have : pre.length + j - 1 = pre.length + (j - 1) := by omega
          rw [this]
          exact (hRj (j - 1) (by omega)).trans q2
        · rw [hln]; exact (hRj j hi).trans q1
        · rw [hln]; omega
    · have ih := pages_go (L := L) (ls := ls) (R := R) h0 T (pre ++ s) (A ++ rw1 s) (by rw [List.length_append, List.length_append, hA, rw1_len]) (by rw [el2]) (by rw [eR2]) hT (j - s.length) (by
        have : (s :: T).flatten.length = s.length + T.flatten.length := by simp
        omega)
      have e3 : (pre ++ s).length + (j - s.length) = pre.length + j := by rw [List.length_append]; omega
      rw [e3] at ih
      have eE : ∀ i, pre.length + j ≤ i → pre.length + segEnd (s :: T) (i - pre.length) = (pre ++ s).length + segEnd T (i - (pre ++ s).length) := fun i hi2 => by
        rw [segEnd_big (by omega) hs.1, List.length_append]
        have : i - pre.length - s.length = i - (pre.length + s.length) := by omega
        rw [this]
        omega
      unfold PgAt1 at ih ⊢
      simp only [eE _ (Nat.le_refl _), eE _ (Nat.le_succ _)]
      exact ih
theorem law_pages {L : Int} (hL : 0 < L) {ls : List Ln} (g : GoodLs ls) : ∃ E : Nat → Nat, E 0 = 0 ∧ ∀ i, i < ls.length → PgAt1 L ls (rowsOf (runS L ls)) E i := by
  obtain ⟨h1, h2, h3⟩ := run_ok hL ls g.nn g.first
  have eR : rowsOf (runS L ls) = ((runS L ls).reverse.map rw1).flatten := by
    unfold rowsOf rw1
    rw [List.map_flatten, List.map_map]
    rfl
  refine ⟨fun i => segEnd (runS L ls).reverse i, segEnd_zero _, fun i hi => ?_⟩
  have := pages_go g.nn (runS L ls).reverse [] [] rfl h3.symm eR (FJ_VS h2) i (by rw [h3]; exact hi)
  simpa using this
end Pa
namespace Pa
/-! ### the last page -/
def freeL (ls : List Ln) (lo hi : Nat) : List Nat := (List.range' lo (hi - lo)).filter fun k => !(ln ls k).br
theorem lastFree_eq (ls : List Ln) (lo hi d : Nat) : lastFree ls lo hi d = ((freeL ls lo hi).getLast?).getD d := rfl
theorem freeL_none {ls p a q : List Ln} (e : ls = p ++ a ++ q) (h : ∀ y ∈ a, y.br = true) : freeL ls p.length (p.length + a.length) = [] := by
  unfold freeL
  rw [List.filter_eq_nil_iff]
  intro k hk
  rw [List.mem_range'_1] at hk
  have h1 : k - p.length < a.length := by omega
  have e2 : ls[k]? = some a[k - p.length] := by
    rw [e, List.append_assoc, List.getElem?_append_right (by omega), List.getElem?_append_left h1, List.getElem?_eq_getElem h1]
  unfold ln
  rw [e2]
  have := h _ (List.getElem_mem h1)
  simp [this]
theorem freeL_some {ls p a b q : List Ln} {x : Ln} (e : ls = p ++ a ++ (x :: b) ++ q) (hx : x.br = false) (h : ∀ y ∈ b, y.br = true) :
    (freeL ls p.length (p.length + a.length + (b.length + 1))).getLast? = some (p.length + a.length) := by
  have h1 := lastFree_some (d := 0) e hx h
  have h2 := lastFree_some (d := 1) e hx h
  rw [lastFree_eq] at h1 h2
  cases hc : (freeL ls p.length (p.length + a.length + (b.length + 1))).getLast? with
  | none =>
    rw [hc] at h1 h2
    simp only [Option.getD_none] at h1 h2
    omega
  | some z =>
    rw [hc] at h1
    simp only [Option.getD_some] at h1
    rw [h1]
structure LastPg (ls : List Ln) (R : List Int) (seg : List Ln) (f : Nat) : Prop where
  lt : f < ls.length
  len : R.length = ls.length
  zero : R[f]? = some 0
  pos : ∀ k, f < k → R[k]? ≠ some 0
  last : R[ls.length - 1]? = some (lastRow seg)
  none : cut seg = none → freeL ls (f + 1) ls.length = []
  some : ∀ a b, cut seg = some (a, b) → (freeL ls (f + 1) ls.length).getLast? = some (f + a.length) ∧ R[f + a.length]? = some (lastRow seg - lastRow b) ∧ 0 ≤ lastRow b ∧ f + a.length + b.length = ls.length ∧ 1 ≤ a.length ∧ 1 ≤ b.length ∧
    (∀ k, f + a.length ≤ k → ∀ r, R[k]? = some r → lastRow seg - lastRow b ≤ r) ∧ ∃ r, R[f + a.length - 1]? = some r ∧ r < lastRow seg - lastRow b
theorem last_pg {L : Int} {ls : List Ln} (hL : 0 < L) (g : GoodLs ls) {seg : List Ln} {S' : List (List Ln)} (hS : runS L ls = seg :: S') (hne : seg ≠ []) : LastPg ls (rowsOf (runS L ls)) seg S'.reverse.flatten.length := by
  obtain ⟨nn, vs, fl⟩ := run_ok hL ls g.nn g.first
  have hlen := (right_ok hL g).1
  rw [hS] at fl nn ⊢
  rw [hS] at hlen
  rw [List.reverse_cons, List.flatten_append, List.flatten_singleton] at fl
  have hn : ∀ l ∈ seg, 0 ≤ l.sp := nn seg List.mem_cons_self
  have hsl : 1 ≤ seg.length := List.length_pos_iff.mpr hne
  have ell : ls.length = S'.reverse.flatten.length + seg.length := by rw [← fl, List.length_append]
  have eR : rowsOf (seg :: S') = rowsOf S' ++ rw1 seg := rowsOf_cons seg S'
  have hlr : (rowsOf S').length = S'.reverse.flatten.length := by
    have h1 := congrArg List.length eR
    rw [List.length_append, rw1_len, hlen] at h1
    omega
  have hRj : ∀ k, (rowsOf (seg :: S'))[S'.reverse.flatten.length + k]? = (rw1 seg)[k]? := fun k => by
    rw [eR, ← hlr, List.getElem?_append_right (by omega)]
    congr 1
    omega
  have parts : ∀ j, j < seg.length → (j = 0 → (rw1 seg)[j]? = some 0) ∧ (j ≠ 0 → ∃ r, (rw1 seg)[j]? = some r ∧ 0 < r) := fun j hj => by
    have e2 : seg = seg.take j ++ seg[j] :: seg.drop (j + 1) := by rw [List.getElem_cons_drop, List.take_append_drop]
    have hl : (seg.take j).length = j := by rw [List.length_take]; omega
    obtain ⟨q0, q1⟩ := rw1_at e2 hn
    refine ⟨fun h => ?_, fun h => ?_⟩
    · subst h
      exact q0 (by simpa using hl)
    · obtain ⟨u1, _, u3, _⟩ := q1 (fun q => by rw [q] at hl; simp at hl; omega)
      rw [hl] at u1
      exact ⟨_, u1, u3⟩
  refine ⟨by omega, hlen, ?_, fun k hk => ?_, ?_, fun hc => ?_, fun a b hc => ?_⟩
  · have := hRj 0
    rw [Nat.add_zero] at this
    rw [this]
    exact (parts 0 hsl).1 rfl
  · obtain ⟨j, rfl⟩ : ∃ j, k = S'.reverse.flatten.length + j := ⟨k - S'.reverse.flatten.length, by omega⟩
    rw [hRj]
    by_cases hj : j < seg.length
    · obtain ⟨r, h1, h2⟩ := (parts j hj).2 (by omega)
      rw [h1]
      intro q
      cases q
      omega
    · rw [List.getElem?_eq_none (by rw [rw1_len]; omega)]
      intro q
      cases q
  · obtain ⟨b, hb⟩ := pgOf_last hne
    rw [List.getLast?_eq_getElem?, pgOf_len] at hb
    have : ls.length - 1 = S'.reverse.flatten.length + (seg.length - 1) := by omega
    rw [this, hRj]
    unfold rw1
    rw [List.getElem?_map, hb]
    rfl
  · cases seg with
    | nil => exact absurd rfl hne
    | cons x s =>
      have e1 : ls = (S'.reverse.flatten ++ [x]) ++ s ++ [] := by rw [← fl]; simp
      have := freeL_none e1 (cut_none hc)
      rw [List.length_append, List.length_singleton] at this
      rw [ell, List.length_cons]
      have e2 : S'.reverse.flatten.length + (s.length + 1) = S'.reverse.flatten.length + 1 + s.length := by omega
      rw [e2]
      exact this
  · obtain ⟨e, ha, x, b', eb, hx, hall⟩ := cut_spec hc
    have hb0 : 0 ≤ lastRow b := lastRow_nonneg fun y hy => hn y (by rw [e]; exact List.mem_append_right _ hy)
    have hbl : 1 ≤ b.length := by rw [eb]; simp
    have hal : 1 ≤ a.length := List.length_pos_iff.mpr ha
    have esl : seg.length = a.length + b.length := by rw [e, List.length_append]
    have hlr2 : lastRow seg = lastRow a + x.sp + 1 + lastRow b := by rw [e, eb]; exact lastRow_append ha x b'
    have hx0 : 0 ≤ x.sp := hn x (by rw [e, eb]; simp)
    have erw : rw1 seg = rw1 a ++ (rw1 b).map (· + (lastRow a + x.sp + 1)) := by
      rw [e, eb]
      unfold rw1
      rw [pgOf_parted ha]
      simp [List.map_map, Function.comp_def]
    have hRb : ∀ k, (rowsOf (seg :: S'))[S'.reverse.flatten.length + a.length + k]? = ((rw1 b)[k]?).map (· + (lastRow a + x.sp + 1)) := fun k => by
      rw [Nat.add_assoc, hRj, erw, List.getElem?_append_right (by rw [rw1_len]; omega), rw1_len, List.getElem?_map]
      congr 2
      omega
    have hbn : ∀ l ∈ b, 0 ≤ l.sp := fun y hy => hn y (by rw [e]; exact List.mem_append_right _ hy)
    refine ⟨?_, ?_, hb0, by omega, hal, hbl, fun k hk r hr => ?_, ?_⟩
    · cases a with
      | nil => exact absurd rfl ha
      | cons y a =>
        have e1 : ls = (S'.reverse.flatten ++ [y]) ++ a ++ (x :: b') ++ [] := by rw [← fl, e, eb]; simp
        have := freeL_some e1 hx hall
        rw [List.length_append, List.length_singleton] at this
        have e2 : ls.length = S'.reverse.flatten.length + 1 + a.length + (b'.length + 1) := by rw [e1]; simp; omega
        rw [e2, this, List.length_cons]
        congr 1
        omega
    · have := hRb 0
      rw [Nat.add_zero] at this
      rw [this, eb]
      show Option.some (0 + (lastRow a + x.sp + 1)) = _
      rw [← eb]
      congr 1
      omega
    · obtain ⟨j, rfl⟩ : ∃ j, k = S'.reverse.flatten.length + a.length + j := ⟨k - (S'.reverse.flatten.length + a.length), by omega⟩
      rw [hRb] at hr
      obtain ⟨z, hz, rfl⟩ := Option.map_eq_some_iff.mp hr
      have hj : j < b.length := by
        have := (List.getElem?_eq_some_iff.mp hz).1
        rw [rw1_len] at this
        exact this
      have e2 : b = b.take j ++ b[j] :: b.drop (j + 1) := by rw [List.getElem_cons_drop, List.take_append_drop]
      have hl : (b.take j).length = j := by rw [List.length_take]; omega
      obtain ⟨q0, q1⟩ := rw1_at e2 hbn
      by_cases h : j = 0
      · subst h
        rw [q0 (by simpa using hl)] at hz
        cases hz
        omega
      · obtain ⟨u1, _, u3, _⟩ := q1 (fun q => by rw [q] at hl; simp at hl; omega)
        rw [hl, hz] at u1
        cases u1
        omega
    · have : S'.reverse.flatten.length + a.length - 1 = S'.reverse.flatten.length + (a.length - 1) := by omega
      rw [this, hRj, erw, List.getElem?_append_left (by rw [rw1_len]; omega)]
      obtain ⟨bb, hbb⟩ := pgOf_last ha
      rw [List.getLast?_eq_getElem?, pgOf_len] at hbb
      refine ⟨lastRow a, ?_, by omega⟩
      unfold rw1
      rw [List.getElem?_map, hbb]
      rfl
/-! ### the standing, just so -/
def Excl (L : Int) (t : LS) (q : SB) : Prop := t.du = false → q.h ≠ 0 → ∀ seg S', runS L t.ls = seg :: S' → ¬ (lastRow seg + 1 = L ∧ (t.kp = false ∨ cut seg = none))
theorem excl_step {L : Int} (hL : 0 < L) {t : LS} {q : SB} (R : Rel L t q) (X : Excl L t q) {b : Bl} (h0 : 0 ≤ b.s) : Excl L (stepB t b) (blockP L q b) := by
  unfold blockP stepB Excl
  by_cases hc : b.c = 0
  · have e : blLines b.c b.s t.kp (t.du || b.g) b.c = [] := by rw [hc]; rfl
    rw [e]
    simp only [hc, if_true, List.append_nil]
    unfold due0
    cases hg : b.g with
    | true =>
      simp only [if_true, Bool.or_true]
      intro h
      cases h
    | false =>
      simp only [Bool.false_eq_true, if_false, Bool.or_false]
      exact X
  · simp only [hc, if_false]
    obtain ⟨n, hn⟩ : ∃ n, b.c = n + 1 := ⟨b.c - 1, by omega⟩
    have key := lines_ok hL R h0 b.g b.c n
    rw [← hn] at key
    obtain ⟨nn, ex⟩ := key
    revert ex
    generalize runP L b.c b.s (due0 q b.g).kd ⟨(due0 q b.g).h, (due0 q b.g).t, (due0 q b.g).lo, (due0 q b.g).rows⟩ b.c = p
    intro ex _ hh seg S' hS
    obtain ⟨seg2, S2, hS2, hne, h1, h2, h3, h4⟩ := ex
    rw [hS] at hS2
    cases hS2
    unfold endP at hh
    split at hh
    · exact absurd rfl hh
    · rename_i hx
      rintro ⟨z1, z2⟩
      refine hx ⟨by omega, ?_⟩
      rcases z2 with z2 | z2
      · exact .inl z2
      · right
        rw [h2]
        unfold tailOf
        rw [z2]
theorem pageOf_excl {L : Int} (hL : 0 < L) (bs : List Bl) (h : ∀ b ∈ bs, 0 ≤ b.s) : Excl L (linesOf bs) (pageOf L bs) := by
  rw [← List.reverse_reverse bs] at h ⊢
  generalize bs.reverse = r at h
  induction r with
  | nil => intro h; cases h
  | cons b r ih =>
    rw [List.reverse_cons] at h ⊢
    rw [linesOf_snoc, pageOf_snoc]
    exact excl_step hL (pageOf_rel hL _ fun y hy => h y (List.mem_append_left _ hy)) (ih fun y hy => h y (List.mem_append_left _ hy)) (h b (by simp))
/-! ### what is settled stays -/
def preS (rows : List Int) (lo : Int) : List Int := rows.take (rows.length - lo.toNat)
theorem pre_line {L : Int} {p : PS'} {s : Int} {b : Bool} (h0 : 0 ≤ s) (hlo : 0 ≤ p.lo) (hle : p.lo ≤ (p.rows.length : Int)) : (preS (lineP L p s b).rows (lineP L p s b).lo).take (preS p.rows p.lo).length = preS p.rows p.lo := by
  have hn : (lineP L p s b).lo ≤ p.lo + 1 := by
    unfold lineP nextLine lng
    dsimp only
    repeat' split
    all_goals (try (dsimp only at *))
    all_goals (try omega)
  have e1 : (lineP L p s b).rows.take (p.rows.length - p.lo.toNat) = p.rows.take (p.rows.length - p.lo.toNat) := by
    unfold lineP
    dsimp only
    split
    · unfold overR
      rw [List.append_assoc, List.take_append_of_le_length (by rw [List.length_take]; omega), List.take_take]
      congr 1
      omega
    · rw [List.take_append_of_le_length (by omega)]
  have e2 : (lineP L p s b).rows.length = p.rows.length + 1 := by
    unfold lineP
    dsimp only
    rw [List.length_append, List.length_singleton]
    split
    · unfold overR
      rw [List.length_append, List.length_map, List.length_take, List.length_drop]
      omega
    · rfl
  unfold preS
  rw [List.take_take, e2, List.length_take]
  have e3 : min (min (p.rows.length - p.lo.toNat) p.rows.length) (p.rows.length + 1 - (lineP L p s b).lo.toNat) = p.rows.length - p.lo.toNat := by omega
  rw [e3, e1]
end Pa
set_option maxRecDepth 100000
set_option maxHeartbeats 4000000
namespace Pa
open PySem PySem.Spec PyProof.Rows L2
/-! ### calls of defs, by one fact each -/
/-- the module's name x holds a def that keeps the promise sp -/
structure CallOk (P : Program) (w : World) (K : PySem.W.Frag) (mg : Str → Option Value) (base : Heap) (k : Nat) (x : Str) (ps : List Str) (sp : Sp) : Prop where
  ok : ∃ (f : Addr) (fd : FuncData), mg x = some (.ref f) ∧ PySem.W.keepIn K (.ref f) = true ∧ Binds K fd ps [] ∧ FnOk P w K mg base CX0 k f fd ps sp
theorem CallOk.imp {P : Program} {w : World} {K : PySem.W.Frag} {mg : Str → Option Value} {base : Heap} {k : Nat} {x : Str} {ps : List Str} {sp sp' : Sp} (C : CallOk P w K mg base k x ps sp) (h : ∀ vs H Q E, sp' vs H Q E → sp vs H Q E) : CallOk P w K mg base k x ps sp' := by
  obtain ⟨f, fd, h1, h2, h3, h4⟩ := C.ok
  exact ⟨f, fd, h1, h2, h3, h4.imp h⟩
theorem call_ok {P : Program} {w : World} {K : PySem.W.Frag} {mg : Str → Option Value} {base : Heap} {k : Nat} {x : Str} {ps : List Str} {sp : Sp} {f : Addr} {fd : FuncData} (m : mg x = some (.ref f)) (kp : PySem.W.keepIn K (.ref f) = true) (b : Binds K fd ps []) (F : FnOk P w K mg base CX0 k f fd ps sp) :
    CallOk P w K mg base k x ps sp := ⟨f, fd, m, kp, b, F⟩
section
variable {X : Cx} {k : Nat} {ps : List Str} {sp : Sp} {x : Str} {p pos : Pos} {e : Expr} {es : List Expr} {t : TA}
theorem pe_cc (C : CallOk X.prog X.w X.K X.mg X.base k x ps sp) (hr : Room k X.A) (hg : Gl X x) (ha : PA X (e :: es) t) (hdb : (x == ("__debug__" : Str)) = false := by decide)
    (he : starEach (e :: es) X.env = (false, eval e X.env) :: starEach es X.env := by rfl) (hpl : (backTo pos (starEach es X.env)).any (·.1) = false := by rfl) : PE X (.Call (.Name x p) (e :: es) [] pos) (tCall sp [] E0 t) := by
  obtain ⟨f, fd, h1, h2, h3, h4⟩ := C.ok
  exact pe_call h4 hr hg h1 h2 h3 .nil pass0 ha hdb he hpl
theorem pe_cc0 (C : CallOk X.prog X.w X.K X.mg X.base k x ps sp) (hr : Room k X.A) (hg : Gl X x) (hdb : (x == ("__debug__" : Str)) = false := by decide) : PE X (.Call (.Name x p) [] [] pos) (tCall sp [] E0 tNil) := by
  obtain ⟨f, fd, h1, h2, h3, h4⟩ := C.ok
  exact pe_call0 h4 hr hg h1 h2 h3 .nil pass0 hdb
end
def topS (i : Nat) : Stmt := PySem.Challenge.pw_pressalike_k27_blocks_on_pages.main.body.getD i (.Pass ⟨0, 0, 0, 0⟩)
abbrev sBag : Stmt := topS 16
abbrev sDraw : Stmt := topS 17
theorem scBag : FnScope ["_law_script", "_law_at", "_law_great", "_law_mixed", "_law_place", "_law_cell"] ["_law_script", "_law_at"] (defScope sBag) := ⟨rfl, rfl, rfl, by decide +kernel, rfl, by decide +kernel, by decide +kernel⟩
theorem scDraw : FnScope ["_law_bag_here", "_law_many", "_law_digit"] ["_law_bag_here", "_law_many"] (defScope sDraw) := ⟨rfl, rfl, rfl, by decide +kernel, rfl, by decide +kernel, by decide +kernel⟩
theorem atI_ints {ns : List Int} {i : Int} (h0 : 0 ≤ i) (h : i < (ns.length : Int)) : ∃ z : Int, atI (ns.map V.int) i = some (.int z) := by
  obtain ⟨n, rfl⟩ : ∃ n : Nat, i = (n : Int) := ⟨i.toNat, by omega⟩
  have hn : n < ns.length := by omega
  exact ⟨ns[n], atI_nat (j := n) (by rw [List.getElem?_map, List.getElem?_eq_getElem hn]; rfl)⟩
theorem join1 {α : Type} {G : α → Prop} {T : Prop} (h : (∀ y, G y) → T) (g : ∀ y, G y) : T := h g
/-- a source of draws stands at b -/
def IsBag (H : Hp) (b : Addr) : Prop := ∃ g x c : Int, H b = some (.lst [.int g, .int x, .int c])
/-- at most the source at b has changed -/
structure Bk (b : Addr) (H H' : Hp) : Prop where
  bag : IsBag H' b
  keep : ∀ q o, q ≠ b → H q = some o → H' q = some o
theorem Bk.trans {b : Addr} {H H1 H2 : Hp} (x : Bk b H H1) (y : Bk b H1 H2) : Bk b H H2 := ⟨y.bag, fun q o hq e => y.keep q o hq (x.keep q o hq e)⟩
theorem Bk.seqL {K : PySem.W.Frag} {b p : Addr} {H H' : Hp} {xs : List V} (x : Bk b H H') (h : SqL K H p xs) (hp : p ≠ b) : SqL K H' p xs := by
  rcases h with (h | ⟨o, h⟩) | h
  · exact .inl (.inl (x.keep _ _ hp h))
  · exact .inl (.inr ⟨o, x.keep _ _ hp h⟩)
  · exact .inr h
theorem Bk.seqT {K : PySem.W.Frag} {b p : Addr} {H H' : Hp} {xs : List V} (x : Bk b H H') (h : SqT K H p xs) (hp : p ≠ b) : SqT K H' p xs := by
  rcases h with (h | ⟨o, h⟩) | h
  · exact .inl (.inl (x.keep _ _ hp h))
  · exact .inl (.inr ⟨o, x.keep _ _ hp h⟩)
  · exact .inr h
/-- a new object beside it -/
theorem Bk.fresh {b p : Addr} {H H' : Hp} {o : HO} (x : Bk b H H') (h : H' p = none) : Bk b H (upd H' p o) := by
  obtain ⟨⟨g, y, c, e⟩, kp⟩ := x
  exact ⟨⟨g, y, c, by rw [upd_ne (ne_of_none e h)]; exact e⟩, fun q u hq eq => by rw [upd_ne (ne_of_none (kp q u hq eq) h)]; exact kp q u hq eq⟩
theorem Bk.free {b p : Addr} {H H' : Hp} (x : Bk b H H') (hb : IsBag H b) (h : H' p = none) : H p = none := by
  cases e : H p with
  | none => rfl
  | some o =>
    by_cases q : p = b
    · obtain ⟨g, y, c, e2⟩ := x.bag
      rw [q, e2] at h
      cases h
    · rw [x.keep p o q e] at h
      cases h
def spDraw : Sp := fun vs H Q _ => ∃ (b : Addr) (m : Int), vs = [.ref b, .int m] ∧ IsBag H b ∧ 1 ≤ m ∧ m < 2 ^ 200 ∧
  ∀ (d : Int) (H' : Hp), 0 ≤ d → d < m → Bk b H H' → Q (.int d) H'
section
variable {P : Program} {w : World} {K : PySem.W.Frag} {mg : Str → Option Value} {base : Heap}
theorem ok_draw {f : Addr} {fd : FuncData} (F : Fun K "_law_draw" "_law_draw" sDraw f fd) (mi : mg "int" = none) : FnOk P w K mg base CX0 1 f fd ["_law_bag_here", "_law_many"] spDraw := by
  refine F.ok scDraw (fun vs H Q E h => ?_) (fun cdv A outer s H vs Q E hr h => ?_)
  · obtain ⟨b, m, rfl, _⟩ := h
    rfl
  · obtain ⟨b, m, rfl, ⟨g, x, c, hb⟩, h1, h2, k⟩ := h
    have nd := scDraw.nd
    refine ⟨_, pss_cons (ps_if (pt_cmpR op_gt (pe_ix ix_list (pv 0) pe_int (fun _ _ => rfl)) pe_int (nomark _))
        (pss_cons (ps_set (i := 2) nd rfl (.inl rfl) (pe_op op_mod (pe_callTy call_int1 (by rfl) mi (by decide +kernel) (pa_cons (pe_ix ix_list (pv 0) pe_int (fun _ _ => rfl)) pa_nil)) (pv 1)))
        (pss_cons (ps_asg (pe_op op_fdivW (pe_ix ix_list (pv 0) pe_int (fun _ _ => rfl)) (pv 1)) (pg_sub (pv 0) pe_int set_list))
        (pss_one (ps_ret (pv 2))))) pss_nil)
      (pss_cons (ps_asg (pe_op op_add (pe_ix ix_list (pv 0) pe_int (fun _ _ => rfl)) pe_int) (pg_sub (pv 0) pe_int set_list))
      (pss_cons (ps_asg (pe_op op_mod (pe_callTy call_int1 (by rfl) mi (by decide +kernel) (pa_cons (pe_op op_add (pe_op op_add (pe_op op_mul (pe_ix ix_list (pv 0) pe_int (fun _ _ => rfl)) pe_int) (pe_op op_mul pe_int (pe_ix ix_list (pv 0) pe_int (fun _ _ => rfl)))) pe_int) pa_nil)) pe_int) (pg_sub (pv 0) pe_int set_list))
      (pss_one (ps_ret (pe_op op_mod (pe_op op_fdiv (pe_callTy call_int1 (by rfl) mi (by decide +kernel) (pa_cons (pe_op op_mod (pe_callTy call_int1 (by rfl) mi (by decide +kernel) (pa_cons (pe_op op_add (pe_op op_mul (pe_ix ix_list (pv 0) pe_int (fun _ _ => rfl)) pe_int) (pe_op op_mul pe_int (pe_ix ix_list (pv 0) pe_int (fun _ _ => rfl)))) pa_nil)) pe_int) pa_nil)) pe_int) (pv 1)))))), ?_⟩
    have i0 : ∀ {z0 z1 z2 : V}, atI [z0, z1, z2] 0 = some z0 := fun {z0 z1 z2} => atI_nat (j := 0) rfl
    have i1 : ∀ {z0 z1 z2 : V}, atI [z0, z1, z2] 1 = some z1 := fun {z0 z1 z2} => atI_nat (j := 1) rfl
    have i2 : ∀ {z0 z1 z2 : V}, atI [z0, z1, z2] 2 = some z2 := fun {z0 z1 z2} => atI_nat (j := 2) rfl
    -- if bag[0] > 0
    refine ⟨_, rfl, b, _, _, _, rfl, rfl, SqL.of hb, i0, _, _, rfl, rfl, _, rfl, ite2 (fun hg => ?_) (fun hg => ?_)⟩
    · -- digit = int(bag[0]) % many; bag[0] = bag[0] // many; return digit
      refine ⟨_, rfl, b, _, _, _, rfl, rfl, SqL.of hb, i0, .inl ⟨_, rfl, _, rfl, _, _, rfl, rfl, (by show (0 : Int) < m; omega), ?_⟩⟩
      refine ⟨_, rfl, b, _, _, _, rfl, rfl, SqL.of hb, i0, _, rfl, _, _, rfl, rfl, wide_div (b := 200) (by omega) (by omega) (by decide) (by decide), ?_⟩
      refine ⟨_, rfl, b, _, _, 0, rfl, rfl, hb, rfl, ?_⟩
      refine ⟨_, rfl, k _ _ (Int.emod_nonneg _ (by omega)) (Int.emod_lt_of_pos _ (by omega)) ⟨⟨_, _, _, upd_same⟩, fun q o hq e => by rw [upd_ne hq]; exact e⟩⟩
    · refine ⟨_, rfl, b, _, _, _, rfl, rfl, SqL.of hb, i2, _, _, rfl, rfl, ?_⟩
      refine ⟨_, rfl, b, _, _, 2, rfl, rfl, hb, rfl, ?_⟩
      have hb2 : (upd H b (.lst [.int g, .int x, .int (c + 1)])) b = some (.lst [.int g, .int x, .int (c + 1)]) := upd_same
      refine ⟨_, rfl, b, _, _, _, rfl, rfl, SqL.of hb2, i1, _, _, rfl, rfl, .inr (by decide), _, rfl, b, _, _, _, rfl, rfl, SqL.of hb2, i2, _, _, rfl, rfl, .inl (by decide), ?_⟩
      refine ⟨_, _, rfl, rfl, _, _, rfl, rfl, .inl ⟨_, rfl, _, _, rfl, rfl, (by show (0 : Int) < 2147483647; decide), ?_⟩⟩
      refine ⟨_, rfl, b, _, _, 1, rfl, rfl, hb2, rfl, ?_⟩
      have hb3 : ∀ z : Int, (upd (upd H b (.lst [.int g, .int x, .int (c + 1)])) b (.lst [.int g, .int z, .int (c + 1)])) b = some (.lst [.int g, .int z, .int (c + 1)]) := fun z => upd_same
      refine ⟨_, rfl, b, _, _, _, rfl, rfl, SqL.of (hb3 _), i1, _, _, rfl, rfl, .inr (by decide), _, rfl, b, _, _, _, rfl, rfl, SqL.of (hb3 _), i2, _, _, rfl, rfl, .inl (by decide), ?_⟩
      refine ⟨_, _, rfl, rfl, .inl ⟨_, rfl, _, _, rfl, rfl, (by show (0 : Int) < 2147483629; decide), .inl ⟨_, rfl, _, _, rfl, rfl, ⟨by decide, by decide⟩, _, rfl, _, _, rfl, rfl, (by show (0 : Int) < m; omega), ?_⟩⟩⟩
      refine k _ _ (Int.emod_nonneg _ (by omega)) (Int.emod_lt_of_pos _ (by omega)) ⟨⟨_, _, _, hb3 _⟩, fun q o hq e => by rw [upd_ne hq, upd_ne hq]; exact e⟩
/-- a new source of draws -/
def spBag (K : PySem.W.Frag) : Sp := fun vs H Q _ => ∃ (a : Addr) (i : Int) (ns : List Int), vs = [.ref a, .int i] ∧ SqL K H a (ns.map V.int) ∧ 0 ≤ i ∧ i ≤ 1000 ∧
  ∀ (b : Addr) (H' : Hp), H b = none → IsBag H' b → (∀ q o, q ≠ b → H q = some o → H' q = some o) → Q (.ref b) H'
theorem ok_bag {f : Addr} {fd : FuncData} (F : Fun K "_law_bag" "_law_bag" sBag f fd) (mi : mg "int" = none) (ma : mg "abs" = none) (ml : mg "len" = none) (me : mg "enumerate" = none) : FnOk P w K mg base CX0 1 f fd ["_law_script", "_law_at"] (spBag K) := by
  refine F.ok scBag (fun vs H Q E h => ?_) (fun cdv A outer s H vs Q E hr h => ?_)
  · obtain ⟨a, i, ns, rfl, _⟩ := h
    rfl
  · obtain ⟨a, ix, ns, rfl, hS, h0, h1, k⟩ := h
    have nd := scBag.nd
    refine ⟨_, pss_cons (ps_set (i := 2) nd rfl (.inl rfl) (pe_ifExp (pt_cmpR op_lt (pv 1) (pe_callB call_len_seq (by rfl) ml PySem.boot_len (pa_cons (pv 0) pa_nil)) (nomark _))
          (pe_callB call_abs (by rfl) ma (by decide +kernel) (pa_cons (pe_callTy call_int1 (by rfl) mi (by decide +kernel) (pa_cons (pe_ix ix_list (pv 0) (pv 1) (fun _ _ => rfl)) pa_nil)) pa_nil)) pe_int))
      (pss_cons (ps_set (i := 3) nd rfl (.inl rfl) (pe_op op_add pe_int (pe_op op_mul pe_int (pv 1))))
      (pss_cons (ps_for PassesOwn.never rfl (pi_enum (by rfl) me (pa_cons (pe_slice sl_list (pv 0) po_none (po_some pe_int)) pa_nil)) (pg_tup rfl (pgs_cons (pg_name (i := 4) nd rfl (.inl rfl)) (pgs_cons (pg_name (i := 5) nd rfl (.inl rfl)) pgs_nil)))
        (pss_one (ps_set (i := 3) nd rfl (.inl rfl) (pe_op op_mod (pe_callTy call_int1 (by rfl) mi (by decide +kernel) (pa_cons (pe_op op_add (pe_op op_add (pe_op op_mul (pv 3) pe_int)
            (pe_op op_mod (pe_callTy call_int1 (by rfl) mi (by decide +kernel) (pa_cons (pv 5) pa_nil)) pe_int)) (pe_op op_mul pe_int (pv 4))) pa_nil)) pe_int))))
      (pss_one (ps_ret (pe_lst (pa_cons (pe_ifExp (pt_cmpR op_ge (pv 2) (pe_op op_pow pe_int pe_int) (nomark _)) (pv 2) pe_int) (pa_cons (pv 3) (pa_cons pe_int pa_nil)))))))), ?_⟩
    refine join1 (α := Int) (G := ?G) (fun bag_rest => ?br) (fun y => ?fin)
    case br =>
      refine ⟨_, rfl, _, rfl, a, _, rfl, .inl hS, _, _, rfl, rfl, _, rfl, ite2 (fun hc => ?_) (fun hc => ?_)⟩
      · have hc' : ix < ((ns.map V.int).length : Int) := of_decide_eq_true hc
        rw [List.length_map] at hc'
        obtain ⟨z, hz⟩ := atI_ints h0 hc'
        refine ⟨_, rfl, _, rfl, a, _, _, _, rfl, rfl, hS, hz, .inl ⟨_, rfl, _, rfl, ?_⟩⟩
        generalize (if z < 0 then -z else z) = y
        exact bag_rest y
      · exact bag_rest 0
    case fin =>
      -- mixed = 1009 + 77 * at
      refine ⟨_, rfl, _, _, rfl, rfl, .inl (by decide), _, _, rfl, rfl, ?_⟩
      -- enumerate(script[:63])
      refine ⟨_, rfl, _, rfl, a, _, rfl, hS, fun c nc => ?_⟩
      have sc : Same H (upd H c (.lst (cutV (ns.map V.int) none (some 63)))) := fun q o e => by rw [upd_ne (ne_of_none e nc)]; exact e
      have hints : ∀ x ∈ cutV (ns.map V.int) none (some 63), ∃ z : Int, x = .int z := fun x hx => by
        have hm := List.mem_of_mem_drop (List.mem_of_mem_take hx)
        obtain ⟨z, _, e⟩ := List.mem_map.mp hm
        exact ⟨z, e.symm⟩
      revert sc hints
      generalize cutV (ns.map V.int) none (some 63) = cs
      intro sc hints
      refine ⟨c, cs, rfl, SqL.of upd_same, for_it (walk_enum (xs := cs)) (fun i σ H2 => ∃ (m : Int) (y4 y5 : Option V), σ = [some (.ref a), some (.int ix), some (.int y), some (.int m), y4, y5] ∧ Same H H2 ∧ SqL K H2 c cs) ⟨_, none, none, rfl, sc, SqL.of upd_same⟩ ?_ ?_ ?_⟩
      · rintro i σ H2 _ ⟨m, y4, y5, rfl, s2, hc2⟩
        exact hc2
      · rintro i x σ H2 H3 hi ⟨m, y4, y5, rfl, s2, hc2⟩ ⟨T, x1, x2, rfl, nT, rfl, e1, e2⟩
        obtain ⟨z, rfl⟩ := hints _ (List.mem_of_getElem? e2)
        cases e1
        have s3 : Same H2 (upd H2 T (.tup [.int (i : Nat), .int z])) := fun q o e => by rw [upd_ne (ne_of_none e nT)]; exact e
        refine ⟨T, _, rfl, SqT.of upd_same, rfl, _, _, rfl, _, _, rfl, rfl, ?_⟩
        refine ⟨_, rfl, _, _, rfl, rfl, .inr (by decide), _, rfl, .inl ⟨_, rfl, _, _, rfl, rfl, (by show (0 : Int) < 2147483629; decide), ?_⟩⟩
        refine ⟨_, _, rfl, rfl, _, rfl, _, _, rfl, rfl, .inl (by decide), _, _, rfl, rfl, .inl ⟨_, rfl, _, _, rfl, rfl, (by show (0 : Int) < 2147483647; decide), ?_⟩⟩
        exact ⟨_, _, _, rfl, s2.trans s3, s3.seq hc2⟩
      · rintro σ H2 ⟨m, y4, y5, rfl, s2, hc2⟩
        -- return [.., mixed, 0]
        refine ⟨_, rfl, _, _, rfl, rfl, ⟨by decide, by decide, by decide⟩, _, _, rfl, rfl, _, rfl, ite2 (fun hc => ⟨_, rfl, ?_⟩) (fun hc => ?_)⟩
        all_goals
          refine ⟨_, rfl, (by show 3 ≤ sizeLine; decide), fun b nb => ?_⟩
          have nbH : H b = none := s2.free nb
          exact k b _ nbH ⟨_, _, _, upd_same⟩ fun q o hq e => by rw [upd_ne hq]; exact s2 _ _ e
end
end Pa
set_option maxRecDepth 100000
set_option maxHeartbeats 4000000
namespace Pa
open PySem PySem.Spec PyProof.Rows L2 HT
/-! ### a list's end: xs[a:] = ys, del xs[a:] -/
theorem bounds_end {a n : Nat} (ha : a ≤ n) : sliceBounds (some (a : Int)) none none n = ((a : Int), (n : Int), 1) := by
  simp only [sliceBounds, Option.getD_none]
  have h1 : ¬ ((a : Int) < 0) := by omega
  simp only [h1, if_false, show (1 : Int) > 0 by decide, if_true]
  congr 1
  omega
section
variable {prog : Program} {w : World} {A : Around} {E : Value → Shared → Prop} {s : Shared}
theorem endPut {l b sl : Addr} {items new : Array Value} {n n2 : Nat} {vl vu : Value} {a : Nat} {Q : Unit → Shared → Prop}
    (el : s.heap.get? l = some { cls := .type "list", data := .seq items n }) (eb : s.heap.get? b = some { cls := .type "list", data := .seq new n2 }) (nlb : l ≠ b)
    (hsl : s.heap.IsSliceOf sl vl vu .none) (p1 : IsPart vl (some (a : Int))) (p2 : IsPart vu none) (ha : a ≤ items.size)
    (hz : items.size + new.size ≤ sizeLine) (h : Q () { s with heap := s.heap.update l (Obj.mapSeq fun xs => xs.extract 0 a ++ new ++ xs.extract items.size xs.size) }) :
    wpAny (model prog w) A (setItem (.ref l) (.ref sl) (.ref b)) Q E s := by
  have isl : s.heap.IsList l items := PySem.IsL.isList el
  have isb : s.heap.IsList b new := PySem.IsL.isList eb
  obtain ⟨o1, ho1, hc1, hd1⟩ := id hsl
  have tsl : s.TypeIs (.ref sl) "slice" := ⟨o1, ho1, hc1⟩
  have st0 : ¬ ((rawPart none == rawInt 0) = true) := Bool.false_ne_true
  have nsame : Builtin.List.listSameRef (.ref l) (.ref b) = false := by
    unfold Builtin.List.listSameRef
    exact beq_eq_false_iff_ne.mpr nlb
  have mx : (max (a : Int) (items.size : Int)).toNat = items.size := by omega
  have hz2 : ((fun xs : Array Value => xs.extract 0 a ++ new ++ xs.extract items.size xs.size) items).size ≤ sizeLine + 1 := by
    simp only [Array.size_append, Array.size_extract]
    omega
  unfold setItem
  try with_reducible refine wpAny_holding ?_
  first | refine wpAny_bind (wpAny_pure ?_) | skip
  refine wpAny_bind (wpAny_sequenceKey isl.typeIs (by decide) ?_)
  refine wpAny_bind (wpAny_callSpecial?_slot (name := Str.ofString "__setitem__") isl.typeIs slot_list_setitem
    (wpAny_call_entry slot_list_setitem isl.typeIs entry_list_setitem ?_ (args_list_setitem _ _ _)))
  show wpAny _ _ (Builtin.List.listSubscript? (.ref sl) >>= _) _ _ s
  refine wpAny_bind ?_
  unfold Builtin.List.listSubscript?
  refine wpAny_bind (wpAny_specialOf tsl slice_no_index ?_)
  simp only [Option.isNone_none, if_true]
  refine wpAny_pure ?_
  show wpAny _ _ (typeOf (.ref sl) >>= _) _ _ s
  refine wpAny_bind (wpAny_typeOf tsl ?_)
  first
    | rw [if_neg (by decide)]
    | refine PySem.W.KFB.if_not (by decide) ?_
  rw [listSliceParts_eq]
  refine wpAny_bind (wpAny_bind (wpAny_field ho1 hd1 (x := .none) rfl (wpAny_bind (wpAny_listPart .none ?_))))
  rw [if_neg st0]
  refine wpAny_bind (wpAny_field ho1 hd1 (x := vl) rfl (wpAny_bind (wpAny_listPart p1 ?_)))
  refine wpAny_bind (wpAny_field ho1 hd1 (x := vu) rfl (wpAny_bind (wpAny_listPart p2 (wpAny_pure ?_))))
  first
    | simp only [nsame, Bool.false_eq_true, if_false]
    | refine PySem.W.KFB.if_not nsame ?_
    | (dsimp only
       rw [if_neg (by rw [nsame]; exact Bool.false_ne_true)])
  refine wpAny_bind (m := Builtin.List.listAllItems (.ref b) "must assign iterable to extended slice") ?_
  unfold Builtin.List.listAllItems
  refine wpAny_bind (wpAny_typeOf isb.typeIs ?_)
  first
    | refine PySem.W.KFB.if_so (by decide) ?_
    | rw [if_pos (by decide)]
    | simp only [beq_self_eq_true, Bool.true_or, if_true]
  unfold Builtin.List.listItems
  refine wpAny_bind (wpAny_seqItems eb rfl (wpAny_pure ?_))
  refine wpAny_bind (wpAny_bind (wpAny_seqItems el rfl (wpAny_pure ?_)))
  refine wpAny_bind (wpAny_of_eq ((sliceIndices_raw (some (a : Int)) none none items.size (by simp)).trans (congrArg (pure : Int × Int × Int → Sem (Int × Int × Int)) (bounds_end ha))) ?_)
  show wpAny _ _ (if ((1 : Int) == 1) = true then _ else _) _ _ s
  rw [if_pos (by decide)]
  refine wpAny_bind (wpAny_rule ?_)
  first
    | simp only [notLongL hz, Bool.false_eq_true, if_false]
    | refine PySem.W.KFB.if_not (notLongL hz) ?_
  first | refine wpAny_bind (wpAny_pure ?_) | skip
  show wpAny _ _ (updateSeq l (fun xs => xs.extract 0 ((a : Int)).toNat ++ new ++ xs.extract (max (a : Int) (items.size : Int)).toNat xs.size) >>= _) _ _ s
  rw [mx, Int.toNat_natCast]
  refine wpAny_bind (wpAny_updateSeq (hz := Nat.le_trans (Nat.le_add_right _ _) hz) (_hz' := hz2) el rfl ?_)
  refine wpAny_bind (wpAny_letGo ?_)
  first
    | exact wpAny_bind (wpAny_pure (wpAny_pure ⟨.none, rfl, wpAny_pure h⟩))
    | exact wpAny_pure ⟨.none, rfl, wpAny_pure h⟩
theorem kept_front (p : Nat → Bool) (a : Nat) : ∀ (xs : List Value) (i : Nat), (∀ k, i ≤ k → k < i + xs.length → p k = decide (a ≤ k)) →
    (xs.zipIdx i).filterMap (fun x => if p x.2 = true then none else some x.1) = xs.take (a - i)
  | [], i, _ => by simp
  | x :: xs, i, h => by
    rw [List.zipIdx_cons, List.filterMap_cons]
    have hp := h i (Nat.le_refl _) (by simp)
    have ih := kept_front p a xs (i + 1) fun k h1 h2 => h k (by omega) (by rw [List.length_cons]; omega)
    by_cases hk : a ≤ i
    · have : a - i = 0 := by omega
      rw [decide_eq_true hk] at hp
      simp only [hp, if_true, ih, this, List.take_zero]
      have : a - (i + 1) = 0 := by omega
      rw [this, List.take_zero]
    · have e : a - i = (a - (i + 1)) + 1 := by omega
      rw [decide_eq_false hk] at hp
      simp only [hp, Bool.false_eq_true, if_false, ih]
      rw [e, List.take_succ_cons]
theorem endDel {l sl : Addr} {items : Array Value} {n : Nat} {vl vu : Value} {a : Nat} {Q : Unit → Shared → Prop}
    (el : s.heap.get? l = some { cls := .type "list", data := .seq items n })
    (hsl : s.heap.IsSliceOf sl vl vu .none) (p1 : IsPart vl (some (a : Int))) (p2 : IsPart vu none) (ha : a ≤ items.size) (hz : items.size ≤ sizeLine)
    (h : ∀ f : Array Value → Array Value, f items = (items.toList.take a).toArray → Q () { s with heap := s.heap.update l (Obj.mapSeq f) }) :
    wpAny (model prog w) A (delItem (.ref l) (.ref sl)) Q E s := by
  have isl : s.heap.IsList l items := PySem.IsL.isList el
  obtain ⟨o1, ho1, hc1, hd1⟩ := id hsl
  have tsl : s.TypeIs (.ref sl) "slice" := ⟨o1, ho1, hc1⟩
  have st0 : ¬ ((rawPart none == rawInt 0) = true) := Bool.false_ne_true
  refine wpAny_delItem_slot isl.typeIs (by decide) PySem.F.slot_list_delitem (wpAny_call_entry PySem.F.slot_list_delitem isl.typeIs PySem.F.entry_list_delitem ?_ (PySem.F.args_list_delitem_2 _ _))
  show wpAny _ _ (Builtin.List.listSubscript? (.ref sl) >>= _) _ _ s
  refine wpAny_bind ?_
  unfold Builtin.List.listSubscript?
  refine wpAny_bind (wpAny_specialOf tsl slice_no_index ?_)
  simp only [Option.isNone_none, if_true]
  refine wpAny_pure ?_
  show wpAny _ _ (typeOf (.ref sl) >>= _) _ _ s
  refine wpAny_bind (wpAny_typeOf tsl ?_)
  first
    | rw [if_neg (by decide)]
    | refine PySem.W.KFB.if_not (by decide) ?_
  rw [listSliceParts_eq]
  refine wpAny_bind (wpAny_bind (wpAny_field ho1 hd1 (x := .none) rfl (wpAny_bind (wpAny_listPart .none ?_))))
  rw [if_neg st0]
  refine wpAny_bind (wpAny_field ho1 hd1 (x := vl) rfl (wpAny_bind (wpAny_listPart p1 ?_)))
  refine wpAny_bind (wpAny_field ho1 hd1 (x := vu) rfl (wpAny_bind (wpAny_listPart p2 (wpAny_pure ?_))))
  refine wpAny_bind (m := Builtin.List.listItems (.ref l)) ?_
  unfold Builtin.List.listItems
  refine wpAny_bind (wpAny_seqItems el rfl (wpAny_pure ?_))
  refine wpAny_bind (wpAny_of_eq ((sliceIndices_raw (some (a : Int)) none none items.size (by simp)).trans (congrArg (pure : Int × Int × Int → Sem (Int × Int × Int)) (bounds_end ha))) ?_)
  refine wpAny_bind (wpAny_rule ?_)
  refine wpAny_bind ?_
  refine wpAny_updateSeq el rfl ?_ hz ?_
  · refine wpAny_bind (wpAny_letGo ?_)
    refine wpAny_pure ⟨.none, rfl, h _ ?_⟩
    refine congrArg List.toArray ((kept_front _ a items.toList 0 fun k _ hk => ?_).trans (by rw [Nat.sub_zero]))
    have hk : k < items.size := by simpa using hk
    show ((decide ((a : Int) ≤ (k : Int)) && decide ((k : Int) < (items.size : Int))) && (((k : Int) - (a : Int)) % 1 == 0)) = decide (a ≤ k)
    have h1 : decide ((k : Int) < (items.size : Int)) = true := decide_eq_true (by omega)
    have h2 : (((k : Int) - (a : Int)) % 1 == 0) = true := by simp
    rw [h1, h2, Bool.and_true, Bool.and_true]
    by_cases h3 : a ≤ k
    · rw [decide_eq_true h3, decide_eq_true (by omega)]
    · rw [decide_eq_false h3, decide_eq_false (by omega)]
  · refine Nat.le_succ_of_le (Nat.le_trans ?_ hz)
    rw [List.size_toArray]
    refine Nat.le_trans (List.length_filterMap_le _ _) ?_
    simp
end
section
variable {X : Cx} {o lo : Expr} {to tl : TE} {p2 pos : Pos}
/-- xs[a:] = ys of another list, both tracked -/
def gEnd (to tl : TE) : TG := fun v σ H Q => to σ H fun x H1 => tl σ H1 fun y H2 => ∃ (l b : Addr) (xs ys : List V) (a : Nat), x = .ref l ∧ y = .int (a : Int) ∧ v = .ref b ∧ H2 l = some (.lst xs) ∧ H2 b = some (.lst ys) ∧ l ≠ b ∧ a ≤ xs.length ∧
  xs.length + ys.length ≤ sizeLine ∧ Q σ (upd H2 l (.lst (xs.take a ++ ys)))
theorem pg_end (ho : PE X o to) (hl : PE X lo tl)
    (ha : ∀ v, assign (.Subscript o (.Slice (some lo) none none p2) pos) X.env v = (do
      let ov ← holding [v] (eval o X.env)
      let iv ← holding [v, ov] (eval (.Slice (some lo) none none p2) X.env)
      standAt pos
      holding [v, ov, iv] (setItem ov iv v)
      release [iv, v, ov] []) := by intro _; rfl) : PG X (.Subscript o (.Slice (some lo) none none p2) pos) (gEnd to tl) := by
  refine ⟨fun pins s σ H v u Q I r h => ?_⟩
  rw [ha]
  refine wpAny_bind (wpAny_holding (thn (ho.run pins s σ H _ I h) fun ov s1 ⟨x, H1, I1, r1, q1⟩ => ?_))
  refine wpAny_bind (wpAny_holding ?_)
  refine wpAny_Slice ?_
  rw [evalPart_some]
  refine thn (hl.run pins s1 σ H1 _ I1 q1) fun vl s2 ⟨y, H2, I2, r2, q2⟩ => ?_
  obtain ⟨l, b, xs, ys, a, rfl, rfl, rfl, hl2, hb2, nlb, hax, hsz, q3⟩ := q2
  obtain ⟨tk, rfl⟩ := r2
  cases (show ov = Value.ref l from r1)
  cases (show u = Value.ref b from r)
  rw [evalPart_none]
  refine wpAny_pure (wpAny_pure ?_)
  have I4 : Inv X pins σ H2 { s2 with heap := s2.heap.push { cls := .type "slice", data := .fields #[.int a tk, .none, .none] } } := I2.kept (t' := s2.toks) fun b ob q => Heap.get?_push_of_some _ q
  obtain ⟨z, its, n, rv, hl3, e3⟩ := I4.lstM hl2
  obtain ⟨z2, its2, n2, rv2, hl4, e4⟩ := I4.lstM hb2
  refine wpAny_bind (wpAny_standAt (wpAny_bind (wpAny_holding (endPut (a := a) e3 e4 nlb (Heap.IsSliceOf.new ..) (.int _ _) .none (by rw [List.size_toArray]; omega) (by rw [List.size_toArray, List.size_toArray]; omega) ?_))))
  refine wpAny_release ⟨σ, _, I4.lset (its' := its.take a ++ its2) (t' := s2.toks) hl2 e3 ?_ (Vals.append (rv.take _) rv2) ?_, q3⟩
  · show its.toArray.extract 0 a ++ its2.toArray ++ its.toArray.extract its.toArray.size its.toArray.size = (its.take a ++ its2).toArray
    apply Array.toList_inj.mp
    simp
  · rw [List.length_append, List.length_take]
    omega
def tDelE (to tl : TE) : TS := fun D σ H => to σ H fun x H1 => tl σ H1 fun y H2 => ∃ (l : Addr) (xs : List V) (a : Nat), x = .ref l ∧ y = .int (a : Int) ∧ H2 l = some (.lst xs) ∧ a ≤ xs.length ∧ D.nx σ (upd H2 l (.lst (xs.take a)))
/-- del xs[a:] -/
theorem ps_delE {tpos : Pos} (ho : PE X o to) (hl : PE X lo tl) : PS X (.Delete [.Subscript o (.Slice (some lo) none none p2) tpos] pos) (tDelE to tl) := by
  refine ⟨fun pins s σ H D I h => ?_⟩
  refine wpAny_Delete (wpAny_deleteEach_cons (wpAny_delete_Subscript (thn (ho.run pins s σ H _ I h) fun ov s1 ⟨x, H1, I1, r1, q1⟩ => ?_)))
  refine wpAny_Slice ?_
  rw [evalPart_some]
  refine thn (hl.run pins s1 σ H1 _ I1 q1) fun vl s2 ⟨y, H2, I2, r2, q2⟩ => ?_
  obtain ⟨l, xs, a, rfl, rfl, hl2, hax, q3⟩ := q2
  obtain ⟨tk, rfl⟩ := r2
  cases (show ov = Value.ref l from r1)
  rw [evalPart_none]
  refine wpAny_pure (wpAny_pure ?_)
  have I4 : Inv X pins σ H2 { s2 with heap := s2.heap.push { cls := .type "slice", data := .fields #[.int a tk, .none, .none] } } := I2.kept (t' := s2.toks) fun b ob q => Heap.get?_push_of_some _ q
  obtain ⟨z, its, n, rv, hl3, e3⟩ := I4.lstM hl2
  refine endDel (a := a) e3 (Heap.IsSliceOf.new ..) (.int _ _) .none (by rw [List.size_toArray]; omega) (by rw [List.size_toArray]; omega) fun f hf => ?_
  refine wpAny_deleteEach_nil ⟨σ, _, I4.lset (its' := its.take a) (t' := s2.toks) hl2 e3 hf (rv.take _) ?_, q3⟩
  rw [List.length_take]
  omega
end
end Pa
set_option maxRecDepth 100000
set_option maxHeartbeats 4000000
namespace Pa
open PySem PySem.Spec PyProof.Rows L2
/-! ### things in the heap -/
def AllAt {α : Type} (R : Hp → V → α → Prop) (H : Hp) : List V → List α → Prop
  | [], [] => True
  | x :: xs, y :: ys => R H x y ∧ AllAt R H xs ys
  | _, _ => False
section
variable {α : Type} {R : Hp → V → α → Prop} {H H' : Hp}
theorem AllAt.len : ∀ {xs : List V} {ys : List α}, AllAt R H xs ys → xs.length = ys.length
  | [], [], _ => rfl
  | _ :: _, _ :: _, h => congrArg (· + 1) (AllAt.len h.2)
  | [], _ :: _, h => h.elim
  | _ :: _, [], h => h.elim
theorem AllAt.mono : ∀ {xs : List V} {ys : List α}, (∀ x y, R H x y → R H' x y) → AllAt R H xs ys → AllAt R H' xs ys
  | [], [], _, _ => trivial
  | _ :: _, _ :: _, f, h => ⟨f _ _ h.1, AllAt.mono f h.2⟩
  | [], _ :: _, _, h => h.elim
  | _ :: _, [], _, h => h.elim
theorem AllAt.app : ∀ {xs xs' : List V} {ys ys' : List α}, AllAt R H xs ys → AllAt R H xs' ys' → AllAt R H (xs ++ xs') (ys ++ ys')
  | [], _, [], _, _, h => h
  | _ :: _, _, _ :: _, _, h, h' => ⟨h.1, AllAt.app h.2 h'⟩
  | [], _, _ :: _, _, h, _ => h.elim
  | _ :: _, _, [], _, h, _ => h.elim
theorem AllAt.snoc {xs : List V} {ys : List α} {x : V} {y : α} (h : AllAt R H xs ys) (r : R H x y) : AllAt R H (xs ++ [x]) (ys ++ [y]) := h.app ⟨r, trivial⟩
theorem AllAt.at : ∀ {xs : List V} {ys : List α} {i : Nat} {x : V}, AllAt R H xs ys → xs[i]? = some x → ∃ y, ys[i]? = some y ∧ R H x y
  | x :: xs, y :: ys, 0, _, h, e => by cases e; exact ⟨y, rfl, h.1⟩
  | x :: xs, y :: ys, i + 1, _, h, e => AllAt.at (xs := xs) (ys := ys) (i := i) h.2 (by simpa using e)
  | [], _, _, _, _, e => by simp at e
  | _ :: _, [], _, _, h, _ => h.elim
theorem AllAt.to : ∀ {xs : List V} {ys : List α} {i : Nat} {y : α}, AllAt R H xs ys → ys[i]? = some y → ∃ x, xs[i]? = some x ∧ R H x y
  | x :: xs, y :: ys, 0, _, h, e => by cases e; exact ⟨x, rfl, h.1⟩
  | x :: xs, y :: ys, i + 1, _, h, e => AllAt.to (xs := xs) (ys := ys) (i := i) h.2 (by simpa using e)
  | _, [], _, _, _, e => by simp at e
  | [], _ :: _, _, _, h, _ => h.elim
theorem AllAt.take : ∀ {xs : List V} {ys : List α} (n : Nat), AllAt R H xs ys → AllAt R H (xs.take n) (ys.take n)
  | _, _, 0, _ => by simp [AllAt]
  | [], [], _ + 1, _ => by simp [AllAt]
  | x :: xs, y :: ys, n + 1, h => ⟨h.1, AllAt.take n h.2⟩
  | [], _ :: _, _ + 1, h => h.elim
  | _ :: _, [], _ + 1, h => h.elim
theorem AllAt.drop : ∀ {xs : List V} {ys : List α} (n : Nat), AllAt R H xs ys → AllAt R H (xs.drop n) (ys.drop n)
  | _, _, 0, h => h
  | [], [], _ + 1, _ => by simp [AllAt]
  | x :: xs, y :: ys, n + 1, h => AllAt.drop (xs := xs) (ys := ys) n h.2
  | [], _ :: _, _ + 1, h => h.elim
  | _ :: _, [], _ + 1, h => h.elim
end
theorem join2 {c G T : Prop} (h : (c → G) → T) (g : c → G) : T := h g
theorem iteP {c A B : Prop} [Decidable c] (hc : c) (h : A) : if c then A else B := by
  rw [if_pos hc]; exact h
theorem iteQ {c A B : Prop} [Decidable c] (hc : ¬ c) (h : B) : if c then A else B := by
  rw [if_neg hc]; exact h
theorem notT {b : Bool} (h : b = true) : ¬ ((!b) = true) := by rw [h]; decide
theorem notF {b : Bool} (h : b = false) : (!b) = true := by rw [h]; rfl
theorem neT {b : Bool} (h : b = false) : ¬ (b = true) := by rw [h]; decide
theorem twoB (b : Bool) : b = true ∨ b = false := by cases b; exact .inr rfl; exact .inl rfl
/-- all tuples stand -/
def Tups (H H' : Hp) : Prop := ∀ t xs, H t = some (.tup xs) → H' t = some (.tup xs)
section
variable {H H' H'' : Hp} {p : Addr} {o : HO} {xs : List V}
theorem Tups.refl (H : Hp) : Tups H H := fun _ _ h => h
theorem Tups.trans (a : Tups H H') (b : Tups H' H'') : Tups H H'' := fun t xs h => b t xs (a t xs h)
theorem Tups.of (a : Same H H') : Tups H H' := fun t xs h => a t _ h
theorem Tups.put (h : ∀ ys, H p ≠ some (.tup ys)) : Tups H (upd H p o) := fun t ys e => by
  rw [upd_ne (fun q => h ys (by rw [← q]; exact e))]
  exact e
theorem Tups.new (h : H p = none) : Tups H (upd H p o) := Tups.put fun ys e => by rw [h] at e; cases e
theorem Tups.lst (h : H p = some (.lst xs)) : Tups H (upd H p o) := Tups.put fun ys e => by rw [h] at e; cases e
theorem Tups.ins {C dx : Addr} {fs : List (Str × V)} (h : H p = some (.ins C dx fs)) : Tups H (upd H p o) := Tups.put fun ys e => by rw [h] at e; cases e
theorem same_new (h : H p = none) : Same H (upd H p o) := fun b u e => by
  rw [upd_ne (ne_of_none e h)]
  exact e
end
/-- a tuple of these stands at x -/
def TupAt (H : Hp) (x : V) (vs : List V) : Prop := ∃ t, x = .ref t ∧ H t = some (.tup vs)
theorem TupAt.mono {H H' : Hp} {x : V} {vs : List V} (a : Tups H H') (h : TupAt H x vs) : TupAt H' x vs := by
  obtain ⟨t, e, r⟩ := h
  exact ⟨t, e, a t _ r⟩
def LnAt (H : Hp) (x : V) (l : Ln) : Prop := TupAt H x [.int l.sp, .bl l.br, .bl l.du]
def PlAt (H : Hp) (x : V) (l : Int × Bool) : Prop := TupAt H x [.int l.1, .bl l.2]
def RwAt (H : Hp) (x : V) (r : Int) : Prop := TupAt H x [.bl (decide (r = 0)), .int r]
def BlAt (H : Hp) (x : V) (b : Bl) : Prop := TupAt H x [.int (b.c : Int), .int b.s, .bl b.k, .bl b.g]
theorem lnMono {H H' : Hp} {xs : List V} {ys : List Ln} (a : Tups H H') (h : AllAt LnAt H xs ys) : AllAt LnAt H' xs ys := h.mono fun _ _ => TupAt.mono a
theorem plMono {H H' : Hp} {xs : List V} {ys : List (Int × Bool)} (a : Tups H H') (h : AllAt PlAt H xs ys) : AllAt PlAt H' xs ys := h.mono fun _ _ => TupAt.mono a
theorem rwMono {H H' : Hp} {xs : List V} {ys : List Int} (a : Tups H H') (h : AllAt RwAt H xs ys) : AllAt RwAt H' xs ys := h.mono fun _ _ => TupAt.mono a
theorem blMono {H H' : Hp} {xs : List V} {ys : List Bl} (a : Tups H H') (h : AllAt BlAt H xs ys) : AllAt BlAt H' xs ys := h.mono fun _ _ => TupAt.mono a
/-- facts of the program's top -/
structure Txt (K : PySem.W.Frag) (mg : Str → Option Value) (tp C : Addr) : Prop where
  b_len : mg "len" = none
  b_range : mg "range" = none
  b_int : mg "int" = none
  b_abs : mg "abs" = none
  b_enumerate : mg "enumerate" = none
  b_isinstance : mg "isinstance" = none
  b_bool : mg "bool" = none
  b_list : mg "list" = none
  b_tuple : mg "tuple" = none
  b_max : mg "max" = none
  b_min : mg "min" = none
  b_all : mg "all" = none
  g_TOP : mg "TOP" = some (.ref tp)
  top : ∀ H, SqT K H tp [.str "top", .int 0, .int 0]
  cl : Cls K C
  g_Page : mg "Page" = some (.ref C)
  nL : NoAttr K C "length"
  nS : NoAttr K C "_standing"
  nR : NoAttr K C "_rows"
  nO : NoAttr K C "_loose"
  nW : NoAttr K C "_went_over"
section
variable {P : Program} {w : World} {K : PySem.W.Frag} {mg : Str → Option Value} {base : Heap} {tp C : Addr}
/-! ### _longer -/
def spLng : Sp := fun vs H Q _ => ∃ (t s : Int), vs = [.int t, .int s] ∧ Q (.int (lng t s)) H
abbrev s_longer : Stmt := topS 10
theorem sc_longer : FnScope ["tail", "space"] ["tail", "space"] (defScope s_longer) := ⟨rfl, rfl, rfl, by decide +kernel, rfl, by decide +kernel, by decide +kernel⟩
theorem ok_longer {f : Addr} {fd : FuncData} (F : Fun K "_longer" "_longer" s_longer f fd) : FnOk P w K mg base CX0 1 f fd ["tail", "space"] spLng := by
  refine F.ok sc_longer (fun vs H Q E h => ?_) (fun cdv A outer s H vs Q E hr h => ?_)
  · obtain ⟨t, s, rfl, _⟩ := h
    rfl
  · obtain ⟨t, sp, rfl, k⟩ := h
    refine ⟨_, (pss_one (ps_ret (pe_ifExp (pt_cmpR op_gt (pv 0) pe_int (nomark _)) (pe_op op_add (pe_op op_add (pv 0) (pv 1)) pe_int) pe_int))), ?_⟩
    unfold lng at k
    refine ⟨_, rfl, _, _, rfl, rfl, _, rfl, ite2 (fun hc => ?_) (fun hc => ?_)⟩
    · rw [if_pos (of_decide_eq_true hc)] at k
      exact ⟨_, rfl, _, rfl, _, _, rfl, rfl, _, _, rfl, rfl, k⟩
    · rw [if_neg (fun q => hc (decide_eq_true q))] at k
      exact k
/-! ### next_line -/
def spNext : Sp := fun vs H Q _ => ∃ (L h t s : Int) (b : Bool), vs = [.int L, .int h, .int t, .int s, .bl b] ∧ ∀ p, H p = none → Q (.ref p) (upd H p (.tup [.int (nextLine L h t s b).h, .int (nextLine L h t s b).t, .bl (nextLine L h t s b).ov]))
abbrev snext_line : Stmt := topS 9
theorem scnext_line : FnScope ["length", "height", "tail", "space", "barred", "below", "over"] ["length", "height", "tail", "space", "barred"] (defScope snext_line) := ⟨rfl, rfl, rfl, by decide +kernel, rfl, by decide +kernel, by decide +kernel⟩
theorem ok_next {f : Addr} {fd : FuncData} (F : Fun K "next_line" "next_line" snext_line f fd) (C__longer : CallOk P w K mg base 1 "_longer" ["tail", "space"] spLng) : FnOk P w K mg base CX0 2 f fd ["length", "height", "tail", "space", "barred"] spNext := by
  refine F.ok scnext_line (fun vs H Q E h => ?_) (fun cdv A outer s H vs Q E hr h => ?_)
  · obtain ⟨L, h, t, s, b, rfl, _⟩ := h
    rfl
  · obtain ⟨L, h, t, sp, b, rfl, k⟩ := h
    refine ⟨_, (pss_cons (ps_set (i := 5) scnext_line.nd rfl (.inl rfl) (pe_op op_add (pe_op op_add (pv 1) (pv 3)) pe_int))
      (pss_cons (ps_if (PW.pt (pw_and (pt_cmpR op_gt (pv 1) pe_int (nomark _)) (pw_and1 (pt_cmpR op_le (pv 5) (pv 0) (nomark _)))))
        (pss_cons (ps_if (pt_not (pt_val (pv 4)))
          (pss_one (ps_ret (pe_tup (pa_cons (pv 5) (pa_cons pe_int (pa_cons pe_bl pa_nil))))))
          pss_nil)
        (pss_one (ps_ret (pe_tup (pa_cons (pv 5) (pa_cons (pe_cc C__longer (hr.mono (by decide)) (by rfl) (pa_cons (pv 2) (pa_cons (pv 3) pa_nil))) (pa_cons pe_bl pa_nil)))))))
        pss_nil)
      (pss_cons (ps_if (PW.pt (pw_or (pt_not (pt_val (pv 4))) (pw_or1 (pt_cmpR op_eq (pv 2) pe_int (nomark _)))))
        (pss_one (ps_ret (pe_tup (pa_cons pe_int (pa_cons pe_int (pa_cons pe_bl pa_nil))))))
        pss_nil)
      (pss_cons (ps_set (i := 6) scnext_line.nd rfl (.inl rfl) (pe_cc C__longer (hr.mono (by decide)) (by rfl) (pa_cons (pv 2) (pa_cons (pv 3) pa_nil))))
      (pss_one (ps_ret (pe_tup (pa_cons (pe_ifExp (pt_cmpR op_le (pv 6) (pv 0) (nomark _)) (pv 6) pe_int) (pa_cons pe_int (pa_cons pe_bl pa_nil)))))))))), ?_⟩
    unfold nextLine at k
    refine ⟨_, rfl, _, rfl, _, _, rfl, rfl, _, _, rfl, rfl, ?_⟩
    refine join2 (c := ¬ (h > 0 ∧ h + sp + 1 ≤ L)) (G := ?G) (fun rest => ?br) (fun hn => ?fin)
    case br =>
      refine ⟨_, rfl, _, _, rfl, rfl, _, rfl, ite2 (fun h1 => ?_) (fun h1 => ?_)⟩
      · refine ⟨_, rfl, _, rfl, _, _, rfl, rfl, _, rfl, ite2 (fun h2 => ?_) (fun h2 => ?_)⟩
        · have hh : h > 0 ∧ h + sp + 1 ≤ L := ⟨of_decide_eq_true h1, of_decide_eq_true h2⟩
          simp only [hh, and_self, if_true] at k
          cases b with
          | false =>
            refine ⟨_, rfl, _, rfl, iteT ⟨_, rfl, (by show 3 ≤ sizeLine; decide), fun p hp => ?_⟩⟩
            exact k p hp
          | true =>
            refine ⟨_, rfl, _, rfl, iteF ⟨_, rfl, _, rfl, _, rfl, _, _, rfl, (by show 3 ≤ sizeLine; decide), fun p hp => ?_⟩⟩
            exact k p hp
        · exact rest fun q => h2 (decide_eq_true q.2)
      · exact rest fun q => h1 (decide_eq_true q.1)
    case fin =>
      simp only [hn, if_false] at k
      have two : b = false ∨ t = 0 → ∀ p, H p = none → Q (.ref p) (upd H p (.tup [.int 1, .int 0, .bl false])) := fun q p hp => by
        have := k p hp
        simp only [q, if_true] at this
        exact this
      cases b with
      | false =>
        refine ⟨_, rfl, _, rfl, iteT (iteT ⟨(by show 3 ≤ sizeLine; decide), fun p hp => ?_⟩)⟩
        exact two (.inl rfl) p hp
      | true =>
        refine ⟨_, rfl, _, rfl, iteF ⟨_, rfl, rfl, _, rfl, ite2 (fun h1 => ?_) (fun h1 => ?_)⟩⟩
        · refine ⟨(by show 3 ≤ sizeLine; decide), fun p hp => ?_⟩
          exact two (.inr (V.int.inj (of_decide_eq_true h1))) p hp
        · have ht : ¬ t = 0 := fun q => h1 (decide_eq_true (by rw [q]))
          simp only [Bool.true_eq_false, ht, or_self, if_false] at k
          refine ⟨_, rfl, _, rfl, _, _, rfl, ?_⟩
          refine ⟨_, rfl, _, rfl, _, _, rfl, rfl, _, rfl, ite2 (fun h2 => ?_) (fun h2 => ?_)⟩
          · refine ⟨_, rfl, (by show 3 ≤ sizeLine; decide), fun p hp => ?_⟩
            have := k p hp
            rw [if_pos (of_decide_eq_true h2)] at this
            exact this
          · refine ⟨(by show 3 ≤ sizeLine; decide), fun p hp => ?_⟩
            have := k p hp
            rw [if_neg (fun q => h2 (decide_eq_true q))] at this
            exact this
end
end Pa
set_option maxRecDepth 100000
set_option maxHeartbeats 4000000
namespace Pa
open PySem PySem.Spec PyProof.Rows L2
section
variable {X : Cx}
theorem pi_or {tg l : Expr} {w1 w2 : TI} (h1 : PI X tg l w1) (h2 : PI X tg l w2) : PI X tg l (fun σ H R => w1 σ H R ∨ w2 σ H R) :=
  ⟨fun pins s σ H R I h => h.elim (h1.run pins s σ H R I) (h2.run pins s σ H R I)⟩
end
/-! ### ways that meet again: what a piece gives, told once -/
def tPureE (t : TE) : TE := fun σ H Q => ∃ v : V, (∀ Q' : VK, Q' v H → t σ H Q') ∧ Q v H
def tPureT (t : TT) : TT := fun σ H Q => ∃ c : Bool, (∀ Q' : Bool → Hp → Prop, Q' c H → t σ H Q') ∧ Q c H
def tByE (t : TE) : TE := fun σ H Q => ∃ R : V → Hp → Prop, (∀ Q' : VK, (∀ v H', R v H' → Q' v H') → t σ H Q') ∧ ∀ v H', R v H' → Q v H'
def tByS (t : TS) : TS := fun D σ H => ∃ R : L2.St → Hp → Prop, (∀ N : L2.St → Hp → Prop, (∀ σ' H', R σ' H' → N σ' H') → t { D with nx := N } σ H) ∧ ∀ σ' H', R σ' H' → D.nx σ' H'
section
variable {X : Cx} {e : Expr} {st : Stmt}
theorem pe_pure {t : TE} (h : PE X e t) : PE X e (tPureE t) := ⟨fun pins s σ H Q I ⟨_, f, q⟩ => h.run pins s σ H Q I (f Q q)⟩
theorem pt_pure {t : TT} (h : PT X e t) : PT X e (tPureT t) := ⟨fun pins s σ H Q I ⟨_, f, q⟩ => h.run pins s σ H Q I (f Q q)⟩
theorem pe_by {t : TE} (h : PE X e t) : PE X e (tByE t) := ⟨fun pins s σ H Q I ⟨_, f, q⟩ => h.run pins s σ H Q I (f Q q)⟩
theorem ps_by {t : TS} (h : PS X st t) : PS X st (tByS t) := ⟨fun pins s σ H D I ⟨_, f, q⟩ => h.run pins s σ H D I (f D.nx q)⟩
end
theorem all_push {α : Type} {f : α → List V} {H : Hp} {q p : Addr} {ls tv : List V} {ys : List α} {y : α} (hq : H q = some (.lst ls)) (ha : AllAt (fun H x y => TupAt H x (f y)) H ls ys) (hp : H p = none) (et : tv = f y) :
    upd (upd H p (.tup tv)) q (.lst (ls ++ [.ref p])) q = some (.lst (ls ++ [.ref p])) ∧ AllAt (fun H x y => TupAt H x (f y)) (upd (upd H p (.tup tv)) q (.lst (ls ++ [.ref p]))) (ls ++ [.ref p]) (ys ++ [y]) ∧
      (upd H p (.tup tv)) q = some (.lst ls) ∧ ∀ a o, a ≠ q → H a = some o → upd (upd H p (.tup tv)) q (.lst (ls ++ [.ref p])) a = some o := by
  have npq : q ≠ p := fun r => by rw [← r, hq] at hp; cases hp
  have e2 : (upd H p (.tup tv)) q = some (.lst ls) := (upd_ne npq).trans hq
  refine ⟨upd_same, AllAt.mono (fun _ _ => TupAt.mono (Tups.lst e2)) (AllAt.snoc (ha.mono fun _ _ => TupAt.mono (Tups.new hp)) ⟨p, rfl, by rw [upd_same, et]⟩), e2, fun a o na e => ?_⟩
  rw [upd_ne na]
  exact same_new hp _ _ e
theorem in_two (i a b : Int) : inV (.int i) [.int a, .int b] = decide (i = a ∨ i = b) := by
  show ((a == i) || ((b == i) || false)) = _
  rw [Bool.or_false, Bool.eq_iff_iff, Bool.or_eq_true, decide_eq_true_iff, beq_iff_eq, beq_iff_eq]
  constructor
  · rintro (h | h)
    · exact .inl h.symm
    · exact .inr h.symm
  · rintro (h | h)
    · exact .inl h.symm
    · exact .inr h.symm
def wordOf (kd : Bool) (h : Int) : Str := if kd = true then "kept" else if h = 0 then "top" else "open"
def StAt (K : PySem.W.Frag) (H : Hp) (p : Addr) (kd : Bool) (h t : Int) : Prop := ∃ w : Str, SqT K H p [.str w, .int h, .int t] ∧ decide (V.str w = V.str "kept") = kd ∧ w = wordOf kd h
theorem seqT_mono {K : PySem.W.Frag} {H H' : Hp} {p : Addr} {xs : List V} (a : ∀ o, H p = some o → H' p = some o) (h : SqT K H p xs) : SqT K H' p xs := by
  rcases h with (h | ⟨o, h⟩) | h
  · exact .inl (.inl (a _ h))
  · exact .inl (.inr ⟨o, a _ h⟩)
  · exact .inr h
theorem seqL_mono {K : PySem.W.Frag} {H H' : Hp} {p : Addr} {xs : List V} (a : ∀ o, H p = some o → H' p = some o) (h : SqL K H p xs) : SqL K H' p xs := by
  rcases h with (h | ⟨o, h⟩) | h
  · exact .inl (.inl (a _ h))
  · exact .inl (.inr ⟨o, a _ h⟩)
  · exact .inr h
section
variable {P : Program} {w : World} {K : PySem.W.Frag} {mg : Str → Option Value} {base : Heap} {tp C : Addr}
/-! ### line_place -/
def spPlace (K : PySem.W.Frag) : Sp := fun vs H Q _ => ∃ (a : Addr) (kd : Bool) (h t c s : Int) (i : Nat), vs = [.ref a, .int i, .int c, .int s] ∧ StAt K H a kd h t ∧
  ∀ p H', H p = none → Same H H' → H' p = some (.tup [.int (if i = 0 then s else 0), .bl (if i = 0 then kd else decide ((i : Int) = 1 ∨ (i : Int) = c - 1))]) → Q (.ref p) H'
abbrev sline_place : Stmt := topS 11
theorem scline_place : FnScope ["standing", "at", "count", "space"] ["standing", "at", "count", "space"] (defScope sline_place) := ⟨rfl, rfl, rfl, by decide +kernel, rfl, by decide +kernel, by decide +kernel⟩
theorem ok_place {f : Addr} {fd : FuncData} (F : Fun K "line_place" "line_place" sline_place f fd) : FnOk P w K mg base CX0 1 f fd ["standing", "at", "count", "space"] (spPlace K) := by
  refine F.ok scline_place (fun vs H Q E h => ?_) (fun cdv A outer s H vs Q E hr h => ?_)
  · obtain ⟨a, kd, h, t, c, s, i, rfl, _⟩ := h
    rfl
  · obtain ⟨a, kd, h, t, c, sp, i, rfl, ⟨wd, ha, hk, _⟩, k⟩ := h
    refine ⟨_, (pss_cons (ps_if (pt_cmpR op_eq (pv 1) pe_int (nomark _))
        (pss_one (ps_ret (pe_tup (pa_cons (pv 3) (pa_cons (pe_cmpR op_eq (pe_ix ix_tup (pv 0) pe_int (fun _ _ => rfl)) pe_str (nomark _)) pa_nil)))))
        pss_nil)
      (pss_one (ps_ret (pe_tup (pa_cons pe_int (pa_cons (pe_cmpR op_in_seq (pv 1) (pe_tup (pa_cons pe_int (pa_cons (pe_op op_sub (pv 2) pe_int) pa_nil))) (by rfl)) pa_nil)))))), ?_⟩
    refine ⟨_, rfl, rfl, _, rfl, ite2 (fun h1 => ?_) (fun h1 => ?_)⟩
    · have hi : i = 0 := by
        have := V.int.inj (of_decide_eq_true h1)
        omega
      refine ⟨_, rfl, _, rfl, a, _, _, _, rfl, rfl, ha, atI_nat (j := 0) rfl, rfl, (by show 2 ≤ sizeLine; decide), fun p hp => ?_⟩
      refine k p _ hp (same_new hp) ?_
      rw [upd_same, hi, if_pos rfl, if_pos rfl, ← hk]
    · have hi : ¬ i = 0 := fun q => h1 (decide_eq_true (by rw [q]; rfl))
      refine ⟨_, rfl, _, rfl, _, _, rfl, rfl, (by show 2 ≤ sizeLine; decide), fun q hq => ⟨q, _, rfl, .inr (SqT.of upd_same), rfl, rfl, (by show 2 ≤ sizeLine; decide), fun p hp => ?_⟩⟩
      have hp0 : H p = none := (same_new (o := .tup [V.int 1, V.int (c - 1)]) hq).free hp
      refine k p _ hp0 ((same_new hq).trans (same_new hp)) ?_
      rw [upd_same, if_neg hi, if_neg hi, ← in_two]
      rfl
/-! ### standing_of -/
def endK (L h t : Int) (k : Bool) : Bool × Int × Int := if h = L ∧ (k = false ∨ t = 0) then (false, 0, 0) else if k = true then (true, h, t) else (false, h, 0)
def spStand (K : PySem.W.Frag) : Sp := fun vs H Q _ => ∃ (L h t : Int) (k : Bool), vs = [.int L, .int h, .int t, .bl k] ∧ 1 ≤ h ∧
  ∀ p H', Same H H' → StAt K H' p (endK L h t k).1 (endK L h t k).2.1 (endK L h t k).2.2 → Q (.ref p) H'
theorem nt_ : decide (V.str "top" = V.str "kept") = false := by decide +kernel
theorem no_ : decide (V.str "open" = V.str "kept") = false := by decide +kernel
theorem nk_ : decide (V.str "kept" = V.str "kept") = true := by decide +kernel
abbrev sstanding_of : Stmt := topS 12
theorem scstanding_of : FnScope ["length", "height", "tail", "kept"] ["length", "height", "tail", "kept"] (defScope sstanding_of) := ⟨rfl, rfl, rfl, by decide +kernel, rfl, by decide +kernel, by decide +kernel⟩
theorem ok_stand {f : Addr} {fd : FuncData} (F : Fun K "standing_of" "standing_of" sstanding_of f fd) (T : Txt K mg tp C) : FnOk P w K mg base CX0 1 f fd ["length", "height", "tail", "kept"] (spStand K) := by
  refine F.ok scstanding_of (fun vs H Q E h => ?_) (fun cdv A outer s H vs Q E hr h => ?_)
  · obtain ⟨L, h, t, k, rfl, _⟩ := h
    rfl
  · obtain ⟨L, h, t, kp, rfl, h1h, k⟩ := h
    refine ⟨_, (pss_cons (ps_if (PW.pt (pw_and (pt_cmpR op_eq (pv 1) (pv 0) (nomark _)) (pw_and1 (PW.pt (pw_or (pt_not (pt_val (pv 3))) (pw_or1 (pt_cmpR op_eq (pv 2) pe_int (nomark _))))))))
        (pss_one (ps_ret (pe_glob (v := .ref tp) (by rfl) T.g_TOP rfl)))
        pss_nil)
      (pss_one (ps_ret (pe_ifExp (pt_val (pv 3)) (pe_tup (pa_cons pe_str (pa_cons (pv 1) (pa_cons (pv 2) pa_nil)))) (pe_tup (pa_cons pe_str (pa_cons (pv 1) (pa_cons pe_int pa_nil)))))))), ?_⟩
    have atop : (h = L ∧ (kp = false ∨ t = 0)) → Q (.ref tp) H := fun q => by
      refine k tp H (Same.refl H) ?_
      unfold endK
      rw [if_pos q]
      exact ⟨"top", T.top H, nt_, rfl⟩
    refine join2 (c := ¬ (h = L ∧ (kp = false ∨ t = 0))) (G := ?G) (fun rest => ?br) (fun hn => ?fin)
    case br =>
      refine ⟨_, rfl, _, rfl, rfl, _, rfl, ite2 (fun h1 => ?_) (fun h1 => ?_)⟩
      · have e1 := V.int.inj (of_decide_eq_true h1)
        rcases twoB kp with hb | hb
        · refine ⟨_, rfl, _, rfl, iteQ (notT hb) ⟨_, rfl, rfl, _, rfl, ite2 (fun h2 => ?_) (fun h2 => ?_)⟩⟩
          · exact atop ⟨e1, .inr (V.int.inj (of_decide_eq_true h2))⟩
          · have nq : ¬ (h = L ∧ (kp = false ∨ t = 0)) := fun q => by
              rcases q.2 with q | q
              · rw [hb] at q; cases q
              · exact h2 (decide_eq_true (by rw [q]))
            exact rest nq
        · refine ⟨_, rfl, _, rfl, iteP (notF hb) (iteT ?_)⟩
          exact atop ⟨e1, .inl hb⟩
      · refine iteF ?_
        exact rest fun q => h1 (decide_eq_true (by rw [q.1]))
    case fin =>
      unfold endK at k
      rw [if_neg hn] at k
      cases kp with
      | true =>
        refine ⟨_, rfl, _, rfl, iteT ⟨_, rfl, _, rfl, (by show 3 ≤ sizeLine; decide), fun p hp => ?_⟩⟩
        exact k p _ (same_new hp) ⟨"kept", SqT.of upd_same, nk_, rfl⟩
      | false =>
        refine ⟨_, rfl, _, rfl, iteF ⟨_, rfl, (by show 3 ≤ sizeLine; decide), fun p hp => ?_⟩⟩
        exact k p _ (same_new hp) ⟨"open", SqT.of upd_same, no_, (if_neg (show ¬ h = 0 by omega)).symm⟩
end
end Pa
set_option maxRecDepth 100000
set_option maxHeartbeats 4000000
namespace Pa
open PySem PySem.Spec PyProof.Rows L2
/-- a book's blocks: few, small -/
structure Book (bs : List Bl) : Prop where
  few : bs.length ≤ 20
  small : ∀ b ∈ bs, b.c ≤ 100 ∧ 0 ≤ b.s
theorem linesOf_len (bs : List Bl) : ∀ n, (∀ b ∈ bs, b.c ≤ n) → (linesOf bs).ls.length ≤ bs.length * n := by
  intro n
  rw [← List.reverse_reverse bs]
  generalize bs.reverse = r
  induction r with
  | nil => intro _; simp [linesOf]
  | cons b r ih =>
    intro h
    rw [List.reverse_cons] at h ⊢
    rw [linesOf_snoc, List.length_append, List.length_singleton]
    have h1 := ih fun x hx => h x (List.mem_append_left _ hx)
    have h2 := h b (by simp)
    show ((linesOf r.reverse).ls ++ blLines b.c b.s (linesOf r.reverse).kp ((linesOf r.reverse).du || b.g) b.c).length ≤ _
    rw [List.length_append, Nat.add_mul, Nat.one_mul]
    have : (blLines b.c b.s (linesOf r.reverse).kp ((linesOf r.reverse).du || b.g) b.c).length = b.c := by unfold blLines; simp
    omega
theorem Book.len {bs : List Bl} (B : Book bs) : (linesOf bs).ls.length ≤ 2000 := by
  have h1 := linesOf_len bs 100 fun b hb => (B.small b hb).1
  have h2 := B.few
  omega
theorem AllAt.imp {α : Type} {R : Hp → V → α → Prop} {H H' : Hp} : ∀ {xs : List V} {ys : List α}, (∀ x y, x ∈ xs → R H x y → R H' x y) → AllAt R H xs ys → AllAt R H' xs ys
  | [], [], _, _ => trivial
  | x :: xs, _ :: _, f, h => ⟨f _ _ List.mem_cons_self h.1, AllAt.imp (fun x y hx => f x y (List.mem_cons_of_mem _ hx)) h.2⟩
  | [], _ :: _, _, h => h.elim
  | _ :: _, [], _, h => h.elim
theorem AllAt.rev {α : Type} {R : Hp → V → α → Prop} {H : Hp} : ∀ {xs : List V} {ys : List α}, AllAt R H xs ys → AllAt R H xs.reverse ys.reverse
  | [], [], _ => trivial
  | x :: xs, y :: ys, h => by
    rw [List.reverse_cons, List.reverse_cons]
    exact AllAt.snoc (AllAt.rev h.2) h.1
  | [], _ :: _, h => h.elim
  | _ :: _, [], h => h.elim
theorem dec_int (r z : Int) : decide (V.int r = V.int z) = decide (r = z) := by
  by_cases h : r = z
  · rw [h]; simp
  · rw [decide_eq_false h, decide_eq_false (fun q => h (V.int.inj q))]
theorem ln_get {ls : List Ln} {i : Nat} {l : Ln} (h : ls[i]? = some l) : ln ls i = l := by
  unfold ln
  rw [h]
  rfl
theorem lnTo {H : Hp} {lv : List V} {ls : List Ln} {i : Nat} (h : AllAt LnAt H lv ls) (hi : i < ls.length) : ∃ t, lv[i]? = some (.ref t) ∧ H t = some (.tup [.int (ln ls i).sp, .bl (ln ls i).br, .bl (ln ls i).du]) := by
  obtain ⟨x, hx, t, rfl, ht⟩ := h.to (List.getElem?_eq_getElem hi)
  have e : ln ls i = ls[i] := ln_get (List.getElem?_eq_getElem hi)
  rw [← e] at ht
  exact ⟨t, hx, ht⟩
theorem lnTo' {H H' : Hp} {lv : List V} {ls : List Ln} {i : Nat} (s : Same H H') (h : AllAt LnAt H lv ls) (hi : i < ls.length) : ∃ t, lv[i]? = some (.ref t) ∧ H' t = some (.tup [.int (ln ls i).sp, .bl (ln ls i).br, .bl (ln ls i).du]) := by
  obtain ⟨t, h1, h2⟩ := lnTo h hi
  exact ⟨t, h1, s _ _ h2⟩
end Pa
set_option maxRecDepth 100000
set_option maxHeartbeats 4000000
namespace Pa
open PySem PySem.Spec PyProof.Rows L2
/-! ### methods, by one fact each -/
structure MethOk (P : Program) (w : World) (K : PySem.W.Frag) (mg : Str → Option Value) (base : Heap) (C : Addr) (k : Nat) (m : Str) (ps : List Str) (sp : Sp) : Prop where
  ok : ∃ (f : Addr) (fd : FuncData), Meth K C m f ∧ Binds K fd ps [] ∧ FnOk P w K mg base CX0 k f fd ps sp
section
variable {X : Cx} {k : Nat} {ps : List Str} {sp : Sp} {m : Str} {C : Addr} {apos pos : Pos} {o e : Expr} {es : List Expr} {t : TA} {ta : TE} {pl : Sem Bool}
theorem pe_mc (he : PE X o ta) (c : Cls X.K C) (M : MethOk X.prog X.w X.K X.mg X.base C k m ps sp) (hr : Room k X.A) (ha : PA X (e :: es) t)
    (hst : starEach (e :: es) X.env = (false, eval e X.env) :: starEach es X.env := by rfl) (hpl : (backTo pos (starEach es X.env)).any (·.1) = false := by rfl)
    (ht : eval (.Call (.Attribute o m apos) (e :: es) [] pos) X.env = (do
      let z ← eval o X.env
      standAt apos.atName
      let (f, first) ← holding [z] (getMethod z m pl)
      callWith pos f first (backTo pos (starEach (e :: es) X.env)) (backToKw pos (keywordEach [] X.env))) := by rfl) :
    PE X (.Call (.Attribute o m apos) (e :: es) [] pos) (tMeth C m sp [] E0 ta t) := by
  obtain ⟨f, fd, h1, h2, h3⟩ := M.ok
  exact pe_meth he c h1 h3 hr h2 .nil pass0 ha hst hpl ht
theorem pe_mc0 (he : PE X o ta) (c : Cls X.K C) (M : MethOk X.prog X.w X.K X.mg X.base C k m ps sp) (hr : Room k X.A)
    (ht : eval (.Call (.Attribute o m apos) [] [] pos) X.env = (do
      let z ← eval o X.env
      standAt apos.atName
      let (f, first) ← holding [z] (getMethod z m pl)
      callWith pos f first (backTo pos (starEach [] X.env)) (backToKw pos (keywordEach [] X.env))) := by rfl) :
    PE X (.Call (.Attribute o m apos) [] [] pos) (tMeth C m sp [] E0 ta tNil) := by
  obtain ⟨f, fd, h1, h2, h3⟩ := M.ok
  exact pe_meth0 he c h1 h3 hr h2 .nil pass0 ht
end
/-! ### a Page's attributes -/
def pf (L : Int) (st rl : Addr) (lo : Int) : List (Str × V) := [("length", .int L), ("_standing", .ref st), ("_rows", .ref rl), ("_loose", .int lo), ("_went_over", .bl false)]
section
variable (L : Int) (st rl : Addr) (lo : Int)
theorem pf_length : (pf L st rl lo).lookup ("length" : Str) = some (.int L) := rfl
theorem pf_standing : (pf L st rl lo).lookup ("_standing" : Str) = some (.ref st) := rfl
theorem pf_rows : (pf L st rl lo).lookup ("_rows" : Str) = some (.ref rl) := rfl
theorem pf_loose : (pf L st rl lo).lookup ("_loose" : Str) = some (.int lo) := rfl
theorem pf_went : (pf L st rl lo).lookup ("_went_over" : Str) = some (.bl false) := rfl
theorem put_standing (st' : Addr) : putF "_standing" (.ref st') (pf L st rl lo) = pf L st' rl lo := rfl
theorem put_loose (lo' : Int) : putF "_loose" (.int lo') (pf L st rl lo) = pf L st rl lo' := rfl
theorem no_settle : (pf L st rl lo).lookup ("_settle" : Str) = none := rfl
theorem no_put : (pf L st rl lo).lookup ("_put" : Str) = none := rfl
theorem no_over : (pf L st rl lo).lookup ("_go_over" : Str) = none := rfl
theorem no_begin : (pf L st rl lo).lookup ("begin" : Str) = none := rfl
theorem no_block : (pf L st rl lo).lookup ("block" : Str) = none := rfl
theorem no_finish : (pf L st rl lo).lookup ("finish" : Str) = none := rfl
theorem put_all (L : Int) (st rl : Addr) (lo : Int) : putF "_went_over" (.bl false) (putF "_loose" (.int lo) (putF "_rows" (.ref rl) (putF "_standing" (.ref st) (putF "length" (.int L) [])))) = pf L st rl lo := rfl
end
structure PA' (C : Addr) (L : Int) (x dx rl st : Addr) (lo : Int) (rows : List Int) (H : Hp) : Prop where
  ob : H x = some (.ins C dx (pf L st rl lo))
  rs : H rl = some (.lst (rows.map V.int))
def Keep (x rl : Addr) (H H' : Hp) : Prop := ∀ a o, a ≠ x → a ≠ rl → H a = some o → H' a = some o
theorem Keep.trans {x rl : Addr} {H H1 H2 : Hp} (a : Keep x rl H H1) (b : Keep x rl H1 H2) : Keep x rl H H2 := fun u o h1 h2 e => b u o h1 h2 (a u o h1 h2 e)
theorem Keep.of {x rl : Addr} {H H' : Hp} (a : Same H H') : Keep x rl H H' := fun u o _ _ e => a u o e
section
variable {C x dx rl st : Addr} {L lo : Int} {rows : List Int} {H H' : Hp}
theorem PA'.ne (h : PA' C L x dx rl st lo rows H) : x ≠ rl := fun q => by
  have e1 := h.ob
  rw [q, h.rs] at e1
  cases e1
theorem PA'.same (h : PA' C L x dx rl st lo rows H) (s : Same H H') : PA' C L x dx rl st lo rows H' := ⟨s _ _ h.ob, s _ _ h.rs⟩
theorem PA'.put (h : PA' C L x dx rl st lo rows H) (st' : Addr) (lo' : Int) : PA' C L x dx rl st' lo' rows (upd H x (.ins C dx (pf L st' rl lo'))) ∧ Keep x rl H (upd H x (.ins C dx (pf L st' rl lo'))) :=
  ⟨⟨upd_same, (upd_ne h.ne.symm).trans h.rs⟩, fun a o h1 _ e => (upd_ne h1).trans e⟩
theorem PA'.row (h : PA' C L x dx rl st lo rows H) (rows' : List Int) : PA' C L x dx rl st lo rows' (upd H rl (.lst (rows'.map V.int))) ∧ Keep x rl H (upd H rl (.lst (rows'.map V.int))) :=
  ⟨⟨(upd_ne h.ne).trans h.ob, upd_same⟩, fun a o _ h2 e => (upd_ne h2).trans e⟩
end
section
variable {P : Program} {w : World} {K : PySem.W.Frag} {mg : Str → Option Value} {base : Heap} {tp C : Addr}
/-! ### _settle -/
def spSettle (C : Addr) : Sp := fun vs H Q _ => ∃ (x dx rl st : Addr) (L lo : Int) (rows : List Int), vs = [.ref x] ∧ PA' C L x dx rl st lo rows H ∧ ∀ H', PA' C L x dx rl st 0 rows H' → Keep x rl H H' → Q .non H'
abbrev sPage__settle : Stmt := inClass (topS 14) 6
theorem scPage__settle : FnScope ["self"] ["self"] (defScope sPage__settle) := ⟨rfl, rfl, rfl, by decide +kernel, rfl, by decide +kernel, by decide +kernel⟩
theorem ok_settle {f : Addr} {fd : FuncData} (F : Fun K "_settle" "Page._settle" sPage__settle f fd) (T : Txt K mg tp C) : FnOk P w K mg base CX0 1 f fd ["self"] (spSettle C) := by
  refine F.ok scPage__settle (fun vs H Q E h => ?_) (fun cdv A outer s H vs Q E hr h => ?_)
  · obtain ⟨x, dx, rl, st, L, lo, rows, rfl, _⟩ := h
    rfl
  · obtain ⟨x, dx, rl, st, L, lo, rows, rfl, pa, k⟩ := h
    refine ⟨_, (pss_cons (ps_fld (pv 0) pe_int rfl)
      (pss_one (ps_if (pt_cmpR op_isN (pe_fld (pv 0) rfl) pe_non (nomark _))
        (pss_one (ps_fld (pv 0) pe_bl rfl))
        pss_nil))), ?_⟩
    obtain ⟨p1, p2⟩ := pa.put st 0
    refine ⟨_, rfl, x, C, dx, _, rfl, pa.ob, T.cl, T.nO, (by show 5 < 1000; decide), ?_⟩
    rw [put_loose]
    refine ⟨_, rfl, x, C, dx, _, _, rfl, p1.ob, T.cl, T.nW, pf_went _ _ _ _, rfl, _, rfl, iteF ?_⟩
    exact k _ p1 p2
/-! ### begin -/
def spBegin (C tp : Addr) : Sp := fun vs H Q _ => ∃ (x dx rl st : Addr) (L lo : Int) (rows : List Int), vs = [.ref x] ∧ PA' C L x dx rl st lo rows H ∧ ∀ H', PA' C L x dx rl tp 0 rows H' → Keep x rl H H' → Q .non H'
abbrev sPage_begin : Stmt := inClass (topS 14) 2
theorem scPage_begin : FnScope ["self"] ["self"] (defScope sPage_begin) := ⟨rfl, rfl, rfl, by decide +kernel, rfl, by decide +kernel, by decide +kernel⟩
theorem ok_begin {f : Addr} {fd : FuncData} (F : Fun K "begin" "Page.begin" sPage_begin f fd) (T : Txt K mg tp C) (M__settle : MethOk P w K mg base C 1 "_settle" ["self"] (spSettle C)) : FnOk P w K mg base CX0 2 f fd ["self"] (spBegin C tp) := by
  refine F.ok scPage_begin (fun vs H Q E h => ?_) (fun cdv A outer s H vs Q E hr h => ?_)
  · obtain ⟨x, dx, rl, st, L, lo, rows, rfl, _⟩ := h
    rfl
  · obtain ⟨x, dx, rl, st, L, lo, rows, rfl, pa, k⟩ := h
    refine ⟨_, (pss_cons (ps_fld (pv 0) (pe_glob (v := .ref tp) (by rfl) T.g_TOP rfl) rfl)
      (pss_one (ps_expr (pe_mc0 (pv 0) T.cl M__settle (hr.mono (by decide)))))), ?_⟩
    obtain ⟨p1, p2⟩ := pa.put tp lo
    refine ⟨_, rfl, x, C, dx, _, rfl, pa.ob, T.cl, T.nS, (by show 5 < 1000; decide), ?_⟩
    rw [put_standing]
    refine ⟨_, rfl, x, dx, _, rfl, p1.ob, no_settle _ _ _ _, x, dx, rl, tp, L, lo, rows, rfl, p1, fun H2 q1 q2 => ?_⟩
    exact k _ q1 (p2.trans q2)
/-! ### _put -/
def spPut (C : Addr) : Sp := fun vs H Q _ => ∃ (x dx rl st : Addr) (L lo h t : Int) (rows : List Int), vs = [.ref x, .int h, .int t] ∧ PA' C L x dx rl st lo rows H ∧ rows.length ≤ 100000 ∧ ∀ H', PA' C L x dx rl st (if t > 1 then lo + 1 else t) (rows ++ [h - 1]) H' → Keep x rl H H' → Q .non H'
abbrev sPage__put : Stmt := inClass (topS 14) 4
theorem scPage__put : FnScope ["self", "height", "tail"] ["self", "height", "tail"] (defScope sPage__put) := ⟨rfl, rfl, rfl, by decide +kernel, rfl, by decide +kernel, by decide +kernel⟩
theorem ok_put {f : Addr} {fd : FuncData} (F : Fun K "_put" "Page._put" sPage__put f fd) (T : Txt K mg tp C) (M__settle : MethOk P w K mg base C 1 "_settle" ["self"] (spSettle C)) : FnOk P w K mg base CX0 2 f fd ["self", "height", "tail"] (spPut C) := by
  refine F.ok scPage__put (fun vs H Q E h => ?_) (fun cdv A outer s H vs Q E hr h => ?_)
  · obtain ⟨x, dx, rl, st, L, lo, h, t, rows, rfl, _⟩ := h
    rfl
  · obtain ⟨x, dx, rl, st, L, lo, h, t, rows, rfl, pa, hlen, k⟩ := h
    refine ⟨_, (pss_cons (ps_expr (pe_bm PySem.F.plainAttrs_list PySem.F.slot_list_append PySem.F.type_list_append mt_append (pe_fld (pv 0) rfl) (pa_cons (pe_op op_sub (pv 1) pe_int) pa_nil)))
      (pss_one (ps_if (pt_cmpR op_gt (pv 2) pe_int (nomark _))
        (pss_one (ps_fldaug (pv 0) pe_int in_add))
        (pss_cons (ps_expr (pe_mc0 (pv 0) T.cl M__settle (hr.mono (by decide))))
        (pss_one (ps_fld (pv 0) (pv 2) rfl)))))), ?_⟩
    obtain ⟨p1, p2⟩ := pa.row (rows ++ [h - 1])
    have em : (rows ++ [h - 1]).map V.int = rows.map V.int ++ [.int (h - 1)] := by simp
    rw [em] at p1 p2
    refine ⟨_, rfl, x, C, dx, _, _, rfl, pa.ob, T.cl, T.nR, pf_rows _ _ _ _, .inl ⟨rfl, _, SqL.of pa.rs⟩, _, rfl, _, _, rfl, rfl, rl, _, _, rfl, rfl, pa.rs, ?_, ?_⟩
    · rw [List.length_map]; exact Nat.lt_of_le_of_lt hlen (by decide)
    refine ⟨_, rfl, _, _, rfl, rfl, _, rfl, ite2 (fun h1 => ?_) (fun h1 => ?_)⟩
    · rw [if_pos (of_decide_eq_true h1)] at k
      obtain ⟨q1, q2⟩ := p1.put st (lo + 1)
      refine ⟨_, rfl, x, C, dx, _, _, rfl, p1.ob, T.cl, T.nO, pf_loose _ _ _ _, _, _, rfl, rfl, dx, _, p1.ob, (by show 5 < 1000; decide), ?_⟩
      rw [put_loose]
      exact k _ q1 (p2.trans q2)
    · rw [if_neg (fun r => h1 (decide_eq_true r))] at k
      refine ⟨_, rfl, x, dx, _, rfl, p1.ob, no_settle _ _ _ _, x, dx, rl, st, L, lo, _, rfl, p1, fun H2 q1 q2 => ?_⟩
      obtain ⟨r1, r2⟩ := q1.put st t
      refine ⟨_, rfl, _, rfl, x, C, dx, _, rfl, q1.ob, T.cl, T.nO, (by show 5 < 1000; decide), ?_⟩
      rw [put_loose]
      exact k _ r1 ((p2.trans q2).trans r2)
end
end Pa
set_option maxRecDepth 100000
set_option maxHeartbeats 4000000
namespace Pa
open PySem PySem.Spec PyProof.Rows L2
theorem cutV_from {xs : List V} {n : Nat} (h : n ≤ xs.length) : cutV xs (some (n : Int)) none = xs.drop n := by
  unfold cutV
  rw [HT.sIx_nat, HT.sIx_none, Nat.min_eq_left h]
  exact List.take_of_length_le (by rw [List.length_drop]; exact Nat.le_refl _)
theorem looseOf_le (s : List Ln) : 0 ≤ looseOf s ∧ looseOf s ≤ (s.length : Int) := by
  unfold looseOf
  cases hc : cut s with
  | none => exact ⟨Int.le_refl _, Int.natCast_nonneg _⟩
  | some ab =>
    obtain ⟨a, b⟩ := ab
    obtain ⟨e, _, _⟩ := cut_spec hc
    have := congrArg List.length e
    rw [List.length_append] at this
    dsimp only
    omega
theorem rowsOf_ge (s : List Ln) (S : List (List Ln)) : s.length ≤ (rowsOf (s :: S)).length := by
  rw [rowsOf_cons, List.length_append, List.length_map, pgOf_len]
  omega
theorem run_lo {L : Int} (hL : 0 < L) {t : LS} {q : SB} (R : Rel L t q) {s : Int} (h0 : 0 ≤ s) (g : Bool) (c : Nat) : ∀ n : Nat,
    0 ≤ (runP L c s (due0 q g).kd ⟨(due0 q g).h, (due0 q g).t, (due0 q g).lo, (due0 q g).rows⟩ n).lo ∧
    (runP L c s (due0 q g).kd ⟨(due0 q g).h, (due0 q g).t, (due0 q g).lo, (due0 q g).rows⟩ n).lo ≤ ((runP L c s (due0 q g).kd ⟨(due0 q g).h, (due0 q g).t, (due0 q g).lo, (due0 q g).rows⟩ n).rows.length : Int)
  | 0 => by
    show 0 ≤ (due0 q g).lo ∧ (due0 q g).lo ≤ ((due0 q g).rows.length : Int)
    unfold due0
    cases g with
    | true => exact ⟨Int.le_refl _, Int.natCast_nonneg _⟩
    | false =>
      show 0 ≤ q.lo ∧ q.lo ≤ (q.rows.length : Int)
      cases hd : t.du with
      | true =>
        rw [(R.due hd).2.2.2]
        exact ⟨Int.le_refl _, Int.natCast_nonneg _⟩
      | false =>
        obtain ⟨seg, S', hS, _, hh⟩ := R.not hd
        have hr := R.rows
        rw [hS] at hr
        have h1 := looseOf_le seg
        have h2 := rowsOf_ge seg S'
        rw [hr]
        have zero : (0 : Int) ≤ 0 ∧ (0 : Int) ≤ ((rowsOf (seg :: S')).length : Int) := ⟨Int.le_refl _, Int.natCast_nonneg _⟩
        rcases hh with ⟨_, _, h3, h4⟩ | ⟨_, _, _, _, h5, _⟩
        · cases hk : t.kp with
          | true => rw [(h3 hk).2]; omega
          | false => rw [(h4 hk).2]; exact zero
        · rw [h5]; exact zero
  | n + 1 => by
    obtain ⟨_, seg, S', hS, _, _, _, h3, h4⟩ := lines_ok hL R h0 g c n
    rw [h3, h4, hS]
    have h1 := looseOf_le seg
    have h2 := rowsOf_ge seg S'
    omega
theorem overR_len (rows : List Int) (lo b : Int) : (overR rows lo b).length = rows.length := by
  unfold overR
  rw [List.length_append, List.length_map, List.length_take, List.length_drop]
  omega
theorem lineP_len (L : Int) (p : PS') (s : Int) (b : Bool) : (lineP L p s b).rows.length = p.rows.length + 1 := by
  unfold lineP
  dsimp only
  rw [List.length_append, List.length_singleton]
  split
  · rw [overR_len]
  · rfl
theorem runP_len (L : Int) (c : Nat) (s : Int) (kd : Bool) (p : PS') : ∀ n, (runP L c s kd p n).rows.length = p.rows.length + n
  | 0 => rfl
  | n + 1 => by
    show (lineP L _ _ _).rows.length = _
    rw [lineP_len, runP_len L c s kd p n]
    omega
theorem endP_eq (L : Int) (p : PS') (k : Bool) : endP L p k = ⟨(endK L p.h p.t k).1, (endK L p.h p.t k).2.1, (endK L p.h p.t k).2.2, if (endK L p.h p.t k).2.2 = 0 then 0 else p.lo, p.rows⟩ := by
  unfold endP endK
  split
  · rfl
  · split
    · rfl
    · rfl
theorem seqT_keep {K : PySem.W.Frag} {x rl C dx : Addr} {fs : List (Str × V)} {ys xs : List V} {H H' : Hp} {p : Addr} (hk : Keep x rl H H') (hx : H x = some (.ins C dx fs)) (hr : H rl = some (.lst ys)) (h : SqT K H p xs) : SqT K H' p xs := by
  rcases h with (h | ⟨o, h⟩) | h
  · exact .inl (.inl (hk _ _ (fun q => by rw [q, hx] at h; cases h) (fun q => by rw [q, hr] at h; cases h) h))
  · exact .inl (.inr ⟨o, hk _ _ (fun q => by rw [q, hx] at h; cases h) (fun q => by rw [q, hr] at h; cases h) h⟩)
  · exact .inr h
theorem StAt.keep {K : PySem.W.Frag} {x rl dx st p C : Addr} {L lo h t : Int} {rows : List Int} {kd : Bool} {H H' : Hp} (hk : Keep x rl H H') (pa : PA' C L x dx rl st lo rows H) (s : StAt K H p kd h t) : StAt K H' p kd h t := by
  obtain ⟨w, s1, s2, s3⟩ := s
  exact ⟨w, seqT_keep hk pa.ob pa.rs s1, s2, s3⟩
section
variable {P : Program} {w : World} {K : PySem.W.Frag} {mg : Str → Option Value} {base : Heap} {tp C : Addr}
/-! ### _go_over -/
def spOver (C : Addr) : Sp := fun vs H Q _ => ∃ (x dx rl st : Addr) (L lo bf : Int) (rows : List Int), vs = [.ref x, .int bf] ∧ PA' C L x dx rl st lo rows H ∧ 0 ≤ lo ∧ lo ≤ (rows.length : Int) ∧ rows.length ≤ 100000 ∧
  ∀ H', PA' C L x dx rl st lo (overR rows lo bf) H' → Keep x rl H H' → Q .non H'
abbrev sPage__go_over : Stmt := inClass (topS 14) 5
theorem scPage__go_over : FnScope ["self", "rows", "first", "row"] ["self", "rows"] (defScope sPage__go_over) := ⟨rfl, rfl, rfl, by decide +kernel, rfl, by decide +kernel, by decide +kernel⟩
theorem ok_over {f : Addr} {fd : FuncData} (F : Fun K "_go_over" "Page._go_over" sPage__go_over f fd) (T : Txt K mg tp C) : FnOk P w K mg base CX0 1 f fd ["self", "rows"] (spOver C) := by
  refine F.ok scPage__go_over (fun vs H Q E h => ?_) (fun cdv A outer s H vs Q E hr h => ?_)
  · obtain ⟨x, dx, rl, st, L, lo, bf, rows, rfl, _⟩ := h
    rfl
  · obtain ⟨x, dx, rl, st, L, lo, bf, rows, rfl, pa, lo0, lo1, hlen, k⟩ := h
    refine ⟨_, (pss_cons (ps_set (i := 2) scPage__go_over.nd rfl (.inl rfl) (pe_pure (pe_op op_sub (pe_callB call_len_seq (by rfl) T.b_len PySem.boot_len (pa_cons (pe_fld (pv 0) rfl) pa_nil)) (pe_fld (pv 0) rfl))))
      (pss_cons (ps_asg (pe_lc (own := [("row", 3)]) (g := gName 3) (tt := tYes) rfl scPage__go_over.nd (pi_list (pe_slice sl_list (pe_fld (pv 0) rfl) (po_some (pv 2)) po_none)) (blkOk_by (N := ["self", "rows", "first", "row"]) (sc := defScope sPage__go_over) (by decide +kernel)) (fun _ _ _ _ _ => (pg_name (i := 3) scPage__go_over.nd rfl (.inl rfl))) (fun _ _ _ _ _ => pts_nil) (fun _ _ _ _ _ => (pe_op op_sub (pv 3) (pv 1)))) (pg_end (pe_fld (pv 0) rfl) (pv 2)))
      (pss_one (ps_if (pt_cmpR op_isN (pe_fld (pv 0) rfl) pe_non (nomark _))
        (pss_one (ps_fld (pv 0) pe_bl rfl))
        pss_nil)))), ?_⟩
    have ea : ((rows.map V.int).length : Int) - lo = ((rows.length - lo.toNat : Nat) : Int) := by rw [List.length_map]; omega
    refine ⟨.int ((rows.length - lo.toNat : Nat) : Int), fun Q' hQ => ⟨_, rfl, x, C, dx, _, _, rfl, pa.ob, T.cl, T.nR, pf_rows _ _ _ _, rl, _, rfl, .inl (SqL.of pa.rs), _, rfl, x, C, dx, _, _, rfl, pa.ob, T.cl, T.nO, pf_loose _ _ _ _, _, _, rfl, rfl, ?_⟩, ?_⟩
    · rw [← ea] at hQ
      exact hQ
    generalize hn : rows.length - lo.toNat = n
    have hnl : n ≤ rows.length := by omega
    refine ⟨_, rfl, x, C, dx, _, _, rfl, pa.ob, T.cl, T.nR, pf_rows _ _ _ _, _, rfl, _, rfl, rl, _, rfl, SqL.of pa.rs, fun S hS => ⟨S, rfl, ⟨_, SqL.of upd_same⟩, fun D hD => ?_⟩⟩
    have ecut : cutV (rows.map V.int) (some (n : Int)) none = (rows.drop n).map V.int := by rw [cutV_from (by rw [List.length_map]; exact hnl), List.map_drop]
    rw [ecut] at hD ⊢
    have sS : Same H (upd H S (.lst ((rows.drop n).map V.int))) := same_new hS
    have hS0 : (upd H S (.lst ((rows.drop n).map V.int))) S = some (.lst ((rows.drop n).map V.int)) := upd_same
    generalize upd H S (.lst ((rows.drop n).map V.int)) = H1 at hD sS hS0 ⊢
    refine lc_list (K := K) (a := S) (xs := (rows.drop n).map V.int) (fun i H3 => Same H1 H3 ∧ H3 D = some (.lst (((rows.drop n).take i).map fun r => V.int (r - bf)))) ⟨same_new hD, upd_same⟩ (fun i H3 _ q => SqL.of (q.1 _ _ hS0)) ?_ ?_
    · rintro i y H3 hi ⟨s3, h3⟩
      rw [List.getElem?_map] at hi
      obtain ⟨r, hr, rfl⟩ := Option.map_eq_some_iff.mp hi
      have hil : i < rows.length := by
        have := (List.getElem?_eq_some_iff.mp hr).1
        rw [List.length_drop] at this
        omega
      refine ⟨rfl, ?_⟩
      refine ⟨_, rfl, _, rfl, _, _, rfl, rfl, _, h3, ?_, fun q o e => ?_, ?_⟩
      · rw [List.length_map, List.length_take]
        exact Nat.lt_of_le_of_lt (m := 100000) (by omega) (by decide)
      · rw [upd_ne (fun r => by rw [r, hD] at e; cases e)]
        exact s3 _ _ e
      · rw [upd_same, List.take_add_one, hr]
        simp
    · rintro H3 ⟨s3, h3⟩
      rw [List.length_map, List.take_of_length_le (Nat.le_refl _)] at h3
      have sH : Same H H3 := sS.trans s3
      have nrD : rl ≠ D := fun r => by
        have := sS _ _ pa.rs
        rw [r, hD] at this
        cases this
      have el : (rows.map V.int).take n ++ (rows.drop n).map (fun r => V.int (r - bf)) = (overR rows lo bf).map V.int := by
        unfold overR
        rw [hn, List.map_append, List.map_map, ← List.map_take]
        rfl
      refine ⟨_, rfl, x, C, dx, _, _, rfl, sH _ _ pa.ob, T.cl, T.nR, pf_rows _ _ _ _, _, rfl, rl, D, _, _, n, rfl, rfl, rfl, sH _ _ pa.rs, h3, nrD, by rw [List.length_map]; exact hnl, ?_, ?_⟩
      · rw [List.length_map, List.length_map, List.length_drop]
        exact Nat.le_trans (m := 300000) (by omega) (by decide)
      rw [el]
      obtain ⟨p1, p2⟩ := (pa.same sH).row (overR rows lo bf)
      refine ⟨_, rfl, x, C, dx, _, _, rfl, p1.ob, T.cl, T.nW, pf_went _ _ _ _, rfl, _, rfl, iteF ?_⟩
      exact k _ p1 ((Keep.of sH).trans p2)
/-! ### __init__ -/
def spInit (C tp : Addr) : Sp := fun vs H Q _ => ∃ (x dx : Addr) (L : Int), vs = [.ref x, .int L] ∧ H x = some (.ins C dx []) ∧ ∀ H' rl, H rl = none → PA' C L x dx rl tp 0 [] H' → (∀ a o, a ≠ x → H a = some o → H' a = some o) → Q .non H'
abbrev sPage___init__ : Stmt := inClass (topS 14) 0
theorem scPage___init__ : FnScope ["self", "length"] ["self", "length"] (defScope sPage___init__) := ⟨rfl, rfl, rfl, by decide +kernel, rfl, by decide +kernel, by decide +kernel⟩
theorem ok_init {f : Addr} {fd : FuncData} (F : Fun K "__init__" "Page.__init__" sPage___init__ f fd) (T : Txt K mg tp C) : FnOk P w K mg base CX0 1 f fd ["self", "length"] (spInit C tp) := by
  refine F.ok scPage___init__ (fun vs H Q E h => ?_) (fun cdv A outer s H vs Q E hr h => ?_)
  · obtain ⟨x, dx, L, rfl, _⟩ := h
    rfl
  · obtain ⟨x, dx, L, rfl, hx, k⟩ := h
    refine ⟨_, (pss_cons (ps_fld (pv 0) (pv 1) rfl)
      (pss_cons (ps_fld (pv 0) (pe_glob (v := .ref tp) (by rfl) T.g_TOP rfl) rfl)
      (pss_cons (ps_fld (pv 0) (pe_lst pa_nil) rfl)
      (pss_cons (ps_fld (pv 0) pe_int rfl)
      (pss_one (ps_fld (pv 0) pe_bl rfl)))))), ?_⟩
    refine ⟨_, rfl, _, rfl, x, C, dx, _, rfl, hx, T.cl, T.nL, (by show 0 < 1000; decide), ?_⟩
    refine ⟨_, rfl, x, C, dx, _, rfl, upd_same, T.cl, T.nS, (by show 1 < 1000; decide), ?_⟩
    rw [upd_upd]
    refine ⟨Nat.zero_le _, fun rl hrl => ?_⟩
    have nx : x ≠ rl := fun r => by rw [r, upd_same] at hrl; cases hrl
    have hrl0 : H rl = none := (upd_ne nx.symm).symm.trans hrl
    refine ⟨_, rfl, x, C, dx, _, rfl, (upd_ne nx).trans upd_same, T.cl, T.nR, (by show 2 < 1000; decide), ?_⟩
    refine ⟨_, rfl, x, C, dx, _, rfl, upd_same, T.cl, T.nO, (by show 3 < 1000; decide), ?_⟩
    refine ⟨_, rfl, x, C, dx, _, rfl, upd_same, T.cl, T.nW, (by show 4 < 1000; decide), ?_⟩
    rw [upd_upd, upd_upd, put_all]
    refine k _ rl hrl0 ⟨upd_same, (upd_ne nx.symm).trans upd_same⟩ fun a o ha e => ?_
    rw [upd_ne ha, upd_ne (ne_of_none e hrl0), upd_ne ha]
    exact e
/-! ### finish -/
def spFinish (C : Addr) : Sp := fun vs H Q _ => ∃ (x dx rl st : Addr) (L lo : Int) (rows : List Int), vs = [.ref x] ∧ PA' C L x dx rl st lo rows H ∧ rows.length ≤ 100000 ∧ ∀ p H' ys, H p = none → Same H H' → H' p = some (.lst ys) → AllAt RwAt H' ys rows → Q (.ref p) H'
abbrev sPage_finish : Stmt := inClass (topS 14) 11
theorem scPage_finish : FnScope ["self", "row"] ["self"] (defScope sPage_finish) := ⟨rfl, rfl, rfl, by decide +kernel, rfl, by decide +kernel, by decide +kernel⟩
theorem ok_finish {f : Addr} {fd : FuncData} (F : Fun K "finish" "Page.finish" sPage_finish f fd) (T : Txt K mg tp C) : FnOk P w K mg base CX0 1 f fd ["self"] (spFinish C) := by
  refine F.ok scPage_finish (fun vs H Q E h => ?_) (fun cdv A outer s H vs Q E hr h => ?_)
  · obtain ⟨x, dx, rl, st, L, lo, rows, rfl, _⟩ := h
    rfl
  · obtain ⟨x, dx, rl, st, L, lo, rows, rfl, pa, hlen, k⟩ := h
    refine ⟨_, (pss_one (ps_ret (pe_lc (own := [("row", 1)]) (g := gName 1) (tt := tYes) rfl scPage_finish.nd (pi_list (pe_fld (pv 0) rfl)) (blkOk_by (N := ["self", "row"]) (sc := defScope sPage_finish) (by decide +kernel)) (fun _ _ _ _ _ => (pg_name (i := 1) scPage_finish.nd rfl (.inl rfl))) (fun _ _ _ _ _ => pts_nil) (fun _ _ _ _ _ => (pe_tup (pa_cons (pe_cmpR op_eq (pv 1) pe_int (nomark _)) (pa_cons (pv 1) pa_nil))))))), ?_⟩
    refine ⟨_, rfl, x, C, dx, _, _, rfl, pa.ob, T.cl, T.nR, pf_rows _ _ _ _, rl, rfl, ⟨_, SqL.of pa.rs⟩, fun D hD => ?_⟩
    refine lc_list (K := K) (a := rl) (xs := rows.map V.int) (fun i H3 => Same H H3 ∧ ∃ acc, H3 D = some (.lst acc) ∧ AllAt RwAt H3 acc (rows.take i)) ⟨same_new hD, [], upd_same, trivial⟩ (fun i H3 _ q => SqL.of (q.1 _ _ pa.rs)) ?_ ?_
    · rintro i y H3 hi ⟨s3, acc, hacc, hra⟩
      rw [List.getElem?_map] at hi
      obtain ⟨r, hr, rfl⟩ := Option.map_eq_some_iff.mp hi
      refine ⟨rfl, ?_⟩
      refine ⟨_, rfl, rfl, _, rfl, (by show 2 ≤ sizeLine; decide), fun p hp => ?_⟩
      obtain ⟨p1, p2, p3, p4⟩ := all_push (f := fun r : Int => [.bl (decide (r = 0)), .int r]) (y := r) (tv := [.bl (decide (V.int r = V.int 0)), .int r]) hacc hra hp (by rw [dec_int])
      refine ⟨acc, p3, ?_, fun q o e => p4 q o (fun r => by rw [r, hD] at e; cases e) (s3 _ _ e), _, p1, ?_⟩
      · rw [hra.len, List.length_take]
        exact Nat.lt_of_le_of_lt (m := 100000) (by omega) (by decide)
      · rw [List.take_add_one, hr]
        exact p2
    · rintro H3 ⟨s3, acc, hacc, hra⟩
      rw [List.length_map, List.take_of_length_le (Nat.le_refl _)] at hra
      exact k D H3 acc hD s3 hacc hra
end
end Pa
set_option maxRecDepth 100000
set_option maxHeartbeats 4000000
namespace Pa
open PySem PySem.Spec PyProof.Rows L2
theorem run_h {L : Int} (hL : 0 < L) {t : LS} {q : SB} (R : Rel L t q) {s : Int} (h0 : 0 ≤ s) (g : Bool) (c : Nat) : ∀ n : Nat, n ≠ 0 → 1 ≤ (runP L c s (due0 q g).kd ⟨(due0 q g).h, (due0 q g).t, (due0 q g).lo, (due0 q g).rows⟩ n).h
  | 0, h => absurd rfl h
  | n + 1, _ => by
    obtain ⟨nn, seg, S', hS, hne, h1, _⟩ := lines_ok hL R h0 g c n
    rw [hS] at nn
    have := lastRow_nonneg (nn seg List.mem_cons_self)
    rw [h1]
    omega
section
variable {P : Program} {w : World} {K : PySem.W.Frag} {mg : Str → Option Value} {base : Heap} {tp C : Addr}
def spBlock (K : PySem.W.Frag) (C : Addr) : Sp := fun vs H Q _ => ∃ (x dx rl st : Addr) (L : Int) (q : SB) (b : Bl) (t : LS), vs = [.ref x, .int (b.c : Int), .int b.s, .bl b.k, .bl b.g] ∧ PA' C L x dx rl st q.lo q.rows H ∧ StAt K H st q.kd q.h q.t ∧
  2 ≤ L ∧ Rel L t q ∧ 0 ≤ b.s ∧ b.c ≤ 100 ∧ q.rows.length ≤ 5000 ∧
  ∀ H' st', PA' C L x dx rl st' (blockP L q b).lo (blockP L q b).rows H' → StAt K H' st' (blockP L q b).kd (blockP L q b).h (blockP L q b).t → Keep x rl H H' → Q .non H'
abbrev sPage_block : Stmt := inClass (topS 14) 3
theorem scPage_block : FnScope ["self", "count", "space", "kept", "page", "ahead", "height", "tail", "at", "above", "barred", "before", "over"] ["self", "count", "space", "kept", "page"] (defScope sPage_block) := ⟨rfl, rfl, rfl, by decide +kernel, rfl, by decide +kernel, by decide +kernel⟩
theorem ok_block {f : Addr} {fd : FuncData} (F : Fun K "block" "Page.block" sPage_block f fd) (T : Txt K mg tp C) (M__settle : MethOk P w K mg base C 1 "_settle" ["self"] (spSettle C)) (M_begin : MethOk P w K mg base C 2 "begin" ["self"] (spBegin C tp))
    (M__put : MethOk P w K mg base C 2 "_put" ["self", "height", "tail"] (spPut C)) (M__go_over : MethOk P w K mg base C 1 "_go_over" ["self", "rows"] (spOver C))
    (C_line_place : CallOk P w K mg base 1 "line_place" ["standing", "at", "count", "space"] (spPlace K)) (C_next_line : CallOk P w K mg base 2 "next_line" ["length", "height", "tail", "space", "barred"] spNext)
    (C_standing_of : CallOk P w K mg base 1 "standing_of" ["length", "height", "tail", "kept"] (spStand K)) : FnOk P w K mg base CX0 3 f fd ["self", "count", "space", "kept", "page"] (spBlock K C) := by
  refine F.ok scPage_block (fun vs H Q E h => ?_) (fun cdv A outer s H vs Q E hr h => ?_)
  · obtain ⟨x, dx, rl, st, L, q, b, t, rfl, _⟩ := h
    rfl
  · obtain ⟨x, dx, rl, st, L, q, b, t, rfl, pa, hst, hL, R, hs, hc, hql, k⟩ := h
    refine ⟨_, (pss_cons (ps_by (ps_if (pt_val (pv 4))
        (pss_one (ps_expr (pe_mc0 (pv 0) T.cl M_begin (hr.mono (by decide)))))
        pss_nil))
      (pss_cons (ps_if (pt_cmpR op_eq (pv 1) pe_int (nomark _))
        (pss_one ps_retN)
        pss_nil)
      (pss_cons (ps_set (i := 5) scPage_block.nd rfl (.inl rfl) (pe_fld (pv 0) rfl))
      (pss_cons (ps_asg (pe_slice sl_tup (pv 5) (po_some pe_int) po_none) (pg_tup rfl (pgs_cons (pg_name (i := 6) scPage_block.nd rfl (.inl rfl)) (pgs_cons (pg_name (i := 7) scPage_block.nd rfl (.inl rfl)) pgs_nil))))
      (pss_cons (ps_for PassesOwn.never rfl (pi_range1 (by rfl) T.b_range (pa_cons (pv 1) pa_nil)) (pg_name (i := 8) scPage_block.nd rfl (.inl rfl))
        (pss_cons (ps_asg (pe_cc C_line_place (hr.mono (by decide)) (by rfl) (pa_cons (pv 5) (pa_cons (pv 8) (pa_cons (pv 1) (pa_cons (pv 2) pa_nil))))) (pg_tup rfl (pgs_cons (pg_name (i := 9) scPage_block.nd rfl (.inl rfl)) (pgs_cons (pg_name (i := 10) scPage_block.nd rfl (.inl rfl)) pgs_nil))))
        (pss_cons (ps_set (i := 11) scPage_block.nd rfl (.inl rfl) (pe_op op_sub (pv 6) (pv 7)))
        (pss_cons (ps_asg (pe_cc C_next_line (hr.mono (by decide)) (by rfl) (pa_cons (pe_fld (pv 0) rfl) (pa_cons (pv 6) (pa_cons (pv 7) (pa_cons (pv 9) (pa_cons (pv 10) pa_nil)))))) (pg_tup rfl (pgs_cons (pg_name (i := 6) scPage_block.nd rfl (.inl rfl)) (pgs_cons (pg_name (i := 7) scPage_block.nd rfl (.inl rfl)) (pgs_cons (pg_name (i := 12) scPage_block.nd rfl (.inl rfl)) pgs_nil)))))
        (pss_cons (ps_by (ps_if (pt_val (pv 12))
          (pss_one (ps_expr (pe_mc (pv 0) T.cl M__go_over (hr.mono (by decide)) (pa_cons (pv 11) pa_nil))))
          pss_nil))
        (pss_one (ps_expr (pe_mc (pv 0) T.cl M__put (hr.mono (by decide)) (pa_cons (pv 6) (pa_cons (pv 7) pa_nil))))))))))
      (pss_cons (ps_fld (pv 0) (pe_cc C_standing_of (hr.mono (by decide)) (by rfl) (pa_cons (pe_fld (pv 0) rfl) (pa_cons (pv 6) (pa_cons (pv 7) (pa_cons (pv 3) pa_nil))))) rfl)
      (pss_one (ps_if (pt_cmpR op_eq (pe_ix ix_tup (pe_fld (pv 0) rfl) pe_int (fun _ _ => rfl)) pe_int (nomark _))
        (pss_one (ps_expr (pe_mc0 (pv 0) T.cl M__settle (hr.mono (by decide)))))
        pss_nil)))))))), ?_⟩
    have hL0 : 0 < L := by omega
    -- if page: self.begin()
    refine ⟨fun σ' H1 => σ' = [some (.ref x), some (.int (b.c : Int)), some (.int b.s), some (.bl b.k), some (.bl b.g), none, none, none, none, none, none, none, none] ∧ ∃ st0, PA' C L x dx rl st0 (due0 q b.g).lo (due0 q b.g).rows H1 ∧ StAt K H1 st0 (due0 q b.g).kd (due0 q b.g).h (due0 q b.g).t ∧ Keep x rl H H1, fun N hN => ?_, ?_⟩
    · rcases twoB b.g with hg | hg
      · refine ⟨_, rfl, _, rfl, iteP hg ?_⟩
        refine ⟨_, rfl, x, dx, _, rfl, pa.ob, no_begin _ _ _ _, x, dx, rl, st, L, q.lo, q.rows, rfl, pa, fun H1 p1 k1 => ?_⟩
        refine hN _ _ ⟨rfl, tp, ?_⟩
        unfold due0
        rw [if_pos hg]
        exact ⟨p1, ⟨"top", T.top H1, nt_, rfl⟩, k1⟩
      · refine ⟨_, rfl, _, rfl, iteQ (neT hg) ?_⟩
        refine hN _ _ ⟨rfl, st, ?_⟩
        unfold due0
        rw [if_neg (neT hg)]
        exact ⟨pa, hst, fun a o _ _ e => e⟩
    rintro σ' H1 ⟨rfl, st0, pa1, hst1, k1⟩
    -- if count == 0: return
    refine ⟨_, rfl, rfl, _, rfl, ite2 (fun h1 => ?_) (fun h1 => ?_)⟩
    · have hc0 : b.c = 0 := by
        have := V.int.inj (of_decide_eq_true h1)
        omega
      have e : blockP L q b = due0 q b.g := by unfold blockP; rw [if_pos hc0]
      rw [e] at k
      exact k H1 st0 pa1 hst1 k1
    have hc0 : ¬ b.c = 0 := fun r => h1 (decide_eq_true (by rw [r]; rfl))
    have e : blockP L q b = endP L (runP L b.c b.s (due0 q b.g).kd ⟨(due0 q b.g).h, (due0 q b.g).t, (due0 q b.g).lo, (due0 q b.g).rows⟩ b.c) b.k := by unfold blockP; rw [if_neg hc0]
    rw [e, endP_eq] at k
    have hlo := run_lo hL0 R hs b.g b.c
    have hrh := run_h hL0 R hs b.g b.c b.c hc0
    have hrl : (due0 q b.g).rows = q.rows := by unfold due0; split <;> rfl
    have hrun := runP_len L b.c b.s (due0 q b.g).kd ⟨(due0 q b.g).h, (due0 q b.g).t, (due0 q b.g).lo, (due0 q b.g).rows⟩
    have hrun' : ∀ n, (runP L b.c b.s (due0 q b.g).kd ⟨(due0 q b.g).h, (due0 q b.g).t, (due0 q b.g).lo, (due0 q b.g).rows⟩ n).rows.length ≤ 5000 + n := fun n => by
      rw [hrun n]
      show (due0 q b.g).rows.length + n ≤ _
      rw [hrl]
      omega
    clear hrun hrl e R
    generalize due0 q b.g = q0 at pa1 hst1 k hlo hrun' hrh ⊢
    -- height, tail = ahead[1:]
    obtain ⟨wd, hsq, hkd, _⟩ := id hst1
    refine ⟨_, rfl, x, C, dx, _, _, rfl, pa1.ob, T.cl, T.nS, pf_standing _ _ _ _, ?_⟩
    refine ⟨_, rfl, _, rfl, st0, _, rfl, hsq, (fun z => absurd z.1 (show ¬ (HT.sIx 3 0 (some 1) = 0) by decide)), fun u hu => ?_⟩
    have su := same_new (o := .tup (cutV [.str wd, .int q0.h, .int q0.t] (some 1) none)) hu
    refine ⟨u, _, rfl, SqT.of upd_same, rfl, _, _, rfl, _, _, rfl, rfl, ?_⟩
    have pa2 := pa1.same su
    have k2 : Keep x rl H _ := k1.trans (Keep.of su)
    have hst2 : StAt K _ st0 q0.kd q0.h q0.t := StAt.keep (Keep.of su) pa1 hst1
    generalize upd H1 u (.tup (cutV [.str wd, .int q0.h, .int q0.t] (some 1) none)) = H2 at pa2 k2 hst2
    -- the lines
    refine ⟨_, rfl, _, rfl, by omega, by omega, for_range (lo := 0) (n := ((b.c : Nat) : Int).toNat) (fun i σ H3 => ∃ (y8 y9 y10 y11 y12 : Option V), σ = [some (.ref x), some (.int (b.c : Int)), some (.int b.s), some (.bl b.k), some (.bl b.g), some (.ref st0),
        some (.int (runP L b.c b.s q0.kd ⟨q0.h, q0.t, q0.lo, q0.rows⟩ i).h), some (.int (runP L b.c b.s q0.kd ⟨q0.h, q0.t, q0.lo, q0.rows⟩ i).t), y8, y9, y10, y11, y12] ∧
        PA' C L x dx rl st0 (runP L b.c b.s q0.kd ⟨q0.h, q0.t, q0.lo, q0.rows⟩ i).lo (runP L b.c b.s q0.kd ⟨q0.h, q0.t, q0.lo, q0.rows⟩ i).rows H3 ∧ StAt K H3 st0 q0.kd q0.h q0.t ∧ Keep x rl H H3)
      ⟨none, none, none, none, none, rfl, pa2, hst2, k2⟩ ?_ ?_⟩
    · rintro i σ H3 hi ⟨y8, y9, y10, y11, y12, rfl, pa3, hst3, k3⟩
      have hi' : i < b.c := by omega
      have hlo3 := hlo i
      have hlen3 := hrun' i
      show gName 8 _ _ _ _
      rw [Int.zero_add]
      have er : runP L b.c b.s q0.kd ⟨q0.h, q0.t, q0.lo, q0.rows⟩ (i + 1) = lineP L (runP L b.c b.s q0.kd ⟨q0.h, q0.t, q0.lo, q0.rows⟩ i) (if i = 0 then b.s else 0) (if i = 0 then q0.kd else decide ((i : Int) = 1 ∨ (i : Int) = (b.c : Int) - 1)) := rfl
      rw [er]
      generalize runP L b.c b.s q0.kd ⟨q0.h, q0.t, q0.lo, q0.rows⟩ i = p at pa3 hlo3 hlen3 ⊢
      refine ⟨_, rfl, _, rfl, _, rfl, _, rfl, st0, q0.kd, q0.h, q0.t, (b.c : Int), b.s, i, rfl, hst3, fun u1 H4 hu1 s4 hu4 => ?_⟩
      refine ⟨u1, _, rfl, SqT.of hu4, rfl, _, _, rfl, _, _, rfl, rfl, ?_⟩
      refine ⟨_, rfl, _, rfl, _, _, rfl, rfl, ?_⟩
      have pa4 := pa3.same s4
      have hst4 : StAt K H4 st0 q0.kd q0.h q0.t := StAt.keep (Keep.of s4) pa3 hst3
      have k4 : Keep x rl H H4 := k3.trans (Keep.of s4)
      generalize (if i = 0 then b.s else 0) = sp
      generalize (if i = 0 then q0.kd else decide ((i : Int) = 1 ∨ (i : Int) = (b.c : Int) - 1)) = br
      refine ⟨_, rfl, x, C, dx, _, _, rfl, pa4.ob, T.cl, T.nL, pf_length _ _ _ _, _, rfl, _, rfl, _, rfl, _, rfl, L, p.h, p.t, sp, br, rfl, fun u2 hu2 => ?_⟩
      refine ⟨u2, _, rfl, SqT.of upd_same, rfl, _, _, rfl, _, _, rfl, _, _, rfl, rfl, ?_⟩
      unfold lineP
      generalize nextLine L p.h p.t sp br = nl
      have s5 := same_new (o := .tup [.int nl.h, .int nl.t, .bl nl.ov]) hu2
      have pa5 := pa4.same s5
      have hst5 : StAt K _ st0 q0.kd q0.h q0.t := StAt.keep (Keep.of s5) pa4 hst4
      have k5 : Keep x rl H _ := k4.trans (Keep.of s5)
      generalize upd H4 u2 (.tup [.int nl.h, .int nl.t, .bl nl.ov]) = H5 at pa5 hst5 k5
      refine ⟨fun σ' H6 => σ' = [some (.ref x), some (.int (b.c : Int)), some (.int b.s), some (.bl b.k), some (.bl b.g), some (.ref st0), some (.int nl.h), some (.int nl.t), some (.int (i : Int)), some (.int sp), some (.bl br), some (.int (p.h - p.t)), some (.bl nl.ov)] ∧
        PA' C L x dx rl st0 p.lo (if nl.ov = true then overR p.rows p.lo (p.h - p.t) else p.rows) H6 ∧ StAt K H6 st0 q0.kd q0.h q0.t ∧ Keep x rl H H6, fun N hN => ?_, ?_⟩
      · rcases twoB nl.ov with ho | ho
        · refine ⟨_, rfl, _, rfl, iteP ho ?_⟩
          refine ⟨_, rfl, x, dx, _, rfl, pa5.ob, no_over _ _ _ _, _, rfl, x, dx, rl, st0, L, p.lo, p.h - p.t, p.rows, rfl, pa5, hlo3.1, hlo3.2, by omega, fun H6 p6 k6 => ?_⟩
          refine hN _ _ ⟨rfl, ?_, StAt.keep k6 pa5 hst5, k5.trans k6⟩
          rw [if_pos ho]
          exact p6
        · refine ⟨_, rfl, _, rfl, iteQ (neT ho) ?_⟩
          refine hN _ _ ⟨rfl, ?_, hst5, k5⟩
          rw [if_neg (neT ho)]
          exact pa5
      · rintro σ' H6 ⟨rfl, p6, hst6, k6⟩
        have hl6 : (if nl.ov = true then overR p.rows p.lo (p.h - p.t) else p.rows).length ≤ 100000 := by
          split
          · rw [overR_len]; omega
          · omega
        refine ⟨_, rfl, x, dx, _, rfl, p6.ob, no_put _ _ _ _, _, rfl, _, rfl, x, dx, rl, st0, L, p.lo, nl.h, nl.t, _, rfl, p6, hl6, fun H7 p7 k7 => ?_⟩
        exact ⟨_, _, _, _, _, rfl, p7, StAt.keep k7 p6 hst6, k6.trans k7⟩
    · rintro σ H3 ⟨y8, y9, y10, y11, y12, rfl, pa3, hst3, k3⟩
      have e0 : ((b.c : Nat) : Int).toNat = b.c := Int.toNat_natCast _
      rw [e0] at pa3 ⊢
      generalize runP L b.c b.s q0.kd ⟨q0.h, q0.t, q0.lo, q0.rows⟩ b.c = p at pa3 k hrh ⊢
      refine ⟨_, rfl, x, C, dx, _, _, rfl, pa3.ob, T.cl, T.nL, pf_length _ _ _ _, _, rfl, _, rfl, _, rfl, L, p.h, p.t, b.k, rfl, hrh, fun st' H4 s4 hst4 => ?_⟩
      have pa4 := pa3.same s4
      obtain ⟨p5, k5⟩ := pa4.put st' p.lo
      have hst5 : StAt K _ st' _ _ _ := StAt.keep k5 pa4 hst4
      refine ⟨_, rfl, x, C, dx, _, rfl, pa4.ob, T.cl, T.nS, (by show 5 < 1000; decide), ?_⟩
      rw [put_standing]
      obtain ⟨wd2, hsq2, hkd2, _⟩ := id hst5
      have k6 : Keep x rl H _ := (k3.trans (Keep.of s4)).trans k5
      refine ⟨_, rfl, x, C, dx, _, _, rfl, p5.ob, T.cl, T.nS, pf_standing _ _ _ _, st', _, _, _, rfl, rfl, hsq2, atI_nat (j := 2) rfl, rfl, _, rfl, ite2 (fun h2 => ?_) (fun h2 => ?_)⟩
      · have ht0 := V.int.inj (of_decide_eq_true h2)
        refine ⟨_, rfl, x, dx, _, rfl, p5.ob, no_settle _ _ _ _, x, dx, rl, st', L, p.lo, p.rows, rfl, p5, fun H7 p7 k7 => ?_⟩
        refine k H7 st' ?_ (StAt.keep k7 p5 hst5) (k6.trans k7)
        rw [if_pos ht0]
        exact p7
      · have ht0 : ¬ (endK L p.h p.t b.k).2.2 = 0 := fun r => h2 (decide_eq_true (by rw [r]))
        refine k _ st' ?_ hst5 k6
        rw [if_neg ht0]
        exact p5
end
end Pa
set_option maxRecDepth 100000
set_option maxHeartbeats 4000000
namespace Pa
open PySem PySem.Spec PyProof.Rows L2 Builtin
/-! ### len(o) by an own __len__ -/
structure LenC (K : PySem.W.Frag) (C f : Addr) : Prop where
  at_ : PySem.W.findIn K (.ref C) "__len__" = some (some (.ref f))
  fn : PySem.W.isFn K (.ref f) = true
section
variable {prog : Program} {w : World} {A : Around} {E : Value → Shared → Prop} {K : PySem.W.Frag} {x C f : Addr} {ox : Obj} {od : Option Obj} {s : Shared}
theorem len_fn {Q : Value → Shared → Prop} (X : K.In s.heap) (I : PySem.W.InstAt s.heap x ox C od) (c : LenC K C f)
    (hcall : wpAny (model prog w) A.in1 (call (.ref f) [.ref x]) (fun r s' => ∃ n u, r = .int n u ∧ 0 ≤ n ∧ n < 2 ^ 63 ∧ Q (.int n s'.toks) { s' with toks := s'.toks + 1 }) E s) :
    wpAny (model prog w) A (call (.builtin "len") [.ref x]) Q E s := by
  refine Calls.call_function_entry kind_len plain_len entry_len (args_len1 _) ?_
  unfold Builtin.«len»
  refine wpAny_bind (m := oneArg "len" _) (wpAny_pure ?_)
  refine wpAny_bind (m := callSpecial? (.ref x) (Str.ofString "__len__")) (PySem.W.special_fn X I c.at_ (beq_iff_eq.mp c.fn) (wpAny_mono hcall (fun r s' hr => ?_) fun _ _ y => y))
  obtain ⟨n, u, rfl, h0, h1, hq⟩ := hr
  refine wpAny_bind (wpAny_holding (wpAny_pure ?_))
  refine wpAny_bind (wpAny_letGo ?_)
  show wpAny _ _ (if n < 0 then _ else _) _ _ _
  rw [if_neg (by omega)]
  show wpAny _ _ (if n ≥ 2 ^ 63 then _ else _) _ _ _
  rw [if_neg (by omega)]
  exact wpAny_bind (wpAny_mkInt (wpAny_pure ⟨_, rfl, hq⟩))
end
section
variable {X : Cx} {k : Nat} {C g : Addr} {fd : FuncData} {ps : List Str} {sp : Sp}
theorem call_lenOwn (hc : LenC X.K C g) (F : FnOk X.prog X.w X.K X.mg X.base CX0 k g fd ps sp) (hr : Room (k + 1) X.A) (hb : Binds X.K fd ps []) :
    CallR X (.builtin "len") (fun xs H Q => ∃ a dx fs, xs = [.ref a] ∧ H a = some (.ins C dx fs) ∧ sp [.ref a] H (fun v H' => ∃ n : Int, v = .int n ∧ 0 ≤ n ∧ n < 2 ^ 63 ∧ Q (.int n) H') E0) := by
  intro pins s σ H xs us Q I r h
  obtain ⟨a, dx, fs, rfl, ea, q⟩ := h
  obtain ⟨u, rfl, ru⟩ := vals1 r
  obtain rfl : u = Value.ref a := ru
  obtain ⟨mA, O, _, _, _, _⟩ := ins_get I.hok ea
  obtain ⟨od, J, _⟩ := O.look
  have hl : ([Value.ref a] ++ []).length = ps.length := F.len _ _ _ _ q
  refine len_fn I.kIn J hc (wpAny_call (codeAny_mono (F.run X.A.in1 X.stack s H ⟨[.ref a], []⟩ [.ref a] [.ref a] _ E0 hr.in1 I.env0.in1 (hb _ [.ref a] I.kIn hl) (.cons rfl .nil) q) fun r s' hq => ?_))
  cases r with
  | error er => exact pass0 pins σ H s er s' I hq
  | ok fl =>
    cases fl with
    | ret u =>
      obtain ⟨v, H', I3, rv, n, rfl, h0, h1, q3⟩ := I.after hq
      obtain ⟨tk, rfl⟩ := rv
      exact ⟨n, tk, rfl, h0, h1, .int n, H', I3.tok _, ⟨_, rfl⟩, q3⟩
    | next => exact False.elim hq
    | brk => exact False.elim hq
    | cont => exact False.elim hq
end
end Pa
set_option maxRecDepth 100000
set_option maxHeartbeats 4000000
namespace Pa
/-! ### the standing and the pending lines, by the law's own pages -/
structure StandM (L : Int) (ls : List Ln) (R : List Int) (kp : Bool) (q : SB) (f : Nat) (hi : Int) : Prop where
  lt : f < ls.length
  len : R.length = ls.length
  zero : R[f]? = some 0
  pos : ∀ k, f < k → R[k]? ≠ some 0
  last : R[ls.length - 1]? = some (hi - 1)
  hi0 : 0 < hi
  top : hi = L ∧ (kp = false ∨ freeL ls (f + 1) ls.length = []) → q.h = 0 ∧ q.t = 0 ∧ q.kd = false
  opn : ¬ (hi = L ∧ (kp = false ∨ freeL ls (f + 1) ls.length = [])) → kp = false → q.kd = false ∧ q.h = hi ∧ q.t = 0
  kept : ¬ (hi = L ∧ (kp = false ∨ freeL ls (f + 1) ls.length = [])) → kp = true → q.kd = true ∧ q.h = hi ∧ (freeL ls (f + 1) ls.length = [] → q.t = 0) ∧ ∀ e, (freeL ls (f + 1) ls.length).getLast? = some e → ∃ r, R[e]? = some r ∧ q.t = hi - r
theorem stand_ok {L : Int} (hL : 0 < L) {t : LS} {q : SB} (g : GoodLs t.ls) (Rl : Rel L t q) (X : Excl L t q) (hd : t.du = false) : ∃ f hi, StandM L t.ls (rowsOf (runS L t.ls)) t.kp q f hi := by
  obtain ⟨seg, S', hS, hne, hh⟩ := Rl.not hd
  have P := last_pg hL g hS hne
  have nn := Rl.nn
  rw [hS] at nn
  have h0 := lastRow_nonneg (nn seg List.mem_cons_self)
  have hnone : freeL t.ls (S'.reverse.flatten.length + 1) t.ls.length = [] → cut seg = none := fun e => by
    cases hc : cut seg with
    | none => rfl
    | some ab =>
      obtain ⟨a, b⟩ := ab
      have := (P.some a b hc).1
      rw [e] at this
      cases this
  have hx : ¬ (lastRow seg + 1 = L ∧ (t.kp = false ∨ freeL t.ls (S'.reverse.flatten.length + 1) t.ls.length = [])) → q.h = lastRow seg + 1 ∧ q.kd = t.kp ∧ (t.kp = true → q.t = tailOf seg ∧ q.lo = looseOf seg) ∧ (t.kp = false → q.t = 0 ∧ q.lo = 0) := fun hn => by
    rcases hh with h | ⟨h1, _, _, _, _, h2⟩
    · exact h
    · exact absurd ⟨h1, h2.imp id P.none⟩ hn
  refine ⟨S'.reverse.flatten.length, lastRow seg + 1, P.lt, P.len, P.zero, P.pos, ?_, by omega, fun h => ?_, fun hn hk => ?_, fun hn hk => ?_⟩
  · rw [P.last]; congr 1; omega
  · rcases hh with h' | ⟨_, h1, h2, h3, _, _⟩
    · exact absurd ⟨h.1, h.2.imp id hnone⟩ (X hd (by rw [h'.1]; omega) seg S' hS)
    · exact ⟨h1, h2, h3⟩
  · obtain ⟨h1, h2, h3, h4⟩ := hx hn
    exact ⟨by rw [h2, hk], h1, (h4 hk).1⟩
  · obtain ⟨h1, h2, h3, h4⟩ := hx hn
    obtain ⟨h5, h6⟩ := h3 hk
    refine ⟨by rw [h2, hk], h1, fun e => ?_, fun e he => ?_⟩
    · rw [h5]
      unfold tailOf
      rw [hnone e]
    · cases hc : cut seg with
      | none =>
        rw [P.none hc] at he
        cases he
      | some ab =>
        obtain ⟨a, b⟩ := ab
        obtain ⟨z1, z2, _⟩ := P.some a b hc
        rw [z1] at he
        cases he
        refine ⟨_, z2, ?_⟩
        rw [h5]
        unfold tailOf
        rw [hc]
        dsimp only
        omega
structure PendM (R : List Int) (q : SB) (n : Nat) : Prop where
  lo : q.lo = (n : Int)
  ge : ∀ j, j < n → ∀ r, R.reverse[j]? = some r → ¬ r < q.h - q.t
  lt : ∃ r, R.reverse[n]? = some r ∧ r < q.h - q.t
theorem pend_ok {L : Int} (hL : 0 < L) {t : LS} {q : SB} (g : GoodLs t.ls) (Rl : Rel L t q) : (q.t = 0 → q.lo = 0) ∧ (q.t ≠ 0 → ∃ n, PendM (rowsOf (runS L t.ls)) q n) := by
  cases hd : t.du with
  | true =>
    obtain ⟨h1, h2, h3, h4⟩ := Rl.due hd
    exact ⟨fun _ => h4, fun h => absurd h2 h⟩
  | false =>
    obtain ⟨seg, S', hS, hne, hh⟩ := Rl.not hd
    have nn := Rl.nn
    rw [hS] at nn
    rcases hh with ⟨h1, h2, h3, h4⟩ | ⟨_, _, h2, _, h3, _⟩
    · cases hk : t.kp with
      | false => exact ⟨fun _ => (h4 hk).2, fun h => absurd (h4 hk).1 h⟩
      | true =>
        obtain ⟨h5, h6⟩ := h3 hk
        refine ⟨fun h => ?_, fun h => ?_⟩
        · rw [h6]
          unfold looseOf
          rw [tail0 (nn seg List.mem_cons_self) (by rw [← h5]; exact h)]
        · have P := last_pg hL g hS hne
          cases hc : cut seg with
          | none =>
            refine absurd ?_ h
            rw [h5]
            unfold tailOf
            rw [hc]
          | some ab =>
            obtain ⟨a, b⟩ := ab
            obtain ⟨_, _, hb0, e1, e2, e3, e4, r, e5, e6⟩ := P.some a b hc
            have et : q.h - q.t = lastRow seg - lastRow b := by
              rw [h1, h5]
              unfold tailOf
              rw [hc]
              dsimp only
              omega
            refine ⟨b.length, ?_, fun j hj r hr => ?_, r, ?_, ?_⟩
            · rw [h6]
              unfold looseOf
              rw [hc]
            · rw [List.getElem?_reverse (by rw [P.len]; omega)] at hr
              rw [et]
              have := e4 _ (by rw [P.len]; omega) r hr
              omega
            · rw [List.getElem?_reverse (by rw [P.len]; omega), P.len, ← e5]
              congr 1
              omega
            · rw [et]; exact e6
    · exact ⟨fun _ => h3, fun h => absurd h2 h⟩
/-! ### what is settled stays, over blocks -/
theorem pre_trans {A B Cc : List Int} (h1 : B.take A.length = A) (h2 : Cc.take B.length = B) : Cc.take A.length = A := by
  have : A.length ≤ B.length := by
    have := congrArg List.length h1
    rw [List.length_take] at this
    omega
  rw [← h1]
  conv => rhs; rw [← h2]
  rw [List.take_take, h1, Nat.min_eq_left this]
theorem pre_rows (rows : List Int) (lo : Int) : (preS rows 0).take (preS rows lo).length = preS rows lo := by
  unfold preS
  rw [show ((0 : Int).toNat) = 0 from rfl, Nat.sub_zero, List.take_of_length_le (Nat.le_refl _), List.length_take]
  congr 1
  omega
theorem pre_self (rows : List Int) (lo : Int) : (preS rows lo).take (preS rows lo).length = preS rows lo := List.take_of_length_le (Nat.le_refl _)
theorem pre_block {L : Int} (hL : 0 < L) {t : LS} {q : SB} (R : Rel L t q) {b : Bl} (h0 : 0 ≤ b.s) : (preS (blockP L q b).rows (blockP L q b).lo).take (preS q.rows q.lo).length = preS q.rows q.lo := by
  have e0 : (preS (due0 q b.g).rows (due0 q b.g).lo).take (preS q.rows q.lo).length = preS q.rows q.lo := by
    unfold due0
    split
    · exact pre_rows _ _
    · exact pre_self _ _
  unfold blockP
  dsimp only
  split
  · exact e0
  · have hr : ∀ n, (preS (runP L b.c b.s (due0 q b.g).kd ⟨(due0 q b.g).h, (due0 q b.g).t, (due0 q b.g).lo, (due0 q b.g).rows⟩ n).rows (runP L b.c b.s (due0 q b.g).kd ⟨(due0 q b.g).h, (due0 q b.g).t, (due0 q b.g).lo, (due0 q b.g).rows⟩ n).lo).take (preS q.rows q.lo).length = preS q.rows q.lo := by
      intro n
      induction n with
      | zero => exact e0
      | succ n ih =>
        obtain ⟨l1, l2⟩ := run_lo hL R h0 b.g b.c n
        refine pre_trans ih (pre_line (s := if n = 0 then b.s else 0) ?_ l1 l2)
        split <;> omega
    refine pre_trans (hr b.c) ?_
    rw [endP_eq]
    dsimp only
    split
    · exact pre_rows _ _
    · exact pre_self _ _
end Pa
set_option maxRecDepth 100000
set_option maxHeartbeats 4000000
namespace Pa
open PySem PySem.Spec PyProof.Rows L2
def tByT (t : TT) : TT := fun σ H Q => ∃ R : Bool → Hp → Prop, (∀ Q' : Bool → Hp → Prop, (∀ v H', R v H' → Q' v H') → t σ H Q') ∧ ∀ v H', R v H' → Q v H'
theorem pt_by {X : Cx} {e : Expr} {t : TT} (h : PT X e t) : PT X e (tByT t) := ⟨fun pins s σ H Q I ⟨_, f, q⟩ => h.run pins s σ H Q I (f Q q)⟩
section
variable {P : Program} {w : World} {K : PySem.W.Frag} {mg : Str → Option Value} {base : Heap} {tp C : Addr}
/-! ### _law_number, of an int -/
def spNum : Sp := fun vs H Q _ => ∃ i : Int, vs = [.int i] ∧ Q (.bl true) H
abbrev sL_number : Stmt := topS 18
theorem scL_number : FnScope ["_law_thing"] ["_law_thing"] (defScope sL_number) := ⟨rfl, rfl, rfl, by decide +kernel, rfl, by decide +kernel, by decide +kernel⟩
theorem ok_number {f : Addr} {fd : FuncData} (F : Fun K "_law_number" "_law_number" sL_number f fd) (T : Txt K mg tp C) : FnOk P w K mg base CX0 1 f fd ["_law_thing"] spNum := by
  refine F.ok scL_number (fun vs H Q E h => ?_) (fun cdv A outer s H vs Q E hr h => ?_)
  · obtain ⟨i, rfl, _⟩ := h
    rfl
  · obtain ⟨i, rfl, k⟩ := h
    refine ⟨_, (pss_one (ps_ret (pe_and (pe_callB call_isi (by rfl) T.b_isinstance (by decide +kernel) (pa_cons (pv 0) (pa_cons (pe_bltn (v := .ty "int") (by rfl) T.b_int (by decide +kernel) rfl) pa_nil))) (pe_one (pe_not (pe_callB call_isi (by rfl) T.b_isinstance (by decide +kernel) (pa_cons (pv 0) (pa_cons (pe_bltn (v := .ty "bool") (by rfl) T.b_bool (by decide +kernel) rfl) pa_nil)))))))), ?_⟩
    refine ⟨_, rfl, _, _, _, _, true, rfl, .ty _, .base (.int _), kit_ty (by decide +kernel), _, rfl, iteT ?_⟩
    exact ⟨_, rfl, _, _, _, _, false, rfl, .ty _, .base (.int _), kit_ty (by decide +kernel), _, rfl, k⟩
/-! ### _law_block, _law_length -/
def spLBlock : Sp := fun vs H Q _ => ∃ (b : Addr), vs = [.ref b, .int 30] ∧ IsBag H b ∧ ∀ (p : Addr) (H' : Hp) (c : Nat) (s : Int) (k g : Bool), H p = none → Bk b H H' → H' p = some (.tup [.int (c : Int), .int s, .bl k, .bl g]) → c ≤ 30 → 0 ≤ s → Q (.ref p) H'
abbrev sL_block : Stmt := topS 23
theorem scL_block : FnScope ["_law_bag_here", "_law_most", "_law_count"] ["_law_bag_here", "_law_most"] (defScope sL_block) := ⟨rfl, rfl, rfl, by decide +kernel, rfl, by decide +kernel, by decide +kernel⟩
theorem ok_lblock {f : Addr} {fd : FuncData} (F : Fun K "_law_block" "_law_block" sL_block f fd) (C__law_draw : CallOk P w K mg base 1 "_law_draw" ["_law_bag_here", "_law_many"] spDraw) : FnOk P w K mg base CX0 2 f fd ["_law_bag_here", "_law_most"] spLBlock := by
  refine F.ok scL_block (fun vs H Q E h => ?_) (fun cdv A outer s H vs Q E hr h => ?_)
  · obtain ⟨b, rfl, _⟩ := h
    rfl
  · obtain ⟨b, rfl, hb, k⟩ := h
    refine ⟨_, (pss_cons (ps_set (i := 2) scL_block.nd rfl (.inl rfl) (pe_by (pe_ifExp (pt_cmpR op_eq (pe_cc C__law_draw (hr.mono (by decide)) (by rfl) (pa_cons (pv 0) (pa_cons pe_int pa_nil))) pe_int (nomark _)) (pe_cc C__law_draw (hr.mono (by decide)) (by rfl) (pa_cons (pv 0) (pa_cons (pe_op op_add (pv 1) pe_int) pa_nil))) (pe_cc C__law_draw (hr.mono (by decide)) (by rfl) (pa_cons (pv 0) (pa_cons pe_int pa_nil))))))
      (pss_one (ps_ret (pe_tup (pa_cons (pv 2) (pa_cons (pe_cc C__law_draw (hr.mono (by decide)) (by rfl) (pa_cons (pv 0) (pa_cons pe_int pa_nil))) (pa_cons (pe_cmpR op_eq (pe_cc C__law_draw (hr.mono (by decide)) (by rfl) (pa_cons (pv 0) (pa_cons pe_int pa_nil))) pe_int (nomark _)) (pa_cons (pe_cmpR op_eq (pe_cc C__law_draw (hr.mono (by decide)) (by rfl) (pa_cons (pv 0) (pa_cons pe_int pa_nil))) pe_int (nomark _)) pa_nil)))))))), ?_⟩
    refine ⟨fun v H' => ∃ c : Int, v = .int c ∧ 0 ≤ c ∧ c ≤ 30 ∧ Bk b H H', fun Q' hQ => ?_, ?_⟩
    · refine ⟨_, rfl, b, _, rfl, hb, by decide, by decide, fun d H1 d0 d1 B1 => ⟨rfl, _, rfl, ite2 (fun h1 => ?_) (fun h1 => ?_)⟩⟩
      · refine ⟨_, rfl, _, rfl, _, _, rfl, rfl, b, _, rfl, B1.bag, by decide, by decide, fun e H2 e0 e1 B2 => ?_⟩
        exact hQ _ _ ⟨e, rfl, e0, by omega, B1.trans B2⟩
      · refine ⟨_, rfl, b, _, rfl, B1.bag, by decide, by decide, fun e H2 e0 e1 B2 => ?_⟩
        exact hQ _ _ ⟨e, rfl, e0, by omega, B1.trans B2⟩
    · rintro v H1 ⟨c, rfl, c0, c1, B1⟩
      refine ⟨_, rfl, _, rfl, b, _, rfl, B1.bag, by decide, by decide, fun e H2 e0 e1 B2 => ?_⟩
      refine ⟨_, rfl, b, _, rfl, B2.bag, by decide, by decide, fun e' H3 e0' e1' B3 => ⟨rfl, ?_⟩⟩
      refine ⟨_, rfl, b, _, rfl, B3.bag, by decide, by decide, fun e'' H4 e0'' e1'' B4 => ⟨rfl, (by show 4 ≤ sizeLine; decide), fun p hp => ?_⟩⟩
      have BB := ((B1.trans B2).trans B3).trans B4
      have hc : ((c.toNat : Nat) : Int) = c := Int.toNat_of_nonneg c0
      refine k p _ c.toNat e (decide (V.int e' = V.int 1)) (decide (V.int e'' = V.int 7)) (BB.free hb hp) (BB.fresh hp) ?_ (by omega) e0
      rw [upd_same, hc]
def spLLength : Sp := fun vs H Q _ => ∃ (b : Addr), vs = [.ref b] ∧ IsBag H b ∧ ∀ (L : Int) (H' : Hp), 2 ≤ L → L ≤ 9 → Bk b H H' → Q (.int L) H'
abbrev sL_length : Stmt := topS 24
theorem scL_length : FnScope ["_law_bag_here"] ["_law_bag_here"] (defScope sL_length) := ⟨rfl, rfl, rfl, by decide +kernel, rfl, by decide +kernel, by decide +kernel⟩
theorem ok_llength {f : Addr} {fd : FuncData} (F : Fun K "_law_length" "_law_length" sL_length f fd) (C__law_draw : CallOk P w K mg base 1 "_law_draw" ["_law_bag_here", "_law_many"] spDraw) : FnOk P w K mg base CX0 2 f fd ["_law_bag_here"] spLLength := by
  refine F.ok scL_length (fun vs H Q E h => ?_) (fun cdv A outer s H vs Q E hr h => ?_)
  · obtain ⟨b, rfl, _⟩ := h
    rfl
  · obtain ⟨b, rfl, hb, k⟩ := h
    refine ⟨_, (pss_one (ps_ret (pe_op op_add pe_int (pe_ifExp (pt_cmpR op_eq (pe_cc C__law_draw (hr.mono (by decide)) (by rfl) (pa_cons (pv 0) (pa_cons pe_int pa_nil))) pe_int (nomark _)) (pe_cc C__law_draw (hr.mono (by decide)) (by rfl) (pa_cons (pv 0) (pa_cons pe_int pa_nil))) (pe_cc C__law_draw (hr.mono (by decide)) (by rfl) (pa_cons (pv 0) (pa_cons pe_int pa_nil))))))), ?_⟩
    refine ⟨_, rfl, b, _, rfl, hb, by decide, by decide, fun d H1 d0 d1 B1 => ⟨rfl, _, rfl, ite2 (fun h1 => ?_) (fun h1 => ?_)⟩⟩
    · refine ⟨_, rfl, b, _, rfl, B1.bag, by decide, by decide, fun e H2 e0 e1 B2 => ⟨_, _, rfl, rfl, ?_⟩⟩
      exact k _ _ (by omega) (by omega) (B1.trans B2)
    · refine ⟨_, rfl, b, _, rfl, B1.bag, by decide, by decide, fun e H2 e0 e1 B2 => ⟨_, _, rfl, rfl, ?_⟩⟩
      exact k _ _ (by omega) (by omega) (B1.trans B2)
/-! ### _law_lines -/
def spLLines (K : PySem.W.Frag) : Sp := fun vs H Q _ => ∃ (a : Addr) (xs : List V) (bs : List Bl), vs = [.ref a] ∧ SqL K H a xs ∧ AllAt BlAt H xs bs ∧ Book bs ∧
  ∀ (p q : Addr) (H' : Hp) (ys : List V), H p = none → Same H H' → H' p = some (.tup [.ref q, .bl (linesOf bs).kp, .bl (linesOf bs).du]) → H' q = some (.lst ys) → AllAt LnAt H' ys (linesOf bs).ls → Q (.ref p) H'
abbrev sL_lines : Stmt := topS 19
theorem scL_lines : FnScope ["_law_blocks", "_law_lines_here", "_law_barred", "_law_due", "_law_count", "_law_space", "_law_kept", "_law_page", "_law_k"] ["_law_blocks"] (defScope sL_lines) := ⟨rfl, rfl, rfl, by decide +kernel, rfl, by decide +kernel, by decide +kernel⟩
theorem ok_llines {f : Addr} {fd : FuncData} (F : Fun K "_law_lines" "_law_lines" sL_lines f fd) (T : Txt K mg tp C) : FnOk P w K mg base CX0 1 f fd ["_law_blocks"] (spLLines K) := by
  refine F.ok scL_lines (fun vs H Q E h => ?_) (fun cdv A outer s H vs Q E hr h => ?_)
  · obtain ⟨a, xs, bs, rfl, _⟩ := h
    rfl
  · obtain ⟨a, xs, bs, rfl, hS, hx, B, k⟩ := h
    refine ⟨_, (pss_cons (ps_par3 (i := 1) (j := 2) (l := 3) (by rfl) scL_lines.nd rfl rfl rfl (by decide) (by decide) (by decide) rfl rfl rfl (pa_cons (pe_lst pa_nil) (pa_cons pe_bl (pa_cons pe_bl pa_nil))) (by rfl))
      (pss_cons (ps_for PassesOwn.never rfl (pi_list (pv 0)) (pg_tup rfl (pgs_cons (pg_name (i := 4) scL_lines.nd rfl (.inl rfl)) (pgs_cons (pg_name (i := 5) scL_lines.nd rfl (.inl rfl)) (pgs_cons (pg_name (i := 6) scL_lines.nd rfl (.inl rfl)) (pgs_cons (pg_name (i := 7) scL_lines.nd rfl (.inl rfl)) pgs_nil)))))
        (pss_cons (ps_set (i := 3) scL_lines.nd rfl (.inl rfl) (pe_pure (pe_or (pv 3) (pe_one (pv 7)))))
        (pss_cons (ps_for PassesOwn.never rfl (pi_range1 (by rfl) T.b_range (pa_cons (pv 4) pa_nil)) (pg_name (i := 8) scL_lines.nd rfl (.inl rfl))
          (pss_one (ps_expr (pe_bm PySem.F.plainAttrs_list PySem.F.slot_list_append PySem.F.type_list_append mt_append (pv 1) (pa_cons (pe_ifExp (pt_cmpR op_eq (pv 8) pe_int (nomark _)) (pe_tup (pa_cons (pv 5) (pa_cons (pv 2) (pa_cons (pv 3) pa_nil)))) (pe_tup (pa_cons pe_int (pa_cons (pe_cmpR op_in_seq (pv 8) (pe_tup (pa_cons pe_int (pa_cons (pe_op op_sub (pv 4) pe_int) pa_nil))) (by rfl)) (pa_cons pe_bl pa_nil))))) pa_nil)))))
        (pss_cons (ps_set (i := 3) scL_lines.nd rfl (.inl rfl) (pe_pure (pe_and (pv 3) (pe_one (pe_cmpR op_eq (pv 4) pe_int (nomark _))))))
        (pss_one (ps_set (i := 2) scL_lines.nd rfl (.inl rfl) (pe_pure (pe_ifExp (pt_cmpR op_gt (pv 4) pe_int (nomark _)) (pv 6) (pv 2)))))))))
      (pss_one (ps_ret (pe_tup (pa_cons (pv 1) (pa_cons (pv 2) (pa_cons (pv 3) pa_nil)))))))), ?_⟩
    refine ⟨Nat.zero_le _, fun q hq => ?_⟩
    refine ⟨_, _, _, rfl, ?_⟩
    have sq : Same H (upd H q (.lst [])) := same_new hq
    have hlen : xs.length = bs.length := hx.len
    refine ⟨_, rfl, a, rfl, ⟨_, sq.seq hS⟩, for_list (K := K) (a := a) (xs := xs) (fun i σ H' => ∃ (y4 y5 y6 y7 y8 : Option V) (ls : List V), σ = [some (.ref a), some (.ref q), some (.bl (linesOf (bs.take i)).kp), some (.bl (linesOf (bs.take i)).du), y4, y5, y6, y7, y8] ∧ Same H H' ∧ H' q = some (.lst ls) ∧ AllAt LnAt H' ls (linesOf (bs.take i)).ls)
      ⟨none, none, none, none, none, [], rfl, sq, upd_same, trivial⟩ (fun i σ H' _ ⟨_, _, _, _, _, _, _, s1, _⟩ => s1.seq hS) ?_ ?_⟩
    · rintro i x σ H' hxi ⟨y4, y5, y6, y7, y8, ls, rfl, s1, hls, hall⟩
      obtain ⟨b, hb, t, rfl, ht⟩ := hx.at hxi
      have eb : bs.take (i + 1) = bs.take i ++ [b] := by rw [List.take_add_one, hb]; rfl
      have hbs := B.small b (List.mem_of_getElem? hb)
      have hlens : (linesOf (bs.take i)).ls.length ≤ 2000 := by
        have h1 := linesOf_len (bs.take i) 100 fun z hz => (B.small z (List.mem_of_mem_take hz)).1
        have h2 := B.few
        rw [List.length_take] at h1
        omega
      refine ⟨t, _, rfl, SqT.of (s1 _ _ ht), rfl, _, _, rfl, _, _, rfl, _, _, rfl, _, _, rfl, rfl, ?_⟩
      rw [eb, linesOf_snoc]
      generalize linesOf (bs.take i) = tt at hls hall hlens ⊢
      refine ⟨.bl (tt.du || b.g), fun Q' hQ => ⟨_, rfl, tt.du, rfl, ite2 (fun h1 => ?_) (fun h1 => ⟨_, rfl, ?_⟩)⟩, ?_⟩
      · rw [h1] at hQ; exact hQ
      · have : tt.du = false := by simpa using h1
        rw [this] at hQ; exact hQ
      generalize hdu : (tt.du || b.g) = du
      refine ⟨_, rfl, _, rfl, by omega, by omega, for_range (lo := 0) (n := ((b.c : Nat) : Int).toNat) (fun j σ H2 => ∃ (y8 : Option V) (ls' : List V), σ = [some (.ref a), some (.ref q), some (.bl tt.kp), some (.bl du), some (.int (b.c : Int)), some (.int b.s), some (.bl b.k), some (.bl b.g), y8] ∧ Same H H2 ∧ H2 q = some (.lst ls') ∧ AllAt LnAt H2 ls' (tt.ls ++ blLines b.c b.s tt.kp du j))
        ⟨_, ls, rfl, s1, hls, by rw [show blLines b.c b.s tt.kp du 0 = [] from rfl, List.append_nil]; exact hall⟩ ?_ ?_⟩
      · rintro j σ H2 hj ⟨y8', ls', rfl, s2, hls2, hall2⟩
        have hj' : j < b.c := by omega
        have hln : (blLines b.c b.s tt.kp du j).length = j := by unfold blLines; simp
        have hsz : ls'.length < sizeLine := by
          rw [hall2.len, List.length_append, hln]
          exact Nat.lt_of_le_of_lt (m := 5000) (by omega) (by decide)
        have z0 : (0 : Int) + (j : Int) = (j : Int) := Int.zero_add _
        rw [blLines_succ, ← List.append_assoc]
        refine ⟨_, rfl, .inl ⟨rfl, _, SqL.of hls2⟩, _, rfl, rfl, _, rfl, ite2 (fun h1 => ?_) (fun h1 => ?_)⟩
        · have hj0 : j = 0 := by
            have := V.int.inj (of_decide_eq_true h1)
            omega
          refine ⟨_, rfl, _, rfl, _, rfl, (by show 3 ≤ sizeLine; decide), fun p hp => ?_⟩
          obtain ⟨p1, p2, p3, p4⟩ := all_push (f := fun l : Ln => [.int l.sp, .bl l.br, .bl l.du]) (y := blLn b.c b.s tt.kp du j) (tv := [.int b.s, .bl tt.kp, .bl du]) hls2 hall2 hp (by rw [hj0]; rfl)
          exact ⟨q, _, _, rfl, rfl, p3, hsz, _, _, rfl, fun u o e => p4 u o (fun r => by rw [r, hq] at e; cases e) (s2 _ _ e), p1, p2⟩
        · have hj0 : ¬ j = 0 := fun r => h1 (decide_eq_true (by rw [r]; rfl))
          refine ⟨_, rfl, _, rfl, _, _, rfl, rfl, (by show 2 ≤ sizeLine; decide), fun u hu => ⟨u, _, rfl, .inr (SqT.of upd_same), rfl, rfl, (by show 3 ≤ sizeLine; decide), fun p hp => ?_⟩⟩
          have nuq : q ≠ u := fun r => by rw [← r, hls2] at hu; cases hu
          have hls3 : (upd H2 u (.tup [V.int 1, V.int ((b.c : Int) - 1)])) q = some (.lst ls') := (upd_ne nuq).trans hls2
          have hall3 := lnMono (Tups.new (o := .tup [V.int 1, V.int ((b.c : Int) - 1)]) hu) hall2
          have eb2 : blLn b.c b.s tt.kp du j = ⟨0, decide ((j : Int) = 1 ∨ (j : Int) = (b.c : Int) - 1), false⟩ := by unfold blLn; rw [if_neg hj0]
          obtain ⟨p1, p2, p3, p4⟩ := all_push (f := fun l : Ln => [.int l.sp, .bl l.br, .bl l.du]) (y := blLn b.c b.s tt.kp du j) (tv := [.int 0, .bl (inV (.int (0 + (j : Int))) [V.int 1, V.int ((b.c : Int) - 1)]), .bl false]) hls3 hall3 hp (by rw [eb2, in_two, z0])
          exact ⟨q, _, _, rfl, rfl, p3, hsz, _, _, rfl, fun v o e => p4 v o (fun r => by rw [r, hq] at e; cases e) (same_new hu _ _ (s2 _ _ e)), p1, p2⟩
      · rintro σ H2 ⟨y8', ls', rfl, s2, hls2, hall2⟩
        have e0 : ((b.c : Nat) : Int).toNat = b.c := Int.toNat_natCast _
        rw [e0] at hall2
        have ec : decide (V.int (b.c : Int) = V.int 0) = decide (b.c = 0) := by
          rw [dec_int]
          by_cases h : b.c = 0
          · rw [h]; rfl
          · rw [decide_eq_false h, decide_eq_false (by omega)]
        refine ⟨.bl (if b.c = 0 then du else false), fun Q' hQ => ⟨_, rfl, du, rfl, ite2 (fun h1 => ⟨_, rfl, rfl, ?_⟩) (fun h1 => ?_)⟩, ?_⟩
        · rw [ec]
          by_cases h : b.c = 0
          · rw [if_pos h, h1] at hQ; rw [decide_eq_true h]; exact hQ
          · rw [if_neg h] at hQ; rw [decide_eq_false h]; exact hQ
        · have : du = false := by simpa using h1
          rw [this, ite_self] at hQ
          exact hQ
        refine ⟨.bl (if b.c = 0 then tt.kp else b.k), fun Q' hQ => ⟨_, rfl, _, _, rfl, rfl, _, rfl, ite2 (fun h1 => ⟨_, rfl, ?_⟩) (fun h1 => ⟨_, rfl, ?_⟩)⟩, ?_⟩
        · have hc : ¬ b.c = 0 := by
            have := of_decide_eq_true h1
            omega
          rw [if_neg hc] at hQ
          exact hQ
        · have hc : b.c = 0 := by
            have : ¬ (b.c : Int) > 0 := fun r => h1 (decide_eq_true r)
            omega
          rw [if_pos hc] at hQ
          exact hQ
        refine ⟨some (.int (b.c : Int)), some (.int b.s), some (.bl b.k), some (.bl b.g), y8', ls', ?_, s2, hls2, ?_⟩
        · unfold stepB
          rw [hdu]
          rfl
        · unfold stepB
          rw [hdu]
          exact hall2
    · rintro σ H' ⟨y4, y5, y6, y7, y8, ls, rfl, s1, hls, hall⟩
      have et : bs.take xs.length = bs := by rw [hlen]; exact List.take_of_length_le (Nat.le_refl _)
      rw [et] at hall ⊢
      refine ⟨_, rfl, _, rfl, _, rfl, (by show 3 ≤ sizeLine; decide), fun p hp => ?_⟩
      have sp := same_new (o := .tup [.ref q, .bl (linesOf bs).kp, .bl (linesOf bs).du]) hp
      exact k p q _ ls (s1.free hp) (s1.trans sp) upd_same (sp _ _ hls) (lnMono (Tups.of sp) hall)
end
end Pa
set_option maxRecDepth 100000
set_option maxHeartbeats 4000000
namespace Pa
open PySem PySem.Spec PyProof.Rows L2
/-! ### data that is compared -/
def dBl (b : Bl) : PyData := .tuple [.int (b.c : Int), .int b.s, .bool b.k, .bool b.g]
def dRw (r : Int) : PyData := .tuple [.bool (decide (r = 0)), .int r]
theorem dpBl {K : PySem.W.Frag} {H : Hp} : ∀ {xs : List V} {bs : List Bl}, AllAt BlAt H xs bs → DpAll K H xs (bs.map dBl)
  | [], [], _ => .nil
  | _ :: _, _ :: _, ⟨⟨_, e, ht⟩, h2⟩ => by
    subst e
    exact .cons (.tup (SqT.of ht) (.cons (.int _) (.cons (.int _) (.cons (.bl _) (.cons (.bl _) .nil))))) (dpBl h2)
  | [], _ :: _, h => h.elim
  | _ :: _, [], h => h.elim
theorem dpRw {K : PySem.W.Frag} {H : Hp} : ∀ {xs : List V} {rs : List Int}, AllAt RwAt H xs rs → DpAll K H xs (rs.map dRw)
  | [], [], _ => .nil
  | _ :: _, _ :: _, ⟨⟨_, e, ht⟩, h2⟩ => by
    subst e
    exact .cons (.tup (SqT.of ht) (.cons (.bl _) (.cons (.int _) .nil))) (dpRw h2)
  | [], _ :: _, h => h.elim
  | _ :: _, [], h => h.elim
theorem shaped_map {α : Type} {f : α → PyData} (h : ∀ x, (f x).canLay0 = true ∧ (f x).depth ≤ 1) (xs : List α) : SeqAt.shaped (.list (xs.map f)) = true := by
  have h1 : PyData.canLayAll0 (xs.map f) = true := by
    induction xs with
    | nil => simp [PyData.canLayAll0]
    | cons x xs ih => rw [List.map_cons, PyData.canLayAll0, (h x).1, ih]; rfl
  have h2 : PyData.depthAll (xs.map f) ≤ 1 := by
    induction xs with
    | nil => simp [PyData.depthAll]
    | cons x xs ih =>
      have := ih (by
        rw [List.map_cons, PyData.canLayAll0, Bool.and_eq_true] at h1
        exact h1.2)
      rw [List.map_cons, PyData.depthAll]
      have := (h x).2
      omega
  unfold SeqAt.shaped
  rw [PyData.canLay0, h1, Bool.true_and, PyData.depth]
  exact decide_eq_true (by omega)
theorem shBl (bs : List Bl) : SeqAt.shaped (.list (bs.map dBl)) = true := shaped_map (fun x => ⟨by simp [dBl, PyData.canLay0, PyData.canLayAll0], by simp [dBl, PyData.depth, PyData.depthAll]⟩) bs
theorem shRw (rs : List Int) : SeqAt.shaped (.list (rs.map dRw)) = true := shaped_map (fun x => ⟨by simp [dRw, PyData.canLay0, PyData.canLayAll0], by simp [dRw, PyData.depth, PyData.depthAll]⟩) rs
theorem eqv_self {d : PyData} (h : SeqAt.shaped d = true) : PyData.eqv d d = true := SeqAt.eqv_refl d (SeqAt.canLay_of_shaped h)
end Pa
set_option maxRecDepth 100000
set_option maxHeartbeats 4000000
namespace Pa
open PySem PySem.Spec PyProof.Rows L2
def vN (k : Nat) : V := .int (k : Int)
def fI (l : List Nat) : List V := l.map vN
def dN (k : Nat) : PyData := .int (k : Int)
theorem dpN {K : PySem.W.Frag} {H : Hp} : ∀ (l : List Nat), DpAll K H (fI l) (l.map dN)
  | [] => .nil
  | k :: l => .cons (.int _) (dpN l)
theorem shN (l : List Nat) : SeqAt.shaped (.list (l.map dN)) = true := shaped_map (fun x => ⟨by simp [dN, PyData.canLay0], by simp [dN, PyData.depth]⟩) l
theorem eqvN (l : List Nat) : PyData.eqv (.list (l.map dN)) (.list []) = decide (l = []) := by
  cases l with
  | nil => simp [PyData.eqv, PyData.eqvAll]
  | cons k l => simp [PyData.eqv, PyData.eqvAll]
theorem fI_last {l : List Nat} {e : Nat} (h : l.getLast? = some e) : atI (fI l) (-1) = some (.int (e : Int)) := by
  obtain ⟨ys, rfl⟩ := List.getLast?_eq_some_iff.mp h
  unfold fI
  rw [List.map_append]
  exact atI_last _ _
theorem freeL_succ (ls : List Ln) (lo j : Nat) : ((List.range' lo (j + 1)).filter fun k => !(ln ls k).br) = ((List.range' lo j).filter fun k => !(ln ls k).br) ++ (if (ln ls (lo + j)).br = true then [] else [lo + j]) := by
  rw [List.range'_concat, List.filter_append, Nat.one_mul]
  congr 1
  cases h : (ln ls (lo + j)).br <;> simp [h]
theorem freeN_len (ls : List Ln) (lo j : Nat) : ((List.range' lo j).filter fun k => !(ln ls k).br).length ≤ j := Nat.le_trans (List.length_filter_le _ _) (by rw [List.length_range']; exact Nat.le_refl _)
section
variable {P : Program} {w : World} {K : PySem.W.Frag} {mg : Str → Option Value} {base : Heap} {tp C : Addr}
/-! ### _law_cut -/
def spCut : Sp := fun vs H Q _ => ∃ (L : Int) (q : Addr) (lv : List V) (ls : List Ln) (start : Nat), vs = [.int L, .ref q, .int (start : Int)] ∧ H q = some (.lst lv) ∧ AllAt LnAt H lv ls ∧ start < ls.length ∧ ls.length ≤ 100000 ∧
  ∀ H', Same H H' → Q (.int (lawCut L ls start : Int)) H'
abbrev sL_cut : Stmt := topS 20
theorem scL_cut : FnScope ["_law_length_here", "_law_lines_here", "_law_start", "_law_row", "_law_at", "_law_free", "_law_k"] ["_law_length_here", "_law_lines_here", "_law_start"] (defScope sL_cut) := ⟨rfl, rfl, rfl, by decide +kernel, rfl, by decide +kernel, by decide +kernel⟩
theorem ok_cut {f : Addr} {fd : FuncData} (F : Fun K "_law_cut" "_law_cut" sL_cut f fd) (T : Txt K mg tp C) : FnOk P w K mg base CX0 1 f fd ["_law_length_here", "_law_lines_here", "_law_start"] spCut := by
  refine F.ok scL_cut (fun vs H Q E h => ?_) (fun cdv A outer s H vs Q E hr h => ?_)
  · obtain ⟨L, q, lv, ls, start, rfl, _⟩ := h
    rfl
  · obtain ⟨L, q, lv, ls, start, rfl, hq, hall, h1, hlen, k⟩ := h
    refine ⟨_, (pss_cons (ps_set (i := 3) scL_cut.nd rfl (.inl rfl) pe_int)
      (pss_cons (ps_for PassesOwn.never rfl (pi_range2 (by rfl) T.b_range (pa_cons (pe_op op_add (pv 2) pe_int) (pa_cons (pe_callB call_len_seq (by rfl) T.b_len PySem.boot_len (pa_cons (pv 1) pa_nil)) pa_nil))) (pg_name (i := 4) scL_cut.nd rfl (.inl rfl))
        (pss_cons (ps_set (i := 3) scL_cut.nd rfl (.inl rfl) (pe_op op_add (pe_op op_add (pv 3) (pe_ix ix_tup (pe_ix ix_list (pv 1) (pv 4) (fun _ _ => rfl)) pe_int (fun _ _ => rfl))) pe_int))
        (pss_cons (ps_if (pt_val (pe_ix ix_tup (pe_ix ix_list (pv 1) (pv 4) (fun _ _ => rfl)) pe_int (fun _ _ => rfl)))
          (pss_one (ps_ret (pv 4)))
          pss_nil)
        (pss_one (ps_if (pt_cmpR op_ge (pv 3) (pv 0) (nomark _))
          (pss_cons (ps_setLc (i := 5) (own := [("_law_k", 6)]) (g := gName 6) rfl scL_cut.nd rfl rfl (sw_true rfl rfl rfl (by decide +kernel)) (pi_range2 (by rfl) T.b_range (pa_cons (pe_op op_add (pv 2) pe_int) (pa_cons (pe_op op_add (pv 4) pe_int) pa_nil))) (blkOk_by (N := ["_law_length_here", "_law_lines_here", "_law_start", "_law_row", "_law_at", "_law_free", "_law_k"]) (sc := defScope sL_cut) (by decide +kernel)) (fun _ _ _ _ _ => (pg_name (i := 6) scL_cut.nd rfl (.inl rfl))) (fun _ _ _ _ _ => (pts_one (pt_not (pt_val (pe_ix (r := rIxT K) ix_tup (pe_ix (r := rIxL K) ix_list (pv 1) (pv 6) (fun _ _ => rfl)) pe_int (fun _ _ => rfl)))))) (fun _ _ _ _ _ => (pv 6)))
          (pss_one (ps_ret (pe_ifExp (pt_cmpR (op_neD hr.units) (pv 5) (pe_lst pa_nil) (nomark _)) (pe_ix ix_list (pv 5) (pe_un un_neg pe_int) (fun _ _ => rfl)) (pv 4)))))
          pss_nil)))))
      (pss_one (ps_ret (pe_callB call_len_seq (by rfl) T.b_len PySem.boot_len (pa_cons (pv 1) pa_nil)))))), ?_⟩
    unfold lawCut at k
    have hll : lv.length = ls.length := hall.len
    have hn : ((lv.length : Int) - ((start : Int) + 1)).toNat = ls.length - (start + 1) := by omega
    refine ⟨_, rfl, _, _, rfl, rfl, _, rfl, q, _, rfl, .inl (SqL.of hq), (start : Int) + 1, (lv.length : Int), rfl, ⟨by omega, by omega, by omega, by omega⟩, ?_⟩
    rw [hn]
    refine for_range (lo := (start : Int) + 1) (n := ls.length - (start + 1)) (fun i σ H' => ∃ (row : Int) (y4 : Option V), σ = [some (.int L), some (.ref q), some (.int (start : Int)), some (.int row), y4, none, none] ∧ Same H H' ∧ lcGo L ls start (ls.length - (start + 1) - i) (start + 1 + i) row = lcGo L ls start (ls.length - (start + 1)) (start + 1) 0)
      ⟨0, none, rfl, Same.refl H, rfl⟩ ?_ ?_
    · rintro i σ H' hi ⟨row, y4, rfl, s1, hgo⟩
      obtain ⟨m, hm⟩ : ∃ m, ls.length - (start + 1) - i = m + 1 := ⟨ls.length - (start + 1) - i - 1, by omega⟩
      have hat : start + 1 + i < ls.length := by omega
      have eat : (start : Int) + 1 + (i : Int) = ((start + 1 + i : Nat) : Int) := by omega
      rw [hm, lcGo] at hgo
      obtain ⟨t, ht, ht'⟩ := lnTo' s1 hall hat
      have hq1 := s1 _ _ hq
      show gName 4 _ _ _ _
      rw [eat]
      refine ⟨_, rfl, _, rfl, _, rfl, q, _, _, _, rfl, rfl, SqL.of hq1, atI_nat ht, t, _, _, _, rfl, rfl, SqT.of ht', atI_nat (j := 0) rfl, _, _, rfl, rfl, _, _, rfl, rfl, ?_⟩
      refine ⟨_, rfl, _, rfl, q, _, _, _, rfl, rfl, SqL.of hq1, atI_nat ht, t, _, _, _, rfl, rfl, SqT.of ht', atI_nat (j := 2) rfl, _, rfl, ite2 (fun g1 => ?_) (fun g1 => ?_)⟩
      · rw [if_pos g1] at hgo
        rw [← hgo] at k
        exact ⟨_, rfl, k H' s1⟩
      rw [if_neg g1] at hgo
      refine ⟨_, rfl, _, rfl, _, _, rfl, rfl, _, rfl, ite2 (fun g2 => ?_) (fun g2 => ?_)⟩
      · have g2' := of_decide_eq_true g2
        rw [if_pos g2'] at hgo
        rw [← hgo] at k
        refine ⟨_, rfl, _, _, rfl, rfl, _, rfl, _, _, rfl, rfl, (start : Int) + 1, ((start + 1 + i : Nat) : Int) + 1, rfl, ⟨by omega, by omega, by omega, by omega⟩, fun D hD => ?_⟩
        have en : (((start + 1 + i : Nat) : Int) + 1 - ((start : Int) + 1)).toNat = start + 1 + i + 1 - (start + 1) := by omega
        rw [en]
        refine lc_range (lo := (start : Int) + 1) (n := start + 1 + i + 1 - (start + 1)) (fun j H3 => Same H' H3 ∧ H3 D = some (.lst (fI ((List.range' (start + 1) j).filter fun z => !(ln ls z).br)))) ⟨same_new hD, upd_same⟩ ?_ ?_
        · rintro j H3 hj ⟨s3, h3⟩
          have hj2 : start + 1 + j < ls.length := by omega
          have ej : (start : Int) + 1 + (j : Int) = ((start + 1 + j : Nat) : Int) := by omega
          obtain ⟨tj, htj, htj'⟩ := lnTo' (s1.trans s3) hall hj2
          refine ⟨rfl, ?_⟩
          refine ⟨_, rfl, _, rfl, q, _, _, _, rfl, rfl, SqL.of (s3 _ _ hq1), (by rw [ej]; exact atI_nat htj), tj, _, _, _, rfl, rfl, SqT.of htj', atI_nat (j := 1) rfl, _, rfl, ?_⟩
          rcases twoB (ln ls (start + 1 + j)).br with hb | hb
          · refine iteQ (notT hb) ⟨s3, ?_⟩
            rw [freeL_succ, if_pos hb, List.append_nil]
            exact h3
          · refine iteP (notF hb) ⟨_, rfl, _, h3, ?_, fun u o e => ?_, ?_⟩
            · unfold fI
              rw [List.length_map]
              exact Nat.lt_of_le_of_lt (m := 200000) (Nat.le_trans (freeN_len _ _ _) (by omega)) (by decide)
            · rw [upd_ne (fun z => by rw [z, hD] at e; cases e)]
              exact s3 _ _ e
            · rw [upd_same, freeL_succ, if_neg (neT hb), ej]
              unfold fI
              rw [List.map_append]
              rfl
        · rintro H3 ⟨s3, h3⟩
          have e9 : ((List.range' (start + 1) (start + 1 + i + 1 - (start + 1))).filter fun z => !(ln ls z).br) = freeL ls (start + 1) (start + 1 + i + 1) := rfl
          rw [e9] at h3
          rw [lastFree_eq] at k
          refine ⟨_, rfl, (by show 0 ≤ sizeLine; decide), fun u hu => ?_⟩
          have s4 := same_new (o := .lst []) hu
          refine ⟨.list ((freeL ls (start + 1) (start + 1 + i + 1)).map dN), .list [], .lst (SqL.of (s4 _ _ h3)) (dpN _), .lst (SqL.of upd_same) .nil, shN _, shN [], ?_⟩
          rw [eqvN]
          refine ⟨_, rfl, ite2 (fun g3 => ?_) (fun g3 => ?_)⟩
          · cases hg : (freeL ls (start + 1) (start + 1 + i + 1)).getLast? with
            | none =>
              rw [List.getLast?_eq_none_iff.mp hg] at g3
              simp at g3
            | some e =>
              rw [hg, Option.getD_some] at k
              refine ⟨_, rfl, _, rfl, D, _, _, _, rfl, rfl, SqL.of (s4 _ _ h3), fI_last hg, ?_⟩
              exact k _ ((s1.trans s3).trans s4)
          · have e0 : freeL ls (start + 1) (start + 1 + i + 1) = [] := by
              by_cases h : freeL ls (start + 1) (start + 1 + i + 1) = []
              · exact h
              · rw [decide_eq_false h] at g3
                exact absurd rfl g3
            rw [e0] at k
            refine ⟨_, rfl, ?_⟩
            exact k _ ((s1.trans s3).trans s4)
      · rw [if_neg (fun z => g2 (decide_eq_true z))] at hgo
        refine ⟨_, _, rfl, s1, ?_⟩
        rw [← hgo]
        congr 1
        omega
    · rintro σ H' ⟨row, y4, rfl, s1, hgo⟩
      rw [Nat.sub_self, lcGo] at hgo
      refine ⟨_, rfl, q, _, rfl, .inl (SqL.of (s1 _ _ hq)), ?_⟩
      rw [← hgo] at k
      rw [hll]
      exact k H' s1
end
end Pa
set_option maxRecDepth 100000
set_option maxHeartbeats 4000000
namespace Pa
open PySem PySem.Spec PyProof.Rows L2
theorem take_snoc {α : Type} {xs : List α} {i : Nat} {y : α} (h : xs[i]? = some y) : xs.take (i + 1) = xs.take i ++ [y] := by
  rw [List.take_add_one, h]; rfl
section
variable {P : Program} {w : World} {K : PySem.W.Frag} {mg : Str → Option Value} {base : Heap} {tp C : Addr}
def spPages : Sp := fun vs H Q _ => ∃ (L : Int) (q : Addr) (lv : List V) (ls : List Ln), vs = [.int L, .ref q] ∧ H q = some (.lst lv) ∧ AllAt LnAt H lv ls ∧ 0 < L ∧ GoodLs ls ∧ ls.length ≤ 5000 ∧
  ∀ (p : Addr) (H' : Hp) (ys : List V), H p = none → Same H H' → H' p = some (.lst ys) → AllAt RwAt H' ys (rowsOf (runS L ls)) → Q (.ref p) H'
abbrev sL_pages : Stmt := topS 21
theorem scL_pages : FnScope ["_law_length_here", "_law_lines_here", "_law_rows", "_law_start", "_law_at"] ["_law_length_here", "_law_lines_here"] (defScope sL_pages) := ⟨rfl, rfl, rfl, by decide +kernel, rfl, by decide +kernel, by decide +kernel⟩
theorem ok_pages {f : Addr} {fd : FuncData} (F : Fun K "_law_pages" "_law_pages" sL_pages f fd) (T : Txt K mg tp C) (C__law_cut : CallOk P w K mg base 1 "_law_cut" ["_law_length_here", "_law_lines_here", "_law_start"] spCut) : FnOk P w K mg base CX0 2 f fd ["_law_length_here", "_law_lines_here"] spPages := by
  refine F.ok scL_pages (fun vs H Q E h => ?_) (fun cdv A outer s H vs Q E hr h => ?_)
  · obtain ⟨L, q, lv, ls, rfl, _⟩ := h
    rfl
  · obtain ⟨L, q, lv, ls, rfl, hq, hall, hL, g, hlen, k⟩ := h
    refine ⟨_, (pss_cons (ps_par (i := 2) (j := 3) (by rfl) scL_pages.nd rfl rfl (by decide) rfl rfl (pa_cons (pe_lst pa_nil) (pa_cons pe_int pa_nil)) (by rfl))
      (pss_cons (ps_for PassesOwn.never rfl (pi_range1 (by rfl) T.b_range (pa_cons (pe_callB call_len_seq (by rfl) T.b_len PySem.boot_len (pa_cons (pv 1) pa_nil)) pa_nil)) (pg_name (i := 4) scL_pages.nd rfl (.inl rfl))
        (pss_one (ps_if (pt_cmpR op_eq (pv 4) (pv 3) (nomark _))
          (pss_cons (ps_expr (pe_bm PySem.F.plainAttrs_list PySem.F.slot_list_append PySem.F.type_list_append mt_append (pv 2) (pa_cons (pe_tup (pa_cons pe_bl (pa_cons pe_int pa_nil))) pa_nil)))
          (pss_one (ps_set (i := 3) scL_pages.nd rfl (.inl rfl) (pe_cc C__law_cut (hr.mono (by decide)) (by rfl) (pa_cons (pv 0) (pa_cons (pv 1) (pa_cons (pv 4) pa_nil)))))))
          (pss_one (ps_expr (pe_bm PySem.F.plainAttrs_list PySem.F.slot_list_append PySem.F.type_list_append mt_append (pv 2) (pa_cons (pe_tup (pa_cons pe_bl (pa_cons (pe_op op_add (pe_op op_add (pe_ix ix_tup (pe_ix ix_list (pv 2) (pe_un un_neg pe_int) (fun _ _ => rfl)) pe_int (fun _ _ => rfl)) (pe_ix ix_tup (pe_ix ix_list (pv 1) (pv 4) (fun _ _ => rfl)) pe_int (fun _ _ => rfl))) pe_int) pa_nil))) pa_nil)))))))
      (pss_one (ps_ret (pv 2))))), ?_⟩
    obtain ⟨Ef, E0', hE⟩ := law_pages hL g
    have hRl : (rowsOf (runS L ls)).length = ls.length := (right_ok hL g).1
    generalize rowsOf (runS L ls) = R at k hE hRl
    have hll : lv.length = ls.length := hall.len
    refine ⟨Nat.zero_le _, fun p hp => ?_⟩
    refine ⟨_, _, rfl, ?_⟩
    have sp := same_new (o := .lst []) hp
    refine ⟨_, rfl, q, _, rfl, .inl (SqL.of (sp _ _ hq)), _, rfl, by omega, by omega, for_range (lo := 0) (n := ((lv.length : Nat) : Int).toNat) (fun i σ H' => ∃ (y4 : Option V) (ys : List V), σ = [some (.int L), some (.ref q), some (.ref p), some (.int (Ef i : Int)), y4] ∧ Same H H' ∧ H' p = some (.lst ys) ∧ AllAt RwAt H' ys (R.take i))
      ⟨none, [], by rw [E0']; rfl, sp, upd_same, trivial⟩ ?_ ?_⟩
    · rintro i σ H' hi ⟨y4, ys, rfl, s1, hys, hrw⟩
      have hi' : i < ls.length := by omega
      have hyl : ys.length ≤ 5000 := by
        rw [hrw.len, List.length_take]
        omega
      have hsz : ys.length < sizeLine := Nat.lt_of_le_of_lt hyl (by decide)
      show gName 4 _ _ _ _
      rw [Int.zero_add]
      rcases hE i hi' with ⟨e1, e2, e3⟩ | ⟨e1, e2, e3, r, e4, e5, e6⟩
      · refine ⟨_, rfl, _, rfl, rfl, _, rfl, iteP (decide_eq_true (by rw [e1])) ?_⟩
        refine ⟨_, rfl, .inl ⟨rfl, _, SqL.of hys⟩, (by show 2 ≤ sizeLine; decide), fun u hu => ?_⟩
        obtain ⟨p1, p2, p3, p4⟩ := all_push (f := fun r : Int => [.bl (decide (r = 0)), .int r]) (y := (0 : Int)) (tv := [.bl true, .int 0]) hys hrw hu rfl
        refine ⟨p, _, _, rfl, rfl, p3, hsz, ?_⟩
        have s2 : Same H (upd (upd H' u (.tup [.bl true, .int 0])) p (.lst (ys ++ [.ref u]))) := fun a o e => p4 a o (fun z => by rw [z, hp] at e; cases e) (s1 _ _ e)
        refine ⟨_, rfl, _, rfl, _, rfl, L, q, lv, ls, i, rfl, s2 _ _ hq, lnMono (Tups.of s2) hall, hi', by omega, fun H3 s3 => ?_⟩
        rw [e3]
        refine ⟨_, _, rfl, s2.trans s3, s3 _ _ p1, ?_⟩
        rw [take_snoc e2]
        exact rwMono (Tups.of s3) p2
      · refine ⟨_, rfl, _, rfl, rfl, _, rfl, iteQ (fun z => e1 (by have := V.int.inj (of_decide_eq_true z); omega)) ?_⟩
        have hpr : R.take i = R.take (i - 1) ++ [r] := by
          have := take_snoc e4
          rw [show i - 1 + 1 = i by omega] at this
          exact this
        obtain ⟨xs0, x, b0, exs, hx⟩ : ∃ xs0 x b0, ys = xs0 ++ [x] ∧ b0 = true ∧ RwAt H' x r := by
          obtain ⟨z, hz, hz'⟩ := hrw.to (i := i - 1) (y := r) (by rw [List.getElem?_take, if_pos (by omega)]; exact e4)
          have hl : ys.length = i := by rw [hrw.len, List.length_take]; omega
          refine ⟨ys.take (i - 1), z, true, ?_, rfl, hz'⟩
          have := take_snoc hz
          rw [show i - 1 + 1 = i by omega, List.take_of_length_le (by omega)] at this
          exact this
        obtain ⟨_, tx, rfl, htx⟩ := hx
        obtain ⟨tl, htl, htl'⟩ := lnTo' s1 hall hi'
        refine ⟨_, rfl, .inl ⟨rfl, _, SqL.of hys⟩, ?_⟩
        refine ⟨_, rfl, _, rfl, p, _, _, _, rfl, rfl, SqL.of hys, (by rw [exs]; exact atI_last _ _), tx, _, _, _, rfl, rfl, SqT.of htx, atI_nat (j := 1) rfl, ?_⟩
        refine ⟨_, rfl, _, rfl, q, _, _, _, rfl, rfl, SqL.of (s1 _ _ hq), atI_nat htl, tl, _, _, _, rfl, rfl, SqT.of htl', atI_nat (j := 0) rfl, _, _, rfl, rfl, _, _, rfl, rfl, (by show 2 ≤ sizeLine; decide), fun u hu => ?_⟩
        obtain ⟨p1, p2, p3, p4⟩ := all_push (f := fun r : Int => [.bl (decide (r = 0)), .int r]) (y := r + (ln ls i).sp + 1) (tv := [.bl false, .int (r + (ln ls i).sp + 1)]) hys hrw hu (by rw [decide_eq_false e6])
        refine ⟨p, _, _, rfl, rfl, p3, hsz, ?_⟩
        refine ⟨_, _, by rw [e3]; rfl, fun a o e => p4 a o (fun z => by rw [z, hp] at e; cases e) (s1 _ _ e), p1, ?_⟩
        rw [take_snoc e5]
        exact p2
    · rintro σ H' ⟨y4, ys, rfl, s1, hys, hrw⟩
      have e0 : ((lv.length : Nat) : Int).toNat = lv.length := Int.toNat_natCast _
      rw [e0, List.take_of_length_le (by omega)] at hrw
      exact ⟨_, rfl, k p H' ys hp s1 hys hrw⟩
end
end Pa
set_option maxRecDepth 100000
set_option maxHeartbeats 4000000
namespace Pa
open PySem PySem.Spec PyProof.Rows L2
theorem rwTo {H : Hp} {rv : List V} {R : List Int} {i : Nat} {r : Int} (h : AllAt RwAt H rv R) (e : R[i]? = some r) : ∃ t, rv[i]? = some (.ref t) ∧ H t = some (.tup [.bl (decide (r = 0)), .int r]) := by
  obtain ⟨x, hx, t, rfl, ht⟩ := h.to e
  exact ⟨t, hx, ht⟩
theorem rw_last {H : Hp} {rv : List V} {R : List Int} {n : Nat} {r : Int} (h : AllAt RwAt H rv R) (hn : R.length = n) (h0 : 0 < n) (e : R[n - 1]? = some r) : ∃ t, atI rv (-1) = some (.ref t) ∧ H t = some (.tup [.bl (decide (r = 0)), .int r]) := by
  obtain ⟨t, ht, ht'⟩ := rwTo h e
  refine ⟨t, ?_, ht'⟩
  have := take_snoc ht
  rw [show n - 1 + 1 = n by omega, List.take_of_length_le (by rw [h.len, hn]; exact Nat.le_refl _)] at this
  rw [this]
  exact atI_last _ _
/-- which lines begin a page -/
def zI (R : List Int) (j : Nat) : List Nat := (List.range j).filter fun k => decide (R[k]? = some 0)
theorem zI_succ (R : List Int) (j : Nat) : zI R (j + 1) = zI R j ++ (if R[j]? = some 0 then [j] else []) := by
  unfold zI
  rw [List.range_succ, List.filter_append]
  congr 1
  by_cases h : R[j]? = some 0 <;> simp [h]
theorem zI_len (R : List Int) (j : Nat) : (zI R j).length ≤ j := Nat.le_trans (List.length_filter_le _ _) (by rw [List.length_range]; exact Nat.le_refl _)
theorem fI_ints (l : List Nat) : fI l = (l.map fun k : Nat => (k : Int)).map V.int := by
  unfold fI
  rw [List.map_map]
  rfl
theorem freeL_len (ls : List Ln) (lo hi : Nat) : (freeL ls lo hi).length ≤ hi - lo := freeN_len ls lo (hi - lo)
def linesDue (bs : List Bl) : Bool := (linesOf bs).du
section
variable {P : Program} {w : World} {K : PySem.W.Frag} {mg : Str → Option Value} {base : Heap} {tp C : Addr}
/-- the standing that these blocks leave stands at p -/
def StIs (H : Hp) (p : Addr) (q : SB) : Prop := H p = some (.tup [.str (wordOf q.kd q.h), .int q.h, .int q.t])
def spStanding (K : PySem.W.Frag) : Sp := fun vs H Q _ => ∃ (L : Int) (a : Addr) (xs : List V) (bs : List Bl), vs = [.int L, .ref a] ∧ SqL K H a xs ∧ AllAt BlAt H xs bs ∧ Book bs ∧ 0 < L ∧
  ∀ (p : Addr) (H' : Hp), H p = none → Same H H' → StIs H' p (pageOf L bs) → Q (.ref p) H'
abbrev sL_standing : Stmt := topS 22
theorem scL_standing : FnScope ["_law_length_here", "_law_blocks", "_law_lines_here", "_law_barred", "_law_due", "_law_rows", "_law_first", "_law_k", "_law_high", "_law_free"] ["_law_length_here", "_law_blocks"] (defScope sL_standing) := ⟨rfl, rfl, rfl, by decide +kernel, rfl, by decide +kernel, by decide +kernel⟩
theorem ok_lstanding {f : Addr} {fd : FuncData} (F : Fun K "_law_standing" "_law_standing" sL_standing f fd) (T : Txt K mg tp C) (C__law_lines : CallOk P w K mg base 1 "_law_lines" ["_law_blocks"] (spLLines K))
    (C__law_pages : CallOk P w K mg base 2 "_law_pages" ["_law_length_here", "_law_lines_here"] spPages) : FnOk P w K mg base CX0 3 f fd ["_law_length_here", "_law_blocks"] (spStanding K) := by
  refine F.ok scL_standing (fun vs H Q E h => ?_) (fun cdv A outer s H vs Q E hr h => ?_)
  · obtain ⟨L, a, xs, bs, rfl, _⟩ := h
    rfl
  · obtain ⟨L, a, xs, bs, rfl, hS, hx, B, hL, k⟩ := h
    refine ⟨_, (pss_cons (ps_asg (pe_cc C__law_lines (hr.mono (by decide)) (by rfl) (pa_cons (pv 1) pa_nil)) (pg_tup rfl (pgs_cons (pg_name (i := 2) scL_standing.nd rfl (.inr rfl)) (pgs_cons (pg_name (i := 3) scL_standing.nd rfl (.inl rfl)) (pgs_cons (pg_name (i := 4) scL_standing.nd rfl (.inl rfl)) pgs_nil)))))
      (pss_cons (ps_if (pt_val (pv 4))
        (pss_one (ps_ret (pe_tup (pa_cons pe_str (pa_cons pe_int (pa_cons pe_int pa_nil))))))
        pss_nil)
      (pss_cons (ps_set (i := 5) scL_standing.nd rfl (.inr rfl) (pe_cc C__law_pages (hr.mono (by decide)) (by rfl) (pa_cons (pv 0) (pa_cons (pv 2) pa_nil))))
      (pss_cons (ps_set (i := 6) scL_standing.nd rfl (.inl rfl) (pe_callB (cr_max rfl) (by rfl) T.b_max (by decide +kernel) (pa_cons (pe_lc (own := [("_law_k", 7)]) (g := gName 7) rfl scL_standing.nd (pi_range1 (by rfl) T.b_range (pa_cons (pe_callB call_len_seq (by rfl) T.b_len PySem.boot_len (pa_cons (pv 5) pa_nil)) pa_nil)) (blkOk_by (N := ["_law_length_here", "_law_blocks", "_law_lines_here", "_law_barred", "_law_due", "_law_rows", "_law_first", "_law_k", "_law_high", "_law_free"]) (sc := defScope sL_standing) (by decide +kernel)) (fun _ _ _ _ _ => (pg_name (i := 7) scL_standing.nd rfl (.inl rfl))) (fun _ _ _ _ _ => (pts_one (pt_val (pe_ix (r := rIxT K) ix_tup (pe_ix (r := rIxL K) ix_list (pv 5) (pv 7) (fun _ _ => rfl)) pe_int (fun _ _ => rfl))))) (fun _ _ _ _ _ => (pv 7))) pa_nil)))
      (pss_cons (ps_set (i := 8) scL_standing.nd rfl (.inl rfl) (pe_pure (pe_op op_add (pe_ix ix_tup (pe_ix ix_list (pv 5) (pe_un un_neg pe_int) (fun _ _ => rfl)) pe_int (fun _ _ => rfl)) pe_int)))
      (pss_cons (ps_setLc (i := 9) (own := [("_law_k", 7)]) (g := gName 7) rfl scL_standing.nd rfl rfl (sw_true rfl rfl rfl (by decide +kernel)) (pi_range2 (by rfl) T.b_range (pa_cons (pe_op op_add (pv 6) pe_int) (pa_cons (pe_callB call_len_seq (by rfl) T.b_len PySem.boot_len (pa_cons (pv 5) pa_nil)) pa_nil))) (blkOk_by (N := ["_law_length_here", "_law_blocks", "_law_lines_here", "_law_barred", "_law_due", "_law_rows", "_law_first", "_law_k", "_law_high", "_law_free"]) (sc := defScope sL_standing) (by decide +kernel)) (fun _ _ _ _ _ => (pg_name (i := 7) scL_standing.nd rfl (.inl rfl))) (fun _ _ _ _ _ => (pts_one (pt_not (pt_val (pe_ix (r := rIxT K) ix_tup (pe_ix (r := rIxL K) ix_list (pv 2) (pv 7) (fun _ _ => rfl)) pe_int (fun _ _ => rfl)))))) (fun _ _ _ _ _ => (pv 7)))
      (pss_cons (ps_if (pt_by (PW.pt (pw_and (pt_cmpR op_eq (pv 8) (pv 0) (nomark _)) (pw_and1 (PW.pt (pw_or (pt_not (pt_val (pv 3))) (pw_or1 (pt_cmpR (op_eqD hr.units) (pv 9) (pe_lst pa_nil) (nomark _)))))))))
        (pss_one (ps_ret (pe_tup (pa_cons pe_str (pa_cons pe_int (pa_cons pe_int pa_nil))))))
        pss_nil)
      (pss_cons (ps_if (pt_not (pt_val (pv 3)))
        (pss_one (ps_ret (pe_tup (pa_cons pe_str (pa_cons (pv 8) (pa_cons pe_int pa_nil))))))
        pss_nil)
      (pss_one (ps_ret (pe_tup (pa_cons pe_str (pa_cons (pv 8) (pa_cons (pe_ifExp (pt_cmpR (op_neD hr.units) (pv 9) (pe_lst pa_nil) (nomark _)) (pe_op op_sub (pv 8) (pe_ix ix_tup (pe_ix ix_list (pv 5) (pe_ix ix_list (pv 9) (pe_un un_neg pe_int) (fun _ _ => rfl)) (fun _ _ => rfl)) pe_int (fun _ _ => rfl))) pe_int) pa_nil)))))))))))))), ?_⟩
    have hbs : ∀ b ∈ bs, 0 ≤ b.s := fun b hb => (B.small b hb).2
    have Rl := pageOf_rel hL bs hbs
    have Xl := pageOf_excl hL bs hbs
    have gl := (good_lines bs hbs).1
    have hlen := B.len
    generalize pageOf L bs = q0 at k Rl Xl
    refine ⟨_, rfl, a, xs, bs, rfl, hS, hx, B, fun p1 lq H1 lv hp1 s1 ht1 hlq hlv => ?_⟩
    refine ⟨p1, _, rfl, SqT.of ht1, rfl, _, _, rfl, _, _, rfl, _, _, rfl, rfl, ?_⟩
    generalize linesOf bs = t at Rl Xl gl hlen hlv
    refine ⟨_, rfl, _, rfl, ite2 (fun hd => ?_) (fun hd => ?_)⟩
    · obtain ⟨z1, z2, z3, _⟩ := Rl.due hd
      refine ⟨(by show 3 ≤ sizeLine; decide), fun p hp => ?_⟩
      refine k p _ (s1.free hp) (s1.trans (same_new hp)) ?_
      unfold StIs
      rw [upd_same, z1, z2, z3]
      rfl
    have hd : t.du = false := by simpa using hd
    obtain ⟨fst, hi, M⟩ := stand_ok hL gl Rl Xl hd
    refine ⟨_, rfl, _, rfl, L, lq, lv, t.ls, rfl, hlq, hlv, hL, gl, by omega, fun pr H2 rv hpr s2 hrv hrw => ?_⟩
    have S2 : Same H H2 := s1.trans s2
    have hlq2 := s2 _ _ hlq
    have hlv2 := lnMono (Tups.of s2) hlv
    generalize rowsOf (runS L t.ls) = R at M hrw
    have hrl : rv.length = t.ls.length := hrw.len.trans M.len
    -- the first line of the last page
    refine ⟨_, rfl, pr, _, rfl, .inl (SqL.of hrv), _, rfl, by omega, by omega, fun D hD => ?_⟩
    have e0 : ((rv.length : Nat) : Int).toNat = rv.length := Int.toNat_natCast _
    refine lc_range (lo := 0) (n := ((rv.length : Nat) : Int).toNat) (fun j H3 => Same H2 H3 ∧ H3 D = some (.lst (fI (zI R j)))) ⟨same_new hD, upd_same⟩ ?_ ?_
    · rintro j H3 hj ⟨s3, h3⟩
      have hj2 : j < R.length := by rw [M.len]; omega
      have ej : (0 : Int) + (j : Int) = ((j : Nat) : Int) := by omega
      obtain ⟨tj, htj, htj'⟩ := rwTo hrw (List.getElem?_eq_getElem hj2)
      refine ⟨rfl, ?_⟩
      refine ⟨_, rfl, _, rfl, pr, _, _, _, rfl, rfl, SqL.of (s3 _ _ hrv), (by rw [ej]; exact atI_nat htj), tj, _, _, _, rfl, rfl, SqT.of (s3 _ _ htj'), atI_nat (j := 0) rfl, _, rfl, ?_⟩
      by_cases hz : R[j] = 0
      · refine iteP (decide_eq_true hz) ⟨_, rfl, _, h3, ?_, fun u o e => ?_, ?_⟩
        · unfold fI
          rw [List.length_map]
          exact Nat.lt_of_le_of_lt (m := 200000) (Nat.le_trans (zI_len _ _) (by omega)) (by decide)
        · rw [upd_ne (fun z => by rw [z, hD] at e; cases e)]
          exact s3 _ _ e
        · rw [upd_same, zI_succ, if_pos (by rw [List.getElem?_eq_getElem hj2, hz]), ej]
          unfold fI
          rw [List.map_append]
          rfl
      · refine iteQ (fun z => hz (of_decide_eq_true z)) ⟨s3, ?_⟩
        rw [zI_succ, if_neg (by rw [List.getElem?_eq_getElem hj2]; exact fun z => hz (Option.some.inj z)), List.append_nil]
        exact h3
    rintro H3 ⟨s3, h3⟩
    rw [e0, hrl] at h3
    have hmem : fst ∈ zI R t.ls.length := List.mem_filter.mpr ⟨List.mem_range.mpr M.lt, decide_eq_true M.zero⟩
    have hmax : ∀ y ∈ zI R t.ls.length, y ≤ fst := fun y hy => by
      rcases Nat.lt_or_ge fst y with h | h
      · exact absurd (of_decide_eq_true (List.mem_filter.mp hy).2) (M.pos y h)
      · exact h
    rw [fI_ints] at h3
    refine ⟨D, _, rfl, SqL.of h3, by rw [List.length_map]; exact List.length_pos_of_mem hmem, fun m hm1 hm2 => ?_⟩
    have em : m = (fst : Int) := by
      obtain ⟨y, hy, e⟩ := List.mem_map.mp hm1
      have h1 := hmax y hy
      have h2 := hm2 _ (List.mem_map.mpr ⟨fst, hmem, rfl⟩)
      omega
    rw [em]
    -- high
    have hlast := M.last
    obtain ⟨tz, htz, htz'⟩ := rw_last hrw M.len (Nat.lt_of_le_of_lt (Nat.zero_le _) M.lt) hlast
    have eh : hi - 1 + 1 = hi := by omega
    refine ⟨.int hi, fun Q' hQ => ⟨_, rfl, _, rfl, pr, _, _, _, rfl, rfl, SqL.of (s3 _ _ hrv), htz, tz, _, _, _, rfl, rfl, SqT.of (s3 _ _ htz'), atI_nat (j := 1) rfl, _, _, rfl, rfl, ?_⟩, ?_⟩
    · show Q' (.int (hi - 1 + 1)) _
      rw [eh]
      exact hQ
    -- the free places
    have hfst := M.lt
    refine ⟨_, rfl, _, _, rfl, rfl, _, rfl, pr, _, rfl, .inl (SqL.of (s3 _ _ hrv)), (fst : Int) + 1, (rv.length : Int), rfl, ⟨by omega, by omega, by omega, by omega⟩, fun D2 hD2 => ?_⟩
    have en : ((rv.length : Int) - ((fst : Int) + 1)).toNat = t.ls.length - (fst + 1) := by omega
    rw [en]
    have S3 : Same H H3 := S2.trans s3
    have hlv3 := lnMono (Tups.of s3) hlv2
    refine lc_range (lo := (fst : Int) + 1) (n := t.ls.length - (fst + 1)) (fun j H4 => Same H3 H4 ∧ H4 D2 = some (.lst (fI ((List.range' (fst + 1) j).filter fun z => !(ln t.ls z).br)))) ⟨same_new hD2, upd_same⟩ ?_ ?_
    · rintro j H4 hj ⟨s4, h4⟩
      have hj2 : fst + 1 + j < t.ls.length := by omega
      have ej : (fst : Int) + 1 + (j : Int) = ((fst + 1 + j : Nat) : Int) := by omega
      obtain ⟨tj, htj, htj'⟩ := lnTo' s4 hlv3 hj2
      refine ⟨rfl, ?_⟩
      refine ⟨_, rfl, _, rfl, lq, _, _, _, rfl, rfl, SqL.of (s4 _ _ (s3 _ _ hlq2)), (by rw [ej]; exact atI_nat htj), tj, _, _, _, rfl, rfl, SqT.of htj', atI_nat (j := 1) rfl, _, rfl, ?_⟩
      rcases twoB (ln t.ls (fst + 1 + j)).br with hb | hb
      · refine iteQ (notT hb) ⟨s4, ?_⟩
        rw [freeL_succ, if_pos hb, List.append_nil]
        exact h4
      · refine iteP (notF hb) ⟨_, rfl, _, h4, ?_, fun u o e => ?_, ?_⟩
        · unfold fI
          rw [List.length_map]
          exact Nat.lt_of_le_of_lt (m := 200000) (Nat.le_trans (freeN_len _ _ _) (by omega)) (by decide)
        · rw [upd_ne (fun z => by rw [z, hD2] at e; cases e)]
          exact s4 _ _ e
        · rw [upd_same, freeL_succ, if_neg (neT hb), ej]
          unfold fI
          rw [List.map_append]
          rfl
    rintro H4 ⟨s4, h4⟩
    have e9 : ((List.range' (fst + 1) (t.ls.length - (fst + 1))).filter fun z => !(ln t.ls z).br) = freeL t.ls (fst + 1) t.ls.length := rfl
    rw [e9] at h4
    have S4 : Same H H4 := S3.trans s4
    have M1 := M.top
    have M2 := M.opn
    have M3 := M.kept
    have hi0 := M.hi0
    have hrw4 := rwMono (Tups.of (s3.trans s4)) hrw
    have hrv4 := (s3.trans s4) _ _ hrv
    generalize hfr : freeL t.ls (fst + 1) t.ls.length = fr at h4 M1 M2 M3
    clear M hrw hlv3 hlv2 hlv Rl Xl
    -- at the foot, and nothing can be taken over
    refine ⟨fun c H' => Same H4 H' ∧ c = decide (hi = L ∧ (t.kp = false ∨ fr = [])), fun Q' hQ => ?_, ?_⟩
    · refine ⟨_, rfl, _, rfl, rfl, _, rfl, ite2 (fun g1 => ?_) (fun g1 => ?_)⟩
      · have g1 : hi = L := V.int.inj (of_decide_eq_true g1)
        refine ⟨_, rfl, _, rfl, ?_⟩
        rcases twoB t.kp with hk | hk
        · refine iteQ (notT hk) ?_
          refine ⟨_, rfl, (by show 0 ≤ sizeLine; decide), fun u hu => ?_⟩
          have s5 := same_new (o := .lst []) hu
          refine ⟨.list (fr.map dN), .list [], .lst (SqL.of (s5 _ _ h4)) (dpN _), .lst (SqL.of upd_same) .nil, shN _, shN [], _, rfl, ?_⟩
          refine hQ _ _ ⟨s5, ?_⟩
          rw [eqvN]
          by_cases h : fr = []
          · rw [decide_eq_true h, decide_eq_true ⟨g1, .inr h⟩]
          · rw [decide_eq_false h, decide_eq_false (fun z => z.2.elim (fun z => by rw [hk] at z; cases z) h)]
        · refine iteP (notF hk) ?_
          exact hQ _ _ ⟨Same.refl _, (decide_eq_true ⟨g1, .inl hk⟩).symm⟩
      · have g1 : ¬ hi = L := fun z => g1 (decide_eq_true (by rw [z]))
        exact hQ _ _ ⟨Same.refl _, (decide_eq_false fun z => g1 z.1).symm⟩
    rintro c H5 ⟨s5, rfl⟩
    have S5 : Same H H5 := S4.trans s5
    refine ite2 (fun g1 => ?_) (fun g1 => ?_)
    · obtain ⟨z1, z2, z3⟩ := M1 (of_decide_eq_true g1)
      refine ⟨(by show 3 ≤ sizeLine; decide), fun p hp => ?_⟩
      refine k p _ (S5.free hp) (S5.trans (same_new hp)) ?_
      unfold StIs
      rw [upd_same, z1, z2, z3]
      rfl
    have g1 : ¬ (hi = L ∧ (t.kp = false ∨ fr = [])) := fun z => g1 (decide_eq_true z)
    refine ⟨_, rfl, _, rfl, ?_⟩
    rcases twoB t.kp with hk | hk
    · refine iteQ (notT hk) ?_
      obtain ⟨z1, z2, z3, z4⟩ := M3 g1 hk
      have fin : ∀ p H', H' p = none → Same H5 H' → Q (.ref p) (upd H' p (.tup [.str "kept", .int hi, .int q0.t])) := fun p H' hp s' => by
        refine k p _ ((S5.trans s').free hp) ((S5.trans s').trans (same_new hp)) ?_
        unfold StIs
        rw [upd_same, z1, z2]
        rfl
      refine ⟨_, rfl, _, rfl, (by show 0 ≤ sizeLine; decide), fun u hu => ?_⟩
      have s6 := same_new (o := .lst []) hu
      refine ⟨.list (fr.map dN), .list [], .lst (SqL.of (s6 _ _ (s5 _ _ h4))) (dpN _), .lst (SqL.of upd_same) .nil, shN _, shN [], ?_⟩
      rw [eqvN]
      refine ⟨_, rfl, ite2 (fun g3 => ?_) (fun g3 => ?_)⟩
      · cases hg : fr.getLast? with
        | none =>
          rw [List.getLast?_eq_none_iff.mp hg] at g3
          simp at g3
        | some e =>
          obtain ⟨r, hr', hq⟩ := z4 e hg
          obtain ⟨te, hte, hte'⟩ := rwTo hrw4 hr'
          refine ⟨_, rfl, _, rfl, _, rfl, _, rfl, D2, _, _, _, rfl, rfl, SqL.of (s6 _ _ (s5 _ _ h4)), fI_last hg, pr, _, _, _, rfl, rfl, SqL.of (s6 _ _ (s5 _ _ hrv4)), atI_nat hte, te, _, _, _, rfl, rfl, SqT.of (s6 _ _ (s5 _ _ hte')), atI_nat (j := 1) rfl, _, _, rfl, rfl, (by show 3 ≤ sizeLine; decide), fun p hp => ?_⟩
          have := fin p _ hp s6
          rw [hq] at this
          exact this
      · have e0 : fr = [] := by
          by_cases h : fr = []
          · exact h
          · rw [decide_eq_false h] at g3
            exact absurd rfl g3
        refine ⟨(by show 3 ≤ sizeLine; decide), fun p hp => ?_⟩
        have := fin p _ hp s6
        rw [z3 e0] at this
        exact this
    · refine iteP (notF hk) ?_
      obtain ⟨z1, z2, z3⟩ := M2 g1 hk
      refine ⟨_, rfl, (by show 3 ≤ sizeLine; decide), fun p hp => ?_⟩
      refine k p _ (S5.free hp) (S5.trans (same_new hp)) ?_
      unfold StIs
      rw [upd_same, z1, z2, z3]
      unfold wordOf
      rw [if_neg (by decide), if_neg (by omega)]
end
end Pa
set_option maxRecDepth 100000
set_option maxHeartbeats 4000000
namespace Pa
open PySem PySem.Spec PyProof.Rows L2
section
variable {P : Program} {w : World} {K : PySem.W.Frag} {mg : Str → Option Value} {base : Heap} {tp C : Addr}
/-! ### _law_pending -/
def spPending (K : PySem.W.Frag) : Sp := fun vs H Q _ => ∃ (L : Int) (a : Addr) (xs : List V) (bs : List Bl), vs = [.int L, .ref a] ∧ SqL K H a xs ∧ AllAt BlAt H xs bs ∧ Book bs ∧ 0 < L ∧
  ∀ (H' : Hp), Same H H' → Q (.int (pageOf L bs).lo) H'
abbrev sL_pending : Stmt := topS 25
theorem scL_pending : FnScope ["_law_length_here", "_law_blocks", "_law_standing_here", "_law_rows", "_law_count", "_law_starts", "_law_row"] ["_law_length_here", "_law_blocks"] (defScope sL_pending) := ⟨rfl, rfl, rfl, by decide +kernel, rfl, by decide +kernel, by decide +kernel⟩
theorem ok_lpending {f : Addr} {fd : FuncData} (F : Fun K "_law_pending" "_law_pending" sL_pending f fd) (T : Txt K mg tp C) (C__law_lines : CallOk P w K mg base 1 "_law_lines" ["_law_blocks"] (spLLines K))
    (C__law_pages : CallOk P w K mg base 2 "_law_pages" ["_law_length_here", "_law_lines_here"] spPages) (C__law_standing : CallOk P w K mg base 3 "_law_standing" ["_law_length_here", "_law_blocks"] (spStanding K)) : FnOk P w K mg base CX0 4 f fd ["_law_length_here", "_law_blocks"] (spPending K) := by
  refine F.ok scL_pending (fun vs H Q E h => ?_) (fun cdv A outer s H vs Q E hr h => ?_)
  · obtain ⟨L, a, xs, bs, rfl, _⟩ := h
    rfl
  · obtain ⟨L, a, xs, bs, rfl, hS, hx, B, hL, k⟩ := h
    refine ⟨_, (pss_cons (ps_set (i := 2) scL_pending.nd rfl (.inl rfl) (pe_cc C__law_standing (hr.mono (by decide)) (by rfl) (pa_cons (pv 0) (pa_cons (pv 1) pa_nil))))
      (pss_cons (ps_if (pt_cmpR op_eq (pe_ix ix_tup (pv 2) pe_int (fun _ _ => rfl)) pe_int (nomark _))
        (pss_one (ps_ret pe_int))
        pss_nil)
      (pss_cons (ps_par (i := 3) (j := 4) (by rfl) scL_pending.nd rfl rfl (by decide) rfl rfl (pa_cons (pe_cc C__law_pages (hr.mono (by decide)) (by rfl) (pa_cons (pv 0) (pa_cons (pe_ix ix_tup (pe_cc C__law_lines (hr.mono (by decide)) (by rfl) (pa_cons (pv 1) pa_nil)) pe_int (fun _ _ => rfl)) pa_nil))) (pa_cons pe_int pa_nil)) (by rfl))
      (pss_cons (ps_for PassesOwn.never rfl (pi_list (pe_revL (pv 3))) (pg_tup rfl (pgs_cons (pg_name (i := 5) scL_pending.nd rfl (.inl rfl)) (pgs_cons (pg_name (i := 6) scL_pending.nd rfl (.inl rfl)) pgs_nil)))
        (pss_cons (ps_if (pt_cmpR op_lt (pv 6) (pe_op op_sub (pe_ix ix_tup (pv 2) pe_int (fun _ _ => rfl)) (pe_ix ix_tup (pv 2) pe_int (fun _ _ => rfl))) (nomark _))
          (pss_one (ps_ret (pv 4)))
          pss_nil)
        (pss_one (ps_set (i := 4) scL_pending.nd rfl (.inl rfl) (pe_op op_add (pv 4) pe_int)))))
      (pss_one (ps_ret (pv 4))))))), ?_⟩
    have hbs : ∀ b ∈ bs, 0 ≤ b.s := fun b hb => (B.small b hb).2
    have gl := (good_lines bs hbs).1
    have hP := pend_ok hL gl (pageOf_rel hL bs hbs)
    have hRl : (rowsOf (runS L (linesOf bs).ls)).length = (linesOf bs).ls.length := (right_ok hL gl).1
    have hlen := B.len
    refine ⟨_, rfl, _, rfl, L, a, xs, bs, rfl, hS, hx, B, hL, fun p1 H1 hp1 s1 hst => ?_⟩
    unfold StIs at hst
    generalize pageOf L bs = q0 at k hP hst
    refine ⟨_, rfl, p1, _, _, _, rfl, rfl, SqT.of hst, atI_nat (j := 2) rfl, rfl, _, rfl, ite2 (fun h1 => ?_) (fun h1 => ?_)⟩
    · have h1 := V.int.inj (of_decide_eq_true h1)
      rw [hP.1 h1] at k
      exact k H1 s1
    have h1 : q0.t ≠ 0 := fun z => h1 (decide_eq_true (by rw [z]))
    obtain ⟨n, n1, n2, r0, n3, n4⟩ := hP.2 h1
    refine ⟨_, rfl, _, rfl, a, xs, bs, rfl, s1.seq hS, blMono (Tups.of s1) hx, B, fun p2 lq H2 lv hp2 s2 ht2 hlq hlv => ?_⟩
    refine ⟨p2, _, _, _, rfl, rfl, SqT.of ht2, atI_nat (j := 0) rfl, L, lq, lv, (linesOf bs).ls, rfl, hlq, hlv, hL, gl, by omega, fun pr H3 rv hpr s3 hrv hrw => ?_⟩
    generalize rowsOf (runS L (linesOf bs).ls) = R at n2 n3 hrw hRl
    refine ⟨_, _, rfl, ?_⟩
    have S3 : Same H H3 := (s1.trans s2).trans s3
    have hst3 := (s2.trans s3) _ _ hst
    refine ⟨_, rfl, pr, _, rfl, SqL.of hrv, fun u hu => ⟨u, rfl, ⟨_, SqL.of upd_same⟩, ?_⟩⟩
    have s4 := same_new (o := .lst rv.reverse) hu
    have S4 := S3.trans s4
    have hrw4 := (rwMono (Tups.of s4) hrw).rev
    have hst4 := s4 _ _ hst3
    have hu4 : (upd H3 u (.lst rv.reverse)) u = some (.lst rv.reverse) := upd_same
    generalize upd H3 u (.lst rv.reverse) = H4 at S4 hrw4 hst4 hu4 ⊢
    have hnl : n < R.reverse.length := (List.getElem?_eq_some_iff.mp n3).1
    refine for_list (K := K) (a := u) (xs := rv.reverse) (fun i σ H' => ∃ (y5 y6 : Option V), σ = [some (.int L), some (.ref a), some (.ref p1), some (.ref pr), some (.int (i : Int)), y5, y6] ∧ Same H4 H' ∧ i ≤ n)
      ⟨none, none, rfl, Same.refl _, Nat.zero_le _⟩ (fun i σ H' _ ⟨_, _, _, s5, _⟩ => SqL.of (s5 _ _ hu4)) ?_ ?_
    · rintro i x σ H' hxi ⟨y5, y6, rfl, s5, hin⟩
      obtain ⟨r, hr', tx, rfl, htx⟩ := hrw4.at hxi
      have htx := s5 _ _ htx
      have hst5 := s5 _ _ hst4
      refine ⟨tx, _, rfl, SqT.of htx, rfl, _, _, rfl, _, _, rfl, rfl, ?_⟩
      refine ⟨_, rfl, _, rfl, p1, _, _, _, rfl, rfl, SqT.of hst5, atI_nat (j := 1) rfl, _, rfl, p1, _, _, _, rfl, rfl, SqT.of hst5, atI_nat (j := 2) rfl, _, _, rfl, rfl, _, _, rfl, rfl, _, rfl, ite2 (fun g1 => ?_) (fun g1 => ?_)⟩
      · have g1 : r < q0.h - q0.t := of_decide_eq_true g1
        have ei : i = n := by
          rcases Nat.lt_or_ge i n with h | h
          · exact absurd g1 (n2 i h r hr')
          · omega
        rw [n1, ← ei] at k
        exact ⟨_, rfl, k H' (S4.trans s5)⟩
      · have g1 : ¬ r < q0.h - q0.t := fun z => g1 (decide_eq_true z)
        have ei : i ≠ n := fun z => by
          rw [z, n3] at hr'
          cases hr'
          exact g1 n4
        refine ⟨_, rfl, _, _, rfl, rfl, ?_⟩
        exact ⟨_, _, rfl, s5, by omega⟩
    · rintro σ H' ⟨y5, y6, rfl, s5, hin⟩
      rw [hrw4.len] at hin
      omega
end
end Pa
set_option maxRecDepth 100000
set_option maxHeartbeats 4000000
namespace Pa
open PySem PySem.Spec PyProof.Rows L2
theorem rep_snoc (i : Nat) : (List.replicate (i + 1) true).map V.bl = (List.replicate i true).map V.bl ++ [V.bl true] := by
  rw [List.replicate_succ', List.map_append]
  rfl
section
variable {P : Program} {w : World} {K : PySem.W.Frag} {mg : Str → Option Value} {base : Heap} {tp C : Addr}
/-! ### _law_rows_right -/
def spRows : Sp := fun vs H Q _ => ∃ (a b : Addr) (ys zs : List V) (rs : List Int), vs = [.ref a, .ref b] ∧ H a = some (.lst ys) ∧ AllAt RwAt H ys rs ∧ H b = some (.lst zs) ∧ AllAt RwAt H zs rs ∧ rs.length ≤ 5000 ∧ ∀ H', Same H H' → Q (.bl true) H'
abbrev sL_rows_right : Stmt := topS 26
theorem scL_rows_right : FnScope ["_law_told", "_law_due", "_law_row"] ["_law_told", "_law_due"] (defScope sL_rows_right) := ⟨rfl, rfl, rfl, by decide +kernel, rfl, by decide +kernel, by decide +kernel⟩
theorem ok_rows {f : Addr} {fd : FuncData} (F : Fun K "_law_rows_right" "_law_rows_right" sL_rows_right f fd) (T : Txt K mg tp C) (C__law_number : CallOk P w K mg base 1 "_law_number" ["_law_thing"] spNum) : FnOk P w K mg base CX0 2 f fd ["_law_told", "_law_due"] spRows := by
  refine F.ok scL_rows_right (fun vs H Q E h => ?_) (fun cdv A outer s H vs Q E hr h => ?_)
  · obtain ⟨a, b, ys, zs, rs, rfl, _⟩ := h
    rfl
  · obtain ⟨a, b, ys, zs, rs, rfl, ha, hy, hb, hz, hl, k⟩ := h
    refine ⟨_, (pss_cons (ps_if (pt_pure (PW.pt (pw_or (pt_not (pt_val (pe_callB call_isi (by rfl) T.b_isinstance (by decide +kernel) (pa_cons (pv 0) (pa_cons (pe_bltn (v := .ty "list") (by rfl) T.b_list (by decide +kernel) rfl) pa_nil))))) (pw_or1 (pt_cmpR (op_neD hr.units) (pv 0) (pv 1) (nomark _))))))
        (pss_one (ps_ret pe_bl))
        pss_nil)
      (pss_one (ps_ret (pe_callB (cr_all rfl) (by rfl) T.b_all (by decide +kernel) (pa_cons (pe_lc (own := [("_law_row", 2)]) (g := gName 2) (tt := tYes) (wi := iList K (tVar 0)) rfl scL_rows_right.nd (pi_list (pv 0)) (blkOk_by (N := ["_law_told", "_law_due", "_law_row"]) (sc := defScope sL_rows_right) (by decide +kernel)) (fun _ _ _ _ _ => (pg_name (i := 2) scL_rows_right.nd rfl (.inl rfl))) (fun _ _ _ _ _ => pts_nil) (fun _ _ _ _ _ => (pe_pure (pe_and (pe_callB (r := rIsi K) call_isi (by rfl) T.b_isinstance (by decide +kernel) (pa_cons (pv 2) (pa_cons (pe_bltn (v := .ty "tuple") (by rfl) T.b_tuple (by decide +kernel) rfl) pa_nil))) (pe_and (pe_callB (r := rIsi K) call_isi (by rfl) T.b_isinstance (by decide +kernel) (pa_cons (pe_ix (r := rIxT K) ix_tup (pv 2) pe_int (fun _ _ => rfl)) (pa_cons (pe_bltn (v := .ty "bool") (by rfl) T.b_bool (by decide +kernel) rfl) pa_nil))) (pe_one (pe_cc C__law_number (hr.mono (by decide)) (by rfl) (pa_cons (pe_ix (r := rIxT K) ix_tup (pv 2) pe_int (fun _ _ => rfl)) pa_nil)))))))) pa_nil))))), ?_⟩
    refine ⟨false, fun Q' hQ => ?_, iteF ?_⟩
    · refine ⟨_, rfl, _, _, _, _, true, rfl, .ty _, .base (.lst ha), kit_ty (by decide +kernel), _, rfl, iteF ?_⟩
      refine ⟨_, rfl, _, rfl, .list (rs.map dRw), .list (rs.map dRw), .lst (SqL.of ha) (dpRw hy), .lst (SqL.of hb) (dpRw hz), shRw _, shRw _, _, rfl, ?_⟩
      rw [eqv_self (shRw _)]
      exact hQ
    refine ⟨_, rfl, a, rfl, ⟨_, SqL.of ha⟩, fun D hD => ?_⟩
    refine lc_list (K := K) (a := a) (xs := ys) (fun i H3 => Same H H3 ∧ H3 D = some (.lst ((List.replicate i true).map V.bl))) ⟨same_new hD, upd_same⟩ (fun i H3 _ q => SqL.of (q.1 _ _ ha)) ?_ ?_
    · rintro i x H3 hi ⟨s3, h3⟩
      obtain ⟨r, hr', t, rfl, ht⟩ := hy.at hi
      have ht := s3 _ _ ht
      have hil : i < ys.length := (List.getElem?_eq_some_iff.mp hi).1
      have hyl := hy.len
      refine ⟨rfl, ?_⟩
      refine ⟨.bl true, fun Q' hQ => ?_, _, h3, ?_, fun u o e => ?_, ?_⟩
      · refine ⟨_, rfl, _, _, _, _, true, rfl, .ty _, .base (.tup ht), kit_ty (by decide +kernel), _, rfl, iteT ?_⟩
        refine ⟨_, rfl, t, _, _, _, rfl, rfl, SqT.of ht, atI_nat (j := 0) rfl, _, _, _, _, true, rfl, .ty _, .base (.bl _), kit_ty (by decide +kernel), _, rfl, iteT ?_⟩
        exact ⟨_, rfl, t, _, _, _, rfl, rfl, SqT.of ht, atI_nat (j := 1) rfl, _, rfl, hQ⟩
      · rw [List.length_map, List.length_replicate]
        exact Nat.lt_of_le_of_lt (m := 200000) (by omega) (by decide)
      · rw [upd_ne (fun z => by rw [z, hD] at e; cases e)]
        exact s3 _ _ e
      · rw [upd_same, rep_snoc]
    · rintro H3 ⟨s3, h3⟩
      refine ⟨D, _, rfl, SqL.of h3, ?_⟩
      have ea : (List.replicate ys.length true).all id = true := by
        rw [List.all_eq_true]
        intro z hz
        exact (List.mem_replicate.mp hz).2
      rw [ea]
      exact k H3 s3
end
end Pa
set_option maxRecDepth 100000
set_option maxHeartbeats 4000000
namespace Pa
open PySem PySem.Spec PyProof.Rows L2
theorem cutV_to {xs : List V} {n : Nat} (h : n ≤ xs.length) : cutV xs none (some (n : Int)) = xs.take n := by
  unfold cutV
  rw [HT.sIx_nat, HT.sIx_none, Nat.min_eq_left h]
  simp
structure PropOk (P : Program) (w : World) (K : PySem.W.Frag) (mg : Str → Option Value) (base : Heap) (C : Addr) (k : Nat) (m : Str) (sp : Sp) : Prop where
  ok : ∃ (p g : Addr) (fd : FuncData), PropOf K C m p g ∧ Binds K fd ["self"] [] ∧ FnOk P w K mg base CX0 k g fd ["self"] sp
structure LenOk (P : Program) (w : World) (K : PySem.W.Frag) (mg : Str → Option Value) (base : Heap) (C : Addr) (k : Nat) (sp : Sp) : Prop where
  ok : ∃ (g : Addr) (fd : FuncData), LenC K C g ∧ Binds K fd ["self"] [] ∧ FnOk P w K mg base CX0 k g fd ["self"] sp
/-- o.m(e) where the defaults fill up -/
structure MethDOk (P : Program) (w : World) (K : PySem.W.Frag) (mg : Str → Option Value) (base : Heap) (C : Addr) (k : Nat) (m : Str) (ps : List Str) (dvs : List V) (sp : Sp) : Prop where
  ok : ∃ (f : Addr) (fd : FuncData) (ds : List Value), Meth K C m f ∧ Vals dvs ds ∧ Binds K fd ps ds ∧ FnOk P w K mg base CX0 k f fd ps sp
def rLenO (C : Addr) (sp : Sp) : List V → Hp → VK → Prop := fun xs H Q => ∃ a dx fs, xs = [.ref a] ∧ H a = some (.ins C dx fs) ∧ sp [.ref a] H (fun v H' => ∃ n : Int, v = .int n ∧ 0 ≤ n ∧ n < 2 ^ 63 ∧ Q (.int n) H') E0
section
variable {X : Cx} {k : Nat} {C : Addr} {m : Str} {sp : Sp} {o e : Expr} {es : List Expr} {ta : TE} {t : TA} {pos p apos : Pos} {ps : List Str} {dvs : List V} {pl : Sem Bool}
theorem pe_pr (he : PE X o ta) (c : Cls X.K C) (M : PropOk X.prog X.w X.K X.mg X.base C k m sp) (hr : Room (k + 1) X.A)
    (hab : attributeBase o m X.env (eval o X.env) = eval o X.env := by rfl) : PE X (.Attribute o m pos) (tProp C sp [] E0 ta) := by
  obtain ⟨pp, g, fd, h1, h2, h3⟩ := M.ok
  exact pe_prop he c h1 h3 hr h2 .nil pass0 hab
theorem call_lenO (M : LenOk X.prog X.w X.K X.mg X.base C k sp) (hr : Room (k + 1) X.A) : CallR X (.builtin "len") (rLenO C sp) := by
  obtain ⟨g, fd, h1, h2, h3⟩ := M.ok
  exact call_lenOwn h1 h3 hr h2
theorem pe_mcd (he : PE X o ta) (c : Cls X.K C) (M : MethDOk X.prog X.w X.K X.mg X.base C k m ps dvs sp) (hr : Room k X.A) (ha : PA X (e :: es) t)
    (hst : starEach (e :: es) X.env = (false, eval e X.env) :: starEach es X.env := by rfl) (hpl : (backTo pos (starEach es X.env)).any (·.1) = false := by rfl)
    (ht : eval (.Call (.Attribute o m apos) (e :: es) [] pos) X.env = (do
      let z ← eval o X.env
      standAt apos.atName
      let (f, first) ← holding [z] (getMethod z m pl)
      callWith pos f first (backTo pos (starEach (e :: es) X.env)) (backToKw pos (keywordEach [] X.env))) := by rfl) :
    PE X (.Call (.Attribute o m apos) (e :: es) [] pos) (tMeth C m sp dvs E0 ta t) := by
  obtain ⟨f, fd, ds, h1, hd, h2, h3⟩ := M.ok
  exact pe_meth he c h1 h3 hr h2 hd pass0 ha hst hpl ht
end
section
variable {P : Program} {w : World} {K : PySem.W.Frag} {mg : Str → Option Value} {base : Heap} {tp C : Addr}
/-! ### what a Page tells -/
def spNow (C : Addr) : Sp := fun vs H Q _ => ∃ (x dx rl st : Addr) (L lo : Int) (rows : List Int), vs = [.ref x] ∧ PA' C L x dx rl st lo rows H ∧ Q (.ref st) H
def spPend (C : Addr) : Sp := fun vs H Q _ => ∃ (x dx rl st : Addr) (L lo : Int) (rows : List Int), vs = [.ref x] ∧ PA' C L x dx rl st lo rows H ∧ Q (.int lo) H
def spWent (C : Addr) : Sp := fun vs H Q _ => ∃ (x dx rl st : Addr) (L lo : Int) (rows : List Int), vs = [.ref x] ∧ PA' C L x dx rl st lo rows H ∧ Q (.bl false) H
def spLen (C : Addr) : Sp := fun vs H Q _ => ∃ (x dx rl st : Addr) (L lo : Int) (rows : List Int), vs = [.ref x] ∧ PA' C L x dx rl st lo rows H ∧ Q (.int (rows.length : Int)) H
def spSettled (C : Addr) : Sp := fun vs H Q _ => ∃ (x dx rl st : Addr) (L lo : Int) (rows : List Int), vs = [.ref x] ∧ PA' C L x dx rl st lo rows H ∧ 0 ≤ lo ∧ lo ≤ (rows.length : Int) ∧ rows.length ≤ 100000 ∧
  ∀ p H' ys, H p = none → Same H H' → H' p = some (.lst ys) → AllAt RwAt H' ys (preS rows lo) → Q (.ref p) H'
abbrev sPage_now : Stmt := inClass (topS 14) 7
abbrev sPage_pending : Stmt := inClass (topS 14) 8
abbrev sPage_went_over : Stmt := inClass (topS 14) 9
abbrev sPage_settled : Stmt := inClass (topS 14) 10
abbrev sPage___len__ : Stmt := inClass (topS 14) 12
theorem scPage_now : FnScope ["self"] ["self"] (defScope sPage_now) := ⟨rfl, rfl, rfl, by decide +kernel, rfl, by decide +kernel, by decide +kernel⟩
theorem scPage_pending : FnScope ["self"] ["self"] (defScope sPage_pending) := ⟨rfl, rfl, rfl, by decide +kernel, rfl, by decide +kernel, by decide +kernel⟩
theorem scPage_went_over : FnScope ["self"] ["self"] (defScope sPage_went_over) := ⟨rfl, rfl, rfl, by decide +kernel, rfl, by decide +kernel, by decide +kernel⟩
theorem scPage_settled : FnScope ["self"] ["self"] (defScope sPage_settled) := ⟨rfl, rfl, rfl, by decide +kernel, rfl, by decide +kernel, by decide +kernel⟩
theorem scPage___len__ : FnScope ["self"] ["self"] (defScope sPage___len__) := ⟨rfl, rfl, rfl, by decide +kernel, rfl, by decide +kernel, by decide +kernel⟩
theorem ok_now {f : Addr} {fd : FuncData} (F : Fun K "now" "Page.now" sPage_now f fd) (T : Txt K mg tp C) : FnOk P w K mg base CX0 1 f fd ["self"] (spNow C) := by
  refine F.ok scPage_now (fun vs H Q E h => ?_) (fun cdv A outer s H vs Q E hr h => ?_)
  · obtain ⟨x, dx, rl, st, L, lo, rows, rfl, _⟩ := h
    rfl
  · obtain ⟨x, dx, rl, st, L, lo, rows, rfl, pa, k⟩ := h
    refine ⟨_, (pss_one (ps_ret (pe_fld (pv 0) rfl))), ?_⟩
    exact ⟨_, rfl, x, C, dx, _, _, rfl, pa.ob, T.cl, T.nS, pf_standing _ _ _ _, k⟩
theorem ok_pend {f : Addr} {fd : FuncData} (F : Fun K "pending" "Page.pending" sPage_pending f fd) (T : Txt K mg tp C) : FnOk P w K mg base CX0 1 f fd ["self"] (spPend C) := by
  refine F.ok scPage_pending (fun vs H Q E h => ?_) (fun cdv A outer s H vs Q E hr h => ?_)
  · obtain ⟨x, dx, rl, st, L, lo, rows, rfl, _⟩ := h
    rfl
  · obtain ⟨x, dx, rl, st, L, lo, rows, rfl, pa, k⟩ := h
    refine ⟨_, (pss_one (ps_ret (pe_fld (pv 0) rfl))), ?_⟩
    exact ⟨_, rfl, x, C, dx, _, _, rfl, pa.ob, T.cl, T.nO, pf_loose _ _ _ _, k⟩
theorem ok_went {f : Addr} {fd : FuncData} (F : Fun K "went_over" "Page.went_over" sPage_went_over f fd) (T : Txt K mg tp C) : FnOk P w K mg base CX0 1 f fd ["self"] (spWent C) := by
  refine F.ok scPage_went_over (fun vs H Q E h => ?_) (fun cdv A outer s H vs Q E hr h => ?_)
  · obtain ⟨x, dx, rl, st, L, lo, rows, rfl, _⟩ := h
    rfl
  · obtain ⟨x, dx, rl, st, L, lo, rows, rfl, pa, k⟩ := h
    refine ⟨_, (pss_one (ps_ret (pe_fld (pv 0) rfl))), ?_⟩
    exact ⟨_, rfl, x, C, dx, _, _, rfl, pa.ob, T.cl, T.nW, pf_went _ _ _ _, k⟩
theorem ok_len {f : Addr} {fd : FuncData} (F : Fun K "__len__" "Page.__len__" sPage___len__ f fd) (T : Txt K mg tp C) : FnOk P w K mg base CX0 1 f fd ["self"] (spLen C) := by
  refine F.ok scPage___len__ (fun vs H Q E h => ?_) (fun cdv A outer s H vs Q E hr h => ?_)
  · obtain ⟨x, dx, rl, st, L, lo, rows, rfl, _⟩ := h
    rfl
  · obtain ⟨x, dx, rl, st, L, lo, rows, rfl, pa, k⟩ := h
    refine ⟨_, (pss_one (ps_ret (pe_pure (pe_callB call_len_seq (by rfl) T.b_len PySem.boot_len (pa_cons (pe_fld (pv 0) rfl) pa_nil))))), ?_⟩
    refine ⟨.int (rows.length : Int), fun Q' hQ => ⟨_, rfl, x, C, dx, _, _, rfl, pa.ob, T.cl, T.nR, pf_rows _ _ _ _, rl, _, rfl, .inl (SqL.of pa.rs), ?_⟩, k⟩
    rw [List.length_map]
    exact hQ
theorem ok_settled {f : Addr} {fd : FuncData} (F : Fun K "settled" "Page.settled" sPage_settled f fd) (T : Txt K mg tp C) (M_finish : MethOk P w K mg base C 1 "finish" ["self"] (spFinish C)) : FnOk P w K mg base CX0 2 f fd ["self"] (spSettled C) := by
  refine F.ok scPage_settled (fun vs H Q E h => ?_) (fun cdv A outer s H vs Q E hr h => ?_)
  · obtain ⟨x, dx, rl, st, L, lo, rows, rfl, _⟩ := h
    rfl
  · obtain ⟨x, dx, rl, st, L, lo, rows, rfl, pa, lo0, lo1, hlen, k⟩ := h
    refine ⟨_, (pss_one (ps_ret (pe_slice sl_list (pe_mc0 (pv 0) T.cl M_finish (hr.mono (by decide))) po_none (po_some (pe_pure (pe_op op_sub (pe_callB call_len_seq (by rfl) T.b_len PySem.boot_len (pa_cons (pe_fld (pv 0) rfl) pa_nil)) (pe_fld (pv 0) rfl))))))), ?_⟩
    refine ⟨_, rfl, x, dx, _, rfl, pa.ob, no_finish _ _ _ _, x, dx, rl, st, L, lo, rows, rfl, pa, hlen, fun p H1 ys hp s1 hys hrw => ?_⟩
    have ea : ((rows.map V.int).length : Int) - lo = ((rows.length - lo.toNat : Nat) : Int) := by rw [List.length_map]; omega
    have pa1 := pa.same s1
    refine ⟨.int ((rows.length - lo.toNat : Nat) : Int), fun Q' hQ => ⟨_, rfl, x, C, dx, _, _, rfl, pa1.ob, T.cl, T.nR, pf_rows _ _ _ _, rl, _, rfl, .inl (SqL.of pa1.rs), _, rfl, x, C, dx, _, _, rfl, pa1.ob, T.cl, T.nO, pf_loose _ _ _ _, _, _, rfl, rfl, ?_⟩, ?_⟩
    · rw [← ea] at hQ
      exact hQ
    refine ⟨_, rfl, p, _, rfl, SqL.of hys, fun u hu => ?_⟩
    have sU := same_new (o := .lst (cutV ys none (some ((rows.length - lo.toNat : Nat) : Int)))) hu
    refine k u _ _ (s1.free hu) (s1.trans sU) upd_same ?_
    have ec := cutV_to (xs := ys) (n := rows.length - lo.toNat) (by rw [hrw.len]; omega)
    have z := (rwMono (Tups.of sU) hrw).take (rows.length - lo.toNat)
    rw [← ec] at z
    exact z
end
end Pa
set_option maxRecDepth 100000
set_option maxHeartbeats 4000000
namespace Pa
open PySem PySem.Spec PyProof.Rows L2
def dSt (w : Str) (h t : Int) : PyData := .tuple [.str w, .int h, .int t]
theorem strOk_word (kd : Bool) (h : Int) : PyData.strOk (wordOf kd h) = true := by
  unfold wordOf
  split
  · decide +kernel
  · split
    · decide +kernel
    · decide +kernel
theorem shSt (kd : Bool) (h t h' : Int) : SeqAt.shaped (dSt (wordOf kd h) h' t) = true := by
  unfold SeqAt.shaped dSt
  rw [PyData.canLay0, PyData.depth]
  simp only [PyData.canLayAll0, PyData.canLay0, PyData.depthAll, PyData.depth]
  rw [strOk_word]
  rfl
theorem dpSt {K : PySem.W.Frag} {H : Hp} {p : Addr} {w : Str} {h t : Int} (e : SqT K H p [.str w, .int h, .int t]) : Dp K H (.ref p) (dSt w h t) := .tup e (.cons (.str _) (.cons (.int _) (.cons (.int _) .nil)))
theorem StAt.same {K : PySem.W.Frag} {H H' : Hp} {p : Addr} {kd : Bool} {h t : Int} (s : Same H H') (e : StAt K H p kd h t) : StAt K H' p kd h t := by
  obtain ⟨w, e1, e2, e3⟩ := e
  exact ⟨w, seqT_mono (fun o q => s _ _ q) e1, e2, e3⟩
theorem no_settled (L : Int) (st rl : Addr) (lo : Int) : (pf L st rl lo).lookup ("settled" : Str) = none := rfl
/-- the page's state: that of these blocks -/
structure PgB (K : PySem.W.Frag) (C : Addr) (L : Int) (x dx rl st : Addr) (q : SB) (H : Hp) : Prop where
  pa : PA' C L x dx rl st q.lo q.rows H
  st : StAt K H st q.kd q.h q.t
theorem PgB.same {K : PySem.W.Frag} {C x dx rl st : Addr} {L : Int} {q : SB} {H H' : Hp} (s : Same H H') (h : PgB K C L x dx rl st q H) : PgB K C L x dx rl st q H' := ⟨h.pa.same s, h.st.same s⟩
section
variable {P : Program} {w : World} {K : PySem.W.Frag} {mg : Str → Option Value} {base : Heap} {tp C : Addr}
/-! ### _law_shown -/
theorem lo_ok {L : Int} (hL : 0 < L) {bs : List Bl} (h : ∀ b ∈ bs, 0 ≤ b.s) : 0 ≤ (pageOf L bs).lo ∧ (pageOf L bs).lo ≤ ((pageOf L bs).rows.length : Int) :=
  run_lo hL (pageOf_rel hL bs h) (Int.le_refl 0) false 0 0
def spShown (K : PySem.W.Frag) (C : Addr) : Sp := fun vs H Q _ => ∃ (x dx rl st : Addr) (L : Int) (a : Addr) (xs : List V) (bs : List Bl), vs = [.ref x, .int L, .ref a] ∧ PgB K C L x dx rl st (pageOf L bs) H ∧ SqL K H a xs ∧ AllAt BlAt H xs bs ∧ Book bs ∧ 0 < L ∧
  ∀ H', Same H H' → Q (.bl true) H'
abbrev sL_shown : Stmt := topS 27
theorem scL_shown : FnScope ["_law_page", "_law_length_here", "_law_blocks", "_law_due", "_law_count", "_law_told"] ["_law_page", "_law_length_here", "_law_blocks"] (defScope sL_shown) := ⟨rfl, rfl, rfl, by decide +kernel, rfl, by decide +kernel, by decide +kernel⟩
theorem ok_shown {f : Addr} {fd : FuncData} (F : Fun K "_law_shown" "_law_shown" sL_shown f fd) (T : Txt K mg tp C) (C__law_number : CallOk P w K mg base 1 "_law_number" ["_law_thing"] spNum) (C__law_lines : CallOk P w K mg base 1 "_law_lines" ["_law_blocks"] (spLLines K))
    (C__law_pages : CallOk P w K mg base 2 "_law_pages" ["_law_length_here", "_law_lines_here"] spPages) (C__law_standing : CallOk P w K mg base 3 "_law_standing" ["_law_length_here", "_law_blocks"] (spStanding K))
    (C__law_pending : CallOk P w K mg base 4 "_law_pending" ["_law_length_here", "_law_blocks"] (spPending K)) (C__law_rows_right : CallOk P w K mg base 2 "_law_rows_right" ["_law_told", "_law_due"] spRows)
    (M_finish : MethOk P w K mg base C 1 "finish" ["self"] (spFinish C)) (M_settled : MethOk P w K mg base C 2 "settled" ["self"] (spSettled C)) (P_now : PropOk P w K mg base C 1 "now" (spNow C)) (P_pending : PropOk P w K mg base C 1 "pending" (spPend C))
    (P_went_over : PropOk P w K mg base C 1 "went_over" (spWent C)) (M_len : LenOk P w K mg base C 1 (spLen C)) : FnOk P w K mg base CX0 5 f fd ["_law_page", "_law_length_here", "_law_blocks"] (spShown K C) := by
  refine F.ok scL_shown (fun vs H Q E h => ?_) (fun cdv A outer s H vs Q E hr h => ?_)
  · obtain ⟨x, dx, rl, st, L, a, xs, bs, rfl, _⟩ := h
    rfl
  · obtain ⟨x, dx, rl, st, L, a, xs, bs, rfl, pg, hS, hx, B, hL, k⟩ := h
    refine ⟨_, (pss_cons (ps_par (i := 3) (j := 4) (by rfl) scL_shown.nd rfl rfl (by decide) rfl rfl (pa_cons (pe_cc C__law_pages (hr.mono (by decide)) (by rfl) (pa_cons (pv 1) (pa_cons (pe_ix ix_tup (pe_cc C__law_lines (hr.mono (by decide)) (by rfl) (pa_cons (pv 2) pa_nil)) pe_int (fun _ _ => rfl)) pa_nil))) (pa_cons (pe_cc C__law_pending (hr.mono (by decide)) (by rfl) (pa_cons (pv 1) (pa_cons (pv 2) pa_nil))) pa_nil)) (by rfl))
      (pss_cons (ps_if (pt_by (PW.pt (pw_or (pt_cmpR (op_neD hr.units) (pe_pr (pv 0) T.cl P_now (hr.mono (by decide))) (pe_cc C__law_standing (hr.mono (by decide)) (by rfl) (pa_cons (pv 1) (pa_cons (pv 2) pa_nil))) (nomark _)) (pw_or (pt_cmpR op_ne (pe_pr (pv 0) T.cl P_pending (hr.mono (by decide))) (pv 4) (nomark _)) (pw_or1 (pt_not (pt_val (pe_cc C__law_number (hr.mono (by decide)) (by rfl) (pa_cons (pe_pr (pv 0) T.cl P_pending (hr.mono (by decide))) pa_nil)))))))))
        (pss_one (ps_ret pe_bl))
        pss_nil)
      (pss_cons (ps_set (i := 5) scL_shown.nd rfl (.inl rfl) (pe_mc0 (pv 0) T.cl M_finish (hr.mono (by decide))))
      (pss_cons (ps_if (pt_by (PW.pt (pw_or (pt_not (pt_val (pe_cc C__law_rows_right (hr.mono (by decide)) (by rfl) (pa_cons (pv 5) (pa_cons (pv 3) pa_nil))))) (pw_or1 (pt_not (pt_val (pe_cc C__law_rows_right (hr.mono (by decide)) (by rfl) (pa_cons (pe_mc0 (pv 0) T.cl M_settled (hr.mono (by decide))) (pa_cons (pe_slice sl_list (pv 3) po_none (po_some (pe_pure (pe_op op_sub (pe_callB call_len_seq (by rfl) T.b_len PySem.boot_len (pa_cons (pv 3) pa_nil)) (pv 4))))) pa_nil)))))))))
        (pss_one (ps_ret pe_bl))
        pss_nil)
      (pss_cons (ps_expr (pe_bm PySem.F.plainAttrs_list PySem.F.slot_list_append PySem.F.type_list_append mt_append (pv 5) (pa_cons (pe_tup (pa_cons pe_bl (pa_cons pe_int pa_nil))) pa_nil)))
      (pss_one (ps_ret (pe_and (pe_cmpR op_eq (pe_callB (call_lenO M_len (hr.mono (by decide))) (by rfl) T.b_len PySem.boot_len (pa_cons (pv 0) pa_nil)) (pe_callB call_len_seq (by rfl) T.b_len PySem.boot_len (pa_cons (pv 3) pa_nil)) (nomark _)) (pe_and (pe_cmpR (op_eqD hr.units) (pe_mc0 (pv 0) T.cl M_finish (hr.mono (by decide))) (pv 3) (nomark _)) (pe_one (pe_cmpR op_is_bl (pe_pr (pv 0) T.cl P_went_over (hr.mono (by decide))) pe_bl (nomark _)))))))))))), ?_⟩
    have hbs : ∀ b ∈ bs, 0 ≤ b.s := fun b hb => (B.small b hb).2
    have gl := (good_lines bs hbs).1
    have hlen := B.len
    have hlo := lo_ok hL hbs
    have hRs := rows_same hL bs hbs
    have hRl : (rowsOf (runS L (linesOf bs).ls)).length = (linesOf bs).ls.length := (right_ok hL gl).1
    have hrl : (pageOf L bs).rows.length ≤ 2000 := by rw [hRs, hRl]; exact hlen
    -- due, count
    refine ⟨_, rfl, _, rfl, a, xs, bs, rfl, hS, hx, B, fun p2 lq H1 lv hp2 s1 ht2 hlq hlv => ?_⟩
    refine ⟨p2, _, _, _, rfl, rfl, SqT.of ht2, atI_nat (j := 0) rfl, L, lq, lv, (linesOf bs).ls, rfl, hlq, hlv, hL, gl, by omega, fun pr H2 rv hpr s2 hrv hrw => ?_⟩
    rw [← hRs] at hrw
    have S2 := s1.trans s2
    refine ⟨_, rfl, _, rfl, L, a, xs, bs, rfl, S2.seq hS, blMono (Tups.of S2) hx, B, hL, fun H3 s3 => ?_⟩
    refine ⟨_, _, rfl, ?_⟩
    have S3 := S2.trans s3
    have hrv3 := s3 _ _ hrv
    have hrw3 := rwMono (Tups.of s3) hrw
    have pg3 := pg.same S3
    have hxs3 := blMono (Tups.of S3) hx
    have hS3 := S3.seq hS
    -- now, pending
    refine ⟨fun c H' => c = false ∧ Same H3 H', fun Q' hQ => ?_, ?_⟩
    · refine ⟨_, rfl, x, dx, _, rfl, pg3.pa.ob, x, dx, rl, st, L, _, _, rfl, pg3.pa, ?_⟩
      refine ⟨_, rfl, _, rfl, L, a, xs, bs, rfl, hS3, hxs3, B, hL, fun p4 H4 hp4 s4 hst4 => ?_⟩
      have pg4 := pg3.same s4
      obtain ⟨wd, e1, e2, rfl⟩ := pg4.st
      refine ⟨_, _, dpSt e1, dpSt (SqT.of hst4), shSt _ _ _ _, shSt _ _ _ _, _, rfl, ?_⟩
      rw [eqv_self (shSt _ _ _ _)]
      refine iteF ?_
      refine ⟨_, rfl, x, dx, _, rfl, pg4.pa.ob, x, dx, rl, st, L, _, _, rfl, pg4.pa, _, rfl, rfl, _, rfl, iteNS rfl ?_⟩
      refine ⟨_, rfl, x, dx, _, rfl, pg4.pa.ob, x, dx, rl, st, L, _, _, rfl, pg4.pa, _, rfl, _, rfl, ?_⟩
      exact hQ _ _ ⟨rfl, s4⟩
    rintro c H4 ⟨rfl, s4⟩
    refine iteF ?_
    have pg4 := pg3.same s4
    -- told
    refine ⟨_, rfl, x, dx, _, rfl, pg4.pa.ob, no_finish _ _ _ _, x, dx, rl, st, L, _, _, rfl, pg4.pa, by omega, fun pt H5 ys hpt s5 hys hrw5 => ?_⟩
    have S5 := (S3.trans s4).trans s5
    have s35 := s4.trans s5
    have pg5 := pg4.same s5
    have hrv5 := s35 _ _ hrv3
    have hrv5w := rwMono (Tups.of s35) hrw3
    refine ⟨fun c H' => c = false ∧ Same H5 H', fun Q' hQ => ?_, ?_⟩
    · refine ⟨_, rfl, _, rfl, pt, pr, ys, rv, _, rfl, hys, hrw5, hrv5, hrv5w, by omega, fun H6 s6 => ?_⟩
      refine ⟨_, rfl, iteF ?_⟩
      have pg6 := pg5.same s6
      refine ⟨_, rfl, x, dx, _, rfl, pg6.pa.ob, no_settled _ _ _ _, x, dx, rl, st, L, _, _, rfl, pg6.pa, hlo.1, hlo.2, by omega, fun ps H7 zs hps s7 hzs hrw7 => ?_⟩
      have s57 := s6.trans s7
      have hrv7 := s57 _ _ hrv5
      have hrv7w := rwMono (Tups.of s57) hrv5w
      have hrvl := hrv7w.len
      have ea : ((rv.length : Nat) : Int) - (pageOf L bs).lo = (((pageOf L bs).rows.length - (pageOf L bs).lo.toNat : Nat) : Int) := by rw [hrvl]; have := hlo; omega
      refine ⟨_, rfl, .int (((pageOf L bs).rows.length - (pageOf L bs).lo.toNat : Nat) : Int), fun Q'' hQ' => ⟨_, rfl, pr, _, rfl, .inl (SqL.of hrv7), _, rfl, _, _, rfl, rfl, ?_⟩, ?_⟩
      · rw [← ea] at hQ'
        exact hQ'
      refine ⟨_, rfl, pr, _, rfl, SqL.of hrv7, fun u hu => ?_⟩
      have sU := same_new (o := .lst (cutV rv none (some (((pageOf L bs).rows.length - (pageOf L bs).lo.toNat : Nat) : Int)))) hu
      have ec := cutV_to (xs := rv) (n := (pageOf L bs).rows.length - (pageOf L bs).lo.toNat) (by rw [hrvl]; omega)
      have z := (rwMono (Tups.of sU) hrv7w).take ((pageOf L bs).rows.length - (pageOf L bs).lo.toNat)
      rw [← ec] at z
      refine ⟨ps, u, zs, _, _, rfl, sU _ _ hzs, rwMono (Tups.of sU) hrw7, upd_same, z, ?_, fun H8 s8 => ?_⟩
      · unfold preS
        rw [List.length_take]
        omega
      refine ⟨_, rfl, ?_⟩
      exact hQ _ _ ⟨rfl, (s57.trans sU).trans s8⟩
    rintro c H6 ⟨rfl, s6⟩
    refine iteF ?_
    -- what was told is changed
    have hys6 := s6 _ _ hys
    have hrw6 := rwMono (Tups.of s6) hrw5
    have hrv6 := s6 _ _ hrv5
    have hrv6w := rwMono (Tups.of s6) hrv5w
    have hHpt : H pt = none := (S3.trans s4).free hpt
    have hprt : pr ≠ pt := fun z => by
      have := s4 _ _ hrv3
      rw [z, hpt] at this
      cases this
    refine ⟨_, rfl, .inl ⟨rfl, _, SqL.of hys6⟩, (by show 2 ≤ sizeLine; decide), fun u hu => ?_⟩
    obtain ⟨p1, p2, p3, p4⟩ := all_push (f := fun r : Int => [.bl (decide (r = 0)), .int r]) (y := (0 : Int)) (tv := [.bl true, .int 0]) hys6 hrw6 hu rfl
    refine ⟨pt, _, _, rfl, rfl, p3, ?_, ?_⟩
    · rw [hrw6.len]
      exact Nat.lt_of_le_of_lt (m := 2000) (by omega) (by decide)
    have S7 : Same H (upd (upd H6 u (.tup [.bl true, .int 0])) pt (.lst (ys ++ [.ref u]))) := fun b o e => p4 b o (fun z => by rw [z, hHpt] at e; cases e) ((S5.trans s6) _ _ e)
    have hrv7 := p4 _ _ hprt hrv6
    have hrv7w : AllAt RwAt (upd (upd H6 u (.tup [.bl true, .int 0])) pt (.lst (ys ++ [.ref u]))) rv (pageOf L bs).rows := rwMono ((Tups.new hu).trans (Tups.lst p3)) hrv6w
    generalize upd (upd H6 u (.tup [.bl true, .int 0])) pt (.lst (ys ++ [.ref u])) = H7 at S7 hrv7 hrv7w ⊢
    have pg7 := pg.same S7
    refine ⟨_, rfl, x, dx, _, rfl, pg7.pa.ob, x, dx, rl, st, L, _, _, rfl, pg7.pa, _, rfl, by omega, by omega, ?_⟩
    refine ⟨_, rfl, pr, _, rfl, .inl (SqL.of hrv7), rfl, _, rfl, iteP (decide_eq_true (by rw [hrv7w.len])) ?_⟩
    refine ⟨_, rfl, x, dx, _, rfl, pg7.pa.ob, no_finish _ _ _ _, x, dx, rl, st, L, _, _, rfl, pg7.pa, by omega, fun p9 H8 ys8 hp9 s8 hys8 hrw8 => ?_⟩
    refine ⟨_, rfl, .list ((pageOf L bs).rows.map dRw), .list ((pageOf L bs).rows.map dRw), .lst (SqL.of hys8) (dpRw hrw8), .lst (SqL.of (s8 _ _ hrv7)) (dpRw (rwMono (Tups.of s8) hrv7w)), shRw _, shRw _, _, rfl, ?_⟩
    rw [eqv_self (shRw _)]
    refine iteT ?_
    have pg8 := pg7.same s8
    refine ⟨_, rfl, x, dx, _, rfl, pg8.pa.ob, x, dx, rl, st, L, _, _, rfl, pg8.pa, _, _, rfl, rfl, ?_⟩
    exact k _ (S7.trans s8)
end
end Pa
set_option maxRecDepth 100000
set_option maxHeartbeats 4000000
namespace Pa
open PySem PySem.Spec PyProof.Rows L2
/-- o.m(e, .., k = v, ..): n values and the keywords' values, put into the parameters' order by gV -/
def tMethK (C : Addr) (m : Str) (n j : Nat) (sp : Sp) (gV : List V → List V → List V) (ta : TE) (t tk : TA) : TE :=
  fun σ H Q => ta σ H fun x H1 => ∃ a dx fs, x = .ref a ∧ H1 a = some (.ins C dx fs) ∧ fs.lookup m = none ∧
    t σ H1 fun vs H2 => tk σ H2 fun zs H3 => vs.length = n ∧ zs.length = j ∧ sp (gV (x :: vs) zs) H3 Q E0
section
variable {X : Cx} {k n : Nat} {f C : Addr} {fd : FuncData} {ps ks : List Str} {sp : Sp}
variable {m : Str} {apos pos : Pos} {o e : Expr} {es : List Expr} {kws : List Keyword} {ta : TE} {t tk : TA}
variable {g : List Value → List Value → List Value} {gV : List V → List V → List V}
theorem pe_methK {pl : Sem Bool} (he : PE X o ta) (c : Cls X.K C) (hm : Meth X.K C m f)
    (F : FnOk X.prog X.w X.K X.mg X.base CX0 k f fd ps sp) (hr : Room k X.A)
    (hb : KBn X.K fd ps (n + 1) ks g gV) (ha : PA X (e :: es) t) (hkw : PK X kws tk)
    (hall : (backToKw pos (keywordEach kws X.env)).all (·.1.isSome) = true := by rfl)
    (hks : (backToKw pos (keywordEach kws X.env)).filterMap (·.1) = ks := by rfl)
    (hst : starEach (e :: es) X.env = (false, eval e X.env) :: starEach es X.env := by rfl)
    (hpl : ((backTo pos (starEach (e :: es) X.env)).any (·.1) ||
      (backToKw pos (keywordEach kws X.env)).any (·.1.isNone)) = false := by rfl)
    (ht : eval (.Call (.Attribute o m apos) (e :: es) kws pos) X.env = (do
      let z ← eval o X.env
      standAt apos.atName
      let (f, first) ← holding [z] (getMethod z m pl)
      callWith pos f first (backTo pos (starEach (e :: es) X.env))
        (backToKw pos (keywordEach kws X.env))) := by rfl) :
    PE X (.Call (.Attribute o m apos) (e :: es) kws pos) (tMethK C m n ks.length sp gV ta t tk) := by
  constructor
  intro pins s σ H Q I h
  refine PySem.W.methodCall_KW (pl := pl) (thn (he.run pins s σ H _ I h) ?_) ht
  rintro u s1 ⟨x, H1, I1, rx, a, dx, fs, ex, ea, l, q⟩
  subst ex
  cases (show u = Value.ref a from rx)
  refine getmeth_ok I1 ea c hm l ?_
  refine PySem.W.callWith_KW (first := [.ref a]) (h₀ := X.base) I.ok.mod.kin hm.kp hall ?_ hpl hst
  refine thn (ha.run pos pins s1 σ H1 _ I1 q) ?_
  rintro us s2 ⟨vs, H2, I2, r, q2⟩
  refine thn (hkw.run pos pins s2 σ H2 _ I2 q2) ?_
  rintro ws s3 ⟨zs, H3, I3, rz, l1, l2, q3⟩
  refine ⟨I3.kIn, ?_⟩
  rw [hks]
  have rr : Vals (.ref a :: vs) (.ref a :: us) := .cons rfl r
  exact run_fnN (us := .ref a :: us) (vs := .ref a :: vs) F hr hb pass0 I3 rr rz (congrArg (· + 1) l1) l2 q3
end

structure MethKOk (P : Program) (w : World) (K : PySem.W.Frag) (mg : Str → Option Value) (base : Heap) (C : Addr) (k : Nat) (m : Str) (ps ks : List Str) (n : Nat) (sp : Sp) : Prop where
  ok : ∃ (f : Addr) (fd : FuncData), Meth K C m f ∧ KBn K fd ps (n + 1) ks (fun us ws => us ++ ws) (fun vs zs => vs ++ zs) ∧ FnOk P w K mg base CX0 k f fd ps sp
structure MakeOk (P : Program) (w : World) (K : PySem.W.Frag) (mg : Str → Option Value) (base : Heap) (C : Addr) (k : Nat) (x : Str) (ps : List Str) (sp : Sp) : Prop where
  ok : ∃ (f : Addr) (fd : FuncData), Mk K C f ∧ mg x = some (.ref C) ∧ Binds K fd ps [] ∧ FnOk P w K mg base CX0 k f fd ps sp
section
variable {X : Cx} {k n : Nat} {C : Addr} {ps ks : List Str} {sp : Sp} {m x : Str} {p apos pos : Pos} {o e : Expr} {es : List Expr} {kws : List Keyword} {ta : TE} {t tk : TA}
theorem pe_mk (M : MakeOk X.prog X.w X.K X.mg X.base C k x ps sp) (hr : Room (k + 1) X.A) (hg : Gl X x) (ha : PA X (e :: es) t)
    (hdb : (x == ("__debug__" : Str)) = false := by decide) (he : starEach (e :: es) X.env = (false, eval e X.env) :: starEach es X.env := by rfl) (hpl : (backTo pos (starEach es X.env)).any (·.1) = false := by rfl) :
    PE X (.Call (.Name x p) (e :: es) [] pos) (tMake C sp [] E0 t) := by
  obtain ⟨f, fd, h1, h2, h3, h4⟩ := M.ok
  exact pe_make h1 h4 hr hg h2 h3 .nil pass0 ha hdb he hpl
theorem pe_mkw {pl : Sem Bool} (he : PE X o ta) (c : Cls X.K C) (M : MethKOk X.prog X.w X.K X.mg X.base C k m ps ks n sp) (hr : Room k X.A) (ha : PA X (e :: es) t) (hkw : PK X kws tk)
    (hall : (backToKw pos (keywordEach kws X.env)).all (·.1.isSome) = true := by rfl)
    (hks : (backToKw pos (keywordEach kws X.env)).filterMap (·.1) = ks := by rfl)
    (hst : starEach (e :: es) X.env = (false, eval e X.env) :: starEach es X.env := by rfl)
    (hpl : ((backTo pos (starEach (e :: es) X.env)).any (·.1) ||
      (backToKw pos (keywordEach kws X.env)).any (·.1.isNone)) = false := by rfl)
    (ht : eval (.Call (.Attribute o m apos) (e :: es) kws pos) X.env = (do
      let z ← eval o X.env
      standAt apos.atName
      let (f, first) ← holding [z] (getMethod z m pl)
      callWith pos f first (backTo pos (starEach (e :: es) X.env))
        (backToKw pos (keywordEach kws X.env))) := by rfl) :
    PE X (.Call (.Attribute o m apos) (e :: es) kws pos) (tMethK C m n ks.length sp (fun vs zs => vs ++ zs) ta t tk) := by
  obtain ⟨f, fd, h1, h2, h3⟩ := M.ok
  exact pe_methK he c h1 h3 hr h2 ha hkw hall hks hst hpl ht
end
theorem Book.take {bs : List Bl} (B : Book bs) (i : Nat) : Book (bs.take i) := ⟨by have := B.few; rw [List.length_take]; omega, fun b hb => B.small b (List.mem_of_mem_take hb)⟩
end Pa
set_option maxRecDepth 100000
set_option maxHeartbeats 4000000
namespace Pa
open PySem PySem.Spec PyProof.Rows L2
/-- the block with another wish for a new page -/
def wg (b : Bl) (g : Bool) : Bl := ⟨b.c, b.s, b.k, g⟩
theorem begin_first (L : Int) (q : SB) (b : Bl) (h : b.g = true) : blockP L (due0 q true) (wg b false) = blockP L q b := by
  have e1 : due0 (due0 q true) false = due0 q true := rfl
  unfold blockP wg
  dsimp only
  rw [h, e1]
theorem wg_self (b : Bl) : wg b b.g = b := rfl
theorem rel_due {L : Int} {t : LS} {q : SB} (R : Rel L t q) : Rel L ⟨t.ls, true, t.kp⟩ (due0 q true) := ⟨R.rows, R.nn, (fun _ => ⟨rfl, rfl, rfl, rfl⟩), (fun h => by cases h)⟩
section
variable {P : Program} {w : World} {K : PySem.W.Frag} {mg : Str → Option Value} {base : Heap} {tp C : Addr}
/-! ### _law_set -/
def spSet (K : PySem.W.Frag) (C : Addr) : Sp := fun vs H Q _ => ∃ (x dx rl st : Addr) (L : Int) (tb : Addr) (ap : Bool) (b : Bl) (bs : List Bl), vs = [.ref x, .ref tb, .bl ap] ∧ PgB K C L x dx rl st (pageOf L bs) H ∧ H tb = some (.tup [.int (b.c : Int), .int b.s, .bl b.k, .bl b.g]) ∧
  Book bs ∧ b.c ≤ 100 ∧ 0 ≤ b.s ∧ 2 ≤ L ∧ ∀ H' st', PgB K C L x dx rl st' (pageOf L (bs ++ [b])) H' → Keep x rl H H' → Q (.bl true) H'
abbrev sL_set : Stmt := topS 28
theorem scL_set : FnScope ["_law_page", "_law_block_here", "_law_apart", "_law_count", "_law_space", "_law_kept", "_law_is_new"] ["_law_page", "_law_block_here", "_law_apart"] (defScope sL_set) := ⟨rfl, rfl, rfl, by decide +kernel, rfl, by decide +kernel, by decide +kernel⟩
theorem ok_set {f : Addr} {fd : FuncData} (F : Fun K "_law_set" "_law_set" sL_set f fd) (T : Txt K mg tp C) (M_begin : MethOk P w K mg base C 2 "begin" ["self"] (spBegin C tp))
    (M_block : MethKOk P w K mg base C 3 "block" ["self", "count", "space", "kept", "page"] ["space", "kept", "page"] 1 (spBlock K C))
    (M_block0 : MethDOk P w K mg base C 3 "block" ["self", "count", "space", "kept", "page"] [.int 0, .bl false, .bl false] (spBlock K C)) : FnOk P w K mg base CX0 4 f fd ["_law_page", "_law_block_here", "_law_apart"] (spSet K C) := by
  refine F.ok scL_set (fun vs H Q E h => ?_) (fun cdv A outer s H vs Q E hr h => ?_)
  · obtain ⟨x, dx, rl, st, L, tb, ap, b, bs, rfl, _⟩ := h
    rfl
  · obtain ⟨x, dx, rl, st, L, tb, ap, b, bs, rfl, pg, htb, B, hc, hs, hL, k⟩ := h
    refine ⟨_, (pss_cons (ps_asg (pv 1) (pg_tup rfl (pgs_cons (pg_name (i := 3) scL_set.nd rfl (.inl rfl)) (pgs_cons (pg_name (i := 4) scL_set.nd rfl (.inl rfl)) (pgs_cons (pg_name (i := 5) scL_set.nd rfl (.inl rfl)) (pgs_cons (pg_name (i := 6) scL_set.nd rfl (.inl rfl)) pgs_nil))))))
      (pss_cons (ps_by (ps_if (pt_pure (PW.pt (pw_and (pt_val (pv 6)) (pw_and1 (pt_val (pv 2))))))
        (pss_cons (ps_if (pt_cmpR op_notN (pe_mc0 (pv 0) T.cl M_begin (hr.mono (by decide))) pe_non (nomark _))
          (pss_one (ps_ret pe_bl))
          pss_nil)
        (pss_one (ps_set (i := 6) scL_set.nd rfl (.inl rfl) pe_bl)))
        pss_nil))
      (pss_cons (ps_if (pt_by (PW.pt (pw_and (pt_cmpR op_eq (pv 4) pe_int (nomark _)) (pw_and (pt_not (pt_val (pv 5))) (pw_and1 (pt_not (pt_val (pv 6))))))))
        (pss_one (ps_ret (pe_cmpR op_isN (pe_mcd (pv 0) T.cl M_block0 (hr.mono (by decide)) (pa_cons (pv 3) pa_nil)) pe_non (nomark _))))
        pss_nil)
      (pss_one (ps_ret (pe_cmpR op_isN (pe_mkw (pv 0) T.cl M_block (hr.mono (by decide)) (pa_cons (pv 3) pa_nil) (pk_cons (pv 4) (pk_cons (pv 5) (pk_cons (pv 6) pk_nil)))) pe_non (nomark _))))))), ?_⟩
    have hbs : ∀ b ∈ bs, 0 ≤ b.s := fun b hb => (B.small b hb).2
    have hL0 : 0 < L := by omega
    have Rl := pageOf_rel hL0 bs hbs
    have hrl : (pageOf L bs).rows.length ≤ 2000 := by
      rw [rows_same hL0 bs hbs, (right_ok hL0 (good_lines bs hbs).1).1]
      exact B.len
    rw [pageOf_snoc] at k
    generalize pageOf L bs = q at pg k Rl hrl
    refine ⟨_, rfl, tb, _, rfl, SqT.of htb, rfl, _, _, rfl, _, _, rfl, _, _, rfl, _, _, rfl, rfl, ?_⟩
    refine ⟨fun σ' H1 => ∃ (g : Bool) (st1 : Addr) (q1 : SB) (t1 : LS), σ' = [some (.ref x), some (.ref tb), some (.bl ap), some (.int (b.c : Int)), some (.int b.s), some (.bl b.k), some (.bl g)] ∧ PgB K C L x dx rl st1 q1 H1 ∧ Keep x rl H H1 ∧ Rel L t1 q1 ∧ q1.rows.length ≤ 2000 ∧ blockP L q1 (wg b g) = blockP L q b, fun N hN => ?_, ?_⟩
    · refine ⟨b.g && ap, fun Q' hQ => ?_, ite2 (fun g1 => ?_) (fun g1 => ?_)⟩
      · refine ⟨_, rfl, _, rfl, ?_⟩
        rcases twoB b.g with hg | hg
        · refine iteP hg ⟨_, rfl, _, rfl, ?_⟩
          rw [hg, Bool.true_and] at hQ
          exact hQ
        · refine iteQ (neT hg) ?_
          rw [hg, Bool.false_and] at hQ
          exact hQ
      · have g1 := (Bool.and_eq_true_iff.mp g1).1
        refine ⟨_, rfl, x, dx, _, rfl, pg.pa.ob, no_begin _ _ _ _, x, dx, rl, st, L, _, _, rfl, pg.pa, fun H1 p1 k1 => ?_⟩
        refine ⟨rfl, _, rfl, iteF ?_⟩
        exact hN _ _ ⟨false, tp, due0 q true, _, rfl, ⟨p1, ⟨"top", T.top H1, nt_, rfl⟩⟩, k1, rel_due Rl, hrl, begin_first L q b g1⟩
      · exact hN _ _ ⟨b.g, st, q, _, rfl, pg, (fun a o _ _ e => e), Rl, hrl, by rw [wg_self]⟩
    rintro σ' H1 ⟨g, st1, q1, t1, rfl, pg1, k1, Rl1, hrl1, eb⟩
    rw [← eb] at k
    refine ⟨fun c H' => H' = H1 ∧ (c = true → b.s = 0 ∧ b.k = false ∧ g = false), fun Q' hQ => ?_, ?_⟩
    · refine ⟨_, rfl, rfl, _, rfl, ite2 (fun h1 => ?_) (fun h1 => ?_)⟩
      · have h1 := V.int.inj (of_decide_eq_true h1)
        refine ⟨_, rfl, _, rfl, ?_⟩
        rcases twoB b.k with hk | hk
        · refine iteQ (show ¬ ((!b.k) = true) from notT hk) ?_
          exact hQ _ _ ⟨rfl, fun z => by cases z⟩
        · refine iteP (show (!b.k) = true from notF hk) ⟨_, rfl, _, rfl, ?_⟩
          refine hQ _ _ ⟨rfl, fun z => ⟨h1, hk, ?_⟩⟩
          cases g
          · rfl
          · cases z
      · exact hQ _ _ ⟨rfl, fun z => by cases z⟩
    rintro c H2 ⟨rfl, hcc⟩
    refine ite2 (fun h1 => ?_) (fun h1 => ?_)
    · obtain ⟨z1, z2, z3⟩ := hcc h1
      have ew : wg b g = ⟨b.c, 0, false, false⟩ := by unfold wg; rw [z1, z2, z3]
      rw [ew] at k
      refine ⟨_, rfl, x, dx, _, rfl, pg1.pa.ob, no_block _ _ _ _, _, rfl, x, dx, rl, st1, L, q1, ⟨b.c, 0, false, false⟩, t1, rfl, pg1.pa, pg1.st, hL, Rl1, Int.le_refl 0, hc, by omega, fun H3 st3 p3 h3 k3 => ?_⟩
      exact ⟨rfl, k H3 st3 ⟨p3, h3⟩ (k1.trans k3)⟩
    · refine ⟨_, rfl, x, dx, _, rfl, pg1.pa.ob, no_block _ _ _ _, _, rfl, _, rfl, _, rfl, _, rfl, rfl, rfl, x, dx, rl, st1, L, q1, wg b g, t1, rfl, pg1.pa, pg1.st, hL, Rl1, hs, hc, by omega, fun H3 st3 p3 h3 k3 => ?_⟩
      exact ⟨rfl, k H3 st3 ⟨p3, h3⟩ (k1.trans k3)⟩
end
end Pa
set_option maxRecDepth 100000
set_option maxHeartbeats 4000000
namespace Pa
open PySem PySem.Spec PyProof.Rows L2
theorem Bk.same {b : Addr} {H H1 H2 : Hp} (x : Bk b H H1) (s : Same H1 H2) : Bk b H H2 := by
  obtain ⟨⟨g, y, c, e⟩, kp⟩ := x
  exact ⟨⟨g, y, c, s _ _ e⟩, fun q u hq eq => s _ _ (kp q u hq eq)⟩
theorem Bk.refl {b : Addr} {H : Hp} (h : IsBag H b) : Bk b H H := ⟨h, fun _ _ _ e => e⟩
theorem Bk.tups {b : Addr} {H H' : Hp} (hb : IsBag H b) (x : Bk b H H') : Tups H H' := fun t vs e => x.keep t _ (fun q => by
  obtain ⟨g, y, c, e2⟩ := hb
  rw [q, e2] at e
  cases e) e
section
variable {K : PySem.W.Frag} {C x dx rl st y dy ry sy b : Addr} {L L' : Int} {q q' : SB} {H H0 H' : Hp}
theorem PgB.bk (h : PgB K C L x dx rl st q H) (hb : IsBag H b) (B : Bk b H H') (n : rl ≠ b) : PgB K C L x dx rl st q H' := by
  obtain ⟨g, z, c, e2⟩ := hb
  refine ⟨⟨B.keep _ _ (fun r => by have := h.pa.ob; rw [r, e2] at this; cases this) h.pa.ob, B.keep _ _ n h.pa.rs⟩, ?_⟩
  obtain ⟨w, s1, s2, s3⟩ := h.st
  refine ⟨w, ?_, s2, s3⟩
  rcases s1 with (h | ⟨o, h⟩) | h
  · exact .inl (.inl (B.keep _ _ (fun r => by rw [r, e2] at h; cases h) h))
  · exact .inl (.inr ⟨o, B.keep _ _ (fun r => by rw [r, e2] at h; cases h) h⟩)
  · exact .inr h
theorem PgB.other (h : PgB K C L y dy ry sy q H) (g : PgB K C L' x dx rl st q' H) (k : Keep x rl H H') (n1 : y ≠ x) (n2 : ry ≠ rl) : PgB K C L y dy ry sy q H' :=
  ⟨⟨k _ _ n1 (fun r => by have := h.pa.ob; rw [r, g.pa.rs] at this; cases this) h.pa.ob, k _ _ (fun r => by have := h.pa.rs; rw [r, g.pa.ob] at this; cases this) n2 h.pa.rs⟩, h.st.keep k g.pa⟩
theorem PgB.tups (g : PgB K C L x dx rl st q H) (k : Keep x rl H H') : Tups H H' := fun t vs e => k t _ (fun r => by rw [r, g.pa.ob] at e; cases e) (fun r => by rw [r, g.pa.rs] at e; cases e) e
theorem PgB.lst (g : PgB K C L x dx rl st q H) (k : Keep x rl H H') {u : Addr} {zs : List V} (n : u ≠ rl) (e : H u = some (.lst zs)) : H' u = some (.lst zs) := k u _ (fun r => by rw [r, g.pa.ob] at e; cases e) n e
theorem PgB.bag (g : PgB K C L x dx rl st q H) (k : Keep x rl H H') (n : b ≠ rl) (h : IsBag H b) : IsBag H' b := by
  obtain ⟨g1, z, c, e⟩ := h
  exact ⟨g1, z, c, g.lst k n e⟩
/-- only the page, new since H0, has changed -/
theorem PgB.bks (g : PgB K C L x dx rl st q H) (k : Keep x rl H H') (n : b ≠ rl) (nx : H0 x = none) (nr : H0 rl = none) (B : Bk b H0 H) : Bk b H0 H' :=
  ⟨g.bag k n B.bag, fun u o hu e => k u o (fun r => by rw [r, nx] at e; cases e) (fun r => by rw [r, nr] at e; cases e) (B.keep u o hu e)⟩
theorem mk_facts {H1 : Hp} (nx : H x = none) (ndx : H dx = none) (ka : ∀ a o, a ≠ x → (upd (upd H dx (.own x)) x (.ins C dx [])) a = some o → H1 a = some o) (hr : (upd (upd H dx (.own x)) x (.ins C dx [])) rl = none) : Same H H1 ∧ H rl = none := by
  refine ⟨fun q o e => ka q o (fun r => by rw [r, nx] at e; cases e) (by
    rw [upd_ne (ne_of_none e nx), upd_ne (ne_of_none e ndx)]
    exact e), ?_⟩
  cases e : H rl with
  | none => rfl
  | some o =>
    have nr : rl ≠ x := fun r => by rw [r, nx] at e; cases e
    have nd : rl ≠ dx := fun r => by rw [r, ndx] at e; cases e
    rw [upd_ne nr, upd_ne nd, e] at hr
    cases hr
end
theorem rows_len {L : Int} (hL : 0 < L) {bs : List Bl} (B : Book bs) : (pageOf L bs).rows.length ≤ 2000 := by
  have hs : ∀ b ∈ bs, 0 ≤ b.s := fun b hb => (B.small b hb).2
  rw [rows_same hL bs hs, (right_ok hL (good_lines bs hs).1).1]
  exact B.len
theorem book0 : Book [] := ⟨by simp, fun b hb => by cases hb⟩
section
variable {P : Program} {w : World} {K : PySem.W.Frag} {mg : Str → Option Value} {base : Heap} {tp C : Addr}
theorem pg0 (T : Txt K mg tp C) {L : Int} {x dx rl : Addr} {H : Hp} (pa : PA' C L x dx rl tp 0 [] H) : PgB K C L x dx rl tp (pageOf L []) H := ⟨pa, ⟨"top", T.top H, nt_, rfl⟩⟩
def spLRight (K : PySem.W.Frag) : Sp := fun vs H Q _ => ∃ (b : Addr) (L : Int) (a : Addr) (xs : List V) (bs : List Bl), vs = [.ref b, .int L, .ref a] ∧ IsBag H b ∧ H a = some (.lst xs) ∧ a ≠ b ∧ AllAt BlAt H xs bs ∧ Book bs ∧ 2 ≤ L ∧ ∀ H', Bk b H H' → Q (.bl true) H'
abbrev sL_right : Stmt := topS 29
theorem scL_right : FnScope ["_law_bag_here", "_law_length_here", "_law_blocks", "_law_page", "_law_other", "_law_settled", "_law_k", "_law_block_here", "_law_told"] ["_law_bag_here", "_law_length_here", "_law_blocks"] (defScope sL_right) := ⟨rfl, rfl, rfl, by decide +kernel, rfl, by decide +kernel, by decide +kernel⟩
theorem ok_lright {f : Addr} {fd : FuncData} (F : Fun K "_law_right" "_law_right" sL_right f fd) (T : Txt K mg tp C) (C__law_draw : CallOk P w K mg base 1 "_law_draw" ["_law_bag_here", "_law_many"] spDraw)
    (C__law_shown : CallOk P w K mg base 5 "_law_shown" ["_law_page", "_law_length_here", "_law_blocks"] (spShown K C)) (C__law_set : CallOk P w K mg base 4 "_law_set" ["_law_page", "_law_block_here", "_law_apart"] (spSet K C))
    (M_Page : MakeOk P w K mg base C 1 "Page" ["self", "length"] (spInit C tp)) (M_settled : MethOk P w K mg base C 2 "settled" ["self"] (spSettled C)) : FnOk P w K mg base CX0 6 f fd ["_law_bag_here", "_law_length_here", "_law_blocks"] (spLRight K) := by
  refine F.ok scL_right (fun vs H Q E h => ?_) (fun cdv A outer s H vs Q E hr h => ?_)
  · obtain ⟨b, L, a, xs, bs, rfl, _⟩ := h
    rfl
  · obtain ⟨b, L, a, xs, bs, rfl, hb, ha, nab, hx, B, hL, k⟩ := h
    refine ⟨_, (pss_cons (ps_par3 (i := 3) (j := 4) (l := 5) (by rfl) scL_right.nd rfl rfl rfl (by decide) (by decide) (by decide) rfl rfl rfl (pa_cons (pe_mk M_Page (hr.mono (by decide)) (by rfl) (pa_cons (pv 1) pa_nil)) (pa_cons (pe_mk M_Page (hr.mono (by decide)) (by rfl) (pa_cons (pv 1) pa_nil)) (pa_cons (pe_lst pa_nil) pa_nil))) (by rfl))
      (pss_cons (ps_if (pt_by (PW.pt (pw_or (pt_not (pt_val (pe_cc C__law_shown (hr.mono (by decide)) (by rfl) (pa_cons (pv 3) (pa_cons (pv 1) (pa_cons (pe_lst pa_nil) pa_nil)))))) (pw_or1 (pt_not (pt_val (pe_cc C__law_shown (hr.mono (by decide)) (by rfl) (pa_cons (pv 4) (pa_cons (pv 1) (pa_cons (pe_lst pa_nil) pa_nil))))))))))
        (pss_one (ps_ret pe_bl))
        pss_nil)
      (pss_cons (ps_for PassesOwn.never rfl (pi_enum (by rfl) T.b_enumerate (pa_cons (pv 2) pa_nil)) (pg_tup rfl (pgs_cons (pg_name (i := 6) scL_right.nd rfl (.inl rfl)) (pgs_cons (pg_name (i := 7) scL_right.nd rfl (.inl rfl)) pgs_nil)))
        (pss_cons (ps_if (pt_by (PW.pt (pw_or (pt_not (pt_val (pe_cc C__law_set (hr.mono (by decide)) (by rfl) (pa_cons (pv 3) (pa_cons (pv 7) (pa_cons (pe_cmpR op_eq (pe_cc C__law_draw (hr.mono (by decide)) (by rfl) (pa_cons (pv 0) (pa_cons pe_int pa_nil))) pe_int (nomark _)) pa_nil)))))) (pw_or1 (pt_not (pt_val (pe_cc C__law_shown (hr.mono (by decide)) (by rfl) (pa_cons (pv 3) (pa_cons (pv 1) (pa_cons (pe_slice sl_list (pv 2) po_none (po_some (pe_pure (pe_op op_add (pv 6) pe_int)))) pa_nil))))))))))
          (pss_one (ps_ret pe_bl))
          pss_nil)
        (pss_cons (ps_if (pt_by (PW.pt (pw_and (pt_cmpR op_eq (pv 6) pe_int (nomark _)) (pw_and1 (pt_not (pt_val (pe_cc C__law_set (hr.mono (by decide)) (by rfl) (pa_cons (pv 4) (pa_cons (pv 7) (pa_cons pe_bl pa_nil))))))))))
          (pss_one (ps_ret pe_bl))
          pss_nil)
        (pss_cons (ps_set (i := 8) scL_right.nd rfl (.inl rfl) (pe_mc0 (pv 3) T.cl M_settled (hr.mono (by decide))))
        (pss_cons (ps_if (pt_by (pt_cmpR (op_neD hr.units) (pe_slice sl_list (pv 8) po_none (po_some (pe_callB call_len_seq (by rfl) T.b_len PySem.boot_len (pa_cons (pv 5) pa_nil)))) (pv 5) (nomark _)))
          (pss_one (ps_ret pe_bl))
          pss_nil)
        (pss_cons (ps_set (i := 5) scL_right.nd rfl (.inl rfl) (pe_callTy call_list_of (by rfl) T.b_list (by decide +kernel) (pa_cons (pv 8) pa_nil)))
        (pss_one (ps_expr (pe_bm PySem.F.plainAttrs_list PySem.F.slot_list_append PySem.F.type_list_append mt_append (pv 8) (pa_cons (pe_tup (pa_cons pe_bl (pa_cons pe_int pa_nil))) pa_nil))))))))))
      (pss_one (ps_ret (pe_and (pe_cmpR op_eq (pe_fld (pv 3) rfl) (pv 1) (nomark _)) (pe_one (pe_cc C__law_shown (hr.mono (by decide)) (by rfl) (pa_cons (pv 4) (pa_cons (pv 1) (pa_cons (pe_slice sl_list (pv 2) po_none (po_some pe_int)) pa_nil))))))))))), ?_⟩
    have hL0 : 0 < L := by omega
    have hbs : ∀ b ∈ bs, 0 ≤ b.s := fun b hb => (B.small b hb).2
    -- two Pages
    refine ⟨_, rfl, fun x dx nx ndx ne => ⟨x, dx, L, rfl, upd_same, fun H1 r1 hr1 pa1 ka1 => ⟨rfl, ?_⟩⟩⟩
    obtain ⟨s1, hr1⟩ := mk_facts nx ndx ka1 hr1
    have pgx1 := pg0 T pa1
    refine ⟨_, rfl, fun y dy ny ndy ney => ⟨y, dy, L, rfl, upd_same, fun H2 r2 hr2 pa2 ka2 => ⟨rfl, Nat.zero_le _, fun sl0 hsl0 => ⟨_, _, _, rfl, ?_⟩⟩⟩⟩
    obtain ⟨s2, hr2⟩ := mk_facts ny ndy ka2 hr2
    have nyx : y ≠ x := fun r => by have := pgx1.pa.ob; rw [← r, ny] at this; cases this
    have nrr : r2 ≠ r1 := fun r => by have := pgx1.pa.rs; rw [← r, hr2] at this; cases this
    have Hy : H y = none := s1.free ny
    have Hr2 : H r2 = none := s1.free hr2
    obtain ⟨g0, z0, c0, hb0⟩ := id hb
    have nb1 : b ≠ r1 := fun r => by rw [r, hr1] at hb0; cases hb0
    have nb2 : b ≠ r2 := fun r => by rw [r, Hr2] at hb0; cases hb0
    have na1 : a ≠ r1 := fun r => by rw [r, hr1] at ha; cases ha
    have na2 : a ≠ r2 := fun r => by rw [r, Hr2] at ha; cases ha
    have s3 := s2.trans (same_new (o := .lst []) hsl0)
    have pgx3 := pgx1.same s3
    have pgy3 := (pg0 T pa2).same (same_new (o := .lst []) hsl0)
    have B3 : Bk b H _ := (Bk.refl hb).same (s1.trans s3)
    have hsl3 : (upd H2 sl0 (.lst [])) sl0 = some (.lst []) := upd_same
    have nl0 : sl0 ≠ b ∧ sl0 ≠ r1 ∧ sl0 ≠ r2 := ⟨(ne_of_none (s2 _ _ (s1 _ _ hb0)) hsl0).symm, (ne_of_none (s2 _ _ pa1.rs) hsl0).symm, (ne_of_none pa2.rs hsl0).symm⟩
    generalize upd H2 sl0 (.lst []) = H3 at s3 pgx3 pgy3 B3 hsl3 ⊢
    clear s1 s2 ka1 ka2 pa1 pa2 pgx1 hsl0 ney ne
    -- both show nothing
    refine ⟨fun c H' => c = false ∧ Same H3 H', fun Q' hQ => ?_, ?_⟩
    · refine ⟨_, rfl, _, rfl, Nat.zero_le _, fun u hu => ?_⟩
      have su := same_new (o := .lst []) hu
      refine ⟨x, dx, r1, tp, L, u, [], [], rfl, pgx3.same su, SqL.of upd_same, trivial, book0, hL0, fun H4 s4 => ?_⟩
      have s34 := su.trans s4
      refine ⟨_, rfl, iteF ?_⟩
      refine ⟨_, rfl, _, rfl, Nat.zero_le _, fun v hv => ?_⟩
      have sv := same_new (o := .lst []) hv
      refine ⟨y, dy, r2, tp, L, v, [], [], rfl, pgy3.same (s34.trans sv), SqL.of upd_same, trivial, book0, hL0, fun H5 s5 => ?_⟩
      exact ⟨_, rfl, hQ _ _ ⟨rfl, (s34.trans sv).trans s5⟩⟩
    rintro c H5 ⟨rfl, s5⟩
    refine iteF ?_
    have B5 := B3.same s5
    -- the blocks
    refine ⟨_, rfl, a, xs, rfl, SqL.of (B5.keep _ _ nab ha), for_it (walk_enum (xs := xs)) (fun i σ H' => ∃ (st1 st2 sl : Addr) (ss : List V) (y6 y7 y8 : Option V), σ = [some (.ref b), some (.int L), some (.ref a), some (.ref x), some (.ref y), some (.ref sl), y6, y7, y8] ∧ Bk b H H' ∧
        PgB K C L x dx r1 st1 (pageOf L (bs.take i)) H' ∧ PgB K C L y dy r2 st2 (pageOf L (bs.take (min i 1))) H' ∧ H' sl = some (.lst ss) ∧ AllAt RwAt H' ss (preS (pageOf L (bs.take i)).rows (pageOf L (bs.take i)).lo) ∧ sl ≠ b ∧ sl ≠ r1 ∧ sl ≠ r2)
      ⟨tp, tp, sl0, [], none, none, none, rfl, B5, pgx3.same s5, pgy3.same s5, s5 _ _ hsl3, trivial, nl0⟩ (fun i σ H' _ ⟨_, _, _, _, _, _, _, _, B6, _⟩ => SqL.of (B6.keep _ _ nab ha)) ?_ ?_⟩
    · rintro i x' σ H6 H7 hi ⟨st1, st2, sl, ss, y6, y7, y8, rfl, B6, pgx6, pgy6, hsl6, hss6, n1, n2, n3⟩ ⟨T', x1, x2, rfl, nT, rfl, e1, e2⟩
      cases e1
      have sT := same_new (o := .tup [.int (i : Nat), x2]) nT
      have hT : (upd H6 T' (.tup [.int (i : Nat), x2])) T' = some (.tup [.int (i : Nat), x2]) := upd_same
      have B7 := B6.same sT
      have pgx7 := pgx6.same sT
      have pgy7 := pgy6.same sT
      have hsl7 := sT _ _ hsl6
      have hss7 := rwMono (Tups.of sT) hss6
      generalize upd H6 T' (.tup [.int (i : Nat), x2]) = H7 at hT B7 pgx7 pgy7 hsl7 hss7 ⊢
      refine ⟨T', _, rfl, SqT.of hT, rfl, _, _, rfl, _, _, rfl, rfl, ?_⟩
      obtain ⟨bl, hbl, tb, rfl, htb⟩ := hx.at e2
      have hblm := List.mem_of_getElem? hbl
      obtain ⟨hc, hs⟩ := B.small bl hblm
      have eb : bs.take (i + 1) = bs.take i ++ [bl] := take_snoc hbl
      have hil : i < bs.length := (List.getElem?_eq_some_iff.mp hbl).1
      have tupH : ∀ {H' : Hp}, Bk b H H' → H' tb = some (.tup [.int (bl.c : Int), .int bl.s, .bl bl.k, .bl bl.g]) := fun B' => B'.tups hb _ _ htb
      have hbst : ∀ b ∈ bs.take i, 0 ≤ b.s := fun b hb => hbs b (List.mem_of_mem_take hb)
      have hpre : (preS (pageOf L (bs.take (i + 1))).rows (pageOf L (bs.take (i + 1))).lo).take (preS (pageOf L (bs.take i)).rows (pageOf L (bs.take i)).lo).length = preS (pageOf L (bs.take i)).rows (pageOf L (bs.take i)).lo := by
        rw [eb, pageOf_snoc]
        exact pre_block hL0 (pageOf_rel hL0 _ hbst) hs
      -- the first Page: set, shown
      refine ⟨fun c H' => c = false ∧ ∃ st1', Bk b H H' ∧ PgB K C L x dx r1 st1' (pageOf L (bs.take (i + 1))) H' ∧ PgB K C L y dy r2 st2 (pageOf L (bs.take (min i 1))) H' ∧ H' sl = some (.lst ss) ∧ AllAt RwAt H' ss (preS (pageOf L (bs.take i)).rows (pageOf L (bs.take i)).lo), fun Q' hQ => ?_, ?_⟩
      · refine ⟨_, rfl, _, rfl, _, rfl, b, _, rfl, B7.bag, by decide, by decide, fun d H8 d0 d1 B78 => ⟨rfl, ?_⟩⟩
        have B8 := B7.trans B78
        have pgx8 := pgx7.bk B7.bag B78 nb1.symm
        have pgy8 := pgy7.bk B7.bag B78 nb2.symm
        have hsl8 := B78.keep _ _ n1 hsl7
        have hss8 := rwMono (B78.tups B7.bag) hss7
        refine ⟨x, dx, r1, st1, L, tb, _, bl, bs.take i, rfl, pgx8, tupH B8, B.take i, hc, hs, hL, fun H9 st9 pgx9 k9 => ?_⟩
        rw [← eb] at pgx9
        have B9 := pgx8.bks k9 nb1 nx hr1 B8
        have pgy9 := pgy8.other pgx8 k9 nyx nrr
        have hsl9 := pgx8.lst k9 n2 hsl8
        have hss9 := rwMono (pgx8.tups k9) hss8
        refine ⟨_, rfl, iteF ?_⟩
        have ei : (i : Int) + 1 = ((i + 1 : Nat) : Int) := by omega
        refine ⟨_, rfl, _, rfl, _, rfl, .int ((i + 1 : Nat) : Int), fun Q'' hQ' => ⟨_, rfl, _, _, rfl, rfl, ?_⟩, _, rfl, a, _, rfl, SqL.of (B9.keep _ _ nab ha), fun u hu => ?_⟩
        · rw [← ei] at hQ'
          exact hQ'
        have su := same_new (o := .lst (cutV xs none (some ((i + 1 : Nat) : Int)))) hu
        have ec := cutV_to (xs := xs) (n := i + 1) (by rw [hx.len]; omega)
        have z := (blMono ((B9.tups hb).trans (Tups.of su)) hx).take (i + 1)
        rw [← ec] at z
        refine ⟨x, dx, r1, st9, L, u, _, bs.take (i + 1), rfl, pgx9.same su, SqL.of upd_same, z, B.take (i + 1), hL0, fun H10 s10 => ?_⟩
        have s910 := su.trans s10
        exact ⟨_, rfl, hQ _ _ ⟨rfl, st9, B9.same s910, pgx9.same s910, pgy9.same s910, s910 _ _ hsl9, rwMono (Tups.of s910) hss9⟩⟩
      rintro c H8 ⟨rfl, st8, B8, pgx8, pgy8, hsl8, hss8⟩
      refine iteF ?_
      -- the other Page
      refine ⟨fun c H' => c = false ∧ ∃ st2', Bk b H H' ∧ PgB K C L x dx r1 st8 (pageOf L (bs.take (i + 1))) H' ∧ PgB K C L y dy r2 st2' (pageOf L (bs.take (min (i + 1) 1))) H' ∧ H' sl = some (.lst ss) ∧ AllAt RwAt H' ss (preS (pageOf L (bs.take i)).rows (pageOf L (bs.take i)).lo), fun Q' hQ => ?_, ?_⟩
      · have em1 : min (i + 1) 1 = 1 := by omega
        rw [em1] at hQ
        refine ⟨_, rfl, rfl, _, rfl, ite2 (fun h1 => ?_) (fun h1 => ?_)⟩
        · have hi0 : i = 0 := by
            have := V.int.inj (of_decide_eq_true h1)
            omega
          have ey : bs.take (min i 1) ++ [bl] = bs.take 1 := by
            rw [hi0] at eb ⊢
            exact eb.symm
          refine ⟨_, rfl, _, rfl, y, dy, r2, st2, L, tb, false, bl, bs.take (min i 1), rfl, pgy8, tupH B8, B.take _, hc, hs, hL, fun H9 st9 pgy9 k9 => ?_⟩
          rw [ey] at pgy9
          exact ⟨_, rfl, hQ _ _ ⟨rfl, st9, pgy8.bks k9 nb2 Hy Hr2 B8, pgx8.other pgy8 k9 nyx.symm nrr.symm, pgy9, pgy8.lst k9 n3 hsl8, rwMono (pgy8.tups k9) hss8⟩⟩
        · have hi0 : ¬ i = 0 := fun z => h1 (decide_eq_true (by rw [z]; rfl))
          have em2 : min i 1 = 1 := by omega
          rw [em2] at pgy8
          exact hQ _ _ ⟨rfl, st2, B8, pgx8, pgy8, hsl8, hss8⟩
      rintro c H9 ⟨rfl, st9, B9, pgx9, pgy9, hsl9, hss9⟩
      refine iteF ?_
      -- what is settled
      have hbst1 : ∀ b ∈ bs.take (i + 1), 0 ≤ b.s := fun b hb => hbs b (List.mem_of_mem_take hb)
      have hlo := lo_ok hL0 hbst1
      have hrl : (pageOf L (bs.take (i + 1))).rows.length ≤ 2000 := rows_len hL0 (B.take (i + 1))
      have hpl : (preS (pageOf L (bs.take (i + 1))).rows (pageOf L (bs.take (i + 1))).lo).length ≤ 2000 := by
        unfold preS
        rw [List.length_take]
        omega
      refine ⟨_, rfl, x, dx, _, rfl, pgx9.pa.ob, no_settled _ _ _ _, x, dx, r1, st8, L, _, _, rfl, pgx9.pa, hlo.1, hlo.2, by omega, fun pt H10 zs hpt s10 hzs hrw10 => ?_⟩
      generalize hP1 : preS (pageOf L (bs.take (i + 1))).rows (pageOf L (bs.take (i + 1))).lo = P1 at hpre hpl hrw10
      generalize preS (pageOf L (bs.take i)).rows (pageOf L (bs.take i)).lo = P0 at hpre hss9
      have hsl10 := s10 _ _ hsl9
      have hss10 := rwMono (Tups.of s10) hss9
      refine ⟨fun c H' => c = false ∧ Same H10 H', fun Q' hQ => ?_, ?_⟩
      · refine ⟨_, rfl, _, rfl, sl, _, rfl, .inl (SqL.of hsl10), _, rfl, pt, _, rfl, SqL.of hzs, fun u hu => ?_⟩
        have su := same_new (o := .lst (cutV zs none (some ((ss.length : Nat) : Int)))) hu
        have hle : ss.length ≤ zs.length := by
          rw [hss10.len, hrw10.len]
          have := congrArg List.length hpre
          rw [List.length_take] at this
          omega
        have ec := cutV_to (xs := zs) (n := ss.length) hle
        have z := (rwMono (Tups.of su) hrw10).take ss.length
        rw [← ec] at z
        have eP : P1.take ss.length = P0 := by rw [hss10.len]; exact hpre
        rw [eP] at z
        refine ⟨_, rfl, .list (P0.map dRw), .list (P0.map dRw), .lst (SqL.of upd_same) (dpRw z), .lst (SqL.of (su _ _ hsl10)) (dpRw (rwMono (Tups.of su) hss10)), shRw _, shRw _, ?_⟩
        rw [eqv_self (shRw _)]
        exact ⟨_, rfl, hQ _ _ ⟨rfl, su⟩⟩
      rintro c H11 ⟨rfl, s11⟩
      refine iteF ?_
      have hzs11 := s11 _ _ hzs
      have hrw11 := rwMono (Tups.of s11) hrw10
      refine ⟨_, rfl, pt, zs, rfl, .inl (SqL.of hzs11), fun nl hnl => ?_⟩
      have sn := same_new (o := .lst zs) hnl
      have hnl12 : (upd H11 nl (.lst zs)) nl = some (.lst zs) := upd_same
      have S12 := (s10.trans s11).trans sn
      have hpt12 := sn _ _ hzs11
      have hrw12 := rwMono (Tups.of sn) hrw11
      have nnp : nl ≠ pt := fun r => by rw [r, hzs11] at hnl; cases hnl
      have hbb := (B9.same (s10.trans s11)).bag
      have nln : nl ≠ b ∧ nl ≠ r1 ∧ nl ≠ r2 := by
        obtain ⟨g, z, c, e⟩ := hbb
        exact ⟨(ne_of_none e hnl).symm, (ne_of_none (pgx9.same (s10.trans s11)).pa.rs hnl).symm, (ne_of_none (pgy9.same (s10.trans s11)).pa.rs hnl).symm⟩
      generalize upd H11 nl (.lst zs) = H12 at sn hnl12 S12 hpt12 hrw12 ⊢
      refine ⟨_, rfl, .inl ⟨rfl, _, SqL.of hpt12⟩, (by show 2 ≤ sizeLine; decide), fun u hu => ?_⟩
      have su := same_new (o := .tup [.bl false, .int 1]) hu
      have hpt13 := su _ _ hpt12
      refine ⟨pt, _, _, rfl, rfl, hpt13, ?_, ?_⟩
      · rw [hrw12.len]
        exact Nat.lt_of_le_of_lt (m := 2000) (by omega) (by decide)
      -- what was told is changed
      have sP : ∀ v o, v ≠ pt → H12 v = some o → (upd (upd H12 u (.tup [.bl false, .int 1])) pt (.lst (zs ++ [.ref u]))) v = some o := fun v o nv e => (upd_ne nv).trans (su _ _ e)
      have S13 : Same H9 (upd (upd H12 u (.tup [.bl false, .int 1])) pt (.lst (zs ++ [.ref u]))) := fun v o e => sP v o (fun r => by rw [r, hpt] at e; cases e) (S12 _ _ e)
      have t13 : Tups H12 (upd (upd H12 u (.tup [.bl false, .int 1])) pt (.lst (zs ++ [.ref u]))) := (Tups.new hu).trans (Tups.lst hpt13)
      refine ⟨st8, st9, nl, zs, _, _, _, rfl, B9.same S13, pgx9.same S13, pgy9.same S13, sP _ _ nnp hnl12, ?_, nln⟩
      exact rwMono t13 hrw12
    · rintro σ H6 ⟨st1, st2, sl, ss, y6, y7, y8, rfl, B6, pgx6, pgy6, hsl6, hss6, n1, n2, n3⟩
      have em : bs.take (min xs.length 1) = bs.take 1 := by
        rw [hx.len]
        rcases Nat.eq_zero_or_pos bs.length with h | h
        · rw [List.length_eq_zero_iff.mp h]
          simp
        · rw [Nat.min_eq_right h]
      rw [em] at pgy6
      refine ⟨_, rfl, x, C, dx, _, _, rfl, pgx6.pa.ob, T.cl, T.nL, pf_length _ _ _ _, _, rfl, rfl, _, rfl, iteP (decide_eq_true rfl) ?_⟩
      refine ⟨_, rfl, _, rfl, _, rfl, _, rfl, a, _, rfl, SqL.of (B6.keep _ _ nab ha), fun u hu => ?_⟩
      have su := same_new (o := .lst (cutV xs none (some 1))) hu
      have z : AllAt BlAt (upd H6 u (.lst (cutV xs none (some 1)))) (cutV xs none (some 1)) (bs.take 1) := by
        have zz := (blMono ((B6.tups hb).trans (Tups.of su)) hx).take 1
        have ec : cutV xs none (some 1) = xs.take 1 := by
          cases xs with
          | nil => rfl
          | cons v vs => exact cutV_to (xs := v :: vs) (n := 1) (by simp)
        rw [← ec] at zz
        exact zz
      refine ⟨y, dy, r2, st2, L, u, _, bs.take 1, rfl, pgy6.same su, SqL.of upd_same, z, B.take 1, hL0, fun H7 s7 => ?_⟩
      exact k H7 (B6.same (su.trans s7))
end
end Pa
set_option maxRecDepth 100000
set_option maxHeartbeats 4000000
namespace Pa
open PySem PySem.Spec PyProof.Rows L2
theorem one_to {ns : Nat} (h : ns ≤ 63) : ∃ J : Nat, J ≤ 64 ∧ (if (if (6 : Int) < (ns : Int) then 6 else (ns : Int)) > 1 then (if (6 : Int) < (ns : Int) then 6 else (ns : Int)) else 1) = (J : Int) := by
  by_cases h1 : (6 : Int) < (ns : Int)
  · rw [if_pos h1, if_pos (by decide)]
    exact ⟨6, by omega, rfl⟩
  · rw [if_neg h1]
    by_cases h2 : (ns : Int) > 1
    · rw [if_pos h2]
      exact ⟨ns, by omega, rfl⟩
    · rw [if_neg h2]
      exact ⟨1, by omega, rfl⟩
section
variable {P : Program} {w : World} {K : PySem.W.Frag} {mg : Str → Option Value} {base : Heap} {tp C : Addr}
def spLaw (K : PySem.W.Frag) : Sp := fun vs H Q _ => ∃ (a : Addr) (ns : List Int), vs = [.ref a] ∧ SqL K H a (ns.map V.int) ∧ ns.length ≤ 63 ∧ ∀ H', Q (.bl true) H'
abbrev slaw : Stmt := topS 30
theorem sclaw : FnScope ["_law_script", "_law_at", "_law_bag_here", "_law_length_here", "_law_blocks", "_law_turn"] ["_law_script"] (defScope slaw) := ⟨rfl, rfl, rfl, by decide +kernel, rfl, by decide +kernel, by decide +kernel⟩
theorem ok_law {f : Addr} {fd : FuncData} (F : Fun K "law" "law" slaw f fd) (T : Txt K mg tp C)
    (C__law_bag : CallOk P w K mg base 1 "_law_bag" ["_law_script", "_law_at"] (spBag K)) (C__law_draw : CallOk P w K mg base 1 "_law_draw" ["_law_bag_here", "_law_many"] spDraw)
    (C__law_length : CallOk P w K mg base 2 "_law_length" ["_law_bag_here"] spLLength) (C__law_block : CallOk P w K mg base 2 "_law_block" ["_law_bag_here", "_law_most"] spLBlock)
    (C__law_right : CallOk P w K mg base 6 "_law_right" ["_law_bag_here", "_law_length_here", "_law_blocks"] (spLRight K)) : FnOk P w K mg base CX0 7 f fd ["_law_script"] (spLaw K) := by
  refine F.ok sclaw (fun vs H Q E h => ?_) (fun cdv A outer s H vs Q E hr h => ?_)
  · obtain ⟨a, ns, rfl, _⟩ := h
    rfl
  · obtain ⟨a, ns, rfl, hS, hns, k⟩ := h
    refine ⟨_, (pss_cons (ps_for PassesOwn.never rfl (pi_range1 (by rfl) T.b_range (pa_cons (pe_pure (pe_callB (call_max2 rfl) (by rfl) T.b_max (by decide +kernel) (pa_cons pe_int (pa_cons (pe_callB (call_min2 rfl) (by rfl) T.b_min (by decide +kernel) (pa_cons (pe_callB call_len_seq (by rfl) T.b_len PySem.boot_len (pa_cons (pv 0) pa_nil)) (pa_cons pe_int pa_nil))) pa_nil)))) pa_nil)) (pg_name (i := 1) sclaw.nd rfl (.inl rfl))
        (pss_cons (ps_set (i := 2) sclaw.nd rfl (.inr rfl) (pe_cc C__law_bag (hr.mono (by decide)) (by rfl) (pa_cons (pv 0) (pa_cons (pv 1) pa_nil))))
        (pss_cons (ps_set (i := 3) sclaw.nd rfl (.inl rfl) (pe_cc C__law_length (hr.mono (by decide)) (by rfl) (pa_cons (pv 2) pa_nil)))
        (pss_cons (ps_setLc (i := 4) (own := [("_law_turn", 5)]) (g := gName 5) (tt := tYes) rfl sclaw.nd rfl rfl (sw_true rfl rfl rfl (by decide +kernel)) (pi_range1 (by rfl) T.b_range (pa_cons (pe_cc C__law_draw (hr.mono (by decide)) (by rfl) (pa_cons (pv 2) (pa_cons pe_int pa_nil))) pa_nil)) (blkOk_by (N := ["_law_script", "_law_at", "_law_bag_here", "_law_length_here", "_law_blocks", "_law_turn"]) (sc := defScope slaw) (by decide +kernel)) (fun _ _ _ _ _ => (pg_name (i := 5) sclaw.nd rfl (.inl rfl))) (fun _ _ _ _ _ => pts_nil) (fun _ _ _ _ _ => (pe_cc C__law_block (hr.mono (by decide)) (by rfl) (pa_cons (pv 2) (pa_cons pe_int pa_nil)))))
        (pss_one (ps_if (pt_not (pt_val (pe_cc C__law_right (hr.mono (by decide)) (by rfl) (pa_cons (pv 2) (pa_cons (pv 3) (pa_cons (pv 4) pa_nil))))))
          (pss_one (ps_ret pe_bl))
          pss_nil))))))
      (pss_one (ps_ret pe_bl))), ?_⟩
    have hll : (ns.map V.int).length = ns.length := List.length_map ..
    refine ⟨.int (if (if (6 : Int) < ((ns.map V.int).length : Int) then 6 else ((ns.map V.int).length : Int)) > 1 then (if (6 : Int) < ((ns.map V.int).length : Int) then 6 else ((ns.map V.int).length : Int)) else 1), fun Q' hQ => ⟨_, rfl, a, _, rfl, .inl hS, _, _, rfl, _, _, rfl, hQ⟩, ?_⟩
    obtain ⟨J, hJ1, hJ2⟩ := one_to (ns := (ns.map V.int).length) (by omega)
    rw [hJ2]
    refine ⟨_, rfl, by omega, by omega, for_range (lo := 0) (n := ((J : Nat) : Int).toNat) (fun i σ H' => ∃ (y1 y2 y3 y4 y5 : Option V), σ = [some (.ref a), y1, y2, y3, y4, y5] ∧ Same H H')
      ⟨none, none, none, none, none, rfl, Same.refl H⟩ ?_ ?_⟩
    · rintro i σ H1 hi ⟨y1, y2, y3, y4, y5, rfl, s1⟩
      have hi' : i < 64 := by omega
      show gName 1 _ _ _ _
      rw [Int.zero_add]
      refine ⟨_, rfl, _, rfl, a, (i : Int), ns, rfl, s1.seq hS, by omega, by omega, fun b H2 nb hb2 kb => ?_⟩
      have s2 : Same H H2 := fun q o e => kb q o (fun r => by rw [r] at e; rw [s1 _ _ e] at nb; cases nb) (s1 _ _ e)
      have Hb : H b = none := s1.free nb
      have keepS : ∀ {H' H'' : Hp}, Same H H' → Bk b H' H'' → Same H H'' := fun s B q o e => B.keep q o (fun r => by rw [r, Hb] at e; cases e) (s _ _ e)
      refine ⟨_, rfl, b, rfl, hb2, fun L H3 hL hL9 B3 => ?_⟩
      have s3 := keepS s2 B3
      refine ⟨_, rfl, b, _, rfl, B3.bag, by decide, by decide, fun m H4 m0 m1 B4 => ⟨m, rfl, by omega, by omega, fun D hD => ?_⟩⟩
      have s4 := keepS s3 B4
      have nDb : D ≠ b := fun r => by
        obtain ⟨g, x, c, e⟩ := B4.bag
        rw [← r, hD] at e; cases e
      have HD : H D = none := s4.free hD
      refine lc_range (lo := 0) (n := m.toNat) (fun j H5 => ∃ (xs : List V) (bs : List Bl), Same H H5 ∧ IsBag H5 b ∧ H5 D = some (.lst xs) ∧ AllAt BlAt H5 xs bs ∧ bs.length = j ∧ (∀ z ∈ bs, z.c ≤ 100 ∧ 0 ≤ z.s) ∧ ∀ q o, q ≠ b → H4 q = some o → H5 q = some o)
        ⟨[], [], s4.trans (same_new hD), ?_, upd_same, trivial, rfl, (fun z hz => by cases hz), fun q o _ e => same_new hD _ _ e⟩ ?_ ?_
      · obtain ⟨g, x, c, e⟩ := B4.bag
        exact ⟨g, x, c, (upd_ne nDb.symm).trans e⟩
      · rintro j H5 hj ⟨xs, bs, s5, bag5, hD5, hall5, hbl, hsm, k5⟩
        refine ⟨rfl, ?_⟩
        refine ⟨_, rfl, b, rfl, bag5, fun p H6 c sp kp g hp B6 htup hc hsp => ?_⟩
        have hD6 := B6.keep _ _ nDb hD5
        have s6 := keepS s5 B6
        have hall6 := blMono (B6.tups bag5) hall5
        have npD : p ≠ D := fun r => by rw [r, hD6] at htup; cases htup
        have tD : Tups H6 (upd H6 D (.lst (xs ++ [.ref p]))) := Tups.lst hD6
        refine ⟨xs, hD6, ?_, xs ++ [.ref p], bs ++ [⟨c, sp, kp, g⟩], fun q o e => (upd_ne (fun r => by rw [r, HD] at e; cases e)).trans (s6 _ _ e), ?_, upd_same, (blMono tD hall6).snoc ⟨p, rfl, tD _ _ htup⟩, ?_, ?_, ?_⟩
        · rw [hall6.len, hbl]
          exact Nat.lt_of_le_of_lt (m := 100) (by omega) (by decide)
        · obtain ⟨g', x, c', e⟩ := B6.bag
          exact ⟨g', x, c', (upd_ne nDb.symm).trans e⟩
        · rw [List.length_append, hbl]; rfl
        · intro z hz
          rcases List.mem_append.mp hz with h | h
          · exact hsm z h
          · rw [List.mem_singleton.mp h]
            exact ⟨by show c ≤ 100; omega, hsp⟩
        · intro q o hq e
          rw [upd_ne (fun r => by rw [r, hD] at e; cases e)]
          exact B6.keep q o hq (k5 q o hq e)
      · rintro H5 ⟨xs, bs, s5, bag5, hD5, hall5, hbl, hsm, k5⟩
        refine ⟨_, rfl, _, rfl, _, rfl, b, L, D, xs, bs, rfl, bag5, hD5, nDb, hall5, ⟨by omega, hsm⟩, hL, fun H6 B6 => ?_⟩
        refine ⟨_, rfl, iteF ?_⟩
        exact ⟨_, _, _, _, _, rfl, keepS s5 B6⟩
    · rintro σ H1 ⟨y1, y2, y3, y4, y5, rfl, s1⟩
      exact k H1
end
end Pa
set_option maxRecDepth 100000
set_option maxHeartbeats 4000000
namespace Pa
open PySem PySem.Spec PyProof.Rows L2
/-! ### what the top has written -/
theorem all_mk {l : PySem.W.OpenLaw} {w : World} {K : PySem.W.Frag} {h : Heap} {mg : Str → Option Value} {fa C tp D0 f0 f1 f2 f3 f4 f5 f6 f7 f8 f9 f10 f11 f12 f13 f14 f15 f16 f17 f18 f19 f20 f21 f22 f23 f24 f25 f26 f27 f28 f29 f30 pp28 pp29 pp30 : Addr} (X : K.In h) (G : h.Ns mainGlobals mg) (hfa : mg "law" = some (.ref fa))
    {od0 an0 od1 an1 od2 an2 od3 an3 od4 an4 od5 an5 od6 an6 od7 an7 od8 an8 od9 an9 od10 an10 od11 an11 od12 an12 od13 an13 od14 an14 od15 an15 od16 an16 od17 an17 od18 an18 od19 an19 od20 an20 od21 an21 od22 an22 od23 an23 od24 an24 od25 an25 od26 an26 od27 an27 od28 an28 od29 an29 od30 an30 : Option Addr} {sl0 sl1 sl2 sl3 sl4 sl5 sl6 sl7 sl8 sl9 sl10 sl11 sl12 sl13 sl14 sl15 sl16 sl17 sl18 sl19 sl20 sl21 sl22 sl23 sl24 sl25 sl26 sl27 sl28 sl29 sl30 : Array (Option Value)} {oc0 kV0 dc0 pm0 cd0 ct0 oc1 kV1 dc1 pm1 cd1 ct1 oc2 kV2 dc2 pm2 cd2 ct2 oc3 kV3 dc3 pm3 cd3 ct3 oc4 kV4 dc4 pm4 cd4 ct4 oc5 kV5 dc5 pm5 cd5 ct5 oc6 kV6 dc6 pm6 cd6 ct6 oc7 kV7 dc7 pm7 cd7 ct7 oc8 kV8 dc8 pm8 cd8 ct8 oc9 kV9 dc9 pm9 cd9 ct9 oc10 kV10 dc10 pm10 cd10 ct10 oc11 kV11 dc11 pm11 cd11 ct11 oc12 kV12 dc12 pm12 cd12 ct12 oc13 kV13 dc13 pm13 cd13 ct13 oc14 kV14 dc14 pm14 cd14 ct14 oc15 kV15 dc15 pm15 cd15 ct15 oc16 kV16 dc16 pm16 cd16 ct16 oc17 kV17 dc17 pm17 cd17 ct17 oc18 kV18 dc18 pm18 cd18 ct18 oc19 kV19 dc19 pm19 cd19 ct19 oc20 kV20 dc20 pm20 cd20 ct20 oc21 dc21 pm21 cd21 ct21 oc22 kV22 dc22 pm22 cd22 ct22 oc23 kV23 dc23 pm23 cd23 ct23 oc24 kV24 dc24 pm24 cd24 ct24 oc25 kV25 dc25 pm25 cd25 ct25 oc26 kV26 dc26 pm26 cd26 ct26 oc27 kV27 dc27 pm27 cd27 ct27 oc28 kV28 dc28 pm28 cd28 ct28 oc29 kV29 dc29 pm29 cd29 ct29 oc30 kV30 dc30 pm30 cd30 ct30 : Value}
    {tn : Nat} {tk0 tk1 tk2 tk3 : Tok} {rs28 rs29 rs30 : List Value}
    (aC : PySem.W.nsIn K mainGlobals "Page" = some (some (.ref C))) (aT : PySem.W.nsIn K mainGlobals "TOP" = some (some (.ref tp)))
    (a0 : PySem.W.nsIn K mainGlobals "_longer" = some (some (.ref f0)))
    (l0 : K.lookup f0 = some ⟨oc0, od0, .func (PySem.W.fnOf "_longer" "_longer" (defArgs s_longer) (defBody s_longer) (defScope s_longer) .none kV0 dc0 pm0 an0 cd0 ct0), sl0⟩) (c0 : PySem.W.codeIn K cd0 "_longer" = true) (k0 : PySem.W.keepIn K (.ref f0) = true)
    (a1 : PySem.W.nsIn K mainGlobals "next_line" = some (some (.ref f1)))
    (l1 : K.lookup f1 = some ⟨oc1, od1, .func (PySem.W.fnOf "next_line" "next_line" (defArgs snext_line) (defBody snext_line) (defScope snext_line) .none kV1 dc1 pm1 an1 cd1 ct1), sl1⟩) (c1 : PySem.W.codeIn K cd1 "next_line" = true) (k1 : PySem.W.keepIn K (.ref f1) = true)
    (a2 : PySem.W.nsIn K mainGlobals "line_place" = some (some (.ref f2)))
    (l2 : K.lookup f2 = some ⟨oc2, od2, .func (PySem.W.fnOf "line_place" "line_place" (defArgs sline_place) (defBody sline_place) (defScope sline_place) .none kV2 dc2 pm2 an2 cd2 ct2), sl2⟩) (c2 : PySem.W.codeIn K cd2 "line_place" = true) (k2 : PySem.W.keepIn K (.ref f2) = true)
    (a3 : PySem.W.nsIn K mainGlobals "standing_of" = some (some (.ref f3)))
    (l3 : K.lookup f3 = some ⟨oc3, od3, .func (PySem.W.fnOf "standing_of" "standing_of" (defArgs sstanding_of) (defBody sstanding_of) (defScope sstanding_of) .none kV3 dc3 pm3 an3 cd3 ct3), sl3⟩) (c3 : PySem.W.codeIn K cd3 "standing_of" = true) (k3 : PySem.W.keepIn K (.ref f3) = true)
    (a4 : PySem.W.nsIn K mainGlobals "_law_bag" = some (some (.ref f4)))
    (l4 : K.lookup f4 = some ⟨oc4, od4, .func (PySem.W.fnOf "_law_bag" "_law_bag" (defArgs sBag) (defBody sBag) (defScope sBag) .none kV4 dc4 pm4 an4 cd4 ct4), sl4⟩) (c4 : PySem.W.codeIn K cd4 "_law_bag" = true) (k4 : PySem.W.keepIn K (.ref f4) = true)
    (a5 : PySem.W.nsIn K mainGlobals "_law_draw" = some (some (.ref f5)))
    (l5 : K.lookup f5 = some ⟨oc5, od5, .func (PySem.W.fnOf "_law_draw" "_law_draw" (defArgs sDraw) (defBody sDraw) (defScope sDraw) .none kV5 dc5 pm5 an5 cd5 ct5), sl5⟩) (c5 : PySem.W.codeIn K cd5 "_law_draw" = true) (k5 : PySem.W.keepIn K (.ref f5) = true)
    (a6 : PySem.W.nsIn K mainGlobals "_law_number" = some (some (.ref f6)))
    (l6 : K.lookup f6 = some ⟨oc6, od6, .func (PySem.W.fnOf "_law_number" "_law_number" (defArgs sL_number) (defBody sL_number) (defScope sL_number) .none kV6 dc6 pm6 an6 cd6 ct6), sl6⟩) (c6 : PySem.W.codeIn K cd6 "_law_number" = true) (k6 : PySem.W.keepIn K (.ref f6) = true)
    (a7 : PySem.W.nsIn K mainGlobals "_law_lines" = some (some (.ref f7)))
    (l7 : K.lookup f7 = some ⟨oc7, od7, .func (PySem.W.fnOf "_law_lines" "_law_lines" (defArgs sL_lines) (defBody sL_lines) (defScope sL_lines) .none kV7 dc7 pm7 an7 cd7 ct7), sl7⟩) (c7 : PySem.W.codeIn K cd7 "_law_lines" = true) (k7 : PySem.W.keepIn K (.ref f7) = true)
    (a8 : PySem.W.nsIn K mainGlobals "_law_cut" = some (some (.ref f8)))
    (l8 : K.lookup f8 = some ⟨oc8, od8, .func (PySem.W.fnOf "_law_cut" "_law_cut" (defArgs sL_cut) (defBody sL_cut) (defScope sL_cut) .none kV8 dc8 pm8 an8 cd8 ct8), sl8⟩) (c8 : PySem.W.codeIn K cd8 "_law_cut" = true) (k8 : PySem.W.keepIn K (.ref f8) = true)
    (a9 : PySem.W.nsIn K mainGlobals "_law_pages" = some (some (.ref f9)))
    (l9 : K.lookup f9 = some ⟨oc9, od9, .func (PySem.W.fnOf "_law_pages" "_law_pages" (defArgs sL_pages) (defBody sL_pages) (defScope sL_pages) .none kV9 dc9 pm9 an9 cd9 ct9), sl9⟩) (c9 : PySem.W.codeIn K cd9 "_law_pages" = true) (k9 : PySem.W.keepIn K (.ref f9) = true)
    (a10 : PySem.W.nsIn K mainGlobals "_law_standing" = some (some (.ref f10)))
    (l10 : K.lookup f10 = some ⟨oc10, od10, .func (PySem.W.fnOf "_law_standing" "_law_standing" (defArgs sL_standing) (defBody sL_standing) (defScope sL_standing) .none kV10 dc10 pm10 an10 cd10 ct10), sl10⟩) (c10 : PySem.W.codeIn K cd10 "_law_standing" = true) (k10 : PySem.W.keepIn K (.ref f10) = true)
    (a11 : PySem.W.nsIn K mainGlobals "_law_block" = some (some (.ref f11)))
    (l11 : K.lookup f11 = some ⟨oc11, od11, .func (PySem.W.fnOf "_law_block" "_law_block" (defArgs sL_block) (defBody sL_block) (defScope sL_block) .none kV11 dc11 pm11 an11 cd11 ct11), sl11⟩) (c11 : PySem.W.codeIn K cd11 "_law_block" = true) (k11 : PySem.W.keepIn K (.ref f11) = true)
    (a12 : PySem.W.nsIn K mainGlobals "_law_length" = some (some (.ref f12)))
    (l12 : K.lookup f12 = some ⟨oc12, od12, .func (PySem.W.fnOf "_law_length" "_law_length" (defArgs sL_length) (defBody sL_length) (defScope sL_length) .none kV12 dc12 pm12 an12 cd12 ct12), sl12⟩) (c12 : PySem.W.codeIn K cd12 "_law_length" = true) (k12 : PySem.W.keepIn K (.ref f12) = true)
    (a13 : PySem.W.nsIn K mainGlobals "_law_pending" = some (some (.ref f13)))
    (l13 : K.lookup f13 = some ⟨oc13, od13, .func (PySem.W.fnOf "_law_pending" "_law_pending" (defArgs sL_pending) (defBody sL_pending) (defScope sL_pending) .none kV13 dc13 pm13 an13 cd13 ct13), sl13⟩) (c13 : PySem.W.codeIn K cd13 "_law_pending" = true) (k13 : PySem.W.keepIn K (.ref f13) = true)
    (a14 : PySem.W.nsIn K mainGlobals "_law_rows_right" = some (some (.ref f14)))
    (l14 : K.lookup f14 = some ⟨oc14, od14, .func (PySem.W.fnOf "_law_rows_right" "_law_rows_right" (defArgs sL_rows_right) (defBody sL_rows_right) (defScope sL_rows_right) .none kV14 dc14 pm14 an14 cd14 ct14), sl14⟩) (c14 : PySem.W.codeIn K cd14 "_law_rows_right" = true) (k14 : PySem.W.keepIn K (.ref f14) = true)
    (a15 : PySem.W.nsIn K mainGlobals "_law_shown" = some (some (.ref f15)))
    (l15 : K.lookup f15 = some ⟨oc15, od15, .func (PySem.W.fnOf "_law_shown" "_law_shown" (defArgs sL_shown) (defBody sL_shown) (defScope sL_shown) .none kV15 dc15 pm15 an15 cd15 ct15), sl15⟩) (c15 : PySem.W.codeIn K cd15 "_law_shown" = true) (k15 : PySem.W.keepIn K (.ref f15) = true)
    (a16 : PySem.W.nsIn K mainGlobals "_law_set" = some (some (.ref f16)))
    (l16 : K.lookup f16 = some ⟨oc16, od16, .func (PySem.W.fnOf "_law_set" "_law_set" (defArgs sL_set) (defBody sL_set) (defScope sL_set) .none kV16 dc16 pm16 an16 cd16 ct16), sl16⟩) (c16 : PySem.W.codeIn K cd16 "_law_set" = true) (k16 : PySem.W.keepIn K (.ref f16) = true)
    (a17 : PySem.W.nsIn K mainGlobals "_law_right" = some (some (.ref f17)))
    (l17 : K.lookup f17 = some ⟨oc17, od17, .func (PySem.W.fnOf "_law_right" "_law_right" (defArgs sL_right) (defBody sL_right) (defScope sL_right) .none kV17 dc17 pm17 an17 cd17 ct17), sl17⟩) (c17 : PySem.W.codeIn K cd17 "_law_right" = true) (k17 : PySem.W.keepIn K (.ref f17) = true)
    (a18 : PySem.W.nsIn K mainGlobals "law" = some (some (.ref f18)))
    (l18 : K.lookup f18 = some ⟨oc18, od18, .func (PySem.W.fnOf "law" "law" (defArgs slaw) (defBody slaw) (defScope slaw) .none kV18 dc18 pm18 an18 cd18 ct18), sl18⟩) (c18 : PySem.W.codeIn K cd18 "law" = true) (k18 : PySem.W.keepIn K (.ref f18) = true)
    (a19 : PySem.W.findIn K (.ref C) "__init__" = some (some (.ref f19))) (i19 : PySem.W.isFn K (.ref f19) = true)
    (l19 : K.lookup f19 = some ⟨oc19, od19, .func (PySem.W.fnOf "__init__" "Page.__init__" (defArgs sPage___init__) (defBody sPage___init__) (defScope sPage___init__) .none kV19 dc19 pm19 an19 cd19 ct19), sl19⟩) (c19 : PySem.W.codeIn K cd19 "Page.__init__" = true) (k19 : PySem.W.keepIn K (.ref f19) = true)
    (a20 : PySem.W.findIn K (.ref C) "begin" = some (some (.ref f20))) (i20 : PySem.W.isFn K (.ref f20) = true)
    (l20 : K.lookup f20 = some ⟨oc20, od20, .func (PySem.W.fnOf "begin" "Page.begin" (defArgs sPage_begin) (defBody sPage_begin) (defScope sPage_begin) .none kV20 dc20 pm20 an20 cd20 ct20), sl20⟩) (c20 : PySem.W.codeIn K cd20 "Page.begin" = true) (k20 : PySem.W.keepIn K (.ref f20) = true)
    (a21 : PySem.W.findIn K (.ref C) "block" = some (some (.ref f21))) (i21 : PySem.W.isFn K (.ref f21) = true)
    (l21 : K.lookup f21 = some ⟨oc21, od21, .func (PySem.W.fnOf "block" "Page.block" (defArgs sPage_block) (defBody sPage_block) (defScope sPage_block) .none (.ref D0) dc21 pm21 an21 cd21 ct21), sl21⟩) (c21 : PySem.W.codeIn K cd21 "Page.block" = true) (k21 : PySem.W.keepIn K (.ref f21) = true)
    (a22 : PySem.W.findIn K (.ref C) "_put" = some (some (.ref f22))) (i22 : PySem.W.isFn K (.ref f22) = true)
    (l22 : K.lookup f22 = some ⟨oc22, od22, .func (PySem.W.fnOf "_put" "Page._put" (defArgs sPage__put) (defBody sPage__put) (defScope sPage__put) .none kV22 dc22 pm22 an22 cd22 ct22), sl22⟩) (c22 : PySem.W.codeIn K cd22 "Page._put" = true) (k22 : PySem.W.keepIn K (.ref f22) = true)
    (a23 : PySem.W.findIn K (.ref C) "_go_over" = some (some (.ref f23))) (i23 : PySem.W.isFn K (.ref f23) = true)
    (l23 : K.lookup f23 = some ⟨oc23, od23, .func (PySem.W.fnOf "_go_over" "Page._go_over" (defArgs sPage__go_over) (defBody sPage__go_over) (defScope sPage__go_over) .none kV23 dc23 pm23 an23 cd23 ct23), sl23⟩) (c23 : PySem.W.codeIn K cd23 "Page._go_over" = true) (k23 : PySem.W.keepIn K (.ref f23) = true)
    (a24 : PySem.W.findIn K (.ref C) "_settle" = some (some (.ref f24))) (i24 : PySem.W.isFn K (.ref f24) = true)
    (l24 : K.lookup f24 = some ⟨oc24, od24, .func (PySem.W.fnOf "_settle" "Page._settle" (defArgs sPage__settle) (defBody sPage__settle) (defScope sPage__settle) .none kV24 dc24 pm24 an24 cd24 ct24), sl24⟩) (c24 : PySem.W.codeIn K cd24 "Page._settle" = true) (k24 : PySem.W.keepIn K (.ref f24) = true)
    (a25 : PySem.W.findIn K (.ref C) "settled" = some (some (.ref f25))) (i25 : PySem.W.isFn K (.ref f25) = true)
    (l25 : K.lookup f25 = some ⟨oc25, od25, .func (PySem.W.fnOf "settled" "Page.settled" (defArgs sPage_settled) (defBody sPage_settled) (defScope sPage_settled) .none kV25 dc25 pm25 an25 cd25 ct25), sl25⟩) (c25 : PySem.W.codeIn K cd25 "Page.settled" = true) (k25 : PySem.W.keepIn K (.ref f25) = true)
    (a26 : PySem.W.findIn K (.ref C) "finish" = some (some (.ref f26))) (i26 : PySem.W.isFn K (.ref f26) = true)
    (l26 : K.lookup f26 = some ⟨oc26, od26, .func (PySem.W.fnOf "finish" "Page.finish" (defArgs sPage_finish) (defBody sPage_finish) (defScope sPage_finish) .none kV26 dc26 pm26 an26 cd26 ct26), sl26⟩) (c26 : PySem.W.codeIn K cd26 "Page.finish" = true) (k26 : PySem.W.keepIn K (.ref f26) = true)
    (a27 : PySem.W.findIn K (.ref C) "__len__" = some (some (.ref f27))) (i27 : PySem.W.isFn K (.ref f27) = true)
    (l27 : K.lookup f27 = some ⟨oc27, od27, .func (PySem.W.fnOf "__len__" "Page.__len__" (defArgs sPage___len__) (defBody sPage___len__) (defScope sPage___len__) .none kV27 dc27 pm27 an27 cd27 ct27), sl27⟩) (c27 : PySem.W.codeIn K cd27 "Page.__len__" = true) (k27 : PySem.W.keepIn K (.ref f27) = true)
    (a28 : PySem.W.findIn K (.ref C) "now" = some (some (.ref pp28))) (g28 : PySem.W.specialIn K (.ref pp28) "__get__" = some (some (.builtin "property.__get__"))) (t28 : PySem.W.takesIn K (.ref pp28) = some true) (r28 : PySem.W.recIn K pp28 "property" = some (.ref f28 :: rs28))
    (l28 : K.lookup f28 = some ⟨oc28, od28, .func (PySem.W.fnOf "now" "Page.now" (defArgs sPage_now) (defBody sPage_now) (defScope sPage_now) .none kV28 dc28 pm28 an28 cd28 ct28), sl28⟩) (c28 : PySem.W.codeIn K cd28 "Page.now" = true) (k28 : PySem.W.keepIn K (.ref f28) = true)
    (a29 : PySem.W.findIn K (.ref C) "pending" = some (some (.ref pp29))) (g29 : PySem.W.specialIn K (.ref pp29) "__get__" = some (some (.builtin "property.__get__"))) (t29 : PySem.W.takesIn K (.ref pp29) = some true) (r29 : PySem.W.recIn K pp29 "property" = some (.ref f29 :: rs29))
    (l29 : K.lookup f29 = some ⟨oc29, od29, .func (PySem.W.fnOf "pending" "Page.pending" (defArgs sPage_pending) (defBody sPage_pending) (defScope sPage_pending) .none kV29 dc29 pm29 an29 cd29 ct29), sl29⟩) (c29 : PySem.W.codeIn K cd29 "Page.pending" = true) (k29 : PySem.W.keepIn K (.ref f29) = true)
    (a30 : PySem.W.findIn K (.ref C) "went_over" = some (some (.ref pp30))) (g30 : PySem.W.specialIn K (.ref pp30) "__get__" = some (some (.builtin "property.__get__"))) (t30 : PySem.W.takesIn K (.ref pp30) = some true) (r30 : PySem.W.recIn K pp30 "property" = some (.ref f30 :: rs30))
    (l30 : K.lookup f30 = some ⟨oc30, od30, .func (PySem.W.fnOf "went_over" "Page.went_over" (defArgs sPage_went_over) (defBody sPage_went_over) (defScope sPage_went_over) .none kV30 dc30 pm30 an30 cd30 ct30), sl30⟩) (c30 : PySem.W.codeIn K cd30 "Page.went_over" = true) (k30 : PySem.W.keepIn K (.ref f30) = true)
    (dk0 : PySem.W.nsIn K D0 "space" = some (some (.int 0 tk3))) (dk1 : PySem.W.nsIn K D0 "kept" = some (some (.bool false))) (dk2 : PySem.W.nsIn K D0 "page" = some (some (.bool false)))
    (lT : K.lookup tp = some ⟨.type "tuple", none, .seq #[.str (Str.ofString "top") tk0, .int 0 tk1, .int 0 tk2] tn, #[]⟩)
    (pg : PySem.W.plainGet K C Str.empty = true) (hd : PySem.W.hasDictIn K C = true) (po : PySem.W.plainOver K C = true) (sa : PySem.W.findIn K (.ref C) "__setattr__" = some (some (.builtin "object.__setattr__"))) (mk : PySem.W.makesIn K C = true) (kc : PySem.W.keepIn K (.ref C) = true)
    (nL : PySem.W.findIn K (.ref C) "length" = some none)
    (nS : PySem.W.findIn K (.ref C) "_standing" = some none)
    (nR : PySem.W.findIn K (.ref C) "_rows" = some none)
    (nO : PySem.W.findIn K (.ref C) "_loose" = some none)
    (nW : PySem.W.findIn K (.ref C) "_went_over" = some none)
    (z_len : PySem.W.nsIn K mainGlobals "len" = some none)
    (z_range : PySem.W.nsIn K mainGlobals "range" = some none)
    (z_int : PySem.W.nsIn K mainGlobals "int" = some none)
    (z_abs : PySem.W.nsIn K mainGlobals "abs" = some none)
    (z_enumerate : PySem.W.nsIn K mainGlobals "enumerate" = some none)
    (z_isinstance : PySem.W.nsIn K mainGlobals "isinstance" = some none)
    (z_bool : PySem.W.nsIn K mainGlobals "bool" = some none)
    (z_list : PySem.W.nsIn K mainGlobals "list" = some none)
    (z_tuple : PySem.W.nsIn K mainGlobals "tuple" = some none)
    (z_max : PySem.W.nsIn K mainGlobals "max" = some none)
    (z_min : PySem.W.nsIn K mainGlobals "min" = some none)
    (z_all : PySem.W.nsIn K mainGlobals "all" = some none)
    : ∃ fd : FuncData, (∀ (s : Shared) (v : Value), BindsTo s fd ⟨[v], []⟩ [("_law_script", v)]) ∧ ∀ base : Heap, K.In base → base.Ns mainGlobals mg → FnOk l.prog w K mg base CX0 7 fa fd ["_law_script"] (spLaw K) := by
  have e := hfa.symm.trans (PySem.W.mg_of X G a18)
  cases e
  have T : Txt K mg tp C := ⟨PySem.W.mg_none_of X G z_len, PySem.W.mg_none_of X G z_range, PySem.W.mg_none_of X G z_int, PySem.W.mg_none_of X G z_abs, PySem.W.mg_none_of X G z_enumerate, PySem.W.mg_none_of X G z_isinstance, PySem.W.mg_none_of X G z_bool, PySem.W.mg_none_of X G z_list, PySem.W.mg_none_of X G z_tuple, PySem.W.mg_none_of X G z_max, PySem.W.mg_none_of X G z_min, PySem.W.mg_none_of X G z_all, PySem.W.mg_of X G aT, fun H => .inr ⟨_, _, _, lT, rfl, rfl, (by show 3 ≤ sizeLine; decide), .cons ⟨_, rfl⟩ (.cons ⟨_, rfl⟩ (.cons ⟨_, rfl⟩ .nil))⟩, ⟨pg, hd, po, sa⟩, PySem.W.mg_of X G aC, nL, nS, nR, nO, nW⟩
  have F0 := fun_mk (st := s_longer) l0 c0 k0
  have b0 := F0.binds (ps := ["tail", "space"]) fun _ _ _ _ _ _ us hl => match us, hl with | [_, _], _ => rfl
  have F1 := fun_mk (st := snext_line) l1 c1 k1
  have b1 := F1.binds (ps := ["length", "height", "tail", "space", "barred"]) fun _ _ _ _ _ _ us hl => match us, hl with | [_, _, _, _, _], _ => rfl
  have F2 := fun_mk (st := sline_place) l2 c2 k2
  have b2 := F2.binds (ps := ["standing", "at", "count", "space"]) fun _ _ _ _ _ _ us hl => match us, hl with | [_, _, _, _], _ => rfl
  have F3 := fun_mk (st := sstanding_of) l3 c3 k3
  have b3 := F3.binds (ps := ["length", "height", "tail", "kept"]) fun _ _ _ _ _ _ us hl => match us, hl with | [_, _, _, _], _ => rfl
  have F4 := fun_mk (st := sBag) l4 c4 k4
  have b4 := F4.binds (ps := ["_law_script", "_law_at"]) fun _ _ _ _ _ _ us hl => match us, hl with | [_, _], _ => rfl
  have F5 := fun_mk (st := sDraw) l5 c5 k5
  have b5 := F5.binds (ps := ["_law_bag_here", "_law_many"]) fun _ _ _ _ _ _ us hl => match us, hl with | [_, _], _ => rfl
  have F6 := fun_mk (st := sL_number) l6 c6 k6
  have b6 := F6.binds (ps := ["_law_thing"]) fun _ _ _ _ _ _ us hl => match us, hl with | [_], _ => rfl
  have F7 := fun_mk (st := sL_lines) l7 c7 k7
  have b7 := F7.binds (ps := ["_law_blocks"]) fun _ _ _ _ _ _ us hl => match us, hl with | [_], _ => rfl
  have F8 := fun_mk (st := sL_cut) l8 c8 k8
  have b8 := F8.binds (ps := ["_law_length_here", "_law_lines_here", "_law_start"]) fun _ _ _ _ _ _ us hl => match us, hl with | [_, _, _], _ => rfl
  have F9 := fun_mk (st := sL_pages) l9 c9 k9
  have b9 := F9.binds (ps := ["_law_length_here", "_law_lines_here"]) fun _ _ _ _ _ _ us hl => match us, hl with | [_, _], _ => rfl
  have F10 := fun_mk (st := sL_standing) l10 c10 k10
  have b10 := F10.binds (ps := ["_law_length_here", "_law_blocks"]) fun _ _ _ _ _ _ us hl => match us, hl with | [_, _], _ => rfl
  have F11 := fun_mk (st := sL_block) l11 c11 k11
  have b11 := F11.binds (ps := ["_law_bag_here", "_law_most"]) fun _ _ _ _ _ _ us hl => match us, hl with | [_, _], _ => rfl
  have F12 := fun_mk (st := sL_length) l12 c12 k12
  have b12 := F12.binds (ps := ["_law_bag_here"]) fun _ _ _ _ _ _ us hl => match us, hl with | [_], _ => rfl
  have F13 := fun_mk (st := sL_pending) l13 c13 k13
  have b13 := F13.binds (ps := ["_law_length_here", "_law_blocks"]) fun _ _ _ _ _ _ us hl => match us, hl with | [_, _], _ => rfl
  have F14 := fun_mk (st := sL_rows_right) l14 c14 k14
  have b14 := F14.binds (ps := ["_law_told", "_law_due"]) fun _ _ _ _ _ _ us hl => match us, hl with | [_, _], _ => rfl
  have F15 := fun_mk (st := sL_shown) l15 c15 k15
  have b15 := F15.binds (ps := ["_law_page", "_law_length_here", "_law_blocks"]) fun _ _ _ _ _ _ us hl => match us, hl with | [_, _, _], _ => rfl
  have F16 := fun_mk (st := sL_set) l16 c16 k16
  have b16 := F16.binds (ps := ["_law_page", "_law_block_here", "_law_apart"]) fun _ _ _ _ _ _ us hl => match us, hl with | [_, _, _], _ => rfl
  have F17 := fun_mk (st := sL_right) l17 c17 k17
  have b17 := F17.binds (ps := ["_law_bag_here", "_law_length_here", "_law_blocks"]) fun _ _ _ _ _ _ us hl => match us, hl with | [_, _, _], _ => rfl
  have F18 := fun_mk (st := slaw) l18 c18 k18
  have b18 := F18.binds (ps := ["_law_script"]) fun _ _ _ _ _ _ us hl => match us, hl with | [_], _ => rfl
  have F19 := fun_mk (st := sPage___init__) l19 c19 k19
  have b19 := F19.binds (ps := ["self", "length"]) fun _ _ _ _ _ _ us hl => match us, hl with | [_, _], _ => rfl
  have F20 := fun_mk (st := sPage_begin) l20 c20 k20
  have b20 := F20.binds (ps := ["self"]) fun _ _ _ _ _ _ us hl => match us, hl with | [_], _ => rfl
  have F21 := fun_mk (st := sPage_block) l21 c21 k21
  have F22 := fun_mk (st := sPage__put) l22 c22 k22
  have b22 := F22.binds (ps := ["self", "height", "tail"]) fun _ _ _ _ _ _ us hl => match us, hl with | [_, _, _], _ => rfl
  have F23 := fun_mk (st := sPage__go_over) l23 c23 k23
  have b23 := F23.binds (ps := ["self", "rows"]) fun _ _ _ _ _ _ us hl => match us, hl with | [_, _], _ => rfl
  have F24 := fun_mk (st := sPage__settle) l24 c24 k24
  have b24 := F24.binds (ps := ["self"]) fun _ _ _ _ _ _ us hl => match us, hl with | [_], _ => rfl
  have F25 := fun_mk (st := sPage_settled) l25 c25 k25
  have b25 := F25.binds (ps := ["self"]) fun _ _ _ _ _ _ us hl => match us, hl with | [_], _ => rfl
  have F26 := fun_mk (st := sPage_finish) l26 c26 k26
  have b26 := F26.binds (ps := ["self"]) fun _ _ _ _ _ _ us hl => match us, hl with | [_], _ => rfl
  have F27 := fun_mk (st := sPage___len__) l27 c27 k27
  have b27 := F27.binds (ps := ["self"]) fun _ _ _ _ _ _ us hl => match us, hl with | [_], _ => rfl
  have F28 := fun_mk (st := sPage_now) l28 c28 k28
  have b28 := F28.binds (ps := ["self"]) fun _ _ _ _ _ _ us hl => match us, hl with | [_], _ => rfl
  have F29 := fun_mk (st := sPage_pending) l29 c29 k29
  have b29 := F29.binds (ps := ["self"]) fun _ _ _ _ _ _ us hl => match us, hl with | [_], _ => rfl
  have F30 := fun_mk (st := sPage_went_over) l30 c30 k30
  have b30 := F30.binds (ps := ["self"]) fun _ _ _ _ _ _ us hl => match us, hl with | [_], _ => rfl
  have FD : FunD K "block" "Page.block" (defArgs sPage_block) (defBody sPage_block) (defScope sPage_block) [] [("space", .int 0), ("kept", .bl false), ("page", .bl false)] f21 _ := ⟨⟨_, _, _, _, _, _, _, _, _, _, rfl, l21, c21, .inl ⟨rfl, rfl⟩, .inr ⟨D0, rfl, fun q hq => by
    rcases List.mem_cons.mp hq with rfl | hq
    · exact ⟨_, dk0, _, rfl⟩
    rcases List.mem_cons.mp hq with rfl | hq
    · exact ⟨_, dk1, rfl⟩
    rcases List.mem_cons.mp hq with rfl | hq
    · exact ⟨_, dk2, rfl⟩
    cases hq⟩⟩, k21⟩
  obtain ⟨dsB, hdsB, bB⟩ := FD.binds0 (ps := ["self", "count", "space", "kept", "page"]) 2 (by simp) rfl fun D doc pm an cdv ct us ks h1 h2 => match us, ks, h1, h2 with
    | [_, _], [_, _, _], _, _ => ⟨_, _, _, _, _, _, rfl, rfl, _, _, _, _, _, _, rfl, rfl, _, _, _, _, _, _, rfl, rfl, rfl⟩
  refine ⟨PySem.W.fnOf "law" "law" (defArgs slaw) (defBody slaw) (defScope slaw) .none kV18 dc18 pm18 an18 cd18 ct18, fun s v => .of_eq rfl, fun base _ _ => ?_⟩
  have C__longer : CallOk l.prog w K mg base 1 "_longer" ["tail", "space"] spLng := call_ok (PySem.W.mg_of X G a0) k0 b0 (ok_longer F0)
  have C_next_line : CallOk l.prog w K mg base 2 "next_line" ["length", "height", "tail", "space", "barred"] spNext := call_ok (PySem.W.mg_of X G a1) k1 b1 (ok_next F1 C__longer)
  have C_line_place : CallOk l.prog w K mg base 1 "line_place" ["standing", "at", "count", "space"] (spPlace K) := call_ok (PySem.W.mg_of X G a2) k2 b2 (ok_place F2)
  have C_standing_of : CallOk l.prog w K mg base 1 "standing_of" ["length", "height", "tail", "kept"] (spStand K) := call_ok (PySem.W.mg_of X G a3) k3 b3 (ok_stand F3 T)
  have C__law_bag : CallOk l.prog w K mg base 1 "_law_bag" ["_law_script", "_law_at"] (spBag K) := call_ok (PySem.W.mg_of X G a4) k4 b4 (ok_bag F4 (PySem.W.mg_none_of X G z_int) (PySem.W.mg_none_of X G z_abs) (PySem.W.mg_none_of X G z_len) (PySem.W.mg_none_of X G z_enumerate))
  have C__law_draw : CallOk l.prog w K mg base 1 "_law_draw" ["_law_bag_here", "_law_many"] spDraw := call_ok (PySem.W.mg_of X G a5) k5 b5 (ok_draw F5 (PySem.W.mg_none_of X G z_int))
  have C__law_number : CallOk l.prog w K mg base 1 "_law_number" ["_law_thing"] spNum := call_ok (PySem.W.mg_of X G a6) k6 b6 (ok_number F6 T)
  have C__law_lines : CallOk l.prog w K mg base 1 "_law_lines" ["_law_blocks"] (spLLines K) := call_ok (PySem.W.mg_of X G a7) k7 b7 (ok_llines F7 T)
  have C__law_cut : CallOk l.prog w K mg base 1 "_law_cut" ["_law_length_here", "_law_lines_here", "_law_start"] spCut := call_ok (PySem.W.mg_of X G a8) k8 b8 (ok_cut F8 T)
  have C__law_pages : CallOk l.prog w K mg base 2 "_law_pages" ["_law_length_here", "_law_lines_here"] spPages := call_ok (PySem.W.mg_of X G a9) k9 b9 (ok_pages F9 T C__law_cut)
  have C__law_standing : CallOk l.prog w K mg base 3 "_law_standing" ["_law_length_here", "_law_blocks"] (spStanding K) := call_ok (PySem.W.mg_of X G a10) k10 b10 (ok_lstanding F10 T C__law_lines C__law_pages)
  have C__law_block : CallOk l.prog w K mg base 2 "_law_block" ["_law_bag_here", "_law_most"] spLBlock := call_ok (PySem.W.mg_of X G a11) k11 b11 (ok_lblock F11 C__law_draw)
  have C__law_length : CallOk l.prog w K mg base 2 "_law_length" ["_law_bag_here"] spLLength := call_ok (PySem.W.mg_of X G a12) k12 b12 (ok_llength F12 C__law_draw)
  have C__law_pending : CallOk l.prog w K mg base 4 "_law_pending" ["_law_length_here", "_law_blocks"] (spPending K) := call_ok (PySem.W.mg_of X G a13) k13 b13 (ok_lpending F13 T C__law_lines C__law_pages C__law_standing)
  have C__law_rows_right : CallOk l.prog w K mg base 2 "_law_rows_right" ["_law_told", "_law_due"] spRows := call_ok (PySem.W.mg_of X G a14) k14 b14 (ok_rows F14 T C__law_number)
  have M__settle : MethOk l.prog w K mg base C 1 "_settle" ["self"] (spSettle C) := ⟨f24, _, ⟨a24, i24, k24⟩, b24, ok_settle F24 T⟩
  have M_begin : MethOk l.prog w K mg base C 2 "begin" ["self"] (spBegin C tp) := ⟨f20, _, ⟨a20, i20, k20⟩, b20, ok_begin F20 T M__settle⟩
  have M__put : MethOk l.prog w K mg base C 2 "_put" ["self", "height", "tail"] (spPut C) := ⟨f22, _, ⟨a22, i22, k22⟩, b22, ok_put F22 T M__settle⟩
  have M__go_over : MethOk l.prog w K mg base C 1 "_go_over" ["self", "rows"] (spOver C) := ⟨f23, _, ⟨a23, i23, k23⟩, b23, ok_over F23 T⟩
  have M_finish : MethOk l.prog w K mg base C 1 "finish" ["self"] (spFinish C) := ⟨f26, _, ⟨a26, i26, k26⟩, b26, ok_finish F26 T⟩
  have M_settled : MethOk l.prog w K mg base C 2 "settled" ["self"] (spSettled C) := ⟨f25, _, ⟨a25, i25, k25⟩, b25, ok_settled F25 T M_finish⟩
  have M_Page : MakeOk l.prog w K mg base C 1 "Page" ["self", "length"] (spInit C tp) := ⟨f19, _, ⟨mk, a19, i19, kc⟩, PySem.W.mg_of X G aC, b19, ok_init F19 T⟩
  have okB := ok_block (P := l.prog) (w := w) (base := base) (mg := mg) F21 T M__settle M_begin M__put M__go_over C_line_place C_next_line C_standing_of
  have M_block : MethKOk l.prog w K mg base C 3 "block" ["self", "count", "space", "kept", "page"] ["space", "kept", "page"] 1 (spBlock K C) :=
    ⟨f21, _, ⟨a21, i21, k21⟩, ⟨fun s us ws _ h1 h2 => match us, ws, h1, h2 with | [_, _], [_, _, _], _, _ => .of_eq rfl, fun r1 r2 => Vals.append r1 r2⟩, okB⟩
  have M_block0 : MethDOk l.prog w K mg base C 3 "block" ["self", "count", "space", "kept", "page"] [.int 0, .bl false, .bl false] (spBlock K C) := ⟨f21, _, dsB, ⟨a21, i21, k21⟩, hdsB, bB, okB⟩
  have M_len : LenOk l.prog w K mg base C 1 (spLen C) := ⟨f27, _, ⟨a27, i27⟩, b27, ok_len F27 T⟩
  have P_now : PropOk l.prog w K mg base C 1 "now" (spNow C) := ⟨pp28, f28, _, ⟨a28, g28, t28, ⟨_, r28⟩⟩, b28, ok_now F28 T⟩
  have P_pending : PropOk l.prog w K mg base C 1 "pending" (spPend C) := ⟨pp29, f29, _, ⟨a29, g29, t29, ⟨_, r29⟩⟩, b29, ok_pend F29 T⟩
  have P_went_over : PropOk l.prog w K mg base C 1 "went_over" (spWent C) := ⟨pp30, f30, _, ⟨a30, g30, t30, ⟨_, r30⟩⟩, b30, ok_went F30 T⟩
  have C__law_shown : CallOk l.prog w K mg base 5 "_law_shown" ["_law_page", "_law_length_here", "_law_blocks"] (spShown K C) := call_ok (PySem.W.mg_of X G a15) k15 b15 (ok_shown F15 T C__law_number C__law_lines C__law_pages C__law_standing C__law_pending C__law_rows_right M_finish M_settled P_now P_pending P_went_over M_len)
  have C__law_set : CallOk l.prog w K mg base 4 "_law_set" ["_law_page", "_law_block_here", "_law_apart"] (spSet K C) := call_ok (PySem.W.mg_of X G a16) k16 b16 (ok_set F16 T M_begin M_block M_block0)
  have C__law_right : CallOk l.prog w K mg base 6 "_law_right" ["_law_bag_here", "_law_length_here", "_law_blocks"] (spLRight K) := call_ok (PySem.W.mg_of X G a17) k17 b17 (ok_lright F17 T C__law_draw C__law_shown C__law_set M_Page M_settled)
  exact ok_law F18 T C__law_bag C__law_draw C__law_length C__law_block C__law_right
theorem walk_law {l : PySem.W.OpenLaw} {q : Program} {loose : List Str} {XP : (Str → Option Value) → Heap → Prop} {YP : World → Heap → Prop} {d : DefRec} {K : Params → PySem.W.Frag} (hmost : l.most = some 63) (hdf : d.params.defaults = [])
    (hin : ∀ (w : World) (h : Heap), YP w h → (K w.params).In h)
    (all : ∀ (w : World) (mg : Str → Option Value) (fa : Addr) (h : Heap), (K w.params).In h → h.Ns mainGlobals mg → mg d.name = some (.ref fa) →
      ∃ fd : FuncData, (∀ (s : Shared) (u : Value), BindsTo s fd ⟨[u], []⟩ [("_law_script", u)]) ∧ ∀ base : Heap, (K w.params).In base → base.Ns mainGlobals mg → FnOk l.prog w (K w.params) mg base CX0 7 fa fd ["_law_script"] (spLaw (K w.params))) :
    PySem.W.WalkO q loose XP YP l.row.toRowW d [] (fun f vs => PySem.call f vs) :=
  L2.walk_of (n := 63) (k := 7) (x := "_law_script") (CX := fun _ => CX0) (sp := fun w => spLaw (K w.params)) hmost (by decide) hdf ⟨rfl, by decide, by decide⟩ hin all (fun _ _ a ns hl _ hS => ⟨a, ns, rfl, hS, hl, fun _ => rfl⟩) fun _ _ _ _ _ z => z
end Pa
open PySem PySem.W PyProof.Rows in
set_option maxRecDepth 100000 in
set_option maxHeartbeats 0 in
theorem PySem.Challenge.cw_pressalike_k27_blocks_on_pages_holds : PySem.Challenge.rw_pressalike_k27_blocks_on_pages.Holds := by
  w_on; o_law; k_head; (case hw => w_witness2)
  k_fill
  refine Pa.walk_law (l := PySem.Challenge.rw_pressalike_k27_blocks_on_pages) rfl rfl (fun w h Y => PySem.W.kIn_of Y) ?F
  case F =>
    intro w mg fa h KX G hmg
    refine' Pa.all_mk KX G hmg ?aC ?aT ?a0 ?l0 ?c0 ?k0 ?a1 ?l1 ?c1 ?k1 ?a2 ?l2 ?c2 ?k2 ?a3 ?l3 ?c3 ?k3 ?a4 ?l4 ?c4 ?k4 ?a5 ?l5 ?c5 ?k5 ?a6 ?l6 ?c6 ?k6 ?a7 ?l7 ?c7 ?k7 ?a8 ?l8 ?c8 ?k8 ?a9 ?l9 ?c9 ?k9 ?a10 ?l10 ?c10 ?k10 ?a11 ?l11 ?c11 ?k11 ?a12 ?l12 ?c12 ?k12 ?a13 ?l13 ?c13 ?k13 ?a14 ?l14 ?c14 ?k14 ?a15 ?l15 ?c15 ?k15 ?a16 ?l16 ?c16 ?k16 ?a17 ?l17 ?c17 ?k17 ?a18 ?l18 ?c18 ?k18 ?a19 ?i19 ?l19 ?c19 ?k19 ?a20 ?i20 ?l20 ?c20 ?k20 ?a21 ?i21 ?l21 ?c21 ?k21 ?a22 ?i22 ?l22 ?c22 ?k22 ?a23 ?i23 ?l23 ?c23 ?k23 ?a24 ?i24 ?l24 ?c24 ?k24 ?a25 ?i25 ?l25 ?c25 ?k25 ?a26 ?i26 ?l26 ?c26 ?k26 ?a27 ?i27 ?l27 ?c27 ?k27 ?a28 ?g28 ?t28 ?r28 ?l28 ?c28 ?k28 ?a29 ?g29 ?t29 ?r29 ?l29 ?c29 ?k29 ?a30 ?g30 ?t30 ?r30 ?l30 ?c30 ?k30 ?dk0 ?dk1 ?dk2 ?lT ?pg ?hd ?po ?sa ?mk ?kc ?nL ?nS ?nR ?nO ?nW ?z_len ?z_range ?z_int ?z_abs ?z_enumerate ?z_isinstance ?z_bool ?z_list ?z_tuple ?z_max ?z_min ?z_all
    (case aC => k_is)
    (case aT => k_is)
    (case a0 => k_is)
    (case l0 => k_is)
    (case c0 => k_is)
    (case k0 => k_is)
    (case a1 => k_is)
    (case l1 => k_is)
    (case c1 => k_is)
    (case k1 => k_is)
    (case a2 => k_is)
    (case l2 => k_is)
    (case c2 => k_is)
    (case k2 => k_is)
    (case a3 => k_is)
    (case l3 => k_is)
    (case c3 => k_is)
    (case k3 => k_is)
    (case a4 => k_is)
    (case l4 => k_is)
    (case c4 => k_is)
    (case k4 => k_is)
    (case a5 => k_is)
    (case l5 => k_is)
    (case c5 => k_is)
    (case k5 => k_is)
    (case a6 => k_is)
    (case l6 => k_is)
    (case c6 => k_is)
    (case k6 => k_is)
    (case a7 => k_is)
    (case l7 => k_is)
    (case c7 => k_is)
    (case k7 => k_is)
    (case a8 => k_is)
    (case l8 => k_is)
    (case c8 => k_is)
    (case k8 => k_is)
    (case a9 => k_is)
    (case l9 => k_is)
    (case c9 => k_is)
    (case k9 => k_is)
    (case a10 => k_is)
    (case l10 => k_is)
    (case c10 => k_is)
    (case k10 => k_is)
    (case a11 => k_is)
    (case l11 => k_is)
    (case c11 => k_is)
    (case k11 => k_is)
    (case a12 => k_is)
    (case l12 => k_is)
    (case c12 => k_is)
    (case k12 => k_is)
    (case a13 => k_is)
    (case l13 => k_is)
    (case c13 => k_is)
    (case k13 => k_is)
    (case a14 => k_is)
    (case l14 => k_is)
    (case c14 => k_is)
    (case k14 => k_is)
    (case a15 => k_is)
    (case l15 => k_is)
    (case c15 => k_is)
    (case k15 => k_is)
    (case a16 => k_is)
    (case l16 => k_is)
    (case c16 => k_is)
    (case k16 => k_is)
    (case a17 => k_is)
    (case l17 => k_is)
    (case c17 => k_is)
    (case k17 => k_is)
    (case a18 => k_is)
    (case l18 => k_is)
    (case c18 => k_is)
    (case k18 => k_is)
    (case a19 => k_is)
    (case i19 => k_is)
    (case l19 => k_is)
    (case c19 => k_is)
    (case k19 => k_is)
    (case a20 => k_is)
    (case i20 => k_is)
    (case l20 => k_is)
    (case c20 => k_is)
    (case k20 => k_is)
    (case a21 => k_is)
    (case i21 => k_is)
    (case l21 => k_is)
    (case c21 => k_is)
    (case k21 => k_is)
    (case a22 => k_is)
    (case i22 => k_is)
    (case l22 => k_is)
    (case c22 => k_is)
    (case k22 => k_is)
    (case a23 => k_is)
    (case i23 => k_is)
    (case l23 => k_is)
    (case c23 => k_is)
    (case k23 => k_is)
    (case a24 => k_is)
    (case i24 => k_is)
    (case l24 => k_is)
    (case c24 => k_is)
    (case k24 => k_is)
    (case a25 => k_is)
    (case i25 => k_is)
    (case l25 => k_is)
    (case c25 => k_is)
    (case k25 => k_is)
    (case a26 => k_is)
    (case i26 => k_is)
    (case l26 => k_is)
    (case c26 => k_is)
    (case k26 => k_is)
    (case a27 => k_is)
    (case i27 => k_is)
    (case l27 => k_is)
    (case c27 => k_is)
    (case k27 => k_is)
    (case a28 => k_is)
    (case g28 => k_is)
    (case t28 => k_is)
    (case r28 => k_is)
    (case l28 => k_is)
    (case c28 => k_is)
    (case k28 => k_is)
    (case a29 => k_is)
    (case g29 => k_is)
    (case t29 => k_is)
    (case r29 => k_is)
    (case l29 => k_is)
    (case c29 => k_is)
    (case k29 => k_is)
    (case a30 => k_is)
    (case g30 => k_is)
    (case t30 => k_is)
    (case r30 => k_is)
    (case l30 => k_is)
    (case c30 => k_is)
    (case k30 => k_is)
    (case dk0 => k_is)
    (case dk1 => k_is)
    (case dk2 => k_is)
    (case lT => k_is)
    (case pg => k_is)
    (case hd => k_is)
    (case po => k_is)
    (case sa => k_is)
    (case mk => k_is)
    (case kc => k_is)
    (case nL => k_is)
    (case nS => k_is)
    (case nR => k_is)
    (case nO => k_is)
    (case nW => k_is)
    (case z_len => k_is)
    (case z_range => k_is)
    (case z_int => k_is)
    (case z_abs => k_is)
    (case z_enumerate => k_is)
    (case z_isinstance => k_is)
    (case z_bool => k_is)
    (case z_list => k_is)
    (case z_tuple => k_is)
    (case z_max => k_is)
    (case z_min => k_is)
    (case z_all => k_is)
