import PyProof.Rows.All
import Wide.All
import OpenK.AllK
import Wide.FinOn
import HandS.ForMost
import HandS.Wide
import HandS.Walk
import HandS.TupAny
import HandS.IsInst
import HandS.Style
import HandS.Defaults
import PySem.Challenge.RW_pressalike_k28_plain_pages
set_option Elab.async false
set_option linter.all false
namespace Pa
/-! ### the mathematics: lines, segments, pages -/
structure Ln where
  sp : Int
  br : Bool
  du : Bool
structure Bl where
  c : Nat
  s : Int
  k : Bool
  g : Bool
/-- the last line of a row ahead of which the place is free: (what stands ahead of it, it and what follows) -/
def cutT : List Ln → Option (List Ln × List Ln)
  | [] => none
  | x :: xs => match cutT xs with
    | some ab => some (x :: ab.1, ab.2)
    | none => if x.br = true then none else some ([], x :: xs)
def cut : List Ln → Option (List Ln × List Ln)
  | [] => none
  | x :: xs => (cutT xs).map fun ab => (x :: ab.1, ab.2)
theorem cutT_snoc (xs : List Ln) (l : Ln) : cutT (xs ++ [l]) = if l.br = true then (cutT xs).map (fun ab => (ab.1, ab.2 ++ [l])) else some (xs, [l]) := by
  induction xs with
  | nil => cases h : l.br <;> simp [cutT, h]
  | cons x xs ih =>
    rw [List.cons_append, cutT, ih]
    cases h : l.br with
    | true =>
      simp only [if_true]
      rw [cutT]
      cases h2 : cutT xs with
      | none => cases h3 : x.br <;> simp
      | some ab => simp
    | false => simp
theorem cut_snoc {xs : List Ln} (h : xs ≠ []) (l : Ln) : cut (xs ++ [l]) = if l.br = true then (cut xs).map (fun ab => (ab.1, ab.2 ++ [l])) else some (xs, [l]) := by
  cases xs with
  | nil => exact absurd rfl h
  | cons x xs =>
    rw [List.cons_append, cut, cutT_snoc, cut]
    cases l.br <;> simp [Option.map_map, Function.comp_def]
theorem cutT_spec : ∀ {xs a b : List Ln}, cutT xs = some (a, b) → xs = a ++ b ∧ ∃ x b', b = x :: b' ∧ x.br = false ∧ ∀ y ∈ b', y.br = true
  | [], a, b, h => by cases h
  | x :: xs, a, b, h => by
    rw [cutT] at h
    cases h2 : cutT xs with
    | some ab =>
      rw [h2] at h
      obtain ⟨a', b'⟩ := ab
      cases h
      obtain ⟨e, r⟩ := cutT_spec h2
      exact ⟨by rw [e]; rfl, r⟩
    | none =>
      rw [h2] at h
      cases h3 : x.br with
      | true => simp [h3] at h
      | false =>
        simp only [h3, Bool.false_eq_true, if_false, Option.some.injEq, Prod.mk.injEq] at h
        obtain ⟨rfl, rfl⟩ := h
        exact ⟨rfl, x, xs, rfl, h3, cutT_none h2⟩
where
  cutT_none : ∀ {xs : List Ln}, cutT xs = none → ∀ y ∈ xs, y.br = true
  | [], _, y, hy => by cases hy
  | x :: xs, h, y, hy => by
    rw [cutT] at h
    cases h2 : cutT xs with
    | some ab => rw [h2] at h; cases h
    | none =>
      rw [h2] at h
      cases h3 : x.br with
      | false => simp [h3] at h
      | true =>
        rcases List.mem_cons.mp hy with e | e
        · rw [e]; exact h3
        · exact cutT_none h2 y e
theorem cutT_none {xs : List Ln} (h : cutT xs = none) : ∀ y ∈ xs, y.br = true := cutT_spec.cutT_none h
theorem cutT_allbr : ∀ {xs : List Ln}, (∀ y ∈ xs, y.br = true) → cutT xs = none
  | [], _ => rfl
  | x :: xs, h => by
    rw [cutT, cutT_allbr fun y hy => h y (List.mem_cons_of_mem _ hy)]
    simp [h x List.mem_cons_self]
theorem cut_spec {xs a b : List Ln} (h : cut xs = some (a, b)) : xs = a ++ b ∧ a ≠ [] ∧ ∃ x b', b = x :: b' ∧ x.br = false ∧ ∀ y ∈ b', y.br = true := by
  cases xs with
  | nil => cases h
  | cons x xs =>
    rw [cut] at h
    cases h2 : cutT xs with
    | none => rw [h2] at h; cases h
    | some ab =>
      rw [h2] at h
      obtain ⟨a', b'⟩ := ab
      cases h
      obtain ⟨e, r⟩ := cutT_spec h2
      exact ⟨by rw [e]; rfl, by simp, r⟩
theorem cut_none {xs : List Ln} (h : cut xs = none) : ∀ y ∈ xs.tail, y.br = true := by
  cases xs with
  | nil => intro y hy; cases hy
  | cons x xs =>
    rw [cut] at h
    cases h2 : cutT xs with
    | none => exact cutT_none h2
    | some ab => rw [h2] at h; cases h
theorem cut_allbr {x : Ln} {xs : List Ln} (h : ∀ y ∈ xs, y.br = true) : cut (x :: xs) = none := by
  rw [cut, cutT_allbr h]; rfl
theorem cut_one (x : Ln) : cut [x] = none := rfl

/-- how far the last of these stands below what is ahead of them -/
def adv : List Ln → Int
  | [] => 0
  | l :: ls => l.sp + 1 + adv ls
theorem adv_append (a b : List Ln) : adv (a ++ b) = adv a + adv b := by
  induction a with
  | nil => simp [adv]
  | cons x a ih => rw [List.cons_append, adv, adv, ih]; omega
theorem adv_nonneg {a : List Ln} (h : ∀ l ∈ a, 0 ≤ l.sp) : (a.length : Int) ≤ adv a := by
  induction a with
  | nil => simp [adv]
  | cons x a ih =>
    have h1 := h x List.mem_cons_self
    have h2 := ih fun l hl => h l (List.mem_cons_of_mem _ hl)
    rw [adv, List.length_cons]
    omega
def lastRow (s : List Ln) : Int := adv s.tail
def pgGo (r : Int) : List Ln → List (Int × Bool)
  | [] => []
  | l :: ls => (r + l.sp + 1, l.br) :: pgGo (r + l.sp + 1) ls
def pgOf : List Ln → List (Int × Bool)
  | [] => []
  | l :: ls => (0, l.br) :: pgGo 0 ls
theorem pgGo_append (r : Int) (a b : List Ln) : pgGo r (a ++ b) = pgGo r a ++ pgGo (r + adv a) b := by
  induction a generalizing r with
  | nil => simp [pgGo, adv]
  | cons x a ih =>
    rw [List.cons_append, pgGo, pgGo, ih, List.cons_append, adv]
    congr 3
    omega
theorem pgGo_len (r : Int) (a : List Ln) : (pgGo r a).length = a.length := by
  induction a generalizing r with
  | nil => rfl
  | cons x a ih => rw [pgGo, List.length_cons, ih, List.length_cons]
theorem pgOf_len (a : List Ln) : (pgOf a).length = a.length := by
  cases a with
  | nil => rfl
  | cons x a => rw [pgOf, List.length_cons, pgGo_len, List.length_cons]
theorem pgOf_snoc {s : List Ln} (h : s ≠ []) (l : Ln) : pgOf (s ++ [l]) = pgOf s ++ [(lastRow s + l.sp + 1, l.br)] := by
  cases s with
  | nil => exact absurd rfl h
  | cons x s =>
    rw [List.cons_append, pgOf, pgGo_append, pgOf, List.cons_append]
    simp [pgGo, lastRow]
theorem lastRow_snoc {s : List Ln} (h : s ≠ []) (l : Ln) : lastRow (s ++ [l]) = lastRow s + l.sp + 1 := by
  cases s with
  | nil => exact absurd rfl h
  | cons x s =>
    show adv (s ++ [l]) = adv s + l.sp + 1
    rw [adv_append]
    simp [adv]
    omega
theorem lastRow_one (l : Ln) : lastRow [l] = 0 := rfl
theorem lastRow_append {a : List Ln} (h : a ≠ []) (x : Ln) (b : List Ln) : lastRow (a ++ x :: b) = lastRow a + x.sp + 1 + lastRow (x :: b) := by
  cases a with
  | nil => exact absurd rfl h
  | cons y a =>
    show adv (a ++ x :: b) = adv a + x.sp + 1 + adv b
    rw [adv_append, adv]
    omega
theorem lastRow_nonneg {s : List Ln} (h : ∀ l ∈ s, 0 ≤ l.sp) : 0 ≤ lastRow s := by
  have := adv_nonneg (a := s.tail) fun l hl => h l (List.mem_of_mem_tail hl)
  unfold lastRow
  omega
theorem pgOf_last {s : List Ln} (h : s ≠ []) : ∃ b, (pgOf s).getLast? = some (lastRow s, b) := by
  rcases List.eq_nil_or_concat s with e | ⟨t, l, e⟩
  · exact absurd e h
  · subst e
    by_cases ht : t = []
    · subst ht
      exact ⟨l.br, rfl⟩
    · rw [List.concat_eq_append] at *
      rw [pgOf_snoc ht, lastRow_snoc ht]
      exact ⟨l.br, by simp⟩
theorem pgGo_shift (r d : Int) (b : List Ln) : pgGo (r + d) b = (pgGo r b).map fun x => (x.1 + d, x.2) := by
  induction b generalizing r with
  | nil => rfl
  | cons x b ih =>
    rw [pgGo, pgGo, List.map_cons, ← ih]
    have e : r + d + x.sp + 1 = r + x.sp + 1 + d := by omega
    rw [e]
/-- a page parted at one of its lines -/
theorem pgOf_parted {a : List Ln} (h : a ≠ []) (x : Ln) (b : List Ln) : pgOf (a ++ x :: b) = pgOf a ++ (pgOf (x :: b)).map fun y => (y.1 + (lastRow a + x.sp + 1), y.2) := by
  cases a with
  | nil => exact absurd rfl h
  | cons y a =>
    rw [List.cons_append, pgOf, pgGo_append, pgOf, pgOf, pgGo, List.map_cons, ← pgGo_shift, List.cons_append]
    show _ = (0, y.br) :: (pgGo 0 a ++ (0 + (adv a + x.sp + 1), x.br) :: pgGo (0 + (adv a + x.sp + 1)) b)
    have e : (0 : Int) + adv a + x.sp + 1 = 0 + (adv a + x.sp + 1) := by omega
    rw [e]

/-! ### the lines of blocks -/
def blLn (c : Nat) (s : Int) (kp du : Bool) (i : Nat) : Ln := if i = 0 then ⟨s, kp, du⟩ else ⟨0, decide ((i : Int) = 1 ∨ (i : Int) = (c : Int) - 1), false⟩
def blLines (c : Nat) (s : Int) (kp du : Bool) (n : Nat) : List Ln := (List.range n).map (blLn c s kp du)
theorem blLines_succ (c : Nat) (s : Int) (kp du : Bool) (n : Nat) : blLines c s kp du (n + 1) = blLines c s kp du n ++ [blLn c s kp du n] := by
  unfold blLines
  rw [List.range_succ, List.map_append]
  rfl
structure LS where
  ls : List Ln
  du : Bool
  kp : Bool
def stepB (t : LS) (b : Bl) : LS :=
  ⟨t.ls ++ blLines b.c b.s t.kp (t.du || b.g) b.c, if b.c = 0 then (t.du || b.g) else false, if b.c = 0 then t.kp else b.k⟩
def linesOf (bs : List Bl) : LS := bs.foldl stepB ⟨[], true, false⟩
theorem linesOf_snoc (bs : List Bl) (b : Bl) : linesOf (bs ++ [b]) = stepB (linesOf bs) b := by
  unfold linesOf
  rw [List.foldl_append]
  rfl

/-! ### lines put onto pages: a state is its pages' lines, the last page first -/
def stepS (L : Int) (S : List (List Ln)) (l : Ln) : List (List Ln) :=
  if l.du = true then [l] :: S else match S with
  | [] => [[l]]
  | seg :: S' => if lastRow seg + l.sp + 1 < L then (seg ++ [l]) :: S' else
    match (if l.br = true then cut seg else none) with
    | none => [l] :: seg :: S'
    | some ab => if lastRow ab.2 + l.sp + 1 < L then (ab.2 ++ [l]) :: ab.1 :: S' else [l] :: ab.2 :: ab.1 :: S'
def runS (L : Int) (ls : List Ln) : List (List Ln) := ls.foldl (stepS L) []
theorem runS_snoc (L : Int) (ls : List Ln) (l : Ln) : runS L (ls ++ [l]) = stepS L (runS L ls) l := by
  unfold runS
  rw [List.foldl_append]
  rfl
theorem runS_append (L : Int) (a b : List Ln) : runS L (a ++ b) = b.foldl (stepS L) (runS L a) := by
  unfold runS
  rw [List.foldl_append]
def rowsOf (S : List (List Ln)) : List Int := ((S.reverse.map pgOf).flatten).map (·.1)
theorem rowsOf_cons (s : List Ln) (S : List (List Ln)) : rowsOf (s :: S) = rowsOf S ++ (pgOf s).map (·.1) := by
  unfold rowsOf
  simp

/-! ### a Page's state -/
structure PS' where
  h : Int
  t : Int
  lo : Int
  rows : List Int
def lng (t s : Int) : Int := if t > 0 then t + s + 1 else 0
structure NL where
  h : Int
  t : Int
  ov : Bool
def nextLine (L h t s : Int) (b : Bool) : NL :=
  if h > 0 ∧ h + s + 1 ≤ L then (if b = false then ⟨h + s + 1, 1, false⟩ else ⟨h + s + 1, lng t s, false⟩)
  else if b = false ∨ t = 0 then ⟨1, 0, false⟩ else ⟨if lng t s ≤ L then lng t s else 1, 0, true⟩
def overR (rows : List Int) (lo before : Int) : List Int := rows.take (rows.length - lo.toNat) ++ (rows.drop (rows.length - lo.toNat)).map (· - before)
def lineP (L : Int) (p : PS') (s : Int) (b : Bool) : PS' :=
  let n := nextLine L p.h p.t s b
  ⟨n.h, n.t, if n.t > 1 then p.lo + 1 else n.t, (if n.ov = true then overR p.rows p.lo (p.h - p.t) else p.rows) ++ [n.h - 1]⟩
def tailOf (s : List Ln) : Int := match cut s with
  | none => 0
  | some ab => lastRow ab.2 + 1
def looseOf (s : List Ln) : Int := match cut s with
  | none => 0
  | some ab => ab.2.length
/-- the page's state is that of these lines -/
structure Ex (S : List (List Ln)) (p : PS') : Prop where
  ok : ∃ s S', S = s :: S' ∧ s ≠ [] ∧ p.h = lastRow s + 1 ∧ p.t = tailOf s ∧ p.lo = looseOf s ∧ p.rows = rowsOf S
def NN (S : List (List Ln)) : Prop := ∀ s ∈ S, ∀ l ∈ s, 0 ≤ l.sp
theorem overR_ok {S' : List (List Ln)} {a b : List Ln} {x : Ln} (ha : a ≠ []) : overR (rowsOf ((a ++ x :: b) :: S')) ((x :: b).length : Int) (lastRow a + x.sp + 1) = rowsOf ((x :: b) :: a :: S') := by
  unfold overR
  rw [rowsOf_cons, rowsOf_cons, rowsOf_cons, pgOf_parted ha]
  have e : ((((pgOf a ++ (pgOf (x :: b)).map fun y => (y.1 + (lastRow a + x.sp + 1), y.2))).map (·.1)) : List Int) = (pgOf a).map (·.1) ++ ((pgOf (x :: b)).map (·.1)).map (· + (lastRow a + x.sp + 1)) := by
    simp [List.map_map, Function.comp_def]
  rw [e, ← List.append_assoc]
  have el : (rowsOf S' ++ (pgOf a).map (·.1) ++ ((pgOf (x :: b)).map (·.1)).map (· + (lastRow a + x.sp + 1))).length - (((x :: b).length : Int)).toNat = (rowsOf S' ++ (pgOf a).map (·.1)).length := by
    simp only [List.length_append, List.length_map, pgOf_len, Int.toNat_natCast]
    omega
  rw [el, List.take_left', List.drop_left']
  · rw [List.map_map]
    congr 1
    conv => rhs; rw [← List.map_id ((pgOf (x :: b)).map (·.1))]
    apply List.map_congr_left
    intro y _
    simp
  · rfl
  · rfl
theorem line_ok {L : Int} {seg : List Ln} {S' : List (List Ln)} {p : PS'} {l : Ln} (hL : 0 < L) (hn : NN (seg :: S')) (hs : seg ≠ []) (h0 : 0 ≤ l.sp) (hd : l.du = false) (hh : p.h = lastRow seg + 1) (hb : l.br = true → p.t = tailOf seg ∧ p.lo = looseOf seg)
    (hr : p.rows = rowsOf (seg :: S')) : Ex (stepS L (seg :: S') l) (lineP L p l.sp l.br) := by
  have hnn : 0 ≤ lastRow seg := lastRow_nonneg (hn seg List.mem_cons_self)
  unfold stepS lineP nextLine
  simp only [hd, Bool.false_eq_true, if_false, hh]
  by_cases hf : lastRow seg + l.sp + 1 < L
  · have hf' : lastRow seg + 1 > 0 ∧ lastRow seg + 1 + l.sp + 1 ≤ L := ⟨by omega, by omega⟩
    simp only [hf, hf', and_self, if_true]
    cases hbr : l.br with
    | false =>
      simp only [if_true]
      refine ⟨_, _, rfl, by simp, ?_, ?_, ?_, ?_⟩
      · rw [lastRow_snoc hs]; show lastRow seg + 1 + l.sp + 1 = _; omega
      · show (1 : Int) = _
        unfold tailOf; rw [cut_snoc hs, hbr]; rfl
      · show (if (1 : Int) > 1 then p.lo + 1 else (1 : Int)) = _
        unfold looseOf; rw [cut_snoc hs, hbr]; rfl
      · show p.rows ++ [_] = _
        rw [hr, rowsOf_cons, rowsOf_cons, pgOf_snoc hs, List.map_append, List.append_assoc]
        congr 2
        simp
        omega
    | true =>
      obtain ⟨ht, hlo⟩ := hb hbr
      simp only [Bool.true_eq_false, if_false]
      refine ⟨_, _, rfl, by simp, ?_, ?_, ?_, ?_⟩
      · rw [lastRow_snoc hs]; show lastRow seg + 1 + l.sp + 1 = _; omega
      · show lng p.t l.sp = _
        rw [ht]
        unfold tailOf lng
        rw [cut_snoc hs, hbr]
        simp only [if_true]
        cases hc : cut seg with
        | none => simp
        | some ab =>
          obtain ⟨a, b⟩ := ab
          obtain ⟨e, ha, x, b', hb', _⟩ := cut_spec hc
          have hbn : b ≠ [] := by rw [hb']; simp
          have : 0 ≤ lastRow b := lastRow_nonneg fun y hy => hn seg List.mem_cons_self y (by rw [e]; exact List.mem_append_right _ hy)
          simp only [Option.map_some]
          rw [lastRow_snoc hbn, if_pos (by omega)]
          omega
      · show (if lng p.t l.sp > 1 then p.lo + 1 else lng p.t l.sp) = _
        rw [ht, hlo]
        unfold tailOf looseOf lng
        rw [cut_snoc hs, hbr]
        simp only [if_true]
        cases hc : cut seg with
        | none => simp
        | some ab =>
          obtain ⟨a, b⟩ := ab
          obtain ⟨e, ha, x, b', hb', _⟩ := cut_spec hc
          have : 0 ≤ lastRow b := lastRow_nonneg fun y hy => hn seg List.mem_cons_self y (by rw [e]; exact List.mem_append_right _ hy)
          simp only [Option.map_some, List.length_append, List.length_singleton]
          rw [if_pos (by omega)]
          omega
      · show p.rows ++ [_] = _
        rw [hr, rowsOf_cons, rowsOf_cons, pgOf_snoc hs, List.map_append, List.append_assoc]
        congr 2
        simp
        omega
  · have hf' : ¬ (lastRow seg + 1 > 0 ∧ lastRow seg + 1 + l.sp + 1 ≤ L) := fun q => hf (by omega)
    simp only [hf, hf', if_false]
    cases hbr : l.br with
    | false =>
      simp only [Bool.false_eq_true, if_false, true_or, if_true]
      refine ⟨_, _, rfl, by simp, rfl, rfl, rfl, ?_⟩
      show p.rows ++ [_] = _
      rw [hr]
      rw [rowsOf_cons [l]]
      rfl
    | true =>
      obtain ⟨ht, hlo⟩ := hb hbr
      simp only [if_true, Bool.true_eq_false, false_or]
      cases hc : cut seg with
      | none =>
        have ht0 : p.t = 0 := by rw [ht]; unfold tailOf; rw [hc]
        simp only [ht0, if_true]
        refine ⟨_, _, rfl, by simp, rfl, rfl, rfl, ?_⟩
        show p.rows ++ [_] = _
        rw [hr]
        rw [rowsOf_cons [l]]
        rfl
      | some ab =>
        obtain ⟨a, b⟩ := ab
        obtain ⟨e, ha, x, b', hb', hx, hall⟩ := cut_spec hc
        have hbn : b ≠ [] := by rw [hb']; simp
        have hb0 : 0 ≤ lastRow b := lastRow_nonneg fun y hy => hn seg List.mem_cons_self y (by rw [e]; exact List.mem_append_right _ hy)
        have ht1 : p.t = lastRow b + 1 := by rw [ht]; unfold tailOf; rw [hc]
        have hlo1 : p.lo = b.length := by rw [hlo]; unfold looseOf; rw [hc]
        have htn : ¬ p.t = 0 := by omega
        have hlr : lastRow seg = lastRow a + x.sp + 1 + lastRow b := by rw [e, hb']; exact lastRow_append ha x b'
        have hov : overR p.rows p.lo (lastRow seg + 1 - p.t) = rowsOf (b :: a :: S') := by
          have e2 : lastRow seg + 1 - p.t = lastRow a + x.sp + 1 := by omega
          rw [e2, hr, hlo1, e, hb']
          exact overR_ok ha
        have hlng : lng p.t l.sp = lastRow b + l.sp + 1 + 1 := by
          unfold lng
          rw [if_pos (by omega)]
          omega
        simp only [htn, if_false, hlng, hov, if_true]
        by_cases hf2 : lastRow b + l.sp + 1 < L
        · have hf3 : lastRow b + l.sp + 1 + 1 ≤ L := by omega
          simp only [hf2, hf3, if_true]
          refine ⟨_, _, rfl, by simp, ?_, ?_, ?_, ?_⟩
          · rw [lastRow_snoc hbn]
          · show (0 : Int) = _
            unfold tailOf; rw [cut_snoc hbn, hbr, hb', cut_allbr hall]; rfl
          · show (if (0 : Int) > 1 then p.lo + 1 else (0 : Int)) = _
            unfold looseOf; rw [cut_snoc hbn, hbr, hb', cut_allbr hall]; rfl
          · show rowsOf (b :: a :: S') ++ [_] = _
            rw [rowsOf_cons, rowsOf_cons (b ++ [l]), pgOf_snoc hbn, List.map_append, List.append_assoc]
            congr 2
            simp
        · have hf3 : ¬ (lastRow b + l.sp + 1 + 1 ≤ L) := by omega
          simp only [hf2, hf3, if_false]
          refine ⟨_, _, rfl, by simp, rfl, rfl, rfl, ?_⟩
          show rowsOf (b :: a :: S') ++ [_] = _
          rw [rowsOf_cons [l]]
          rfl
/-! ### a block -/
structure SB where
  kd : Bool
  h : Int
  t : Int
  lo : Int
  rows : List Int
def runP (L : Int) (c : Nat) (s : Int) (kd : Bool) (p : PS') : Nat → PS'
  | 0 => p
  | n + 1 => lineP L (runP L c s kd p n) (if n = 0 then s else 0) (if n = 0 then kd else decide ((n : Int) = 1 ∨ (n : Int) = (c : Int) - 1))
def due0 (q : SB) (g : Bool) : SB := if g = true then ⟨false, 0, 0, 0, q.rows⟩ else q
def endP (L : Int) (p : PS') (k : Bool) : SB :=
  if p.h = L ∧ (k = false ∨ p.t = 0) then ⟨false, 0, 0, 0, p.rows⟩ else if k = true then ⟨true, p.h, p.t, if p.t = 0 then 0 else p.lo, p.rows⟩ else ⟨false, p.h, 0, 0, p.rows⟩
def blockP (L : Int) (q : SB) (b : Bl) : SB :=
  let q0 := due0 q b.g
  if b.c = 0 then q0 else endP L (runP L b.c b.s q0.kd ⟨q0.h, q0.t, q0.lo, q0.rows⟩ b.c) b.k
theorem NN_step {L : Int} {S : List (List Ln)} {l : Ln} (h : NN S) (h0 : 0 ≤ l.sp) : NN (stepS L S l) := by
  unfold stepS
  have h1 : ∀ y ∈ [l], 0 ≤ y.sp := fun y hy => by rw [List.mem_singleton.mp hy]; exact h0
  split
  · intro s hs
    rcases List.mem_cons.mp hs with e | e
    · rw [e]; exact h1
    · exact h s e
  · cases S with
    | nil =>
      intro s hs
      rw [List.mem_singleton.mp hs]; exact h1
    | cons seg S' =>
      have hseg := h seg List.mem_cons_self
      have hS' : ∀ s ∈ S', ∀ y ∈ s, 0 ≤ y.sp := fun s hs => h s (List.mem_cons_of_mem _ hs)
      have app : ∀ {a b : List Ln}, (∀ y ∈ a, 0 ≤ y.sp) → (∀ y ∈ b, 0 ≤ y.sp) → ∀ y ∈ a ++ b, 0 ≤ y.sp := fun ha hb y hy => (List.mem_append.mp hy).elim (ha y) (hb y)
      dsimp only
      split
      · intro s hs
        rcases List.mem_cons.mp hs with e | e
        · rw [e]; exact app hseg h1
        · exact hS' s e
      · cases hc : (if l.br = true then cut seg else none) with
        | none =>
          intro s hs
          rcases List.mem_cons.mp hs with e | e
          · rw [e]; exact h1
          · exact h s e
        | some ab =>
          obtain ⟨a, b⟩ := ab
          have hc' : cut seg = some (a, b) := by
            split at hc
            · exact hc
            · cases hc
          obtain ⟨e0, _, _⟩ := cut_spec hc'
          have ha : ∀ y ∈ a, 0 ≤ y.sp := fun y hy => hseg y (by rw [e0]; exact List.mem_append_left _ hy)
          have hb : ∀ y ∈ b, 0 ≤ y.sp := fun y hy => hseg y (by rw [e0]; exact List.mem_append_right _ hy)
          dsimp only
          split
          · intro s hs
            rcases List.mem_cons.mp hs with e | e
            · rw [e]; exact app hb h1
            · rcases List.mem_cons.mp e with e | e
              · rw [e]; exact ha
              · exact hS' s e
          · intro s hs
            rcases List.mem_cons.mp hs with e | e
            · rw [e]; exact h1
            · rcases List.mem_cons.mp e with e | e
              · rw [e]; exact hb
              · rcases List.mem_cons.mp e with e | e
                · rw [e]; exact ha
                · exact hS' s e
structure Rel (L : Int) (t : LS) (q : SB) : Prop where
  rows : q.rows = rowsOf (runS L t.ls)
  nn : NN (runS L t.ls)
  due : t.du = true → q.h = 0 ∧ q.t = 0 ∧ q.kd = false ∧ q.lo = 0
  not : t.du = false → ∃ seg S', runS L t.ls = seg :: S' ∧ seg ≠ [] ∧
    ((q.h = lastRow seg + 1 ∧ q.kd = t.kp ∧ (t.kp = true → q.t = tailOf seg ∧ q.lo = looseOf seg) ∧ (t.kp = false → q.t = 0 ∧ q.lo = 0)) ∨
     (lastRow seg + 1 = L ∧ q.h = 0 ∧ q.t = 0 ∧ q.kd = false ∧ q.lo = 0 ∧ (t.kp = false ∨ cut seg = none)))
theorem rel0 (L : Int) : Rel L ⟨[], true, false⟩ ⟨false, 0, 0, 0, []⟩ := ⟨rfl, (fun _ h => by cases h), (fun _ => ⟨rfl, rfl, rfl, rfl⟩), (fun h => by cases h)⟩
theorem line_new {L : Int} {S : List (List Ln)} {p : PS'} {l : Ln} (hh : p.h = 0) (hr : p.rows = rowsOf S) : Ex ([l] :: S) (lineP L p l.sp false) := by
  unfold lineP nextLine
  have : ¬ (p.h > 0 ∧ p.h + l.sp + 1 ≤ L) := by omega
  simp only [this, if_false, true_or, if_true, Bool.false_eq_true]
  refine ⟨_, _, rfl, by simp, rfl, rfl, rfl, ?_⟩
  rw [hr, rowsOf_cons [l]]
  rfl
theorem line_sp (p : PS') (L s s' : Int) (h : p.h = 0) : lineP L p s false = lineP L p s' false := by
  unfold lineP nextLine
  have h1 : ¬ (p.h > 0 ∧ p.h + s + 1 ≤ L) := by omega
  have h2 : ¬ (p.h > 0 ∧ p.h + s' + 1 ≤ L) := by omega
  simp only [h1, h2, if_false, true_or, if_true]
theorem first_ok {L : Int} (hL : 0 < L) {t : LS} {q : SB} (R : Rel L t q) {s : Int} (h0 : 0 ≤ s) (g : Bool) :
    Ex (stepS L (runS L t.ls) ⟨s, t.kp, t.du || g⟩) (lineP L ⟨(due0 q g).h, (due0 q g).t, (due0 q g).lo, (due0 q g).rows⟩ s (due0 q g).kd) := by
  cases hd : (t.du || g) with
  | true =>
    have z : (due0 q g).h = 0 ∧ (due0 q g).kd = false ∧ (due0 q g).rows = q.rows := by
      unfold due0
      cases g with
      | true => exact ⟨rfl, rfl, rfl⟩
      | false =>
        have := R.due (by simpa using hd)
        exact ⟨this.1, this.2.2.1, rfl⟩
    unfold stepS
    simp only [if_true]
    rw [z.2.1]
    exact line_new (l := ⟨s, t.kp, true⟩) z.1 (z.2.2.trans R.rows)
  | false =>
    obtain ⟨hd1, hg⟩ : t.du = false ∧ g = false := by simpa using hd
    subst hg
    have z : due0 q false = q := rfl
    rw [z]
    obtain ⟨seg, S', hS, hne, hh⟩ := R.not hd1
    have nn := R.nn
    have rr := R.rows
    rw [hS] at nn rr ⊢
    rcases hh with ⟨h1, h2, h3, h4⟩ | ⟨h1, h2, h3, h4, h5, h6⟩
    · rw [h2]
      exact line_ok (l := ⟨s, t.kp, false⟩) (p := ⟨q.h, q.t, q.lo, q.rows⟩) hL nn hne h0 rfl h1 h3 rr
    · have e : stepS L (seg :: S') ⟨s, t.kp, false⟩ = [⟨s, t.kp, false⟩] :: seg :: S' := by
        unfold stepS
        have : ¬ (lastRow seg + s + 1 < L) := by omega
        simp only [Bool.false_eq_true, if_false, this]
        have : (if t.kp = true then cut seg else none) = none := by
          rcases h6 with h6 | h6
          · simp [h6]
          · simp [h6]
        rw [this]
      rw [e, h4]
      exact line_new (l := ⟨s, t.kp, false⟩) (p := ⟨q.h, q.t, q.lo, q.rows⟩) h2 rr
theorem lines_ok {L : Int} (hL : 0 < L) {t : LS} {q : SB} (R : Rel L t q) {s : Int} (h0 : 0 ≤ s) (g : Bool) (c : Nat) : ∀ n : Nat,
    NN (runS L (t.ls ++ blLines c s t.kp (t.du || g) (n + 1))) ∧ Ex (runS L (t.ls ++ blLines c s t.kp (t.du || g) (n + 1))) (runP L c s (due0 q g).kd ⟨(due0 q g).h, (due0 q g).t, (due0 q g).lo, (due0 q g).rows⟩ (n + 1))
  | 0 => by
    have e : blLines c s t.kp (t.du || g) 1 = [⟨s, t.kp, t.du || g⟩] := rfl
    show NN (runS L (t.ls ++ blLines c s t.kp (t.du || g) 1)) ∧ Ex (runS L (t.ls ++ blLines c s t.kp (t.du || g) 1)) _
    rw [e, runS_snoc]
    exact ⟨NN_step R.nn h0, first_ok hL R h0 g⟩
  | n + 1 => by
    obtain ⟨nn, ex⟩ := lines_ok hL R h0 g c n
    rw [blLines_succ, ← List.append_assoc, runS_snoc]
    have e : blLn c s t.kp (t.du || g) (n + 1) = ⟨0, decide (((n + 1 : Nat) : Int) = 1 ∨ ((n + 1 : Nat) : Int) = (c : Int) - 1), false⟩ := by
      unfold blLn
      rw [if_neg (by omega)]
    refine ⟨NN_step nn (by rw [e]; exact Int.le_refl _), ?_⟩
    obtain ⟨seg, S', hS, hne, h1, h2, h3, h4⟩ := ex
    rw [hS] at nn ⊢
    rw [e]
    show Ex _ (lineP L _ (if n + 1 = 0 then s else 0) (if n + 1 = 0 then _ else _))
    rw [if_neg (by omega), if_neg (by omega)]
    exact line_ok (l := ⟨0, decide (((n + 1 : Nat) : Int) = 1 ∨ ((n + 1 : Nat) : Int) = (c : Int) - 1), false⟩) hL nn hne (Int.le_refl _) rfl h1 (fun _ => ⟨h2, h3⟩) (by rw [h4, hS])
theorem tail0 {s : List Ln} (hn : ∀ l ∈ s, 0 ≤ l.sp) (h : tailOf s = 0) : cut s = none := by
  unfold tailOf at h
  cases hc : cut s with
  | none => rfl
  | some ab =>
    obtain ⟨a, b⟩ := ab
    rw [hc] at h
    obtain ⟨e, _, _⟩ := cut_spec hc
    have : 0 ≤ lastRow b := lastRow_nonneg fun y hy => hn y (by rw [e]; exact List.mem_append_right _ hy)
    dsimp only at h
    omega
theorem rel_step {L : Int} (hL : 0 < L) {t : LS} {q : SB} (R : Rel L t q) {b : Bl} (h0 : 0 ≤ b.s) : Rel L (stepB t b) (blockP L q b) := by
  unfold blockP stepB
  by_cases hc : b.c = 0
  · have e : blLines b.c b.s t.kp (t.du || b.g) b.c = [] := by rw [hc]; rfl
    rw [e]
    simp only [hc, if_true, List.append_nil]
    unfold due0
    cases hg : b.g with
    | true =>
      simp only [if_true, Bool.or_true]
      exact ⟨R.rows, R.nn, fun _ => ⟨rfl, rfl, rfl, rfl⟩, fun h => by cases h⟩
    | false =>
      simp only [Bool.false_eq_true, if_false, Bool.or_false]
      exact ⟨R.rows, R.nn, R.due, R.not⟩
  · simp only [hc, if_false]
    obtain ⟨n, hn⟩ : ∃ n, b.c = n + 1 := ⟨b.c - 1, by omega⟩
    have key := lines_ok hL R h0 b.g b.c n
    rw [← hn] at key
    obtain ⟨nn, ex⟩ := key
    revert ex
    generalize runP L b.c b.s (due0 q b.g).kd ⟨(due0 q b.g).h, (due0 q b.g).t, (due0 q b.g).lo, (due0 q b.g).rows⟩ b.c = p
    intro ex
    obtain ⟨seg, S', hS, hne, h1, h2, h3, h4⟩ := ex
    have hsn : ∀ l ∈ seg, 0 ≤ l.sp := fun l hl => nn seg (by rw [hS]; exact List.mem_cons_self) l hl
    unfold endP
    split
    · rename_i hh
      refine ⟨h4, nn, fun h => (by cases h), fun _ => ⟨seg, S', hS, hne, .inr ⟨by omega, rfl, rfl, rfl, rfl, ?_⟩⟩⟩
      rcases hh.2 with z | z
      · exact .inl z
      · exact .inr (tail0 hsn (h2 ▸ z))
    · split
      · rename_i hh hk
        refine ⟨h4, nn, fun h => (by cases h), fun _ => ⟨seg, S', hS, hne, .inl ⟨h1, hk.symm, fun _ => ⟨h2, ?_⟩, fun z => ?_⟩⟩⟩
        · show (if p.t = 0 then (0 : Int) else p.lo) = _
          split
          · rename_i hz
            unfold looseOf
            rw [tail0 hsn (h2 ▸ hz)]
          · exact h3
        · exact absurd (hk.symm.trans z) (by decide)
      · rename_i hh hk
        have hk' : b.k = false := by simpa using hk
        refine ⟨h4, nn, fun h => (by cases h), fun _ => ⟨seg, S', hS, hne, .inl ⟨h1, hk'.symm, fun z => ?_, fun _ => ⟨rfl, rfl⟩⟩⟩⟩
        exact absurd z hk
def pageOf (L : Int) (bs : List Bl) : SB := bs.foldl (blockP L) ⟨false, 0, 0, 0, []⟩
theorem pageOf_snoc (L : Int) (bs : List Bl) (b : Bl) : pageOf L (bs ++ [b]) = blockP L (pageOf L bs) b := by
  unfold pageOf
  rw [List.foldl_append]
  rfl
theorem pageOf_rel {L : Int} (hL : 0 < L) (bs : List Bl) (h : ∀ b ∈ bs, 0 ≤ b.s) : Rel L (linesOf bs) (pageOf L bs) := by
  unfold linesOf pageOf
  have key : ∀ (bs : List Bl) (t : LS) (q : SB), (∀ b ∈ bs, 0 ≤ b.s) → Rel L t q → Rel L (bs.foldl stepB t) (bs.foldl (blockP L) q) := by
    intro bs
    induction bs with
    | nil => intro t q _ R; exact R
    | cons b bs ih => intro t q h R; exact ih _ _ (fun b' hb => h b' (List.mem_cons_of_mem _ hb)) (rel_step hL R (h b List.mem_cons_self))
  exact key bs _ _ h (rel0 L)
/-- both ways tell the same rows -/
theorem rows_same {L : Int} (hL : 0 < L) (bs : List Bl) (h : ∀ b ∈ bs, 0 ≤ b.s) : (pageOf L bs).rows = rowsOf (runS L (linesOf bs).ls) := (pageOf_rel hL bs h).rows
/-! ### each page is broken for a reason -/
def ln (ls : List Ln) (i : Nat) : Ln := (ls[i]?).getD ⟨0, false, false⟩
def allBr (ls : List Ln) (lo hi : Nat) : Bool := (List.range' lo (hi - lo)).all fun k => (ln ls k).br
def rsGo (L : Int) (ls : List Ln) (start stop : Nat) : Nat → Nat → Int → Bool
  | 0, _, _ => false
  | n + 1, i, row =>
    let r := row + (ln ls i).sp + 1
    if stop < i ∧ (ln ls i).du = true then false
    else if L ≤ r ∧ stop < i then (!(ln ls stop).br && allBr ls (stop + 1) (i + 1))
    else if L ≤ r then (decide (i = stop) && (!(ln ls i).br || allBr ls (start + 1) (i + 1)))
    else rsGo L ls start stop n (i + 1) r
def reasonB (L : Int) (ls : List Ln) (start stop : Nat) : Bool := if (ln ls stop).du = true then true else rsGo L ls start stop (ls.length - (start + 1)) (start + 1) 0
theorem ln_at (p : List Ln) (x : Ln) (q : List Ln) : ln (p ++ x :: q) p.length = x := by
  unfold ln
  simp
theorem allBr_of {ls p a q : List Ln} (e : ls = p ++ a ++ q) (h : ∀ y ∈ a, y.br = true) : allBr ls p.length (p.length + a.length) = true := by
  unfold allBr
  rw [List.all_eq_true]
  intro k hk
  rw [List.mem_range'_1] at hk
  have h1 : k - p.length < a.length := by omega
  have : ls[k]? = some a[k - p.length] := by
    rw [e, List.append_assoc, List.getElem?_append_right (by omega), List.getElem?_append_left h1, List.getElem?_eq_getElem h1]
  unfold ln
  rw [this]
  exact h _ (List.getElem_mem h1)
theorem rs_run {L : Int} {ls : List Ln} {start stop : Nat} : ∀ (xs p q : List Ln) (n : Nat) (row : Int), ls = p ++ xs ++ q → (∀ y ∈ xs, 0 ≤ y.sp) → row + adv xs < L → (p.length + xs.length ≤ stop + 1 ∨ ∀ y ∈ xs, y.du = false) →
    rsGo L ls start stop (xs.length + n) p.length row = rsGo L ls start stop n (p.length + xs.length) (row + adv xs)
  | [], p, q, n, row, _, _, _, _ => by simp [adv]
  | x :: xs, p, q, n, row, e, h0, hf, hd => by
    have e1 : ls = p ++ x :: (xs ++ q) := by rw [e]; simp
    have hx : ln ls p.length = x := by rw [e1]; exact ln_at _ _ _
    have hn := adv_nonneg (a := xs) fun y hy => h0 y (List.mem_cons_of_mem _ hy)
    rw [adv] at hf
    have e2 : (x :: xs).length + n = (xs.length + n) + 1 := by rw [List.length_cons]; omega
    rw [e2, rsGo]
    simp only [hx]
    have c1 : ¬ (stop < p.length ∧ x.du = true) := by
      rintro ⟨a, b⟩
      rcases hd with hd | hd
      · rw [List.length_cons] at hd; omega
      · rw [hd x List.mem_cons_self] at b; cases b
    have c2 : ¬ (L ≤ row + x.sp + 1 ∧ stop < p.length) := by omega
    have c3 : ¬ (L ≤ row + x.sp + 1) := by omega
    rw [if_neg c1, if_neg c2, if_neg c3]
    have ih := rs_run (L := L) (ls := ls) (start := start) (stop := stop) xs (p ++ [x]) q n (row + x.sp + 1) (by rw [e]; simp) (fun y hy => h0 y (List.mem_cons_of_mem _ hy)) (by omega) (by
      rcases hd with hd | hd
      · exact .inl (by simp at hd ⊢; omega)
      · exact .inr fun y hy => hd y (List.mem_cons_of_mem _ hy))
    rw [List.length_append, List.length_singleton] at ih
    rw [ih, adv, List.length_cons]
    congr 1 <;> omega
def OkSeg (L : Int) (s : List Ln) : Prop := s ≠ [] ∧ lastRow s < L ∧ ∀ y ∈ s.tail, y.du = false
def J (L : Int) (s rest : List Ln) : Prop := match rest with
  | [] => False
  | h :: t => h.du = true ∨ (L ≤ lastRow s + h.sp + 1 ∧ (h.br = false ∨ ∀ y ∈ s.tail, y.br = true)) ∨
    (h.br = false ∧ ∃ m f u, t = m ++ f :: u ∧ (∀ y ∈ m, y.br = true ∧ y.du = false) ∧ f.br = true ∧ f.du = false ∧ lastRow s + h.sp + 1 + adv m < L ∧ L ≤ lastRow s + h.sp + 1 + adv m + f.sp + 1)
theorem J_snoc {L : Int} {s rest : List Ln} (l : Ln) (h : J L s rest) : J L s (rest ++ [l]) := by
  cases rest with
  | nil => exact h.elim
  | cons x t =>
    rcases h with h | h | ⟨h1, m, f, u, h2, h3⟩
    · exact .inl h
    · exact .inr (.inl h)
    · exact .inr (.inr ⟨h1, m, f, u ++ [l], by rw [h2]; simp, h3⟩)
theorem reason_J {L : Int} {ls pre s rest : List Ln} (e : ls = pre ++ s ++ rest) (hs : OkSeg L s) (h0 : ∀ y ∈ ls, 0 ≤ y.sp) (hj : J L s rest) : reasonB L ls pre.length (pre.length + s.length) = true := by
  obtain ⟨hne, hlt, hdu⟩ := hs
  cases s with
  | nil => exact absurd rfl hne
  | cons x s =>
  cases rest with
  | nil => exact hj.elim
  | cons h t =>
  have hst : ln ls (pre.length + (x :: s).length) = h := by
    rw [e, ← List.length_append]; exact ln_at _ _ _
  unfold reasonB
  rw [hst]
  by_cases hd : h.du = true
  · rw [if_pos hd]
  rw [if_neg hd]
  have hs0 : ∀ y ∈ s, 0 ≤ y.sp := fun y hy => h0 y (by rw [e]; simp [hy])
  have hl : ls.length - (pre.length + 1) = s.length + (1 + t.length) := by rw [e]; simp; omega
  have e1 : ls = (pre ++ [x]) ++ s ++ (h :: t) := by rw [e]; simp
  have lp : pre.length + 1 = (pre ++ [x]).length := by simp
  have hlt' : adv s < L := hlt
  rw [hl, lp, rs_run s (pre ++ [x]) (h :: t) (1 + t.length) 0 e1 hs0 (by omega) (.inl (by simp; omega))]
  have e3 : (pre ++ [x]).length + s.length = pre.length + (x :: s).length := by simp; omega
  rw [e3, Nat.add_comm 1 t.length, rsGo]
  simp only [hst]
  rcases hj with hj | ⟨hj1, hj2⟩ | ⟨hj1, m, f, u, hj2, hj3, hj4, hj5, hj6, hj7⟩
  · exact absurd hj hd
  · have hj1 : L ≤ adv s + h.sp + 1 := hj1
    have hlt2 : ¬ (pre.length + (x :: s).length < pre.length + (x :: s).length) := Nat.lt_irrefl _
    have c3 : L ≤ 0 + adv s + h.sp + 1 := by omega
    rw [if_neg (fun q => hlt2 q.1), if_neg (fun q => hlt2 q.2), if_pos c3]
    simp only [decide_true, Bool.true_and, Bool.or_eq_true, Bool.not_eq_true']
    rcases hj2 with hj2 | hj2
    · exact .inl hj2
    · cases hb : h.br with
      | false => exact .inl rfl
      | true =>
        refine .inr ?_
        have e4 : ls = (pre ++ [x]) ++ (s ++ [h]) ++ t := by rw [e]; simp
        have := allBr_of e4 (fun y hy => by
          rcases List.mem_append.mp hy with z | z
          · exact hj2 y z
          · rw [List.mem_singleton.mp z]; exact hb)
        have e5 : (pre ++ [x]).length + (s ++ [h]).length = pre.length + (x :: s).length + 1 := by simp; omega
        rw [e5] at this
        rw [lp]
        exact this
  · have hj6 : adv s + h.sp + 1 + adv m < L := hj6
    have hj7 : L ≤ adv s + h.sp + 1 + adv m + f.sp + 1 := hj7
    have hm0 : ∀ y ∈ m, 0 ≤ y.sp := fun y hy => h0 y (by rw [e, hj2]; simp [hy])
    have hmn := adv_nonneg hm0
    have hlt2 : ¬ (pre.length + (x :: s).length < pre.length + (x :: s).length) := Nat.lt_irrefl _
    have c3 : ¬ (L ≤ 0 + adv s + h.sp + 1) := by omega
    rw [if_neg (fun q => hlt2 q.1), if_neg (fun q => hlt2 q.2), if_neg c3]
    have e6 : ls = (pre ++ x :: s ++ [h]) ++ m ++ (f :: u) := by rw [e, hj2]; simp
    have e7 : pre.length + (x :: s).length + 1 = (pre ++ x :: s ++ [h]).length := by simp; omega
    have e8 : t.length = m.length + (u.length + 1) := by rw [hj2]; simp
    rw [e7, e8, rs_run m _ (f :: u) (u.length + 1) _ e6 hm0 (by omega) (.inr fun y hy => (hj3 y hy).2)]
    have hf : ln ls ((pre ++ x :: s ++ [h]).length + m.length) = f := by
      rw [← List.length_append, e6]; exact ln_at _ _ _
    rw [rsGo]
    simp only [hf]
    have c4 : ¬ (pre.length + (x :: s).length < (pre ++ x :: s ++ [h]).length + m.length ∧ f.du = true) := fun q => by rw [hj5] at q; exact Bool.noConfusion q.2
    have c5 : L ≤ 0 + adv s + h.sp + 1 + adv m + f.sp + 1 ∧ pre.length + (x :: s).length < (pre ++ x :: s ++ [h]).length + m.length := ⟨by omega, by simp; omega⟩
    rw [if_neg c4, if_pos c5, hst, hj1]
    simp only [Bool.not_false, Bool.true_and]
    have e9 : ls = (pre ++ x :: s ++ [h]) ++ (m ++ [f]) ++ u := by rw [e6]; simp
    have := allBr_of e9 (fun y hy => by
      rcases List.mem_append.mp hy with z | z
      · exact (hj3 y z).1
      · rw [List.mem_singleton.mp z]; exact hj4)
    rw [List.length_append (as := m), List.length_singleton] at this
    rw [e7]
    exact this
def Just (L : Int) : List (List Ln) → List Ln → Prop
  | [], _ => True
  | s :: S, rest => OkSeg L s ∧ J L s rest ∧ Just L S (s ++ rest)
theorem Just_snoc {L : Int} {l : Ln} : ∀ {S : List (List Ln)} {rest : List Ln}, Just L S rest → Just L S (rest ++ [l])
  | [], _, _ => trivial
  | s :: S, rest, ⟨h1, h2, h3⟩ => ⟨h1, J_snoc l h2, by rw [← List.append_assoc]; exact Just_snoc h3⟩
def VS (L : Int) (S : List (List Ln)) : Prop := match S with
  | [] => True
  | s :: S' => OkSeg L s ∧ Just L S' s
theorem ok_one {L : Int} (hL : 0 < L) (l : Ln) : OkSeg L [l] := ⟨by simp, hL, fun y hy => by cases hy⟩
theorem VS_step {L : Int} (hL : 0 < L) {S : List (List Ln)} {l : Ln} (hn : NN S) (h0 : 0 ≤ l.sp) (hv : VS L S) (hd : S = [] → l.du = true) : VS L (stepS L S l) := by
  unfold stepS
  split
  · rename_i hdu
    cases S with
    | nil => exact ⟨ok_one hL l, trivial⟩
    | cons s S' => exact ⟨ok_one hL l, hv.1, .inl hdu, Just_snoc hv.2⟩
  · rename_i hdu
    have hdu' : l.du = false := by simpa using hdu
    cases S with
    | nil => exact absurd (hd rfl) hdu
    | cons s S' =>
      obtain ⟨⟨v1, v2, v3⟩, v4⟩ := hv
      dsimp only
      have hnn := hn s List.mem_cons_self
      split
      · rename_i hf
        refine ⟨⟨by simp, by rw [lastRow_snoc v1]; exact hf, fun y hy => ?_⟩, Just_snoc v4⟩
        cases s with
        | nil => exact absurd rfl v1
        | cons x s =>
          rcases List.mem_append.mp hy with z | z
          · exact v3 y z
          · rw [List.mem_singleton.mp z]; exact hdu'
      · rename_i hf
        cases hc : (if l.br = true then cut s else none) with
        | none =>
          refine ⟨ok_one hL l, ⟨v1, v2, v3⟩, .inr (.inl ⟨by omega, ?_⟩), Just_snoc v4⟩
          cases hb : l.br with
          | false => exact .inl rfl
          | true =>
            rw [hb, if_pos rfl] at hc
            exact .inr (cut_none hc)
        | some ab =>
          obtain ⟨a, b⟩ := ab
          have hb : l.br = true ∧ cut s = some (a, b) := by
            split at hc
            · rename_i z; exact ⟨z, hc⟩
            · cases hc
          obtain ⟨hb, hc'⟩ := hb
          obtain ⟨e, ha, x, b', eb, hx, hall⟩ := cut_spec hc'
          have hbn : b ≠ [] := by rw [eb]; simp
          have hsub : ∀ y ∈ b, y ∈ s.tail := fun y hy => by
            rw [e]
            cases a with
            | nil => exact absurd rfl ha
            | cons z a => exact List.mem_append_right _ hy
          have hlr : lastRow s = lastRow a + x.sp + 1 + lastRow b := by rw [e, eb]; exact lastRow_append ha x b'
          have hx0 : 0 ≤ x.sp := hnn x (by rw [e, eb]; simp)
          have hb0 : 0 ≤ lastRow b := lastRow_nonneg fun y hy => hnn y (by rw [e]; exact List.mem_append_right _ hy)
          have ha0 : 0 ≤ lastRow a := lastRow_nonneg fun y hy => hnn y (by rw [e]; exact List.mem_append_left _ hy)
          have oka : OkSeg L a := ⟨ha, by omega, fun y hy => v3 y (by
            rw [e]
            cases a with
            | nil => exact absurd rfl ha
            | cons z a => exact List.mem_append_left _ hy)⟩
          have okb : OkSeg L b := ⟨hbn, by omega, fun y hy => v3 y (hsub y (List.mem_of_mem_tail hy))⟩
          have ja : J L a (b ++ [l]) := by
            rw [eb]
            refine .inr (.inr ⟨hx, b', l, [], rfl, fun y hy => ⟨hall y hy, v3 y (hsub y (by rw [eb]; exact List.mem_cons_of_mem _ hy))⟩, hb, hdu', ?_, ?_⟩)
            · have : lastRow b = adv b' := by rw [eb]; rfl
              omega
            · have : lastRow b = adv b' := by rw [eb]; rfl
              omega
          have js : Just L S' (a ++ (b ++ [l])) := by
            rw [← List.append_assoc, ← e]; exact Just_snoc v4
          dsimp only
          split
          · rename_i hf2
            refine ⟨⟨by simp, by rw [lastRow_snoc hbn]; exact hf2, fun y hy => ?_⟩, oka, ja, js⟩
            rw [eb] at hy
            rcases List.mem_append.mp hy with z | z
            · exact okb.2.2 y (by rw [eb]; exact z)
            · rw [List.mem_singleton.mp z]; exact hdu'
          · rename_i hf2
            refine ⟨ok_one hL l, okb, .inr (.inl ⟨by omega, .inr ?_⟩), oka, ja, js⟩
            rw [eb]; exact hall
theorem step_flat (L : Int) (S : List (List Ln)) (l : Ln) : (stepS L S l).reverse.flatten = S.reverse.flatten ++ [l] := by
  unfold stepS
  split
  · simp
  · cases S with
    | nil => simp
    | cons s S' =>
      dsimp only
      split
      · simp
      · cases hc : (if l.br = true then cut s else none) with
        | none => simp
        | some ab =>
          obtain ⟨a, b⟩ := ab
          have hc' : cut s = some (a, b) := by
            split at hc
            · exact hc
            · cases hc
          obtain ⟨e, _, _⟩ := cut_spec hc'
          dsimp only
          split <;> simp [e]
theorem run_ok {L : Int} (hL : 0 < L) : ∀ (ls : List Ln), (∀ l ∈ ls, 0 ≤ l.sp) → (∀ l, ls.head? = some l → l.du = true) → NN (runS L ls) ∧ VS L (runS L ls) ∧ (runS L ls).reverse.flatten = ls := by
  intro ls
  rw [← List.reverse_reverse ls]
  generalize ls.reverse = r
  induction r with
  | nil => intro _ _; exact ⟨(fun _ h => by cases h), trivial, rfl⟩
  | cons l r ih =>
    intro h1 h2
    rw [List.reverse_cons] at h1 h2 ⊢
    obtain ⟨i1, i2, i3⟩ := ih (fun y hy => h1 y (List.mem_append_left _ hy)) (fun y hy => h2 y (by
      rw [List.head?_append, hy]; rfl))
    rw [runS_snoc]
    have h0 : 0 ≤ l.sp := h1 l (by simp)
    refine ⟨NN_step i1 h0, VS_step hL i1 h0 i2 (fun e => ?_), by rw [step_flat, i3]⟩
    rw [e] at i3
    have : r.reverse = [] := i3.symm
    exact h2 l (by rw [this]; rfl)
/-! the rows that are told -/
def startB (R : List Int) : Nat → Nat
  | 0 => 0
  | k + 1 => if (R[k]?).getD 1 = 0 then k else startB R k
structure OkAt (L : Int) (ls : List Ln) (R : List Int) (i : Nat) : Prop where
  lt : (R[i]?).getD 0 < L
  first : (R[i]?).getD 0 = 0 → i = 0 ∨ reasonB L ls (startB R i) i = true
  other : (R[i]?).getD 0 ≠ 0 → i ≠ 0 ∧ (ln ls i).du = false ∧ (R[i]?).getD 0 = (R[i - 1]?).getD 0 + (ln ls i).sp + 1
def FJ (L : Int) : List (List Ln) → Prop
  | [] => True
  | s :: T => OkSeg L s ∧ (T ≠ [] → J L s T.flatten) ∧ FJ L T
theorem FJ_of {L : Int} : ∀ (S T : List (List Ln)), Just L S T.flatten → FJ L T → T ≠ [] → FJ L (S.reverse ++ T)
  | [], T, _, h, _ => h
  | s :: S, T, ⟨h1, h2, h3⟩, h, hne => by
    rw [List.reverse_cons, List.append_assoc]
    exact FJ_of S (s :: T) h3 ⟨h1, fun _ => h2, h⟩ (by simp)
theorem FJ_VS {L : Int} {S : List (List Ln)} (h : VS L S) : FJ L S.reverse := by
  cases S with
  | nil => trivial
  | cons s S' =>
    rw [List.reverse_cons]
    exact FJ_of S' [s] (by simpa using h.2) ⟨h.1, fun q => absurd rfl q, trivial⟩ (by simp)
def rw1 (s : List Ln) : List Int := (pgOf s).map (·.1)
theorem rw1_len (s : List Ln) : (rw1 s).length = s.length := by unfold rw1; rw [List.length_map, pgOf_len]
theorem rw1_at {s a b : List Ln} {x : Ln} (e : s = a ++ x :: b) (h0 : ∀ y ∈ s, 0 ≤ y.sp) : (a = [] → (rw1 s)[0]? = some 0) ∧ (a ≠ [] → (rw1 s)[a.length]? = some (lastRow a + x.sp + 1) ∧ (rw1 s)[a.length - 1]? = some (lastRow a) ∧ 0 < lastRow a + x.sp + 1 ∧ lastRow a + x.sp + 1 ≤ lastRow s) := by
  subst e
  refine ⟨fun h => by subst h; rfl, fun h => ?_⟩
  have e1 : rw1 (a ++ x :: b) = rw1 a ++ (rw1 (x :: b)).map (· + (lastRow a + x.sp + 1)) := by
    unfold rw1
    rw [pgOf_parted h]
    simp [List.map_map, Function.comp_def]
  have hl : 0 < a.length := List.length_pos_iff.mpr h
  refine ⟨?_, ?_, ?_, ?_⟩
  · rw [e1, List.getElem?_append_right (by rw [rw1_len]; exact Nat.le_refl _), rw1_len, Nat.sub_self]
    show some (0 + (lastRow a + x.sp + 1)) = _
    rw [Int.zero_add]
  · rw [e1, List.getElem?_append_left (by rw [rw1_len]; omega)]
    obtain ⟨b', hb'⟩ := pgOf_last h
    rw [List.getLast?_eq_getElem?, pgOf_len] at hb'
    unfold rw1
    rw [List.getElem?_map, hb']
    rfl
  · have := lastRow_nonneg (s := a) fun y hy => h0 y (List.mem_append_left _ hy)
    have := h0 x (by simp)
    omega
  · rw [lastRow_append h]
    have := lastRow_nonneg (s := x :: b) fun y hy => h0 y (List.mem_append_right _ hy)
    omega
theorem startB_seg {R A B : List Int} {s : List Ln} (e : R = A ++ rw1 s ++ B) (h0 : ∀ y ∈ s, 0 ≤ y.sp) : ∀ j, 1 ≤ j → j ≤ s.length → startB R (A.length + j) = A.length
  | 0, h, _ => by omega
  | j + 1, _, hj => by
    show (if (R[A.length + j]?).getD 1 = 0 then A.length + j else startB R (A.length + j)) = A.length
    have hR : R[A.length + j]? = (rw1 s)[j]? := by
      rw [e, List.append_assoc, List.getElem?_append_right (by omega), List.getElem?_append_left (by rw [rw1_len]; omega)]
      congr 1
      omega
    rw [hR]
    by_cases hj0 : j = 0
    · subst hj0
      cases s with
      | nil => simp at hj
      | cons x s => simp [rw1, pgOf]
    · have hlt : j < s.length := by omega
      have e2 : s = s.take j ++ s[j] :: s.drop (j + 1) := by
        rw [List.getElem_cons_drop, List.take_append_drop]
      have hl : (s.take j).length = j := by rw [List.length_take]; omega
      obtain ⟨q1, q2, q3, q4⟩ := (rw1_at e2 h0).2 (fun q => by rw [q] at hl; simp at hl; omega)
      rw [hl] at q1
      rw [q1, if_neg (by simp; omega)]
      exact startB_seg e h0 j (by omega) (by omega)
theorem right_go {L : Int} {ls : List Ln} {R : List Int} (h0 : ∀ y ∈ ls, 0 ≤ y.sp) : ∀ (T : List (List Ln)) (pre : List Ln) (A : List Int), A.length = pre.length → ls = pre ++ T.flatten → R = A ++ (T.map rw1).flatten → FJ L T →
    (T ≠ [] → pre = [] ∨ reasonB L ls (startB R pre.length) pre.length = true) → ∀ i, pre.length ≤ i → i < ls.length → OkAt L ls R i
  | [], pre, A, _, el, _, _, _, i, h1, h2 => by
    rw [el] at h2
    simp at h2
    omega
  | s :: T, pre, A, hA, el, eR, ⟨hs, hj, hT⟩, hp, i, h1, h2 => by
    have el2 : ls = pre ++ s ++ T.flatten := by rw [el]; simp
    have eR2 : R = A ++ rw1 s ++ (T.map rw1).flatten := by rw [eR]; simp
    have hs0 : ∀ y ∈ s, 0 ≤ y.sp := fun y hy => h0 y (by rw [el2]; simp [hy])
    by_cases hi : i < pre.length + s.length
    · obtain ⟨j, rfl⟩ : ∃ j, i = pre.length + j := ⟨i - pre.length, by omega⟩
      have hj' : j < s.length := by omega
      have e2 : s = s.take j ++ s[j] :: s.drop (j + 1) := by
        rw [List.getElem_cons_drop, List.take_append_drop]
      have hl : (s.take j).length = j := by rw [List.length_take]; omega
      have hRj : ∀ k, k < s.length → R[pre.length + k]? = (rw1 s)[k]? := fun k hk => by
        rw [eR2, ← hA, List.append_assoc, List.getElem?_append_right (by omega), List.getElem?_append_left (by rw [rw1_len]; omega)]
        congr 1
        omega
      have hln : ln ls (pre.length + j) = s[j] := by
        unfold ln
        rw [el2, List.append_assoc, List.getElem?_append_right (by omega), List.getElem?_append_left (by omega)]
        have : pre.length + j - pre.length = j := by omega
        rw [this, List.getElem?_eq_getElem hj']
        rfl
      obtain ⟨q0, q1⟩ := rw1_at e2 hs0
      by_cases hj0 : j = 0
      · subst hj0
        have hr : R[pre.length + 0]? = some 0 := (hRj 0 hj').trans (q0 (by simpa using hl))
        have hL0 : (0 : Int) < L := by
          have := lastRow_nonneg hs0
          have := hs.2.1
          omega
        refine ⟨by rw [hr]; exact hL0, fun _ => ?_, fun q => absurd (by rw [hr]; rfl) q⟩
        rcases hp (by simp) with z | z
        · left; rw [z]; rfl
        · right; exact z
      · obtain ⟨q1, q2, q3, q4⟩ := q1 (fun q => by rw [q] at hl; simp at hl; omega)
        rw [hl] at q1 q2
        have hr : R[pre.length + j]? = some (lastRow (s.take j) + s[j].sp + 1) := (hRj j hj').trans q1
        have hr' : R[pre.length + j - 1]? = some (lastRow (s.take j)) := by
          have : pre.length + j - 1 = pre.length + (j - 1) := by omega
          rw [this]
          exact (hRj (j - 1) (by omega)).trans q2
        refine ⟨?_, fun q => ?_, fun _ => ⟨by omega, ?_, ?_⟩⟩
        · rw [hr]
          have := hs.2.1
          simp only [Option.getD_some]
          omega
        · rw [hr] at q
          simp only [Option.getD_some] at q
          omega
        · rw [hln]
          refine hs.2.2 _ ?_
          have : s.tail[j - 1]? = s[j]? := by
            rw [List.getElem?_tail]
            congr 1
            omega
          rw [List.getElem?_eq_getElem hj'] at this
          exact List.mem_of_getElem? this
        · rw [hr, hr', hln]
          rfl
    · refine right_go h0 T (pre ++ s) (A ++ rw1 s) (by rw [List.length_append, List.length_append, hA, rw1_len]) (by rw [el2]) (by rw [eR2]) hT (fun hne => .inr ?_) i (by rw [List.length_append]; omega) h2
      rw [List.length_append]
      have hsl : 1 ≤ s.length := List.length_pos_iff.mpr hs.1
      have := startB_seg eR2 hs0 s.length hsl (Nat.le_refl _)
      rw [hA] at this
      rw [this]
      exact reason_J el2 hs h0 (hj hne)
/-- the first line begins a page, no space is below 0 -/
structure GoodLs (ls : List Ln) : Prop where
  nn : ∀ l ∈ ls, 0 ≤ l.sp
  first : ∀ l, ls.head? = some l → l.du = true
theorem right_ok {L : Int} (hL : 0 < L) {ls : List Ln} (g : GoodLs ls) : (rowsOf (runS L ls)).length = ls.length ∧ ∀ i, i < ls.length → OkAt L ls (rowsOf (runS L ls)) i := by
  obtain ⟨h1, h2, h3⟩ := run_ok hL ls g.nn g.first
  have eR : rowsOf (runS L ls) = ((runS L ls).reverse.map rw1).flatten := by
    unfold rowsOf rw1
    rw [List.map_flatten, List.map_map]
    rfl
  refine ⟨?_, fun i hi => ?_⟩
  · rw [eR]
    conv => rhs; rw [← h3]
    rw [List.length_flatten, List.length_flatten, List.map_map]
    congr 1
    apply List.map_congr_left
    intro s _
    exact rw1_len s
  · exact right_go g.nn (runS L ls).reverse [] [] rfl h3.symm eR (FJ_VS h2) (fun _ => .inl rfl) i (Nat.zero_le _) hi
theorem good_lines (bs : List Bl) (h : ∀ b ∈ bs, 0 ≤ b.s) : GoodLs (linesOf bs).ls ∧ ((linesOf bs).ls = [] → (linesOf bs).du = true) := by
  rw [← List.reverse_reverse bs] at h ⊢
  generalize bs.reverse = r at h
  induction r with
  | nil => exact ⟨⟨(fun _ h => by cases h), (fun _ h => by cases h)⟩, fun _ => rfl⟩
  | cons b r ih =>
    rw [List.reverse_cons] at h ⊢
    obtain ⟨⟨i1, i2⟩, i3⟩ := ih fun y hy => h y (List.mem_append_left _ hy)
    rw [linesOf_snoc]
    have h0 : 0 ≤ b.s := h b (by simp)
    generalize linesOf r.reverse = t at i1 i2 i3
    refine ⟨⟨fun l hl => ?_, fun l hl => ?_⟩, fun e => ?_⟩
    · rcases List.mem_append.mp hl with z | z
      · exact i1 l z
      · unfold blLines at z
        obtain ⟨i, _, hi⟩ := List.mem_map.mp z
        rw [← hi]
        unfold blLn
        split
        · exact h0
        · exact Int.le_refl _
    · have hl : (t.ls ++ blLines b.c b.s t.kp (t.du || b.g) b.c).head? = some l := hl
      rw [List.head?_append] at hl
      cases ht : t.ls with
      | cons x xs =>
        rw [ht] at hl
        exact i2 l (by rw [ht]; exact hl)
      | nil =>
        rw [ht] at hl
        have hl : (blLines b.c b.s t.kp (t.du || b.g) b.c).head? = some l := hl
        unfold blLines at hl
        cases hc : b.c with
        | zero => rw [hc] at hl; cases hl
        | succ n =>
          rw [hc, List.range_succ_eq_map] at hl
          simp only [List.map_cons, List.head?_cons, Option.some.injEq] at hl
          rw [← hl, i3 ht]
          rfl
    · have e : t.ls ++ blLines b.c b.s t.kp (t.du || b.g) b.c = [] := e
      obtain ⟨e1, e2⟩ := List.append_eq_nil_iff.mp e
      have hc : b.c = 0 := by
        unfold blLines at e2
        simpa using e2
      show (if b.c = 0 then (t.du || b.g) else false) = true
      rw [if_pos hc, i3 e1]
      rfl
end Pa
set_option maxRecDepth 100000
set_option maxHeartbeats 4000000
namespace Pa
open PySem PySem.Spec PyProof.Rows L2
/-! ### calls of defs, by one fact each -/
/-- the module's name x holds a def that keeps the promise sp -/
structure CallOk (P : Program) (w : World) (K : PySem.W.Frag) (mg : Str → Option Value) (base : Heap) (k : Nat) (x : Str) (ps : List Str) (sp : Sp) : Prop where
  ok : ∃ (f : Addr) (fd : FuncData), mg x = some (.ref f) ∧ PySem.W.keepIn K (.ref f) = true ∧ Binds K fd ps [] ∧ FnOk P w K mg base CX0 k f fd ps sp
theorem CallOk.imp {P : Program} {w : World} {K : PySem.W.Frag} {mg : Str → Option Value} {base : Heap} {k : Nat} {x : Str} {ps : List Str} {sp sp' : Sp} (C : CallOk P w K mg base k x ps sp) (h : ∀ vs H Q E, sp' vs H Q E → sp vs H Q E) : CallOk P w K mg base k x ps sp' := by
  obtain ⟨f, fd, h1, h2, h3, h4⟩ := C.ok
  exact ⟨f, fd, h1, h2, h3, h4.imp h⟩
theorem call_ok {P : Program} {w : World} {K : PySem.W.Frag} {mg : Str → Option Value} {base : Heap} {k : Nat} {x : Str} {ps : List Str} {sp : Sp} {f : Addr} {fd : FuncData} (m : mg x = some (.ref f)) (kp : PySem.W.keepIn K (.ref f) = true) (b : Binds K fd ps []) (F : FnOk P w K mg base CX0 k f fd ps sp) :
    CallOk P w K mg base k x ps sp := ⟨f, fd, m, kp, b, F⟩
section
variable {X : Cx} {k : Nat} {ps : List Str} {sp : Sp} {x : Str} {p pos : Pos} {e : Expr} {es : List Expr} {t : TA}
theorem pe_cc (C : CallOk X.prog X.w X.K X.mg X.base k x ps sp) (hr : Room k X.A) (hg : Gl X x) (ha : PA X (e :: es) t) (hdb : (x == ("__debug__" : Str)) = false := by decide)
    (he : starEach (e :: es) X.env = (false, eval e X.env) :: starEach es X.env := by rfl) (hpl : (backTo pos (starEach es X.env)).any (·.1) = false := by rfl) : PE X (.Call (.Name x p) (e :: es) [] pos) (tCall sp [] E0 t) := by
  obtain ⟨f, fd, h1, h2, h3, h4⟩ := C.ok
  exact pe_call h4 hr hg h1 h2 h3 .nil pass0 ha hdb he hpl
theorem pe_cc0 (C : CallOk X.prog X.w X.K X.mg X.base k x ps sp) (hr : Room k X.A) (hg : Gl X x) (hdb : (x == ("__debug__" : Str)) = false := by decide) : PE X (.Call (.Name x p) [] [] pos) (tCall sp [] E0 tNil) := by
  obtain ⟨f, fd, h1, h2, h3, h4⟩ := C.ok
  exact pe_call0 h4 hr hg h1 h2 h3 .nil pass0 hdb
end
def topS (i : Nat) : Stmt := PySem.Challenge.pw_pressalike_k28_plain_pages.main.body.getD i (.Pass ⟨0, 0, 0, 0⟩)
abbrev sBag : Stmt := topS 15
abbrev sDraw : Stmt := topS 16
theorem scBag : FnScope ["_law_script", "_law_at", "_law_great", "_law_mixed", "_law_place", "_law_cell"] ["_law_script", "_law_at"] (defScope sBag) := ⟨rfl, rfl, rfl, by decide +kernel, rfl, by decide +kernel, by decide +kernel⟩
theorem scDraw : FnScope ["_law_bag_here", "_law_many", "_law_digit"] ["_law_bag_here", "_law_many"] (defScope sDraw) := ⟨rfl, rfl, rfl, by decide +kernel, rfl, by decide +kernel, by decide +kernel⟩
theorem atI_ints {ns : List Int} {i : Int} (h0 : 0 ≤ i) (h : i < (ns.length : Int)) : ∃ z : Int, atI (ns.map V.int) i = some (.int z) := by
  obtain ⟨n, rfl⟩ : ∃ n : Nat, i = (n : Int) := ⟨i.toNat, by omega⟩
  have hn : n < ns.length := by omega
  exact ⟨ns[n], atI_nat (j := n) (by rw [List.getElem?_map, List.getElem?_eq_getElem hn]; rfl)⟩
theorem join1 {α : Type} {G : α → Prop} {T : Prop} (h : (∀ y, G y) → T) (g : ∀ y, G y) : T := h g
/-- a source of draws stands at b -/
def IsBag (H : Hp) (b : Addr) : Prop := ∃ g x c : Int, H b = some (.lst [.int g, .int x, .int c])
/-- at most the source at b has changed -/
structure Bk (b : Addr) (H H' : Hp) : Prop where
  bag : IsBag H' b
  keep : ∀ q o, q ≠ b → H q = some o → H' q = some o
theorem Bk.trans {b : Addr} {H H1 H2 : Hp} (x : Bk b H H1) (y : Bk b H1 H2) : Bk b H H2 := ⟨y.bag, fun q o hq e => y.keep q o hq (x.keep q o hq e)⟩
theorem Bk.seqL {K : PySem.W.Frag} {b p : Addr} {H H' : Hp} {xs : List V} (x : Bk b H H') (h : SqL K H p xs) (hp : p ≠ b) : SqL K H' p xs := by
  rcases h with (h | ⟨o, h⟩) | h
  · exact .inl (.inl (x.keep _ _ hp h))
  · exact .inl (.inr ⟨o, x.keep _ _ hp h⟩)
  · exact .inr h
theorem Bk.seqT {K : PySem.W.Frag} {b p : Addr} {H H' : Hp} {xs : List V} (x : Bk b H H') (h : SqT K H p xs) (hp : p ≠ b) : SqT K H' p xs := by
  rcases h with (h | ⟨o, h⟩) | h
  · exact .inl (.inl (x.keep _ _ hp h))
  · exact .inl (.inr ⟨o, x.keep _ _ hp h⟩)
  · exact .inr h
/-- a new object beside it -/
theorem Bk.fresh {b p : Addr} {H H' : Hp} {o : HO} (x : Bk b H H') (h : H' p = none) : Bk b H (upd H' p o) := by
  obtain ⟨⟨g, y, c, e⟩, kp⟩ := x
  exact ⟨⟨g, y, c, by rw [upd_ne (ne_of_none e h)]; exact e⟩, fun q u hq eq => by rw [upd_ne (ne_of_none (kp q u hq eq) h)]; exact kp q u hq eq⟩
theorem Bk.free {b p : Addr} {H H' : Hp} (x : Bk b H H') (hb : IsBag H b) (h : H' p = none) : H p = none := by
  cases e : H p with
  | none => rfl
  | some o =>
    by_cases q : p = b
    · obtain ⟨g, y, c, e2⟩ := x.bag
      rw [q, e2] at h
      cases h
    · rw [x.keep p o q e] at h
      cases h
def spDraw : Sp := fun vs H Q _ => ∃ (b : Addr) (m : Int), vs = [.ref b, .int m] ∧ IsBag H b ∧ 1 ≤ m ∧ m < 2 ^ 200 ∧
  ∀ (d : Int) (H' : Hp), 0 ≤ d → d < m → Bk b H H' → Q (.int d) H'
section
variable {P : Program} {w : World} {K : PySem.W.Frag} {mg : Str → Option Value} {base : Heap}
theorem ok_draw {f : Addr} {fd : FuncData} (F : Fun K "_law_draw" "_law_draw" sDraw f fd) (mi : mg "int" = none) : FnOk P w K mg base CX0 1 f fd ["_law_bag_here", "_law_many"] spDraw := by
  refine F.ok scDraw (fun vs H Q E h => ?_) (fun cdv A outer s H vs Q E hr h => ?_)
  · obtain ⟨b, m, rfl, _⟩ := h
    rfl
  · obtain ⟨b, m, rfl, ⟨g, x, c, hb⟩, h1, h2, k⟩ := h
    have nd := scDraw.nd
    refine ⟨_, pss_cons (ps_if (pt_cmpR op_gt (pe_ix ix_list (pv 0) pe_int (fun _ _ => rfl)) pe_int (nomark _))
        (pss_cons (ps_set (i := 2) nd rfl (.inl rfl) (pe_op op_mod (pe_callTy call_int1 (by rfl) mi (by decide +kernel) (pa_cons (pe_ix ix_list (pv 0) pe_int (fun _ _ => rfl)) pa_nil)) (pv 1)))
        (pss_cons (ps_asg (pe_op op_fdivW (pe_ix ix_list (pv 0) pe_int (fun _ _ => rfl)) (pv 1)) (pg_sub (pv 0) pe_int set_list))
        (pss_one (ps_ret (pv 2))))) pss_nil)
      (pss_cons (ps_asg (pe_op op_add (pe_ix ix_list (pv 0) pe_int (fun _ _ => rfl)) pe_int) (pg_sub (pv 0) pe_int set_list))
      (pss_cons (ps_asg (pe_op op_mod (pe_callTy call_int1 (by rfl) mi (by decide +kernel) (pa_cons (pe_op op_add (pe_op op_add (pe_op op_mul (pe_ix ix_list (pv 0) pe_int (fun _ _ => rfl)) pe_int) (pe_op op_mul pe_int (pe_ix ix_list (pv 0) pe_int (fun _ _ => rfl)))) pe_int) pa_nil)) pe_int) (pg_sub (pv 0) pe_int set_list))
      (pss_one (ps_ret (pe_op op_mod (pe_op op_fdiv (pe_callTy call_int1 (by rfl) mi (by decide +kernel) (pa_cons (pe_op op_mod (pe_callTy call_int1 (by rfl) mi (by decide +kernel) (pa_cons (pe_op op_add (pe_op op_mul (pe_ix ix_list (pv 0) pe_int (fun _ _ => rfl)) pe_int) (pe_op op_mul pe_int (pe_ix ix_list (pv 0) pe_int (fun _ _ => rfl)))) pa_nil)) pe_int) pa_nil)) pe_int) (pv 1)))))), ?_⟩
    have i0 : ∀ {z0 z1 z2 : V}, atI [z0, z1, z2] 0 = some z0 := fun {z0 z1 z2} => atI_nat (j := 0) rfl
    have i1 : ∀ {z0 z1 z2 : V}, atI [z0, z1, z2] 1 = some z1 := fun {z0 z1 z2} => atI_nat (j := 1) rfl
    have i2 : ∀ {z0 z1 z2 : V}, atI [z0, z1, z2] 2 = some z2 := fun {z0 z1 z2} => atI_nat (j := 2) rfl
    -- if bag[0] > 0
    refine ⟨_, rfl, b, _, _, _, rfl, rfl, SqL.of hb, i0, _, _, rfl, rfl, _, rfl, ite2 (fun hg => ?_) (fun hg => ?_)⟩
    · -- digit = int(bag[0]) % many; bag[0] = bag[0] // many; return digit
      refine ⟨_, rfl, b, _, _, _, rfl, rfl, SqL.of hb, i0, .inl ⟨_, rfl, _, rfl, _, _, rfl, rfl, (by show (0 : Int) < m; omega), ?_⟩⟩
      refine ⟨_, rfl, b, _, _, _, rfl, rfl, SqL.of hb, i0, _, rfl, _, _, rfl, rfl, wide_div (b := 200) (by omega) (by omega) (by decide) (by decide), ?_⟩
      refine ⟨_, rfl, b, _, _, 0, rfl, rfl, hb, rfl, ?_⟩
      refine ⟨_, rfl, k _ _ (Int.emod_nonneg _ (by omega)) (Int.emod_lt_of_pos _ (by omega)) ⟨⟨_, _, _, upd_same⟩, fun q o hq e => by rw [upd_ne hq]; exact e⟩⟩
    · refine ⟨_, rfl, b, _, _, _, rfl, rfl, SqL.of hb, i2, _, _, rfl, rfl, ?_⟩
      refine ⟨_, rfl, b, _, _, 2, rfl, rfl, hb, rfl, ?_⟩
      have hb2 : (upd H b (.lst [.int g, .int x, .int (c + 1)])) b = some (.lst [.int g, .int x, .int (c + 1)]) := upd_same
      refine ⟨_, rfl, b, _, _, _, rfl, rfl, SqL.of hb2, i1, _, _, rfl, rfl, .inr (by decide), _, rfl, b, _, _, _, rfl, rfl, SqL.of hb2, i2, _, _, rfl, rfl, .inl (by decide), ?_⟩
      refine ⟨_, _, rfl, rfl, _, _, rfl, rfl, .inl ⟨_, rfl, _, _, rfl, rfl, (by show (0 : Int) < 2147483647; decide), ?_⟩⟩
      refine ⟨_, rfl, b, _, _, 1, rfl, rfl, hb2, rfl, ?_⟩
      have hb3 : ∀ z : Int, (upd (upd H b (.lst [.int g, .int x, .int (c + 1)])) b (.lst [.int g, .int z, .int (c + 1)])) b = some (.lst [.int g, .int z, .int (c + 1)]) := fun z => upd_same
      refine ⟨_, rfl, b, _, _, _, rfl, rfl, SqL.of (hb3 _), i1, _, _, rfl, rfl, .inr (by decide), _, rfl, b, _, _, _, rfl, rfl, SqL.of (hb3 _), i2, _, _, rfl, rfl, .inl (by decide), ?_⟩
      refine ⟨_, _, rfl, rfl, .inl ⟨_, rfl, _, _, rfl, rfl, (by show (0 : Int) < 2147483629; decide), .inl ⟨_, rfl, _, _, rfl, rfl, ⟨by decide, by decide⟩, _, rfl, _, _, rfl, rfl, (by show (0 : Int) < m; omega), ?_⟩⟩⟩
      refine k _ _ (Int.emod_nonneg _ (by omega)) (Int.emod_lt_of_pos _ (by omega)) ⟨⟨_, _, _, hb3 _⟩, fun q o hq e => by rw [upd_ne hq, upd_ne hq]; exact e⟩
/-- a new source of draws -/
def spBag (K : PySem.W.Frag) : Sp := fun vs H Q _ => ∃ (a : Addr) (i : Int) (ns : List Int), vs = [.ref a, .int i] ∧ SqL K H a (ns.map V.int) ∧ 0 ≤ i ∧ i ≤ 1000 ∧
  ∀ (b : Addr) (H' : Hp), H b = none → IsBag H' b → (∀ q o, q ≠ b → H q = some o → H' q = some o) → Q (.ref b) H'
theorem ok_bag {f : Addr} {fd : FuncData} (F : Fun K "_law_bag" "_law_bag" sBag f fd) (mi : mg "int" = none) (ma : mg "abs" = none) (ml : mg "len" = none) (me : mg "enumerate" = none) : FnOk P w K mg base CX0 1 f fd ["_law_script", "_law_at"] (spBag K) := by
  refine F.ok scBag (fun vs H Q E h => ?_) (fun cdv A outer s H vs Q E hr h => ?_)
  · obtain ⟨a, i, ns, rfl, _⟩ := h
    rfl
  · obtain ⟨a, ix, ns, rfl, hS, h0, h1, k⟩ := h
    have nd := scBag.nd
    refine ⟨_, pss_cons (ps_set (i := 2) nd rfl (.inl rfl) (pe_ifExp (pt_cmpR op_lt (pv 1) (pe_callB call_len_seq (by rfl) ml PySem.boot_len (pa_cons (pv 0) pa_nil)) (nomark _))
          (pe_callB call_abs (by rfl) ma (by decide +kernel) (pa_cons (pe_callTy call_int1 (by rfl) mi (by decide +kernel) (pa_cons (pe_ix ix_list (pv 0) (pv 1) (fun _ _ => rfl)) pa_nil)) pa_nil)) pe_int))
      (pss_cons (ps_set (i := 3) nd rfl (.inl rfl) (pe_op op_add pe_int (pe_op op_mul pe_int (pv 1))))
      (pss_cons (ps_for PassesOwn.never rfl (pi_enum (by rfl) me (pa_cons (pe_slice sl_list (pv 0) po_none (po_some pe_int)) pa_nil)) (pg_tup rfl (pgs_cons (pg_name (i := 4) nd rfl (.inl rfl)) (pgs_cons (pg_name (i := 5) nd rfl (.inl rfl)) pgs_nil)))
        (pss_one (ps_set (i := 3) nd rfl (.inl rfl) (pe_op op_mod (pe_callTy call_int1 (by rfl) mi (by decide +kernel) (pa_cons (pe_op op_add (pe_op op_add (pe_op op_mul (pv 3) pe_int)
            (pe_op op_mod (pe_callTy call_int1 (by rfl) mi (by decide +kernel) (pa_cons (pv 5) pa_nil)) pe_int)) (pe_op op_mul pe_int (pv 4))) pa_nil)) pe_int))))
      (pss_one (ps_ret (pe_lst (pa_cons (pe_ifExp (pt_cmpR op_ge (pv 2) (pe_op op_pow pe_int pe_int) (nomark _)) (pv 2) pe_int) (pa_cons (pv 3) (pa_cons pe_int pa_nil)))))))), ?_⟩
    refine join1 (α := Int) (G := ?G) (fun bag_rest => ?br) (fun y => ?fin)
    case br =>
      refine ⟨_, rfl, _, rfl, a, _, rfl, .inl hS, _, _, rfl, rfl, _, rfl, ite2 (fun hc => ?_) (fun hc => ?_)⟩
      · have hc' : ix < ((ns.map V.int).length : Int) := of_decide_eq_true hc
        rw [List.length_map] at hc'
        obtain ⟨z, hz⟩ := atI_ints h0 hc'
        refine ⟨_, rfl, _, rfl, a, _, _, _, rfl, rfl, hS, hz, .inl ⟨_, rfl, _, rfl, ?_⟩⟩
        generalize (if z < 0 then -z else z) = y
        exact bag_rest y
      · exact bag_rest 0
    case fin =>
      -- mixed = 1009 + 77 * at
      refine ⟨_, rfl, _, _, rfl, rfl, .inl (by decide), _, _, rfl, rfl, ?_⟩
      -- enumerate(script[:63])
      refine ⟨_, rfl, _, rfl, a, _, rfl, hS, fun c nc => ?_⟩
      have sc : Same H (upd H c (.lst (cutV (ns.map V.int) none (some 63)))) := fun q o e => by rw [upd_ne (ne_of_none e nc)]; exact e
      have hints : ∀ x ∈ cutV (ns.map V.int) none (some 63), ∃ z : Int, x = .int z := fun x hx => by
        have hm := List.mem_of_mem_drop (List.mem_of_mem_take hx)
        obtain ⟨z, _, e⟩ := List.mem_map.mp hm
        exact ⟨z, e.symm⟩
      revert sc hints
      generalize cutV (ns.map V.int) none (some 63) = cs
      intro sc hints
      refine ⟨c, cs, rfl, SqL.of upd_same, for_it (walk_enum (xs := cs)) (fun i σ H2 => ∃ (m : Int) (y4 y5 : Option V), σ = [some (.ref a), some (.int ix), some (.int y), some (.int m), y4, y5] ∧ Same H H2 ∧ SqL K H2 c cs) ⟨_, none, none, rfl, sc, SqL.of upd_same⟩ ?_ ?_ ?_⟩
      · rintro i σ H2 _ ⟨m, y4, y5, rfl, s2, hc2⟩
        exact hc2
      · rintro i x σ H2 H3 hi ⟨m, y4, y5, rfl, s2, hc2⟩ ⟨T, x1, x2, rfl, nT, rfl, e1, e2⟩
        obtain ⟨z, rfl⟩ := hints _ (List.mem_of_getElem? e2)
        cases e1
        have s3 : Same H2 (upd H2 T (.tup [.int (i : Nat), .int z])) := fun q o e => by rw [upd_ne (ne_of_none e nT)]; exact e
        refine ⟨T, _, rfl, SqT.of upd_same, rfl, _, _, rfl, _, _, rfl, rfl, ?_⟩
        refine ⟨_, rfl, _, _, rfl, rfl, .inr (by decide), _, rfl, .inl ⟨_, rfl, _, _, rfl, rfl, (by show (0 : Int) < 2147483629; decide), ?_⟩⟩
        refine ⟨_, _, rfl, rfl, _, rfl, _, _, rfl, rfl, .inl (by decide), _, _, rfl, rfl, .inl ⟨_, rfl, _, _, rfl, rfl, (by show (0 : Int) < 2147483647; decide), ?_⟩⟩
        exact ⟨_, _, _, rfl, s2.trans s3, s3.seq hc2⟩
      · rintro σ H2 ⟨m, y4, y5, rfl, s2, hc2⟩
        -- return [.., mixed, 0]
        refine ⟨_, rfl, _, _, rfl, rfl, ⟨by decide, by decide, by decide⟩, _, _, rfl, rfl, _, rfl, ite2 (fun hc => ⟨_, rfl, ?_⟩) (fun hc => ?_)⟩
        all_goals
          refine ⟨_, rfl, (by show 3 ≤ sizeLine; decide), fun b nb => ?_⟩
          have nbH : H b = none := s2.free nb
          exact k b _ nbH ⟨_, _, _, upd_same⟩ fun q o hq e => by rw [upd_ne hq]; exact s2 _ _ e
end
end Pa
set_option maxRecDepth 100000
set_option maxHeartbeats 4000000
namespace Pa
open PySem PySem.Spec PyProof.Rows L2 HT
/-! ### a list's end: xs[a:] = ys, del xs[a:] -/
theorem bounds_end {a n : Nat} (ha : a ≤ n) : sliceBounds (some (a : Int)) none none n = ((a : Int), (n : Int), 1) := by
  simp only [sliceBounds, Option.getD_none]
  have h1 : ¬ ((a : Int) < 0) := by omega
  simp only [h1, if_false, show (1 : Int) > 0 by decide, if_true]
  congr 1
  omega
section
variable {prog : Program} {w : World} {A : Around} {E : Value → Shared → Prop} {s : Shared}
theorem endPut {l b sl : Addr} {items new : Array Value} {n n2 : Nat} {vl vu : Value} {a : Nat} {Q : Unit → Shared → Prop}
    (el : s.heap.get? l = some { cls := .type "list", data := .seq items n }) (eb : s.heap.get? b = some { cls := .type "list", data := .seq new n2 }) (nlb : l ≠ b)
    (hsl : s.heap.IsSliceOf sl vl vu .none) (p1 : IsPart vl (some (a : Int))) (p2 : IsPart vu none) (ha : a ≤ items.size)
    (hz : items.size + new.size ≤ sizeLine) (h : Q () { s with heap := s.heap.update l (Obj.mapSeq fun xs => xs.extract 0 a ++ new ++ xs.extract items.size xs.size) }) :
    wpAny (model prog w) A (setItem (.ref l) (.ref sl) (.ref b)) Q E s := by
  have isl : s.heap.IsList l items := PySem.IsL.isList el
  have isb : s.heap.IsList b new := PySem.IsL.isList eb
  obtain ⟨o1, ho1, hc1, hd1⟩ := id hsl
  have tsl : s.TypeIs (.ref sl) "slice" := ⟨o1, ho1, hc1⟩
  have st0 : ¬ ((rawPart none == rawInt 0) = true) := Bool.false_ne_true
  have nsame : Builtin.List.listSameRef (.ref l) (.ref b) = false := by
    unfold Builtin.List.listSameRef
    exact beq_eq_false_iff_ne.mpr nlb
  have mx : (max (a : Int) (items.size : Int)).toNat = items.size := by omega
  have hz2 : ((fun xs : Array Value => xs.extract 0 a ++ new ++ xs.extract items.size xs.size) items).size ≤ sizeLine + 1 := by
    simp only [Array.size_append, Array.size_extract]
    omega
  unfold setItem
  try with_reducible refine wpAny_holding ?_
  first | refine wpAny_bind (wpAny_pure ?_) | skip
  refine wpAny_bind (wpAny_sequenceKey isl.typeIs (by decide) ?_)
  refine wpAny_bind (wpAny_callSpecial?_slot (name := Str.ofString "__setitem__") isl.typeIs slot_list_setitem
    (wpAny_call_entry slot_list_setitem isl.typeIs entry_list_setitem ?_ (args_list_setitem _ _ _)))
  show wpAny _ _ (Builtin.List.listSubscript? (.ref sl) >>= _) _ _ s
  refine wpAny_bind ?_
  unfold Builtin.List.listSubscript?
  refine wpAny_bind (wpAny_specialOf tsl slice_no_index ?_)
  simp only [Option.isNone_none, if_true]
  refine wpAny_pure ?_
  show wpAny _ _ (typeOf (.ref sl) >>= _) _ _ s
  refine wpAny_bind (wpAny_typeOf tsl ?_)
  first
    | rw [if_neg (by decide)]
    | refine PySem.W.KFB.if_not (by decide) ?_
  rw [listSliceParts_eq]
  refine wpAny_bind (wpAny_bind (wpAny_field ho1 hd1 (x := .none) rfl (wpAny_bind (wpAny_listPart .none ?_))))
  rw [if_neg st0]
  refine wpAny_bind (wpAny_field ho1 hd1 (x := vl) rfl (wpAny_bind (wpAny_listPart p1 ?_)))
  refine wpAny_bind (wpAny_field ho1 hd1 (x := vu) rfl (wpAny_bind (wpAny_listPart p2 (wpAny_pure ?_))))
  first
    | simp only [nsame, Bool.false_eq_true, if_false]
    | refine PySem.W.KFB.if_not nsame ?_
    | (dsimp only
       rw [if_neg (by rw [nsame]; exact Bool.false_ne_true)])
  refine wpAny_bind (m := Builtin.List.listAllItems (.ref b) "must assign iterable to extended slice") ?_
  unfold Builtin.List.listAllItems
  refine wpAny_bind (wpAny_typeOf isb.typeIs ?_)
  first
    | refine PySem.W.KFB.if_so (by decide) ?_
    | rw [if_pos (by decide)]
    | simp only [beq_self_eq_true, Bool.true_or, if_true]
  unfold Builtin.List.listItems
  refine wpAny_bind (wpAny_seqItems eb rfl (wpAny_pure ?_))
  refine wpAny_bind (wpAny_bind (wpAny_seqItems el rfl (wpAny_pure ?_)))
  refine wpAny_bind (wpAny_of_eq ((sliceIndices_raw (some (a : Int)) none none items.size (by simp)).trans (congrArg (pure : Int × Int × Int → Sem (Int × Int × Int)) (bounds_end ha))) ?_)
  show wpAny _ _ (if ((1 : Int) == 1) = true then _ else _) _ _ s
  rw [if_pos (by decide)]
  refine wpAny_bind (wpAny_rule ?_)
  first
    | simp only [notLongL hz, Bool.false_eq_true, if_false]
    | refine PySem.W.KFB.if_not (notLongL hz) ?_
  first | refine wpAny_bind (wpAny_pure ?_) | skip
  show wpAny _ _ (updateSeq l (fun xs => xs.extract 0 ((a : Int)).toNat ++ new ++ xs.extract (max (a : Int) (items.size : Int)).toNat xs.size) >>= _) _ _ s
  rw [mx, Int.toNat_natCast]
  refine wpAny_bind (wpAny_updateSeq (hz := Nat.le_trans (Nat.le_add_right _ _) hz) (_hz' := hz2) el rfl ?_)
  refine wpAny_bind (wpAny_letGo ?_)
  first
    | exact wpAny_bind (wpAny_pure (wpAny_pure ⟨.none, rfl, wpAny_pure h⟩))
    | exact wpAny_pure ⟨.none, rfl, wpAny_pure h⟩
theorem kept_front (p : Nat → Bool) (a : Nat) : ∀ (xs : List Value) (i : Nat), (∀ k, i ≤ k → k < i + xs.length → p k = decide (a ≤ k)) →
    (xs.zipIdx i).filterMap (fun x => if p x.2 = true then none else some x.1) = xs.take (a - i)
  | [], i, _ => by simp
  | x :: xs, i, h => by
    rw [List.zipIdx_cons, List.filterMap_cons]
    have hp := h i (Nat.le_refl _) (by simp)
    have ih := kept_front p a xs (i + 1) fun k h1 h2 => h k (by omega) (by rw [List.length_cons]; omega)
    by_cases hk : a ≤ i
    · have : a - i = 0 := by omega
      rw [decide_eq_true hk] at hp
      simp only [hp, if_true, ih, this, List.take_zero]
      have : a - (i + 1) = 0 := by omega
      rw [this, List.take_zero]
    · have e : a - i = (a - (i + 1)) + 1 := by omega
      rw [decide_eq_false hk] at hp
      simp only [hp, Bool.false_eq_true, if_false, ih]
      rw [e, List.take_succ_cons]
theorem endDel {l sl : Addr} {items : Array Value} {n : Nat} {vl vu : Value} {a : Nat} {Q : Unit → Shared → Prop}
    (el : s.heap.get? l = some { cls := .type "list", data := .seq items n })
    (hsl : s.heap.IsSliceOf sl vl vu .none) (p1 : IsPart vl (some (a : Int))) (p2 : IsPart vu none) (ha : a ≤ items.size) (hz : items.size ≤ sizeLine)
    (h : ∀ f : Array Value → Array Value, f items = (items.toList.take a).toArray → Q () { s with heap := s.heap.update l (Obj.mapSeq f) }) :
    wpAny (model prog w) A (delItem (.ref l) (.ref sl)) Q E s := by
  have isl : s.heap.IsList l items := PySem.IsL.isList el
  obtain ⟨o1, ho1, hc1, hd1⟩ := id hsl
  have tsl : s.TypeIs (.ref sl) "slice" := ⟨o1, ho1, hc1⟩
  have st0 : ¬ ((rawPart none == rawInt 0) = true) := Bool.false_ne_true
  refine wpAny_delItem_slot isl.typeIs (by decide) PySem.F.slot_list_delitem (wpAny_call_entry PySem.F.slot_list_delitem isl.typeIs PySem.F.entry_list_delitem ?_ (PySem.F.args_list_delitem_2 _ _))
  show wpAny _ _ (Builtin.List.listSubscript? (.ref sl) >>= _) _ _ s
  refine wpAny_bind ?_
  unfold Builtin.List.listSubscript?
  refine wpAny_bind (wpAny_specialOf tsl slice_no_index ?_)
  simp only [Option.isNone_none, if_true]
  refine wpAny_pure ?_
  show wpAny _ _ (typeOf (.ref sl) >>= _) _ _ s
  refine wpAny_bind (wpAny_typeOf tsl ?_)
  first
    | rw [if_neg (by decide)]
    | refine PySem.W.KFB.if_not (by decide) ?_
  rw [listSliceParts_eq]
  refine wpAny_bind (wpAny_bind (wpAny_field ho1 hd1 (x := .none) rfl (wpAny_bind (wpAny_listPart .none ?_))))
  rw [if_neg st0]
  refine wpAny_bind (wpAny_field ho1 hd1 (x := vl) rfl (wpAny_bind (wpAny_listPart p1 ?_)))
  refine wpAny_bind (wpAny_field ho1 hd1 (x := vu) rfl (wpAny_bind (wpAny_listPart p2 (wpAny_pure ?_))))
  refine wpAny_bind (m := Builtin.List.listItems (.ref l)) ?_
  unfold Builtin.List.listItems
  refine wpAny_bind (wpAny_seqItems el rfl (wpAny_pure ?_))
  refine wpAny_bind (wpAny_of_eq ((sliceIndices_raw (some (a : Int)) none none items.size (by simp)).trans (congrArg (pure : Int × Int × Int → Sem (Int × Int × Int)) (bounds_end ha))) ?_)
  refine wpAny_bind (wpAny_rule ?_)
  refine wpAny_bind ?_
  refine wpAny_updateSeq el rfl ?_ hz ?_
  · refine wpAny_bind (wpAny_letGo ?_)
    refine wpAny_pure ⟨.none, rfl, h _ ?_⟩
    refine congrArg List.toArray ((kept_front _ a items.toList 0 fun k _ hk => ?_).trans (by rw [Nat.sub_zero]))
    have hk : k < items.size := by simpa using hk
    show ((decide ((a : Int) ≤ (k : Int)) && decide ((k : Int) < (items.size : Int))) && (((k : Int) - (a : Int)) % 1 == 0)) = decide (a ≤ k)
    have h1 : decide ((k : Int) < (items.size : Int)) = true := decide_eq_true (by omega)
    have h2 : (((k : Int) - (a : Int)) % 1 == 0) = true := by simp
    rw [h1, h2, Bool.and_true, Bool.and_true]
    by_cases h3 : a ≤ k
    · rw [decide_eq_true h3, decide_eq_true (by omega)]
    · rw [decide_eq_false h3, decide_eq_false (by omega)]
  · refine Nat.le_succ_of_le (Nat.le_trans ?_ hz)
    rw [List.size_toArray]
    refine Nat.le_trans (List.length_filterMap_le _ _) ?_
    simp
end
section
variable {X : Cx} {o lo : Expr} {to tl : TE} {p2 pos : Pos}
/-- xs[a:] = ys of another list, both tracked -/
def gEnd (to tl : TE) : TG := fun v σ H Q => to σ H fun x H1 => tl σ H1 fun y H2 => ∃ (l b : Addr) (xs ys : List V) (a : Nat), x = .ref l ∧ y = .int (a : Int) ∧ v = .ref b ∧ H2 l = some (.lst xs) ∧ H2 b = some (.lst ys) ∧ l ≠ b ∧ a ≤ xs.length ∧
  xs.length + ys.length ≤ sizeLine ∧ Q σ (upd H2 l (.lst (xs.take a ++ ys)))
theorem pg_end (ho : PE X o to) (hl : PE X lo tl)
    (ha : ∀ v, assign (.Subscript o (.Slice (some lo) none none p2) pos) X.env v = (do
      let ov ← holding [v] (eval o X.env)
      let iv ← holding [v, ov] (eval (.Slice (some lo) none none p2) X.env)
      standAt pos
      holding [v, ov, iv] (setItem ov iv v)
      release [iv, v, ov] []) := by intro _; rfl) : PG X (.Subscript o (.Slice (some lo) none none p2) pos) (gEnd to tl) := by
  refine ⟨fun pins s σ H v u Q I r h => ?_⟩
  rw [ha]
  refine wpAny_bind (wpAny_holding (thn (ho.run pins s σ H _ I h) fun ov s1 ⟨x, H1, I1, r1, q1⟩ => ?_))
  refine wpAny_bind (wpAny_holding ?_)
  refine wpAny_Slice ?_
  rw [evalPart_some]
  refine thn (hl.run pins s1 σ H1 _ I1 q1) fun vl s2 ⟨y, H2, I2, r2, q2⟩ => ?_
  obtain ⟨l, b, xs, ys, a, rfl, rfl, rfl, hl2, hb2, nlb, hax, hsz, q3⟩ := q2
  obtain ⟨tk, rfl⟩ := r2
  cases (show ov = Value.ref l from r1)
  cases (show u = Value.ref b from r)
  rw [evalPart_none]
  refine wpAny_pure (wpAny_pure ?_)
  have I4 : Inv X pins σ H2 { s2 with heap := s2.heap.push { cls := .type "slice", data := .fields #[.int a tk, .none, .none] } } := I2.kept (t' := s2.toks) fun b ob q => Heap.get?_push_of_some _ q
  obtain ⟨z, its, n, rv, hl3, e3⟩ := I4.lstM hl2
  obtain ⟨z2, its2, n2, rv2, hl4, e4⟩ := I4.lstM hb2
  refine wpAny_bind (wpAny_standAt (wpAny_bind (wpAny_holding (endPut (a := a) e3 e4 nlb (Heap.IsSliceOf.new ..) (.int _ _) .none (by rw [List.size_toArray]; omega) (by rw [List.size_toArray, List.size_toArray]; omega) ?_))))
  refine wpAny_release ⟨σ, _, I4.lset (its' := its.take a ++ its2) (t' := s2.toks) hl2 e3 ?_ (Vals.append (rv.take _) rv2) ?_, q3⟩
  · show its.toArray.extract 0 a ++ its2.toArray ++ its.toArray.extract its.toArray.size its.toArray.size = (its.take a ++ its2).toArray
    apply Array.toList_inj.mp
    simp
  · rw [List.length_append, List.length_take]
    omega
def tDelE (to tl : TE) : TS := fun D σ H => to σ H fun x H1 => tl σ H1 fun y H2 => ∃ (l : Addr) (xs : List V) (a : Nat), x = .ref l ∧ y = .int (a : Int) ∧ H2 l = some (.lst xs) ∧ a ≤ xs.length ∧ D.nx σ (upd H2 l (.lst (xs.take a)))
/-- del xs[a:] -/
theorem ps_delE {tpos : Pos} (ho : PE X o to) (hl : PE X lo tl) : PS X (.Delete [.Subscript o (.Slice (some lo) none none p2) tpos] pos) (tDelE to tl) := by
  refine ⟨fun pins s σ H D I h => ?_⟩
  refine wpAny_Delete (wpAny_deleteEach_cons (wpAny_delete_Subscript (thn (ho.run pins s σ H _ I h) fun ov s1 ⟨x, H1, I1, r1, q1⟩ => ?_)))
  refine wpAny_Slice ?_
  rw [evalPart_some]
  refine thn (hl.run pins s1 σ H1 _ I1 q1) fun vl s2 ⟨y, H2, I2, r2, q2⟩ => ?_
  obtain ⟨l, xs, a, rfl, rfl, hl2, hax, q3⟩ := q2
  obtain ⟨tk, rfl⟩ := r2
  cases (show ov = Value.ref l from r1)
  rw [evalPart_none]
  refine wpAny_pure (wpAny_pure ?_)
  have I4 : Inv X pins σ H2 { s2 with heap := s2.heap.push { cls := .type "slice", data := .fields #[.int a tk, .none, .none] } } := I2.kept (t' := s2.toks) fun b ob q => Heap.get?_push_of_some _ q
  obtain ⟨z, its, n, rv, hl3, e3⟩ := I4.lstM hl2
  refine endDel (a := a) e3 (Heap.IsSliceOf.new ..) (.int _ _) .none (by rw [List.size_toArray]; omega) (by rw [List.size_toArray]; omega) fun f hf => ?_
  refine wpAny_deleteEach_nil ⟨σ, _, I4.lset (its' := its.take a) (t' := s2.toks) hl2 e3 hf (rv.take _) ?_, q3⟩
  rw [List.length_take]
  omega
end
end Pa
set_option maxRecDepth 100000
set_option maxHeartbeats 4000000
namespace Pa
open PySem PySem.Spec PyProof.Rows L2
/-! ### things in the heap -/
def AllAt {α : Type} (R : Hp → V → α → Prop) (H : Hp) : List V → List α → Prop
  | [], [] => True
  | x :: xs, y :: ys => R H x y ∧ AllAt R H xs ys
  | _, _ => False
section
variable {α : Type} {R : Hp → V → α → Prop} {H H' : Hp}
theorem AllAt.len : ∀ {xs : List V} {ys : List α}, AllAt R H xs ys → xs.length = ys.length
  | [], [], _ => rfl
  | _ :: _, _ :: _, h => congrArg (· + 1) (AllAt.len h.2)
  | [], _ :: _, h => h.elim
  | _ :: _, [], h => h.elim
theorem AllAt.mono : ∀ {xs : List V} {ys : List α}, (∀ x y, R H x y → R H' x y) → AllAt R H xs ys → AllAt R H' xs ys
  | [], [], _, _ => trivial
  | _ :: _, _ :: _, f, h => ⟨f _ _ h.1, AllAt.mono f h.2⟩
  | [], _ :: _, _, h => h.elim
  | _ :: _, [], _, h => h.elim
theorem AllAt.app : ∀ {xs xs' : List V} {ys ys' : List α}, AllAt R H xs ys → AllAt R H xs' ys' → AllAt R H (xs ++ xs') (ys ++ ys')
  | [], _, [], _, _, h => h
  | _ :: _, _, _ :: _, _, h, h' => ⟨h.1, AllAt.app h.2 h'⟩
  | [], _, _ :: _, _, h, _ => h.elim
  | _ :: _, _, [], _, h, _ => h.elim
theorem AllAt.snoc {xs : List V} {ys : List α} {x : V} {y : α} (h : AllAt R H xs ys) (r : R H x y) : AllAt R H (xs ++ [x]) (ys ++ [y]) := h.app ⟨r, trivial⟩
theorem AllAt.at : ∀ {xs : List V} {ys : List α} {i : Nat} {x : V}, AllAt R H xs ys → xs[i]? = some x → ∃ y, ys[i]? = some y ∧ R H x y
  | x :: xs, y :: ys, 0, _, h, e => by cases e; exact ⟨y, rfl, h.1⟩
  | x :: xs, y :: ys, i + 1, _, h, e => AllAt.at (xs := xs) (ys := ys) (i := i) h.2 (by simpa using e)
  | [], _, _, _, _, e => by simp at e
  | _ :: _, [], _, _, h, _ => h.elim
theorem AllAt.to : ∀ {xs : List V} {ys : List α} {i : Nat} {y : α}, AllAt R H xs ys → ys[i]? = some y → ∃ x, xs[i]? = some x ∧ R H x y
  | x :: xs, y :: ys, 0, _, h, e => by cases e; exact ⟨x, rfl, h.1⟩
  | x :: xs, y :: ys, i + 1, _, h, e => AllAt.to (xs := xs) (ys := ys) (i := i) h.2 (by simpa using e)
  | _, [], _, _, _, e => by simp at e
  | [], _ :: _, _, _, h, _ => h.elim
theorem AllAt.take : ∀ {xs : List V} {ys : List α} (n : Nat), AllAt R H xs ys → AllAt R H (xs.take n) (ys.take n)
  | _, _, 0, _ => by simp [AllAt]
  | [], [], _ + 1, _ => by simp [AllAt]
  | x :: xs, y :: ys, n + 1, h => ⟨h.1, AllAt.take n h.2⟩
  | [], _ :: _, _ + 1, h => h.elim
  | _ :: _, [], _ + 1, h => h.elim
theorem AllAt.drop : ∀ {xs : List V} {ys : List α} (n : Nat), AllAt R H xs ys → AllAt R H (xs.drop n) (ys.drop n)
  | _, _, 0, h => h
  | [], [], _ + 1, _ => by simp [AllAt]
  | x :: xs, y :: ys, n + 1, h => AllAt.drop (xs := xs) (ys := ys) n h.2
  | [], _ :: _, _ + 1, h => h.elim
  | _ :: _, [], _ + 1, h => h.elim
end
theorem join2 {c G T : Prop} (h : (c → G) → T) (g : c → G) : T := h g
theorem iteP {c A B : Prop} [Decidable c] (hc : c) (h : A) : if c then A else B := by
  rw [if_pos hc]; exact h
theorem iteQ {c A B : Prop} [Decidable c] (hc : ¬ c) (h : B) : if c then A else B := by
  rw [if_neg hc]; exact h
theorem notT {b : Bool} (h : b = true) : ¬ ((!b) = true) := by rw [h]; decide
theorem notF {b : Bool} (h : b = false) : (!b) = true := by rw [h]; rfl
theorem neT {b : Bool} (h : b = false) : ¬ (b = true) := by rw [h]; decide
theorem twoB (b : Bool) : b = true ∨ b = false := by cases b; exact .inr rfl; exact .inl rfl
/-- all tuples stand -/
def Tups (H H' : Hp) : Prop := ∀ t xs, H t = some (.tup xs) → H' t = some (.tup xs)
section
variable {H H' H'' : Hp} {p : Addr} {o : HO} {xs : List V}
theorem Tups.refl (H : Hp) : Tups H H := fun _ _ h => h
theorem Tups.trans (a : Tups H H') (b : Tups H' H'') : Tups H H'' := fun t xs h => b t xs (a t xs h)
theorem Tups.of (a : Same H H') : Tups H H' := fun t xs h => a t _ h
theorem Tups.put (h : ∀ ys, H p ≠ some (.tup ys)) : Tups H (upd H p o) := fun t ys e => by
  rw [upd_ne (fun q => h ys (by rw [← q]; exact e))]
  exact e
theorem Tups.new (h : H p = none) : Tups H (upd H p o) := Tups.put fun ys e => by rw [h] at e; cases e
theorem Tups.lst (h : H p = some (.lst xs)) : Tups H (upd H p o) := Tups.put fun ys e => by rw [h] at e; cases e
theorem Tups.ins {C dx : Addr} {fs : List (Str × V)} (h : H p = some (.ins C dx fs)) : Tups H (upd H p o) := Tups.put fun ys e => by rw [h] at e; cases e
theorem same_new (h : H p = none) : Same H (upd H p o) := fun b u e => by
  rw [upd_ne (ne_of_none e h)]
  exact e
end
/-- a tuple of these stands at x -/
def TupAt (H : Hp) (x : V) (vs : List V) : Prop := ∃ t, x = .ref t ∧ H t = some (.tup vs)
theorem TupAt.mono {H H' : Hp} {x : V} {vs : List V} (a : Tups H H') (h : TupAt H x vs) : TupAt H' x vs := by
  obtain ⟨t, e, r⟩ := h
  exact ⟨t, e, a t _ r⟩
def LnAt (H : Hp) (x : V) (l : Ln) : Prop := TupAt H x [.int l.sp, .bl l.br, .bl l.du]
def PlAt (H : Hp) (x : V) (l : Int × Bool) : Prop := TupAt H x [.int l.1, .bl l.2]
def RwAt (H : Hp) (x : V) (r : Int) : Prop := TupAt H x [.bl (decide (r = 0)), .int r]
def BlAt (H : Hp) (x : V) (b : Bl) : Prop := TupAt H x [.int (b.c : Int), .int b.s, .bl b.k, .bl b.g]
theorem lnMono {H H' : Hp} {xs : List V} {ys : List Ln} (a : Tups H H') (h : AllAt LnAt H xs ys) : AllAt LnAt H' xs ys := h.mono fun _ _ => TupAt.mono a
theorem plMono {H H' : Hp} {xs : List V} {ys : List (Int × Bool)} (a : Tups H H') (h : AllAt PlAt H xs ys) : AllAt PlAt H' xs ys := h.mono fun _ _ => TupAt.mono a
theorem rwMono {H H' : Hp} {xs : List V} {ys : List Int} (a : Tups H H') (h : AllAt RwAt H xs ys) : AllAt RwAt H' xs ys := h.mono fun _ _ => TupAt.mono a
theorem blMono {H H' : Hp} {xs : List V} {ys : List Bl} (a : Tups H H') (h : AllAt BlAt H xs ys) : AllAt BlAt H' xs ys := h.mono fun _ _ => TupAt.mono a
/-- facts of the program's top -/
structure Txt (K : PySem.W.Frag) (mg : Str → Option Value) (tp C : Addr) : Prop where
  b_len : mg "len" = none
  b_range : mg "range" = none
  b_int : mg "int" = none
  b_abs : mg "abs" = none
  b_enumerate : mg "enumerate" = none
  b_isinstance : mg "isinstance" = none
  b_bool : mg "bool" = none
  b_list : mg "list" = none
  b_tuple : mg "tuple" = none
  b_max : mg "max" = none
  b_min : mg "min" = none
  b_all : mg "all" = none
  g_TOP : mg "TOP" = some (.ref tp)
  top : ∀ H, SqT K H tp [.str "top", .int 0, .int 0]
  cl : Cls K C
  g_Page : mg "Page" = some (.ref C)
  nL : NoAttr K C "length"
  nS : NoAttr K C "_standing"
  nR : NoAttr K C "_rows"
  nO : NoAttr K C "_loose"
  nW : NoAttr K C "_went_over"
section
variable {P : Program} {w : World} {K : PySem.W.Frag} {mg : Str → Option Value} {base : Heap} {tp C : Addr}
/-! ### _fits -/
def spFits : Sp := fun vs H Q _ => ∃ (L s : Int) (a : Addr) (xs : List V) (x : V) (r : Int × Bool), vs = [.int L, .ref a, .int s] ∧ H a = some (.lst (xs ++ [x])) ∧ PlAt H x r ∧ Q (.bl (decide (r.1 + s + 1 < L))) H
abbrev s_fits : Stmt := topS 4
theorem sc_fits : FnScope ["length", "page", "space"] ["length", "page", "space"] (defScope s_fits) := ⟨rfl, rfl, rfl, by decide +kernel, rfl, by decide +kernel, by decide +kernel⟩
theorem ok_fits {f : Addr} {fd : FuncData} (F : Fun K "_fits" "_fits" s_fits f fd) : FnOk P w K mg base CX0 1 f fd ["length", "page", "space"] spFits := by
  refine F.ok sc_fits (fun vs H Q E h => ?_) (fun cdv A outer s H vs Q E hr h => ?_)
  · obtain ⟨L, s, a, xs, x, r, rfl, _⟩ := h
    rfl
  · obtain ⟨L, sp, a, xs, x, r, rfl, ha, ⟨t, rfl, ht⟩, k⟩ := h
    refine ⟨_, (pss_one (ps_ret (pe_cmpR op_lt (pe_op op_add (pe_op op_add (pe_ix ix_tup (pe_ix ix_list (pv 1) (pe_un un_neg pe_int) (fun _ _ => rfl)) pe_int (fun _ _ => rfl)) (pv 2)) pe_int) (pv 0) (nomark _)))), ?_⟩
    refine ⟨_, rfl, _, rfl, a, _, _, _, rfl, rfl, SqL.of ha, atI_last _ _, t, _, _, _, rfl, rfl, SqT.of ht, atI_nat (j := 0) rfl, _, rfl, _, _, rfl, rfl, _, _, rfl, rfl, _, rfl, _, _, rfl, rfl, ?_⟩
    exact k
/-! ### _longer -/
def spLng : Sp := fun vs H Q _ => ∃ (t s : Int), vs = [.int t, .int s] ∧ Q (.int (lng t s)) H
abbrev s_longer : Stmt := topS 9
theorem sc_longer : FnScope ["tail", "space"] ["tail", "space"] (defScope s_longer) := ⟨rfl, rfl, rfl, by decide +kernel, rfl, by decide +kernel, by decide +kernel⟩
theorem ok_longer {f : Addr} {fd : FuncData} (F : Fun K "_longer" "_longer" s_longer f fd) : FnOk P w K mg base CX0 1 f fd ["tail", "space"] spLng := by
  refine F.ok sc_longer (fun vs H Q E h => ?_) (fun cdv A outer s H vs Q E hr h => ?_)
  · obtain ⟨t, s, rfl, _⟩ := h
    rfl
  · obtain ⟨t, sp, rfl, k⟩ := h
    refine ⟨_, (pss_one (ps_ret (pe_ifExp (pt_cmpR op_gt (pv 0) pe_int (nomark _)) (pe_op op_add (pe_op op_add (pv 0) (pv 1)) pe_int) pe_int))), ?_⟩
    unfold lng at k
    refine ⟨_, rfl, _, _, rfl, rfl, _, rfl, ite2 (fun hc => ?_) (fun hc => ?_)⟩
    · rw [if_pos (of_decide_eq_true hc)] at k
      exact ⟨_, rfl, _, rfl, _, _, rfl, rfl, _, _, rfl, rfl, k⟩
    · rw [if_neg (fun q => hc (decide_eq_true q))] at k
      exact k
/-! ### next_line -/
def spNext : Sp := fun vs H Q _ => ∃ (L h t s : Int) (b : Bool), vs = [.int L, .int h, .int t, .int s, .bl b] ∧ ∀ p, H p = none → Q (.ref p) (upd H p (.tup [.int (nextLine L h t s b).h, .int (nextLine L h t s b).t, .bl (nextLine L h t s b).ov]))
abbrev snext_line : Stmt := topS 8
theorem scnext_line : FnScope ["length", "height", "tail", "space", "barred", "below", "over"] ["length", "height", "tail", "space", "barred"] (defScope snext_line) := ⟨rfl, rfl, rfl, by decide +kernel, rfl, by decide +kernel, by decide +kernel⟩
theorem ok_next {f : Addr} {fd : FuncData} (F : Fun K "next_line" "next_line" snext_line f fd) (C__longer : CallOk P w K mg base 1 "_longer" ["tail", "space"] spLng) : FnOk P w K mg base CX0 2 f fd ["length", "height", "tail", "space", "barred"] spNext := by
  refine F.ok scnext_line (fun vs H Q E h => ?_) (fun cdv A outer s H vs Q E hr h => ?_)
  · obtain ⟨L, h, t, s, b, rfl, _⟩ := h
    rfl
  · obtain ⟨L, h, t, sp, b, rfl, k⟩ := h
    refine ⟨_, (pss_cons (ps_set (i := 5) scnext_line.nd rfl (.inl rfl) (pe_op op_add (pe_op op_add (pv 1) (pv 3)) pe_int))
      (pss_cons (ps_if (PW.pt (pw_and (pt_cmpR op_gt (pv 1) pe_int (nomark _)) (pw_and1 (pt_cmpR op_le (pv 5) (pv 0) (nomark _)))))
        (pss_cons (ps_if (pt_not (pt_val (pv 4)))
          (pss_one (ps_ret (pe_tup (pa_cons (pv 5) (pa_cons pe_int (pa_cons pe_bl pa_nil))))))
          pss_nil)
        (pss_one (ps_ret (pe_tup (pa_cons (pv 5) (pa_cons (pe_cc C__longer (hr.mono (by decide)) (by rfl) (pa_cons (pv 2) (pa_cons (pv 3) pa_nil))) (pa_cons pe_bl pa_nil)))))))
        pss_nil)
      (pss_cons (ps_if (PW.pt (pw_or (pt_not (pt_val (pv 4))) (pw_or1 (pt_cmpR op_eq (pv 2) pe_int (nomark _)))))
        (pss_one (ps_ret (pe_tup (pa_cons pe_int (pa_cons pe_int (pa_cons pe_bl pa_nil))))))
        pss_nil)
      (pss_cons (ps_set (i := 6) scnext_line.nd rfl (.inl rfl) (pe_cc C__longer (hr.mono (by decide)) (by rfl) (pa_cons (pv 2) (pa_cons (pv 3) pa_nil))))
      (pss_one (ps_ret (pe_tup (pa_cons (pe_ifExp (pt_cmpR op_le (pv 6) (pv 0) (nomark _)) (pv 6) pe_int) (pa_cons pe_int (pa_cons pe_bl pa_nil)))))))))), ?_⟩
    unfold nextLine at k
    refine ⟨_, rfl, _, rfl, _, _, rfl, rfl, _, _, rfl, rfl, ?_⟩
    refine join2 (c := ¬ (h > 0 ∧ h + sp + 1 ≤ L)) (G := ?G) (fun rest => ?br) (fun hn => ?fin)
    case br =>
      refine ⟨_, rfl, _, _, rfl, rfl, _, rfl, ite2 (fun h1 => ?_) (fun h1 => ?_)⟩
      · refine ⟨_, rfl, _, rfl, _, _, rfl, rfl, _, rfl, ite2 (fun h2 => ?_) (fun h2 => ?_)⟩
        · have hh : h > 0 ∧ h + sp + 1 ≤ L := ⟨of_decide_eq_true h1, of_decide_eq_true h2⟩
          simp only [hh, and_self, if_true] at k
          cases b with
          | false =>
            refine ⟨_, rfl, _, rfl, iteT ⟨_, rfl, (by show 3 ≤ sizeLine; decide), fun p hp => ?_⟩⟩
            exact k p hp
          | true =>
            refine ⟨_, rfl, _, rfl, iteF ⟨_, rfl, _, rfl, _, rfl, _, _, rfl, (by show 3 ≤ sizeLine; decide), fun p hp => ?_⟩⟩
            exact k p hp
        · exact rest fun q => h2 (decide_eq_true q.2)
      · exact rest fun q => h1 (decide_eq_true q.1)
    case fin =>
      simp only [hn, if_false] at k
      have two : b = false ∨ t = 0 → ∀ p, H p = none → Q (.ref p) (upd H p (.tup [.int 1, .int 0, .bl false])) := fun q p hp => by
        have := k p hp
        simp only [q, if_true] at this
        exact this
      cases b with
      | false =>
        refine ⟨_, rfl, _, rfl, iteT (iteT ⟨(by show 3 ≤ sizeLine; decide), fun p hp => ?_⟩)⟩
        exact two (.inl rfl) p hp
      | true =>
        refine ⟨_, rfl, _, rfl, iteF ⟨_, rfl, rfl, _, rfl, ite2 (fun h1 => ?_) (fun h1 => ?_)⟩⟩
        · refine ⟨(by show 3 ≤ sizeLine; decide), fun p hp => ?_⟩
          exact two (.inr (V.int.inj (of_decide_eq_true h1))) p hp
        · have ht : ¬ t = 0 := fun q => h1 (decide_eq_true (by rw [q]))
          simp only [Bool.true_eq_false, ht, or_self, if_false] at k
          refine ⟨_, rfl, _, rfl, _, _, rfl, ?_⟩
          refine ⟨_, rfl, _, rfl, _, _, rfl, rfl, _, rfl, ite2 (fun h2 => ?_) (fun h2 => ?_)⟩
          · refine ⟨_, rfl, (by show 3 ≤ sizeLine; decide), fun p hp => ?_⟩
            have := k p hp
            rw [if_pos (of_decide_eq_true h2)] at this
            exact this
          · refine ⟨(by show 3 ≤ sizeLine; decide), fun p hp => ?_⟩
            have := k p hp
            rw [if_neg (fun q => h2 (decide_eq_true q))] at this
            exact this
end
end Pa
set_option maxRecDepth 100000
set_option maxHeartbeats 4000000
namespace Pa
open PySem PySem.Spec PyProof.Rows L2
section
variable {X : Cx}
theorem pi_or {tg l : Expr} {w1 w2 : TI} (h1 : PI X tg l w1) (h2 : PI X tg l w2) : PI X tg l (fun σ H R => w1 σ H R ∨ w2 σ H R) :=
  ⟨fun pins s σ H R I h => h.elim (h1.run pins s σ H R I) (h2.run pins s σ H R I)⟩
end
/-! ### ways that meet again: what a piece gives, told once -/
def tPureE (t : TE) : TE := fun σ H Q => ∃ v : V, (∀ Q' : VK, Q' v H → t σ H Q') ∧ Q v H
def tPureT (t : TT) : TT := fun σ H Q => ∃ c : Bool, (∀ Q' : Bool → Hp → Prop, Q' c H → t σ H Q') ∧ Q c H
def tByE (t : TE) : TE := fun σ H Q => ∃ R : V → Hp → Prop, (∀ Q' : VK, (∀ v H', R v H' → Q' v H') → t σ H Q') ∧ ∀ v H', R v H' → Q v H'
def tByS (t : TS) : TS := fun D σ H => ∃ R : L2.St → Hp → Prop, (∀ N : L2.St → Hp → Prop, (∀ σ' H', R σ' H' → N σ' H') → t { D with nx := N } σ H) ∧ ∀ σ' H', R σ' H' → D.nx σ' H'
section
variable {X : Cx} {e : Expr} {st : Stmt}
theorem pe_pure {t : TE} (h : PE X e t) : PE X e (tPureE t) := ⟨fun pins s σ H Q I ⟨_, f, q⟩ => h.run pins s σ H Q I (f Q q)⟩
theorem pt_pure {t : TT} (h : PT X e t) : PT X e (tPureT t) := ⟨fun pins s σ H Q I ⟨_, f, q⟩ => h.run pins s σ H Q I (f Q q)⟩
theorem pe_by {t : TE} (h : PE X e t) : PE X e (tByE t) := ⟨fun pins s σ H Q I ⟨_, f, q⟩ => h.run pins s σ H Q I (f Q q)⟩
theorem ps_by {t : TS} (h : PS X st t) : PS X st (tByS t) := ⟨fun pins s σ H D I ⟨_, f, q⟩ => h.run pins s σ H D I (f D.nx q)⟩
end
theorem all_push {α : Type} {f : α → List V} {H : Hp} {q p : Addr} {ls tv : List V} {ys : List α} {y : α} (hq : H q = some (.lst ls)) (ha : AllAt (fun H x y => TupAt H x (f y)) H ls ys) (hp : H p = none) (et : tv = f y) :
    upd (upd H p (.tup tv)) q (.lst (ls ++ [.ref p])) q = some (.lst (ls ++ [.ref p])) ∧ AllAt (fun H x y => TupAt H x (f y)) (upd (upd H p (.tup tv)) q (.lst (ls ++ [.ref p]))) (ls ++ [.ref p]) (ys ++ [y]) ∧
      (upd H p (.tup tv)) q = some (.lst ls) ∧ ∀ a o, a ≠ q → H a = some o → upd (upd H p (.tup tv)) q (.lst (ls ++ [.ref p])) a = some o := by
  have npq : q ≠ p := fun r => by rw [← r, hq] at hp; cases hp
  have e2 : (upd H p (.tup tv)) q = some (.lst ls) := (upd_ne npq).trans hq
  refine ⟨upd_same, AllAt.mono (fun _ _ => TupAt.mono (Tups.lst e2)) (AllAt.snoc (ha.mono fun _ _ => TupAt.mono (Tups.new hp)) ⟨p, rfl, by rw [upd_same, et]⟩), e2, fun a o na e => ?_⟩
  rw [upd_ne na]
  exact same_new hp _ _ e
theorem in_two (i a b : Int) : inV (.int i) [.int a, .int b] = decide (i = a ∨ i = b) := by
  show ((a == i) || ((b == i) || false)) = _
  rw [Bool.or_false, Bool.eq_iff_iff, Bool.or_eq_true, decide_eq_true_iff, beq_iff_eq, beq_iff_eq]
  constructor
  · rintro (h | h)
    · exact .inl h.symm
    · exact .inr h.symm
  · rintro (h | h)
    · exact .inl h.symm
    · exact .inr h.symm
def StAt (K : PySem.W.Frag) (H : Hp) (p : Addr) (kd : Bool) (h t : Int) : Prop := ∃ w : Str, SqT K H p [.str w, .int h, .int t] ∧ decide (V.str w = V.str "kept") = kd
theorem seqT_mono {K : PySem.W.Frag} {H H' : Hp} {p : Addr} {xs : List V} (a : ∀ o, H p = some o → H' p = some o) (h : SqT K H p xs) : SqT K H' p xs := by
  rcases h with (h | ⟨o, h⟩) | h
  · exact .inl (.inl (a _ h))
  · exact .inl (.inr ⟨o, a _ h⟩)
  · exact .inr h
theorem seqL_mono {K : PySem.W.Frag} {H H' : Hp} {p : Addr} {xs : List V} (a : ∀ o, H p = some o → H' p = some o) (h : SqL K H p xs) : SqL K H' p xs := by
  rcases h with (h | ⟨o, h⟩) | h
  · exact .inl (.inl (a _ h))
  · exact .inl (.inr ⟨o, a _ h⟩)
  · exact .inr h
section
variable {P : Program} {w : World} {K : PySem.W.Frag} {mg : Str → Option Value} {base : Heap} {tp C : Addr}
/-! ### line_place -/
def spPlace (K : PySem.W.Frag) : Sp := fun vs H Q _ => ∃ (a : Addr) (kd : Bool) (h t c s : Int) (i : Nat), vs = [.ref a, .int i, .int c, .int s] ∧ StAt K H a kd h t ∧
  ∀ p H', H p = none → Same H H' → H' p = some (.tup [.int (if i = 0 then s else 0), .bl (if i = 0 then kd else decide ((i : Int) = 1 ∨ (i : Int) = c - 1))]) → Q (.ref p) H'
abbrev sline_place : Stmt := topS 10
theorem scline_place : FnScope ["standing", "at", "count", "space"] ["standing", "at", "count", "space"] (defScope sline_place) := ⟨rfl, rfl, rfl, by decide +kernel, rfl, by decide +kernel, by decide +kernel⟩
theorem ok_place {f : Addr} {fd : FuncData} (F : Fun K "line_place" "line_place" sline_place f fd) : FnOk P w K mg base CX0 1 f fd ["standing", "at", "count", "space"] (spPlace K) := by
  refine F.ok scline_place (fun vs H Q E h => ?_) (fun cdv A outer s H vs Q E hr h => ?_)
  · obtain ⟨a, kd, h, t, c, s, i, rfl, _⟩ := h
    rfl
  · obtain ⟨a, kd, h, t, c, sp, i, rfl, ⟨wd, ha, hk⟩, k⟩ := h
    refine ⟨_, (pss_cons (ps_if (pt_cmpR op_eq (pv 1) pe_int (nomark _))
        (pss_one (ps_ret (pe_tup (pa_cons (pv 3) (pa_cons (pe_cmpR op_eq (pe_ix ix_tup (pv 0) pe_int (fun _ _ => rfl)) pe_str (nomark _)) pa_nil)))))
        pss_nil)
      (pss_one (ps_ret (pe_tup (pa_cons pe_int (pa_cons (pe_cmpR op_in_seq (pv 1) (pe_tup (pa_cons pe_int (pa_cons (pe_op op_sub (pv 2) pe_int) pa_nil))) (by rfl)) pa_nil)))))), ?_⟩
    refine ⟨_, rfl, rfl, _, rfl, ite2 (fun h1 => ?_) (fun h1 => ?_)⟩
    · have hi : i = 0 := by
        have := V.int.inj (of_decide_eq_true h1)
        omega
      refine ⟨_, rfl, _, rfl, a, _, _, _, rfl, rfl, ha, atI_nat (j := 0) rfl, rfl, (by show 2 ≤ sizeLine; decide), fun p hp => ?_⟩
      refine k p _ hp (same_new hp) ?_
      rw [upd_same, hi, if_pos rfl, if_pos rfl, ← hk]
    · have hi : ¬ i = 0 := fun q => h1 (decide_eq_true (by rw [q]; rfl))
      refine ⟨_, rfl, _, rfl, _, _, rfl, rfl, (by show 2 ≤ sizeLine; decide), fun q hq => ⟨q, _, rfl, .inr (SqT.of upd_same), rfl, rfl, (by show 2 ≤ sizeLine; decide), fun p hp => ?_⟩⟩
      have hp0 : H p = none := (same_new (o := .tup [V.int 1, V.int (c - 1)]) hq).free hp
      refine k p _ hp0 ((same_new hq).trans (same_new hp)) ?_
      rw [upd_same, if_neg hi, if_neg hi, ← in_two]
      rfl
/-! ### standing_of -/
def endK (L h t : Int) (k : Bool) : Bool × Int × Int := if h = L ∧ (k = false ∨ t = 0) then (false, 0, 0) else if k = true then (true, h, t) else (false, h, 0)
def spStand (K : PySem.W.Frag) : Sp := fun vs H Q _ => ∃ (L h t : Int) (k : Bool), vs = [.int L, .int h, .int t, .bl k] ∧
  ∀ p H', Same H H' → StAt K H' p (endK L h t k).1 (endK L h t k).2.1 (endK L h t k).2.2 → Q (.ref p) H'
theorem nt_ : decide (V.str "top" = V.str "kept") = false := by decide +kernel
theorem no_ : decide (V.str "open" = V.str "kept") = false := by decide +kernel
theorem nk_ : decide (V.str "kept" = V.str "kept") = true := by decide +kernel
abbrev sstanding_of : Stmt := topS 11
theorem scstanding_of : FnScope ["length", "height", "tail", "kept"] ["length", "height", "tail", "kept"] (defScope sstanding_of) := ⟨rfl, rfl, rfl, by decide +kernel, rfl, by decide +kernel, by decide +kernel⟩
theorem ok_stand {f : Addr} {fd : FuncData} (F : Fun K "standing_of" "standing_of" sstanding_of f fd) (T : Txt K mg tp C) : FnOk P w K mg base CX0 1 f fd ["length", "height", "tail", "kept"] (spStand K) := by
  refine F.ok scstanding_of (fun vs H Q E h => ?_) (fun cdv A outer s H vs Q E hr h => ?_)
  · obtain ⟨L, h, t, k, rfl, _⟩ := h
    rfl
  · obtain ⟨L, h, t, kp, rfl, k⟩ := h
    refine ⟨_, (pss_cons (ps_if (PW.pt (pw_and (pt_cmpR op_eq (pv 1) (pv 0) (nomark _)) (pw_and1 (PW.pt (pw_or (pt_not (pt_val (pv 3))) (pw_or1 (pt_cmpR op_eq (pv 2) pe_int (nomark _))))))))
        (pss_one (ps_ret (pe_glob (v := .ref tp) (by rfl) T.g_TOP rfl)))
        pss_nil)
      (pss_one (ps_ret (pe_ifExp (pt_val (pv 3)) (pe_tup (pa_cons pe_str (pa_cons (pv 1) (pa_cons (pv 2) pa_nil)))) (pe_tup (pa_cons pe_str (pa_cons (pv 1) (pa_cons pe_int pa_nil)))))))), ?_⟩
    have atop : (h = L ∧ (kp = false ∨ t = 0)) → Q (.ref tp) H := fun q => by
      refine k tp H (Same.refl H) ?_
      unfold endK
      rw [if_pos q]
      exact ⟨"top", T.top H, nt_⟩
    refine join2 (c := ¬ (h = L ∧ (kp = false ∨ t = 0))) (G := ?G) (fun rest => ?br) (fun hn => ?fin)
    case br =>
      refine ⟨_, rfl, _, rfl, rfl, _, rfl, ite2 (fun h1 => ?_) (fun h1 => ?_)⟩
      · have e1 := V.int.inj (of_decide_eq_true h1)
        rcases twoB kp with hb | hb
        · refine ⟨_, rfl, _, rfl, iteQ (notT hb) ⟨_, rfl, rfl, _, rfl, ite2 (fun h2 => ?_) (fun h2 => ?_)⟩⟩
          · exact atop ⟨e1, .inr (V.int.inj (of_decide_eq_true h2))⟩
          · have nq : ¬ (h = L ∧ (kp = false ∨ t = 0)) := fun q => by
              rcases q.2 with q | q
              · rw [hb] at q; cases q
              · exact h2 (decide_eq_true (by rw [q]))
            exact rest nq
        · refine ⟨_, rfl, _, rfl, iteP (notF hb) (iteT ?_)⟩
          exact atop ⟨e1, .inl hb⟩
      · refine iteF ?_
        exact rest fun q => h1 (decide_eq_true (by rw [q.1]))
    case fin =>
      unfold endK at k
      rw [if_neg hn] at k
      cases kp with
      | true =>
        refine ⟨_, rfl, _, rfl, iteT ⟨_, rfl, _, rfl, (by show 3 ≤ sizeLine; decide), fun p hp => ?_⟩⟩
        exact k p _ (same_new hp) ⟨"kept", SqT.of upd_same, nk_⟩
      | false =>
        refine ⟨_, rfl, _, rfl, iteF ⟨_, rfl, (by show 3 ≤ sizeLine; decide), fun p hp => ?_⟩⟩
        exact k p _ (same_new hp) ⟨"open", SqT.of upd_same, no_⟩
/-! ### _taken_over -/
theorem pgOf_br (s : List Ln) : (pgOf s).map (·.2) = s.map (·.br) := by
  cases s with
  | nil => rfl
  | cons x s =>
    have : ∀ (r : Int) (s : List Ln), (pgGo r s).map (·.2) = s.map (·.br) := by
      intro r s
      induction s generalizing r with
      | nil => rfl
      | cons y s ih => rw [pgGo, List.map_cons, ih, List.map_cons]
    rw [pgOf, List.map_cons, this, List.map_cons]
theorem pgOf_at {s : List Ln} {i : Nat} {y : Int × Bool} (h : (pgOf s)[i]? = some y) : ∃ l, s[i]? = some l ∧ l.br = y.2 := by
  have e := congrArg (fun z => z[i]?) (pgOf_br s)
  simp only [List.getElem?_map, h, Option.map_some] at e
  cases hs : s[i]? with
  | none => rw [hs] at e; cases e
  | some l => rw [hs] at e; exact ⟨l, rfl, (Option.some.inj e).symm⟩
def spTaken : Sp := fun vs H Q _ => ∃ (a : Addr) (b : Bool) (xs : List V) (seg : List Ln), vs = [.ref a, .bl b] ∧ H a = some (.lst xs) ∧ AllAt PlAt H xs (pgOf seg) ∧ seg ≠ [] ∧ seg.length ≤ 100000 ∧
  ∀ (p : Addr) (H' : Hp) (zs : List V) (o : Option (List Ln × List Ln)), H p = none → o = (if b = true then cut seg else none) → H' p = some (.lst zs) → (∀ q u, q ≠ a → H q = some u → H' q = some u) →
    (o = none → zs = [] ∧ H' a = some (.lst xs)) → (∀ ab, o = some ab → AllAt PlAt H' zs (pgOf ab.2) ∧ ∃ ys, H' a = some (.lst ys) ∧ AllAt PlAt H' ys (pgOf ab.1)) → Q (.ref p) H'
abbrev s_taken_over : Stmt := topS 5
theorem sc_taken_over : FnScope ["page", "barred", "places", "at", "first", "over", "row", "is_barred"] ["page", "barred"] (defScope s_taken_over) := ⟨rfl, rfl, rfl, by decide +kernel, rfl, by decide +kernel, by decide +kernel⟩
theorem ok_taken {f : Addr} {fd : FuncData} (F : Fun K "_taken_over" "_taken_over" s_taken_over f fd) (T : Txt K mg tp C) : FnOk P w K mg base CX0 1 f fd ["page", "barred"] spTaken := by
  refine F.ok sc_taken_over (fun vs H Q E h => ?_) (fun cdv A outer s H vs Q E hr h => ?_)
  · obtain ⟨a, b, xs, seg, rfl, _⟩ := h
    rfl
  · obtain ⟨a, b, xs, seg, rfl, ha, hx, hne, hlen, k⟩ := h
    refine ⟨_, (pss_cons (ps_setLc (i := 2) (own := [("at", 3)]) rfl sc_taken_over.nd rfl rfl (sw_true rfl rfl rfl (by decide +kernel)) (pi_range2 (by rfl) T.b_range (pa_cons pe_int (pa_cons (pe_callB call_len_seq (by rfl) T.b_len PySem.boot_len (pa_cons (pv 0) pa_nil)) pa_nil))) (blkOk_by (N := ["page", "barred", "places", "at", "first", "over", "row", "is_barred"]) (sc := defScope s_taken_over) (by decide +kernel)) (fun _ _ _ _ _ => (pg_name (i := 3) sc_taken_over.nd rfl (.inl rfl))) (fun _ _ _ _ _ => (pts_one (pt_not (pt_val (pe_ix (r := rIxT K) ix_tup (pe_ix (r := rIxL K) ix_list (pv 0) (pv 3) (fun _ _ => rfl)) pe_int (fun _ _ => rfl)))))) (fun _ _ _ _ _ => (pv 3)))
      (pss_cons (ps_if (PW.pt (pw_or (pt_not (pt_val (pv 1))) (pw_or1 (pt_not (pt_truth (pv 2) (by intro _; rfl))))))
        (pss_one (ps_ret (pe_lst pa_nil)))
        pss_nil)
      (pss_cons (ps_set (i := 4) sc_taken_over.nd rfl (.inr rfl) (pe_ix ix_tup (pe_ix ix_list (pv 0) (pe_ix ix_list (pv 2) (pe_un un_neg pe_int) (fun _ _ => rfl)) (fun _ _ => rfl)) pe_int (fun _ _ => rfl)))
      (pss_cons (ps_setLc (i := 5) (own := [("row", 6), ("is_barred", 7)]) (g := gTup K 2 (gCons (gName 6) (gCons (gName 7) gNil))) rfl sc_taken_over.nd rfl rfl (sw_true rfl rfl rfl (by decide +kernel)) (pi_list (pe_slice sl_list (pv 0) (po_some (pe_ix ix_list (pv 2) (pe_un un_neg pe_int) (fun _ _ => rfl))) po_none)) (blkOk_by (N := ["page", "barred", "places", "at", "first", "over", "row", "is_barred"]) (sc := defScope s_taken_over) (by decide +kernel)) (fun _ _ _ _ _ => (pg_tup rfl (pgs_cons (pg_name (i := 6) sc_taken_over.nd rfl (.inl rfl)) (pgs_cons (pg_name (i := 7) sc_taken_over.nd rfl (.inl rfl)) pgs_nil)))) (fun _ _ _ _ _ => pts_nil) (fun _ _ _ _ _ => (pe_tup (pa_cons (pe_op op_sub (pv 6) (pv 4)) (pa_cons (pv 7) pa_nil)))))
      (pss_cons (ps_delE (pv 0) (pe_ix ix_list (pv 2) (pe_un un_neg pe_int) (fun _ _ => rfl)))
      (pss_one (ps_ret (pv 5)))))))), ?_⟩
    have hl : xs.length = seg.length := hx.len.trans (pgOf_len seg)
    have hpos : 1 ≤ seg.length := List.length_pos_iff.mpr hne
    refine ⟨_, rfl, a, _, rfl, .inl (SqL.of ha), 1, (xs.length : Int), rfl, ⟨by decide, by decide, by omega, by omega⟩, fun D hD => ?_⟩
    have eD : ∀ q u, H q = some u → q ≠ D := fun q u e => ne_of_none e hD
    refine lc_range (lo := 1) (n := ((xs.length : Int) - 1).toNat) (fun i H' => (∀ q, q ≠ D → H' q = H q) ∧ ∃ ps : List V, H' D = some (.lst ps) ∧ ps.length ≤ i ∧ (cut (seg.take (i + 1)) = none → ps = []) ∧ ∀ ab, cut (seg.take (i + 1)) = some ab → ∃ ps', ps = ps' ++ [.int (ab.1.length : Int)])
      ⟨fun q hq => upd_ne hq, [], upd_same, Nat.le_refl _, fun _ => rfl, fun ab e => ?_⟩ ?_ ?_
    · have e1 : seg.take (0 + 1) = [seg[0]'hpos] := by
        cases seg with
        | nil => exact absurd rfl hne
        | cons y ys => rfl
      rw [e1, cut_one] at e
      cases e
    · rintro i H' hi ⟨hk, ps, hps, hpl, hn, hsm⟩
      have hi' : i + 1 < seg.length := by
        have h3 : i < ((xs.length : Int) - 1).toNat := hi
        have h4 : (xs.length : Int) = (seg.length : Int) := congrArg Int.ofNat hl
        rw [h4] at h3
        omega
      obtain ⟨x, hxi, t, rfl, ht⟩ := hx.to (i := i + 1) (y := (pgOf seg)[i + 1]'(by rw [pgOf_len]; exact hi')) (List.getElem?_eq_getElem _)
      obtain ⟨l, hl1, hl2⟩ := pgOf_at (s := seg) (i := i + 1) (y := (pgOf seg)[i + 1]'(by rw [pgOf_len]; exact hi')) (List.getElem?_eq_getElem _)
      have et : seg.take (i + 1 + 1) = seg.take (i + 1) ++ [l] := by
        rw [List.take_add_one, hl1]; rfl
      have nt0 : seg.take (i + 1) ≠ [] := fun q => hne (by simpa using q)
      have ecut := cut_snoc nt0 l
      rw [← et] at ecut
      have eA : H' a = some (.lst xs) := (hk a (eD a _ ha)).trans ha
      have eT : H' t = some (.tup [.int ((pgOf seg)[i + 1]'(by rw [pgOf_len]; exact hi')).1, .bl ((pgOf seg)[i + 1]'(by rw [pgOf_len]; exact hi')).2]) := (hk t (eD t _ ht)).trans ht
      have ei : (1 : Int) + (i : Int) = ((i + 1 : Nat) : Int) := by omega
      refine ⟨rfl, _, rfl, _, rfl, a, _, _, _, rfl, rfl, SqL.of eA, (by rw [ei]; exact atI_nat hxi), t, _, _, _, rfl, rfl, SqT.of eT, atI_nat (j := 1) rfl, _, rfl, ?_⟩
      rw [← hl2]
      rcases twoB l.br with hb | hb
      · rw [hb, if_pos rfl] at ecut
        rw [hb]
        refine iteF ⟨hk, ps, hps, by omega, fun z => ?_, fun ab z => ?_⟩
        · rw [ecut] at z
          refine hn ?_
          cases hc : cut (seg.take (i + 1)) with
          | none => rfl
          | some ab => rw [hc] at z; cases z
        · rw [ecut] at z
          cases hc : cut (seg.take (i + 1)) with
          | none => rw [hc] at z; cases z
          | some ab' =>
            rw [hc] at z
            cases z
            exact hsm ab' hc
      · rw [hb] at ecut ⊢
        simp only [Bool.false_eq_true, if_false] at ecut
        refine iteT ⟨_, rfl, ps, hps, Nat.lt_of_le_of_lt (m := 100000) (by omega) (by decide), fun q hq => (upd_ne hq).trans (hk q hq), _, upd_same, ?_, fun z => ?_, fun ab z => ?_⟩
        · rw [List.length_append, List.length_singleton]; omega
        · rw [ecut] at z; cases z
        · rw [ecut] at z
          cases z
          refine ⟨ps, ?_⟩
          rw [List.length_take, Nat.min_eq_left (by omega), ei]
    · rintro H' ⟨hk, ps, hps, hpl, hn, hsm⟩
      have en : seg.take (((xs.length : Int) - 1).toNat + 1) = seg := List.take_of_length_le (by omega)
      rw [en] at hn hsm
      have eA : H' a = some (.lst xs) := (hk a (eD a _ ha)).trans ha
      have hk' : Same H H' := fun q u e => (hk q (eD q _ e)).trans e
      refine join2 (c := (if b = true then cut seg else none) = none) (G := ?G) (fun stay => ?br) (fun hno => ?fin)
      case br =>
        rcases twoB b with hb | hb
        · refine ⟨_, rfl, _, rfl, iteQ (notT hb) ⟨_, rfl, _, .inl ⟨_, SqL.of hps, rfl⟩, ?_⟩⟩
          cases hc : cut seg with
          | none =>
            rw [hn hc]
            refine iteT ?_
            exact stay (by rw [hc]; split <;> rfl)
          | some ab =>
            obtain ⟨u, v⟩ := ab
            obtain ⟨ps', hp'⟩ := hsm _ hc
            obtain ⟨es, hu, y, v', ev, hy, hall⟩ := cut_spec hc
            have epg := pgOf_parted hu y v'
            rw [← ev, ← es] at epg
            have hlu : u.length + v.length = seg.length := by rw [es, List.length_append]
            have hvpos : 1 ≤ v.length := by rw [ev]; simp
            have hpl2 : ps.isEmpty = false := by rw [hp']; simp
            rw [hpl2]
            refine iteF ?_
            have hlast : atI ps (-1) = some (V.int (u.length : Int)) := by rw [hp']; exact atI_last _ _
            have hul : u.length < (pgOf seg).length := by rw [pgOf_len]; omega
            have edrop : (pgOf seg).drop u.length = (pgOf v).map fun z => (z.1 + (lastRow u + y.sp + 1), z.2) := by
              rw [epg, List.drop_left' (pgOf_len u)]
            have etake : (pgOf seg).take u.length = pgOf u := by
              rw [epg, List.take_left' (pgOf_len u)]
            have ehd : (pgOf seg)[u.length]? = some (0 + (lastRow u + y.sp + 1), y.br) := by
              have := congrArg (fun z => z[0]?) edrop
              simp only [List.getElem?_drop, Nat.add_zero] at this
              rw [this, ev]
              rfl
            obtain ⟨x0, hx0, t0, rfl, ht0⟩ := hx.to ehd
            refine ⟨_, rfl, _, rfl, _, rfl, D, ps, _, _, rfl, rfl, SqL.of hps, hlast, a, xs, _, _, rfl, rfl, SqL.of eA, atI_nat hx0, t0, _, _, _, rfl, rfl, SqT.of (hk' _ _ ht0), atI_nat (j := 0) rfl, ?_⟩
            have hcut : cutV xs (some (u.length : Int)) none = xs.drop u.length := by
              unfold cutV
              rw [HT.sIx_nat, HT.sIx_none, Nat.min_eq_left (by omega)]
              exact List.take_of_length_le (by rw [List.length_drop]; exact Nat.le_refl _)
            refine ⟨_, rfl, _, rfl, _, rfl, D, ps, _, _, rfl, rfl, SqL.of hps, hlast, _, rfl, a, xs, rfl, SqL.of eA, fun S hS => ⟨S, rfl, ⟨_, SqL.of upd_same⟩, fun D2 hD2 => ?_⟩⟩
            rw [hcut] at hD2 ⊢
            have sS : Same H' (upd H' S (.lst (xs.drop u.length))) := same_new hS
            have hS0 : (upd H' S (.lst (xs.drop u.length))) S = some (.lst (xs.drop u.length)) := upd_same
            generalize upd H' S (.lst (xs.drop u.length)) = H1 at hD2 sS hS0 ⊢
            have hxd : AllAt PlAt H (xs.drop u.length) ((pgOf v).map fun z => (z.1 + (lastRow u + y.sp + 1), z.2)) := by rw [← edrop]; exact hx.drop _
            have hld : (xs.drop u.length).length = v.length := by rw [hxd.len, List.length_map, pgOf_len]
            refine lc_list (K := K) (a := S) (xs := xs.drop u.length) (fun i H2 => Same H1 H2 ∧ ∃ zs : List V, H2 D2 = some (.lst zs) ∧ AllAt PlAt H2 zs ((pgOf v).take i)) ⟨same_new hD2, [], upd_same, trivial⟩ (fun i H2 _ q => SqL.of (q.1 _ _ hS0)) ?_ ?_
            · rintro i x H2 hxi ⟨s2, zs, hzs, hall2⟩
              obtain ⟨yy, hyy, t, rfl, ht⟩ := hxd.at hxi
              rw [List.getElem?_map] at hyy
              obtain ⟨z, hz, rfl⟩ := Option.map_eq_some_iff.mp hyy
              have sH2 : Same H H2 := (hk'.trans sS).trans s2
              have hilt : i < v.length := by
                have := (List.getElem?_eq_some_iff.mp hxi).1
                omega
              refine ⟨t, _, rfl, SqT.of (sH2 _ _ ht), rfl, _, _, rfl, _, _, rfl, rfl, rfl, ?_⟩
              refine ⟨_, rfl, _, rfl, _, _, rfl, rfl, _, rfl, (by show 2 ≤ sizeLine; decide), fun p hp => ?_⟩
              have npD : D2 ≠ p := fun q => by rw [← q, hzs] at hp; cases hp
              have tp : Tups H2 (upd H2 p (.tup [.int (z.1 + (lastRow u + y.sp + 1) - (0 + (lastRow u + y.sp + 1))), .bl z.2])) := Tups.new hp
              refine ⟨zs, (upd_ne npD).trans hzs, ?_, fun q w e => ?_, _, upd_same, ?_⟩
              · rw [hall2.len]
                refine Nat.lt_of_le_of_lt (m := 100000) ?_ (by decide)
                rw [List.length_take, pgOf_len]
                omega
              · have nq : q ≠ D2 := fun r => by rw [r, hD2] at e; cases e
                rw [upd_ne nq]
                exact same_new hp _ _ (s2 _ _ e)
              · have et : (pgOf v).take (i + 1) = (pgOf v).take i ++ [z] := by
                  rw [List.take_add_one, hz]; rfl
                rw [et]
                refine AllAt.mono (fun _ _ => TupAt.mono (Tups.lst ((upd_ne npD).trans hzs))) (AllAt.snoc (hall2.mono fun _ _ => TupAt.mono tp) ⟨p, rfl, ?_⟩)
                rw [upd_same]
                show some (HO.tup [V.int (z.1 + (lastRow u + y.sp + 1) - (0 + (lastRow u + y.sp + 1))), V.bl z.2]) = _
                have : z.1 + (lastRow u + y.sp + 1) - (0 + (lastRow u + y.sp + 1)) = z.1 := by omega
                rw [this]
            · rintro H2 ⟨s2, zs, hzs, hall2⟩
              rw [hld, List.take_of_length_le (by rw [pgOf_len]; exact Nat.le_refl _)] at hall2
              have sH2 : Same H H2 := (hk'.trans sS).trans s2
              have hD20 : H D2 = none := (hk'.trans sS).free hD2
              have naD : D2 ≠ a := fun q => by rw [q, ha] at hD20; cases hD20
              refine ⟨_, rfl, _, rfl, _, rfl, D, ps, _, _, rfl, rfl, SqL.of (s2 _ _ (sS _ _ hps)), hlast, a, xs, u.length, rfl, rfl, sH2 _ _ ha, by omega, _, rfl, ?_⟩
              refine k D2 _ zs (some (u, v)) hD20 (by rw [hb, if_pos rfl, hc]) ((upd_ne naD).trans hzs) (fun q w hq e => (upd_ne hq).trans (sH2 _ _ e)) (fun q => by cases q) (fun ab q => ?_)
              cases q
              have tt := Tups.lst (o := .lst (xs.take u.length)) (sH2 _ _ ha)
              refine ⟨hall2.mono fun _ _ => TupAt.mono tt, _, upd_same, ?_⟩
              have := hx.take u.length
              rw [etake] at this
              exact this.mono fun _ _ => TupAt.mono ((Tups.of sH2).trans tt)
        · refine ⟨_, rfl, _, rfl, iteP (notF hb) (iteT ?_)⟩
          exact stay (by rw [hb]; rfl)
      case fin =>
        refine ⟨Nat.zero_le _, fun p hp => ?_⟩
        refine k p _ [] none (hk'.free hp) hno.symm upd_same (fun q u _ e => ?_) (fun _ => ⟨rfl, ?_⟩) (fun ab q => by cases q)
        · exact same_new hp q u (hk' q u e)
        · exact same_new hp a _ eA
end
end Pa
set_option maxRecDepth 100000
set_option maxHeartbeats 4000000
namespace Pa
open PySem PySem.Spec PyProof.Rows L2
section
variable {P : Program} {w : World} {K : PySem.W.Frag} {mg : Str → Option Value} {base : Heap} {tp C : Addr}
/-! ### _lines_of -/
/-- a book's blocks: few, small -/
structure Book (bs : List Bl) : Prop where
  few : bs.length ≤ 20
  small : ∀ b ∈ bs, b.c ≤ 100 ∧ 0 ≤ b.s
def spLines (K : PySem.W.Frag) : Sp := fun vs H Q _ => ∃ (a : Addr) (xs : List V) (bs : List Bl), vs = [.ref a] ∧ (SqL K H a xs ∨ SqT K H a xs) ∧ AllAt BlAt H xs bs ∧ Book bs ∧
  ∀ (p : Addr) (H' : Hp) (ys : List V), H p = none → Same H H' → H' p = some (.lst ys) → AllAt LnAt H' ys (linesOf bs).ls → (linesOf bs).ls.length ≤ 2000 → Q (.ref p) H'
theorem linesOf_len (bs : List Bl) : ∀ n, (∀ b ∈ bs, b.c ≤ n) → (linesOf bs).ls.length ≤ bs.length * n := by
  intro n
  rw [← List.reverse_reverse bs]
  generalize bs.reverse = r
  induction r with
  | nil => intro _; simp [linesOf]
  | cons b r ih =>
    intro h
    rw [List.reverse_cons] at h ⊢
    rw [linesOf_snoc, List.length_append, List.length_singleton]
    have h1 := ih fun x hx => h x (List.mem_append_left _ hx)
    have h2 := h b (by simp)
    show ((linesOf r.reverse).ls ++ blLines b.c b.s (linesOf r.reverse).kp ((linesOf r.reverse).du || b.g) b.c).length ≤ _
    rw [List.length_append, Nat.add_mul, Nat.one_mul]
    have : (blLines b.c b.s (linesOf r.reverse).kp ((linesOf r.reverse).du || b.g) b.c).length = b.c := by unfold blLines; simp
    omega
theorem Book.len {bs : List Bl} (B : Book bs) : (linesOf bs).ls.length ≤ 2000 := by
  have h1 := linesOf_len bs 100 fun b hb => (B.small b hb).1
  have h2 := B.few
  omega
abbrev s_lines_of : Stmt := topS 3
theorem sc_lines_of : FnScope ["blocks", "lines", "is_due", "is_kept", "count", "space", "kept", "page", "at"] ["blocks"] (defScope s_lines_of) := ⟨rfl, rfl, rfl, by decide +kernel, rfl, by decide +kernel, by decide +kernel⟩
/-- the walk over blocks, whatever holds them -/
structure WkB (J : It) (n : Nat) (xs : List V) (H0 : Hp) : Prop where
  wk : ∃ G : Hp → Prop, Walk J n G (YAt xs) ∧ ∀ H', Same H0 H' → G H'
theorem join4 {β : Type} {Wk : β → Prop} {G : β → Prop} {T : Prop} (h : (∀ J, Wk J → G J) → T) (g : ∀ J, Wk J → G J) : T := h g
theorem ok_lines {f : Addr} {fd : FuncData} (F : Fun K "_lines_of" "_lines_of" s_lines_of f fd) (T : Txt K mg tp C) : FnOk P w K mg base CX0 1 f fd ["blocks"] (spLines K) := by
  refine F.ok sc_lines_of (fun vs H Q E h => ?_) (fun cdv A outer s H vs Q E hr h => ?_)
  · obtain ⟨a, xs, bs, rfl, _⟩ := h
    rfl
  · obtain ⟨a, xs, bs, rfl, hS, hx, B, k⟩ := h
    refine ⟨_, (pss_cons (ps_set (i := 1) sc_lines_of.nd rfl (.inl rfl) (pe_lst pa_nil))
      (pss_cons (ps_asg (pe_tup (pa_cons pe_bl (pa_cons pe_bl pa_nil))) (pg_tup rfl (pgs_cons (pg_name (i := 2) sc_lines_of.nd rfl (.inl rfl)) (pgs_cons (pg_name (i := 3) sc_lines_of.nd rfl (.inl rfl)) pgs_nil))))
      (pss_cons (ps_for PassesOwn.never rfl (pi_or (w1 := iList K (tVar 0)) (w2 := iTup K (tVar 0)) (pi_list (pv 0)) (pi_tup (pv 0))) (pg_tup rfl (pgs_cons (pg_name (i := 4) sc_lines_of.nd rfl (.inl rfl)) (pgs_cons (pg_name (i := 5) sc_lines_of.nd rfl (.inl rfl)) (pgs_cons (pg_name (i := 6) sc_lines_of.nd rfl (.inl rfl)) (pgs_cons (pg_name (i := 7) sc_lines_of.nd rfl (.inl rfl)) pgs_nil)))))
        (pss_cons (ps_set (i := 2) sc_lines_of.nd rfl (.inl rfl) (pe_pure (pe_or (pv 2) (pe_one (pv 7)))))
        (pss_cons (ps_for PassesOwn.never rfl (pi_range1 (by rfl) T.b_range (pa_cons (pv 4) pa_nil)) (pg_name (i := 8) sc_lines_of.nd rfl (.inl rfl))
          (pss_one (ps_if (pt_cmpR op_eq (pv 8) pe_int (nomark _))
            (pss_one (ps_expr (pe_bm PySem.F.plainAttrs_list PySem.F.slot_list_append PySem.F.type_list_append mt_append (pv 1) (pa_cons (pe_tup (pa_cons (pv 5) (pa_cons (pv 3) (pa_cons (pv 2) pa_nil)))) pa_nil))))
            (pss_one (ps_expr (pe_bm PySem.F.plainAttrs_list PySem.F.slot_list_append PySem.F.type_list_append mt_append (pv 1) (pa_cons (pe_tup (pa_cons pe_int (pa_cons (pe_cmpR op_in_seq (pv 8) (pe_tup (pa_cons pe_int (pa_cons (pe_op op_sub (pv 4) pe_int) pa_nil))) (by rfl)) (pa_cons pe_bl pa_nil)))) pa_nil)))))))
        (pss_one (ps_if (pt_cmpR op_gt (pv 4) pe_int (nomark _))
          (pss_one (ps_par (i := 2) (j := 3) (by rfl) sc_lines_of.nd rfl rfl (by decide) rfl rfl (pa_cons pe_bl (pa_cons (pv 6) pa_nil)) (by rfl)))
          pss_nil)))))
      (pss_one (ps_ret (pv 1)))))), ?_⟩
    refine ⟨Nat.zero_le _, fun q hq => ?_⟩
    refine ⟨(by show 2 ≤ sizeLine; decide), fun tq htq => ⟨tq, _, rfl, SqT.of upd_same, rfl, _, _, rfl, _, _, rfl, rfl, ?_⟩⟩
    have sq : Same H (upd (upd H q (.lst [])) tq (.tup [.bl true, .bl false])) := (same_new hq).trans (same_new htq)
    have eq0 : (upd (upd H q (.lst [])) tq (.tup [.bl true, .bl false])) q = some (.lst []) := (same_new htq) _ _ upd_same
    generalize upd (upd H q (.lst [])) tq (.tup [.bl true, .bl false]) = Hq at sq eq0 ⊢
    have hlen : xs.length = bs.length := hx.len
    refine join4 (Wk := fun J => WkB J xs.length xs H) (G := ?G) (fun core => ?br) (fun J hJ => ?fin)
    case br =>
      rcases hS with hS | hS
      · have wk : WkB (Itl K a) xs.length xs H := ⟨_, walk_list, fun H' s => s.seq hS⟩
        refine .inl ⟨_, rfl, a, rfl, ⟨_, sq.seq hS⟩, ?_⟩
        revert wk
        generalize Itl K a = J
        intro wk
        exact core J wk
      · have wk : WkB (Itt K a) xs.length xs H := ⟨_, walk_tup, fun H' s => seqT_mono (fun o e => s _ _ e) hS⟩
        refine .inr ⟨_, rfl, a, rfl, ⟨_, seqT_mono (fun o e => sq _ _ e) hS⟩, ?_⟩
        revert wk
        generalize Itt K a = J
        intro wk
        exact core J wk
    case fin =>
      obtain ⟨G, wk, hG⟩ := hJ
      refine for_it wk (fun i σ H' => ∃ (y4 y5 y6 y7 y8 : Option V) (ls : List V), σ = [some (.ref a), some (.ref q), some (.bl (linesOf (bs.take i)).du), some (.bl (linesOf (bs.take i)).kp), y4, y5, y6, y7, y8] ∧ Same H H' ∧ H' q = some (.lst ls) ∧ AllAt LnAt H' ls (linesOf (bs.take i)).ls)
        ⟨none, none, none, none, none, [], rfl, sq, eq0, trivial⟩ ?_ ?_ ?_
      · rintro i σ H' _ ⟨_, _, _, _, _, _, _, s1, _⟩
        exact hG H' s1
      · rintro i x σ H' H'' hi ⟨y4, y5, y6, y7, y8, ls, rfl, s1, hls, hall⟩ ⟨rfl, hxi⟩
        obtain ⟨b, hb, t, rfl, ht⟩ := hx.at hxi
        have eb : bs.take (i + 1) = bs.take i ++ [b] := by rw [List.take_add_one, hb]; rfl
        have hbs := B.small b (List.mem_of_getElem? hb)
        have hlens : (linesOf (bs.take i)).ls.length ≤ 2000 := by
          have h1 := linesOf_len (bs.take i) 100 fun z hz => (B.small z (List.mem_of_mem_take hz)).1
          have h2 := B.few
          rw [List.length_take] at h1
          omega
        refine ⟨t, _, rfl, SqT.of (s1 _ _ ht), rfl, _, _, rfl, _, _, rfl, _, _, rfl, _, _, rfl, rfl, ?_⟩
        rw [eb, linesOf_snoc]
        generalize linesOf (bs.take i) = tt at hls hall hlens ⊢
        -- is_due = is_due or page
        refine ⟨.bl (tt.du || b.g), fun Q' hQ => ⟨_, rfl, tt.du, rfl, ite2 (fun h1 => ?_) (fun h1 => ⟨_, rfl, ?_⟩)⟩, ?_⟩
        · rw [h1] at hQ; exact hQ
        · have : tt.du = false := by simpa using h1
          rw [this] at hQ; exact hQ
        generalize hdu : (tt.du || b.g) = du
        -- for at in range(count)
        refine ⟨_, rfl, _, rfl, by omega, by omega, for_range (lo := 0) (n := ((b.c : Nat) : Int).toNat) (fun j σ H2 => ∃ (y8 : Option V) (ls' : List V), σ = [some (.ref a), some (.ref q), some (.bl du), some (.bl tt.kp), some (.int (b.c : Int)), some (.int b.s), some (.bl b.k), some (.bl b.g), y8] ∧ Same H H2 ∧ H2 q = some (.lst ls') ∧ AllAt LnAt H2 ls' (tt.ls ++ blLines b.c b.s tt.kp du j))
          ⟨_, ls, rfl, s1, hls, by rw [show blLines b.c b.s tt.kp du 0 = [] from rfl, List.append_nil]; exact hall⟩ ?_ ?_⟩
        · rintro j σ H2 hj ⟨y8', ls', rfl, s2, hls2, hall2⟩
          have hj' : j < b.c := by omega
          have hln : (blLines b.c b.s tt.kp du j).length = j := by unfold blLines; simp
          have hsz : ls'.length < sizeLine := by
            rw [hall2.len, List.length_append, hln]
            exact Nat.lt_of_le_of_lt (m := 5000) (by omega) (by decide)
          have z0 : (0 : Int) + (j : Int) = (j : Int) := Int.zero_add _
          rw [blLines_succ, ← List.append_assoc]
          refine ⟨_, rfl, rfl, _, rfl, ite2 (fun h1 => ?_) (fun h1 => ?_)⟩
          · have hj0 : j = 0 := by
              have := V.int.inj (of_decide_eq_true h1)
              omega
            refine ⟨_, rfl, .inl ⟨rfl, _, SqL.of hls2⟩, _, rfl, _, rfl, _, rfl, (by show 3 ≤ sizeLine; decide), fun p hp => ?_⟩
            obtain ⟨p1, p2, p3, p4⟩ := all_push (f := fun l : Ln => [.int l.sp, .bl l.br, .bl l.du]) (y := blLn b.c b.s tt.kp du j) (tv := [.int b.s, .bl tt.kp, .bl du]) hls2 hall2 hp (by rw [hj0]; rfl)
            exact ⟨q, _, _, rfl, rfl, p3, hsz, _, _, rfl, fun u o e => p4 u o (fun r => by rw [r, hq] at e; cases e) (s2 _ _ e), p1, p2⟩
          · have hj0 : ¬ j = 0 := fun r => h1 (decide_eq_true (by rw [r]; rfl))
            refine ⟨_, rfl, .inl ⟨rfl, _, SqL.of hls2⟩, _, rfl, _, rfl, _, _, rfl, rfl, (by show 2 ≤ sizeLine; decide), fun u hu => ⟨u, _, rfl, .inr (SqT.of upd_same), rfl, rfl, (by show 3 ≤ sizeLine; decide), fun p hp => ?_⟩⟩
            have nuq : q ≠ u := fun r => by rw [← r, hls2] at hu; cases hu
            have hls3 : (upd H2 u (.tup [V.int 1, V.int ((b.c : Int) - 1)])) q = some (.lst ls') := (upd_ne nuq).trans hls2
            have hall3 := lnMono (Tups.new (o := .tup [V.int 1, V.int ((b.c : Int) - 1)]) hu) hall2
            have eb2 : blLn b.c b.s tt.kp du j = ⟨0, decide ((j : Int) = 1 ∨ (j : Int) = (b.c : Int) - 1), false⟩ := by unfold blLn; rw [if_neg hj0]
            obtain ⟨p1, p2, p3, p4⟩ := all_push (f := fun l : Ln => [.int l.sp, .bl l.br, .bl l.du]) (y := blLn b.c b.s tt.kp du j) (tv := [.int 0, .bl (inV (.int (0 + (j : Int))) [V.int 1, V.int ((b.c : Int) - 1)]), .bl false]) hls3 hall3 hp (by rw [eb2, in_two, z0])
            exact ⟨q, _, _, rfl, rfl, p3, hsz, _, _, rfl, fun v o e => p4 v o (fun r => by rw [r, hq] at e; cases e) (same_new hu _ _ (s2 _ _ e)), p1, p2⟩
        · rintro σ H2 ⟨y8', ls', rfl, s2, hls2, hall2⟩
          have e0 : ((b.c : Nat) : Int).toNat = b.c := Int.toNat_natCast _
          rw [e0] at hall2
          refine ⟨_, rfl, _, _, rfl, rfl, _, rfl, ite2 (fun h1 => ?_) (fun h1 => ?_)⟩
          · have hc : ¬ b.c = 0 := by
              have := of_decide_eq_true h1
              omega
            refine ⟨_, rfl, _, _, rfl, some (.int (b.c : Int)), some (.int b.s), some (.bl b.k), some (.bl b.g), y8', ls', ?_, s2, hls2, ?_⟩
            · unfold stepB
              rw [if_neg hc, if_neg hc]
              rfl
            · unfold stepB
              rw [hdu]
              exact hall2
          · have hc : b.c = 0 := by
              have : ¬ (b.c : Int) > 0 := fun r => h1 (decide_eq_true r)
              omega
            refine ⟨some (.int (b.c : Int)), some (.int b.s), some (.bl b.k), some (.bl b.g), y8', ls', ?_, s2, hls2, ?_⟩
            · unfold stepB
              rw [if_pos hc, if_pos hc, hdu]
            · unfold stepB
              rw [hdu]
              exact hall2
      · rintro σ H' ⟨y4, y5, y6, y7, y8, ls, rfl, s1, hls, hall⟩
        rw [hlen, List.take_of_length_le (Nat.le_refl _)] at hall
        exact ⟨_, rfl, k q H' ls hq s1 hls hall B.len⟩
end
end Pa
set_option maxRecDepth 100000
set_option maxHeartbeats 4000000
namespace Pa
open PySem PySem.Spec PyProof.Rows L2
/-! ### two loops in one comprehension -/
section
variable {J : It} {n : Nat} {G : Hp → Prop} {Y : Nat → Hp → V → Hp → Prop}
theorem lc2_out (w : Walk J n G Y) {g : TG} {tt : TT} {Inner : L2.St → Hp → (Hp → Prop) → Prop} {vs : List Nat} {σ : L2.St} {H1 : Hp} {D : Addr} {Qd : Hp → Prop} (Pv : Nat → Hp → Prop) (h0 : Pv 0 (upd H1 D (.lst []))) (hG : ∀ i H, i ≤ n → Pv i H → G H)
    (hs : ∀ i x H H', i < n → Pv i H → Y i H x H' → g x (wipe σ vs) H' fun σ2 H2 => wipe σ2 vs = wipe σ vs ∧ tt σ2 H2 fun b H3 => if b = true then Inner σ2 H3 (Pv (i + 1)) else Pv (i + 1) H3) (hd : ∀ H, Pv n H → Qd H) :
    ∃ W : Nat → Nat → Hp → Prop, (∃ m, W 0 m (upd H1 D (.lst []))) ∧ ∀ i m H, W i m H →
      (J.stop i H ∧ Qd H) ∨ (J.go i H ∧ ∃ Nx : Hp → Prop, (∀ H', Nx H' → ∃ m', m' < m ∧ W (i + 1) m' H') ∧ ∀ x H', J.yld i H x H' → g x (wipe σ vs) H' fun σ2 H2 => wipe σ2 vs = wipe σ vs ∧ tt σ2 H2 fun b H3 =>
        if b = true then Inner σ2 H3 Nx else Nx H3) := by
  refine ⟨fun i m H => m = n - i ∧ i ≤ n ∧ Pv i H, ⟨n, by simp, Nat.zero_le _, h0⟩, ?_⟩
  rintro i m H ⟨rfl, hi, p⟩
  have q := hG i H hi p
  by_cases hlt : i < n
  · exact .inr ⟨w.goes i H hlt q, Pv (i + 1), fun H' p' => ⟨n - (i + 1), by omega, rfl, hlt, p'⟩, fun x H' y => hs i x H H' hlt p (w.yields i H x H' hlt q y)⟩
  · have e : i = n := by omega
    subst e
    exact .inl ⟨w.stops H q, hd H p⟩
theorem lc2_in (w : Walk J n G Y) {g : TG} {tt : TT} {te : TE} {vs : List Nat} {σ : L2.St} {H4 : Hp} {D : Addr} {Nx : Hp → Prop} (Pv : Nat → Hp → Prop) (h0 : Pv 0 H4) (hG : ∀ i H, i ≤ n → Pv i H → G H)
    (hs : ∀ i x H H', i < n → Pv i H → Y i H x H' → g x (wipe σ vs) H' fun σ2 H2 => wipe σ2 vs = wipe σ vs ∧ tt σ2 H2 fun b H3 =>
      if b = true then te σ2 H3 fun y H7 => ∃ acc, H7 D = some (.lst acc) ∧ acc.length < sizeLine ∧ Pv (i + 1) (upd H7 D (.lst (acc ++ [y]))) else Pv (i + 1) H3) (hd : ∀ H, Pv n H → Nx H) :
    ∃ W : Nat → Nat → Hp → Prop, (∃ m, W 0 m H4) ∧ ∀ j k H, W j k H →
      (J.stop j H ∧ Nx H) ∨ (J.go j H ∧ ∃ Nx1 : Hp → Prop, (∀ H', Nx1 H' → ∃ k', k' < k ∧ W (j + 1) k' H') ∧ ∀ x H', J.yld j H x H' → g x (wipe σ vs) H' fun σ2 H2 => wipe σ2 vs = wipe σ vs ∧ tt σ2 H2 fun b H3 =>
        if b = true then te σ2 H3 fun y H7 => ∃ acc, H7 D = some (.lst acc) ∧ acc.length < sizeLine ∧ Nx1 (upd H7 D (.lst (acc ++ [y]))) else Nx1 H3) := by
  refine ⟨fun i m H => m = n - i ∧ i ≤ n ∧ Pv i H, ⟨n, by simp, Nat.zero_le _, h0⟩, ?_⟩
  rintro i m H ⟨rfl, hi, p⟩
  have q := hG i H hi p
  by_cases hlt : i < n
  · exact .inr ⟨w.goes i H hlt q, Pv (i + 1), fun H' p' => ⟨n - (i + 1), by omega, rfl, hlt, p'⟩, fun x H' y => hs i x H H' hlt p (w.yields i H x H' hlt q y)⟩
  · have e : i = n := by omega
    subst e
    exact .inl ⟨w.stops H q, hd H p⟩
end
/-! ### pages in the heap -/
def PgAt (H : Hp) (x : V) (s : List Ln) : Prop := ∃ a xs, x = .ref a ∧ H a = some (.lst xs) ∧ AllAt PlAt H xs (pgOf s)
structure PgsI (H0 H : Hp) (pg : Addr) (ras : List V) (S : List (List Ln)) : Prop where
  same : Same H0 H
  nw : H0 pg = none
  nws : ∀ a, V.ref a ∈ ras → H0 a = none ∧ a ≠ pg
  lst : H pg = some (.lst ras.reverse)
  nd : ras.Nodup
  all : AllAt PgAt H ras S
theorem AllAt.imp {α : Type} {R : Hp → V → α → Prop} {H H' : Hp} : ∀ {xs : List V} {ys : List α}, (∀ x y, x ∈ xs → R H x y → R H' x y) → AllAt R H xs ys → AllAt R H' xs ys
  | [], [], _, _ => trivial
  | x :: xs, _ :: _, f, h => ⟨f _ _ List.mem_cons_self h.1, AllAt.imp (fun x y hx => f x y (List.mem_cons_of_mem _ hx)) h.2⟩
  | [], _ :: _, _, h => h.elim
  | _ :: _, [], _, h => h.elim
theorem AllAt.rev {α : Type} {R : Hp → V → α → Prop} {H : Hp} : ∀ {xs : List V} {ys : List α}, AllAt R H xs ys → AllAt R H xs.reverse ys.reverse
  | [], [], _ => trivial
  | x :: xs, y :: ys, h => by
    rw [List.reverse_cons, List.reverse_cons]
    exact AllAt.snoc (AllAt.rev h.2) h.1
  | [], _ :: _, h => h.elim
  | _ :: _, [], h => h.elim
theorem PgsI.chg {H0 H H' : Hp} {pg a : Addr} {ras : List V} {s s' : List Ln} {S : List (List Ln)} {xs' : List V} (I : PgsI H0 H pg (.ref a :: ras) (s :: S)) (hk : ∀ q o, q ≠ a → H q = some o → H' q = some o) (ha : H' a = some (.lst xs')) (hp : AllAt PlAt H' xs' (pgOf s')) :
    PgsI H0 H' pg (.ref a :: ras) (s' :: S) := by
  obtain ⟨i1, i2, i3, i4, i5, i6⟩ := I
  obtain ⟨a0, na⟩ := i3 a List.mem_cons_self
  obtain ⟨⟨a', xs, e, hxa, _⟩, i7⟩ := i6
  cases e
  have tt : Tups H H' := fun t vs e => hk t _ (fun q => by rw [q, hxa] at e; cases e) e
  refine ⟨fun q o e => hk q o (fun r => by rw [r, a0] at e; cases e) (i1 q o e), i2, i3, hk _ _ na.symm i4, i5, ⟨a, xs', rfl, ha, hp⟩, i7.imp fun x y hx h => ?_⟩
  obtain ⟨b, ys, rfl, hb, hy⟩ := h
  have nb : b ≠ a := fun q => by
    rw [q] at hx
    exact (List.nodup_cons.mp i5).1 hx
  exact ⟨b, ys, rfl, hk _ _ nb hb, plMono tt hy⟩
theorem PgsI.keep {H0 H H' : Hp} {pg : Addr} {ras : List V} {S : List (List Ln)} (I : PgsI H0 H pg ras S) (hk : Same H H') : PgsI H0 H' pg ras S := by
  obtain ⟨i1, i2, i3, i4, i5, i6⟩ := I
  refine ⟨i1.trans hk, i2, i3, hk _ _ i4, i5, i6.mono fun x y h => ?_⟩
  obtain ⟨b, ys, rfl, hb, hy⟩ := h
  exact ⟨b, ys, rfl, hk _ _ hb, plMono (Tups.of hk) hy⟩
theorem PgsI.add {H0 H : Hp} {pg p : Addr} {ras zs : List V} {s : List Ln} {S : List (List Ln)} (I : PgsI H0 H pg ras S) (hp0 : H0 p = none) (hpn : V.ref p ∉ ras) (hpg : p ≠ pg) (hp : H p = some (.lst zs)) (hz : AllAt PlAt H zs (pgOf s)) :
    PgsI H0 (upd H pg (.lst (ras.reverse ++ [.ref p]))) pg (.ref p :: ras) (s :: S) := by
  obtain ⟨i1, i2, i3, i4, i5, i6⟩ := I
  have tt : Tups H (upd H pg (.lst (ras.reverse ++ [.ref p]))) := Tups.lst i4
  refine ⟨fun q o e => ?_, i2, fun a ha => ?_, by rw [upd_same, List.reverse_cons], List.nodup_cons.mpr ⟨hpn, i5⟩, ⟨p, zs, rfl, (upd_ne hpg).trans hp, plMono tt hz⟩, i6.imp fun x y hx h => ?_⟩
  · rw [upd_ne (fun r => by rw [r, i2] at e; cases e)]
    exact i1 q o e
  · rcases List.mem_cons.mp ha with e | e
    · cases e; exact ⟨hp0, hpg⟩
    · exact i3 a e
  · obtain ⟨b, ys, rfl, hb, hy⟩ := h
    exact ⟨b, ys, rfl, (upd_ne (i3 b hx).2).trans hb, plMono tt hy⟩
/-- what stands behind the breaks, ahead of the new line -/
def openS (L : Int) (S : List (List Ln)) (l : Ln) : List (List Ln) :=
  if l.du = true then [] :: S else match S with
  | [] => [[]]
  | seg :: S' => if lastRow seg + l.sp + 1 < L then seg :: S' else
    match (if l.br = true then cut seg else none) with
    | none => [] :: seg :: S'
    | some ab => if lastRow ab.2 + l.sp + 1 < L then ab.2 :: ab.1 :: S' else [] :: ab.2 :: ab.1 :: S'
theorem openS_step (L : Int) (S : List (List Ln)) (l : Ln) : ∃ s T, openS L S l = s :: T ∧ stepS L S l = (s ++ [l]) :: T := by
  unfold openS stepS
  split
  · exact ⟨_, _, rfl, rfl⟩
  · cases S with
    | nil => exact ⟨_, _, rfl, rfl⟩
    | cons seg S' =>
      dsimp only
      split
      · exact ⟨_, _, rfl, rfl⟩
      · cases (if l.br = true then cut seg else none) with
        | none => exact ⟨_, _, rfl, rfl⟩
        | some ab =>
          dsimp only
          split <;> exact ⟨_, _, rfl, rfl⟩
theorem openS_len (L : Int) (S : List (List Ln)) (l : Ln) : (openS L S l).length ≤ S.length + 2 := by
  unfold openS
  split
  · simp
  · cases S with
    | nil => simp
    | cons seg S' =>
      dsimp only
      split
      · simp
      · cases (if l.br = true then cut seg else none) with
        | none => simp
        | some ab =>
          dsimp only
          split <;> simp
theorem stepS_len (L : Int) (S : List (List Ln)) (l : Ln) : (stepS L S l).length ≤ S.length + 2 := by
  obtain ⟨s, T, e1, e2⟩ := openS_step L S l
  have := openS_len L S l
  rw [e1] at this
  rw [e2]
  exact this
theorem runS_len (L : Int) (ls : List Ln) : (runS L ls).length ≤ 2 * ls.length := by
  rw [← List.reverse_reverse ls]
  generalize ls.reverse = r
  induction r with
  | nil => simp [runS]
  | cons l r ih =>
    rw [List.reverse_cons, runS_snoc, List.length_append, List.length_singleton]
    have := stepS_len L (runS L r.reverse) l
    omega
theorem runS_flat (L : Int) (ls : List Ln) : (runS L ls).reverse.flatten = ls := by
  rw [← List.reverse_reverse ls]
  generalize ls.reverse = r
  induction r with
  | nil => rfl
  | cons l r ih => rw [List.reverse_cons, runS_snoc, step_flat, ih]
theorem seg_len : ∀ {S : List (List Ln)} {s : List Ln}, s ∈ S → s.length ≤ S.reverse.flatten.length
  | t :: S, s, h => by
    rw [List.reverse_cons, List.flatten_append, List.length_append]
    rcases List.mem_cons.mp h with e | e
    · rw [e]; simp
    · have := seg_len e
      omega
theorem dec_int (r z : Int) : decide (V.int r = V.int z) = decide (r = z) := by
  by_cases h : r = z
  · rw [h]; simp
  · rw [decide_eq_false h, decide_eq_false (fun q => h (V.int.inj q))]
theorem PgsI.top {B H : Hp} {pg : Addr} {ras : List V} {s : List Ln} {S : List (List Ln)} (I : PgsI B H pg ras (s :: S)) : ∃ a ras' xs, ras = .ref a :: ras' ∧ H pg = some (.lst (ras'.reverse ++ [.ref a])) ∧ H a = some (.lst xs) ∧ AllAt PlAt H xs (pgOf s) := by
  have i6 := I.all
  have i4 := I.lst
  cases ras with
  | nil => exact i6.elim
  | cons x ras =>
    obtain ⟨⟨a, xs, rfl, h1, h2⟩, _⟩ := i6
    rw [List.reverse_cons] at i4
    exact ⟨a, ras, xs, rfl, i4, h1, h2⟩
theorem top_last {H : Hp} {xs : List V} {s : List Ln} (h : AllAt PlAt H xs (pgOf s)) (hs : s ≠ []) : ∃ xs0 x b, xs = xs0 ++ [x] ∧ PlAt H x (lastRow s, b) := by
  obtain ⟨b, hb⟩ := pgOf_last hs
  rw [List.getLast?_eq_getElem?] at hb
  obtain ⟨x, hx, hp⟩ := h.to hb
  rw [← h.len, ← List.getLast?_eq_getElem?] at hx
  obtain ⟨ys, e⟩ := List.getLast?_eq_some_iff.mp hx
  exact ⟨ys, x, b, e, hp⟩
theorem at_nil {H : Hp} {xs : List V} {s : List Ln} (h : AllAt PlAt H xs (pgOf s)) : xs.isEmpty = s.isEmpty := by
  have e := h.len
  rw [pgOf_len] at e
  cases xs <;> cases s <;> first | rfl | (simp at e)
theorem pgOf_snoc' (s : List Ln) (l : Ln) : pgOf (s ++ [l]) = pgOf s ++ [(if s = [] then 0 else lastRow s + l.sp + 1, l.br)] := by
  by_cases h : s = []
  · subst h; rfl
  · rw [if_neg h]; exact pgOf_snoc h l
end Pa
set_option maxRecDepth 100000
set_option maxHeartbeats 4000000
namespace Pa
open PySem PySem.Spec PyProof.Rows L2
section
variable {P : Program} {w : World} {K : PySem.W.Frag} {mg : Str → Option Value} {base : Heap} {tp C : Addr}
def spPlain (K : PySem.W.Frag) : Sp := fun vs H Q _ => ∃ (L : Int) (a : Addr) (xs : List V) (bs : List Bl), vs = [.int L, .ref a] ∧ 2 ≤ L ∧ (SqL K H a xs ∨ SqT K H a xs) ∧ AllAt BlAt H xs bs ∧ Book bs ∧
  ∀ (p : Addr) (H' : Hp) (ys : List V), H p = none → Same H H' → H' p = some (.lst ys) → AllAt RwAt H' ys (rowsOf (runS L (linesOf bs).ls)) → Q (.ref p) H'
abbrev splain_pages : Stmt := topS 2
theorem scplain_pages : FnScope ["length", "blocks", "pages", "space", "barred", "begins", "row", "page", "_"] ["length", "blocks"] (defScope splain_pages) := ⟨rfl, rfl, rfl, by decide +kernel, rfl, by decide +kernel, by decide +kernel⟩
theorem ok_plain {f : Addr} {fd : FuncData} (F : Fun K "plain_pages" "plain_pages" splain_pages f fd) (T : Txt K mg tp C) (C__lines_of : CallOk P w K mg base 1 "_lines_of" ["blocks"] (spLines K)) (C__fits : CallOk P w K mg base 1 "_fits" ["length", "page", "space"] spFits)
    (C__taken_over : CallOk P w K mg base 1 "_taken_over" ["page", "barred"] spTaken) : FnOk P w K mg base CX0 2 f fd ["length", "blocks"] (spPlain K) := by
  refine F.ok scplain_pages (fun vs H Q E h => ?_) (fun cdv A outer s H vs Q E hr h => ?_)
  · obtain ⟨L, a, xs, bs, rfl, _⟩ := h
    rfl
  · obtain ⟨L, a, xs, bs, rfl, hL, hS, hx, Bk, k⟩ := h
    refine ⟨_, (pss_cons (ps_set (i := 2) scplain_pages.nd rfl (.inl rfl) (pe_lst pa_nil))
      (pss_cons (ps_for PassesOwn.never rfl (pi_list (pe_cc C__lines_of (hr.mono (by decide)) (by rfl) (pa_cons (pv 1) pa_nil))) (pg_tup rfl (pgs_cons (pg_name (i := 3) scplain_pages.nd rfl (.inl rfl)) (pgs_cons (pg_name (i := 4) scplain_pages.nd rfl (.inl rfl)) (pgs_cons (pg_name (i := 5) scplain_pages.nd rfl (.inl rfl)) pgs_nil))))
        (pss_cons (ps_by (ps_if (PW.pt (pw_or (pt_val (pv 5)) (pw_or1 (pt_not (pt_val (pe_cc C__fits (hr.mono (by decide)) (by rfl) (pa_cons (pv 0) (pa_cons (pe_ix ix_list (pv 2) (pe_un un_neg pe_int) (fun _ _ => rfl)) (pa_cons (pv 3) pa_nil)))))))))
          (pss_cons (ps_expr (pe_bm PySem.F.plainAttrs_list PySem.F.slot_list_append PySem.F.type_list_append mt_append (pv 2) (pa_cons (pe_ifExp (pt_val (pv 5)) (pe_lst pa_nil) (pe_cc C__taken_over (hr.mono (by decide)) (by rfl) (pa_cons (pe_ix ix_list (pv 2) (pe_un un_neg pe_int) (fun _ _ => rfl)) (pa_cons (pv 4) pa_nil)))) pa_nil)))
          (pss_one (ps_if (PW.pt (pw_and (pt_truth (pe_ix ix_list (pv 2) (pe_un un_neg pe_int) (fun _ _ => rfl)) (by intro _; rfl)) (pw_and1 (pt_not (pt_val (pe_cc C__fits (hr.mono (by decide)) (by rfl) (pa_cons (pv 0) (pa_cons (pe_ix ix_list (pv 2) (pe_un un_neg pe_int) (fun _ _ => rfl)) (pa_cons (pv 3) pa_nil)))))))))
            (pss_one (ps_expr (pe_bm PySem.F.plainAttrs_list PySem.F.slot_list_append PySem.F.type_list_append mt_append (pv 2) (pa_cons (pe_lst pa_nil) pa_nil))))
            pss_nil)))
          pss_nil))
        (pss_cons (ps_set (i := 6) scplain_pages.nd rfl (.inl rfl) (pe_pure (pe_ifExp (pt_truth (pe_ix ix_list (pv 2) (pe_un un_neg pe_int) (fun _ _ => rfl)) (by intro _; rfl)) (pe_op op_add (pe_op op_add (pe_ix ix_tup (pe_ix ix_list (pe_ix ix_list (pv 2) (pe_un un_neg pe_int) (fun _ _ => rfl)) (pe_un un_neg pe_int) (fun _ _ => rfl)) pe_int (fun _ _ => rfl)) (pv 3)) pe_int) pe_int)))
        (pss_one (ps_expr (pe_bm PySem.F.plainAttrs_list PySem.F.slot_list_append PySem.F.type_list_append mt_append (pe_ix ix_list (pv 2) (pe_un un_neg pe_int) (fun _ _ => rfl)) (pa_cons (pe_tup (pa_cons (pv 6) (pa_cons (pv 4) pa_nil))) pa_nil)))))))
      (pss_one (ps_ret (pe_lc2 (own := [("page", 7), ("row", 6), ("_", 8)]) (vs1 := [6, 8]) (wi1 := iList K (tVar 7)) (g := gName 7) (g1 := gTup K 2 (gCons (gName 6) (gCons (gName 8) gNil))) rfl scplain_pages.nd (pi_list (pv 2))
        (blkOk_by (N := ["length", "blocks", "pages", "space", "barred", "begins", "row", "page", "_"]) (sc := defScope splain_pages) (by decide +kernel)) (by decide) (fun _ _ _ _ _ => (pg_name (i := 7) scplain_pages.nd rfl (.inl rfl))) (fun _ _ _ _ _ => pts_nil) (fun _ _ _ _ _ => pi_list (pv 7))
        (fun _ _ _ _ _ => (pg_tup rfl (pgs_cons (pg_name (i := 6) scplain_pages.nd rfl (.inl rfl)) (pgs_cons (pg_name (i := 8) scplain_pages.nd rfl (.inl rfl)) pgs_nil)))) (fun _ _ _ _ _ => pts_nil)
        (fun _ _ _ _ _ => (pe_tup (pa_cons (pe_cmpR op_eq (pv 6) pe_int (nomark _)) (pa_cons (pv 6) pa_nil))))))))), ?_⟩
    refine ⟨Nat.zero_le _, fun pg hpg => ?_⟩
    have s0 : Same H (upd H pg (.lst [])) := same_new hpg
    refine ⟨_, rfl, a, xs, bs, rfl, ?_, blMono (Tups.new hpg) hx, Bk, fun q H2 ys hq s2 hys hall hlen => ?_⟩
    · rcases hS with hS | hS
      · exact .inl (seqL_mono (fun o e => s0 _ _ e) hS)
      · exact .inr (seqT_mono (fun o e => s0 _ _ e) hS)
    -- the heap without the pages
    have hpg2 : H2 pg = some (.lst []) := s2 _ _ upd_same
    obtain ⟨B, hB⟩ : ∃ B : Hp, B = fun u => if u = pg then none else H2 u := ⟨_, rfl⟩
    have Bpg : B pg = none := by rw [hB]; exact if_pos rfl
    have Bne : ∀ u, u ≠ pg → B u = H2 u := fun u hu => by rw [hB]; exact if_neg hu
    have nq : q ≠ pg := fun r => by rw [r, upd_same] at hq; cases hq
    have sB : Same B H2 := fun u o e => by
      have : u ≠ pg := fun r => by rw [r, Bpg] at e; cases e
      rw [← Bne u this]; exact e
    have sHB : Same H B := fun u o e => by
      have : u ≠ pg := fun r => by rw [r, hpg] at e; cases e
      rw [Bne u this]
      exact s2 _ _ (s0 _ _ e)
    have Bq : B q = some (.lst ys) := (Bne q nq).trans hys
    have Ball : AllAt LnAt B ys (linesOf bs).ls := hall.mono fun x y h => by
      obtain ⟨t, e, ht⟩ := h
      have : t ≠ pg := fun r => by rw [r, hpg2] at ht; cases ht
      exact ⟨t, e, (Bne t this).trans ht⟩
    obtain ⟨gl, _⟩ := good_lines bs fun b hb => (Bk.small b hb).2
    generalize (linesOf bs).ls = ls at k hall hlen Ball gl
    have hyl : ys.length = ls.length := hall.len
    have hL0 : 0 < L := by omega
    refine ⟨q, rfl, ⟨_, SqL.of hys⟩, for_list (K := K) (a := q) (xs := ys) (fun i σ H' => ∃ (y3 y4 y5 y6 : Option V) (ras : List V), σ = [some (.int L), some (.ref a), some (.ref pg), y3, y4, y5, y6, none, none] ∧ PgsI B H' pg ras (runS L (ls.take i)))
      ⟨none, none, none, none, [], rfl, ⟨sB, Bpg, (fun u hu => by cases hu), hpg2, List.nodup_nil, trivial⟩⟩ (fun i σ H' _ ⟨_, _, _, _, _, _, I⟩ => SqL.of (I.same _ _ Bq)) ?_ ?_⟩
    · rintro i x σ H' hxi ⟨y3, y4, y5, y6, ras, rfl, I⟩
      obtain ⟨l, hl, t, rfl, ht⟩ := Ball.at hxi
      have hil : i < ls.length := (List.getElem?_eq_some_iff.mp hl).1
      have et : ls.take (i + 1) = ls.take i ++ [l] := by rw [List.take_add_one, hl]; rfl
      obtain ⟨rn, rv, rf⟩ := run_ok hL0 (ls.take i) (fun z hz => gl.nn z (List.mem_of_mem_take hz)) (fun z hz => gl.first z (by
        cases i with
        | zero => simp at hz
        | succ i => cases ls with
          | nil => simp at hz
          | cons x ls => exact hz))
      have hfirst : runS L (ls.take i) = [] → l.du = true := fun e => by
        rw [e] at rf
        have h0 : i = 0 := by
          have := congrArg List.length rf
          rw [List.length_take] at this
          simp at this
          omega
        subst h0
        exact gl.first l (by rw [List.head?_eq_getElem?]; exact hl)
      have hl0 : 0 ≤ l.sp := gl.nn l (List.mem_of_getElem? hl)
      have hSl : (runS L (ls.take i)).length ≤ 4000 := by
        have := runS_len L (ls.take i)
        rw [List.length_take] at this
        omega
      have hsl : ∀ s ∈ runS L (ls.take i), s.length ≤ 2000 := fun s hs => by
        have := seg_len hs
        rw [rf, List.length_take] at this
        omega
      have hfl : (runS L (ls.take i)).reverse.flatten.length ≤ 2000 := by
        rw [rf, List.length_take]; omega
      rw [et, runS_snoc]
      generalize runS L (ls.take i) = S at I rn rv hfirst hSl hsl hfl ⊢
      refine ⟨t, _, rfl, SqT.of (I.same _ _ ht), rfl, _, _, rfl, _, _, rfl, _, _, rfl, rfl, ?_⟩
      -- the breaks
      refine ⟨fun σ' H1 => σ' = [some (.int L), some (.ref a), some (.ref pg), some (.int l.sp), some (.bl l.br), some (.bl l.du), y6, none, none] ∧ ∃ ras1, PgsI B H1 pg ras1 (openS L S l), fun N hN => ?_, ?_⟩
      · rcases twoB l.du with hd | hd
        · -- a new page is due
          have eo : openS L S l = [] :: S := by unfold openS; rw [if_pos hd]
          refine ⟨_, rfl, _, rfl, iteP hd (iteT ?_)⟩
          refine ⟨_, rfl, .inl ⟨rfl, _, SqL.of I.lst⟩, _, rfl, _, rfl, iteP hd ⟨Nat.zero_le _, fun p hp => ?_⟩⟩
          have s1 := same_new (o := .lst []) hp
          have I1 := I.keep s1
          have hpr : V.ref p ∉ ras := fun q => by
            obtain ⟨j, hj⟩ := List.getElem?_of_mem q
            obtain ⟨s', _, b, zs, e, hb, _⟩ := I.all.at hj
            cases e
            rw [hp] at hb; cases hb
          have hppg : p ≠ pg := fun r => by rw [r, I.lst] at hp; cases hp
          have I2 := I1.add (I.same.free hp) hpr hppg upd_same (s := []) trivial
          refine ⟨pg, _, _, rfl, rfl, I1.lst, ?_, ?_⟩
          · rw [List.length_reverse, I.all.len]; exact Nat.lt_of_le_of_lt hSl (by decide)
          refine ⟨_, rfl, _, rfl, pg, _, _, _, rfl, rfl, SqL.of upd_same, atI_last _ _, _, .inl ⟨_, SqL.of ((upd_ne hppg).trans upd_same), rfl⟩, iteF (iteF ?_)⟩
          exact hN _ _ ⟨rfl, _, by rw [eo]; exact I2⟩
        · cases S with
          | nil => rw [hfirst rfl] at hd; cases hd
          | cons seg S' =>
            have hne : seg ≠ [] := rv.1.1
            obtain ⟨ca, ras0, cx, rfl, hpgl, hca, hcx⟩ := I.top
            obtain ⟨cx0, cl, cb, rfl, hcl⟩ := top_last hcx hne
            have hd' : ¬ l.du = true := neT hd
            refine ⟨_, rfl, _, rfl, iteQ hd' ?_⟩
            refine ⟨_, rfl, _, rfl, _, rfl, pg, _, _, _, rfl, rfl, SqL.of hpgl, atI_last _ _, _, rfl, L, l.sp, ca, cx0, cl, _, rfl, hca, hcl, _, rfl, ?_⟩
            by_cases hf : lastRow seg + l.sp + 1 < L
            · have eo : openS L (seg :: S') l = seg :: S' := by unfold openS; rw [if_neg hd']; dsimp only; rw [if_pos hf]
              rw [decide_eq_true hf]
              refine iteF ?_
              exact hN _ _ ⟨rfl, _, by rw [eo]; exact I⟩
            · rw [decide_eq_false hf]
              refine iteT ?_
              refine ⟨_, rfl, .inl ⟨rfl, _, SqL.of hpgl⟩, _, rfl, _, rfl, iteQ hd' ?_⟩
              refine ⟨_, rfl, _, rfl, pg, _, _, _, rfl, rfl, SqL.of hpgl, atI_last _ _, _, rfl, ca, l.br, cx0 ++ [cl], seg, rfl, hca, hcx, hne, Nat.le_trans (hsl seg List.mem_cons_self) (by decide), fun p H3 zs o hp ho hzs hkeep hnone hsome => ?_⟩
              have hppg : p ≠ pg := fun r => by rw [r, hpgl] at hp; cases hp
              have hpca : p ≠ ca := fun r => by rw [r, hca] at hp; cases hp
              have hpr : V.ref p ∉ V.ref ca :: ras0 := fun q => by
                obtain ⟨j, hj⟩ := List.getElem?_of_mem q
                obtain ⟨s', _, b, zs, e, hb, _⟩ := I.all.at hj
                cases e
                rw [hp] at hb; cases hb
              have npc : pg ≠ ca := (I.nws ca List.mem_cons_self).2.symm
              have hpg3 : H3 pg = some (.lst (V.ref ca :: ras0).reverse) := by rw [List.reverse_cons]; exact hkeep _ _ npc hpgl
              have hsz : (V.ref ca :: ras0).reverse.length < sizeLine := by
                rw [List.length_reverse, I.all.len]; exact Nat.lt_of_le_of_lt hSl (by decide)
              refine ⟨pg, _, _, rfl, rfl, hpg3, hsz, ?_⟩
              cases o with
              | none =>
                obtain ⟨rfl, hca3⟩ := hnone rfl
                have I2 := I.chg (s' := seg) hkeep hca3 (plMono (fun t vs e => hkeep t _ (fun q => by rw [q, hca] at e; cases e) e) hcx)
                have I3 := I2.add (I.same.free hp) hpr hppg hzs (s := []) trivial
                have eo : openS L (seg :: S') l = [] :: seg :: S' := by unfold openS; rw [if_neg hd']; dsimp only; rw [if_neg hf, ← ho]
                refine ⟨_, rfl, _, rfl, pg, _, _, _, rfl, rfl, SqL.of upd_same, atI_last _ _, _, .inl ⟨_, SqL.of ((upd_ne hppg).trans hzs), rfl⟩, iteF (iteF ?_)⟩
                exact hN _ _ ⟨rfl, _, by rw [eo]; exact I3⟩
              | some ab =>
                obtain ⟨hz2, ys2, hca3, hys2⟩ := hsome ab rfl
                obtain ⟨u, v⟩ := ab
                have hc : cut seg = some (u, v) := by
                  split at ho
                  · exact ho.symm
                  · cases ho
                obtain ⟨_, _, vy, v', ev, _, _⟩ := cut_spec hc
                have hvne : v ≠ [] := by rw [ev]; simp
                have I2 := I.chg (s' := u) hkeep hca3 hys2
                have I3 := I2.add (I.same.free hp) hpr hppg hzs hz2
                obtain ⟨zs0, zl, zb, rfl, hzl⟩ := top_last hz2 hvne
                have tt : Tups H3 (upd H3 pg (.lst ((V.ref ca :: ras0).reverse ++ [.ref p]))) := Tups.lst hpg3
                have hemp : (zs0 ++ [zl]).isEmpty = false := by simp
                refine ⟨_, rfl, _, rfl, pg, _, _, _, rfl, rfl, SqL.of upd_same, atI_last _ _, _, .inl ⟨_, SqL.of ((upd_ne hppg).trans hzs), rfl⟩, ?_⟩
                rw [hemp]
                refine iteT ?_
                refine ⟨_, rfl, _, rfl, _, rfl, pg, _, _, _, rfl, rfl, SqL.of upd_same, atI_last _ _, _, rfl, L, l.sp, p, zs0, zl, _, rfl, (upd_ne hppg).trans hzs, TupAt.mono tt hzl, _, rfl, ?_⟩
                by_cases hf2 : lastRow v + l.sp + 1 < L
                · have eo : openS L (seg :: S') l = v :: u :: S' := by unfold openS; rw [if_neg hd']; dsimp only; rw [if_neg hf, ← ho]; dsimp only; rw [if_pos hf2]
                  rw [decide_eq_true hf2]
                  refine iteF ?_
                  exact hN _ _ ⟨rfl, _, by rw [eo]; exact I3⟩
                · have eo : openS L (seg :: S') l = [] :: v :: u :: S' := by unfold openS; rw [if_neg hd']; dsimp only; rw [if_neg hf, ← ho]; dsimp only; rw [if_neg hf2]
                  rw [decide_eq_false hf2]
                  refine iteT ?_
                  refine ⟨_, rfl, .inl ⟨rfl, _, SqL.of upd_same⟩, Nat.zero_le _, fun p2 hp2 => ?_⟩
                  have I4 := I3.keep (same_new (o := .lst []) hp2)
                  have h2pg : p2 ≠ pg := fun r => by rw [r, upd_same] at hp2; cases hp2
                  have hp2r : V.ref p2 ∉ V.ref p :: V.ref ca :: ras0 := fun q => by
                    obtain ⟨j, hj⟩ := List.getElem?_of_mem q
                    obtain ⟨s', _, b, zs, e, hb, _⟩ := I3.all.at hj
                    cases e
                    rw [hp2] at hb; cases hb
                  have I5 := I4.add (I3.same.free hp2) hp2r h2pg upd_same (s := []) trivial
                  refine ⟨pg, _, _, rfl, rfl, (I4.lst.trans (congrArg (fun z => some (HO.lst z)) List.reverse_cons)), ?_, ?_⟩
                  · rw [List.length_append, List.length_singleton, List.length_reverse, I.all.len]; exact Nat.lt_of_le_of_lt (Nat.add_le_add_right hSl 1) (by decide)
                  · refine hN _ _ ⟨rfl, V.ref p2 :: V.ref p :: V.ref ca :: ras0, ?_⟩
                    rw [eo]
                    rw [show (V.ref p :: V.ref ca :: ras0).reverse = (V.ref ca :: ras0).reverse ++ [V.ref p] from List.reverse_cons] at I5
                    exact I5
      · rintro σ' H1 ⟨rfl, ras1, I1⟩
        obtain ⟨s1, T1, e1, e2⟩ := openS_step L S l
        rw [e1] at I1
        rw [e2]
        obtain ⟨ca, ras0, cx, rfl, hpgl, hca, hcx⟩ := I1.top
        refine ⟨.int (if s1 = [] then 0 else lastRow s1 + l.sp + 1), fun Q' hQ => ?_, ?_⟩
        · refine ⟨_, rfl, _, rfl, pg, _, _, _, rfl, rfl, SqL.of hpgl, atI_last _ _, _, .inl ⟨_, SqL.of hca, rfl⟩, ?_⟩
          rw [at_nil hcx]
          by_cases hs : s1 = []
          · subst hs
            exact iteF hQ
          · obtain ⟨cx0, cl, cb, rfl, tl, rfl, htl⟩ := top_last hcx hs
            rw [if_neg hs] at hQ
            have : s1.isEmpty = false := by cases s1 with | nil => exact absurd rfl hs | cons _ _ => rfl
            rw [this]
            refine iteT ⟨_, rfl, _, rfl, pg, _, _, _, rfl, rfl, SqL.of hpgl, atI_last _ _, _, rfl, ca, _, _, _, rfl, rfl, SqL.of hca, atI_last _ _, tl, _, _, _, rfl, rfl, SqT.of htl, atI_nat (j := 0) rfl, _, rfl, _, _, rfl, rfl, _, _, rfl, rfl, ?_⟩
            exact hQ
        · refine ⟨_, rfl, _, rfl, pg, _, _, _, rfl, rfl, SqL.of hpgl, atI_last _ _, .inl ⟨rfl, _, SqL.of hca⟩, _, rfl, _, rfl, (by show 2 ≤ sizeLine; decide), fun t ht => ?_⟩
          obtain ⟨p1, p2, p3, p4⟩ := all_push (f := fun y : Int × Bool => [.int y.1, .bl y.2]) (y := (if s1 = [] then 0 else lastRow s1 + l.sp + 1, l.br)) (tv := [.int (if s1 = [] then 0 else lastRow s1 + l.sp + 1), .bl l.br]) hca hcx ht rfl
          refine ⟨ca, _, _, rfl, rfl, p3, ?_, some (.int l.sp), some (.bl l.br), some (.bl l.du), some (.int (if s1 = [] then 0 else lastRow s1 + l.sp + 1)), _, rfl, I1.chg p4 p1 (by rw [pgOf_snoc']; exact p2)⟩
          have hmem : s1 ++ [l] ∈ stepS L S l := by rw [e2]; exact List.mem_cons_self
          have h9 : s1.length ≤ 3000 := by
            have h1 := seg_len hmem
            rw [step_flat] at h1
            simp only [List.length_append, List.length_singleton] at h1
            omega
          have hcl := hcx.len
          rw [pgOf_len] at hcl
          rw [hcl]
          exact Nat.lt_of_le_of_lt h9 (by decide)
    · rintro σ H' ⟨y3, y4, y5, y6, ras, rfl, I⟩
      rw [hyl, List.take_of_length_le (Nat.le_refl _)] at I
      have hfl : (runS L ls).reverse.flatten = ls := runS_flat L ls
      have hall2 : AllAt PgAt H' ras.reverse (runS L ls).reverse := I.all.rev
      generalize hS2 : runS L ls = S at I hall2 hfl k
      refine ⟨_, rfl, pg, rfl, ⟨_, SqL.of I.lst⟩, fun D hD => ?_⟩
      have hRows : ∀ i (s : List Ln), S.reverse[i]? = some s → (((S.reverse.take (i + 1)).map pgOf).flatten).map (·.1) = ((((S.reverse.take i).map pgOf).flatten).map (·.1)) ++ (pgOf s).map (·.1) := fun i s h => by
        rw [List.take_add_one, h]
        simp
      have hcnt : ∀ i, ((((S.reverse.take i).map pgOf).flatten).map (·.1)).length ≤ 2000 := fun i => by
        have e1 : (((S.reverse.take i).map pgOf).flatten).length = ((S.reverse.take i).flatten).length := by
          rw [List.length_flatten, List.length_flatten, List.map_map]
          congr 1
          apply List.map_congr_left
          intro s _
          exact pgOf_len s
        rw [List.length_map, e1]
        have e2 : ((S.reverse.take i).flatten).length + ((S.reverse.drop i).flatten).length = ls.length := by
          rw [← List.length_append, ← List.flatten_append, List.take_append_drop, hfl]
        omega
      refine lc2_out (walk_list (K := K) (a := pg) (xs := ras.reverse)) (fun i H3 => Same H' H3 ∧ ∃ acc, H3 D = some (.lst acc) ∧ AllAt RwAt H3 acc ((((S.reverse.take i).map pgOf).flatten).map (·.1))) ⟨same_new hD, [], upd_same, trivial⟩ (fun i H3 _ q => SqL.of (q.1 _ _ I.lst)) ?_ ?_
      · rintro i x H3 H4 hi ⟨s3, acc, hacc, hra⟩ ⟨rfl, hxi⟩
        obtain ⟨sg, hsg, b, cx, rfl, hb, hcx⟩ := hall2.at hxi
        refine ⟨rfl, ?_⟩
        refine ⟨_, rfl, b, rfl, ⟨_, SqL.of (s3 _ _ hb)⟩, ?_⟩
        have hcl : cx.length = (pgOf sg).length := hcx.len
        refine lc2_in (walk_list (K := K) (a := b) (xs := cx)) (fun j H5 => Same H' H5 ∧ ∃ acc, H5 D = some (.lst acc) ∧ AllAt RwAt H5 acc (((((S.reverse.take i).map pgOf).flatten).map (·.1)) ++ ((pgOf sg).take j).map (·.1))) ⟨s3, acc, hacc, by simpa using hra⟩ (fun j H5 _ q => SqL.of (q.1 _ _ hb)) ?_ ?_
        · rintro j x H5 H6 hj ⟨s5, acc5, hacc5, hra5⟩ ⟨rfl, hxj⟩
          obtain ⟨y, hy, t, rfl, ht⟩ := hcx.at hxj
          refine ⟨t, _, rfl, SqT.of (s5 _ _ ht), rfl, _, _, rfl, _, _, rfl, rfl, rfl, ?_⟩
          refine ⟨_, rfl, rfl, _, rfl, (by show 2 ≤ sizeLine; decide), fun p hp => ?_⟩
          obtain ⟨p1, p2, p3, p4⟩ := all_push (f := fun r : Int => [.bl (decide (r = 0)), .int r]) (y := y.1) (tv := [.bl (decide (V.int y.1 = V.int 0)), .int y.1]) hacc5 hra5 hp (by rw [dec_int])
          refine ⟨acc5, p3, ?_, fun q o e => p4 q o (fun r => by rw [r, hD] at e; cases e) (s5 _ _ e), _, p1, ?_⟩
          · have h1 := hra5.len
            have h2 := hcnt (i + 1)
            rw [hRows i sg hsg] at h2
            simp only [List.length_append, List.length_map, List.length_take] at h1 h2
            exact Nat.lt_of_le_of_lt (m := 5000) (by omega) (by decide)
          · have et : (pgOf sg).take (j + 1) = (pgOf sg).take j ++ [y] := by rw [List.take_add_one, hy]; rfl
            rw [et, List.map_append, ← List.append_assoc]
            exact p2
        · rintro H5 ⟨s5, acc5, hacc5, hra5⟩
          have hr : (pgOf sg).take (pgOf sg).length = pgOf sg := List.take_length
          rw [hcl, hr, ← hRows i sg hsg] at hra5
          exact ⟨s5, acc5, hacc5, hra5⟩
      · rintro H3 ⟨s3, acc, hacc, hra⟩
        have hl2 : ras.reverse.length = S.reverse.length := hall2.len
        rw [hl2, List.take_of_length_le (Nat.le_refl _)] at hra
        have sH : Same H H3 := (sHB.trans I.same).trans s3
        exact k D H3 acc (((sHB.trans I.same)).free hD) sH hacc hra
end
end Pa
set_option maxRecDepth 100000
set_option maxHeartbeats 4000000
namespace Pa
open PySem PySem.Spec PyProof.Rows L2
/-! ### methods, by one fact each -/
structure MethOk (P : Program) (w : World) (K : PySem.W.Frag) (mg : Str → Option Value) (base : Heap) (C : Addr) (k : Nat) (m : Str) (ps : List Str) (sp : Sp) : Prop where
  ok : ∃ (f : Addr) (fd : FuncData), Meth K C m f ∧ Binds K fd ps [] ∧ FnOk P w K mg base CX0 k f fd ps sp
section
variable {X : Cx} {k : Nat} {ps : List Str} {sp : Sp} {m : Str} {C : Addr} {apos pos : Pos} {o e : Expr} {es : List Expr} {t : TA} {ta : TE} {pl : Sem Bool}
theorem pe_mc (he : PE X o ta) (c : Cls X.K C) (M : MethOk X.prog X.w X.K X.mg X.base C k m ps sp) (hr : Room k X.A) (ha : PA X (e :: es) t)
    (hst : starEach (e :: es) X.env = (false, eval e X.env) :: starEach es X.env := by rfl) (hpl : (backTo pos (starEach es X.env)).any (·.1) = false := by rfl)
    (ht : eval (.Call (.Attribute o m apos) (e :: es) [] pos) X.env = (do
      let z ← eval o X.env
      standAt apos.atName
      let (f, first) ← holding [z] (getMethod z m pl)
      callWith pos f first (backTo pos (starEach (e :: es) X.env)) (backToKw pos (keywordEach [] X.env))) := by rfl) :
    PE X (.Call (.Attribute o m apos) (e :: es) [] pos) (tMeth C m sp [] E0 ta t) := by
  obtain ⟨f, fd, h1, h2, h3⟩ := M.ok
  exact pe_meth he c h1 h3 hr h2 .nil pass0 ha hst hpl ht
theorem pe_mc0 (he : PE X o ta) (c : Cls X.K C) (M : MethOk X.prog X.w X.K X.mg X.base C k m ps sp) (hr : Room k X.A)
    (ht : eval (.Call (.Attribute o m apos) [] [] pos) X.env = (do
      let z ← eval o X.env
      standAt apos.atName
      let (f, first) ← holding [z] (getMethod z m pl)
      callWith pos f first (backTo pos (starEach [] X.env)) (backToKw pos (keywordEach [] X.env))) := by rfl) :
    PE X (.Call (.Attribute o m apos) [] [] pos) (tMeth C m sp [] E0 ta tNil) := by
  obtain ⟨f, fd, h1, h2, h3⟩ := M.ok
  exact pe_meth0 he c h1 h3 hr h2 .nil pass0 ht
end
/-! ### a Page's attributes -/
def pf (L : Int) (st rl : Addr) (lo : Int) : List (Str × V) := [("length", .int L), ("_standing", .ref st), ("_rows", .ref rl), ("_loose", .int lo), ("_went_over", .bl false)]
section
variable (L : Int) (st rl : Addr) (lo : Int)
theorem pf_length : (pf L st rl lo).lookup ("length" : Str) = some (.int L) := rfl
theorem pf_standing : (pf L st rl lo).lookup ("_standing" : Str) = some (.ref st) := rfl
theorem pf_rows : (pf L st rl lo).lookup ("_rows" : Str) = some (.ref rl) := rfl
theorem pf_loose : (pf L st rl lo).lookup ("_loose" : Str) = some (.int lo) := rfl
theorem pf_went : (pf L st rl lo).lookup ("_went_over" : Str) = some (.bl false) := rfl
theorem put_standing (st' : Addr) : putF "_standing" (.ref st') (pf L st rl lo) = pf L st' rl lo := rfl
theorem put_loose (lo' : Int) : putF "_loose" (.int lo') (pf L st rl lo) = pf L st rl lo' := rfl
theorem no_settle : (pf L st rl lo).lookup ("_settle" : Str) = none := rfl
theorem no_put : (pf L st rl lo).lookup ("_put" : Str) = none := rfl
theorem no_over : (pf L st rl lo).lookup ("_go_over" : Str) = none := rfl
theorem no_begin : (pf L st rl lo).lookup ("begin" : Str) = none := rfl
theorem no_block : (pf L st rl lo).lookup ("block" : Str) = none := rfl
theorem no_finish : (pf L st rl lo).lookup ("finish" : Str) = none := rfl
theorem put_all (L : Int) (st rl : Addr) (lo : Int) : putF "_went_over" (.bl false) (putF "_loose" (.int lo) (putF "_rows" (.ref rl) (putF "_standing" (.ref st) (putF "length" (.int L) [])))) = pf L st rl lo := rfl
end
structure PA' (C : Addr) (L : Int) (x dx rl st : Addr) (lo : Int) (rows : List Int) (H : Hp) : Prop where
  ob : H x = some (.ins C dx (pf L st rl lo))
  rs : H rl = some (.lst (rows.map V.int))
def Keep (x rl : Addr) (H H' : Hp) : Prop := ∀ a o, a ≠ x → a ≠ rl → H a = some o → H' a = some o
theorem Keep.trans {x rl : Addr} {H H1 H2 : Hp} (a : Keep x rl H H1) (b : Keep x rl H1 H2) : Keep x rl H H2 := fun u o h1 h2 e => b u o h1 h2 (a u o h1 h2 e)
theorem Keep.of {x rl : Addr} {H H' : Hp} (a : Same H H') : Keep x rl H H' := fun u o _ _ e => a u o e
section
variable {C x dx rl st : Addr} {L lo : Int} {rows : List Int} {H H' : Hp}
theorem PA'.ne (h : PA' C L x dx rl st lo rows H) : x ≠ rl := fun q => by
  have e1 := h.ob
  rw [q, h.rs] at e1
  cases e1
theorem PA'.same (h : PA' C L x dx rl st lo rows H) (s : Same H H') : PA' C L x dx rl st lo rows H' := ⟨s _ _ h.ob, s _ _ h.rs⟩
theorem PA'.put (h : PA' C L x dx rl st lo rows H) (st' : Addr) (lo' : Int) : PA' C L x dx rl st' lo' rows (upd H x (.ins C dx (pf L st' rl lo'))) ∧ Keep x rl H (upd H x (.ins C dx (pf L st' rl lo'))) :=
  ⟨⟨upd_same, (upd_ne h.ne.symm).trans h.rs⟩, fun a o h1 _ e => (upd_ne h1).trans e⟩
theorem PA'.row (h : PA' C L x dx rl st lo rows H) (rows' : List Int) : PA' C L x dx rl st lo rows' (upd H rl (.lst (rows'.map V.int))) ∧ Keep x rl H (upd H rl (.lst (rows'.map V.int))) :=
  ⟨⟨(upd_ne h.ne).trans h.ob, upd_same⟩, fun a o _ h2 e => (upd_ne h2).trans e⟩
end
section
variable {P : Program} {w : World} {K : PySem.W.Frag} {mg : Str → Option Value} {base : Heap} {tp C : Addr}
/-! ### _settle -/
def spSettle (C : Addr) : Sp := fun vs H Q _ => ∃ (x dx rl st : Addr) (L lo : Int) (rows : List Int), vs = [.ref x] ∧ PA' C L x dx rl st lo rows H ∧ ∀ H', PA' C L x dx rl st 0 rows H' → Keep x rl H H' → Q .non H'
abbrev sPage__settle : Stmt := inClass (topS 13) 6
theorem scPage__settle : FnScope ["self"] ["self"] (defScope sPage__settle) := ⟨rfl, rfl, rfl, by decide +kernel, rfl, by decide +kernel, by decide +kernel⟩
theorem ok_settle {f : Addr} {fd : FuncData} (F : Fun K "_settle" "Page._settle" sPage__settle f fd) (T : Txt K mg tp C) : FnOk P w K mg base CX0 1 f fd ["self"] (spSettle C) := by
  refine F.ok scPage__settle (fun vs H Q E h => ?_) (fun cdv A outer s H vs Q E hr h => ?_)
  · obtain ⟨x, dx, rl, st, L, lo, rows, rfl, _⟩ := h
    rfl
  · obtain ⟨x, dx, rl, st, L, lo, rows, rfl, pa, k⟩ := h
    refine ⟨_, (pss_cons (ps_fld (pv 0) pe_int rfl)
      (pss_one (ps_if (pt_cmpR op_isN (pe_fld (pv 0) rfl) pe_non (nomark _))
        (pss_one (ps_fld (pv 0) pe_bl rfl))
        pss_nil))), ?_⟩
    obtain ⟨p1, p2⟩ := pa.put st 0
    refine ⟨_, rfl, x, C, dx, _, rfl, pa.ob, T.cl, T.nO, (by show 5 < 1000; decide), ?_⟩
    rw [put_loose]
    refine ⟨_, rfl, x, C, dx, _, _, rfl, p1.ob, T.cl, T.nW, pf_went _ _ _ _, rfl, _, rfl, iteF ?_⟩
    exact k _ p1 p2
/-! ### begin -/
def spBegin (C tp : Addr) : Sp := fun vs H Q _ => ∃ (x dx rl st : Addr) (L lo : Int) (rows : List Int), vs = [.ref x] ∧ PA' C L x dx rl st lo rows H ∧ ∀ H', PA' C L x dx rl tp 0 rows H' → Keep x rl H H' → Q .non H'
abbrev sPage_begin : Stmt := inClass (topS 13) 2
theorem scPage_begin : FnScope ["self"] ["self"] (defScope sPage_begin) := ⟨rfl, rfl, rfl, by decide +kernel, rfl, by decide +kernel, by decide +kernel⟩
theorem ok_begin {f : Addr} {fd : FuncData} (F : Fun K "begin" "Page.begin" sPage_begin f fd) (T : Txt K mg tp C) (M__settle : MethOk P w K mg base C 1 "_settle" ["self"] (spSettle C)) : FnOk P w K mg base CX0 2 f fd ["self"] (spBegin C tp) := by
  refine F.ok scPage_begin (fun vs H Q E h => ?_) (fun cdv A outer s H vs Q E hr h => ?_)
  · obtain ⟨x, dx, rl, st, L, lo, rows, rfl, _⟩ := h
    rfl
  · obtain ⟨x, dx, rl, st, L, lo, rows, rfl, pa, k⟩ := h
    refine ⟨_, (pss_cons (ps_fld (pv 0) (pe_glob (v := .ref tp) (by rfl) T.g_TOP rfl) rfl)
      (pss_one (ps_expr (pe_mc0 (pv 0) T.cl M__settle (hr.mono (by decide)))))), ?_⟩
    obtain ⟨p1, p2⟩ := pa.put tp lo
    refine ⟨_, rfl, x, C, dx, _, rfl, pa.ob, T.cl, T.nS, (by show 5 < 1000; decide), ?_⟩
    rw [put_standing]
    refine ⟨_, rfl, x, dx, _, rfl, p1.ob, no_settle _ _ _ _, x, dx, rl, tp, L, lo, rows, rfl, p1, fun H2 q1 q2 => ?_⟩
    exact k _ q1 (p2.trans q2)
/-! ### _put -/
def spPut (C : Addr) : Sp := fun vs H Q _ => ∃ (x dx rl st : Addr) (L lo h t : Int) (rows : List Int), vs = [.ref x, .int h, .int t] ∧ PA' C L x dx rl st lo rows H ∧ rows.length ≤ 100000 ∧ ∀ H', PA' C L x dx rl st (if t > 1 then lo + 1 else t) (rows ++ [h - 1]) H' → Keep x rl H H' → Q .non H'
abbrev sPage__put : Stmt := inClass (topS 13) 4
theorem scPage__put : FnScope ["self", "height", "tail"] ["self", "height", "tail"] (defScope sPage__put) := ⟨rfl, rfl, rfl, by decide +kernel, rfl, by decide +kernel, by decide +kernel⟩
theorem ok_put {f : Addr} {fd : FuncData} (F : Fun K "_put" "Page._put" sPage__put f fd) (T : Txt K mg tp C) (M__settle : MethOk P w K mg base C 1 "_settle" ["self"] (spSettle C)) : FnOk P w K mg base CX0 2 f fd ["self", "height", "tail"] (spPut C) := by
  refine F.ok scPage__put (fun vs H Q E h => ?_) (fun cdv A outer s H vs Q E hr h => ?_)
  · obtain ⟨x, dx, rl, st, L, lo, h, t, rows, rfl, _⟩ := h
    rfl
  · obtain ⟨x, dx, rl, st, L, lo, h, t, rows, rfl, pa, hlen, k⟩ := h
    refine ⟨_, (pss_cons (ps_expr (pe_bm PySem.F.plainAttrs_list PySem.F.slot_list_append PySem.F.type_list_append mt_append (pe_fld (pv 0) rfl) (pa_cons (pe_op op_sub (pv 1) pe_int) pa_nil)))
      (pss_one (ps_if (pt_cmpR op_gt (pv 2) pe_int (nomark _))
        (pss_one (ps_fldaug (pv 0) pe_int in_add))
        (pss_cons (ps_expr (pe_mc0 (pv 0) T.cl M__settle (hr.mono (by decide))))
        (pss_one (ps_fld (pv 0) (pv 2) rfl)))))), ?_⟩
    obtain ⟨p1, p2⟩ := pa.row (rows ++ [h - 1])
    have em : (rows ++ [h - 1]).map V.int = rows.map V.int ++ [.int (h - 1)] := by simp
    rw [em] at p1 p2
    refine ⟨_, rfl, x, C, dx, _, _, rfl, pa.ob, T.cl, T.nR, pf_rows _ _ _ _, .inl ⟨rfl, _, SqL.of pa.rs⟩, _, rfl, _, _, rfl, rfl, rl, _, _, rfl, rfl, pa.rs, ?_, ?_⟩
    · rw [List.length_map]; exact Nat.lt_of_le_of_lt hlen (by decide)
    refine ⟨_, rfl, _, _, rfl, rfl, _, rfl, ite2 (fun h1 => ?_) (fun h1 => ?_)⟩
    · rw [if_pos (of_decide_eq_true h1)] at k
      obtain ⟨q1, q2⟩ := p1.put st (lo + 1)
      refine ⟨_, rfl, x, C, dx, _, _, rfl, p1.ob, T.cl, T.nO, pf_loose _ _ _ _, _, _, rfl, rfl, dx, _, p1.ob, (by show 5 < 1000; decide), ?_⟩
      rw [put_loose]
      exact k _ q1 (p2.trans q2)
    · rw [if_neg (fun r => h1 (decide_eq_true r))] at k
      refine ⟨_, rfl, x, dx, _, rfl, p1.ob, no_settle _ _ _ _, x, dx, rl, st, L, lo, _, rfl, p1, fun H2 q1 q2 => ?_⟩
      obtain ⟨r1, r2⟩ := q1.put st t
      refine ⟨_, rfl, _, rfl, x, C, dx, _, rfl, q1.ob, T.cl, T.nO, (by show 5 < 1000; decide), ?_⟩
      rw [put_loose]
      exact k _ r1 ((p2.trans q2).trans r2)
end
end Pa
set_option maxRecDepth 100000
set_option maxHeartbeats 4000000
namespace Pa
open PySem PySem.Spec PyProof.Rows L2
theorem cutV_from {xs : List V} {n : Nat} (h : n ≤ xs.length) : cutV xs (some (n : Int)) none = xs.drop n := by
  unfold cutV
  rw [HT.sIx_nat, HT.sIx_none, Nat.min_eq_left h]
  exact List.take_of_length_le (by rw [List.length_drop]; exact Nat.le_refl _)
theorem looseOf_le (s : List Ln) : 0 ≤ looseOf s ∧ looseOf s ≤ (s.length : Int) := by
  unfold looseOf
  cases hc : cut s with
  | none => exact ⟨Int.le_refl _, Int.natCast_nonneg _⟩
  | some ab =>
    obtain ⟨a, b⟩ := ab
    obtain ⟨e, _, _⟩ := cut_spec hc
    have := congrArg List.length e
    rw [List.length_append] at this
    dsimp only
    omega
theorem rowsOf_ge (s : List Ln) (S : List (List Ln)) : s.length ≤ (rowsOf (s :: S)).length := by
  rw [rowsOf_cons, List.length_append, List.length_map, pgOf_len]
  omega
theorem run_lo {L : Int} (hL : 0 < L) {t : LS} {q : SB} (R : Rel L t q) {s : Int} (h0 : 0 ≤ s) (g : Bool) (c : Nat) : ∀ n : Nat,
    0 ≤ (runP L c s (due0 q g).kd ⟨(due0 q g).h, (due0 q g).t, (due0 q g).lo, (due0 q g).rows⟩ n).lo ∧
    (runP L c s (due0 q g).kd ⟨(due0 q g).h, (due0 q g).t, (due0 q g).lo, (due0 q g).rows⟩ n).lo ≤ ((runP L c s (due0 q g).kd ⟨(due0 q g).h, (due0 q g).t, (due0 q g).lo, (due0 q g).rows⟩ n).rows.length : Int)
  | 0 => by
    show 0 ≤ (due0 q g).lo ∧ (due0 q g).lo ≤ ((due0 q g).rows.length : Int)
    unfold due0
    cases g with
    | true => exact ⟨Int.le_refl _, Int.natCast_nonneg _⟩
    | false =>
      show 0 ≤ q.lo ∧ q.lo ≤ (q.rows.length : Int)
      cases hd : t.du with
      | true =>
        rw [(R.due hd).2.2.2]
        exact ⟨Int.le_refl _, Int.natCast_nonneg _⟩
      | false =>
        obtain ⟨seg, S', hS, _, hh⟩ := R.not hd
        have hr := R.rows
        rw [hS] at hr
        have h1 := looseOf_le seg
        have h2 := rowsOf_ge seg S'
        rw [hr]
        have zero : (0 : Int) ≤ 0 ∧ (0 : Int) ≤ ((rowsOf (seg :: S')).length : Int) := ⟨Int.le_refl _, Int.natCast_nonneg _⟩
        rcases hh with ⟨_, _, h3, h4⟩ | ⟨_, _, _, _, h5, _⟩
        · cases hk : t.kp with
          | true => rw [(h3 hk).2]; omega
          | false => rw [(h4 hk).2]; exact zero
        · rw [h5]; exact zero
  | n + 1 => by
    obtain ⟨_, seg, S', hS, _, _, _, h3, h4⟩ := lines_ok hL R h0 g c n
    rw [h3, h4, hS]
    have h1 := looseOf_le seg
    have h2 := rowsOf_ge seg S'
    omega
theorem overR_len (rows : List Int) (lo b : Int) : (overR rows lo b).length = rows.length := by
  unfold overR
  rw [List.length_append, List.length_map, List.length_take, List.length_drop]
  omega
theorem lineP_len (L : Int) (p : PS') (s : Int) (b : Bool) : (lineP L p s b).rows.length = p.rows.length + 1 := by
  unfold lineP
  dsimp only
  rw [List.length_append, List.length_singleton]
  split
  · rw [overR_len]
  · rfl
theorem runP_len (L : Int) (c : Nat) (s : Int) (kd : Bool) (p : PS') : ∀ n, (runP L c s kd p n).rows.length = p.rows.length + n
  | 0 => rfl
  | n + 1 => by
    show (lineP L _ _ _).rows.length = _
    rw [lineP_len, runP_len L c s kd p n]
    omega
theorem endP_eq (L : Int) (p : PS') (k : Bool) : endP L p k = ⟨(endK L p.h p.t k).1, (endK L p.h p.t k).2.1, (endK L p.h p.t k).2.2, if (endK L p.h p.t k).2.2 = 0 then 0 else p.lo, p.rows⟩ := by
  unfold endP endK
  split
  · rfl
  · split
    · rfl
    · rfl
theorem seqT_keep {K : PySem.W.Frag} {x rl C dx : Addr} {fs : List (Str × V)} {ys xs : List V} {H H' : Hp} {p : Addr} (hk : Keep x rl H H') (hx : H x = some (.ins C dx fs)) (hr : H rl = some (.lst ys)) (h : SqT K H p xs) : SqT K H' p xs := by
  rcases h with (h | ⟨o, h⟩) | h
  · exact .inl (.inl (hk _ _ (fun q => by rw [q, hx] at h; cases h) (fun q => by rw [q, hr] at h; cases h) h))
  · exact .inl (.inr ⟨o, hk _ _ (fun q => by rw [q, hx] at h; cases h) (fun q => by rw [q, hr] at h; cases h) h⟩)
  · exact .inr h
theorem StAt.keep {K : PySem.W.Frag} {x rl dx st p C : Addr} {L lo h t : Int} {rows : List Int} {kd : Bool} {H H' : Hp} (hk : Keep x rl H H') (pa : PA' C L x dx rl st lo rows H) (s : StAt K H p kd h t) : StAt K H' p kd h t := by
  obtain ⟨w, s1, s2⟩ := s
  exact ⟨w, seqT_keep hk pa.ob pa.rs s1, s2⟩
section
variable {P : Program} {w : World} {K : PySem.W.Frag} {mg : Str → Option Value} {base : Heap} {tp C : Addr}
/-! ### _go_over -/
def spOver (C : Addr) : Sp := fun vs H Q _ => ∃ (x dx rl st : Addr) (L lo bf : Int) (rows : List Int), vs = [.ref x, .int bf] ∧ PA' C L x dx rl st lo rows H ∧ 0 ≤ lo ∧ lo ≤ (rows.length : Int) ∧ rows.length ≤ 100000 ∧
  ∀ H', PA' C L x dx rl st lo (overR rows lo bf) H' → Keep x rl H H' → Q .non H'
abbrev sPage__go_over : Stmt := inClass (topS 13) 5
theorem scPage__go_over : FnScope ["self", "rows", "first", "row"] ["self", "rows"] (defScope sPage__go_over) := ⟨rfl, rfl, rfl, by decide +kernel, rfl, by decide +kernel, by decide +kernel⟩
theorem ok_over {f : Addr} {fd : FuncData} (F : Fun K "_go_over" "Page._go_over" sPage__go_over f fd) (T : Txt K mg tp C) : FnOk P w K mg base CX0 1 f fd ["self", "rows"] (spOver C) := by
  refine F.ok scPage__go_over (fun vs H Q E h => ?_) (fun cdv A outer s H vs Q E hr h => ?_)
  · obtain ⟨x, dx, rl, st, L, lo, bf, rows, rfl, _⟩ := h
    rfl
  · obtain ⟨x, dx, rl, st, L, lo, bf, rows, rfl, pa, lo0, lo1, hlen, k⟩ := h
    refine ⟨_, (pss_cons (ps_set (i := 2) scPage__go_over.nd rfl (.inl rfl) (pe_pure (pe_op op_sub (pe_callB call_len_seq (by rfl) T.b_len PySem.boot_len (pa_cons (pe_fld (pv 0) rfl) pa_nil)) (pe_fld (pv 0) rfl))))
      (pss_cons (ps_asg (pe_lc (own := [("row", 3)]) (g := gName 3) (tt := tYes) rfl scPage__go_over.nd (pi_list (pe_slice sl_list (pe_fld (pv 0) rfl) (po_some (pv 2)) po_none)) (blkOk_by (N := ["self", "rows", "first", "row"]) (sc := defScope sPage__go_over) (by decide +kernel)) (fun _ _ _ _ _ => (pg_name (i := 3) scPage__go_over.nd rfl (.inl rfl))) (fun _ _ _ _ _ => pts_nil) (fun _ _ _ _ _ => (pe_op op_sub (pv 3) (pv 1)))) (pg_end (pe_fld (pv 0) rfl) (pv 2)))
      (pss_one (ps_if (pt_cmpR op_isN (pe_fld (pv 0) rfl) pe_non (nomark _))
        (pss_one (ps_fld (pv 0) pe_bl rfl))
        pss_nil)))), ?_⟩
    have ea : ((rows.map V.int).length : Int) - lo = ((rows.length - lo.toNat : Nat) : Int) := by rw [List.length_map]; omega
    refine ⟨.int ((rows.length - lo.toNat : Nat) : Int), fun Q' hQ => ⟨_, rfl, x, C, dx, _, _, rfl, pa.ob, T.cl, T.nR, pf_rows _ _ _ _, rl, _, rfl, .inl (SqL.of pa.rs), _, rfl, x, C, dx, _, _, rfl, pa.ob, T.cl, T.nO, pf_loose _ _ _ _, _, _, rfl, rfl, ?_⟩, ?_⟩
    · rw [← ea] at hQ
      exact hQ
    generalize hn : rows.length - lo.toNat = n
    have hnl : n ≤ rows.length := by omega
    refine ⟨_, rfl, x, C, dx, _, _, rfl, pa.ob, T.cl, T.nR, pf_rows _ _ _ _, _, rfl, _, rfl, rl, _, rfl, SqL.of pa.rs, fun S hS => ⟨S, rfl, ⟨_, SqL.of upd_same⟩, fun D hD => ?_⟩⟩
    have ecut : cutV (rows.map V.int) (some (n : Int)) none = (rows.drop n).map V.int := by rw [cutV_from (by rw [List.length_map]; exact hnl), List.map_drop]
    rw [ecut] at hD ⊢
    have sS : Same H (upd H S (.lst ((rows.drop n).map V.int))) := same_new hS
    have hS0 : (upd H S (.lst ((rows.drop n).map V.int))) S = some (.lst ((rows.drop n).map V.int)) := upd_same
    generalize upd H S (.lst ((rows.drop n).map V.int)) = H1 at hD sS hS0 ⊢
    refine lc_list (K := K) (a := S) (xs := (rows.drop n).map V.int) (fun i H3 => Same H1 H3 ∧ H3 D = some (.lst (((rows.drop n).take i).map fun r => V.int (r - bf)))) ⟨same_new hD, upd_same⟩ (fun i H3 _ q => SqL.of (q.1 _ _ hS0)) ?_ ?_
    · rintro i y H3 hi ⟨s3, h3⟩
      rw [List.getElem?_map] at hi
      obtain ⟨r, hr, rfl⟩ := Option.map_eq_some_iff.mp hi
      have hil : i < rows.length := by
        have := (List.getElem?_eq_some_iff.mp hr).1
        rw [List.length_drop] at this
        omega
      refine ⟨rfl, ?_⟩
      refine ⟨_, rfl, _, rfl, _, _, rfl, rfl, _, h3, ?_, fun q o e => ?_, ?_⟩
      · rw [List.length_map, List.length_take]
        exact Nat.lt_of_le_of_lt (m := 100000) (by omega) (by decide)
      · rw [upd_ne (fun r => by rw [r, hD] at e; cases e)]
        exact s3 _ _ e
      · rw [upd_same, List.take_add_one, hr]
        simp
    · rintro H3 ⟨s3, h3⟩
      rw [List.length_map, List.take_of_length_le (Nat.le_refl _)] at h3
      have sH : Same H H3 := sS.trans s3
      have nrD : rl ≠ D := fun r => by
        have := sS _ _ pa.rs
        rw [r, hD] at this
        cases this
      have el : (rows.map V.int).take n ++ (rows.drop n).map (fun r => V.int (r - bf)) = (overR rows lo bf).map V.int := by
        unfold overR
        rw [hn, List.map_append, List.map_map, ← List.map_take]
        rfl
      refine ⟨_, rfl, x, C, dx, _, _, rfl, sH _ _ pa.ob, T.cl, T.nR, pf_rows _ _ _ _, _, rfl, rl, D, _, _, n, rfl, rfl, rfl, sH _ _ pa.rs, h3, nrD, by rw [List.length_map]; exact hnl, ?_, ?_⟩
      · rw [List.length_map, List.length_map, List.length_drop]
        exact Nat.le_trans (m := 300000) (by omega) (by decide)
      rw [el]
      obtain ⟨p1, p2⟩ := (pa.same sH).row (overR rows lo bf)
      refine ⟨_, rfl, x, C, dx, _, _, rfl, p1.ob, T.cl, T.nW, pf_went _ _ _ _, rfl, _, rfl, iteF ?_⟩
      exact k _ p1 ((Keep.of sH).trans p2)
/-! ### __init__ -/
def spInit (C tp : Addr) : Sp := fun vs H Q _ => ∃ (x dx : Addr) (L : Int), vs = [.ref x, .int L] ∧ H x = some (.ins C dx []) ∧ ∀ H' rl, H rl = none → PA' C L x dx rl tp 0 [] H' → (∀ a o, a ≠ x → H a = some o → H' a = some o) → Q .non H'
abbrev sPage___init__ : Stmt := inClass (topS 13) 0
theorem scPage___init__ : FnScope ["self", "length"] ["self", "length"] (defScope sPage___init__) := ⟨rfl, rfl, rfl, by decide +kernel, rfl, by decide +kernel, by decide +kernel⟩
theorem ok_init {f : Addr} {fd : FuncData} (F : Fun K "__init__" "Page.__init__" sPage___init__ f fd) (T : Txt K mg tp C) : FnOk P w K mg base CX0 1 f fd ["self", "length"] (spInit C tp) := by
  refine F.ok scPage___init__ (fun vs H Q E h => ?_) (fun cdv A outer s H vs Q E hr h => ?_)
  · obtain ⟨x, dx, L, rfl, _⟩ := h
    rfl
  · obtain ⟨x, dx, L, rfl, hx, k⟩ := h
    refine ⟨_, (pss_cons (ps_fld (pv 0) (pv 1) rfl)
      (pss_cons (ps_fld (pv 0) (pe_glob (v := .ref tp) (by rfl) T.g_TOP rfl) rfl)
      (pss_cons (ps_fld (pv 0) (pe_lst pa_nil) rfl)
      (pss_cons (ps_fld (pv 0) pe_int rfl)
      (pss_one (ps_fld (pv 0) pe_bl rfl)))))), ?_⟩
    refine ⟨_, rfl, _, rfl, x, C, dx, _, rfl, hx, T.cl, T.nL, (by show 0 < 1000; decide), ?_⟩
    refine ⟨_, rfl, x, C, dx, _, rfl, upd_same, T.cl, T.nS, (by show 1 < 1000; decide), ?_⟩
    rw [upd_upd]
    refine ⟨Nat.zero_le _, fun rl hrl => ?_⟩
    have nx : x ≠ rl := fun r => by rw [r, upd_same] at hrl; cases hrl
    have hrl0 : H rl = none := (upd_ne nx.symm).symm.trans hrl
    refine ⟨_, rfl, x, C, dx, _, rfl, (upd_ne nx).trans upd_same, T.cl, T.nR, (by show 2 < 1000; decide), ?_⟩
    refine ⟨_, rfl, x, C, dx, _, rfl, upd_same, T.cl, T.nO, (by show 3 < 1000; decide), ?_⟩
    refine ⟨_, rfl, x, C, dx, _, rfl, upd_same, T.cl, T.nW, (by show 4 < 1000; decide), ?_⟩
    rw [upd_upd, upd_upd, put_all]
    refine k _ rl hrl0 ⟨upd_same, (upd_ne nx.symm).trans upd_same⟩ fun a o ha e => ?_
    rw [upd_ne ha, upd_ne (ne_of_none e hrl0), upd_ne ha]
    exact e
/-! ### finish -/
def spFinish (C : Addr) : Sp := fun vs H Q _ => ∃ (x dx rl st : Addr) (L lo : Int) (rows : List Int), vs = [.ref x] ∧ PA' C L x dx rl st lo rows H ∧ rows.length ≤ 100000 ∧ ∀ p H' ys, H p = none → Same H H' → H' p = some (.lst ys) → AllAt RwAt H' ys rows → Q (.ref p) H'
abbrev sPage_finish : Stmt := inClass (topS 13) 11
theorem scPage_finish : FnScope ["self", "row"] ["self"] (defScope sPage_finish) := ⟨rfl, rfl, rfl, by decide +kernel, rfl, by decide +kernel, by decide +kernel⟩
theorem ok_finish {f : Addr} {fd : FuncData} (F : Fun K "finish" "Page.finish" sPage_finish f fd) (T : Txt K mg tp C) : FnOk P w K mg base CX0 1 f fd ["self"] (spFinish C) := by
  refine F.ok scPage_finish (fun vs H Q E h => ?_) (fun cdv A outer s H vs Q E hr h => ?_)
  · obtain ⟨x, dx, rl, st, L, lo, rows, rfl, _⟩ := h
    rfl
  · obtain ⟨x, dx, rl, st, L, lo, rows, rfl, pa, hlen, k⟩ := h
    refine ⟨_, (pss_one (ps_ret (pe_lc (own := [("row", 1)]) (g := gName 1) (tt := tYes) rfl scPage_finish.nd (pi_list (pe_fld (pv 0) rfl)) (blkOk_by (N := ["self", "row"]) (sc := defScope sPage_finish) (by decide +kernel)) (fun _ _ _ _ _ => (pg_name (i := 1) scPage_finish.nd rfl (.inl rfl))) (fun _ _ _ _ _ => pts_nil) (fun _ _ _ _ _ => (pe_tup (pa_cons (pe_cmpR op_eq (pv 1) pe_int (nomark _)) (pa_cons (pv 1) pa_nil))))))), ?_⟩
    refine ⟨_, rfl, x, C, dx, _, _, rfl, pa.ob, T.cl, T.nR, pf_rows _ _ _ _, rl, rfl, ⟨_, SqL.of pa.rs⟩, fun D hD => ?_⟩
    refine lc_list (K := K) (a := rl) (xs := rows.map V.int) (fun i H3 => Same H H3 ∧ ∃ acc, H3 D = some (.lst acc) ∧ AllAt RwAt H3 acc (rows.take i)) ⟨same_new hD, [], upd_same, trivial⟩ (fun i H3 _ q => SqL.of (q.1 _ _ pa.rs)) ?_ ?_
    · rintro i y H3 hi ⟨s3, acc, hacc, hra⟩
      rw [List.getElem?_map] at hi
      obtain ⟨r, hr, rfl⟩ := Option.map_eq_some_iff.mp hi
      refine ⟨rfl, ?_⟩
      refine ⟨_, rfl, rfl, _, rfl, (by show 2 ≤ sizeLine; decide), fun p hp => ?_⟩
      obtain ⟨p1, p2, p3, p4⟩ := all_push (f := fun r : Int => [.bl (decide (r = 0)), .int r]) (y := r) (tv := [.bl (decide (V.int r = V.int 0)), .int r]) hacc hra hp (by rw [dec_int])
      refine ⟨acc, p3, ?_, fun q o e => p4 q o (fun r => by rw [r, hD] at e; cases e) (s3 _ _ e), _, p1, ?_⟩
      · rw [hra.len, List.length_take]
        exact Nat.lt_of_le_of_lt (m := 100000) (by omega) (by decide)
      · rw [List.take_add_one, hr]
        exact p2
    · rintro H3 ⟨s3, acc, hacc, hra⟩
      rw [List.length_map, List.take_of_length_le (Nat.le_refl _)] at hra
      exact k D H3 acc hD s3 hacc hra
end
end Pa
set_option maxRecDepth 100000
set_option maxHeartbeats 4000000
namespace Pa
open PySem PySem.Spec PyProof.Rows L2
section
variable {P : Program} {w : World} {K : PySem.W.Frag} {mg : Str → Option Value} {base : Heap} {tp C : Addr}
def spBlock (K : PySem.W.Frag) (C : Addr) : Sp := fun vs H Q _ => ∃ (x dx rl st : Addr) (L : Int) (q : SB) (b : Bl) (t : LS), vs = [.ref x, .int (b.c : Int), .int b.s, .bl b.k, .bl b.g] ∧ PA' C L x dx rl st q.lo q.rows H ∧ StAt K H st q.kd q.h q.t ∧
  2 ≤ L ∧ Rel L t q ∧ 0 ≤ b.s ∧ b.c ≤ 100 ∧ q.rows.length ≤ 5000 ∧
  ∀ H' st', PA' C L x dx rl st' (blockP L q b).lo (blockP L q b).rows H' → StAt K H' st' (blockP L q b).kd (blockP L q b).h (blockP L q b).t → Keep x rl H H' → Q .non H'
abbrev sPage_block : Stmt := inClass (topS 13) 3
theorem scPage_block : FnScope ["self", "count", "space", "kept", "page", "ahead", "height", "tail", "at", "above", "barred", "before", "over"] ["self", "count", "space", "kept", "page"] (defScope sPage_block) := ⟨rfl, rfl, rfl, by decide +kernel, rfl, by decide +kernel, by decide +kernel⟩
theorem ok_block {f : Addr} {fd : FuncData} (F : Fun K "block" "Page.block" sPage_block f fd) (T : Txt K mg tp C) (M__settle : MethOk P w K mg base C 1 "_settle" ["self"] (spSettle C)) (M_begin : MethOk P w K mg base C 2 "begin" ["self"] (spBegin C tp))
    (M__put : MethOk P w K mg base C 2 "_put" ["self", "height", "tail"] (spPut C)) (M__go_over : MethOk P w K mg base C 1 "_go_over" ["self", "rows"] (spOver C))
    (C_line_place : CallOk P w K mg base 1 "line_place" ["standing", "at", "count", "space"] (spPlace K)) (C_next_line : CallOk P w K mg base 2 "next_line" ["length", "height", "tail", "space", "barred"] spNext)
    (C_standing_of : CallOk P w K mg base 1 "standing_of" ["length", "height", "tail", "kept"] (spStand K)) : FnOk P w K mg base CX0 3 f fd ["self", "count", "space", "kept", "page"] (spBlock K C) := by
  refine F.ok scPage_block (fun vs H Q E h => ?_) (fun cdv A outer s H vs Q E hr h => ?_)
  · obtain ⟨x, dx, rl, st, L, q, b, t, rfl, _⟩ := h
    rfl
  · obtain ⟨x, dx, rl, st, L, q, b, t, rfl, pa, hst, hL, R, hs, hc, hql, k⟩ := h
    refine ⟨_, (pss_cons (ps_by (ps_if (pt_val (pv 4))
        (pss_one (ps_expr (pe_mc0 (pv 0) T.cl M_begin (hr.mono (by decide)))))
        pss_nil))
      (pss_cons (ps_if (pt_cmpR op_eq (pv 1) pe_int (nomark _))
        (pss_one ps_retN)
        pss_nil)
      (pss_cons (ps_set (i := 5) scPage_block.nd rfl (.inl rfl) (pe_fld (pv 0) rfl))
      (pss_cons (ps_asg (pe_slice sl_tup (pv 5) (po_some pe_int) po_none) (pg_tup rfl (pgs_cons (pg_name (i := 6) scPage_block.nd rfl (.inl rfl)) (pgs_cons (pg_name (i := 7) scPage_block.nd rfl (.inl rfl)) pgs_nil))))
      (pss_cons (ps_for PassesOwn.never rfl (pi_range1 (by rfl) T.b_range (pa_cons (pv 1) pa_nil)) (pg_name (i := 8) scPage_block.nd rfl (.inl rfl))
        (pss_cons (ps_asg (pe_cc C_line_place (hr.mono (by decide)) (by rfl) (pa_cons (pv 5) (pa_cons (pv 8) (pa_cons (pv 1) (pa_cons (pv 2) pa_nil))))) (pg_tup rfl (pgs_cons (pg_name (i := 9) scPage_block.nd rfl (.inl rfl)) (pgs_cons (pg_name (i := 10) scPage_block.nd rfl (.inl rfl)) pgs_nil))))
        (pss_cons (ps_set (i := 11) scPage_block.nd rfl (.inl rfl) (pe_op op_sub (pv 6) (pv 7)))
        (pss_cons (ps_asg (pe_cc C_next_line (hr.mono (by decide)) (by rfl) (pa_cons (pe_fld (pv 0) rfl) (pa_cons (pv 6) (pa_cons (pv 7) (pa_cons (pv 9) (pa_cons (pv 10) pa_nil)))))) (pg_tup rfl (pgs_cons (pg_name (i := 6) scPage_block.nd rfl (.inl rfl)) (pgs_cons (pg_name (i := 7) scPage_block.nd rfl (.inl rfl)) (pgs_cons (pg_name (i := 12) scPage_block.nd rfl (.inl rfl)) pgs_nil)))))
        (pss_cons (ps_by (ps_if (pt_val (pv 12))
          (pss_one (ps_expr (pe_mc (pv 0) T.cl M__go_over (hr.mono (by decide)) (pa_cons (pv 11) pa_nil))))
          pss_nil))
        (pss_one (ps_expr (pe_mc (pv 0) T.cl M__put (hr.mono (by decide)) (pa_cons (pv 6) (pa_cons (pv 7) pa_nil))))))))))
      (pss_cons (ps_fld (pv 0) (pe_cc C_standing_of (hr.mono (by decide)) (by rfl) (pa_cons (pe_fld (pv 0) rfl) (pa_cons (pv 6) (pa_cons (pv 7) (pa_cons (pv 3) pa_nil))))) rfl)
      (pss_one (ps_if (pt_cmpR op_eq (pe_ix ix_tup (pe_fld (pv 0) rfl) pe_int (fun _ _ => rfl)) pe_int (nomark _))
        (pss_one (ps_expr (pe_mc0 (pv 0) T.cl M__settle (hr.mono (by decide)))))
        pss_nil)))))))), ?_⟩
    have hL0 : 0 < L := by omega
    -- if page: self.begin()
    refine ⟨fun σ' H1 => σ' = [some (.ref x), some (.int (b.c : Int)), some (.int b.s), some (.bl b.k), some (.bl b.g), none, none, none, none, none, none, none, none] ∧ ∃ st0, PA' C L x dx rl st0 (due0 q b.g).lo (due0 q b.g).rows H1 ∧ StAt K H1 st0 (due0 q b.g).kd (due0 q b.g).h (due0 q b.g).t ∧ Keep x rl H H1, fun N hN => ?_, ?_⟩
    · rcases twoB b.g with hg | hg
      · refine ⟨_, rfl, _, rfl, iteP hg ?_⟩
        refine ⟨_, rfl, x, dx, _, rfl, pa.ob, no_begin _ _ _ _, x, dx, rl, st, L, q.lo, q.rows, rfl, pa, fun H1 p1 k1 => ?_⟩
        refine hN _ _ ⟨rfl, tp, ?_⟩
        unfold due0
        rw [if_pos hg]
        exact ⟨p1, ⟨"top", T.top H1, nt_⟩, k1⟩
      · refine ⟨_, rfl, _, rfl, iteQ (neT hg) ?_⟩
        refine hN _ _ ⟨rfl, st, ?_⟩
        unfold due0
        rw [if_neg (neT hg)]
        exact ⟨pa, hst, fun a o _ _ e => e⟩
    rintro σ' H1 ⟨rfl, st0, pa1, hst1, k1⟩
    -- if count == 0: return
    refine ⟨_, rfl, rfl, _, rfl, ite2 (fun h1 => ?_) (fun h1 => ?_)⟩
    · have hc0 : b.c = 0 := by
        have := V.int.inj (of_decide_eq_true h1)
        omega
      have e : blockP L q b = due0 q b.g := by unfold blockP; rw [if_pos hc0]
      rw [e] at k
      exact k H1 st0 pa1 hst1 k1
    have hc0 : ¬ b.c = 0 := fun r => h1 (decide_eq_true (by rw [r]; rfl))
    have e : blockP L q b = endP L (runP L b.c b.s (due0 q b.g).kd ⟨(due0 q b.g).h, (due0 q b.g).t, (due0 q b.g).lo, (due0 q b.g).rows⟩ b.c) b.k := by unfold blockP; rw [if_neg hc0]
    rw [e, endP_eq] at k
    have hlo := run_lo hL0 R hs b.g b.c
    have hrl : (due0 q b.g).rows = q.rows := by unfold due0; split <;> rfl
    have hrun := runP_len L b.c b.s (due0 q b.g).kd ⟨(due0 q b.g).h, (due0 q b.g).t, (due0 q b.g).lo, (due0 q b.g).rows⟩
    have hrun' : ∀ n, (runP L b.c b.s (due0 q b.g).kd ⟨(due0 q b.g).h, (due0 q b.g).t, (due0 q b.g).lo, (due0 q b.g).rows⟩ n).rows.length ≤ 5000 + n := fun n => by
      rw [hrun n]
      show (due0 q b.g).rows.length + n ≤ _
      rw [hrl]
      omega
    clear hrun hrl e R
    generalize due0 q b.g = q0 at pa1 hst1 k hlo hrun' ⊢
    -- height, tail = ahead[1:]
    obtain ⟨wd, hsq, hkd⟩ := id hst1
    refine ⟨_, rfl, x, C, dx, _, _, rfl, pa1.ob, T.cl, T.nS, pf_standing _ _ _ _, ?_⟩
    refine ⟨_, rfl, _, rfl, st0, _, rfl, hsq, (fun z => absurd z.1 (show ¬ (HT.sIx 3 0 (some 1) = 0) by decide)), fun u hu => ?_⟩
    have su := same_new (o := .tup (cutV [.str wd, .int q0.h, .int q0.t] (some 1) none)) hu
    refine ⟨u, _, rfl, SqT.of upd_same, rfl, _, _, rfl, _, _, rfl, rfl, ?_⟩
    have pa2 := pa1.same su
    have k2 : Keep x rl H _ := k1.trans (Keep.of su)
    have hst2 : StAt K _ st0 q0.kd q0.h q0.t := StAt.keep (Keep.of su) pa1 hst1
    generalize upd H1 u (.tup (cutV [.str wd, .int q0.h, .int q0.t] (some 1) none)) = H2 at pa2 k2 hst2
    -- the lines
    refine ⟨_, rfl, _, rfl, by omega, by omega, for_range (lo := 0) (n := ((b.c : Nat) : Int).toNat) (fun i σ H3 => ∃ (y8 y9 y10 y11 y12 : Option V), σ = [some (.ref x), some (.int (b.c : Int)), some (.int b.s), some (.bl b.k), some (.bl b.g), some (.ref st0),
        some (.int (runP L b.c b.s q0.kd ⟨q0.h, q0.t, q0.lo, q0.rows⟩ i).h), some (.int (runP L b.c b.s q0.kd ⟨q0.h, q0.t, q0.lo, q0.rows⟩ i).t), y8, y9, y10, y11, y12] ∧
        PA' C L x dx rl st0 (runP L b.c b.s q0.kd ⟨q0.h, q0.t, q0.lo, q0.rows⟩ i).lo (runP L b.c b.s q0.kd ⟨q0.h, q0.t, q0.lo, q0.rows⟩ i).rows H3 ∧ StAt K H3 st0 q0.kd q0.h q0.t ∧ Keep x rl H H3)
      ⟨none, none, none, none, none, rfl, pa2, hst2, k2⟩ ?_ ?_⟩
    · rintro i σ H3 hi ⟨y8, y9, y10, y11, y12, rfl, pa3, hst3, k3⟩
      have hi' : i < b.c := by omega
      have hlo3 := hlo i
      have hlen3 := hrun' i
      show gName 8 _ _ _ _
      rw [Int.zero_add]
      have er : runP L b.c b.s q0.kd ⟨q0.h, q0.t, q0.lo, q0.rows⟩ (i + 1) = lineP L (runP L b.c b.s q0.kd ⟨q0.h, q0.t, q0.lo, q0.rows⟩ i) (if i = 0 then b.s else 0) (if i = 0 then q0.kd else decide ((i : Int) = 1 ∨ (i : Int) = (b.c : Int) - 1)) := rfl
      rw [er]
      generalize runP L b.c b.s q0.kd ⟨q0.h, q0.t, q0.lo, q0.rows⟩ i = p at pa3 hlo3 hlen3 ⊢
      refine ⟨_, rfl, _, rfl, _, rfl, _, rfl, st0, q0.kd, q0.h, q0.t, (b.c : Int), b.s, i, rfl, hst3, fun u1 H4 hu1 s4 hu4 => ?_⟩
      refine ⟨u1, _, rfl, SqT.of hu4, rfl, _, _, rfl, _, _, rfl, rfl, ?_⟩
      refine ⟨_, rfl, _, rfl, _, _, rfl, rfl, ?_⟩
      have pa4 := pa3.same s4
      have hst4 : StAt K H4 st0 q0.kd q0.h q0.t := StAt.keep (Keep.of s4) pa3 hst3
      have k4 : Keep x rl H H4 := k3.trans (Keep.of s4)
      generalize (if i = 0 then b.s else 0) = sp
      generalize (if i = 0 then q0.kd else decide ((i : Int) = 1 ∨ (i : Int) = (b.c : Int) - 1)) = br
      refine ⟨_, rfl, x, C, dx, _, _, rfl, pa4.ob, T.cl, T.nL, pf_length _ _ _ _, _, rfl, _, rfl, _, rfl, _, rfl, L, p.h, p.t, sp, br, rfl, fun u2 hu2 => ?_⟩
      refine ⟨u2, _, rfl, SqT.of upd_same, rfl, _, _, rfl, _, _, rfl, _, _, rfl, rfl, ?_⟩
      unfold lineP
      generalize nextLine L p.h p.t sp br = nl
      have s5 := same_new (o := .tup [.int nl.h, .int nl.t, .bl nl.ov]) hu2
      have pa5 := pa4.same s5
      have hst5 : StAt K _ st0 q0.kd q0.h q0.t := StAt.keep (Keep.of s5) pa4 hst4
      have k5 : Keep x rl H _ := k4.trans (Keep.of s5)
      generalize upd H4 u2 (.tup [.int nl.h, .int nl.t, .bl nl.ov]) = H5 at pa5 hst5 k5
      refine ⟨fun σ' H6 => σ' = [some (.ref x), some (.int (b.c : Int)), some (.int b.s), some (.bl b.k), some (.bl b.g), some (.ref st0), some (.int nl.h), some (.int nl.t), some (.int (i : Int)), some (.int sp), some (.bl br), some (.int (p.h - p.t)), some (.bl nl.ov)] ∧
        PA' C L x dx rl st0 p.lo (if nl.ov = true then overR p.rows p.lo (p.h - p.t) else p.rows) H6 ∧ StAt K H6 st0 q0.kd q0.h q0.t ∧ Keep x rl H H6, fun N hN => ?_, ?_⟩
      · rcases twoB nl.ov with ho | ho
        · refine ⟨_, rfl, _, rfl, iteP ho ?_⟩
          refine ⟨_, rfl, x, dx, _, rfl, pa5.ob, no_over _ _ _ _, _, rfl, x, dx, rl, st0, L, p.lo, p.h - p.t, p.rows, rfl, pa5, hlo3.1, hlo3.2, by omega, fun H6 p6 k6 => ?_⟩
          refine hN _ _ ⟨rfl, ?_, StAt.keep k6 pa5 hst5, k5.trans k6⟩
          rw [if_pos ho]
          exact p6
        · refine ⟨_, rfl, _, rfl, iteQ (neT ho) ?_⟩
          refine hN _ _ ⟨rfl, ?_, hst5, k5⟩
          rw [if_neg (neT ho)]
          exact pa5
      · rintro σ' H6 ⟨rfl, p6, hst6, k6⟩
        have hl6 : (if nl.ov = true then overR p.rows p.lo (p.h - p.t) else p.rows).length ≤ 100000 := by
          split
          · rw [overR_len]; omega
          · omega
        refine ⟨_, rfl, x, dx, _, rfl, p6.ob, no_put _ _ _ _, _, rfl, _, rfl, x, dx, rl, st0, L, p.lo, nl.h, nl.t, _, rfl, p6, hl6, fun H7 p7 k7 => ?_⟩
        exact ⟨_, _, _, _, _, rfl, p7, StAt.keep k7 p6 hst6, k6.trans k7⟩
    · rintro σ H3 ⟨y8, y9, y10, y11, y12, rfl, pa3, hst3, k3⟩
      have e0 : ((b.c : Nat) : Int).toNat = b.c := Int.toNat_natCast _
      rw [e0] at pa3 ⊢
      generalize runP L b.c b.s q0.kd ⟨q0.h, q0.t, q0.lo, q0.rows⟩ b.c = p at pa3 k ⊢
      refine ⟨_, rfl, x, C, dx, _, _, rfl, pa3.ob, T.cl, T.nL, pf_length _ _ _ _, _, rfl, _, rfl, _, rfl, L, p.h, p.t, b.k, rfl, fun st' H4 s4 hst4 => ?_⟩
      have pa4 := pa3.same s4
      obtain ⟨p5, k5⟩ := pa4.put st' p.lo
      have hst5 : StAt K _ st' _ _ _ := StAt.keep k5 pa4 hst4
      refine ⟨_, rfl, x, C, dx, _, rfl, pa4.ob, T.cl, T.nS, (by show 5 < 1000; decide), ?_⟩
      rw [put_standing]
      obtain ⟨wd2, hsq2, hkd2⟩ := id hst5
      have k6 : Keep x rl H _ := (k3.trans (Keep.of s4)).trans k5
      refine ⟨_, rfl, x, C, dx, _, _, rfl, p5.ob, T.cl, T.nS, pf_standing _ _ _ _, st', _, _, _, rfl, rfl, hsq2, atI_nat (j := 2) rfl, rfl, _, rfl, ite2 (fun h2 => ?_) (fun h2 => ?_)⟩
      · have ht0 := V.int.inj (of_decide_eq_true h2)
        refine ⟨_, rfl, x, dx, _, rfl, p5.ob, no_settle _ _ _ _, x, dx, rl, st', L, p.lo, p.rows, rfl, p5, fun H7 p7 k7 => ?_⟩
        refine k H7 st' ?_ (StAt.keep k7 p5 hst5) (k6.trans k7)
        rw [if_pos ht0]
        exact p7
      · have ht0 : ¬ (endK L p.h p.t b.k).2.2 = 0 := fun r => h2 (decide_eq_true (by rw [r]))
        refine k _ st' ?_ hst5 k6
        rw [if_neg ht0]
        exact p5
end
end Pa
set_option maxRecDepth 100000
set_option maxHeartbeats 4000000
namespace Pa
open PySem PySem.Spec PyProof.Rows L2
def tByT (t : TT) : TT := fun σ H Q => ∃ R : Bool → Hp → Prop, (∀ Q' : Bool → Hp → Prop, (∀ v H', R v H' → Q' v H') → t σ H Q') ∧ ∀ v H', R v H' → Q v H'
theorem pt_by {X : Cx} {e : Expr} {t : TT} (h : PT X e t) : PT X e (tByT t) := ⟨fun pins s σ H Q I ⟨_, f, q⟩ => h.run pins s σ H Q I (f Q q)⟩
section
variable {P : Program} {w : World} {K : PySem.W.Frag} {mg : Str → Option Value} {base : Heap} {tp C : Addr}
/-! ### _law_number, of an int -/
def spNum : Sp := fun vs H Q _ => ∃ i : Int, vs = [.int i] ∧ Q (.bl true) H
abbrev sL_number : Stmt := topS 17
theorem scL_number : FnScope ["_law_thing"] ["_law_thing"] (defScope sL_number) := ⟨rfl, rfl, rfl, by decide +kernel, rfl, by decide +kernel, by decide +kernel⟩
theorem ok_number {f : Addr} {fd : FuncData} (F : Fun K "_law_number" "_law_number" sL_number f fd) (T : Txt K mg tp C) : FnOk P w K mg base CX0 1 f fd ["_law_thing"] spNum := by
  refine F.ok scL_number (fun vs H Q E h => ?_) (fun cdv A outer s H vs Q E hr h => ?_)
  · obtain ⟨i, rfl, _⟩ := h
    rfl
  · obtain ⟨i, rfl, k⟩ := h
    refine ⟨_, (pss_one (ps_ret (pe_and (pe_callB call_isi (by rfl) T.b_isinstance (by decide +kernel) (pa_cons (pv 0) (pa_cons (pe_bltn (v := .ty "int") (by rfl) T.b_int (by decide +kernel) rfl) pa_nil))) (pe_one (pe_not (pe_callB call_isi (by rfl) T.b_isinstance (by decide +kernel) (pa_cons (pv 0) (pa_cons (pe_bltn (v := .ty "bool") (by rfl) T.b_bool (by decide +kernel) rfl) pa_nil)))))))), ?_⟩
    refine ⟨_, rfl, _, _, _, _, true, rfl, .ty _, .base (.int _), kit_ty (by decide +kernel), _, rfl, iteT ?_⟩
    exact ⟨_, rfl, _, _, _, _, false, rfl, .ty _, .base (.int _), kit_ty (by decide +kernel), _, rfl, k⟩
/-! ### _law_block, _law_length -/
def spLBlock : Sp := fun vs H Q _ => ∃ (b : Addr), vs = [.ref b, .int 30] ∧ IsBag H b ∧ ∀ (p : Addr) (H' : Hp) (c : Nat) (s : Int) (k g : Bool), H p = none → Bk b H H' → H' p = some (.tup [.int (c : Int), .int s, .bl k, .bl g]) → c ≤ 30 → 0 ≤ s → Q (.ref p) H'
abbrev sL_block : Stmt := topS 19
theorem scL_block : FnScope ["_law_bag_here", "_law_most", "_law_count"] ["_law_bag_here", "_law_most"] (defScope sL_block) := ⟨rfl, rfl, rfl, by decide +kernel, rfl, by decide +kernel, by decide +kernel⟩
theorem ok_lblock {f : Addr} {fd : FuncData} (F : Fun K "_law_block" "_law_block" sL_block f fd) (C__law_draw : CallOk P w K mg base 1 "_law_draw" ["_law_bag_here", "_law_many"] spDraw) : FnOk P w K mg base CX0 2 f fd ["_law_bag_here", "_law_most"] spLBlock := by
  refine F.ok scL_block (fun vs H Q E h => ?_) (fun cdv A outer s H vs Q E hr h => ?_)
  · obtain ⟨b, rfl, _⟩ := h
    rfl
  · obtain ⟨b, rfl, hb, k⟩ := h
    refine ⟨_, (pss_cons (ps_set (i := 2) scL_block.nd rfl (.inl rfl) (pe_by (pe_ifExp (pt_cmpR op_eq (pe_cc C__law_draw (hr.mono (by decide)) (by rfl) (pa_cons (pv 0) (pa_cons pe_int pa_nil))) pe_int (nomark _)) (pe_cc C__law_draw (hr.mono (by decide)) (by rfl) (pa_cons (pv 0) (pa_cons (pe_op op_add (pv 1) pe_int) pa_nil))) (pe_cc C__law_draw (hr.mono (by decide)) (by rfl) (pa_cons (pv 0) (pa_cons pe_int pa_nil))))))
      (pss_one (ps_ret (pe_tup (pa_cons (pv 2) (pa_cons (pe_cc C__law_draw (hr.mono (by decide)) (by rfl) (pa_cons (pv 0) (pa_cons pe_int pa_nil))) (pa_cons (pe_cmpR op_eq (pe_cc C__law_draw (hr.mono (by decide)) (by rfl) (pa_cons (pv 0) (pa_cons pe_int pa_nil))) pe_int (nomark _)) (pa_cons (pe_cmpR op_eq (pe_cc C__law_draw (hr.mono (by decide)) (by rfl) (pa_cons (pv 0) (pa_cons pe_int pa_nil))) pe_int (nomark _)) pa_nil)))))))), ?_⟩
    refine ⟨fun v H' => ∃ c : Int, v = .int c ∧ 0 ≤ c ∧ c ≤ 30 ∧ Bk b H H', fun Q' hQ => ?_, ?_⟩
    · refine ⟨_, rfl, b, _, rfl, hb, by decide, by decide, fun d H1 d0 d1 B1 => ⟨rfl, _, rfl, ite2 (fun h1 => ?_) (fun h1 => ?_)⟩⟩
      · refine ⟨_, rfl, _, rfl, _, _, rfl, rfl, b, _, rfl, B1.bag, by decide, by decide, fun e H2 e0 e1 B2 => ?_⟩
        exact hQ _ _ ⟨e, rfl, e0, by omega, B1.trans B2⟩
      · refine ⟨_, rfl, b, _, rfl, B1.bag, by decide, by decide, fun e H2 e0 e1 B2 => ?_⟩
        exact hQ _ _ ⟨e, rfl, e0, by omega, B1.trans B2⟩
    · rintro v H1 ⟨c, rfl, c0, c1, B1⟩
      refine ⟨_, rfl, _, rfl, b, _, rfl, B1.bag, by decide, by decide, fun e H2 e0 e1 B2 => ?_⟩
      refine ⟨_, rfl, b, _, rfl, B2.bag, by decide, by decide, fun e' H3 e0' e1' B3 => ⟨rfl, ?_⟩⟩
      refine ⟨_, rfl, b, _, rfl, B3.bag, by decide, by decide, fun e'' H4 e0'' e1'' B4 => ⟨rfl, (by show 4 ≤ sizeLine; decide), fun p hp => ?_⟩⟩
      have BB := ((B1.trans B2).trans B3).trans B4
      have hc : ((c.toNat : Nat) : Int) = c := Int.toNat_of_nonneg c0
      refine k p _ c.toNat e (decide (V.int e' = V.int 1)) (decide (V.int e'' = V.int 7)) (BB.free hb hp) (BB.fresh hp) ?_ (by omega) e0
      rw [upd_same, hc]
def spLLength : Sp := fun vs H Q _ => ∃ (b : Addr), vs = [.ref b] ∧ IsBag H b ∧ ∀ (L : Int) (H' : Hp), 2 ≤ L → L ≤ 9 → Bk b H H' → Q (.int L) H'
abbrev sL_length : Stmt := topS 20
theorem scL_length : FnScope ["_law_bag_here"] ["_law_bag_here"] (defScope sL_length) := ⟨rfl, rfl, rfl, by decide +kernel, rfl, by decide +kernel, by decide +kernel⟩
theorem ok_llength {f : Addr} {fd : FuncData} (F : Fun K "_law_length" "_law_length" sL_length f fd) (C__law_draw : CallOk P w K mg base 1 "_law_draw" ["_law_bag_here", "_law_many"] spDraw) : FnOk P w K mg base CX0 2 f fd ["_law_bag_here"] spLLength := by
  refine F.ok scL_length (fun vs H Q E h => ?_) (fun cdv A outer s H vs Q E hr h => ?_)
  · obtain ⟨b, rfl, _⟩ := h
    rfl
  · obtain ⟨b, rfl, hb, k⟩ := h
    refine ⟨_, (pss_one (ps_ret (pe_op op_add pe_int (pe_ifExp (pt_cmpR op_eq (pe_cc C__law_draw (hr.mono (by decide)) (by rfl) (pa_cons (pv 0) (pa_cons pe_int pa_nil))) pe_int (nomark _)) (pe_cc C__law_draw (hr.mono (by decide)) (by rfl) (pa_cons (pv 0) (pa_cons pe_int pa_nil))) (pe_cc C__law_draw (hr.mono (by decide)) (by rfl) (pa_cons (pv 0) (pa_cons pe_int pa_nil))))))), ?_⟩
    refine ⟨_, rfl, b, _, rfl, hb, by decide, by decide, fun d H1 d0 d1 B1 => ⟨rfl, _, rfl, ite2 (fun h1 => ?_) (fun h1 => ?_)⟩⟩
    · refine ⟨_, rfl, b, _, rfl, B1.bag, by decide, by decide, fun e H2 e0 e1 B2 => ⟨_, _, rfl, rfl, ?_⟩⟩
      exact k _ _ (by omega) (by omega) (B1.trans B2)
    · refine ⟨_, rfl, b, _, rfl, B1.bag, by decide, by decide, fun e H2 e0 e1 B2 => ⟨_, _, rfl, rfl, ?_⟩⟩
      exact k _ _ (by omega) (by omega) (B1.trans B2)
/-! ### _law_lines -/
def spLLines (K : PySem.W.Frag) : Sp := fun vs H Q _ => ∃ (a : Addr) (xs : List V) (bs : List Bl), vs = [.ref a] ∧ SqL K H a xs ∧ AllAt BlAt H xs bs ∧ Book bs ∧
  ∀ (p q : Addr) (H' : Hp) (ys : List V) (k g : Bool), H p = none → Same H H' → H' p = some (.tup [.ref q, .bl k, .bl g]) → H' q = some (.lst ys) → AllAt LnAt H' ys (linesOf bs).ls → Q (.ref p) H'
abbrev sL_lines : Stmt := topS 18
theorem scL_lines : FnScope ["_law_blocks", "_law_lines_here", "_law_barred", "_law_due", "_law_count", "_law_space", "_law_kept", "_law_page", "_law_k"] ["_law_blocks"] (defScope sL_lines) := ⟨rfl, rfl, rfl, by decide +kernel, rfl, by decide +kernel, by decide +kernel⟩
theorem ok_llines {f : Addr} {fd : FuncData} (F : Fun K "_law_lines" "_law_lines" sL_lines f fd) (T : Txt K mg tp C) : FnOk P w K mg base CX0 1 f fd ["_law_blocks"] (spLLines K) := by
  refine F.ok scL_lines (fun vs H Q E h => ?_) (fun cdv A outer s H vs Q E hr h => ?_)
  · obtain ⟨a, xs, bs, rfl, _⟩ := h
    rfl
  · obtain ⟨a, xs, bs, rfl, hS, hx, B, k⟩ := h
    refine ⟨_, (pss_cons (ps_par3 (i := 1) (j := 2) (l := 3) (by rfl) scL_lines.nd rfl rfl rfl (by decide) (by decide) (by decide) rfl rfl rfl (pa_cons (pe_lst pa_nil) (pa_cons pe_bl (pa_cons pe_bl pa_nil))) (by rfl))
      (pss_cons (ps_for PassesOwn.never rfl (pi_list (pv 0)) (pg_tup rfl (pgs_cons (pg_name (i := 4) scL_lines.nd rfl (.inl rfl)) (pgs_cons (pg_name (i := 5) scL_lines.nd rfl (.inl rfl)) (pgs_cons (pg_name (i := 6) scL_lines.nd rfl (.inl rfl)) (pgs_cons (pg_name (i := 7) scL_lines.nd rfl (.inl rfl)) pgs_nil)))))
        (pss_cons (ps_set (i := 3) scL_lines.nd rfl (.inl rfl) (pe_pure (pe_or (pv 3) (pe_one (pv 7)))))
        (pss_cons (ps_for PassesOwn.never rfl (pi_range1 (by rfl) T.b_range (pa_cons (pv 4) pa_nil)) (pg_name (i := 8) scL_lines.nd rfl (.inl rfl))
          (pss_one (ps_expr (pe_bm PySem.F.plainAttrs_list PySem.F.slot_list_append PySem.F.type_list_append mt_append (pv 1) (pa_cons (pe_ifExp (pt_cmpR op_eq (pv 8) pe_int (nomark _)) (pe_tup (pa_cons (pv 5) (pa_cons (pv 2) (pa_cons (pv 3) pa_nil)))) (pe_tup (pa_cons pe_int (pa_cons (pe_cmpR op_in_seq (pv 8) (pe_tup (pa_cons pe_int (pa_cons (pe_op op_sub (pv 4) pe_int) pa_nil))) (by rfl)) (pa_cons pe_bl pa_nil))))) pa_nil)))))
        (pss_cons (ps_set (i := 3) scL_lines.nd rfl (.inl rfl) (pe_pure (pe_and (pv 3) (pe_one (pe_cmpR op_eq (pv 4) pe_int (nomark _))))))
        (pss_one (ps_set (i := 2) scL_lines.nd rfl (.inl rfl) (pe_pure (pe_ifExp (pt_cmpR op_gt (pv 4) pe_int (nomark _)) (pv 6) (pv 2)))))))))
      (pss_one (ps_ret (pe_tup (pa_cons (pv 1) (pa_cons (pv 2) (pa_cons (pv 3) pa_nil)))))))), ?_⟩
    refine ⟨Nat.zero_le _, fun q hq => ?_⟩
    refine ⟨_, _, _, rfl, ?_⟩
    have sq : Same H (upd H q (.lst [])) := same_new hq
    have hlen : xs.length = bs.length := hx.len
    refine ⟨_, rfl, a, rfl, ⟨_, sq.seq hS⟩, for_list (K := K) (a := a) (xs := xs) (fun i σ H' => ∃ (y4 y5 y6 y7 y8 : Option V) (ls : List V), σ = [some (.ref a), some (.ref q), some (.bl (linesOf (bs.take i)).kp), some (.bl (linesOf (bs.take i)).du), y4, y5, y6, y7, y8] ∧ Same H H' ∧ H' q = some (.lst ls) ∧ AllAt LnAt H' ls (linesOf (bs.take i)).ls)
      ⟨none, none, none, none, none, [], rfl, sq, upd_same, trivial⟩ (fun i σ H' _ ⟨_, _, _, _, _, _, _, s1, _⟩ => s1.seq hS) ?_ ?_⟩
    · rintro i x σ H' hxi ⟨y4, y5, y6, y7, y8, ls, rfl, s1, hls, hall⟩
      obtain ⟨b, hb, t, rfl, ht⟩ := hx.at hxi
      have eb : bs.take (i + 1) = bs.take i ++ [b] := by rw [List.take_add_one, hb]; rfl
      have hbs := B.small b (List.mem_of_getElem? hb)
      have hlens : (linesOf (bs.take i)).ls.length ≤ 2000 := by
        have h1 := linesOf_len (bs.take i) 100 fun z hz => (B.small z (List.mem_of_mem_take hz)).1
        have h2 := B.few
        rw [List.length_take] at h1
        omega
      refine ⟨t, _, rfl, SqT.of (s1 _ _ ht), rfl, _, _, rfl, _, _, rfl, _, _, rfl, _, _, rfl, rfl, ?_⟩
      rw [eb, linesOf_snoc]
      generalize linesOf (bs.take i) = tt at hls hall hlens ⊢
      refine ⟨.bl (tt.du || b.g), fun Q' hQ => ⟨_, rfl, tt.du, rfl, ite2 (fun h1 => ?_) (fun h1 => ⟨_, rfl, ?_⟩)⟩, ?_⟩
      · rw [h1] at hQ; exact hQ
      · have : tt.du = false := by simpa using h1
        rw [this] at hQ; exact hQ
      generalize hdu : (tt.du || b.g) = du
      refine ⟨_, rfl, _, rfl, by omega, by omega, for_range (lo := 0) (n := ((b.c : Nat) : Int).toNat) (fun j σ H2 => ∃ (y8 : Option V) (ls' : List V), σ = [some (.ref a), some (.ref q), some (.bl tt.kp), some (.bl du), some (.int (b.c : Int)), some (.int b.s), some (.bl b.k), some (.bl b.g), y8] ∧ Same H H2 ∧ H2 q = some (.lst ls') ∧ AllAt LnAt H2 ls' (tt.ls ++ blLines b.c b.s tt.kp du j))
        ⟨_, ls, rfl, s1, hls, by rw [show blLines b.c b.s tt.kp du 0 = [] from rfl, List.append_nil]; exact hall⟩ ?_ ?_⟩
      · rintro j σ H2 hj ⟨y8', ls', rfl, s2, hls2, hall2⟩
        have hj' : j < b.c := by omega
        have hln : (blLines b.c b.s tt.kp du j).length = j := by unfold blLines; simp
        have hsz : ls'.length < sizeLine := by
          rw [hall2.len, List.length_append, hln]
          exact Nat.lt_of_le_of_lt (m := 5000) (by omega) (by decide)
        have z0 : (0 : Int) + (j : Int) = (j : Int) := Int.zero_add _
        rw [blLines_succ, ← List.append_assoc]
        refine ⟨_, rfl, .inl ⟨rfl, _, SqL.of hls2⟩, _, rfl, rfl, _, rfl, ite2 (fun h1 => ?_) (fun h1 => ?_)⟩
        · have hj0 : j = 0 := by
            have := V.int.inj (of_decide_eq_true h1)
            omega
          refine ⟨_, rfl, _, rfl, _, rfl, (by show 3 ≤ sizeLine; decide), fun p hp => ?_⟩
          obtain ⟨p1, p2, p3, p4⟩ := all_push (f := fun l : Ln => [.int l.sp, .bl l.br, .bl l.du]) (y := blLn b.c b.s tt.kp du j) (tv := [.int b.s, .bl tt.kp, .bl du]) hls2 hall2 hp (by rw [hj0]; rfl)
          exact ⟨q, _, _, rfl, rfl, p3, hsz, _, _, rfl, fun u o e => p4 u o (fun r => by rw [r, hq] at e; cases e) (s2 _ _ e), p1, p2⟩
        · have hj0 : ¬ j = 0 := fun r => h1 (decide_eq_true (by rw [r]; rfl))
          refine ⟨_, rfl, _, rfl, _, _, rfl, rfl, (by show 2 ≤ sizeLine; decide), fun u hu => ⟨u, _, rfl, .inr (SqT.of upd_same), rfl, rfl, (by show 3 ≤ sizeLine; decide), fun p hp => ?_⟩⟩
          have nuq : q ≠ u := fun r => by rw [← r, hls2] at hu; cases hu
          have hls3 : (upd H2 u (.tup [V.int 1, V.int ((b.c : Int) - 1)])) q = some (.lst ls') := (upd_ne nuq).trans hls2
          have hall3 := lnMono (Tups.new (o := .tup [V.int 1, V.int ((b.c : Int) - 1)]) hu) hall2
          have eb2 : blLn b.c b.s tt.kp du j = ⟨0, decide ((j : Int) = 1 ∨ (j : Int) = (b.c : Int) - 1), false⟩ := by unfold blLn; rw [if_neg hj0]
          obtain ⟨p1, p2, p3, p4⟩ := all_push (f := fun l : Ln => [.int l.sp, .bl l.br, .bl l.du]) (y := blLn b.c b.s tt.kp du j) (tv := [.int 0, .bl (inV (.int (0 + (j : Int))) [V.int 1, V.int ((b.c : Int) - 1)]), .bl false]) hls3 hall3 hp (by rw [eb2, in_two, z0])
          exact ⟨q, _, _, rfl, rfl, p3, hsz, _, _, rfl, fun v o e => p4 v o (fun r => by rw [r, hq] at e; cases e) (same_new hu _ _ (s2 _ _ e)), p1, p2⟩
      · rintro σ H2 ⟨y8', ls', rfl, s2, hls2, hall2⟩
        have e0 : ((b.c : Nat) : Int).toNat = b.c := Int.toNat_natCast _
        rw [e0] at hall2
        have ec : decide (V.int (b.c : Int) = V.int 0) = decide (b.c = 0) := by
          rw [dec_int]
          by_cases h : b.c = 0
          · rw [h]; rfl
          · rw [decide_eq_false h, decide_eq_false (by omega)]
        refine ⟨.bl (if b.c = 0 then du else false), fun Q' hQ => ⟨_, rfl, du, rfl, ite2 (fun h1 => ⟨_, rfl, rfl, ?_⟩) (fun h1 => ?_)⟩, ?_⟩
        · rw [ec]
          by_cases h : b.c = 0
          · rw [if_pos h, h1] at hQ; rw [decide_eq_true h]; exact hQ
          · rw [if_neg h] at hQ; rw [decide_eq_false h]; exact hQ
        · have : du = false := by simpa using h1
          rw [this, ite_self] at hQ
          exact hQ
        refine ⟨.bl (if b.c = 0 then tt.kp else b.k), fun Q' hQ => ⟨_, rfl, _, _, rfl, rfl, _, rfl, ite2 (fun h1 => ⟨_, rfl, ?_⟩) (fun h1 => ⟨_, rfl, ?_⟩)⟩, ?_⟩
        · have hc : ¬ b.c = 0 := by
            have := of_decide_eq_true h1
            omega
          rw [if_neg hc] at hQ
          exact hQ
        · have hc : b.c = 0 := by
            have : ¬ (b.c : Int) > 0 := fun r => h1 (decide_eq_true r)
            omega
          rw [if_pos hc] at hQ
          exact hQ
        refine ⟨some (.int (b.c : Int)), some (.int b.s), some (.bl b.k), some (.bl b.g), y8', ls', ?_, s2, hls2, ?_⟩
        · unfold stepB
          rw [hdu]
          rfl
        · unfold stepB
          rw [hdu]
          exact hall2
    · rintro σ H' ⟨y4, y5, y6, y7, y8, ls, rfl, s1, hls, hall⟩
      rw [hlen, List.take_of_length_le (Nat.le_refl _)] at hall
      refine ⟨_, rfl, _, rfl, _, rfl, (by show 3 ≤ sizeLine; decide), fun p hp => ?_⟩
      have sp := same_new (o := .tup [.ref q, .bl (linesOf (bs.take xs.length)).kp, .bl (linesOf (bs.take xs.length)).du]) hp
      exact k p q _ ls _ _ (s1.free hp) (s1.trans sp) upd_same (sp _ _ hls) (lnMono (Tups.of sp) hall)
end
end Pa
set_option maxRecDepth 100000
set_option maxHeartbeats 4000000
namespace Pa
open PySem PySem.Spec PyProof.Rows L2
theorem ln_get {ls : List Ln} {i : Nat} {l : Ln} (h : ls[i]? = some l) : ln ls i = l := by
  unfold ln
  rw [h]
  rfl
/-- the i-th line, where it stands -/
theorem lnTo {H : Hp} {lv : List V} {ls : List Ln} {i : Nat} (h : AllAt LnAt H lv ls) (hi : i < ls.length) : ∃ t, lv[i]? = some (.ref t) ∧ H t = some (.tup [.int (ln ls i).sp, .bl (ln ls i).br, .bl (ln ls i).du]) := by
  obtain ⟨x, hx, t, rfl, ht⟩ := h.to (List.getElem?_eq_getElem hi)
  have e : ln ls i = ls[i] := ln_get (List.getElem?_eq_getElem hi)
  rw [← e] at ht
  exact ⟨t, hx, ht⟩
theorem lnTo' {H H' : Hp} {lv : List V} {ls : List Ln} {i : Nat} (s : Same H H') (h : AllAt LnAt H lv ls) (hi : i < ls.length) : ∃ t, lv[i]? = some (.ref t) ∧ H' t = some (.tup [.int (ln ls i).sp, .bl (ln ls i).br, .bl (ln ls i).du]) := by
  obtain ⟨t, h1, h2⟩ := lnTo h hi
  exact ⟨t, h1, s _ _ h2⟩
section
variable {P : Program} {w : World} {K : PySem.W.Frag} {mg : Str → Option Value} {base : Heap} {tp C : Addr}
def spReason : Sp := fun vs H Q _ => ∃ (L : Int) (q : Addr) (lv : List V) (ls : List Ln) (start stop : Nat), vs = [.int L, .ref q, .int (start : Int), .int (stop : Int)] ∧ H q = some (.lst lv) ∧ AllAt LnAt H lv ls ∧ start < stop ∧ stop < ls.length ∧ ls.length ≤ 100000 ∧
  ∀ H', Same H H' → Q (.bl (reasonB L ls start stop)) H'
abbrev sL_reason : Stmt := topS 21
theorem scL_reason : FnScope ["_law_length_here", "_law_lines_here", "_law_start", "_law_stop", "_law_row", "_law_at", "_law_k"] ["_law_length_here", "_law_lines_here", "_law_start", "_law_stop"] (defScope sL_reason) := ⟨rfl, rfl, rfl, by decide +kernel, rfl, by decide +kernel, by decide +kernel⟩
theorem ok_reason {f : Addr} {fd : FuncData} (F : Fun K "_law_reason" "_law_reason" sL_reason f fd) (T : Txt K mg tp C) : FnOk P w K mg base CX0 1 f fd ["_law_length_here", "_law_lines_here", "_law_start", "_law_stop"] spReason := by
  refine F.ok scL_reason (fun vs H Q E h => ?_) (fun cdv A outer s H vs Q E hr h => ?_)
  · obtain ⟨L, q, lv, ls, start, stop, rfl, _⟩ := h
    rfl
  · obtain ⟨L, q, lv, ls, start, stop, rfl, hq, hall, h1, h2, hlen, k⟩ := h
    refine ⟨_, (pss_cons (ps_if (pt_val (pe_ix ix_tup (pe_ix ix_list (pv 1) (pv 3) (fun _ _ => rfl)) pe_int (fun _ _ => rfl)))
        (pss_one (ps_ret pe_bl))
        pss_nil)
      (pss_cons (ps_set (i := 4) scL_reason.nd rfl (.inl rfl) pe_int)
      (pss_cons (ps_for PassesOwn.never rfl (pi_range2 (by rfl) T.b_range (pa_cons (pe_op op_add (pv 2) pe_int) (pa_cons (pe_callB call_len_seq (by rfl) T.b_len PySem.boot_len (pa_cons (pv 1) pa_nil)) pa_nil))) (pg_name (i := 5) scL_reason.nd rfl (.inl rfl))
        (pss_cons (ps_set (i := 4) scL_reason.nd rfl (.inl rfl) (pe_op op_add (pe_op op_add (pv 4) (pe_ix ix_tup (pe_ix ix_list (pv 1) (pv 5) (fun _ _ => rfl)) pe_int (fun _ _ => rfl))) pe_int))
        (pss_cons (ps_if (pt_pure (PW.pt (pw_and (pt_cmpR op_gt (pv 5) (pv 3) (nomark _)) (pw_and1 (pt_val (pe_ix ix_tup (pe_ix ix_list (pv 1) (pv 5) (fun _ _ => rfl)) pe_int (fun _ _ => rfl)))))))
          (pss_one (ps_ret pe_bl))
          pss_nil)
        (pss_cons (ps_if (pt_pure (PW.pt (pw_and (pt_cmpR op_ge (pv 4) (pv 0) (nomark _)) (pw_and1 (pt_cmpR op_gt (pv 5) (pv 3) (nomark _))))))
          (pss_one (ps_ret (pe_and (pe_not (pe_ix ix_tup (pe_ix ix_list (pv 1) (pv 3) (fun _ _ => rfl)) pe_int (fun _ _ => rfl))) (pe_one (pe_callB (cr_all rfl) (by rfl) T.b_all (by decide +kernel) (pa_cons (pe_lc (own := [("_law_k", 6)]) (g := gName 6) (tt := tYes) rfl scL_reason.nd (pi_range2 (by rfl) T.b_range (pa_cons (pe_op op_add (pv 3) pe_int) (pa_cons (pe_op op_add (pv 5) pe_int) pa_nil))) (blkOk_by (N := ["_law_length_here", "_law_lines_here", "_law_start", "_law_stop", "_law_row", "_law_at", "_law_k"]) (sc := defScope sL_reason) (by decide +kernel)) (fun _ _ _ _ _ => (pg_name (i := 6) scL_reason.nd rfl (.inl rfl))) (fun _ _ _ _ _ => pts_nil) (fun _ _ _ _ _ => (pe_ix (r := rIxT K) ix_tup (pe_ix (r := rIxL K) ix_list (pv 1) (pv 6) (fun _ _ => rfl)) pe_int (fun _ _ => rfl)))) pa_nil))))))
          pss_nil)
        (pss_one (ps_if (pt_cmpR op_ge (pv 4) (pv 0) (nomark _))
          (pss_one (ps_ret (pe_and (pe_cmpR op_eq (pv 5) (pv 3) (nomark _)) (pe_one (pe_or (pe_not (pe_ix ix_tup (pe_ix ix_list (pv 1) (pv 5) (fun _ _ => rfl)) pe_int (fun _ _ => rfl))) (pe_one (pe_callB (cr_all rfl) (by rfl) T.b_all (by decide +kernel) (pa_cons (pe_lc (own := [("_law_k", 6)]) (g := gName 6) (tt := tYes) rfl scL_reason.nd (pi_range2 (by rfl) T.b_range (pa_cons (pe_op op_add (pv 2) pe_int) (pa_cons (pe_op op_add (pv 5) pe_int) pa_nil))) (blkOk_by (N := ["_law_length_here", "_law_lines_here", "_law_start", "_law_stop", "_law_row", "_law_at", "_law_k"]) (sc := defScope sL_reason) (by decide +kernel)) (fun _ _ _ _ _ => (pg_name (i := 6) scL_reason.nd rfl (.inl rfl))) (fun _ _ _ _ _ => pts_nil) (fun _ _ _ _ _ => (pe_ix (r := rIxT K) ix_tup (pe_ix (r := rIxL K) ix_list (pv 1) (pv 6) (fun _ _ => rfl)) pe_int (fun _ _ => rfl)))) pa_nil))))))))
          pss_nil))))))
      (pss_one (ps_ret pe_bl))))), ?_⟩
    unfold reasonB at k
    obtain ⟨t0, ht0, ht0'⟩ := lnTo hall h2
    refine ⟨_, rfl, _, rfl, q, _, _, _, rfl, rfl, SqL.of hq, atI_nat ht0, t0, _, _, _, rfl, rfl, SqT.of ht0', atI_nat (j := 2) rfl, _, rfl, ite2 (fun hd => ?_) (fun hd => ?_)⟩
    · rw [if_pos hd] at k
      exact k H (Same.refl H)
    rw [if_neg hd] at k
    have hll : lv.length = ls.length := hall.len
    have hn : ((lv.length : Int) - ((start : Int) + 1)).toNat = ls.length - (start + 1) := by omega
    refine ⟨_, rfl, _, _, rfl, rfl, _, rfl, q, _, rfl, .inl (SqL.of hq), (start : Int) + 1, (lv.length : Int), rfl, ⟨by omega, by omega, by omega, by omega⟩, ?_⟩
    rw [hn]
    refine for_range (lo := (start : Int) + 1) (n := ls.length - (start + 1)) (fun i σ H' => ∃ (row : Int) (y5 : Option V), σ = [some (.int L), some (.ref q), some (.int (start : Int)), some (.int (stop : Int)), some (.int row), y5, none] ∧ Same H H' ∧ rsGo L ls start stop (ls.length - (start + 1) - i) (start + 1 + i) row = rsGo L ls start stop (ls.length - (start + 1)) (start + 1) 0)
      ⟨0, none, rfl, Same.refl H, rfl⟩ ?_ ?_
    · rintro i σ H' hi ⟨row, y5, rfl, s1, hgo⟩
      obtain ⟨m, hm⟩ : ∃ m, ls.length - (start + 1) - i = m + 1 := ⟨ls.length - (start + 1) - i - 1, by omega⟩
      have hat : start + 1 + i < ls.length := by omega
      have eat : (start : Int) + 1 + (i : Int) = ((start + 1 + i : Nat) : Int) := by omega
      rw [hm, rsGo] at hgo
      obtain ⟨t, ht, ht'⟩ := lnTo' s1 hall hat
      obtain ⟨ts, hts, hts'⟩ := lnTo' s1 hall h2
      have hq1 := s1 _ _ hq
      show gName 5 _ _ _ _
      rw [eat]
      refine ⟨_, rfl, _, rfl, _, rfl, q, _, _, _, rfl, rfl, SqL.of hq1, atI_nat ht, t, _, _, _, rfl, rfl, SqT.of ht', atI_nat (j := 0) rfl, _, _, rfl, rfl, _, _, rfl, rfl, ?_⟩
      refine ⟨decide (stop < start + 1 + i ∧ (ln ls (start + 1 + i)).du = true), fun Q' hQ => ?_, ?_⟩
      · refine ⟨_, rfl, _, rfl, _, _, rfl, rfl, _, rfl, ite2 (fun g1 => ?_) (fun g1 => ?_)⟩
        · have g1 : stop < start + 1 + i := by have := of_decide_eq_true g1; omega
          refine ⟨_, rfl, _, rfl, q, _, _, _, rfl, rfl, SqL.of hq1, atI_nat ht, t, _, _, _, rfl, rfl, SqT.of ht', atI_nat (j := 2) rfl, _, rfl, ?_⟩
          rcases twoB (ln ls (start + 1 + i)).du with g2 | g2
          · rw [decide_eq_true ⟨g1, g2⟩] at hQ
            rw [g2]; exact hQ
          · rw [decide_eq_false (fun z => by rw [g2] at z; cases z.2)] at hQ
            rw [g2]; exact hQ
        · have g1 : ¬ stop < start + 1 + i := fun z => g1 (decide_eq_true (by omega))
          rw [decide_eq_false (fun z => g1 z.1)] at hQ
          exact hQ
      refine ite2 (fun g1 => ?_) (fun g1 => ?_)
      · rw [if_pos (of_decide_eq_true g1)] at hgo
        rw [← hgo] at k
        exact k H' s1
      rw [if_neg (fun z => g1 (decide_eq_true z))] at hgo
      refine ⟨decide (L ≤ row + (ln ls (start + 1 + i)).sp + 1 ∧ stop < start + 1 + i), fun Q' hQ => ?_, ?_⟩
      · refine ⟨_, rfl, _, rfl, _, _, rfl, rfl, _, rfl, ite2 (fun g2 => ?_) (fun g2 => ?_)⟩
        · have g2 : L ≤ row + (ln ls (start + 1 + i)).sp + 1 := of_decide_eq_true g2
          refine ⟨_, rfl, _, rfl, _, _, rfl, rfl, _, rfl, ?_⟩
          by_cases g3 : stop < start + 1 + i
          · rw [decide_eq_true ⟨g2, g3⟩] at hQ
            rw [decide_eq_true (show ((stop : Nat) : Int) < ((start + 1 + i : Nat) : Int) by omega)]
            exact hQ
          · rw [decide_eq_false (fun z => g3 z.2)] at hQ
            rw [decide_eq_false (show ¬ ((stop : Nat) : Int) < ((start + 1 + i : Nat) : Int) by omega)]
            exact hQ
        · have g2 : ¬ L ≤ row + (ln ls (start + 1 + i)).sp + 1 := fun z => g2 (decide_eq_true z)
          rw [decide_eq_false (fun z => g2 z.1)] at hQ
          exact hQ
      refine ite2 (fun g2 => ?_) (fun g2 => ?_)
      · have g2' := of_decide_eq_true g2
        rw [if_pos g2'] at hgo
        rw [← hgo] at k
        refine ⟨_, rfl, _, rfl, q, _, _, _, rfl, rfl, SqL.of hq1, atI_nat hts, ts, _, _, _, rfl, rfl, SqT.of hts', atI_nat (j := 1) rfl, _, rfl, _, rfl, ite2 (fun g3 => ?_) (fun g3 => ?_)⟩
        · rw [g3, Bool.true_and] at k
          refine ⟨_, rfl, _, _, rfl, rfl, _, rfl, _, _, rfl, rfl, (stop : Int) + 1, ((start + 1 + i : Nat) : Int) + 1, rfl, ⟨by omega, by omega, by omega, by omega⟩, fun D hD => ?_⟩
          have en : (((start + 1 + i : Nat) : Int) + 1 - ((stop : Int) + 1)).toNat = start + 1 + i + 1 - (stop + 1) := by omega
          rw [en]
          refine lc_range (lo := (stop : Int) + 1) (n := start + 1 + i + 1 - (stop + 1)) (fun j H3 => Same H' H3 ∧ H3 D = some (.lst (((List.range' (stop + 1) j).map fun z => (ln ls z).br).map V.bl))) ⟨same_new hD, upd_same⟩ ?_ ?_
          · rintro j H3 hj ⟨s3, h3⟩
            have hj2 : stop + 1 + j < ls.length := by omega
            have ej : (stop : Int) + 1 + (j : Int) = ((stop + 1 + j : Nat) : Int) := by omega
            obtain ⟨tj, htj, htj'⟩ := lnTo' (s1.trans s3) hall hj2
            refine ⟨rfl, ?_⟩
            refine ⟨_, rfl, _, rfl, q, _, _, _, rfl, rfl, SqL.of (s3 _ _ hq1), (by rw [ej]; exact atI_nat htj), tj, _, _, _, rfl, rfl, SqT.of htj', atI_nat (j := 1) rfl, _, h3, ?_, fun u o e => ?_, ?_⟩
            · rw [List.length_map, List.length_map, List.length_range']
              exact Nat.lt_of_le_of_lt (m := 200000) (by omega) (by decide)
            · rw [upd_ne (fun z => by rw [z, hD] at e; cases e)]
              exact s3 _ _ e
            · rw [upd_same, List.range'_concat]
              simp
          · rintro H3 ⟨s3, h3⟩
            refine ⟨D, _, rfl, SqL.of h3, ?_⟩
            have ea : (((List.range' (stop + 1) (start + 1 + i + 1 - (stop + 1))).map fun z => (ln ls z).br).all id) = allBr ls (stop + 1) (start + 1 + i + 1) := by
              unfold allBr
              rw [List.all_map]
              rfl
            rw [ea]
            exact k H3 (s1.trans s3)
        · have g3' : (!(ln ls stop).br) = false := by simpa using g3
          rw [g3', Bool.false_and] at k
          exact k H' s1
      rw [if_neg (fun z => g2 (decide_eq_true z))] at hgo
      refine ⟨_, rfl, _, rfl, _, _, rfl, rfl, _, rfl, ite2 (fun g3 => ?_) (fun g3 => ?_)⟩
      · have g3' : L ≤ row + (ln ls (start + 1 + i)).sp + 1 := of_decide_eq_true g3
        rw [if_pos g3'] at hgo
        rw [← hgo] at k
        refine ⟨_, rfl, _, rfl, rfl, _, rfl, ite2 (fun g4 => ?_) (fun g4 => ?_)⟩
        · have g4' : start + 1 + i = stop := by
            have := V.int.inj (of_decide_eq_true g4)
            omega
          rw [decide_eq_true g4', Bool.true_and] at k
          refine ⟨_, rfl, _, rfl, q, _, _, _, rfl, rfl, SqL.of hq1, atI_nat ht, t, _, _, _, rfl, rfl, SqT.of ht', atI_nat (j := 1) rfl, _, rfl, _, rfl, ite2 (fun g5 => ?_) (fun g5 => ?_)⟩
          · rw [g5, Bool.true_or] at k
            exact k H' s1
          · have g5' : (!(ln ls (start + 1 + i)).br) = false := by simpa using g5
            rw [g5', Bool.false_or] at k
            refine ⟨_, rfl, _, _, rfl, rfl, _, rfl, _, _, rfl, rfl, (start : Int) + 1, ((start + 1 + i : Nat) : Int) + 1, rfl, ⟨by omega, by omega, by omega, by omega⟩, fun D hD => ?_⟩
            have en : (((start + 1 + i : Nat) : Int) + 1 - ((start : Int) + 1)).toNat = start + 1 + i + 1 - (start + 1) := by omega
            rw [en]
            refine lc_range (lo := (start : Int) + 1) (n := start + 1 + i + 1 - (start + 1)) (fun j H3 => Same H' H3 ∧ H3 D = some (.lst (((List.range' (start + 1) j).map fun z => (ln ls z).br).map V.bl))) ⟨same_new hD, upd_same⟩ ?_ ?_
            · rintro j H3 hj ⟨s3, h3⟩
              have hj2 : start + 1 + j < ls.length := by omega
              have ej : (start : Int) + 1 + (j : Int) = ((start + 1 + j : Nat) : Int) := by omega
              obtain ⟨tj, htj, htj'⟩ := lnTo' (s1.trans s3) hall hj2
              refine ⟨rfl, ?_⟩
              refine ⟨_, rfl, _, rfl, q, _, _, _, rfl, rfl, SqL.of (s3 _ _ hq1), (by rw [ej]; exact atI_nat htj), tj, _, _, _, rfl, rfl, SqT.of htj', atI_nat (j := 1) rfl, _, h3, ?_, fun u o e => ?_, ?_⟩
              · rw [List.length_map, List.length_map, List.length_range']
                exact Nat.lt_of_le_of_lt (m := 200000) (by omega) (by decide)
              · rw [upd_ne (fun z => by rw [z, hD] at e; cases e)]
                exact s3 _ _ e
              · rw [upd_same, List.range'_concat]
                simp
            · rintro H3 ⟨s3, h3⟩
              refine ⟨D, _, rfl, SqL.of h3, ?_⟩
              have ea : (((List.range' (start + 1) (start + 1 + i + 1 - (start + 1))).map fun z => (ln ls z).br).all id) = allBr ls (start + 1) (start + 1 + i + 1) := by
                unfold allBr
                rw [List.all_map]
                rfl
              rw [ea]
              exact k H3 (s1.trans s3)
        · have g4' : ¬ start + 1 + i = stop := fun z => g4 (decide_eq_true (by rw [z]))
          rw [decide_eq_false g4', Bool.false_and] at k
          exact k H' s1
      · rw [if_neg (fun z => g3 (decide_eq_true z))] at hgo
        refine ⟨row + (ln ls (start + 1 + i)).sp + 1, some (.int ((start + 1 + i : Nat) : Int)), rfl, s1, ?_⟩
        have e1 : ls.length - (start + 1) - (i + 1) = m := by omega
        rw [e1]
        exact hgo
    · rintro σ H' ⟨row, y5, rfl, s1, hgo⟩
      rw [Nat.sub_self, rsGo] at hgo
      rw [← hgo] at k
      exact k H' s1
end
end Pa
set_option maxRecDepth 100000
set_option maxHeartbeats 4000000
namespace Pa
open PySem PySem.Spec PyProof.Rows L2
theorem startB_lt (R : List Int) : ∀ i, 0 < i → startB R i < i
  | 0, h => by omega
  | k + 1, _ => by
    show (if (R[k]?).getD 1 = 0 then k else startB R k) < k + 1
    split
    · omega
    · cases k with
      | zero => exact Nat.zero_lt_one
      | succ k => have := startB_lt R (k + 1) (by omega); omega
section
variable {P : Program} {w : World} {K : PySem.W.Frag} {mg : Str → Option Value} {base : Heap} {tp C : Addr}
def spRight : Sp := fun vs H Q _ => ∃ (L : Int) (q p : Addr) (lv rv : List V) (ls : List Ln) (R : List Int), vs = [.int L, .ref q, .ref p] ∧ H q = some (.lst lv) ∧ AllAt LnAt H lv ls ∧ H p = some (.lst rv) ∧ AllAt RwAt H rv R ∧ R.length = ls.length ∧ ls.length ≤ 100000 ∧
  (∀ i, i < ls.length → OkAt L ls R i) ∧ ∀ H', Same H H' → Q (.bl true) H'
abbrev sL_right : Stmt := topS 22
theorem scL_right : FnScope ["_law_length_here", "_law_lines_here", "_law_told", "_law_start", "_law_at", "_law_row"] ["_law_length_here", "_law_lines_here", "_law_told"] (defScope sL_right) := ⟨rfl, rfl, rfl, by decide +kernel, rfl, by decide +kernel, by decide +kernel⟩
theorem ok_right {f : Addr} {fd : FuncData} (F : Fun K "_law_right" "_law_right" sL_right f fd) (T : Txt K mg tp C) (C__law_number : CallOk P w K mg base 1 "_law_number" ["_law_thing"] spNum)
    (C__law_reason : CallOk P w K mg base 1 "_law_reason" ["_law_length_here", "_law_lines_here", "_law_start", "_law_stop"] spReason) : FnOk P w K mg base CX0 2 f fd ["_law_length_here", "_law_lines_here", "_law_told"] spRight := by
  refine F.ok scL_right (fun vs H Q E h => ?_) (fun cdv A outer s H vs Q E hr h => ?_)
  · obtain ⟨L, q, p, lv, rv, ls, R, rfl, _⟩ := h
    rfl
  · obtain ⟨L, q, p, lv, rv, ls, R, rfl, hq, hall, hp, hrw, hRl, hlen, ok, k⟩ := h
    refine ⟨_, (pss_cons (ps_if (PW.pt (pw_or (pt_not (pt_val (pe_callB call_isi (by rfl) T.b_isinstance (by decide +kernel) (pa_cons (pv 2) (pa_cons (pe_bltn (v := .ty "list") (by rfl) T.b_list (by decide +kernel) rfl) pa_nil))))) (pw_or1 (pt_cmpR op_ne (pe_callB call_len_seq (by rfl) T.b_len PySem.boot_len (pa_cons (pv 2) pa_nil)) (pe_callB call_len_seq (by rfl) T.b_len PySem.boot_len (pa_cons (pv 1) pa_nil)) (nomark _)))))
        (pss_one (ps_ret pe_bl))
        pss_nil)
      (pss_cons (ps_set (i := 3) scL_right.nd rfl (.inl rfl) pe_int)
      (pss_cons (ps_for PassesOwn.never rfl (pi_enum (by rfl) T.b_enumerate (pa_cons (pv 2) pa_nil)) (pg_tup rfl (pgs_cons (pg_name (i := 4) scL_right.nd rfl (.inl rfl)) (pgs_cons (pg_name (i := 5) scL_right.nd rfl (.inl rfl)) pgs_nil)))
        (pss_cons (ps_if (pt_pure (PW.pt (pw_or (pt_not (pt_val (pe_callB call_isi (by rfl) T.b_isinstance (by decide +kernel) (pa_cons (pv 5) (pa_cons (pe_bltn (v := .ty "tuple") (by rfl) T.b_tuple (by decide +kernel) rfl) pa_nil))))) (pw_or (pt_cmpR op_ne (pe_callB call_len_seq (by rfl) T.b_len PySem.boot_len (pa_cons (pv 5) pa_nil)) pe_int (nomark _)) (pw_or (pt_not (pt_val (pe_callB call_isi (by rfl) T.b_isinstance (by decide +kernel) (pa_cons (pe_ix ix_tup (pv 5) pe_int (fun _ _ => rfl)) (pa_cons (pe_bltn (v := .ty "bool") (by rfl) T.b_bool (by decide +kernel) rfl) pa_nil))))) (pw_or1 (pt_not (pt_val (pe_cc C__law_number (hr.mono (by decide)) (by rfl) (pa_cons (pe_ix ix_tup (pv 5) pe_int (fun _ _ => rfl)) pa_nil))))))))))
          (pss_one (ps_ret pe_bl))
          pss_nil)
        (pss_cons (ps_if (pt_by (PW.pt (pw_and (pt_val (pe_ix ix_tup (pv 5) pe_int (fun _ _ => rfl))) (pw_and1 (PW.pt (pw_or (pt_cmpR op_ne (pe_ix ix_tup (pv 5) pe_int (fun _ _ => rfl)) pe_int (nomark _)) (pw_or1 (PW.pt (pw_and (pt_cmpR op_gt (pv 4) pe_int (nomark _)) (pw_and1 (pt_not (pt_val (pe_cc C__law_reason (hr.mono (by decide)) (by rfl) (pa_cons (pv 0) (pa_cons (pv 1) (pa_cons (pv 3) (pa_cons (pv 4) pa_nil)))))))))))))))))
          (pss_one (ps_ret pe_bl))
          pss_nil)
        (pss_cons (ps_if (pt_pure (PW.pt (pw_and (pt_not (pt_val (pe_ix ix_tup (pv 5) pe_int (fun _ _ => rfl)))) (pw_and1 (PW.pt (pw_or (pt_cmpR op_eq (pv 4) pe_int (nomark _)) (pw_or (pt_val (pe_ix ix_tup (pe_ix ix_list (pv 1) (pv 4) (fun _ _ => rfl)) pe_int (fun _ _ => rfl))) (pw_or1 (pt_cmpR op_ne (pe_ix ix_tup (pv 5) pe_int (fun _ _ => rfl)) (pe_op op_add (pe_op op_add (pe_ix ix_tup (pe_ix ix_list (pv 2) (pe_op op_sub (pv 4) pe_int) (fun _ _ => rfl)) pe_int (fun _ _ => rfl)) (pe_ix ix_tup (pe_ix ix_list (pv 1) (pv 4) (fun _ _ => rfl)) pe_int (fun _ _ => rfl))) pe_int) (nomark _))))))))))
          (pss_one (ps_ret pe_bl))
          pss_nil)
        (pss_cons (ps_if (pt_cmpR op_ge (pe_ix ix_tup (pv 5) pe_int (fun _ _ => rfl)) (pv 0) (nomark _))
          (pss_one (ps_ret pe_bl))
          pss_nil)
        (pss_one (ps_set (i := 3) scL_right.nd rfl (.inl rfl) (pe_pure (pe_ifExp (pt_val (pe_ix ix_tup (pv 5) pe_int (fun _ _ => rfl))) (pv 4) (pv 3))))))))))
      (pss_one (ps_ret pe_bl))))), ?_⟩
    have hrl : rv.length = ls.length := hrw.len.trans hRl
    have hll : lv.length = ls.length := hall.len
    refine ⟨_, rfl, _, _, _, _, true, rfl, .ty _, .base (.lst hp), kit_ty (by decide +kernel), _, rfl, iteF ?_⟩
    refine ⟨_, rfl, p, _, rfl, .inl (SqL.of hp), _, rfl, q, _, rfl, .inl (SqL.of hq), rfl, _, rfl, iteNS (by rw [hrl, hll]) ?_⟩
    refine ⟨_, rfl, p, rv, rfl, SqL.of hp, for_it (walk_enum (xs := rv)) (fun i σ H' => ∃ (y4 y5 : Option V), σ = [some (.int L), some (.ref q), some (.ref p), some (.int (startB R i : Int)), y4, y5] ∧ Same H H') ⟨none, none, rfl, Same.refl H⟩ (fun i σ H' _ ⟨_, _, _, s1⟩ => SqL.of (s1 _ _ hp)) ?_ ?_⟩
    · rintro i x σ H2 H3 hi ⟨y4, y5, rfl, s2⟩ ⟨T', x1, x2, rfl, nT, rfl, e1, e2⟩
      cases e1
      have sT := same_new (o := .tup [.int (i : Nat), x2]) nT
      have s3 : Same H (upd H2 T' (.tup [.int (i : Nat), x2])) := s2.trans sT
      have hT : (upd H2 T' (.tup [.int (i : Nat), x2])) T' = some (.tup [.int (i : Nat), x2]) := upd_same
      generalize upd H2 T' (.tup [.int (i : Nat), x2]) = H3 at s3 hT ⊢
      refine ⟨T', _, rfl, SqT.of hT, rfl, _, _, rfl, _, _, rfl, rfl, ?_⟩
      obtain ⟨r, hr', t, rfl, ht0⟩ := hrw.at e2
      have ht := s3 _ _ ht0
      have hil : i < ls.length := by omega
      obtain ⟨o1, o2, o3⟩ := ok i hil
      rw [hr'] at o1 o2 o3
      simp only [Option.getD_some] at o1 o2 o3
      obtain ⟨tl, htl, htl'⟩ := lnTo' s3 hall hil
      -- the row is a tuple of a bool and a number
      refine ⟨false, fun Q' hQ => ?_, iteF ?_⟩
      · refine ⟨_, rfl, _, _, _, _, true, rfl, .ty _, .base (.tup ht), kit_ty (by decide +kernel), _, rfl, iteF ?_⟩
        refine ⟨_, rfl, t, _, rfl, .inr (SqT.of ht), rfl, _, rfl, iteNS rfl ?_⟩
        refine ⟨_, rfl, t, _, _, _, rfl, rfl, SqT.of ht, atI_nat (j := 0) rfl, _, _, _, _, true, rfl, .ty _, .base (.bl _), kit_ty (by decide +kernel), _, rfl, iteF ?_⟩
        exact ⟨_, rfl, t, _, _, _, rfl, rfl, SqT.of ht, atI_nat (j := 1) rfl, _, rfl, _, rfl, hQ⟩
      -- a page that begins here
      refine ⟨fun c H' => c = false ∧ Same H3 H', fun Q' hQ => ?_, ?_⟩
      · by_cases h0 : r = 0
        · refine ⟨_, rfl, t, _, _, _, rfl, rfl, SqT.of ht, atI_nat (j := 0) rfl, _, rfl, iteP (decide_eq_true h0) ?_⟩
          refine ⟨_, rfl, t, _, _, _, rfl, rfl, SqT.of ht, atI_nat (j := 1) rfl, rfl, _, rfl, iteNS (by rw [h0]) ?_⟩
          refine ⟨_, rfl, _, _, rfl, rfl, _, rfl, ite2 (fun h1 => ?_) (fun h1 => ?_)⟩
          · have h1 : 0 < i := by have := of_decide_eq_true h1; omega
            refine ⟨_, rfl, _, rfl, _, rfl, _, rfl, L, q, lv, ls, startB R i, i, rfl, s3 _ _ hq, lnMono (Tups.of s3) hall, startB_lt R i h1, hil, hlen, fun H' s' => ⟨_, rfl, ?_⟩⟩
            rcases o2 h0 with z | z
            · omega
            · rw [z]
              exact hQ _ _ ⟨rfl, s'⟩
          · exact hQ _ _ ⟨rfl, Same.refl _⟩
        · exact ⟨_, rfl, t, _, _, _, rfl, rfl, SqT.of ht, atI_nat (j := 0) rfl, _, rfl, iteQ (fun z => h0 (of_decide_eq_true z)) (hQ _ _ ⟨rfl, Same.refl _⟩)⟩
      rintro c H4 ⟨rfl, s4⟩
      refine iteF ?_
      have s5 : Same H H4 := s3.trans s4
      have ht := s4 _ _ ht
      have htl' := s4 _ _ htl'
      -- a line that stands below another one
      refine ⟨false, fun Q' hQ => ?_, iteF ?_⟩
      · by_cases h0 : r = 0
        · refine ⟨_, rfl, t, _, _, _, rfl, rfl, SqT.of ht, atI_nat (j := 0) rfl, _, rfl, ?_⟩
          rw [decide_eq_true h0]
          exact iteF hQ
        · refine ⟨_, rfl, t, _, _, _, rfl, rfl, SqT.of ht, atI_nat (j := 0) rfl, _, rfl, ?_⟩
          rw [decide_eq_false h0]
          refine iteT ?_
          obtain ⟨u1, u2, u3⟩ := o3 h0
          have hi1 : i - 1 < R.length := by omega
          obtain ⟨x', hx', t', rfl, ht'⟩ := hrw.to (List.getElem?_eq_getElem hi1)
          have eR : (R[i - 1]?).getD 0 = R[i - 1] := by rw [List.getElem?_eq_getElem hi1]; rfl
          rw [eR] at u3
          have ei : ((i : Nat) : Int) - 1 = ((i - 1 : Nat) : Int) := by omega
          refine ⟨_, rfl, rfl, _, rfl, iteQ (fun z => u1 (by have := V.int.inj (of_decide_eq_true z); omega)) ?_⟩
          refine ⟨_, rfl, _, rfl, q, _, _, _, rfl, rfl, SqL.of (s5 _ _ hq), atI_nat htl, tl, _, _, _, rfl, rfl, SqT.of htl', atI_nat (j := 2) rfl, _, rfl, iteQ (neT u2) ?_⟩
          refine ⟨_, rfl, t, _, _, _, rfl, rfl, SqT.of ht, atI_nat (j := 1) rfl, _, rfl, _, rfl, _, _, rfl, rfl, p, _, _, _, rfl, rfl, SqL.of (s5 _ _ hp), (by rw [ei]; exact atI_nat hx'), t', _, _, _, rfl, rfl, SqT.of (s5 _ _ ht'), atI_nat (j := 1) rfl, _, rfl, _, rfl, q, _, _, _, rfl, rfl, SqL.of (s5 _ _ hq), atI_nat htl, tl, _, _, _, rfl, rfl, SqT.of htl', atI_nat (j := 0) rfl, _, _, rfl, rfl, _, _, rfl, rfl, rfl, _, rfl, ?_⟩
          have : (!decide (V.int r = V.int (R[i - 1] + (ln ls i).sp + 1))) = false := by rw [u3]; simp
          show Q' (!decide (V.int r = V.int (R[i - 1] + (ln ls i).sp + 1))) _
          rw [this]
          exact hQ
      refine ⟨_, rfl, t, _, _, _, rfl, rfl, SqT.of ht, atI_nat (j := 1) rfl, _, rfl, _, _, rfl, rfl, _, rfl, iteQ (fun z => by have := of_decide_eq_true z; omega) ?_⟩
      have eS : startB R (i + 1) = if r = 0 then i else startB R i := by
        show (if (R[i]?).getD 1 = 0 then i else startB R i) = _
        rw [hr']
        rfl
      refine ⟨.int (startB R (i + 1) : Int), fun Q' hQ => ?_, ?_⟩
      · rw [eS] at hQ
        by_cases h0 : r = 0
        · rw [if_pos h0] at hQ
          exact ⟨_, rfl, t, _, _, _, rfl, rfl, SqT.of ht, atI_nat (j := 0) rfl, _, rfl, iteP (decide_eq_true h0) ⟨_, rfl, hQ⟩⟩
        · rw [if_neg h0] at hQ
          exact ⟨_, rfl, t, _, _, _, rfl, rfl, SqT.of ht, atI_nat (j := 0) rfl, _, rfl, iteQ (fun z => h0 (of_decide_eq_true z)) ⟨_, rfl, hQ⟩⟩
      exact ⟨_, _, rfl, s5⟩
    · rintro σ H' ⟨y4, y5, rfl, s1⟩
      exact k H' s1
end
end Pa
set_option maxRecDepth 100000
set_option maxHeartbeats 4000000
namespace Pa
open PySem PySem.Spec PyProof.Rows L2
/-! ### data that is compared -/
def dBl (b : Bl) : PyData := .tuple [.int (b.c : Int), .int b.s, .bool b.k, .bool b.g]
def dRw (r : Int) : PyData := .tuple [.bool (decide (r = 0)), .int r]
theorem dpBl {K : PySem.W.Frag} {H : Hp} : ∀ {xs : List V} {bs : List Bl}, AllAt BlAt H xs bs → DpAll K H xs (bs.map dBl)
  | [], [], _ => .nil
  | _ :: _, _ :: _, ⟨⟨_, e, ht⟩, h2⟩ => by
    subst e
    exact .cons (.tup (SqT.of ht) (.cons (.int _) (.cons (.int _) (.cons (.bl _) (.cons (.bl _) .nil))))) (dpBl h2)
  | [], _ :: _, h => h.elim
  | _ :: _, [], h => h.elim
theorem dpRw {K : PySem.W.Frag} {H : Hp} : ∀ {xs : List V} {rs : List Int}, AllAt RwAt H xs rs → DpAll K H xs (rs.map dRw)
  | [], [], _ => .nil
  | _ :: _, _ :: _, ⟨⟨_, e, ht⟩, h2⟩ => by
    subst e
    exact .cons (.tup (SqT.of ht) (.cons (.bl _) (.cons (.int _) .nil))) (dpRw h2)
  | [], _ :: _, h => h.elim
  | _ :: _, [], h => h.elim
theorem shaped_map {α : Type} {f : α → PyData} (h : ∀ x, (f x).canLay0 = true ∧ (f x).depth ≤ 1) (xs : List α) : SeqAt.shaped (.list (xs.map f)) = true := by
  have h1 : PyData.canLayAll0 (xs.map f) = true := by
    induction xs with
    | nil => simp [PyData.canLayAll0]
    | cons x xs ih => rw [List.map_cons, PyData.canLayAll0, (h x).1, ih]; rfl
  have h2 : PyData.depthAll (xs.map f) ≤ 1 := by
    induction xs with
    | nil => simp [PyData.depthAll]
    | cons x xs ih =>
      have := ih (by
        rw [List.map_cons, PyData.canLayAll0, Bool.and_eq_true] at h1
        exact h1.2)
      rw [List.map_cons, PyData.depthAll]
      have := (h x).2
      omega
  unfold SeqAt.shaped
  rw [PyData.canLay0, h1, Bool.true_and, PyData.depth]
  exact decide_eq_true (by omega)
theorem shBl (bs : List Bl) : SeqAt.shaped (.list (bs.map dBl)) = true := shaped_map (fun x => ⟨by simp [dBl, PyData.canLay0, PyData.canLayAll0], by simp [dBl, PyData.depth, PyData.depthAll]⟩) bs
theorem shRw (rs : List Int) : SeqAt.shaped (.list (rs.map dRw)) = true := shaped_map (fun x => ⟨by simp [dRw, PyData.canLay0, PyData.canLayAll0], by simp [dRw, PyData.depth, PyData.depthAll]⟩) rs
theorem eqv_self {d : PyData} (h : SeqAt.shaped d = true) : PyData.eqv d d = true := SeqAt.eqv_refl d (SeqAt.canLay_of_shaped h)
end Pa
set_option maxRecDepth 100000
set_option maxHeartbeats 4000000
namespace Pa
open PySem PySem.Spec PyProof.Rows L2
/-- o.m(e, .., k = v, ..): n values and the keywords' values, put into the parameters' order by gV -/
def tMethK (C : Addr) (m : Str) (n j : Nat) (sp : Sp) (gV : List V → List V → List V) (ta : TE) (t tk : TA) : TE :=
  fun σ H Q => ta σ H fun x H1 => ∃ a dx fs, x = .ref a ∧ H1 a = some (.ins C dx fs) ∧ fs.lookup m = none ∧
    t σ H1 fun vs H2 => tk σ H2 fun zs H3 => vs.length = n ∧ zs.length = j ∧ sp (gV (x :: vs) zs) H3 Q E0
section
variable {X : Cx} {k n : Nat} {f C : Addr} {fd : FuncData} {ps ks : List Str} {sp : Sp}
variable {m : Str} {apos pos : Pos} {o e : Expr} {es : List Expr} {kws : List Keyword} {ta : TE} {t tk : TA}
variable {g : List Value → List Value → List Value} {gV : List V → List V → List V}
theorem pe_methK {pl : Sem Bool} (he : PE X o ta) (c : Cls X.K C) (hm : Meth X.K C m f)
    (F : FnOk X.prog X.w X.K X.mg X.base CX0 k f fd ps sp) (hr : Room k X.A)
    (hb : KBn X.K fd ps (n + 1) ks g gV) (ha : PA X (e :: es) t) (hkw : PK X kws tk)
    (hall : (backToKw pos (keywordEach kws X.env)).all (·.1.isSome) = true := by rfl)
    (hks : (backToKw pos (keywordEach kws X.env)).filterMap (·.1) = ks := by rfl)
    (hst : starEach (e :: es) X.env = (false, eval e X.env) :: starEach es X.env := by rfl)
    (hpl : ((backTo pos (starEach (e :: es) X.env)).any (·.1) ||
      (backToKw pos (keywordEach kws X.env)).any (·.1.isNone)) = false := by rfl)
    (ht : eval (.Call (.Attribute o m apos) (e :: es) kws pos) X.env = (do
      let z ← eval o X.env
      standAt apos.atName
      let (f, first) ← holding [z] (getMethod z m pl)
      callWith pos f first (backTo pos (starEach (e :: es) X.env))
        (backToKw pos (keywordEach kws X.env))) := by rfl) :
    PE X (.Call (.Attribute o m apos) (e :: es) kws pos) (tMethK C m n ks.length sp gV ta t tk) := by
  constructor
  intro pins s σ H Q I h
  refine PySem.W.methodCall_KW (pl := pl) (thn (he.run pins s σ H _ I h) ?_) ht
  rintro u s1 ⟨x, H1, I1, rx, a, dx, fs, ex, ea, l, q⟩
  subst ex
  cases (show u = Value.ref a from rx)
  refine getmeth_ok I1 ea c hm l ?_
  refine PySem.W.callWith_KW (first := [.ref a]) (h₀ := X.base) I.ok.mod.kin hm.kp hall ?_ hpl hst
  refine thn (ha.run pos pins s1 σ H1 _ I1 q) ?_
  rintro us s2 ⟨vs, H2, I2, r, q2⟩
  refine thn (hkw.run pos pins s2 σ H2 _ I2 q2) ?_
  rintro ws s3 ⟨zs, H3, I3, rz, l1, l2, q3⟩
  refine ⟨I3.kIn, ?_⟩
  rw [hks]
  have rr : Vals (.ref a :: vs) (.ref a :: us) := .cons rfl r
  exact run_fnN (us := .ref a :: us) (vs := .ref a :: vs) F hr hb pass0 I3 rr rz (congrArg (· + 1) l1) l2 q3
end

structure MethKOk (P : Program) (w : World) (K : PySem.W.Frag) (mg : Str → Option Value) (base : Heap) (C : Addr) (k : Nat) (m : Str) (ps ks : List Str) (n : Nat) (sp : Sp) : Prop where
  ok : ∃ (f : Addr) (fd : FuncData), Meth K C m f ∧ KBn K fd ps (n + 1) ks (fun us ws => us ++ ws) (fun vs zs => vs ++ zs) ∧ FnOk P w K mg base CX0 k f fd ps sp
structure MakeOk (P : Program) (w : World) (K : PySem.W.Frag) (mg : Str → Option Value) (base : Heap) (C : Addr) (k : Nat) (x : Str) (ps : List Str) (sp : Sp) : Prop where
  ok : ∃ (f : Addr) (fd : FuncData), Mk K C f ∧ mg x = some (.ref C) ∧ Binds K fd ps [] ∧ FnOk P w K mg base CX0 k f fd ps sp
section
variable {X : Cx} {k n : Nat} {C : Addr} {ps ks : List Str} {sp : Sp} {m x : Str} {p apos pos : Pos} {o e : Expr} {es : List Expr} {kws : List Keyword} {ta : TE} {t tk : TA}
theorem pe_mk (M : MakeOk X.prog X.w X.K X.mg X.base C k x ps sp) (hr : Room (k + 1) X.A) (hg : Gl X x) (ha : PA X (e :: es) t)
    (hdb : (x == ("__debug__" : Str)) = false := by decide) (he : starEach (e :: es) X.env = (false, eval e X.env) :: starEach es X.env := by rfl) (hpl : (backTo pos (starEach es X.env)).any (·.1) = false := by rfl) :
    PE X (.Call (.Name x p) (e :: es) [] pos) (tMake C sp [] E0 t) := by
  obtain ⟨f, fd, h1, h2, h3, h4⟩ := M.ok
  exact pe_make h1 h4 hr hg h2 h3 .nil pass0 ha hdb he hpl
theorem pe_mkw {pl : Sem Bool} (he : PE X o ta) (c : Cls X.K C) (M : MethKOk X.prog X.w X.K X.mg X.base C k m ps ks n sp) (hr : Room k X.A) (ha : PA X (e :: es) t) (hkw : PK X kws tk)
    (hall : (backToKw pos (keywordEach kws X.env)).all (·.1.isSome) = true := by rfl)
    (hks : (backToKw pos (keywordEach kws X.env)).filterMap (·.1) = ks := by rfl)
    (hst : starEach (e :: es) X.env = (false, eval e X.env) :: starEach es X.env := by rfl)
    (hpl : ((backTo pos (starEach (e :: es) X.env)).any (·.1) ||
      (backToKw pos (keywordEach kws X.env)).any (·.1.isNone)) = false := by rfl)
    (ht : eval (.Call (.Attribute o m apos) (e :: es) kws pos) X.env = (do
      let z ← eval o X.env
      standAt apos.atName
      let (f, first) ← holding [z] (getMethod z m pl)
      callWith pos f first (backTo pos (starEach (e :: es) X.env))
        (backToKw pos (keywordEach kws X.env))) := by rfl) :
    PE X (.Call (.Attribute o m apos) (e :: es) kws pos) (tMethK C m n ks.length sp (fun vs zs => vs ++ zs) ta t tk) := by
  obtain ⟨f, fd, h1, h2, h3⟩ := M.ok
  exact pe_methK he c h1 h3 hr h2 ha hkw hall hks hst hpl ht
end
theorem rows_len {L : Int} (hL : 0 < L) {bs : List Bl} (B : Book bs) : (pageOf L bs).rows.length ≤ 2000 := by
  have hs : ∀ b ∈ bs, 0 ≤ b.s := fun b hb => (B.small b hb).2
  rw [rows_same hL bs hs, (right_ok hL (good_lines bs hs).1).1]
  exact B.len
theorem Book.take {bs : List Bl} (B : Book bs) (i : Nat) : Book (bs.take i) := ⟨by have := B.few; rw [List.length_take]; omega, fun b hb => B.small b (List.mem_of_mem_take hb)⟩
section
variable {P : Program} {w : World} {K : PySem.W.Frag} {mg : Str → Option Value} {base : Heap} {tp C : Addr}
def spLaw (K : PySem.W.Frag) : Sp := fun vs H Q _ => ∃ (a : Addr) (ns : List Int), vs = [.ref a] ∧ SqL K H a (ns.map V.int) ∧ ns.length ≤ 63 ∧ ∀ H', Q (.bl true) H'
abbrev slaw : Stmt := topS 23
theorem sclaw : FnScope ["_law_script", "_law_at", "_law_bag_here", "_law_length_here", "_law_is_kept", "_law_blocks", "_law_turn", "_law_count", "_law_space", "_law_kept", "_law_page", "_law_handed", "_law_told", "_law_shown"] ["_law_script"] (defScope slaw) := ⟨rfl, rfl, rfl, by decide +kernel, rfl, by decide +kernel, by decide +kernel⟩
theorem ok_law {f : Addr} {fd : FuncData} (F : Fun K "law" "law" slaw f fd) (T : Txt K mg tp C)
    (C__law_bag : CallOk P w K mg base 1 "_law_bag" ["_law_script", "_law_at"] (spBag K)) (C__law_draw : CallOk P w K mg base 1 "_law_draw" ["_law_bag_here", "_law_many"] spDraw)
    (C__law_length : CallOk P w K mg base 2 "_law_length" ["_law_bag_here"] spLLength) (C__law_block : CallOk P w K mg base 2 "_law_block" ["_law_bag_here", "_law_most"] spLBlock)
    (C_plain_pages : CallOk P w K mg base 2 "plain_pages" ["length", "blocks"] (spPlain K)) (C__law_lines : CallOk P w K mg base 1 "_law_lines" ["_law_blocks"] (spLLines K))
    (C__law_right : CallOk P w K mg base 2 "_law_right" ["_law_length_here", "_law_lines_here", "_law_told"] spRight)
    (M_Page : MakeOk P w K mg base C 1 "Page" ["self", "length"] (spInit C tp)) (M_block : MethKOk P w K mg base C 3 "block" ["self", "count", "space", "kept", "page"] ["space", "kept", "page"] 1 (spBlock K C))
    (M_finish : MethOk P w K mg base C 1 "finish" ["self"] (spFinish C)) : FnOk P w K mg base CX0 4 f fd ["_law_script"] (spLaw K) := by
  refine F.ok sclaw (fun vs H Q E h => ?_) (fun cdv A outer s H vs Q E hr h => ?_)
  · obtain ⟨a, ns, rfl, _⟩ := h
    rfl
  · obtain ⟨a, ns, rfl, hS, hns, k⟩ := h
    refine ⟨_, (pss_cons (ps_for PassesOwn.never rfl (pi_range1 (by rfl) T.b_range (pa_cons (pe_pure (pe_callB (call_max2 rfl) (by rfl) T.b_max (by decide +kernel) (pa_cons pe_int (pa_cons (pe_callB (call_min2 rfl) (by rfl) T.b_min (by decide +kernel) (pa_cons (pe_callB call_len_seq (by rfl) T.b_len PySem.boot_len (pa_cons (pv 0) pa_nil)) (pa_cons pe_int pa_nil))) pa_nil)))) pa_nil)) (pg_name (i := 1) sclaw.nd rfl (.inl rfl))
        (pss_cons (ps_set (i := 2) sclaw.nd rfl (.inl rfl) (pe_cc C__law_bag (hr.mono (by decide)) (by rfl) (pa_cons (pv 0) (pa_cons (pv 1) pa_nil))))
        (pss_cons (ps_par (i := 3) (j := 4) (by rfl) sclaw.nd rfl rfl (by decide) rfl rfl (pa_cons (pe_cc C__law_length (hr.mono (by decide)) (by rfl) (pa_cons (pv 2) pa_nil)) (pa_cons (pe_cmpR op_eq (pe_cc C__law_draw (hr.mono (by decide)) (by rfl) (pa_cons (pv 2) (pa_cons pe_int pa_nil))) pe_int (nomark _)) pa_nil)) (by rfl))
        (pss_cons (ps_set (i := 5) sclaw.nd rfl (.inl rfl) (pe_lst pa_nil))
        (pss_cons (ps_for PassesOwn.never rfl (pi_range1 (by rfl) T.b_range (pa_cons (pe_cc C__law_draw (hr.mono (by decide)) (by rfl) (pa_cons (pv 2) (pa_cons pe_int pa_nil))) pa_nil)) (pg_name (i := 6) sclaw.nd rfl (.inl rfl))
          (pss_cons (ps_asg (pe_cc C__law_block (hr.mono (by decide)) (by rfl) (pa_cons (pv 2) (pa_cons pe_int pa_nil))) (pg_tup rfl (pgs_cons (pg_name (i := 7) sclaw.nd rfl (.inl rfl)) (pgs_cons (pg_name (i := 8) sclaw.nd rfl (.inl rfl)) (pgs_cons (pg_name (i := 9) sclaw.nd rfl (.inl rfl)) (pgs_cons (pg_name (i := 10) sclaw.nd rfl (.inl rfl)) pgs_nil))))))
          (pss_one (ps_expr (pe_bm PySem.F.plainAttrs_list PySem.F.slot_list_append PySem.F.type_list_append mt_append (pv 5) (pa_cons (pe_tup (pa_cons (pv 7) (pa_cons (pv 8) (pa_cons (pe_pure (pe_or (pv 9) (pe_one (pe_and (pv 4) (pe_one (pe_cmpR op_lt (pv 7) pe_int (nomark _))))))) (pa_cons (pv 10) pa_nil))))) pa_nil))))))
        (pss_cons (ps_set (i := 11) sclaw.nd rfl (.inl rfl) (pe_by (pe_ifExp (pt_cmpR op_eq (pe_cc C__law_draw (hr.mono (by decide)) (by rfl) (pa_cons (pv 2) (pa_cons pe_int pa_nil))) pe_int (nomark _)) (pe_callTy call_tuple_of (by rfl) T.b_tuple (by decide +kernel) (pa_cons (pv 5) pa_nil)) (pe_callTy call_list_of (by rfl) T.b_list (by decide +kernel) (pa_cons (pv 5) pa_nil)))))
        (pss_cons (ps_set (i := 12) sclaw.nd rfl (.inl rfl) (pe_cc C_plain_pages (hr.mono (by decide)) (by rfl) (pa_cons (pv 3) (pa_cons (pv 11) pa_nil))))
        (pss_cons (ps_if (pt_by (PW.pt (pw_or (pt_cmpR (op_neD hr.units) (pe_callTy call_list_of (by rfl) T.b_list (by decide +kernel) (pa_cons (pv 11) pa_nil)) (pv 5) (nomark _)) (pw_or1 (pt_not (pt_val (pe_cc C__law_right (hr.mono (by decide)) (by rfl) (pa_cons (pv 3) (pa_cons (pe_ix ix_tup (pe_cc C__law_lines (hr.mono (by decide)) (by rfl) (pa_cons (pv 5) pa_nil)) pe_int (fun _ _ => rfl)) (pa_cons (pv 12) pa_nil))))))))))
          (pss_one (ps_ret pe_bl))
          pss_nil)
        (pss_cons (ps_set (i := 13) sclaw.nd rfl (.inl rfl) (pe_mk M_Page (hr.mono (by decide)) (by rfl) (pa_cons (pv 3) pa_nil)))
        (pss_cons (ps_for PassesOwn.never rfl (pi_list (pv 5)) (pg_tup rfl (pgs_cons (pg_name (i := 7) sclaw.nd rfl (.inl rfl)) (pgs_cons (pg_name (i := 8) sclaw.nd rfl (.inl rfl)) (pgs_cons (pg_name (i := 9) sclaw.nd rfl (.inl rfl)) (pgs_cons (pg_name (i := 10) sclaw.nd rfl (.inl rfl)) pgs_nil)))))
          (pss_one (ps_expr (pe_mkw (pv 13) T.cl M_block (hr.mono (by decide)) (pa_cons (pv 7) pa_nil) (pk_cons (pv 8) (pk_cons (pv 9) (pk_cons (pv 10) pk_nil)))))))
        (pss_one (ps_if (pt_by (pt_cmpR (op_neD hr.units) (pe_mc0 (pv 13) T.cl M_finish (hr.mono (by decide))) (pv 12) (nomark _)))
          (pss_one (ps_ret pe_bl))
          pss_nil))))))))))))
      (pss_one (ps_ret pe_bl))), ?_⟩
    have hsl : ((ns.map V.int).length : Int) ≤ 63 := by rw [List.length_map]; omega
    refine ⟨.int (if (if (8 : Int) < ((ns.map V.int).length : Int) then 8 else ((ns.map V.int).length : Int)) > 1 then (if (8 : Int) < ((ns.map V.int).length : Int) then 8 else ((ns.map V.int).length : Int)) else 1), fun Q' hQ => ⟨_, rfl, a, _, rfl, .inl hS, _, _, rfl, _, _, rfl, hQ⟩, ?_⟩
    have hJ : ∃ J : Nat, J ≤ 64 ∧ (if (if (8 : Int) < ((ns.map V.int).length : Int) then 8 else ((ns.map V.int).length : Int)) > 1 then (if (8 : Int) < ((ns.map V.int).length : Int) then 8 else ((ns.map V.int).length : Int)) else 1) = (J : Int) := by
      by_cases h1 : (8 : Int) < ((ns.map V.int).length : Int)
      · rw [if_pos h1, if_pos (by decide)]
        exact ⟨8, by omega, rfl⟩
      · rw [if_neg h1]
        by_cases h2 : ((ns.map V.int).length : Int) > 1
        · rw [if_pos h2]
          exact ⟨(ns.map V.int).length, by omega, rfl⟩
        · rw [if_neg h2]
          exact ⟨1, by omega, rfl⟩
    obtain ⟨J, hJ1, hJ2⟩ := hJ
    rw [hJ2]
    refine ⟨_, rfl, by omega, by omega, for_range (lo := 0) (n := ((J : Nat) : Int).toNat) (fun i σ H' => ∃ (y1 y2 y3 y4 y5 y6 y7 y8 y9 y10 y11 y12 y13 : Option V), σ = [some (.ref a), y1, y2, y3, y4, y5, y6, y7, y8, y9, y10, y11, y12, y13] ∧ Same H H')
      ⟨none, none, none, none, none, none, none, none, none, none, none, none, none, rfl, Same.refl H⟩ ?_ ?_⟩
    · rintro i σ H1 hi ⟨y1, y2, y3, y4, y5, y6, y7, y8, y9, y10, y11, y12, y13, rfl, s1⟩
      have hi' : i < 64 := by omega
      show gName 1 _ _ _ _
      rw [Int.zero_add]
      refine ⟨_, rfl, _, rfl, a, (i : Int), ns, rfl, s1.seq hS, by omega, by omega, fun b H2 nb hb2 kb => ?_⟩
      have s2 : Same H H2 := fun q o e => kb q o (fun r => by rw [r] at e; rw [s1 _ _ e] at nb; cases nb) (s1 _ _ e)
      have Hb : H b = none := s1.free nb
      refine ⟨_, rfl, b, rfl, hb2, fun L H3 hL hL9 B3 => ⟨_, rfl, b, _, rfl, B3.bag, by decide, by decide, fun d H4 d0 d1 B4 => ⟨rfl, _, _, rfl, ?_⟩⟩⟩
      have hL0 : 0 < L := by omega
      have s4 : Same H H4 := fun q o e => B4.keep q o (fun r => by rw [r, Hb] at e; cases e) (B3.keep q o (fun r => by rw [r, Hb] at e; cases e) (s2 _ _ e))
      refine ⟨Nat.zero_le _, fun bl hbl => ?_⟩
      have nbl : bl ≠ b := fun r => by
        obtain ⟨g, x, c, e⟩ := B4.bag
        rw [r, e] at hbl; cases hbl
      have Hbl : H bl = none := s4.free hbl
      have s5 : Same H (upd H4 bl (.lst [])) := s4.trans (same_new hbl)
      have bag5 : IsBag (upd H4 bl (.lst [])) b := by
        obtain ⟨g, x, c, e⟩ := B4.bag
        exact ⟨g, x, c, (upd_ne nbl.symm).trans e⟩
      refine ⟨_, rfl, b, _, rfl, bag5, by decide, by decide, fun m H6 m0 m1 B6 => ⟨m, rfl, by omega, by omega, ?_⟩⟩
      have s6 : Same H H6 := fun q o e => B6.keep q o (fun r => by rw [r, Hb] at e; cases e) (s5 _ _ e)
      refine for_range (lo := 0) (n := m.toNat) (fun j σ H7 => ∃ (y6 y7 y8 y9 y10 : Option V) (xs : List V) (bs : List Bl), σ = [some (.ref a), some (.int (i : Int)), some (.ref b), some (.int L), some (.bl (decide (V.int d = V.int 1))), some (.ref bl), y6, y7, y8, y9, y10, y11, y12, y13] ∧
        Same H H7 ∧ IsBag H7 b ∧ H7 bl = some (.lst xs) ∧ AllAt BlAt H7 xs bs ∧ bs.length = j ∧ ∀ z ∈ bs, z.c ≤ 100 ∧ 0 ≤ z.s)
        ⟨y6, y7, y8, y9, y10, [], [], rfl, s6, B6.bag, B6.keep _ _ nbl upd_same, trivial, rfl, (fun z hz => by cases hz)⟩ ?_ ?_
      · rintro j σ H7 hj ⟨y6, y7, y8, y9, y10, xs, bs, rfl, s7, bag7, hbl7, hall7, hbl, hsm⟩
        refine ⟨_, rfl, b, rfl, bag7, fun p H8 c sp kp g hp B8 htup hc hsp => ?_⟩
        refine ⟨p, _, rfl, SqT.of htup, rfl, _, _, rfl, _, _, rfl, _, _, rfl, _, _, rfl, rfl, ?_⟩
        have hbl8 : H8 bl = some (.lst xs) := B8.keep _ _ nbl hbl7
        have s8 : Same H H8 := fun q o e => B8.keep q o (fun r => by rw [r, Hb] at e; cases e) (s7 _ _ e)
        have t78 : Tups H7 H8 := fun t vs e => B8.keep t _ (fun r => by
          obtain ⟨g, x, c, e2⟩ := bag7
          rw [r, e2] at e; cases e) e
        refine ⟨_, rfl, .inl ⟨rfl, _, SqL.of hbl8⟩, _, rfl, _, rfl, .bl (kp || (decide (V.int d = V.int 1) && decide ((c : Int) < 3))), fun Q' hQ => ⟨_, rfl, kp, rfl, ite2 (fun g1 => ?_) (fun g1 => ?_)⟩, _, rfl, (by show 4 ≤ sizeLine; decide), fun p2 hp2 => ?_⟩
        · rw [g1, Bool.true_or] at hQ
          exact hQ
        · have g1' : kp = false := by simpa using g1
          rw [g1', Bool.false_or] at hQ
          refine ⟨_, rfl, _, rfl, ite2 (fun g2 => ?_) (fun g2 => ?_)⟩
          · rw [g2, Bool.true_and] at hQ
            exact ⟨_, rfl, _, _, rfl, rfl, hQ⟩
          · have g2' : decide (V.int d = V.int 1) = false := by simpa using g2
            rw [g2', Bool.false_and] at hQ
            exact hQ
        obtain ⟨p1, p2', p3, p4⟩ := all_push (f := fun z : Bl => [.int (z.c : Int), .int z.s, .bl z.k, .bl z.g]) (y := ⟨c, sp, kp || (decide (V.int d = V.int 1) && decide ((c : Int) < 3)), g⟩) (tv := [.int (c : Int), .int sp, .bl (kp || (decide (V.int d = V.int 1) && decide ((c : Int) < 3))), .bl g]) hbl8 (blMono t78 hall7) hp2 rfl
        refine ⟨bl, _, _, rfl, rfl, p3, ?_, some (.int ((0 : Int) + (j : Int))), some (.int (c : Int)), some (.int sp), some (.bl kp), some (.bl g), _, _, rfl, fun q o e => p4 q o (fun r => by rw [r, Hbl] at e; cases e) (s8 _ _ e), ?_, p1, p2', ?_, ?_⟩
        · rw [hall7.len, hbl]
          exact Nat.lt_of_le_of_lt (m := 100) (by omega) (by decide)
        · obtain ⟨g', x', c', e⟩ := B8.bag
          exact ⟨g', x', c', p4 _ _ nbl.symm e⟩
        · rw [List.length_append, List.length_singleton, hbl]
        · intro z hz
          rcases List.mem_append.mp hz with hz | hz
          · exact hsm z hz
          · rw [List.mem_singleton.mp hz]
            exact ⟨Nat.le_trans hc (by decide), hsp⟩
      · rintro σ H7 ⟨y6, y7, y8, y9, y10, xs, bs, rfl, s7, bag7, hbl7, hall7, hbl, hsm⟩
        have Bk : Book bs := ⟨by omega, hsm⟩
        have gl := (good_lines bs fun z hz => (hsm z hz).2).1
        have hro := right_ok hL0 gl
        -- handed
        refine ⟨fun v H8 => ∃ h, v = .ref h ∧ Same H H8 ∧ H8 bl = some (.lst xs) ∧ AllAt BlAt H8 xs bs ∧ (H8 h = some (.lst xs) ∨ H8 h = some (.tup xs)), fun Q' hQ => ?_, ?_⟩
        · refine ⟨_, rfl, b, _, rfl, bag7, by decide, by decide, fun e H8 e0 e1 B8 => ⟨rfl, _, rfl, ?_⟩⟩
          have hbl8 : H8 bl = some (.lst xs) := B8.keep _ _ nbl hbl7
          have s8 : Same H H8 := fun q o e => B8.keep q o (fun r => by rw [r, Hb] at e; cases e) (s7 _ _ e)
          have t78 : Tups H7 H8 := fun t vs e => B8.keep t _ (fun r => by
            obtain ⟨g, x, c, e2⟩ := bag7
            rw [r, e2] at e; cases e) e
          have hall8 := blMono t78 hall7
          refine ite2 (fun _ => ?_) (fun _ => ?_)
          · refine ⟨_, rfl, bl, xs, rfl, .inl ⟨SqL.of hbl8, fun l hl => ?_⟩⟩
            have sl := same_new (o := .tup xs) hl
            exact hQ _ _ ⟨l, rfl, s8.trans sl, sl _ _ hbl8, blMono (Tups.of sl) hall8, .inr upd_same⟩
          · refine ⟨_, rfl, bl, xs, rfl, .inl (SqL.of hbl8), fun l hl => ?_⟩
            have sl := same_new (o := .lst xs) hl
            exact hQ _ _ ⟨l, rfl, s8.trans sl, sl _ _ hbl8, blMono (Tups.of sl) hall8, .inl upd_same⟩
        rintro v H8 ⟨h, rfl, s8, hbl8, hall8, hh⟩
        -- told
        refine ⟨_, rfl, _, rfl, L, h, xs, bs, rfl, hL, hh.elim (fun z => .inl (SqL.of z)) (fun z => .inr (SqT.of z)), hall8, Bk, fun p H9 ys hp9 s9 hys hrw => ?_⟩
        have s89 : Same H H9 := s8.trans s9
        have hbl9 := s9 _ _ hbl8
        have hall9 := blMono (Tups.of s9) hall8
        have hh9 : SqL K H9 h xs ∨ SqT K H9 h xs := hh.elim (fun z => .inl (SqL.of (s9 _ _ z))) (fun z => .inr (SqT.of (s9 _ _ z)))
        -- told as it should be
        refine ⟨fun c H10 => c = false ∧ Same H9 H10, fun Q' hQ => ?_, ?_⟩
        · refine ⟨_, rfl, h, xs, rfl, hh9, fun l hl => ?_⟩
          have sl := same_new (o := .lst xs) hl
          have hallL := blMono (Tups.of sl) hall9
          refine ⟨_, rfl, .list (bs.map dBl), .list (bs.map dBl), .lst (SqL.of upd_same) (dpBl hallL), .lst (SqL.of (sl _ _ hbl9)) (dpBl hallL), shBl bs, shBl bs, _, rfl, ?_⟩
          rw [eqv_self (shBl bs)]
          refine iteF ?_
          refine ⟨_, rfl, _, rfl, bl, xs, bs, rfl, SqL.of (sl _ _ hbl9), hallL, Bk, fun p2 q2 H11 ys2 k2 g2 hp2 s11 htup hq2 hall2 => ?_⟩
          have s911 : Same H9 H11 := sl.trans s11
          refine ⟨p2, _, _, _, rfl, rfl, SqT.of htup, atI_nat (j := 0) rfl, _, rfl, L, q2, p, ys2, ys, (linesOf bs).ls, _, rfl, hq2, hall2, s911 _ _ hys, rwMono (Tups.of s911) hrw, hro.1, ?_, hro.2, fun H12 s12 => ⟨_, rfl, ?_⟩⟩
          · exact Nat.le_trans Bk.len (by decide)
          · exact hQ _ _ ⟨rfl, s911.trans s12⟩
        rintro c H10 ⟨rfl, s10⟩
        refine iteF ?_
        have s810 : Same H H10 := s89.trans s10
        have hbl10 := s10 _ _ hbl9
        have hall10 := blMono (Tups.of s10) hall9
        have hys10 := s10 _ _ hys
        have hrw10 := rwMono (Tups.of s10) hrw
        -- a Page
        refine ⟨_, rfl, fun x dx nx ndx ne => ⟨x, dx, L, rfl, upd_same, fun H11 rl hrl pa ka => ⟨rfl, ?_⟩⟩⟩
        have s11 : Same H10 H11 := fun q o e => ka q o (fun r => by rw [r, nx] at e; cases e) (by
          rw [upd_ne (ne_of_none e nx), upd_ne (ne_of_none e ndx)]
          exact e)
        have hrl10 : H10 rl = none := by
          cases e : H10 rl with
          | none => rfl
          | some o =>
            have nr : rl ≠ x := fun r => by rw [r, nx] at e; cases e
            have nd : rl ≠ dx := fun r => by rw [r, ndx] at e; cases e
            rw [upd_ne nr, upd_ne nd, e] at hrl
            cases hrl
        have nbx : ∀ q o, H10 q = some o → q ≠ x ∧ q ≠ rl := fun q o e => ⟨(fun r => by rw [r, nx] at e; cases e), (fun r => by rw [r, hrl10] at e; cases e)⟩
        refine ⟨_, rfl, bl, rfl, ⟨_, SqL.of (s11 _ _ hbl10)⟩, for_list (K := K) (a := bl) (xs := xs) (fun j σ H12 => ∃ (y7 y8 y9 y10 : Option V) (st : Addr), σ = [some (.ref a), some (.int (i : Int)), some (.ref b), some (.int L), some (.bl (decide (V.int d = V.int 1))), some (.ref bl), y6, y7, y8, y9, y10, some (.ref h), some (.ref p), some (.ref x)] ∧
          PA' C L x dx rl st (pageOf L (bs.take j)).lo (pageOf L (bs.take j)).rows H12 ∧ StAt K H12 st (pageOf L (bs.take j)).kd (pageOf L (bs.take j)).h (pageOf L (bs.take j)).t ∧ Same H10 H12)
          ⟨y7, y8, y9, y10, tp, rfl, pa, ⟨"top", T.top H11, nt_⟩, s11⟩ (fun j σ H12 _ ⟨_, _, _, _, _, _, _, _, s12⟩ => SqL.of (s12 _ _ hbl10)) ?_ ?_⟩
        · rintro j z σ H12 hxj ⟨y7, y8, y9, y10, st, rfl, pa12, st12, s12⟩
          obtain ⟨bb, hbb, t, rfl, ht⟩ := hall10.at hxj
          have eb : bs.take (j + 1) = bs.take j ++ [bb] := by rw [List.take_add_one, hbb]; rfl
          have hsb := hsm bb (List.mem_of_getElem? hbb)
          have Rl := pageOf_rel hL0 (bs.take j) fun z hz => (hsm z (List.mem_of_mem_take hz)).2
          have hrl2 := rows_len hL0 (Bk.take j)
          rw [eb, pageOf_snoc]
          refine ⟨t, _, rfl, SqT.of (s12 _ _ ht), rfl, _, _, rfl, _, _, rfl, _, _, rfl, _, _, rfl, rfl, ?_⟩
          refine ⟨_, rfl, x, dx, _, rfl, pa12.ob, no_block _ _ _ _, _, rfl, _, rfl, _, rfl, _, rfl, rfl, rfl, x, dx, rl, st, L, pageOf L (bs.take j), bb, linesOf (bs.take j), rfl, pa12, st12, hL, Rl, hsb.2, hsb.1, by omega, fun H13 st' pa13 st13 k13 => ?_⟩
          exact ⟨_, _, _, _, st', rfl, pa13, st13, fun q o e => k13 q o (nbx q o e).1 (nbx q o e).2 (s12 _ _ e)⟩
        · rintro σ H12 ⟨y7, y8, y9, y10, st, rfl, pa12, st12, s12⟩
          have hxl : xs.length = bs.length := hall10.len
          rw [hxl, List.take_of_length_le (Nat.le_refl _)] at pa12
          have hrl2 := rows_len hL0 Bk
          have erows := rows_same hL0 bs fun z hz => (hsm z hz).2
          refine ⟨fun c H13 => c = false ∧ Same H12 H13, fun Q' hQ => ?_, ?_⟩
          · refine ⟨_, rfl, x, dx, _, rfl, pa12.ob, no_finish _ _ _ _, x, dx, rl, st, L, _, _, rfl, pa12, by omega, fun p3 H13 ys3 hp3 s13 hys3 hrw3 => ?_⟩
            rw [erows] at hrw3
            have s1013 : Same H10 H13 := s12.trans s13
            refine ⟨_, rfl, .list ((rowsOf (runS L (linesOf bs).ls)).map dRw), .list ((rowsOf (runS L (linesOf bs).ls)).map dRw), .lst (SqL.of hys3) (dpRw hrw3), .lst (SqL.of (s1013 _ _ hys10)) (dpRw (rwMono (Tups.of s1013) hrw10)), shRw _, shRw _, _, rfl, ?_⟩
            rw [eqv_self (shRw _)]
            exact hQ _ _ ⟨rfl, s13⟩
          rintro c H13 ⟨rfl, s13⟩
          refine iteF ?_
          exact ⟨_, _, _, _, _, _, _, _, _, _, _, _, _, rfl, (s810.trans s12).trans s13⟩
    · rintro σ H' ⟨y1, y2, y3, y4, y5, y6, y7, y8, y9, y10, y11, y12, y13, rfl, s1⟩
      exact k H'
end
end Pa
set_option maxRecDepth 100000
set_option maxHeartbeats 4000000
namespace Pa
open PySem PySem.Spec PyProof.Rows L2
/-! ### what the top has written -/
theorem all_mk {l : PySem.W.OpenLaw} {w : World} {K : PySem.W.Frag} {h : Heap} {mg : Str → Option Value} {fa C tp f0 f1 f2 f3 f4 f5 f6 f7 f8 f9 f10 f11 f12 f13 f14 f15 f16 f17 f18 f19 f20 f21 f22 f23 : Addr} (X : K.In h) (G : h.Ns mainGlobals mg) (hfa : mg "law" = some (.ref fa))
    {od0 an0 od1 an1 od2 an2 od3 an3 od4 an4 od5 an5 od6 an6 od7 an7 od8 an8 od9 an9 od10 an10 od11 an11 od12 an12 od13 an13 od14 an14 od15 an15 od16 an16 od17 an17 od18 an18 od19 an19 od20 an20 od21 an21 od22 an22 od23 an23 : Option Addr} {sl0 sl1 sl2 sl3 sl4 sl5 sl6 sl7 sl8 sl9 sl10 sl11 sl12 sl13 sl14 sl15 sl16 sl17 sl18 sl19 sl20 sl21 sl22 sl23 : Array (Option Value)} {oc0 kV0 dc0 pm0 cd0 ct0 oc1 kV1 dc1 pm1 cd1 ct1 oc2 kV2 dc2 pm2 cd2 ct2 oc3 kV3 dc3 pm3 cd3 ct3 oc4 kV4 dc4 pm4 cd4 ct4 oc5 kV5 dc5 pm5 cd5 ct5 oc6 kV6 dc6 pm6 cd6 ct6 oc7 kV7 dc7 pm7 cd7 ct7 oc8 kV8 dc8 pm8 cd8 ct8 oc9 kV9 dc9 pm9 cd9 ct9 oc10 kV10 dc10 pm10 cd10 ct10 oc11 kV11 dc11 pm11 cd11 ct11 oc12 kV12 dc12 pm12 cd12 ct12 oc13 kV13 dc13 pm13 cd13 ct13 oc14 kV14 dc14 pm14 cd14 ct14 oc15 kV15 dc15 pm15 cd15 ct15 oc16 kV16 dc16 pm16 cd16 ct16 oc17 kV17 dc17 pm17 cd17 ct17 oc18 kV18 dc18 pm18 cd18 ct18 oc19 kV19 dc19 pm19 cd19 ct19 oc20 kV20 dc20 pm20 cd20 ct20 oc21 kV21 dc21 pm21 cd21 ct21 oc22 kV22 dc22 pm22 cd22 ct22 oc23 kV23 dc23 pm23 cd23 ct23 : Value}
    {tn : Nat} {tk0 tk1 tk2 : Tok}
    (aC : PySem.W.nsIn K mainGlobals "Page" = some (some (.ref C))) (aT : PySem.W.nsIn K mainGlobals "TOP" = some (some (.ref tp)))
    (a0 : PySem.W.nsIn K mainGlobals "_longer" = some (some (.ref f0)))
    (l0 : K.lookup f0 = some ⟨oc0, od0, .func (PySem.W.fnOf "_longer" "_longer" (defArgs s_longer) (defBody s_longer) (defScope s_longer) .none kV0 dc0 pm0 an0 cd0 ct0), sl0⟩) (c0 : PySem.W.codeIn K cd0 "_longer" = true) (k0 : PySem.W.keepIn K (.ref f0) = true)
    (a1 : PySem.W.nsIn K mainGlobals "next_line" = some (some (.ref f1)))
    (l1 : K.lookup f1 = some ⟨oc1, od1, .func (PySem.W.fnOf "next_line" "next_line" (defArgs snext_line) (defBody snext_line) (defScope snext_line) .none kV1 dc1 pm1 an1 cd1 ct1), sl1⟩) (c1 : PySem.W.codeIn K cd1 "next_line" = true) (k1 : PySem.W.keepIn K (.ref f1) = true)
    (a2 : PySem.W.nsIn K mainGlobals "line_place" = some (some (.ref f2)))
    (l2 : K.lookup f2 = some ⟨oc2, od2, .func (PySem.W.fnOf "line_place" "line_place" (defArgs sline_place) (defBody sline_place) (defScope sline_place) .none kV2 dc2 pm2 an2 cd2 ct2), sl2⟩) (c2 : PySem.W.codeIn K cd2 "line_place" = true) (k2 : PySem.W.keepIn K (.ref f2) = true)
    (a3 : PySem.W.nsIn K mainGlobals "standing_of" = some (some (.ref f3)))
    (l3 : K.lookup f3 = some ⟨oc3, od3, .func (PySem.W.fnOf "standing_of" "standing_of" (defArgs sstanding_of) (defBody sstanding_of) (defScope sstanding_of) .none kV3 dc3 pm3 an3 cd3 ct3), sl3⟩) (c3 : PySem.W.codeIn K cd3 "standing_of" = true) (k3 : PySem.W.keepIn K (.ref f3) = true)
    (a4 : PySem.W.nsIn K mainGlobals "_fits" = some (some (.ref f4)))
    (l4 : K.lookup f4 = some ⟨oc4, od4, .func (PySem.W.fnOf "_fits" "_fits" (defArgs s_fits) (defBody s_fits) (defScope s_fits) .none kV4 dc4 pm4 an4 cd4 ct4), sl4⟩) (c4 : PySem.W.codeIn K cd4 "_fits" = true) (k4 : PySem.W.keepIn K (.ref f4) = true)
    (a5 : PySem.W.nsIn K mainGlobals "_taken_over" = some (some (.ref f5)))
    (l5 : K.lookup f5 = some ⟨oc5, od5, .func (PySem.W.fnOf "_taken_over" "_taken_over" (defArgs s_taken_over) (defBody s_taken_over) (defScope s_taken_over) .none kV5 dc5 pm5 an5 cd5 ct5), sl5⟩) (c5 : PySem.W.codeIn K cd5 "_taken_over" = true) (k5 : PySem.W.keepIn K (.ref f5) = true)
    (a6 : PySem.W.nsIn K mainGlobals "_lines_of" = some (some (.ref f6)))
    (l6 : K.lookup f6 = some ⟨oc6, od6, .func (PySem.W.fnOf "_lines_of" "_lines_of" (defArgs s_lines_of) (defBody s_lines_of) (defScope s_lines_of) .none kV6 dc6 pm6 an6 cd6 ct6), sl6⟩) (c6 : PySem.W.codeIn K cd6 "_lines_of" = true) (k6 : PySem.W.keepIn K (.ref f6) = true)
    (a7 : PySem.W.nsIn K mainGlobals "plain_pages" = some (some (.ref f7)))
    (l7 : K.lookup f7 = some ⟨oc7, od7, .func (PySem.W.fnOf "plain_pages" "plain_pages" (defArgs splain_pages) (defBody splain_pages) (defScope splain_pages) .none kV7 dc7 pm7 an7 cd7 ct7), sl7⟩) (c7 : PySem.W.codeIn K cd7 "plain_pages" = true) (k7 : PySem.W.keepIn K (.ref f7) = true)
    (a8 : PySem.W.nsIn K mainGlobals "_law_bag" = some (some (.ref f8)))
    (l8 : K.lookup f8 = some ⟨oc8, od8, .func (PySem.W.fnOf "_law_bag" "_law_bag" (defArgs sBag) (defBody sBag) (defScope sBag) .none kV8 dc8 pm8 an8 cd8 ct8), sl8⟩) (c8 : PySem.W.codeIn K cd8 "_law_bag" = true) (k8 : PySem.W.keepIn K (.ref f8) = true)
    (a9 : PySem.W.nsIn K mainGlobals "_law_draw" = some (some (.ref f9)))
    (l9 : K.lookup f9 = some ⟨oc9, od9, .func (PySem.W.fnOf "_law_draw" "_law_draw" (defArgs sDraw) (defBody sDraw) (defScope sDraw) .none kV9 dc9 pm9 an9 cd9 ct9), sl9⟩) (c9 : PySem.W.codeIn K cd9 "_law_draw" = true) (k9 : PySem.W.keepIn K (.ref f9) = true)
    (a10 : PySem.W.nsIn K mainGlobals "_law_number" = some (some (.ref f10)))
    (l10 : K.lookup f10 = some ⟨oc10, od10, .func (PySem.W.fnOf "_law_number" "_law_number" (defArgs sL_number) (defBody sL_number) (defScope sL_number) .none kV10 dc10 pm10 an10 cd10 ct10), sl10⟩) (c10 : PySem.W.codeIn K cd10 "_law_number" = true) (k10 : PySem.W.keepIn K (.ref f10) = true)
    (a11 : PySem.W.nsIn K mainGlobals "_law_lines" = some (some (.ref f11)))
    (l11 : K.lookup f11 = some ⟨oc11, od11, .func (PySem.W.fnOf "_law_lines" "_law_lines" (defArgs sL_lines) (defBody sL_lines) (defScope sL_lines) .none kV11 dc11 pm11 an11 cd11 ct11), sl11⟩) (c11 : PySem.W.codeIn K cd11 "_law_lines" = true) (k11 : PySem.W.keepIn K (.ref f11) = true)
    (a12 : PySem.W.nsIn K mainGlobals "_law_block" = some (some (.ref f12)))
    (l12 : K.lookup f12 = some ⟨oc12, od12, .func (PySem.W.fnOf "_law_block" "_law_block" (defArgs sL_block) (defBody sL_block) (defScope sL_block) .none kV12 dc12 pm12 an12 cd12 ct12), sl12⟩) (c12 : PySem.W.codeIn K cd12 "_law_block" = true) (k12 : PySem.W.keepIn K (.ref f12) = true)
    (a13 : PySem.W.nsIn K mainGlobals "_law_length" = some (some (.ref f13)))
    (l13 : K.lookup f13 = some ⟨oc13, od13, .func (PySem.W.fnOf "_law_length" "_law_length" (defArgs sL_length) (defBody sL_length) (defScope sL_length) .none kV13 dc13 pm13 an13 cd13 ct13), sl13⟩) (c13 : PySem.W.codeIn K cd13 "_law_length" = true) (k13 : PySem.W.keepIn K (.ref f13) = true)
    (a14 : PySem.W.nsIn K mainGlobals "_law_reason" = some (some (.ref f14)))
    (l14 : K.lookup f14 = some ⟨oc14, od14, .func (PySem.W.fnOf "_law_reason" "_law_reason" (defArgs sL_reason) (defBody sL_reason) (defScope sL_reason) .none kV14 dc14 pm14 an14 cd14 ct14), sl14⟩) (c14 : PySem.W.codeIn K cd14 "_law_reason" = true) (k14 : PySem.W.keepIn K (.ref f14) = true)
    (a15 : PySem.W.nsIn K mainGlobals "_law_right" = some (some (.ref f15)))
    (l15 : K.lookup f15 = some ⟨oc15, od15, .func (PySem.W.fnOf "_law_right" "_law_right" (defArgs sL_right) (defBody sL_right) (defScope sL_right) .none kV15 dc15 pm15 an15 cd15 ct15), sl15⟩) (c15 : PySem.W.codeIn K cd15 "_law_right" = true) (k15 : PySem.W.keepIn K (.ref f15) = true)
    (a16 : PySem.W.nsIn K mainGlobals "law" = some (some (.ref f16)))
    (l16 : K.lookup f16 = some ⟨oc16, od16, .func (PySem.W.fnOf "law" "law" (defArgs slaw) (defBody slaw) (defScope slaw) .none kV16 dc16 pm16 an16 cd16 ct16), sl16⟩) (c16 : PySem.W.codeIn K cd16 "law" = true) (k16 : PySem.W.keepIn K (.ref f16) = true)
    (a17 : PySem.W.findIn K (.ref C) "__init__" = some (some (.ref f17))) (i17 : PySem.W.isFn K (.ref f17) = true)
    (l17 : K.lookup f17 = some ⟨oc17, od17, .func (PySem.W.fnOf "__init__" "Page.__init__" (defArgs sPage___init__) (defBody sPage___init__) (defScope sPage___init__) .none kV17 dc17 pm17 an17 cd17 ct17), sl17⟩) (c17 : PySem.W.codeIn K cd17 "Page.__init__" = true) (k17 : PySem.W.keepIn K (.ref f17) = true)
    (a18 : PySem.W.findIn K (.ref C) "begin" = some (some (.ref f18))) (i18 : PySem.W.isFn K (.ref f18) = true)
    (l18 : K.lookup f18 = some ⟨oc18, od18, .func (PySem.W.fnOf "begin" "Page.begin" (defArgs sPage_begin) (defBody sPage_begin) (defScope sPage_begin) .none kV18 dc18 pm18 an18 cd18 ct18), sl18⟩) (c18 : PySem.W.codeIn K cd18 "Page.begin" = true) (k18 : PySem.W.keepIn K (.ref f18) = true)
    (a19 : PySem.W.findIn K (.ref C) "block" = some (some (.ref f19))) (i19 : PySem.W.isFn K (.ref f19) = true)
    (l19 : K.lookup f19 = some ⟨oc19, od19, .func (PySem.W.fnOf "block" "Page.block" (defArgs sPage_block) (defBody sPage_block) (defScope sPage_block) .none kV19 dc19 pm19 an19 cd19 ct19), sl19⟩) (c19 : PySem.W.codeIn K cd19 "Page.block" = true) (k19 : PySem.W.keepIn K (.ref f19) = true)
    (a20 : PySem.W.findIn K (.ref C) "_put" = some (some (.ref f20))) (i20 : PySem.W.isFn K (.ref f20) = true)
    (l20 : K.lookup f20 = some ⟨oc20, od20, .func (PySem.W.fnOf "_put" "Page._put" (defArgs sPage__put) (defBody sPage__put) (defScope sPage__put) .none kV20 dc20 pm20 an20 cd20 ct20), sl20⟩) (c20 : PySem.W.codeIn K cd20 "Page._put" = true) (k20 : PySem.W.keepIn K (.ref f20) = true)
    (a21 : PySem.W.findIn K (.ref C) "_go_over" = some (some (.ref f21))) (i21 : PySem.W.isFn K (.ref f21) = true)
    (l21 : K.lookup f21 = some ⟨oc21, od21, .func (PySem.W.fnOf "_go_over" "Page._go_over" (defArgs sPage__go_over) (defBody sPage__go_over) (defScope sPage__go_over) .none kV21 dc21 pm21 an21 cd21 ct21), sl21⟩) (c21 : PySem.W.codeIn K cd21 "Page._go_over" = true) (k21 : PySem.W.keepIn K (.ref f21) = true)
    (a22 : PySem.W.findIn K (.ref C) "_settle" = some (some (.ref f22))) (i22 : PySem.W.isFn K (.ref f22) = true)
    (l22 : K.lookup f22 = some ⟨oc22, od22, .func (PySem.W.fnOf "_settle" "Page._settle" (defArgs sPage__settle) (defBody sPage__settle) (defScope sPage__settle) .none kV22 dc22 pm22 an22 cd22 ct22), sl22⟩) (c22 : PySem.W.codeIn K cd22 "Page._settle" = true) (k22 : PySem.W.keepIn K (.ref f22) = true)
    (a23 : PySem.W.findIn K (.ref C) "finish" = some (some (.ref f23))) (i23 : PySem.W.isFn K (.ref f23) = true)
    (l23 : K.lookup f23 = some ⟨oc23, od23, .func (PySem.W.fnOf "finish" "Page.finish" (defArgs sPage_finish) (defBody sPage_finish) (defScope sPage_finish) .none kV23 dc23 pm23 an23 cd23 ct23), sl23⟩) (c23 : PySem.W.codeIn K cd23 "Page.finish" = true) (k23 : PySem.W.keepIn K (.ref f23) = true)
    (lT : K.lookup tp = some ⟨.type "tuple", none, .seq #[.str (Str.ofString "top") tk0, .int 0 tk1, .int 0 tk2] tn, #[]⟩)
    (pg : PySem.W.plainGet K C Str.empty = true) (hd : PySem.W.hasDictIn K C = true) (po : PySem.W.plainOver K C = true) (sa : PySem.W.findIn K (.ref C) "__setattr__" = some (some (.builtin "object.__setattr__"))) (mk : PySem.W.makesIn K C = true) (kc : PySem.W.keepIn K (.ref C) = true)
    (nL : PySem.W.findIn K (.ref C) "length" = some none)
    (nS : PySem.W.findIn K (.ref C) "_standing" = some none)
    (nR : PySem.W.findIn K (.ref C) "_rows" = some none)
    (nO : PySem.W.findIn K (.ref C) "_loose" = some none)
    (nW : PySem.W.findIn K (.ref C) "_went_over" = some none)
    (z_len : PySem.W.nsIn K mainGlobals "len" = some none)
    (z_range : PySem.W.nsIn K mainGlobals "range" = some none)
    (z_int : PySem.W.nsIn K mainGlobals "int" = some none)
    (z_abs : PySem.W.nsIn K mainGlobals "abs" = some none)
    (z_enumerate : PySem.W.nsIn K mainGlobals "enumerate" = some none)
    (z_isinstance : PySem.W.nsIn K mainGlobals "isinstance" = some none)
    (z_bool : PySem.W.nsIn K mainGlobals "bool" = some none)
    (z_list : PySem.W.nsIn K mainGlobals "list" = some none)
    (z_tuple : PySem.W.nsIn K mainGlobals "tuple" = some none)
    (z_max : PySem.W.nsIn K mainGlobals "max" = some none)
    (z_min : PySem.W.nsIn K mainGlobals "min" = some none)
    (z_all : PySem.W.nsIn K mainGlobals "all" = some none)
    : ∃ fd : FuncData, (∀ (s : Shared) (v : Value), BindsTo s fd ⟨[v], []⟩ [("_law_script", v)]) ∧ ∀ base : Heap, K.In base → base.Ns mainGlobals mg → FnOk l.prog w K mg base CX0 4 fa fd ["_law_script"] (spLaw K) := by
  have e := hfa.symm.trans (PySem.W.mg_of X G a16)
  cases e
  have T : Txt K mg tp C := ⟨PySem.W.mg_none_of X G z_len, PySem.W.mg_none_of X G z_range, PySem.W.mg_none_of X G z_int, PySem.W.mg_none_of X G z_abs, PySem.W.mg_none_of X G z_enumerate, PySem.W.mg_none_of X G z_isinstance, PySem.W.mg_none_of X G z_bool, PySem.W.mg_none_of X G z_list, PySem.W.mg_none_of X G z_tuple, PySem.W.mg_none_of X G z_max, PySem.W.mg_none_of X G z_min, PySem.W.mg_none_of X G z_all, PySem.W.mg_of X G aT, fun H => .inr ⟨_, _, _, lT, rfl, rfl, (by show 3 ≤ sizeLine; decide), .cons ⟨_, rfl⟩ (.cons ⟨_, rfl⟩ (.cons ⟨_, rfl⟩ .nil))⟩, ⟨pg, hd, po, sa⟩, PySem.W.mg_of X G aC, nL, nS, nR, nO, nW⟩
  have F0 := fun_mk (st := s_longer) l0 c0 k0
  have b0 := F0.binds (ps := ["tail", "space"]) fun _ _ _ _ _ _ us hl => match us, hl with | [_, _], _ => rfl
  have F1 := fun_mk (st := snext_line) l1 c1 k1
  have b1 := F1.binds (ps := ["length", "height", "tail", "space", "barred"]) fun _ _ _ _ _ _ us hl => match us, hl with | [_, _, _, _, _], _ => rfl
  have F2 := fun_mk (st := sline_place) l2 c2 k2
  have b2 := F2.binds (ps := ["standing", "at", "count", "space"]) fun _ _ _ _ _ _ us hl => match us, hl with | [_, _, _, _], _ => rfl
  have F3 := fun_mk (st := sstanding_of) l3 c3 k3
  have b3 := F3.binds (ps := ["length", "height", "tail", "kept"]) fun _ _ _ _ _ _ us hl => match us, hl with | [_, _, _, _], _ => rfl
  have F4 := fun_mk (st := s_fits) l4 c4 k4
  have b4 := F4.binds (ps := ["length", "page", "space"]) fun _ _ _ _ _ _ us hl => match us, hl with | [_, _, _], _ => rfl
  have F5 := fun_mk (st := s_taken_over) l5 c5 k5
  have b5 := F5.binds (ps := ["page", "barred"]) fun _ _ _ _ _ _ us hl => match us, hl with | [_, _], _ => rfl
  have F6 := fun_mk (st := s_lines_of) l6 c6 k6
  have b6 := F6.binds (ps := ["blocks"]) fun _ _ _ _ _ _ us hl => match us, hl with | [_], _ => rfl
  have F7 := fun_mk (st := splain_pages) l7 c7 k7
  have b7 := F7.binds (ps := ["length", "blocks"]) fun _ _ _ _ _ _ us hl => match us, hl with | [_, _], _ => rfl
  have F8 := fun_mk (st := sBag) l8 c8 k8
  have b8 := F8.binds (ps := ["_law_script", "_law_at"]) fun _ _ _ _ _ _ us hl => match us, hl with | [_, _], _ => rfl
  have F9 := fun_mk (st := sDraw) l9 c9 k9
  have b9 := F9.binds (ps := ["_law_bag_here", "_law_many"]) fun _ _ _ _ _ _ us hl => match us, hl with | [_, _], _ => rfl
  have F10 := fun_mk (st := sL_number) l10 c10 k10
  have b10 := F10.binds (ps := ["_law_thing"]) fun _ _ _ _ _ _ us hl => match us, hl with | [_], _ => rfl
  have F11 := fun_mk (st := sL_lines) l11 c11 k11
  have b11 := F11.binds (ps := ["_law_blocks"]) fun _ _ _ _ _ _ us hl => match us, hl with | [_], _ => rfl
  have F12 := fun_mk (st := sL_block) l12 c12 k12
  have b12 := F12.binds (ps := ["_law_bag_here", "_law_most"]) fun _ _ _ _ _ _ us hl => match us, hl with | [_, _], _ => rfl
  have F13 := fun_mk (st := sL_length) l13 c13 k13
  have b13 := F13.binds (ps := ["_law_bag_here"]) fun _ _ _ _ _ _ us hl => match us, hl with | [_], _ => rfl
  have F14 := fun_mk (st := sL_reason) l14 c14 k14
  have b14 := F14.binds (ps := ["_law_length_here", "_law_lines_here", "_law_start", "_law_stop"]) fun _ _ _ _ _ _ us hl => match us, hl with | [_, _, _, _], _ => rfl
  have F15 := fun_mk (st := sL_right) l15 c15 k15
  have b15 := F15.binds (ps := ["_law_length_here", "_law_lines_here", "_law_told"]) fun _ _ _ _ _ _ us hl => match us, hl with | [_, _, _], _ => rfl
  have F16 := fun_mk (st := slaw) l16 c16 k16
  have b16 := F16.binds (ps := ["_law_script"]) fun _ _ _ _ _ _ us hl => match us, hl with | [_], _ => rfl
  have F17 := fun_mk (st := sPage___init__) l17 c17 k17
  have b17 := F17.binds (ps := ["self", "length"]) fun _ _ _ _ _ _ us hl => match us, hl with | [_, _], _ => rfl
  have F18 := fun_mk (st := sPage_begin) l18 c18 k18
  have b18 := F18.binds (ps := ["self"]) fun _ _ _ _ _ _ us hl => match us, hl with | [_], _ => rfl
  have F19 := fun_mk (st := sPage_block) l19 c19 k19
  have F20 := fun_mk (st := sPage__put) l20 c20 k20
  have b20 := F20.binds (ps := ["self", "height", "tail"]) fun _ _ _ _ _ _ us hl => match us, hl with | [_, _, _], _ => rfl
  have F21 := fun_mk (st := sPage__go_over) l21 c21 k21
  have b21 := F21.binds (ps := ["self", "rows"]) fun _ _ _ _ _ _ us hl => match us, hl with | [_, _], _ => rfl
  have F22 := fun_mk (st := sPage__settle) l22 c22 k22
  have b22 := F22.binds (ps := ["self"]) fun _ _ _ _ _ _ us hl => match us, hl with | [_], _ => rfl
  have F23 := fun_mk (st := sPage_finish) l23 c23 k23
  have b23 := F23.binds (ps := ["self"]) fun _ _ _ _ _ _ us hl => match us, hl with | [_], _ => rfl
  refine ⟨PySem.W.fnOf "law" "law" (defArgs slaw) (defBody slaw) (defScope slaw) .none kV16 dc16 pm16 an16 cd16 ct16, fun s v => .of_eq rfl, fun base _ _ => ?_⟩
  have C__longer : CallOk l.prog w K mg base 1 "_longer" ["tail", "space"] spLng := call_ok (PySem.W.mg_of X G a0) k0 b0 (ok_longer F0)
  have C_next_line : CallOk l.prog w K mg base 2 "next_line" ["length", "height", "tail", "space", "barred"] spNext := call_ok (PySem.W.mg_of X G a1) k1 b1 (ok_next F1 C__longer)
  have C_line_place : CallOk l.prog w K mg base 1 "line_place" ["standing", "at", "count", "space"] (spPlace K) := call_ok (PySem.W.mg_of X G a2) k2 b2 (ok_place F2)
  have C_standing_of : CallOk l.prog w K mg base 1 "standing_of" ["length", "height", "tail", "kept"] (spStand K) := call_ok (PySem.W.mg_of X G a3) k3 b3 (ok_stand F3 T)
  have C__fits : CallOk l.prog w K mg base 1 "_fits" ["length", "page", "space"] spFits := call_ok (PySem.W.mg_of X G a4) k4 b4 (ok_fits F4)
  have C__taken_over : CallOk l.prog w K mg base 1 "_taken_over" ["page", "barred"] spTaken := call_ok (PySem.W.mg_of X G a5) k5 b5 (ok_taken F5 T)
  have C__lines_of : CallOk l.prog w K mg base 1 "_lines_of" ["blocks"] (spLines K) := call_ok (PySem.W.mg_of X G a6) k6 b6 (ok_lines F6 T)
  have C_plain_pages : CallOk l.prog w K mg base 2 "plain_pages" ["length", "blocks"] (spPlain K) := call_ok (PySem.W.mg_of X G a7) k7 b7 (ok_plain F7 T C__lines_of C__fits C__taken_over)
  have C__law_bag : CallOk l.prog w K mg base 1 "_law_bag" ["_law_script", "_law_at"] (spBag K) := call_ok (PySem.W.mg_of X G a8) k8 b8 (ok_bag F8 (PySem.W.mg_none_of X G z_int) (PySem.W.mg_none_of X G z_abs) (PySem.W.mg_none_of X G z_len) (PySem.W.mg_none_of X G z_enumerate))
  have C__law_draw : CallOk l.prog w K mg base 1 "_law_draw" ["_law_bag_here", "_law_many"] spDraw := call_ok (PySem.W.mg_of X G a9) k9 b9 (ok_draw F9 (PySem.W.mg_none_of X G z_int))
  have C__law_number : CallOk l.prog w K mg base 1 "_law_number" ["_law_thing"] spNum := call_ok (PySem.W.mg_of X G a10) k10 b10 (ok_number F10 T)
  have C__law_lines : CallOk l.prog w K mg base 1 "_law_lines" ["_law_blocks"] (spLLines K) := call_ok (PySem.W.mg_of X G a11) k11 b11 (ok_llines F11 T)
  have C__law_block : CallOk l.prog w K mg base 2 "_law_block" ["_law_bag_here", "_law_most"] spLBlock := call_ok (PySem.W.mg_of X G a12) k12 b12 (ok_lblock F12 C__law_draw)
  have C__law_length : CallOk l.prog w K mg base 2 "_law_length" ["_law_bag_here"] spLLength := call_ok (PySem.W.mg_of X G a13) k13 b13 (ok_llength F13 C__law_draw)
  have C__law_reason : CallOk l.prog w K mg base 1 "_law_reason" ["_law_length_here", "_law_lines_here", "_law_start", "_law_stop"] spReason := call_ok (PySem.W.mg_of X G a14) k14 b14 (ok_reason F14 T)
  have C__law_right : CallOk l.prog w K mg base 2 "_law_right" ["_law_length_here", "_law_lines_here", "_law_told"] spRight := call_ok (PySem.W.mg_of X G a15) k15 b15 (ok_right F15 T C__law_number C__law_reason)
  have M__settle : MethOk l.prog w K mg base C 1 "_settle" ["self"] (spSettle C) := ⟨f22, _, ⟨a22, i22, k22⟩, b22, ok_settle F22 T⟩
  have M_begin : MethOk l.prog w K mg base C 2 "begin" ["self"] (spBegin C tp) := ⟨f18, _, ⟨a18, i18, k18⟩, b18, ok_begin F18 T M__settle⟩
  have M__put : MethOk l.prog w K mg base C 2 "_put" ["self", "height", "tail"] (spPut C) := ⟨f20, _, ⟨a20, i20, k20⟩, b20, ok_put F20 T M__settle⟩
  have M__go_over : MethOk l.prog w K mg base C 1 "_go_over" ["self", "rows"] (spOver C) := ⟨f21, _, ⟨a21, i21, k21⟩, b21, ok_over F21 T⟩
  have M_finish : MethOk l.prog w K mg base C 1 "finish" ["self"] (spFinish C) := ⟨f23, _, ⟨a23, i23, k23⟩, b23, ok_finish F23 T⟩
  have M_Page : MakeOk l.prog w K mg base C 1 "Page" ["self", "length"] (spInit C tp) := ⟨f17, _, ⟨mk, a17, i17, kc⟩, PySem.W.mg_of X G aC, b17, ok_init F17 T⟩
  have M_block : MethKOk l.prog w K mg base C 3 "block" ["self", "count", "space", "kept", "page"] ["space", "kept", "page"] 1 (spBlock K C) :=
    ⟨f19, _, ⟨a19, i19, k19⟩, ⟨fun s us ws _ h1 h2 => match us, ws, h1, h2 with | [_, _], [_, _, _], _, _ => .of_eq rfl, fun r1 r2 => Vals.append r1 r2⟩,
      ok_block F19 T M__settle M_begin M__put M__go_over C_line_place C_next_line C_standing_of⟩
  exact ok_law F16 T C__law_bag C__law_draw C__law_length C__law_block C_plain_pages C__law_lines C__law_right M_Page M_block M_finish
theorem walk_law {l : PySem.W.OpenLaw} {q : Program} {loose : List Str} {XP : (Str → Option Value) → Heap → Prop} {YP : World → Heap → Prop} {d : DefRec} {K : Params → PySem.W.Frag} (hmost : l.most = some 63) (hdf : d.params.defaults = [])
    (hin : ∀ (w : World) (h : Heap), YP w h → (K w.params).In h)
    (all : ∀ (w : World) (mg : Str → Option Value) (fa : Addr) (h : Heap), (K w.params).In h → h.Ns mainGlobals mg → mg d.name = some (.ref fa) →
      ∃ fd : FuncData, (∀ (s : Shared) (u : Value), BindsTo s fd ⟨[u], []⟩ [("_law_script", u)]) ∧ ∀ base : Heap, (K w.params).In base → base.Ns mainGlobals mg → FnOk l.prog w (K w.params) mg base CX0 4 fa fd ["_law_script"] (spLaw (K w.params))) :
    PySem.W.WalkO q loose XP YP l.row.toRowW d [] (fun f vs => PySem.call f vs) :=
  L2.walk_of (n := 63) (k := 4) (x := "_law_script") (CX := fun _ => CX0) (sp := fun w => spLaw (K w.params)) hmost (by decide) hdf ⟨rfl, by decide, by decide⟩ hin all (fun _ _ a ns hl _ hS => ⟨a, ns, rfl, hS, hl, fun _ => rfl⟩) fun _ _ _ _ _ z => z
end Pa
open PySem PySem.W PyProof.Rows in
set_option maxRecDepth 100000 in
set_option maxHeartbeats 0 in
theorem PySem.Challenge.cw_pressalike_k28_plain_pages_holds : PySem.Challenge.rw_pressalike_k28_plain_pages.Holds := by
  w_on; o_law; k_head; (case hw => w_witness2)
  k_fill
  refine Pa.walk_law (l := PySem.Challenge.rw_pressalike_k28_plain_pages) rfl rfl (fun w h Y => PySem.W.kIn_of Y) ?F
  case F =>
    intro w mg fa h KX G hmg
    refine' Pa.all_mk KX G hmg ?aC ?aT ?a0 ?l0 ?c0 ?k0 ?a1 ?l1 ?c1 ?k1 ?a2 ?l2 ?c2 ?k2 ?a3 ?l3 ?c3 ?k3 ?a4 ?l4 ?c4 ?k4 ?a5 ?l5 ?c5 ?k5 ?a6 ?l6 ?c6 ?k6 ?a7 ?l7 ?c7 ?k7 ?a8 ?l8 ?c8 ?k8 ?a9 ?l9 ?c9 ?k9 ?a10 ?l10 ?c10 ?k10 ?a11 ?l11 ?c11 ?k11 ?a12 ?l12 ?c12 ?k12 ?a13 ?l13 ?c13 ?k13 ?a14 ?l14 ?c14 ?k14 ?a15 ?l15 ?c15 ?k15 ?a16 ?l16 ?c16 ?k16 ?a17 ?i17 ?l17 ?c17 ?k17 ?a18 ?i18 ?l18 ?c18 ?k18 ?a19 ?i19 ?l19 ?c19 ?k19 ?a20 ?i20 ?l20 ?c20 ?k20 ?a21 ?i21 ?l21 ?c21 ?k21 ?a22 ?i22 ?l22 ?c22 ?k22 ?a23 ?i23 ?l23 ?c23 ?k23 ?lT ?pg ?hd ?po ?sa ?mk ?kc ?nL ?nS ?nR ?nO ?nW ?z_len ?z_range ?z_int ?z_abs ?z_enumerate ?z_isinstance ?z_bool ?z_list ?z_tuple ?z_max ?z_min ?z_all
    (case aC => k_is)
    (case aT => k_is)
    (case a0 => k_is)
    (case l0 => k_is)
    (case c0 => k_is)
    (case k0 => k_is)
    (case a1 => k_is)
    (case l1 => k_is)
    (case c1 => k_is)
    (case k1 => k_is)
    (case a2 => k_is)
    (case l2 => k_is)
    (case c2 => k_is)
    (case k2 => k_is)
    (case a3 => k_is)
    (case l3 => k_is)
    (case c3 => k_is)
    (case k3 => k_is)
    (case a4 => k_is)
    (case l4 => k_is)
    (case c4 => k_is)
    (case k4 => k_is)
    (case a5 => k_is)
    (case l5 => k_is)
    (case c5 => k_is)
    (case k5 => k_is)
    (case a6 => k_is)
    (case l6 => k_is)
    (case c6 => k_is)
    (case k6 => k_is)
    (case a7 => k_is)
    (case l7 => k_is)
    (case c7 => k_is)
    (case k7 => k_is)
    (case a8 => k_is)
    (case l8 => k_is)
    (case c8 => k_is)
    (case k8 => k_is)
    (case a9 => k_is)
    (case l9 => k_is)
    (case c9 => k_is)
    (case k9 => k_is)
    (case a10 => k_is)
    (case l10 => k_is)
    (case c10 => k_is)
    (case k10 => k_is)
    (case a11 => k_is)
    (case l11 => k_is)
    (case c11 => k_is)
    (case k11 => k_is)
    (case a12 => k_is)
    (case l12 => k_is)
    (case c12 => k_is)
    (case k12 => k_is)
    (case a13 => k_is)
    (case l13 => k_is)
    (case c13 => k_is)
    (case k13 => k_is)
    (case a14 => k_is)
    (case l14 => k_is)
    (case c14 => k_is)
    (case k14 => k_is)
    (case a15 => k_is)
    (case l15 => k_is)
    (case c15 => k_is)
    (case k15 => k_is)
    (case a16 => k_is)
    (case l16 => k_is)
    (case c16 => k_is)
    (case k16 => k_is)
    (case a17 => k_is)
    (case i17 => k_is)
    (case l17 => k_is)
    (case c17 => k_is)
    (case k17 => k_is)
    (case a18 => k_is)
    (case i18 => k_is)
    (case l18 => k_is)
    (case c18 => k_is)
    (case k18 => k_is)
    (case a19 => k_is)
    (case i19 => k_is)
    (case l19 => k_is)
    (case c19 => k_is)
    (case k19 => k_is)
    (case a20 => k_is)
    (case i20 => k_is)
    (case l20 => k_is)
    (case c20 => k_is)
    (case k20 => k_is)
    (case a21 => k_is)
    (case i21 => k_is)
    (case l21 => k_is)
    (case c21 => k_is)
    (case k21 => k_is)
    (case a22 => k_is)
    (case i22 => k_is)
    (case l22 => k_is)
    (case c22 => k_is)
    (case k22 => k_is)
    (case a23 => k_is)
    (case i23 => k_is)
    (case l23 => k_is)
    (case c23 => k_is)
    (case k23 => k_is)
    (case lT => k_is)
    (case pg => k_is)
    (case hd => k_is)
    (case po => k_is)
    (case sa => k_is)
    (case mk => k_is)
    (case kc => k_is)
    (case nL => k_is)
    (case nS => k_is)
    (case nR => k_is)
    (case nO => k_is)
    (case nW => k_is)
    (case z_len => k_is)
    (case z_range => k_is)
    (case z_int => k_is)
    (case z_abs => k_is)
    (case z_enumerate => k_is)
    (case z_isinstance => k_is)
    (case z_bool => k_is)
    (case z_list => k_is)
    (case z_tuple => k_is)
    (case z_max => k_is)
    (case z_min => k_is)
    (case z_all => k_is)
