import PyProof.Rows.All
import Wide.All
import OpenK.AllK
import Wide.FinOn
import HandS.ForMost
import HandS.Wide
import HandS.Walk
import HandS.TupAny
import HandS.IsInst
import HandS.Property
import HandS.Style
import HandS.TupLe
import HandS.Defaults
import HandS.SortRule
import KE.KSortTupAny
import HandS.ExcInit
import KE.KExcSuper
import HandS.Deep
import HandS.Exc
import HandS.ExcOwn
import HandS.WordsExc
import HandS.ClsMeth
import HandS.MakeKwOnly
import PyProof.Draws
import PyProof.EnumMake
import PyProof.TupleIter
import HandS.Iter
import PySem.Challenge.RW_pressalike_k44_joint_blocks_and_plain_pa
set_option Elab.async false
set_option linter.all false
namespace Pa
/-! ### the mathematics: lines, segments, pages -/
structure Ln where
  sp : Int
  br : Bool
  du : Bool
structure Bl where
  c : Nat
  s : Int
  k : Bool
  g : Bool
/-- the last line of a row ahead of which the place is free: (what stands ahead of it, it and what follows) -/
def cutT : List Ln → Option (List Ln × List Ln)
  | [] => none
  | x :: xs => match cutT xs with
    | some ab => some (x :: ab.1, ab.2)
    | none => if x.br = true then none else some ([], x :: xs)
def cut : List Ln → Option (List Ln × List Ln)
  | [] => none
  | x :: xs => (cutT xs).map fun ab => (x :: ab.1, ab.2)
theorem cutT_snoc (xs : List Ln) (l : Ln) : cutT (xs ++ [l]) = if l.br = true then (cutT xs).map (fun ab => (ab.1, ab.2 ++ [l])) else some (xs, [l]) := by
  induction xs with
  | nil => cases h : l.br <;> simp [cutT, h]
  | cons x xs ih =>
    rw [List.cons_append, cutT, ih]
    cases h : l.br with
    | true =>
      simp only [if_true]
      rw [cutT]
      cases h2 : cutT xs with
      | none => cases h3 : x.br <;> simp
      | some ab => simp
    | false => simp
theorem cut_snoc {xs : List Ln} (h : xs ≠ []) (l : Ln) : cut (xs ++ [l]) = if l.br = true then (cut xs).map (fun ab => (ab.1, ab.2 ++ [l])) else some (xs, [l]) := by
  cases xs with
  | nil => exact absurd rfl h
  | cons x xs =>
    rw [List.cons_append, cut, cutT_snoc, cut]
    cases l.br <;> simp [Option.map_map, Function.comp_def]
theorem cutT_spec : ∀ {xs a b : List Ln}, cutT xs = some (a, b) → xs = a ++ b ∧ ∃ x b', b = x :: b' ∧ x.br = false ∧ ∀ y ∈ b', y.br = true
  | [], a, b, h => by cases h
  | x :: xs, a, b, h => by
    rw [cutT] at h
    cases h2 : cutT xs with
    | some ab =>
      rw [h2] at h
      obtain ⟨a', b'⟩ := ab
      cases h
      obtain ⟨e, r⟩ := cutT_spec h2
      exact ⟨by rw [e]; rfl, r⟩
    | none =>
      rw [h2] at h
      cases h3 : x.br with
      | true => simp [h3] at h
      | false =>
        simp only [h3, Bool.false_eq_true, if_false, Option.some.injEq, Prod.mk.injEq] at h
        obtain ⟨rfl, rfl⟩ := h
        exact ⟨rfl, x, xs, rfl, h3, cutT_none h2⟩
where
  cutT_none : ∀ {xs : List Ln}, cutT xs = none → ∀ y ∈ xs, y.br = true
  | [], _, y, hy => by cases hy
  | x :: xs, h, y, hy => by
    rw [cutT] at h
    cases h2 : cutT xs with
    | some ab => rw [h2] at h; cases h
    | none =>
      rw [h2] at h
      cases h3 : x.br with
      | false => simp [h3] at h
      | true =>
        rcases List.mem_cons.mp hy with e | e
        · rw [e]; exact h3
        · exact cutT_none h2 y e
theorem cutT_none {xs : List Ln} (h : cutT xs = none) : ∀ y ∈ xs, y.br = true := cutT_spec.cutT_none h
theorem cutT_allbr : ∀ {xs : List Ln}, (∀ y ∈ xs, y.br = true) → cutT xs = none
  | [], _ => rfl
  | x :: xs, h => by
    rw [cutT, cutT_allbr fun y hy => h y (List.mem_cons_of_mem _ hy)]
    simp [h x List.mem_cons_self]
theorem cut_spec {xs a b : List Ln} (h : cut xs = some (a, b)) : xs = a ++ b ∧ a ≠ [] ∧ ∃ x b', b = x :: b' ∧ x.br = false ∧ ∀ y ∈ b', y.br = true := by
  cases xs with
  | nil => cases h
  | cons x xs =>
    rw [cut] at h
    cases h2 : cutT xs with
    | none => rw [h2] at h; cases h
    | some ab =>
      rw [h2] at h
      obtain ⟨a', b'⟩ := ab
      cases h
      obtain ⟨e, r⟩ := cutT_spec h2
      exact ⟨by rw [e]; rfl, by simp, r⟩
theorem cut_none {xs : List Ln} (h : cut xs = none) : ∀ y ∈ xs.tail, y.br = true := by
  cases xs with
  | nil => intro y hy; cases hy
  | cons x xs =>
    rw [cut] at h
    cases h2 : cutT xs with
    | none => exact cutT_none h2
    | some ab => rw [h2] at h; cases h
theorem cut_allbr {x : Ln} {xs : List Ln} (h : ∀ y ∈ xs, y.br = true) : cut (x :: xs) = none := by
  rw [cut, cutT_allbr h]; rfl
theorem cut_one (x : Ln) : cut [x] = none := rfl

/-- how far the last of these stands below what is ahead of them -/
def adv : List Ln → Int
  | [] => 0
  | l :: ls => l.sp + 1 + adv ls
theorem adv_append (a b : List Ln) : adv (a ++ b) = adv a + adv b := by
  induction a with
  | nil => simp [adv]
  | cons x a ih => rw [List.cons_append, adv, adv, ih]; omega
theorem adv_nonneg {a : List Ln} (h : ∀ l ∈ a, 0 ≤ l.sp) : (a.length : Int) ≤ adv a := by
  induction a with
  | nil => simp [adv]
  | cons x a ih =>
    have h1 := h x List.mem_cons_self
    have h2 := ih fun l hl => h l (List.mem_cons_of_mem _ hl)
    rw [adv, List.length_cons]
    omega
def lastRow (s : List Ln) : Int := adv s.tail
def pgGo (r : Int) : List Ln → List (Int × Bool)
  | [] => []
  | l :: ls => (r + l.sp + 1, l.br) :: pgGo (r + l.sp + 1) ls
def pgOf : List Ln → List (Int × Bool)
  | [] => []
  | l :: ls => (0, l.br) :: pgGo 0 ls
theorem pgGo_append (r : Int) (a b : List Ln) : pgGo r (a ++ b) = pgGo r a ++ pgGo (r + adv a) b := by
  induction a generalizing r with
  | nil => simp [pgGo, adv]
  | cons x a ih =>
    rw [List.cons_append, pgGo, pgGo, ih, List.cons_append, adv]
    congr 3
    omega
theorem pgGo_len (r : Int) (a : List Ln) : (pgGo r a).length = a.length := by
  induction a generalizing r with
  | nil => rfl
  | cons x a ih => rw [pgGo, List.length_cons, ih, List.length_cons]
theorem pgOf_len (a : List Ln) : (pgOf a).length = a.length := by
  cases a with
  | nil => rfl
  | cons x a => rw [pgOf, List.length_cons, pgGo_len, List.length_cons]
theorem pgOf_snoc {s : List Ln} (h : s ≠ []) (l : Ln) : pgOf (s ++ [l]) = pgOf s ++ [(lastRow s + l.sp + 1, l.br)] := by
  cases s with
  | nil => exact absurd rfl h
  | cons x s =>
    rw [List.cons_append, pgOf, pgGo_append, pgOf, List.cons_append]
    simp [pgGo, lastRow]
theorem lastRow_snoc {s : List Ln} (h : s ≠ []) (l : Ln) : lastRow (s ++ [l]) = lastRow s + l.sp + 1 := by
  cases s with
  | nil => exact absurd rfl h
  | cons x s =>
    show adv (s ++ [l]) = adv s + l.sp + 1
    rw [adv_append]
    simp [adv]
    omega
theorem lastRow_one (l : Ln) : lastRow [l] = 0 := rfl
theorem lastRow_append {a : List Ln} (h : a ≠ []) (x : Ln) (b : List Ln) : lastRow (a ++ x :: b) = lastRow a + x.sp + 1 + lastRow (x :: b) := by
  cases a with
  | nil => exact absurd rfl h
  | cons y a =>
    show adv (a ++ x :: b) = adv a + x.sp + 1 + adv b
    rw [adv_append, adv]
    omega
theorem lastRow_nonneg {s : List Ln} (h : ∀ l ∈ s, 0 ≤ l.sp) : 0 ≤ lastRow s := by
  have := adv_nonneg (a := s.tail) fun l hl => h l (List.mem_of_mem_tail hl)
  unfold lastRow
  omega
theorem pgOf_last {s : List Ln} (h : s ≠ []) : ∃ b, (pgOf s).getLast? = some (lastRow s, b) := by
  rcases List.eq_nil_or_concat s with e | ⟨t, l, e⟩
  · exact absurd e h
  · subst e
    by_cases ht : t = []
    · subst ht
      exact ⟨l.br, rfl⟩
    · rw [List.concat_eq_append] at *
      rw [pgOf_snoc ht, lastRow_snoc ht]
      exact ⟨l.br, by simp⟩
theorem pgGo_shift (r d : Int) (b : List Ln) : pgGo (r + d) b = (pgGo r b).map fun x => (x.1 + d, x.2) := by
  induction b generalizing r with
  | nil => rfl
  | cons x b ih =>
    rw [pgGo, pgGo, List.map_cons, ← ih]
    have e : r + d + x.sp + 1 = r + x.sp + 1 + d := by omega
    rw [e]
/-- a page parted at one of its lines -/
theorem pgOf_parted {a : List Ln} (h : a ≠ []) (x : Ln) (b : List Ln) : pgOf (a ++ x :: b) = pgOf a ++ (pgOf (x :: b)).map fun y => (y.1 + (lastRow a + x.sp + 1), y.2) := by
  cases a with
  | nil => exact absurd rfl h
  | cons y a =>
    rw [List.cons_append, pgOf, pgGo_append, pgOf, pgOf, pgGo, List.map_cons, ← pgGo_shift, List.cons_append]
    show _ = (0, y.br) :: (pgGo 0 a ++ (0 + (adv a + x.sp + 1), x.br) :: pgGo (0 + (adv a + x.sp + 1)) b)
    have e : (0 : Int) + adv a + x.sp + 1 = 0 + (adv a + x.sp + 1) := by omega
    rw [e]

/-! ### the lines of blocks -/
def blLn (c : Nat) (s : Int) (kp du : Bool) (i : Nat) : Ln := if i = 0 then ⟨s, kp, du⟩ else ⟨0, decide ((i : Int) = 1 ∨ (i : Int) = (c : Int) - 1), false⟩
def blLines (c : Nat) (s : Int) (kp du : Bool) (n : Nat) : List Ln := (List.range n).map (blLn c s kp du)
theorem blLines_succ (c : Nat) (s : Int) (kp du : Bool) (n : Nat) : blLines c s kp du (n + 1) = blLines c s kp du n ++ [blLn c s kp du n] := by
  unfold blLines
  rw [List.range_succ, List.map_append]
  rfl
structure LS where
  ls : List Ln
  du : Bool
  kp : Bool
def stepB (t : LS) (b : Bl) : LS :=
  ⟨t.ls ++ blLines b.c b.s t.kp (t.du || b.g) b.c, if b.c = 0 then (t.du || b.g) else false, if b.c = 0 then t.kp else b.k⟩
def linesOf (bs : List Bl) : LS := bs.foldl stepB ⟨[], true, false⟩
theorem linesOf_snoc (bs : List Bl) (b : Bl) : linesOf (bs ++ [b]) = stepB (linesOf bs) b := by
  unfold linesOf
  rw [List.foldl_append]
  rfl

/-! ### lines put onto pages: a state is its pages' lines, the last page first -/
def stepS (L : Int) (S : List (List Ln)) (l : Ln) : List (List Ln) :=
  if l.du = true then [l] :: S else match S with
  | [] => [[l]]
  | seg :: S' => if lastRow seg + l.sp + 1 < L then (seg ++ [l]) :: S' else
    match (if l.br = true then cut seg else none) with
    | none => [l] :: seg :: S'
    | some ab => if lastRow ab.2 + l.sp + 1 < L then (ab.2 ++ [l]) :: ab.1 :: S' else [l] :: ab.2 :: ab.1 :: S'
def runS (L : Int) (ls : List Ln) : List (List Ln) := ls.foldl (stepS L) []
theorem runS_snoc (L : Int) (ls : List Ln) (l : Ln) : runS L (ls ++ [l]) = stepS L (runS L ls) l := by
  unfold runS
  rw [List.foldl_append]
  rfl
theorem runS_append (L : Int) (a b : List Ln) : runS L (a ++ b) = b.foldl (stepS L) (runS L a) := by
  unfold runS
  rw [List.foldl_append]
def rowsOf (S : List (List Ln)) : List Int := ((S.reverse.map pgOf).flatten).map (·.1)
theorem rowsOf_cons (s : List Ln) (S : List (List Ln)) : rowsOf (s :: S) = rowsOf S ++ (pgOf s).map (·.1) := by
  unfold rowsOf
  simp

/-! ### a Page's state -/
structure PS' where
  h : Int
  t : Int
  lo : Int
  rows : List Int
def lng (t s : Int) : Int := if t > 0 then t + s + 1 else 0
structure NL where
  h : Int
  t : Int
  ov : Bool
def nextLine (L h t s : Int) (b : Bool) : NL :=
  if h > 0 ∧ h + s + 1 ≤ L then (if b = false then ⟨h + s + 1, 1, false⟩ else ⟨h + s + 1, lng t s, false⟩)
  else if b = false ∨ t = 0 then ⟨1, 0, false⟩ else ⟨if lng t s ≤ L then lng t s else 1, 0, true⟩
def overR (rows : List Int) (lo before : Int) : List Int := rows.take (rows.length - lo.toNat) ++ (rows.drop (rows.length - lo.toNat)).map (· - before)
def lineP (L : Int) (p : PS') (s : Int) (b : Bool) : PS' :=
  let n := nextLine L p.h p.t s b
  ⟨n.h, n.t, if n.t > 1 then p.lo + 1 else n.t, (if n.ov = true then overR p.rows p.lo (p.h - p.t) else p.rows) ++ [n.h - 1]⟩
def tailOf (s : List Ln) : Int := match cut s with
  | none => 0
  | some ab => lastRow ab.2 + 1
def looseOf (s : List Ln) : Int := match cut s with
  | none => 0
  | some ab => ab.2.length
/-- the page's state is that of these lines -/
structure Ex (S : List (List Ln)) (p : PS') : Prop where
  ok : ∃ s S', S = s :: S' ∧ s ≠ [] ∧ p.h = lastRow s + 1 ∧ p.t = tailOf s ∧ p.lo = looseOf s ∧ p.rows = rowsOf S
def NN (S : List (List Ln)) : Prop := ∀ s ∈ S, ∀ l ∈ s, 0 ≤ l.sp
theorem overR_ok {S' : List (List Ln)} {a b : List Ln} {x : Ln} (ha : a ≠ []) : overR (rowsOf ((a ++ x :: b) :: S')) ((x :: b).length : Int) (lastRow a + x.sp + 1) = rowsOf ((x :: b) :: a :: S') := by
  unfold overR
  rw [rowsOf_cons, rowsOf_cons, rowsOf_cons, pgOf_parted ha]
  have e : ((((pgOf a ++ (pgOf (x :: b)).map fun y => (y.1 + (lastRow a + x.sp + 1), y.2))).map (·.1)) : List Int) = (pgOf a).map (·.1) ++ ((pgOf (x :: b)).map (·.1)).map (· + (lastRow a + x.sp + 1)) := by
    simp [List.map_map, Function.comp_def]
  rw [e, ← List.append_assoc]
  have el : (rowsOf S' ++ (pgOf a).map (·.1) ++ ((pgOf (x :: b)).map (·.1)).map (· + (lastRow a + x.sp + 1))).length - (((x :: b).length : Int)).toNat = (rowsOf S' ++ (pgOf a).map (·.1)).length := by
    simp only [List.length_append, List.length_map, pgOf_len, Int.toNat_natCast]
    omega
  rw [el, List.take_left', List.drop_left']
  · rw [List.map_map]
    congr 1
    conv => rhs; rw [← List.map_id ((pgOf (x :: b)).map (·.1))]
    apply List.map_congr_left
    intro y _
    simp
  · rfl
  · rfl
theorem line_ok {L : Int} {seg : List Ln} {S' : List (List Ln)} {p : PS'} {l : Ln} (hL : 0 < L) (hn : NN (seg :: S')) (hs : seg ≠ []) (h0 : 0 ≤ l.sp) (hd : l.du = false) (hh : p.h = lastRow seg + 1) (hb : l.br = true → p.t = tailOf seg ∧ p.lo = looseOf seg)
    (hr : p.rows = rowsOf (seg :: S')) : Ex (stepS L (seg :: S') l) (lineP L p l.sp l.br) := by
  have hnn : 0 ≤ lastRow seg := lastRow_nonneg (hn seg List.mem_cons_self)
  unfold stepS lineP nextLine
  simp only [hd, Bool.false_eq_true, if_false, hh]
  by_cases hf : lastRow seg + l.sp + 1 < L
  · have hf' : lastRow seg + 1 > 0 ∧ lastRow seg + 1 + l.sp + 1 ≤ L := ⟨by omega, by omega⟩
    simp only [hf, hf', and_self, if_true]
    cases hbr : l.br with
    | false =>
      simp only [if_true]
      refine ⟨_, _, rfl, by simp, ?_, ?_, ?_, ?_⟩
      · rw [lastRow_snoc hs]; show lastRow seg + 1 + l.sp + 1 = _; omega
      · show (1 : Int) = _
        unfold tailOf; rw [cut_snoc hs, hbr]; rfl
      · show (if (1 : Int) > 1 then p.lo + 1 else (1 : Int)) = _
        unfold looseOf; rw [cut_snoc hs, hbr]; rfl
      · show p.rows ++ [_] = _
        rw [hr, rowsOf_cons, rowsOf_cons, pgOf_snoc hs, List.map_append, List.append_assoc]
        congr 2
        simp
        omega
    | true =>
      obtain ⟨ht, hlo⟩ := hb hbr
      simp only [Bool.true_eq_false, if_false]
      refine ⟨_, _, rfl, by simp, ?_, ?_, ?_, ?_⟩
      · rw [lastRow_snoc hs]; show lastRow seg + 1 + l.sp + 1 = _; omega
      · show lng p.t l.sp = _
        rw [ht]
        unfold tailOf lng
        rw [cut_snoc hs, hbr]
        simp only [if_true]
        cases hc : cut seg with
        | none => simp
        | some ab =>
          obtain ⟨a, b⟩ := ab
          obtain ⟨e, ha, x, b', hb', _⟩ := cut_spec hc
          have hbn : b ≠ [] := by rw [hb']; simp
          have : 0 ≤ lastRow b := lastRow_nonneg fun y hy => hn seg List.mem_cons_self y (by rw [e]; exact List.mem_append_right _ hy)
          simp only [Option.map_some]
          rw [lastRow_snoc hbn, if_pos (by omega)]
          omega
      · show (if lng p.t l.sp > 1 then p.lo + 1 else lng p.t l.sp) = _
        rw [ht, hlo]
        unfold tailOf looseOf lng
        rw [cut_snoc hs, hbr]
        simp only [if_true]
        cases hc : cut seg with
        | none => simp
        | some ab =>
          obtain ⟨a, b⟩ := ab
          obtain ⟨e, ha, x, b', hb', _⟩ := cut_spec hc
          have : 0 ≤ lastRow b := lastRow_nonneg fun y hy => hn seg List.mem_cons_self y (by rw [e]; exact List.mem_append_right _ hy)
          simp only [Option.map_some, List.length_append, List.length_singleton]
          rw [if_pos (by omega)]
          omega
      · show p.rows ++ [_] = _
        rw [hr, rowsOf_cons, rowsOf_cons, pgOf_snoc hs, List.map_append, List.append_assoc]
        congr 2
        simp
        omega
  · have hf' : ¬ (lastRow seg + 1 > 0 ∧ lastRow seg + 1 + l.sp + 1 ≤ L) := fun q => hf (by omega)
    simp only [hf, hf', if_false]
    cases hbr : l.br with
    | false =>
      simp only [Bool.false_eq_true, if_false, true_or, if_true]
      refine ⟨_, _, rfl, by simp, rfl, rfl, rfl, ?_⟩
      show p.rows ++ [_] = _
      rw [hr]
      rw [rowsOf_cons [l]]
      rfl
    | true =>
      obtain ⟨ht, hlo⟩ := hb hbr
      simp only [if_true, Bool.true_eq_false, false_or]
      cases hc : cut seg with
      | none =>
        have ht0 : p.t = 0 := by rw [ht]; unfold tailOf; rw [hc]
        simp only [ht0, if_true]
        refine ⟨_, _, rfl, by simp, rfl, rfl, rfl, ?_⟩
        show p.rows ++ [_] = _
        rw [hr]
        rw [rowsOf_cons [l]]
        rfl
      | some ab =>
        obtain ⟨a, b⟩ := ab
        obtain ⟨e, ha, x, b', hb', hx, hall⟩ := cut_spec hc
        have hbn : b ≠ [] := by rw [hb']; simp
        have hb0 : 0 ≤ lastRow b := lastRow_nonneg fun y hy => hn seg List.mem_cons_self y (by rw [e]; exact List.mem_append_right _ hy)
        have ht1 : p.t = lastRow b + 1 := by rw [ht]; unfold tailOf; rw [hc]
        have hlo1 : p.lo = b.length := by rw [hlo]; unfold looseOf; rw [hc]
        have htn : ¬ p.t = 0 := by omega
        have hlr : lastRow seg = lastRow a + x.sp + 1 + lastRow b := by rw [e, hb']; exact lastRow_append ha x b'
        have hov : overR p.rows p.lo (lastRow seg + 1 - p.t) = rowsOf (b :: a :: S') := by
          have e2 : lastRow seg + 1 - p.t = lastRow a + x.sp + 1 := by omega
          rw [e2, hr, hlo1, e, hb']
          exact overR_ok ha
        have hlng : lng p.t l.sp = lastRow b + l.sp + 1 + 1 := by
          unfold lng
          rw [if_pos (by omega)]
          omega
        simp only [htn, if_false, hlng, hov, if_true]
        by_cases hf2 : lastRow b + l.sp + 1 < L
        · have hf3 : lastRow b + l.sp + 1 + 1 ≤ L := by omega
          simp only [hf2, hf3, if_true]
          refine ⟨_, _, rfl, by simp, ?_, ?_, ?_, ?_⟩
          · rw [lastRow_snoc hbn]
          · show (0 : Int) = _
            unfold tailOf; rw [cut_snoc hbn, hbr, hb', cut_allbr hall]; rfl
          · show (if (0 : Int) > 1 then p.lo + 1 else (0 : Int)) = _
            unfold looseOf; rw [cut_snoc hbn, hbr, hb', cut_allbr hall]; rfl
          · show rowsOf (b :: a :: S') ++ [_] = _
            rw [rowsOf_cons, rowsOf_cons (b ++ [l]), pgOf_snoc hbn, List.map_append, List.append_assoc]
            congr 2
            simp
        · have hf3 : ¬ (lastRow b + l.sp + 1 + 1 ≤ L) := by omega
          simp only [hf2, hf3, if_false]
          refine ⟨_, _, rfl, by simp, rfl, rfl, rfl, ?_⟩
          show rowsOf (b :: a :: S') ++ [_] = _
          rw [rowsOf_cons [l]]
          rfl
/-! ### a block -/
structure SB where
  kd : Bool
  h : Int
  t : Int
  lo : Int
  rows : List Int
def runP (L : Int) (c : Nat) (s : Int) (kd : Bool) (p : PS') : Nat → PS'
  | 0 => p
  | n + 1 => lineP L (runP L c s kd p n) (if n = 0 then s else 0) (if n = 0 then kd else decide ((n : Int) = 1 ∨ (n : Int) = (c : Int) - 1))
def due0 (q : SB) (g : Bool) : SB := if g = true then ⟨false, 0, 0, 0, q.rows⟩ else q
def endP (L : Int) (p : PS') (k : Bool) : SB :=
  if p.h = L ∧ (k = false ∨ p.t = 0) then ⟨false, 0, 0, 0, p.rows⟩ else if k = true then ⟨true, p.h, p.t, if p.t = 0 then 0 else p.lo, p.rows⟩ else ⟨false, p.h, 0, 0, p.rows⟩
def blockP (L : Int) (q : SB) (b : Bl) : SB :=
  let q0 := due0 q b.g
  if b.c = 0 then q0 else endP L (runP L b.c b.s q0.kd ⟨q0.h, q0.t, q0.lo, q0.rows⟩ b.c) b.k
theorem NN_step {L : Int} {S : List (List Ln)} {l : Ln} (h : NN S) (h0 : 0 ≤ l.sp) : NN (stepS L S l) := by
  unfold stepS
  have h1 : ∀ y ∈ [l], 0 ≤ y.sp := fun y hy => by rw [List.mem_singleton.mp hy]; exact h0
  split
  · intro s hs
    rcases List.mem_cons.mp hs with e | e
    · rw [e]; exact h1
    · exact h s e
  · cases S with
    | nil =>
      intro s hs
      rw [List.mem_singleton.mp hs]; exact h1
    | cons seg S' =>
      have hseg := h seg List.mem_cons_self
      have hS' : ∀ s ∈ S', ∀ y ∈ s, 0 ≤ y.sp := fun s hs => h s (List.mem_cons_of_mem _ hs)
      have app : ∀ {a b : List Ln}, (∀ y ∈ a, 0 ≤ y.sp) → (∀ y ∈ b, 0 ≤ y.sp) → ∀ y ∈ a ++ b, 0 ≤ y.sp := fun ha hb y hy => (List.mem_append.mp hy).elim (ha y) (hb y)
      dsimp only
      split
      · intro s hs
        rcases List.mem_cons.mp hs with e | e
        · rw [e]; exact app hseg h1
        · exact hS' s e
      · cases hc : (if l.br = true then cut seg else none) with
        | none =>
          intro s hs
          rcases List.mem_cons.mp hs with e | e
          · rw [e]; exact h1
          · exact h s e
        | some ab =>
          obtain ⟨a, b⟩ := ab
          have hc' : cut seg = some (a, b) := by
            split at hc
            · exact hc
            · cases hc
          obtain ⟨e0, _, _⟩ := cut_spec hc'
          have ha : ∀ y ∈ a, 0 ≤ y.sp := fun y hy => hseg y (by rw [e0]; exact List.mem_append_left _ hy)
          have hb : ∀ y ∈ b, 0 ≤ y.sp := fun y hy => hseg y (by rw [e0]; exact List.mem_append_right _ hy)
          dsimp only
          split
          · intro s hs
            rcases List.mem_cons.mp hs with e | e
            · rw [e]; exact app hb h1
            · rcases List.mem_cons.mp e with e | e
              · rw [e]; exact ha
              · exact hS' s e
          · intro s hs
            rcases List.mem_cons.mp hs with e | e
            · rw [e]; exact h1
            · rcases List.mem_cons.mp e with e | e
              · rw [e]; exact hb
              · rcases List.mem_cons.mp e with e | e
                · rw [e]; exact ha
                · exact hS' s e
structure Rel (L : Int) (t : LS) (q : SB) : Prop where
  rows : q.rows = rowsOf (runS L t.ls)
  nn : NN (runS L t.ls)
  due : t.du = true → q.h = 0 ∧ q.t = 0 ∧ q.kd = false ∧ q.lo = 0
  not : t.du = false → ∃ seg S', runS L t.ls = seg :: S' ∧ seg ≠ [] ∧
    ((q.h = lastRow seg + 1 ∧ q.kd = t.kp ∧ (t.kp = true → q.t = tailOf seg ∧ q.lo = looseOf seg) ∧ (t.kp = false → q.t = 0 ∧ q.lo = 0)) ∨
     (lastRow seg + 1 = L ∧ q.h = 0 ∧ q.t = 0 ∧ q.kd = false ∧ q.lo = 0 ∧ (t.kp = false ∨ cut seg = none)))
theorem rel0 (L : Int) : Rel L ⟨[], true, false⟩ ⟨false, 0, 0, 0, []⟩ := ⟨rfl, (fun _ h => by cases h), (fun _ => ⟨rfl, rfl, rfl, rfl⟩), (fun h => by cases h)⟩
theorem line_new {L : Int} {S : List (List Ln)} {p : PS'} {l : Ln} (hh : p.h = 0) (hr : p.rows = rowsOf S) : Ex ([l] :: S) (lineP L p l.sp false) := by
  unfold lineP nextLine
  have : ¬ (p.h > 0 ∧ p.h + l.sp + 1 ≤ L) := by omega
  simp only [this, if_false, true_or, if_true, Bool.false_eq_true]
  refine ⟨_, _, rfl, by simp, rfl, rfl, rfl, ?_⟩
  rw [hr, rowsOf_cons [l]]
  rfl
theorem line_sp (p : PS') (L s s' : Int) (h : p.h = 0) : lineP L p s false = lineP L p s' false := by
  unfold lineP nextLine
  have h1 : ¬ (p.h > 0 ∧ p.h + s + 1 ≤ L) := by omega
  have h2 : ¬ (p.h > 0 ∧ p.h + s' + 1 ≤ L) := by omega
  simp only [h1, h2, if_false, true_or, if_true]
theorem first_ok {L : Int} (hL : 0 < L) {t : LS} {q : SB} (R : Rel L t q) {s : Int} (h0 : 0 ≤ s) (g : Bool) :
    Ex (stepS L (runS L t.ls) ⟨s, t.kp, t.du || g⟩) (lineP L ⟨(due0 q g).h, (due0 q g).t, (due0 q g).lo, (due0 q g).rows⟩ s (due0 q g).kd) := by
  cases hd : (t.du || g) with
  | true =>
    have z : (due0 q g).h = 0 ∧ (due0 q g).kd = false ∧ (due0 q g).rows = q.rows := by
      unfold due0
      cases g with
      | true => exact ⟨rfl, rfl, rfl⟩
      | false =>
        have := R.due (by simpa using hd)
        exact ⟨this.1, this.2.2.1, rfl⟩
    unfold stepS
    simp only [if_true]
    rw [z.2.1]
    exact line_new (l := ⟨s, t.kp, true⟩) z.1 (z.2.2.trans R.rows)
  | false =>
    obtain ⟨hd1, hg⟩ : t.du = false ∧ g = false := by simpa using hd
    subst hg
    have z : due0 q false = q := rfl
    rw [z]
    obtain ⟨seg, S', hS, hne, hh⟩ := R.not hd1
    have nn := R.nn
    have rr := R.rows
    rw [hS] at nn rr ⊢
    rcases hh with ⟨h1, h2, h3, h4⟩ | ⟨h1, h2, h3, h4, h5, h6⟩
    · rw [h2]
      exact line_ok (l := ⟨s, t.kp, false⟩) (p := ⟨q.h, q.t, q.lo, q.rows⟩) hL nn hne h0 rfl h1 h3 rr
    · have e : stepS L (seg :: S') ⟨s, t.kp, false⟩ = [⟨s, t.kp, false⟩] :: seg :: S' := by
        unfold stepS
        have : ¬ (lastRow seg + s + 1 < L) := by omega
        simp only [Bool.false_eq_true, if_false, this]
        have : (if t.kp = true then cut seg else none) = none := by
          rcases h6 with h6 | h6
          · simp [h6]
          · simp [h6]
        rw [this]
      rw [e, h4]
      exact line_new (l := ⟨s, t.kp, false⟩) (p := ⟨q.h, q.t, q.lo, q.rows⟩) h2 rr
theorem lines_ok {L : Int} (hL : 0 < L) {t : LS} {q : SB} (R : Rel L t q) {s : Int} (h0 : 0 ≤ s) (g : Bool) (c : Nat) : ∀ n : Nat,
    NN (runS L (t.ls ++ blLines c s t.kp (t.du || g) (n + 1))) ∧ Ex (runS L (t.ls ++ blLines c s t.kp (t.du || g) (n + 1))) (runP L c s (due0 q g).kd ⟨(due0 q g).h, (due0 q g).t, (due0 q g).lo, (due0 q g).rows⟩ (n + 1))
  | 0 => by
    have e : blLines c s t.kp (t.du || g) 1 = [⟨s, t.kp, t.du || g⟩] := rfl
    show NN (runS L (t.ls ++ blLines c s t.kp (t.du || g) 1)) ∧ Ex (runS L (t.ls ++ blLines c s t.kp (t.du || g) 1)) _
    rw [e, runS_snoc]
    exact ⟨NN_step R.nn h0, first_ok hL R h0 g⟩
  | n + 1 => by
    obtain ⟨nn, ex⟩ := lines_ok hL R h0 g c n
    rw [blLines_succ, ← List.append_assoc, runS_snoc]
    have e : blLn c s t.kp (t.du || g) (n + 1) = ⟨0, decide (((n + 1 : Nat) : Int) = 1 ∨ ((n + 1 : Nat) : Int) = (c : Int) - 1), false⟩ := by
      unfold blLn
      rw [if_neg (by omega)]
    refine ⟨NN_step nn (by rw [e]; exact Int.le_refl _), ?_⟩
    obtain ⟨seg, S', hS, hne, h1, h2, h3, h4⟩ := ex
    rw [hS] at nn ⊢
    rw [e]
    show Ex _ (lineP L _ (if n + 1 = 0 then s else 0) (if n + 1 = 0 then _ else _))
    rw [if_neg (by omega), if_neg (by omega)]
    exact line_ok (l := ⟨0, decide (((n + 1 : Nat) : Int) = 1 ∨ ((n + 1 : Nat) : Int) = (c : Int) - 1), false⟩) hL nn hne (Int.le_refl _) rfl h1 (fun _ => ⟨h2, h3⟩) (by rw [h4, hS])
theorem tail0 {s : List Ln} (hn : ∀ l ∈ s, 0 ≤ l.sp) (h : tailOf s = 0) : cut s = none := by
  unfold tailOf at h
  cases hc : cut s with
  | none => rfl
  | some ab =>
    obtain ⟨a, b⟩ := ab
    rw [hc] at h
    obtain ⟨e, _, _⟩ := cut_spec hc
    have : 0 ≤ lastRow b := lastRow_nonneg fun y hy => hn y (by rw [e]; exact List.mem_append_right _ hy)
    dsimp only at h
    omega
theorem rel_step {L : Int} (hL : 0 < L) {t : LS} {q : SB} (R : Rel L t q) {b : Bl} (h0 : 0 ≤ b.s) : Rel L (stepB t b) (blockP L q b) := by
  unfold blockP stepB
  by_cases hc : b.c = 0
  · have e : blLines b.c b.s t.kp (t.du || b.g) b.c = [] := by rw [hc]; rfl
    rw [e]
    simp only [hc, if_true, List.append_nil]
    unfold due0
    cases hg : b.g with
    | true =>
      simp only [if_true, Bool.or_true]
      exact ⟨R.rows, R.nn, fun _ => ⟨rfl, rfl, rfl, rfl⟩, fun h => by cases h⟩
    | false =>
      simp only [Bool.false_eq_true, if_false, Bool.or_false]
      exact ⟨R.rows, R.nn, R.due, R.not⟩
  · simp only [hc, if_false]
    obtain ⟨n, hn⟩ : ∃ n, b.c = n + 1 := ⟨b.c - 1, by omega⟩
    have key := lines_ok hL R h0 b.g b.c n
    rw [← hn] at key
    obtain ⟨nn, ex⟩ := key
    revert ex
    generalize runP L b.c b.s (due0 q b.g).kd ⟨(due0 q b.g).h, (due0 q b.g).t, (due0 q b.g).lo, (due0 q b.g).rows⟩ b.c = p
    intro ex
    obtain ⟨seg, S', hS, hne, h1, h2, h3, h4⟩ := ex
    have hsn : ∀ l ∈ seg, 0 ≤ l.sp := fun l hl => nn seg (by rw [hS]; exact List.mem_cons_self) l hl
    unfold endP
    split
    · rename_i hh
      refine ⟨h4, nn, fun h => (by cases h), fun _ => ⟨seg, S', hS, hne, .inr ⟨by omega, rfl, rfl, rfl, rfl, ?_⟩⟩⟩
      rcases hh.2 with z | z
      · exact .inl z
      · exact .inr (tail0 hsn (h2 ▸ z))
    · split
      · rename_i hh hk
        refine ⟨h4, nn, fun h => (by cases h), fun _ => ⟨seg, S', hS, hne, .inl ⟨h1, hk.symm, fun _ => ⟨h2, ?_⟩, fun z => ?_⟩⟩⟩
        · show (if p.t = 0 then (0 : Int) else p.lo) = _
          split
          · rename_i hz
            unfold looseOf
            rw [tail0 hsn (h2 ▸ hz)]
          · exact h3
        · exact absurd (hk.symm.trans z) (by decide)
      · rename_i hh hk
        have hk' : b.k = false := by simpa using hk
        refine ⟨h4, nn, fun h => (by cases h), fun _ => ⟨seg, S', hS, hne, .inl ⟨h1, hk'.symm, fun z => ?_, fun _ => ⟨rfl, rfl⟩⟩⟩⟩
        exact absurd z hk
def pageOf (L : Int) (bs : List Bl) : SB := bs.foldl (blockP L) ⟨false, 0, 0, 0, []⟩
theorem pageOf_snoc (L : Int) (bs : List Bl) (b : Bl) : pageOf L (bs ++ [b]) = blockP L (pageOf L bs) b := by
  unfold pageOf
  rw [List.foldl_append]
  rfl
theorem pageOf_rel {L : Int} (hL : 0 < L) (bs : List Bl) (h : ∀ b ∈ bs, 0 ≤ b.s) : Rel L (linesOf bs) (pageOf L bs) := by
  unfold linesOf pageOf
  have key : ∀ (bs : List Bl) (t : LS) (q : SB), (∀ b ∈ bs, 0 ≤ b.s) → Rel L t q → Rel L (bs.foldl stepB t) (bs.foldl (blockP L) q) := by
    intro bs
    induction bs with
    | nil => intro t q _ R; exact R
    | cons b bs ih => intro t q h R; exact ih _ _ (fun b' hb => h b' (List.mem_cons_of_mem _ hb)) (rel_step hL R (h b List.mem_cons_self))
  exact key bs _ _ h (rel0 L)
/-- both ways tell the same rows -/
theorem rows_same {L : Int} (hL : 0 < L) (bs : List Bl) (h : ∀ b ∈ bs, 0 ≤ b.s) : (pageOf L bs).rows = rowsOf (runS L (linesOf bs).ls) := (pageOf_rel hL bs h).rows
/-! ### each page is broken for a reason -/
def ln (ls : List Ln) (i : Nat) : Ln := (ls[i]?).getD ⟨0, false, false⟩
def allBr (ls : List Ln) (lo hi : Nat) : Bool := (List.range' lo (hi - lo)).all fun k => (ln ls k).br
def rsGo (L : Int) (ls : List Ln) (start stop : Nat) : Nat → Nat → Int → Bool
  | 0, _, _ => false
  | n + 1, i, row =>
    let r := row + (ln ls i).sp + 1
    if stop < i ∧ (ln ls i).du = true then false
    else if L ≤ r ∧ stop < i then (!(ln ls stop).br && allBr ls (stop + 1) (i + 1))
    else if L ≤ r then (decide (i = stop) && (!(ln ls i).br || allBr ls (start + 1) (i + 1)))
    else rsGo L ls start stop n (i + 1) r
def reasonB (L : Int) (ls : List Ln) (start stop : Nat) : Bool := if (ln ls stop).du = true then true else rsGo L ls start stop (ls.length - (start + 1)) (start + 1) 0
theorem ln_at (p : List Ln) (x : Ln) (q : List Ln) : ln (p ++ x :: q) p.length = x := by
  unfold ln
  simp
theorem allBr_of {ls p a q : List Ln} (e : ls = p ++ a ++ q) (h : ∀ y ∈ a, y.br = true) : allBr ls p.length (p.length + a.length) = true := by
  unfold allBr
  rw [List.all_eq_true]
  intro k hk
  rw [List.mem_range'_1] at hk
  have h1 : k - p.length < a.length := by omega
  have : ls[k]? = some a[k - p.length] := by
    rw [e, List.append_assoc, List.getElem?_append_right (by omega), List.getElem?_append_left h1, List.getElem?_eq_getElem h1]
  unfold ln
  rw [this]
  exact h _ (List.getElem_mem h1)
theorem rs_run {L : Int} {ls : List Ln} {start stop : Nat} : ∀ (xs p q : List Ln) (n : Nat) (row : Int), ls = p ++ xs ++ q → (∀ y ∈ xs, 0 ≤ y.sp) → row + adv xs < L → (p.length + xs.length ≤ stop + 1 ∨ ∀ y ∈ xs, y.du = false) →
    rsGo L ls start stop (xs.length + n) p.length row = rsGo L ls start stop n (p.length + xs.length) (row + adv xs)
  | [], p, q, n, row, _, _, _, _ => by simp [adv]
  | x :: xs, p, q, n, row, e, h0, hf, hd => by
    have e1 : ls = p ++ x :: (xs ++ q) := by rw [e]; simp
    have hx : ln ls p.length = x := by rw [e1]; exact ln_at _ _ _
    have hn := adv_nonneg (a := xs) fun y hy => h0 y (List.mem_cons_of_mem _ hy)
    rw [adv] at hf
    have e2 : (x :: xs).length + n = (xs.length + n) + 1 := by rw [List.length_cons]; omega
    rw [e2, rsGo]
    simp only [hx]
    have c1 : ¬ (stop < p.length ∧ x.du = true) := by
      rintro ⟨a, b⟩
      rcases hd with hd | hd
      · rw [List.length_cons] at hd; omega
      · rw [hd x List.mem_cons_self] at b; cases b
    have c2 : ¬ (L ≤ row + x.sp + 1 ∧ stop < p.length) := by omega
    have c3 : ¬ (L ≤ row + x.sp + 1) := by omega
    rw [if_neg c1, if_neg c2, if_neg c3]
    have ih := rs_run (L := L) (ls := ls) (start := start) (stop := stop) xs (p ++ [x]) q n (row + x.sp + 1) (by rw [e]; simp) (fun y hy => h0 y (List.mem_cons_of_mem _ hy)) (by omega) (by
      rcases hd with hd | hd
      · exact .inl (by simp at hd ⊢; omega)
      · exact .inr fun y hy => hd y (List.mem_cons_of_mem _ hy))
    rw [List.length_append, List.length_singleton] at ih
    rw [ih, adv, List.length_cons]
    congr 1 <;> omega
def OkSeg (L : Int) (s : List Ln) : Prop := s ≠ [] ∧ lastRow s < L ∧ ∀ y ∈ s.tail, y.du = false
def J (L : Int) (s rest : List Ln) : Prop := match rest with
  | [] => False
  | h :: t => h.du = true ∨ (L ≤ lastRow s + h.sp + 1 ∧ (h.br = false ∨ ∀ y ∈ s.tail, y.br = true)) ∨
    (h.br = false ∧ ∃ m f u, t = m ++ f :: u ∧ (∀ y ∈ m, y.br = true ∧ y.du = false) ∧ f.br = true ∧ f.du = false ∧ lastRow s + h.sp + 1 + adv m < L ∧ L ≤ lastRow s + h.sp + 1 + adv m + f.sp + 1)
theorem J_snoc {L : Int} {s rest : List Ln} (l : Ln) (h : J L s rest) : J L s (rest ++ [l]) := by
  cases rest with
  | nil => exact h.elim
  | cons x t =>
    rcases h with h | h | ⟨h1, m, f, u, h2, h3⟩
    · exact .inl h
    · exact .inr (.inl h)
    · exact .inr (.inr ⟨h1, m, f, u ++ [l], by rw [h2]; simp, h3⟩)
theorem reason_J {L : Int} {ls pre s rest : List Ln} (e : ls = pre ++ s ++ rest) (hs : OkSeg L s) (h0 : ∀ y ∈ ls, 0 ≤ y.sp) (hj : J L s rest) : reasonB L ls pre.length (pre.length + s.length) = true := by
  obtain ⟨hne, hlt, hdu⟩ := hs
  cases s with
  | nil => exact absurd rfl hne
  | cons x s =>
  cases rest with
  | nil => exact hj.elim
  | cons h t =>
  have hst : ln ls (pre.length + (x :: s).length) = h := by
    rw [e, ← List.length_append]; exact ln_at _ _ _
  unfold reasonB
  rw [hst]
  by_cases hd : h.du = true
  · rw [if_pos hd]
  rw [if_neg hd]
  have hs0 : ∀ y ∈ s, 0 ≤ y.sp := fun y hy => h0 y (by rw [e]; simp [hy])
  have hl : ls.length - (pre.length + 1) = s.length + (1 + t.length) := by rw [e]; simp; omega
  have e1 : ls = (pre ++ [x]) ++ s ++ (h :: t) := by rw [e]; simp
  have lp : pre.length + 1 = (pre ++ [x]).length := by simp
  have hlt' : adv s < L := hlt
  rw [hl, lp, rs_run s (pre ++ [x]) (h :: t) (1 + t.length) 0 e1 hs0 (by omega) (.inl (by simp; omega))]
  have e3 : (pre ++ [x]).length + s.length = pre.length + (x :: s).length := by simp; omega
  rw [e3, Nat.add_comm 1 t.length, rsGo]
  simp only [hst]
  rcases hj with hj | ⟨hj1, hj2⟩ | ⟨hj1, m, f, u, hj2, hj3, hj4, hj5, hj6, hj7⟩
  · exact absurd hj hd
  · have hj1 : L ≤ adv s + h.sp + 1 := hj1
    have hlt2 : ¬ (pre.length + (x :: s).length < pre.length + (x :: s).length) := Nat.lt_irrefl _
    have c3 : L ≤ 0 + adv s + h.sp + 1 := by omega
    rw [if_neg (fun q => hlt2 q.1), if_neg (fun q => hlt2 q.2), if_pos c3]
    simp only [decide_true, Bool.true_and, Bool.or_eq_true, Bool.not_eq_true']
    rcases hj2 with hj2 | hj2
    · exact .inl hj2
    · cases hb : h.br with
      | false => exact .inl rfl
      | true =>
        refine .inr ?_
        have e4 : ls = (pre ++ [x]) ++ (s ++ [h]) ++ t := by rw [e]; simp
        have := allBr_of e4 (fun y hy => by
          rcases List.mem_append.mp hy with z | z
          · exact hj2 y z
          · rw [List.mem_singleton.mp z]; exact hb)
        have e5 : (pre ++ [x]).length + (s ++ [h]).length = pre.length + (x :: s).length + 1 := by simp; omega
        rw [e5] at this
        rw [lp]
        exact this
  · have hj6 : adv s + h.sp + 1 + adv m < L := hj6
    have hj7 : L ≤ adv s + h.sp + 1 + adv m + f.sp + 1 := hj7
    have hm0 : ∀ y ∈ m, 0 ≤ y.sp := fun y hy => h0 y (by rw [e, hj2]; simp [hy])
    have hmn := adv_nonneg hm0
    have hlt2 : ¬ (pre.length + (x :: s).length < pre.length + (x :: s).length) := Nat.lt_irrefl _
    have c3 : ¬ (L ≤ 0 + adv s + h.sp + 1) := by omega
    rw [if_neg (fun q => hlt2 q.1), if_neg (fun q => hlt2 q.2), if_neg c3]
    have e6 : ls = (pre ++ x :: s ++ [h]) ++ m ++ (f :: u) := by rw [e, hj2]; simp
    have e7 : pre.length + (x :: s).length + 1 = (pre ++ x :: s ++ [h]).length := by simp; omega
    have e8 : t.length = m.length + (u.length + 1) := by rw [hj2]; simp
    rw [e7, e8, rs_run m _ (f :: u) (u.length + 1) _ e6 hm0 (by omega) (.inr fun y hy => (hj3 y hy).2)]
    have hf : ln ls ((pre ++ x :: s ++ [h]).length + m.length) = f := by
      rw [← List.length_append, e6]; exact ln_at _ _ _
    rw [rsGo]
    simp only [hf]
    have c4 : ¬ (pre.length + (x :: s).length < (pre ++ x :: s ++ [h]).length + m.length ∧ f.du = true) := fun q => by rw [hj5] at q; exact Bool.noConfusion q.2
    have c5 : L ≤ 0 + adv s + h.sp + 1 + adv m + f.sp + 1 ∧ pre.length + (x :: s).length < (pre ++ x :: s ++ [h]).length + m.length := ⟨by omega, by simp; omega⟩
    rw [if_neg c4, if_pos c5, hst, hj1]
    simp only [Bool.not_false, Bool.true_and]
    have e9 : ls = (pre ++ x :: s ++ [h]) ++ (m ++ [f]) ++ u := by rw [e6]; simp
    have := allBr_of e9 (fun y hy => by
      rcases List.mem_append.mp hy with z | z
      · exact (hj3 y z).1
      · rw [List.mem_singleton.mp z]; exact hj4)
    rw [List.length_append (as := m), List.length_singleton] at this
    rw [e7]
    exact this
def Just (L : Int) : List (List Ln) → List Ln → Prop
  | [], _ => True
  | s :: S, rest => OkSeg L s ∧ J L s rest ∧ Just L S (s ++ rest)
theorem Just_snoc {L : Int} {l : Ln} : ∀ {S : List (List Ln)} {rest : List Ln}, Just L S rest → Just L S (rest ++ [l])
  | [], _, _ => trivial
  | s :: S, rest, ⟨h1, h2, h3⟩ => ⟨h1, J_snoc l h2, by rw [← List.append_assoc]; exact Just_snoc h3⟩
def VS (L : Int) (S : List (List Ln)) : Prop := match S with
  | [] => True
  | s :: S' => OkSeg L s ∧ Just L S' s
theorem ok_one {L : Int} (hL : 0 < L) (l : Ln) : OkSeg L [l] := ⟨by simp, hL, fun y hy => by cases hy⟩
theorem VS_step {L : Int} (hL : 0 < L) {S : List (List Ln)} {l : Ln} (hn : NN S) (h0 : 0 ≤ l.sp) (hv : VS L S) (hd : S = [] → l.du = true) : VS L (stepS L S l) := by
  unfold stepS
  split
  · rename_i hdu
    cases S with
    | nil => exact ⟨ok_one hL l, trivial⟩
    | cons s S' => exact ⟨ok_one hL l, hv.1, .inl hdu, Just_snoc hv.2⟩
  · rename_i hdu
    have hdu' : l.du = false := by simpa using hdu
    cases S with
    | nil => exact absurd (hd rfl) hdu
    | cons s S' =>
      obtain ⟨⟨v1, v2, v3⟩, v4⟩ := hv
      dsimp only
      have hnn := hn s List.mem_cons_self
      split
      · rename_i hf
        refine ⟨⟨by simp, by rw [lastRow_snoc v1]; exact hf, fun y hy => ?_⟩, Just_snoc v4⟩
        cases s with
        | nil => exact absurd rfl v1
        | cons x s =>
          rcases List.mem_append.mp hy with z | z
          · exact v3 y z
          · rw [List.mem_singleton.mp z]; exact hdu'
      · rename_i hf
        cases hc : (if l.br = true then cut s else none) with
        | none =>
          refine ⟨ok_one hL l, ⟨v1, v2, v3⟩, .inr (.inl ⟨by omega, ?_⟩), Just_snoc v4⟩
          cases hb : l.br with
          | false => exact .inl rfl
          | true =>
            rw [hb, if_pos rfl] at hc
            exact .inr (cut_none hc)
        | some ab =>
          obtain ⟨a, b⟩ := ab
          have hb : l.br = true ∧ cut s = some (a, b) := by
            split at hc
            · rename_i z; exact ⟨z, hc⟩
            · cases hc
          obtain ⟨hb, hc'⟩ := hb
          obtain ⟨e, ha, x, b', eb, hx, hall⟩ := cut_spec hc'
          have hbn : b ≠ [] := by rw [eb]; simp
          have hsub : ∀ y ∈ b, y ∈ s.tail := fun y hy => by
            rw [e]
            cases a with
            | nil => exact absurd rfl ha
            | cons z a => exact List.mem_append_right _ hy
          have hlr : lastRow s = lastRow a + x.sp + 1 + lastRow b := by rw [e, eb]; exact lastRow_append ha x b'
          have hx0 : 0 ≤ x.sp := hnn x (by rw [e, eb]; simp)
          have hb0 : 0 ≤ lastRow b := lastRow_nonneg fun y hy => hnn y (by rw [e]; exact List.mem_append_right _ hy)
          have ha0 : 0 ≤ lastRow a := lastRow_nonneg fun y hy => hnn y (by rw [e]; exact List.mem_append_left _ hy)
          have oka : OkSeg L a := ⟨ha, by omega, fun y hy => v3 y (by
            rw [e]
            cases a with
            | nil => exact absurd rfl ha
            | cons z a => exact List.mem_append_left _ hy)⟩
          have okb : OkSeg L b := ⟨hbn, by omega, fun y hy => v3 y (hsub y (List.mem_of_mem_tail hy))⟩
          have ja : J L a (b ++ [l]) := by
            rw [eb]
            refine .inr (.inr ⟨hx, b', l, [], rfl, fun y hy => ⟨hall y hy, v3 y (hsub y (by rw [eb]; exact List.mem_cons_of_mem _ hy))⟩, hb, hdu', ?_, ?_⟩)
            · have : lastRow b = adv b' := by rw [eb]; rfl
              omega
            · have : lastRow b = adv b' := by rw [eb]; rfl
              omega
          have js : Just L S' (a ++ (b ++ [l])) := by
            rw [← List.append_assoc, ← e]; exact Just_snoc v4
          dsimp only
          split
          · rename_i hf2
            refine ⟨⟨by simp, by rw [lastRow_snoc hbn]; exact hf2, fun y hy => ?_⟩, oka, ja, js⟩
            rw [eb] at hy
            rcases List.mem_append.mp hy with z | z
            · exact okb.2.2 y (by rw [eb]; exact z)
            · rw [List.mem_singleton.mp z]; exact hdu'
          · rename_i hf2
            refine ⟨ok_one hL l, okb, .inr (.inl ⟨by omega, .inr ?_⟩), oka, ja, js⟩
            rw [eb]; exact hall
theorem step_flat (L : Int) (S : List (List Ln)) (l : Ln) : (stepS L S l).reverse.flatten = S.reverse.flatten ++ [l] := by
  unfold stepS
  split
  · simp
  · cases S with
    | nil => simp
    | cons s S' =>
      dsimp only
      split
      · simp
      · cases hc : (if l.br = true then cut s else none) with
        | none => simp
        | some ab =>
          obtain ⟨a, b⟩ := ab
          have hc' : cut s = some (a, b) := by
            split at hc
            · exact hc
            · cases hc
          obtain ⟨e, _, _⟩ := cut_spec hc'
          dsimp only
          split <;> simp [e]
theorem run_ok {L : Int} (hL : 0 < L) : ∀ (ls : List Ln), (∀ l ∈ ls, 0 ≤ l.sp) → (∀ l, ls.head? = some l → l.du = true) → NN (runS L ls) ∧ VS L (runS L ls) ∧ (runS L ls).reverse.flatten = ls := by
  intro ls
  rw [← List.reverse_reverse ls]
  generalize ls.reverse = r
  induction r with
  | nil => intro _ _; exact ⟨(fun _ h => by cases h), trivial, rfl⟩
  | cons l r ih =>
    intro h1 h2
    rw [List.reverse_cons] at h1 h2 ⊢
    obtain ⟨i1, i2, i3⟩ := ih (fun y hy => h1 y (List.mem_append_left _ hy)) (fun y hy => h2 y (by
      rw [List.head?_append, hy]; rfl))
    rw [runS_snoc]
    have h0 : 0 ≤ l.sp := h1 l (by simp)
    refine ⟨NN_step i1 h0, VS_step hL i1 h0 i2 (fun e => ?_), by rw [step_flat, i3]⟩
    rw [e] at i3
    have : r.reverse = [] := i3.symm
    exact h2 l (by rw [this]; rfl)
/-! the rows that are told -/
def startB (R : List Int) : Nat → Nat
  | 0 => 0
  | k + 1 => if (R[k]?).getD 1 = 0 then k else startB R k
structure OkAt (L : Int) (ls : List Ln) (R : List Int) (i : Nat) : Prop where
  lt : (R[i]?).getD 0 < L
  first : (R[i]?).getD 0 = 0 → i = 0 ∨ reasonB L ls (startB R i) i = true
  other : (R[i]?).getD 0 ≠ 0 → i ≠ 0 ∧ (ln ls i).du = false ∧ (R[i]?).getD 0 = (R[i - 1]?).getD 0 + (ln ls i).sp + 1
def FJ (L : Int) : List (List Ln) → Prop
  | [] => True
  | s :: T => OkSeg L s ∧ (T ≠ [] → J L s T.flatten) ∧ FJ L T
theorem FJ_of {L : Int} : ∀ (S T : List (List Ln)), Just L S T.flatten → FJ L T → T ≠ [] → FJ L (S.reverse ++ T)
  | [], T, _, h, _ => h
  | s :: S, T, ⟨h1, h2, h3⟩, h, hne => by
    rw [List.reverse_cons, List.append_assoc]
    exact FJ_of S (s :: T) h3 ⟨h1, fun _ => h2, h⟩ (by simp)
theorem FJ_VS {L : Int} {S : List (List Ln)} (h : VS L S) : FJ L S.reverse := by
  cases S with
  | nil => trivial
  | cons s S' =>
    rw [List.reverse_cons]
    exact FJ_of S' [s] (by simpa using h.2) ⟨h.1, fun q => absurd rfl q, trivial⟩ (by simp)
def rw1 (s : List Ln) : List Int := (pgOf s).map (·.1)
theorem rw1_len (s : List Ln) : (rw1 s).length = s.length := by unfold rw1; rw [List.length_map, pgOf_len]
theorem rw1_at {s a b : List Ln} {x : Ln} (e : s = a ++ x :: b) (h0 : ∀ y ∈ s, 0 ≤ y.sp) : (a = [] → (rw1 s)[0]? = some 0) ∧ (a ≠ [] → (rw1 s)[a.length]? = some (lastRow a + x.sp + 1) ∧ (rw1 s)[a.length - 1]? = some (lastRow a) ∧ 0 < lastRow a + x.sp + 1 ∧ lastRow a + x.sp + 1 ≤ lastRow s) := by
  subst e
  refine ⟨fun h => by subst h; rfl, fun h => ?_⟩
  have e1 : rw1 (a ++ x :: b) = rw1 a ++ (rw1 (x :: b)).map (· + (lastRow a + x.sp + 1)) := by
    unfold rw1
    rw [pgOf_parted h]
    simp [List.map_map, Function.comp_def]
  have hl : 0 < a.length := List.length_pos_iff.mpr h
  refine ⟨?_, ?_, ?_, ?_⟩
  · rw [e1, List.getElem?_append_right (by rw [rw1_len]; exact Nat.le_refl _), rw1_len, Nat.sub_self]
    show some (0 + (lastRow a + x.sp + 1)) = _
    rw [Int.zero_add]
  · rw [e1, List.getElem?_append_left (by rw [rw1_len]; omega)]
    obtain ⟨b', hb'⟩ := pgOf_last h
    rw [List.getLast?_eq_getElem?, pgOf_len] at hb'
    unfold rw1
    rw [List.getElem?_map, hb']
    rfl
  · have := lastRow_nonneg (s := a) fun y hy => h0 y (List.mem_append_left _ hy)
    have := h0 x (by simp)
    omega
  · rw [lastRow_append h]
    have := lastRow_nonneg (s := x :: b) fun y hy => h0 y (List.mem_append_right _ hy)
    omega
theorem startB_seg {R A B : List Int} {s : List Ln} (e : R = A ++ rw1 s ++ B) (h0 : ∀ y ∈ s, 0 ≤ y.sp) : ∀ j, 1 ≤ j → j ≤ s.length → startB R (A.length + j) = A.length
  | 0, h, _ => by omega
  | j + 1, _, hj => by
    show (if (R[A.length + j]?).getD 1 = 0 then A.length + j else startB R (A.length + j)) = A.length
    have hR : R[A.length + j]? = (rw1 s)[j]? := by
      rw [e, List.append_assoc, List.getElem?_append_right (by omega), List.getElem?_append_left (by rw [rw1_len]; omega)]
      congr 1
      omega
    rw [hR]
    by_cases hj0 : j = 0
    · subst hj0
      cases s with
      | nil => simp at hj
      | cons x s => simp [rw1, pgOf]
    · have hlt : j < s.length := by omega
      have e2 : s = s.take j ++ s[j] :: s.drop (j + 1) := by
        rw [List.getElem_cons_drop, List.take_append_drop]
      have hl : (s.take j).length = j := by rw [List.length_take]; omega
      obtain ⟨q1, q2, q3, q4⟩ := (rw1_at e2 h0).2 (fun q => by rw [q] at hl; simp at hl; omega)
      rw [hl] at q1
      rw [q1, if_neg (by simp; omega)]
      exact startB_seg e h0 j (by omega) (by omega)
theorem right_go {L : Int} {ls : List Ln} {R : List Int} (h0 : ∀ y ∈ ls, 0 ≤ y.sp) : ∀ (T : List (List Ln)) (pre : List Ln) (A : List Int), A.length = pre.length → ls = pre ++ T.flatten → R = A ++ (T.map rw1).flatten → FJ L T →
    (T ≠ [] → pre = [] ∨ reasonB L ls (startB R pre.length) pre.length = true) → ∀ i, pre.length ≤ i → i < ls.length → OkAt L ls R i
  | [], pre, A, _, el, _, _, _, i, h1, h2 => by
    rw [el] at h2
    simp at h2
    omega
  | s :: T, pre, A, hA, el, eR, ⟨hs, hj, hT⟩, hp, i, h1, h2 => by
    have el2 : ls = pre ++ s ++ T.flatten := by rw [el]; simp
    have eR2 : R = A ++ rw1 s ++ (T.map rw1).flatten := by rw [eR]; simp
    have hs0 : ∀ y ∈ s, 0 ≤ y.sp := fun y hy => h0 y (by rw [el2]; simp [hy])
    by_cases hi : i < pre.length + s.length
    · obtain ⟨j, rfl⟩ : ∃ j, i = pre.length + j := ⟨i - pre.length, by omega⟩
      have hj' : j < s.length := by omega
      have e2 : s = s.take j ++ s[j] :: s.drop (j + 1) := by
        rw [List.getElem_cons_drop, List.take_append_drop]
      have hl : (s.take j).length = j := by rw [List.length_take]; omega
      have hRj : ∀ k, k < s.length → R[pre.length + k]? = (rw1 s)[k]? := fun k hk => by
        rw [eR2, ← hA, List.append_assoc, List.getElem?_append_right (by omega), List.getElem?_append_left (by rw [rw1_len]; omega)]
        congr 1
        omega
      have hln : ln ls (pre.length + j) = s[j] := by
        unfold ln
        rw [el2, List.append_assoc, List.getElem?_append_right (by omega), List.getElem?_append_left (by omega)]
        have : pre.length + j - pre.length = j := by omega
        rw [this, List.getElem?_eq_getElem hj']
        rfl
      obtain ⟨q0, q1⟩ := rw1_at e2 hs0
      by_cases hj0 : j = 0
      · subst hj0
        have hr : R[pre.length + 0]? = some 0 := (hRj 0 hj').trans (q0 (by simpa using hl))
        have hL0 : (0 : Int) < L := by
          have := lastRow_nonneg hs0
          have := hs.2.1
          omega
        refine ⟨by rw [hr]; exact hL0, fun _ => ?_, fun q => absurd (by rw [hr]; rfl) q⟩
        rcases hp (by simp) with z | z
        · left; rw [z]; rfl
        · right; exact z
      · obtain ⟨q1, q2, q3, q4⟩ := q1 (fun q => by rw [q] at hl; simp at hl; omega)
        rw [hl] at q1 q2
        have hr : R[pre.length + j]? = some (lastRow (s.take j) + s[j].sp + 1) := (hRj j hj').trans q1
        have hr' : R[pre.length + j - 1]? = some (lastRow (s.take j)) := by
          have : pre.length + j - 1 = pre.length + (j - 1) := by omega
          rw [this]
          exact (hRj (j - 1) (by omega)).trans q2
        refine ⟨?_, fun q => ?_, fun _ => ⟨by omega, ?_, ?_⟩⟩
        · rw [hr]
          have := hs.2.1
          simp only [Option.getD_some]
          omega
        · rw [hr] at q
          simp only [Option.getD_some] at q
          omega
        · rw [hln]
          refine hs.2.2 _ ?_
          have : s.tail[j - 1]? = s[j]? := by
            rw [List.getElem?_tail]
            congr 1
            omega
          rw [List.getElem?_eq_getElem hj'] at this
          exact List.mem_of_getElem? this
        · rw [hr, hr', hln]
          rfl
    · refine right_go h0 T (pre ++ s) (A ++ rw1 s) (by rw [List.length_append, List.length_append, hA, rw1_len]) (by rw [el2]) (by rw [eR2]) hT (fun hne => .inr ?_) i (by rw [List.length_append]; omega) h2
      rw [List.length_append]
      have hsl : 1 ≤ s.length := List.length_pos_iff.mpr hs.1
      have := startB_seg eR2 hs0 s.length hsl (Nat.le_refl _)
      rw [hA] at this
      rw [this]
      exact reason_J el2 hs h0 (hj hne)
/-- the first line begins a page, no space is below 0 -/
structure GoodLs (ls : List Ln) : Prop where
  nn : ∀ l ∈ ls, 0 ≤ l.sp
  first : ∀ l, ls.head? = some l → l.du = true
theorem right_ok {L : Int} (hL : 0 < L) {ls : List Ln} (g : GoodLs ls) : (rowsOf (runS L ls)).length = ls.length ∧ ∀ i, i < ls.length → OkAt L ls (rowsOf (runS L ls)) i := by
  obtain ⟨h1, h2, h3⟩ := run_ok hL ls g.nn g.first
  have eR : rowsOf (runS L ls) = ((runS L ls).reverse.map rw1).flatten := by
    unfold rowsOf rw1
    rw [List.map_flatten, List.map_map]
    rfl
  refine ⟨?_, fun i hi => ?_⟩
  · rw [eR]
    conv => rhs; rw [← h3]
    rw [List.length_flatten, List.length_flatten, List.map_map]
    congr 1
    apply List.map_congr_left
    intro s _
    exact rw1_len s
  · exact right_go g.nn (runS L ls).reverse [] [] rfl h3.symm eR (FJ_VS h2) (fun _ => .inl rfl) i (Nat.zero_le _) hi
theorem good_lines (bs : List Bl) (h : ∀ b ∈ bs, 0 ≤ b.s) : GoodLs (linesOf bs).ls ∧ ((linesOf bs).ls = [] → (linesOf bs).du = true) := by
  rw [← List.reverse_reverse bs] at h ⊢
  generalize bs.reverse = r at h
  induction r with
  | nil => exact ⟨⟨(fun _ h => by cases h), (fun _ h => by cases h)⟩, fun _ => rfl⟩
  | cons b r ih =>
    rw [List.reverse_cons] at h ⊢
    obtain ⟨⟨i1, i2⟩, i3⟩ := ih fun y hy => h y (List.mem_append_left _ hy)
    rw [linesOf_snoc]
    have h0 : 0 ≤ b.s := h b (by simp)
    generalize linesOf r.reverse = t at i1 i2 i3
    refine ⟨⟨fun l hl => ?_, fun l hl => ?_⟩, fun e => ?_⟩
    · rcases List.mem_append.mp hl with z | z
      · exact i1 l z
      · unfold blLines at z
        obtain ⟨i, _, hi⟩ := List.mem_map.mp z
        rw [← hi]
        unfold blLn
        split
        · exact h0
        · exact Int.le_refl _
    · have hl : (t.ls ++ blLines b.c b.s t.kp (t.du || b.g) b.c).head? = some l := hl
      rw [List.head?_append] at hl
      cases ht : t.ls with
      | cons x xs =>
        rw [ht] at hl
        exact i2 l (by rw [ht]; exact hl)
      | nil =>
        rw [ht] at hl
        have hl : (blLines b.c b.s t.kp (t.du || b.g) b.c).head? = some l := hl
        unfold blLines at hl
        cases hc : b.c with
        | zero => rw [hc] at hl; cases hl
        | succ n =>
          rw [hc, List.range_succ_eq_map] at hl
          simp only [List.map_cons, List.head?_cons, Option.some.injEq] at hl
          rw [← hl, i3 ht]
          rfl
    · have e : t.ls ++ blLines b.c b.s t.kp (t.du || b.g) b.c = [] := e
      obtain ⟨e1, e2⟩ := List.append_eq_nil_iff.mp e
      have hc : b.c = 0 := by
        unfold blLines at e2
        simpa using e2
      show (if b.c = 0 then (t.du || b.g) else false) = true
      rw [if_pos hc, i3 e1]
      rfl
end Pa
namespace Pa
/-! ### the law's own pages -/
def lastFree (ls : List Ln) (lo hi d : Nat) : Nat := (((List.range' lo (hi - lo)).filter fun k => !(ln ls k).br).getLast?).getD d
def lcGo (L : Int) (ls : List Ln) (start : Nat) : Nat → Nat → Int → Nat
  | 0, _, _ => ls.length
  | n + 1, i, row =>
    let r := row + (ln ls i).sp + 1
    if (ln ls i).du = true then i else if L ≤ r then lastFree ls (start + 1) (i + 1) i else lcGo L ls start n (i + 1) r
def lawCut (L : Int) (ls : List Ln) (start : Nat) : Nat := lcGo L ls start (ls.length - (start + 1)) (start + 1) 0
theorem lc_run {L : Int} {ls : List Ln} {start : Nat} : ∀ (xs p q : List Ln) (n : Nat) (row : Int), ls = p ++ xs ++ q → (∀ y ∈ xs, 0 ≤ y.sp) → row + adv xs < L → (∀ y ∈ xs, y.du = false) →
    lcGo L ls start (xs.length + n) p.length row = lcGo L ls start n (p.length + xs.length) (row + adv xs)
  | [], p, q, n, row, _, _, _, _ => by simp [adv]
  | x :: xs, p, q, n, row, e, h0, hf, hd => by
    have e1 : ls = p ++ x :: (xs ++ q) := by rw [e]; simp
    have hx : ln ls p.length = x := by rw [e1]; exact ln_at _ _ _
    have hn := adv_nonneg (a := xs) fun y hy => h0 y (List.mem_cons_of_mem _ hy)
    rw [adv] at hf
    have e2 : (x :: xs).length + n = (xs.length + n) + 1 := by rw [List.length_cons]; omega
    rw [e2, lcGo]
    simp only [hx]
    have c1 : ¬ (x.du = true) := by rw [hd x List.mem_cons_self]; decide
    have c3 : ¬ (L ≤ row + x.sp + 1) := by omega
    rw [if_neg c1, if_neg c3]
    have ih := lc_run (L := L) (ls := ls) (start := start) xs (p ++ [x]) q n (row + x.sp + 1) (by rw [e]; simp) (fun y hy => h0 y (List.mem_cons_of_mem _ hy)) (by omega) (fun y hy => hd y (List.mem_cons_of_mem _ hy))
    rw [List.length_append, List.length_singleton] at ih
    rw [ih, adv, List.length_cons]
    congr 1 <;> omega
/-- none free among these -/
theorem lastFree_none {ls p a q : List Ln} {d : Nat} (e : ls = p ++ a ++ q) (h : ∀ y ∈ a, y.br = true) : lastFree ls p.length (p.length + a.length) d = d := by
  unfold lastFree
  have : ((List.range' p.length (p.length + a.length - p.length)).filter fun k => !(ln ls k).br) = [] := by
    rw [List.filter_eq_nil_iff]
    intro k hk
    rw [List.mem_range'_1] at hk
    have h1 : k - p.length < a.length := by omega
    have e2 : ls[k]? = some a[k - p.length] := by
      rw [e, List.append_assoc, List.getElem?_append_right (by omega), List.getElem?_append_left h1, List.getElem?_eq_getElem h1]
    unfold ln
    rw [e2]
    have := h _ (List.getElem_mem h1)
    simp [this]
  rw [this]
  rfl
/-- the last free one: x, all behind it barred -/
theorem lastFree_some {ls p a b q : List Ln} {x : Ln} {d : Nat} (e : ls = p ++ a ++ (x :: b) ++ q) (hx : x.br = false) (h : ∀ y ∈ b, y.br = true) :
    lastFree ls p.length (p.length + a.length + (b.length + 1)) d = p.length + a.length := by
  unfold lastFree
  have e1 : p.length + a.length + (b.length + 1) - p.length = (a.length + 1) + b.length := by omega
  rw [e1, ← List.range'_append_1, List.filter_append]
  have hb : ((List.range' (p.length + (a.length + 1)) b.length).filter fun k => !(ln ls k).br) = [] := by
    rw [List.filter_eq_nil_iff]
    intro k hk
    rw [List.mem_range'_1] at hk
    have h1 : k - (p.length + (a.length + 1)) < b.length := by omega
    have e2 : ls[k]? = some b[k - (p.length + (a.length + 1))] := by
      have e3 : ls = (p ++ a ++ [x]) ++ b ++ q := by rw [e]; simp
      have el : (p ++ a ++ [x]).length = p.length + (a.length + 1) := by simp [Nat.add_assoc]
      rw [e3, List.append_assoc, List.getElem?_append_right (by omega), el, List.getElem?_append_left h1, List.getElem?_eq_getElem h1]
    unfold ln
    rw [e2]
    have := h _ (List.getElem_mem h1)
    simp [this]
  rw [hb, List.append_nil, List.range'_concat, List.filter_append]
  have hx2 : ln ls (p.length + a.length) = x := by
    have e3 : ls = (p ++ a) ++ x :: (b ++ q) := by rw [e]; simp
    have el : (p ++ a).length = p.length + a.length := by simp
    rw [← el, e3]
    exact ln_at _ _ _
  have : ([p.length + 1 * a.length].filter fun k => !(ln ls k).br) = [p.length + a.length] := by
    rw [Nat.one_mul, List.filter_cons, hx2, hx]
    rfl
  rw [this, List.getLast?_append]
  rfl
theorem cut_J {L : Int} {ls pre s rest : List Ln} (e : ls = pre ++ s ++ rest) (hs : OkSeg L s) (h0 : ∀ y ∈ ls, 0 ≤ y.sp) (hj : rest ≠ [] → J L s rest) : lawCut L ls pre.length = pre.length + s.length := by
  obtain ⟨hne, hlt, hdu⟩ := hs
  cases s with
  | nil => exact absurd rfl hne
  | cons x s =>
  have hs0 : ∀ y ∈ s, 0 ≤ y.sp := fun y hy => h0 y (by rw [e]; simp [hy])
  have hlt' : adv s < L := hlt
  have lp : pre.length + 1 = (pre ++ [x]).length := by simp
  unfold lawCut
  cases rest with
  | nil =>
    have hl : ls.length - (pre.length + 1) = s.length + 0 := by rw [e]; simp; omega
    have e1 : ls = (pre ++ [x]) ++ s ++ [] := by rw [e]; simp
    rw [hl, lp, lc_run s (pre ++ [x]) [] 0 0 e1 hs0 (by omega) hdu, lcGo, e]
    simp
  | cons h t =>
  have hst : ln ls (pre.length + (x :: s).length) = h := by
    rw [e, ← List.length_append]; exact ln_at _ _ _
  have hl : ls.length - (pre.length + 1) = s.length + (t.length + 1) := by rw [e]; simp; omega
  have e1 : ls = (pre ++ [x]) ++ s ++ (h :: t) := by rw [e]; simp
  have e3 : (pre ++ [x]).length + s.length = pre.length + (x :: s).length := by simp; omega
  rw [hl, lp, lc_run s (pre ++ [x]) (h :: t) (t.length + 1) 0 e1 hs0 (by omega) hdu, e3, lcGo]
  simp only [hst]
  by_cases hd : h.du = true
  · rw [if_pos hd]
  rw [if_neg hd]
  rcases hj (by simp) with hj | ⟨hj1, hj2⟩ | ⟨hj1, m, f, u, hj2, hj3, hj4, hj5, hj6, hj7⟩
  · exact absurd hj hd
  · have hj1 : L ≤ adv s + h.sp + 1 := hj1
    rw [if_pos (by omega)]
    have e4 : pre.length + (x :: s).length + 1 = (pre ++ [x]).length + (s.length + 1) := by simp; omega
    cases hb : h.br with
    | false =>
      have e5 : ls = (pre ++ [x]) ++ s ++ (h :: []) ++ t := by rw [e]; simp
      have := lastFree_some (d := pre.length + (x :: s).length) e5 hb (fun y hy => by cases hy)
      have e6 : pre.length + (x :: s).length + 1 = (pre ++ [x]).length + s.length + (([] : List Ln).length + 1) := by simp; omega
      rw [e6, lp, this, e3]
    | true =>
      have hall : ∀ y ∈ s, y.br = true := by
        rcases hj2 with hj2 | hj2
        · rw [hb] at hj2; cases hj2
        · exact hj2
      have e5 : ls = (pre ++ [x]) ++ (s ++ [h]) ++ t := by rw [e]; simp
      have := lastFree_none (d := pre.length + (x :: s).length) e5 (fun y hy => by
        rcases List.mem_append.mp hy with z | z
        · exact hall y z
        · rw [List.mem_singleton.mp z]; exact hb)
      rw [List.length_append (as := s), List.length_singleton] at this
      rw [e4, lp, this]
  · have hj6 : adv s + h.sp + 1 + adv m < L := hj6
    have hj7 : L ≤ adv s + h.sp + 1 + adv m + f.sp + 1 := hj7
    have hm0 : ∀ y ∈ m, 0 ≤ y.sp := fun y hy => h0 y (by rw [e, hj2]; simp [hy])
    have hmn := adv_nonneg hm0
    rw [if_neg (by omega)]
    have e6 : ls = (pre ++ x :: s ++ [h]) ++ m ++ (f :: u) := by rw [e, hj2]; simp
    have e7 : pre.length + (x :: s).length + 1 = (pre ++ x :: s ++ [h]).length := by simp; omega
    have e8 : t.length = m.length + (u.length + 1) := by rw [hj2]; simp
    rw [e7, e8, lc_run m _ (f :: u) (u.length + 1) _ e6 hm0 (by omega) (fun y hy => (hj3 y hy).2)]
    have hf : ln ls ((pre ++ x :: s ++ [h]).length + m.length) = f := by
      rw [← List.length_append, e6]; exact ln_at _ _ _
    rw [lcGo]
    simp only [hf]
    rw [if_neg (by rw [hj5]; decide), if_pos (by omega)]
    have e9 : ls = (pre ++ [x]) ++ s ++ (h :: (m ++ [f])) ++ u := by rw [e6]; simp
    have := lastFree_some (d := (pre ++ x :: s ++ [h]).length + m.length) e9 hj1 (fun y hy => by
      rcases List.mem_append.mp hy with z | z
      · exact (hj3 y z).1
      · rw [List.mem_singleton.mp z]; exact hj4)
    have e10 : (pre ++ x :: s ++ [h]).length + m.length + 1 = (pre ++ [x]).length + s.length + ((m ++ [f]).length + 1) := by simp; omega
    rw [lp, e10, this, e3]
/-- the next page's first line, from a line on -/
def segEnd : List (List Ln) → Nat → Nat
  | [], _ => 0
  | s :: T, i => if i = 0 then 0 else if i ≤ s.length then s.length else s.length + segEnd T (i - s.length)
theorem segEnd_zero (T : List (List Ln)) : segEnd T 0 = 0 := by cases T <;> rfl
theorem segEnd_big {s : List Ln} {T : List (List Ln)} {i : Nat} (h : s.length ≤ i) (hs : s ≠ []) : segEnd (s :: T) i = s.length + segEnd T (i - s.length) := by
  have hl : 1 ≤ s.length := List.length_pos_iff.mpr hs
  show (if i = 0 then 0 else if i ≤ s.length then s.length else s.length + segEnd T (i - s.length)) = _
  rw [if_neg (by omega)]
  by_cases h2 : i ≤ s.length
  · have : i - s.length = 0 := by omega
    rw [if_pos h2, this, segEnd_zero]
    rfl
  · rw [if_neg h2]
theorem segEnd_mid {s : List Ln} {T : List (List Ln)} {i : Nat} (h0 : i ≠ 0) (h : i ≤ s.length) : segEnd (s :: T) i = s.length := by
  show (if i = 0 then 0 else if i ≤ s.length then s.length else s.length + segEnd T (i - s.length)) = _
  rw [if_neg h0, if_pos h]
def PgAt1 (L : Int) (ls : List Ln) (R : List Int) (E : Nat → Nat) (i : Nat) : Prop :=
  (E i = i ∧ R[i]? = some 0 ∧ lawCut L ls i = E (i + 1)) ∨ (E i ≠ i ∧ i ≠ 0 ∧ E (i + 1) = E i ∧ ∃ r, R[i - 1]? = some r ∧ R[i]? = some (r + (ln ls i).sp + 1) ∧ r + (ln ls i).sp + 1 ≠ 0)
theorem pages_go {L : Int} {ls : List Ln} {R : List Int} (h0 : ∀ y ∈ ls, 0 ≤ y.sp) : ∀ (T : List (List Ln)) (pre : List Ln) (A : List Int), A.length = pre.length → ls = pre ++ T.flatten → R = A ++ (T.map rw1).flatten → FJ L T →
    ∀ j, j < T.flatten.length → PgAt1 L ls R (fun i => pre.length + segEnd T (i - pre.length)) (pre.length + j)
  | [], _, _, _, _, _, _, j, h => by simp at h
  | s :: T, pre, A, hA, el, eR, ⟨hs, hj, hT⟩, j, h1 => by
    have el2 : ls = pre ++ s ++ T.flatten := by rw [el]; simp
    have eR2 : R = A ++ rw1 s ++ (T.map rw1).flatten := by rw [eR]; simp
    have hs0 : ∀ y ∈ s, 0 ≤ y.sp := fun y hy => h0 y (by rw [el2]; simp [hy])
    have hsl : 1 ≤ s.length := List.length_pos_iff.mpr hs.1
    have ej : pre.length + j - pre.length = j := by omega
    have ej1 : pre.length + j + 1 - pre.length = j + 1 := by omega
    by_cases hi : j < s.length
    · have e2 : s = s.take j ++ s[j] :: s.drop (j + 1) := by
        rw [List.getElem_cons_drop, List.take_append_drop]
      have hl : (s.take j).length = j := by rw [List.length_take]; omega
      have hRj : ∀ k, k < s.length → R[pre.length + k]? = (rw1 s)[k]? := fun k hk => by
        rw [eR2, ← hA, List.append_assoc, List.getElem?_append_right (by omega), List.getElem?_append_left (by rw [rw1_len]; omega)]
        congr 1
        omega
      have hln : ln ls (pre.length + j) = s[j] := by
        unfold ln
        rw [el2, List.append_assoc, List.getElem?_append_right (by omega), List.getElem?_append_left (by omega), ej, List.getElem?_eq_getElem hi]
        rfl
      obtain ⟨q0, q1⟩ := rw1_at e2 hs0
      by_cases hj0 : j = 0
      · subst hj0
        refine .inl ⟨?_, (hRj 0 hi).trans (q0 (by simpa using hl)), ?_⟩
        · show pre.length + segEnd (s :: T) (pre.length + 0 - pre.length) = _
          rw [ej, segEnd_zero]
        · show lawCut L ls (pre.length + 0) = pre.length + segEnd (s :: T) (pre.length + 0 + 1 - pre.length)
          rw [ej1, segEnd_mid (by omega) (by omega), Nat.add_zero]
          exact cut_J el2 hs h0 fun hne => hj fun q => hne (by rw [q]; rfl)
      · obtain ⟨q1, q2, q3, q4⟩ := q1 (fun q => by rw [q] at hl; simp at hl; omega)
        rw [hl] at q1 q2
        refine .inr ⟨?_, by omega, ?_, lastRow (s.take j), ?_, ?_, ?_⟩
        · show ¬ pre.length + segEnd (s :: T) (pre.length + j - pre.length) = pre.length + j
          rw [ej, segEnd_mid hj0 (by omega)]
          omega
        · show pre.length + segEnd (s :: T) (pre.length + j + 1 - pre.length) = pre.length + segEnd (s :: T) (pre.length + j - pre.length)
          rw [ej, ej1, segEnd_mid hj0 (by omega), segEnd_mid (by omega) (by omega)]
        · have : pre.length + j - 1 = pre.length + (j - 1) := by omega
          rw [this]
          exact (hRj (j - 1) (by omega)).trans q2
        · rw [hln]; exact (hRj j hi).trans q1
        · rw [hln]; omega
    · have ih := pages_go (L := L) (ls := ls) (R := R) h0 T (pre ++ s) (A ++ rw1 s) (by rw [List.length_append, List.length_append, hA, rw1_len]) (by rw [el2]) (by rw [eR2]) hT (j - s.length) (by
        have : (s :: T).flatten.length = s.length + T.flatten.length := by simp
        omega)
      have e3 : (pre ++ s).length + (j - s.length) = pre.length + j := by rw [List.length_append]; omega
      rw [e3] at ih
      have eE : ∀ i, pre.length + j ≤ i → pre.length + segEnd (s :: T) (i - pre.length) = (pre ++ s).length + segEnd T (i - (pre ++ s).length) := fun i hi2 => by
        rw [segEnd_big (by omega) hs.1, List.length_append]
        have : i - pre.length - s.length = i - (pre.length + s.length) := by omega
        rw [this]
        omega
      unfold PgAt1 at ih ⊢
      simp only [eE _ (Nat.le_refl _), eE _ (Nat.le_succ _)]
      exact ih
theorem law_pages {L : Int} (hL : 0 < L) {ls : List Ln} (g : GoodLs ls) : ∃ E : Nat → Nat, E 0 = 0 ∧ ∀ i, i < ls.length → PgAt1 L ls (rowsOf (runS L ls)) E i := by
  obtain ⟨h1, h2, h3⟩ := run_ok hL ls g.nn g.first
  have eR : rowsOf (runS L ls) = ((runS L ls).reverse.map rw1).flatten := by
    unfold rowsOf rw1
    rw [List.map_flatten, List.map_map]
    rfl
  refine ⟨fun i => segEnd (runS L ls).reverse i, segEnd_zero _, fun i hi => ?_⟩
  have := pages_go g.nn (runS L ls).reverse [] [] rfl h3.symm eR (FJ_VS h2) i (by rw [h3]; exact hi)
  simpa using this
end Pa
namespace Pa
/-! ### the last page -/
def freeL (ls : List Ln) (lo hi : Nat) : List Nat := (List.range' lo (hi - lo)).filter fun k => !(ln ls k).br
theorem lastFree_eq (ls : List Ln) (lo hi d : Nat) : lastFree ls lo hi d = ((freeL ls lo hi).getLast?).getD d := rfl
theorem freeL_none {ls p a q : List Ln} (e : ls = p ++ a ++ q) (h : ∀ y ∈ a, y.br = true) : freeL ls p.length (p.length + a.length) = [] := by
  unfold freeL
  rw [List.filter_eq_nil_iff]
  intro k hk
  rw [List.mem_range'_1] at hk
  have h1 : k - p.length < a.length := by omega
  have e2 : ls[k]? = some a[k - p.length] := by
    rw [e, List.append_assoc, List.getElem?_append_right (by omega), List.getElem?_append_left h1, List.getElem?_eq_getElem h1]
  unfold ln
  rw [e2]
  have := h _ (List.getElem_mem h1)
  simp [this]
theorem freeL_some {ls p a b q : List Ln} {x : Ln} (e : ls = p ++ a ++ (x :: b) ++ q) (hx : x.br = false) (h : ∀ y ∈ b, y.br = true) :
    (freeL ls p.length (p.length + a.length + (b.length + 1))).getLast? = some (p.length + a.length) := by
  have h1 := lastFree_some (d := 0) e hx h
  have h2 := lastFree_some (d := 1) e hx h
  rw [lastFree_eq] at h1 h2
  cases hc : (freeL ls p.length (p.length + a.length + (b.length + 1))).getLast? with
  | none =>
    rw [hc] at h1 h2
    simp only [Option.getD_none] at h1 h2
    omega
  | some z =>
    rw [hc] at h1
    simp only [Option.getD_some] at h1
    rw [h1]
structure LastPg (ls : List Ln) (R : List Int) (seg : List Ln) (f : Nat) : Prop where
  lt : f < ls.length
  len : R.length = ls.length
  zero : R[f]? = some 0
  pos : ∀ k, f < k → R[k]? ≠ some 0
  last : R[ls.length - 1]? = some (lastRow seg)
  none : cut seg = none → freeL ls (f + 1) ls.length = []
  some : ∀ a b, cut seg = some (a, b) → (freeL ls (f + 1) ls.length).getLast? = some (f + a.length) ∧ R[f + a.length]? = some (lastRow seg - lastRow b) ∧ 0 ≤ lastRow b ∧ f + a.length + b.length = ls.length ∧ 1 ≤ a.length ∧ 1 ≤ b.length ∧
    (∀ k, f + a.length ≤ k → ∀ r, R[k]? = some r → lastRow seg - lastRow b ≤ r) ∧ ∃ r, R[f + a.length - 1]? = some r ∧ r < lastRow seg - lastRow b
theorem last_pg {L : Int} {ls : List Ln} (hL : 0 < L) (g : GoodLs ls) {seg : List Ln} {S' : List (List Ln)} (hS : runS L ls = seg :: S') (hne : seg ≠ []) : LastPg ls (rowsOf (runS L ls)) seg S'.reverse.flatten.length := by
  obtain ⟨nn, vs, fl⟩ := run_ok hL ls g.nn g.first
  have hlen := (right_ok hL g).1
  rw [hS] at fl nn ⊢
  rw [hS] at hlen
  rw [List.reverse_cons, List.flatten_append, List.flatten_singleton] at fl
  have hn : ∀ l ∈ seg, 0 ≤ l.sp := nn seg List.mem_cons_self
  have hsl : 1 ≤ seg.length := List.length_pos_iff.mpr hne
  have ell : ls.length = S'.reverse.flatten.length + seg.length := by rw [← fl, List.length_append]
  have eR : rowsOf (seg :: S') = rowsOf S' ++ rw1 seg := rowsOf_cons seg S'
  have hlr : (rowsOf S').length = S'.reverse.flatten.length := by
    have h1 := congrArg List.length eR
    rw [List.length_append, rw1_len, hlen] at h1
    omega
  have hRj : ∀ k, (rowsOf (seg :: S'))[S'.reverse.flatten.length + k]? = (rw1 seg)[k]? := fun k => by
    rw [eR, ← hlr, List.getElem?_append_right (by omega)]
    congr 1
    omega
  have parts : ∀ j, j < seg.length → (j = 0 → (rw1 seg)[j]? = some 0) ∧ (j ≠ 0 → ∃ r, (rw1 seg)[j]? = some r ∧ 0 < r) := fun j hj => by
    have e2 : seg = seg.take j ++ seg[j] :: seg.drop (j + 1) := by rw [List.getElem_cons_drop, List.take_append_drop]
    have hl : (seg.take j).length = j := by rw [List.length_take]; omega
    obtain ⟨q0, q1⟩ := rw1_at e2 hn
    refine ⟨fun h => ?_, fun h => ?_⟩
    · subst h
      exact q0 (by simpa using hl)
    · obtain ⟨u1, _, u3, _⟩ := q1 (fun q => by rw [q] at hl; simp at hl; omega)
      rw [hl] at u1
      exact ⟨_, u1, u3⟩
  refine ⟨by omega, hlen, ?_, fun k hk => ?_, ?_, fun hc => ?_, fun a b hc => ?_⟩
  · have := hRj 0
    rw [Nat.add_zero] at this
    rw [this]
    exact (parts 0 hsl).1 rfl
  · obtain ⟨j, rfl⟩ : ∃ j, k = S'.reverse.flatten.length + j := ⟨k - S'.reverse.flatten.length, by omega⟩
    rw [hRj]
    by_cases hj : j < seg.length
    · obtain ⟨r, h1, h2⟩ := (parts j hj).2 (by omega)
      rw [h1]
      intro q
      cases q
      omega
    · rw [List.getElem?_eq_none (by rw [rw1_len]; omega)]
      intro q
      cases q
  · obtain ⟨b, hb⟩ := pgOf_last hne
    rw [List.getLast?_eq_getElem?, pgOf_len] at hb
    have : ls.length - 1 = S'.reverse.flatten.length + (seg.length - 1) := by omega
    rw [this, hRj]
    unfold rw1
    rw [List.getElem?_map, hb]
    rfl
  · cases seg with
    | nil => exact absurd rfl hne
    | cons x s =>
      have e1 : ls = (S'.reverse.flatten ++ [x]) ++ s ++ [] := by rw [← fl]; simp
      have := freeL_none e1 (cut_none hc)
      rw [List.length_append, List.length_singleton] at this
      rw [ell, List.length_cons]
      have e2 : S'.reverse.flatten.length + (s.length + 1) = S'.reverse.flatten.length + 1 + s.length := by omega
      rw [e2]
      exact this
  · obtain ⟨e, ha, x, b', eb, hx, hall⟩ := cut_spec hc
    have hb0 : 0 ≤ lastRow b := lastRow_nonneg fun y hy => hn y (by rw [e]; exact List.mem_append_right _ hy)
    have hbl : 1 ≤ b.length := by rw [eb]; simp
    have hal : 1 ≤ a.length := List.length_pos_iff.mpr ha
    have esl : seg.length = a.length + b.length := by rw [e, List.length_append]
    have hlr2 : lastRow seg = lastRow a + x.sp + 1 + lastRow b := by rw [e, eb]; exact lastRow_append ha x b'
    have hx0 : 0 ≤ x.sp := hn x (by rw [e, eb]; simp)
    have erw : rw1 seg = rw1 a ++ (rw1 b).map (· + (lastRow a + x.sp + 1)) := by
      rw [e, eb]
      unfold rw1
      rw [pgOf_parted ha]
      simp [List.map_map, Function.comp_def]
    have hRb : ∀ k, (rowsOf (seg :: S'))[S'.reverse.flatten.length + a.length + k]? = ((rw1 b)[k]?).map (· + (lastRow a + x.sp + 1)) := fun k => by
      rw [Nat.add_assoc, hRj, erw, List.getElem?_append_right (by rw [rw1_len]; omega), rw1_len, List.getElem?_map]
      congr 2
      omega
    have hbn : ∀ l ∈ b, 0 ≤ l.sp := fun y hy => hn y (by rw [e]; exact List.mem_append_right _ hy)
    refine ⟨?_, ?_, hb0, by omega, hal, hbl, fun k hk r hr => ?_, ?_⟩
    · cases a with
      | nil => exact absurd rfl ha
      | cons y a =>
        have e1 : ls = (S'.reverse.flatten ++ [y]) ++ a ++ (x :: b') ++ [] := by rw [← fl, e, eb]; simp
        have := freeL_some e1 hx hall
        rw [List.length_append, List.length_singleton] at this
        have e2 : ls.length = S'.reverse.flatten.length + 1 + a.length + (b'.length + 1) := by rw [e1]; simp; omega
        rw [e2, this, List.length_cons]
        congr 1
        omega
    · have := hRb 0
      rw [Nat.add_zero] at this
      rw [this, eb]
      show Option.some (0 + (lastRow a + x.sp + 1)) = _
      rw [← eb]
      congr 1
      omega
    · obtain ⟨j, rfl⟩ : ∃ j, k = S'.reverse.flatten.length + a.length + j := ⟨k - (S'.reverse.flatten.length + a.length), by omega⟩
      rw [hRb] at hr
      obtain ⟨z, hz, rfl⟩ := Option.map_eq_some_iff.mp hr
      have hj : j < b.length := by
        have := (List.getElem?_eq_some_iff.mp hz).1
        rw [rw1_len] at this
        exact this
      have e2 : b = b.take j ++ b[j] :: b.drop (j + 1) := by rw [List.getElem_cons_drop, List.take_append_drop]
      have hl : (b.take j).length = j := by rw [List.length_take]; omega
      obtain ⟨q0, q1⟩ := rw1_at e2 hbn
      by_cases h : j = 0
      · subst h
        rw [q0 (by simpa using hl)] at hz
        cases hz
        omega
      · obtain ⟨u1, _, u3, _⟩ := q1 (fun q => by rw [q] at hl; simp at hl; omega)
        rw [hl, hz] at u1
        cases u1
        omega
    · have : S'.reverse.flatten.length + a.length - 1 = S'.reverse.flatten.length + (a.length - 1) := by omega
      rw [this, hRj, erw, List.getElem?_append_left (by rw [rw1_len]; omega)]
      obtain ⟨bb, hbb⟩ := pgOf_last ha
      rw [List.getLast?_eq_getElem?, pgOf_len] at hbb
      refine ⟨lastRow a, ?_, by omega⟩
      unfold rw1
      rw [List.getElem?_map, hbb]
      rfl
/-! ### the standing, just so -/
def Excl (L : Int) (t : LS) (q : SB) : Prop := t.du = false → q.h ≠ 0 → ∀ seg S', runS L t.ls = seg :: S' → ¬ (lastRow seg + 1 = L ∧ (t.kp = false ∨ cut seg = none))
theorem excl_step {L : Int} (hL : 0 < L) {t : LS} {q : SB} (R : Rel L t q) (X : Excl L t q) {b : Bl} (h0 : 0 ≤ b.s) : Excl L (stepB t b) (blockP L q b) := by
  unfold blockP stepB Excl
  by_cases hc : b.c = 0
  · have e : blLines b.c b.s t.kp (t.du || b.g) b.c = [] := by rw [hc]; rfl
    rw [e]
    simp only [hc, if_true, List.append_nil]
    unfold due0
    cases hg : b.g with
    | true =>
      simp only [if_true, Bool.or_true]
      intro h
      cases h
    | false =>
      simp only [Bool.false_eq_true, if_false, Bool.or_false]
      exact X
  · simp only [hc, if_false]
    obtain ⟨n, hn⟩ : ∃ n, b.c = n + 1 := ⟨b.c - 1, by omega⟩
    have key := lines_ok hL R h0 b.g b.c n
    rw [← hn] at key
    obtain ⟨nn, ex⟩ := key
    revert ex
    generalize runP L b.c b.s (due0 q b.g).kd ⟨(due0 q b.g).h, (due0 q b.g).t, (due0 q b.g).lo, (due0 q b.g).rows⟩ b.c = p
    intro ex _ hh seg S' hS
    obtain ⟨seg2, S2, hS2, hne, h1, h2, h3, h4⟩ := ex
    rw [hS] at hS2
    cases hS2
    unfold endP at hh
    split at hh
    · exact absurd rfl hh
    · rename_i hx
      rintro ⟨z1, z2⟩
      refine hx ⟨by omega, ?_⟩
      rcases z2 with z2 | z2
      · exact .inl z2
      · right
        rw [h2]
        unfold tailOf
        rw [z2]
theorem pageOf_excl {L : Int} (hL : 0 < L) (bs : List Bl) (h : ∀ b ∈ bs, 0 ≤ b.s) : Excl L (linesOf bs) (pageOf L bs) := by
  rw [← List.reverse_reverse bs] at h ⊢
  generalize bs.reverse = r at h
  induction r with
  | nil => intro h; cases h
  | cons b r ih =>
    rw [List.reverse_cons] at h ⊢
    rw [linesOf_snoc, pageOf_snoc]
    exact excl_step hL (pageOf_rel hL _ fun y hy => h y (List.mem_append_left _ hy)) (ih fun y hy => h y (List.mem_append_left _ hy)) (h b (by simp))
/-! ### what is settled stays -/
def preS (rows : List Int) (lo : Int) : List Int := rows.take (rows.length - lo.toNat)
theorem pre_line {L : Int} {p : PS'} {s : Int} {b : Bool} (h0 : 0 ≤ s) (hlo : 0 ≤ p.lo) (hle : p.lo ≤ (p.rows.length : Int)) : (preS (lineP L p s b).rows (lineP L p s b).lo).take (preS p.rows p.lo).length = preS p.rows p.lo := by
  have hn : (lineP L p s b).lo ≤ p.lo + 1 := by
    unfold lineP nextLine lng
    dsimp only
    repeat' split
    all_goals (try (dsimp only at *))
    all_goals (try omega)
  have e1 : (lineP L p s b).rows.take (p.rows.length - p.lo.toNat) = p.rows.take (p.rows.length - p.lo.toNat) := by
    unfold lineP
    dsimp only
    split
    · unfold overR
      rw [List.append_assoc, List.take_append_of_le_length (by rw [List.length_take]; omega), List.take_take]
      congr 1
      omega
    · rw [List.take_append_of_le_length (by omega)]
  have e2 : (lineP L p s b).rows.length = p.rows.length + 1 := by
    unfold lineP
    dsimp only
    rw [List.length_append, List.length_singleton]
    split
    · unfold overR
      rw [List.length_append, List.length_map, List.length_take, List.length_drop]
      omega
    · rfl
  unfold preS
  rw [List.take_take, e2, List.length_take]
  have e3 : min (min (p.rows.length - p.lo.toNat) p.rows.length) (p.rows.length + 1 - (lineP L p s b).lo.toNat) = p.rows.length - p.lo.toNat := by omega
  rw [e3, e1]
end Pa
namespace Pa
/-! ### blocks of one line that leave a given standing -/
def oB (k : Bool) : Bl := ⟨1, 0, k, false⟩
def leadB (kd : Bool) (h t : Nat) : List Bl := if kd = false then List.replicate h (oB false) else if t = 0 then List.replicate h (oB true) else List.replicate (h - t) (oB false) ++ List.replicate t (oB true)
theorem block_one (L : Int) (q : SB) (k : Bool) : blockP L q (oB k) = endP L (lineP L ⟨q.h, q.t, q.lo, q.rows⟩ 0 q.kd) k := rfl
theorem lead_open {L : Int} (n : Nat) (h : (n : Int) < L) : ∃ rows, pageOf L (List.replicate n (oB false)) = ⟨false, n, 0, 0, rows⟩ := by
  induction n with
  | zero => exact ⟨[], rfl⟩
  | succ n ih =>
    obtain ⟨rows, e⟩ := ih (by omega)
    rw [List.replicate_succ', pageOf_snoc, e, block_one]
    unfold lineP nextLine
    dsimp only
    by_cases h0 : n = 0
    · subst h0
      simp only [Int.natCast_zero, Int.lt_irrefl, gt_iff_lt, false_and, if_false, true_or, if_true]
      unfold endP
      rw [if_neg (by dsimp only; omega)]
      exact ⟨_, rfl⟩
    · rw [if_pos ⟨by omega, by omega⟩]
      simp only [if_true]
      unfold endP
      rw [if_neg (by dsimp only; omega)]
      refine ⟨(if false = true then overR rows 0 ((n : Int) - 0) else rows) ++ [(n : Int) + 0 + 1 - 1], ?_⟩
      simp
theorem lead_kept0 {L : Int} (n : Nat) (h : (n : Int) < L) (hn : 1 ≤ n) : ∃ rows, pageOf L (List.replicate n (oB true)) = ⟨true, n, 0, 0, rows⟩ := by
  induction n with
  | zero => omega
  | succ n ih =>
    by_cases h0 : n = 0
    · subst h0
      refine ⟨[0], ?_⟩
      show blockP L ⟨false, 0, 0, 0, []⟩ (oB true) = _
      rw [block_one]
      unfold lineP nextLine
      dsimp only
      simp only [Int.lt_irrefl, gt_iff_lt, false_and, if_false, true_or, if_true]
      unfold endP
      rw [if_neg (by dsimp only; omega)]
      rfl
    · obtain ⟨rows, e⟩ := ih (by omega) (by omega)
      rw [List.replicate_succ', pageOf_snoc, e, block_one]
      unfold lineP nextLine lng
      dsimp only
      rw [if_pos ⟨by omega, by omega⟩]
      simp only [Bool.true_eq_false, if_false, Int.lt_irrefl, gt_iff_lt]
      unfold endP
      rw [if_neg (by dsimp only; omega)]
      refine ⟨rows ++ [(n : Int) + 0 + 1 - 1], ?_⟩
      simp
theorem pageOf_app (L : Int) (a b : List Bl) : pageOf L (a ++ b) = b.foldl (blockP L) (pageOf L a) := by
  unfold pageOf
  rw [List.foldl_append]
theorem lead_kept {L : Int} (m t : Nat) (hm : 1 ≤ m) (h : ((m + t : Nat) : Int) ≤ L) (ht : 1 ≤ t) : ∃ rows, pageOf L (List.replicate m (oB false) ++ List.replicate t (oB true)) = ⟨true, ((m + t : Nat) : Int), t, t, rows⟩ := by
  obtain ⟨r0, e0⟩ := lead_open (L := L) m (by omega)
  induction t with
  | zero => omega
  | succ t ih =>
    rw [List.replicate_succ', ← List.append_assoc, pageOf_snoc, block_one]
    by_cases h0 : t = 0
    · subst h0
      rw [List.replicate_zero, List.append_nil, e0]
      unfold lineP nextLine
      dsimp only
      rw [if_pos ⟨by omega, by omega⟩]
      simp only [if_true]
      unfold endP
      rw [if_neg (by dsimp only; simp)]
      refine ⟨r0 ++ [(m : Int) + 0 + 1 - 1], ?_⟩
      simp
    · obtain ⟨rows, e⟩ := ih (by omega) (by omega)
      rw [e]
      unfold lineP nextLine lng
      dsimp only
      rw [if_pos ⟨by omega, by omega⟩]
      have h1 : (0 : Int) < (t : Int) := by omega
      simp only [Bool.true_eq_false, if_false, gt_iff_lt, h1, if_true]
      have h2 : (1 : Int) < (t : Int) + 0 + 1 := by omega
      unfold endP
      rw [if_neg (by dsimp only; simp; omega)]
      refine ⟨rows ++ [((m + t : Nat) : Int) + 0 + 1 - 1], ?_⟩
      simp [h2]
      omega
end Pa
namespace Pa
/-! ### a Page that goes on behind others: what it holds, against the Page that set all -/
structure RP where
  h : Int
  t : Int
  lo : Int
  rows : List Int
  w : Option Bool
def settleW (w : Option Bool) : Option Bool := if w = none then some false else w
def overW (w : Option Bool) : Option Bool := if w = none then some true else w
def lineR (L : Int) (p : RP) (s : Int) (b : Bool) : RP :=
  let n := nextLine L p.h p.t s b
  ⟨n.h, n.t, if n.t > 1 then p.lo + 1 else n.t, (if n.ov = true then overR p.rows p.lo (p.h - p.t) else p.rows) ++ [n.h - 1],
    if n.t > 1 then (if n.ov = true then overW p.w else p.w) else settleW (if n.ov = true then overW p.w else p.w)⟩
/-- A: the rows ahead when it began, the last c of them pending; d: by how many rows they'd go up -/
structure Sim (A : List Int) (c : Nat) (d : Int) (p : PS') (r : RP) : Prop where
  h : r.h = p.h
  t : r.t = p.t
  t0 : 0 ≤ p.t
  none : r.w = none → p.rows = A ++ r.rows ∧ r.lo = (r.rows.length : Int) ∧ p.lo = ((c + r.rows.length : Nat) : Int) ∧ p.h - p.t = d ∧ 0 < p.t
  stay : r.w = some false → p.rows = A ++ r.rows ∧ r.lo = p.lo ∧ 0 ≤ p.lo ∧ p.lo ≤ (r.rows.length : Int)
  over : r.w = some true → p.rows = overR A c d ++ r.rows ∧ r.lo = p.lo ∧ 0 ≤ p.lo ∧ p.lo ≤ (r.rows.length : Int)
theorem overR_app {A B : List Int} {c : Nat} (hc : c ≤ A.length) (d : Int) : overR (A ++ B) ((c + B.length : Nat) : Int) d = overR A c d ++ overR B (B.length : Int) d := by
  unfold overR
  have e1 : (((c + B.length : Nat) : Int)).toNat = c + B.length := Int.toNat_natCast _
  have e2 : ((c : Nat) : Int).toNat = c := Int.toNat_natCast _
  have e3 : ((B.length : Nat) : Int).toNat = B.length := Int.toNat_natCast _
  rw [e1, e2, e3, List.length_append, Nat.sub_self, List.take_zero, List.drop_zero, List.nil_append]
  have e4 : A.length + B.length - (c + B.length) = A.length - c := by omega
  rw [e4, List.take_append_of_le_length (by omega), List.drop_append_of_le_length (by omega), List.map_append, List.append_assoc]
theorem overR_tail {A B : List Int} {lo : Int} (h0 : 0 ≤ lo) (h1 : lo ≤ (B.length : Int)) (d : Int) : overR (A ++ B) lo d = A ++ overR B lo d := by
  unfold overR
  have e4 : (A ++ B).length - lo.toNat = A.length + (B.length - lo.toNat) := by rw [List.length_append]; omega
  rw [e4, List.take_length_add_append, List.drop_length_add_append, List.append_assoc]
theorem nl_facts {L h t s : Int} {b : Bool} (h0 : 0 ≤ s) (ht : 0 ≤ t) : 0 ≤ (nextLine L h t s b).t ∧ ((nextLine L h t s b).ov = true → (nextLine L h t s b).t = 0) ∧
    ((nextLine L h t s b).t > 1 → (nextLine L h t s b).ov = false ∧ t > 0 ∧ (nextLine L h t s b).h - (nextLine L h t s b).t = h - t) := by
  unfold nextLine lng
  split
  · split
    · refine ⟨by dsimp only; omega, (fun z => by cases z), fun z => ?_⟩
      dsimp only at z
      omega
    · dsimp only
      split
      · exact ⟨by omega, (fun z => by cases z), fun z => ⟨rfl, by omega, by omega⟩⟩
      · exact ⟨by omega, (fun z => by cases z), fun z => by omega⟩
  · split
    · exact ⟨by dsimp only; omega, (fun z => by cases z), fun z => by dsimp only at z; omega⟩
    · exact ⟨by dsimp only; omega, (fun z => rfl), fun z => by dsimp only at z; omega⟩
theorem sim_line {A : List Int} {c : Nat} {d L : Int} {p : PS'} {r : RP} (hc : c ≤ A.length) (S : Sim A c d p r) {s : Int} (h0 : 0 ≤ s) (b : Bool) : Sim A c d (lineP L p s b) (lineR L r s b) := by
  obtain ⟨f1, f2, f3⟩ := nl_facts (L := L) (h := p.h) (t := p.t) (s := s) (b := b) h0 S.t0
  unfold lineP lineR
  rw [S.h, S.t]
  have Sn := S.none
  have Ss := S.stay
  have So := S.over
  generalize nextLine L p.h p.t s b = n at f1 f2 f3
  obtain ⟨nh, nt, ov⟩ := n
  dsimp only at f1 f2 f3 ⊢
  cases hw : r.w with
  | none =>
    obtain ⟨a1, a2, a3, a4, a5⟩ := Sn hw
    by_cases h1 : nt > 1
    · obtain ⟨g1, g2, g3⟩ := f3 h1
      refine ⟨rfl, rfl, f1, fun _ => ?_, fun z => ?_, fun z => ?_⟩
      · dsimp only
        rw [if_pos h1, if_neg (by rw [g1]; decide), if_neg (by rw [g1]; decide), if_pos h1, a1, a2, a3, List.append_assoc, List.length_append, List.length_singleton]
        exact ⟨rfl, by omega, by omega, by omega, by omega⟩
      · dsimp only at z
        rw [if_pos h1, if_neg (by rw [g1]; decide)] at z
        cases z
      · dsimp only at z
        rw [if_pos h1, if_neg (by rw [g1]; decide)] at z
        cases z
    · cases ov with
      | true =>
        have ht := f2 rfl
        refine ⟨rfl, rfl, f1, fun z => ?_, fun z => ?_, fun _ => ?_⟩
        · dsimp only at z
          rw [if_neg h1] at z
          simp [overW, settleW] at z
        · dsimp only at z
          rw [if_neg h1] at z
          simp [overW, settleW] at z
        · dsimp only
          rw [if_neg h1, if_neg h1, if_pos rfl, if_pos rfl, a1, a2, a3, a4, overR_app hc, List.append_assoc, ht]
          exact ⟨rfl, rfl, Int.le_refl _, Int.natCast_nonneg _⟩
      | false =>
        refine ⟨rfl, rfl, f1, fun z => ?_, fun _ => ?_, fun z => ?_⟩
        · dsimp only at z
          rw [if_neg h1] at z
          simp [settleW] at z
        · dsimp only
          rw [if_neg h1, if_neg h1, if_neg (by decide), if_neg (by decide), a1, List.append_assoc, List.length_append, List.length_singleton]
          exact ⟨rfl, rfl, f1, by omega⟩
        · dsimp only at z
          rw [if_neg h1] at z
          simp [settleW] at z
  | some v =>
    have hr : ∃ X, p.rows = X ++ r.rows ∧ r.lo = p.lo ∧ 0 ≤ p.lo ∧ p.lo ≤ (r.rows.length : Int) ∧ (v = false → X = A) ∧ (v = true → X = overR A c d) := by
      cases v with
      | false =>
        obtain ⟨a1, a2, a3, a4⟩ := Ss hw
        exact ⟨A, a1, a2, a3, a4, (fun _ => rfl), (fun z => by cases z)⟩
      | true =>
        obtain ⟨a1, a2, a3, a4⟩ := So hw
        exact ⟨_, a1, a2, a3, a4, (fun z => by cases z), (fun _ => rfl)⟩
    obtain ⟨X, a1, a2, a3, a4, x1, x2⟩ := hr
    have ew : (if nt > 1 then (if ov = true then overW (some v) else some v) else settleW (if ov = true then overW (some v) else some v)) = some v := by
      unfold settleW overW
      split <;> split <;> simp
    have er : (if ov = true then overR p.rows p.lo (p.h - p.t) else p.rows) ++ [nh - 1] = X ++ ((if ov = true then overR r.rows r.lo (p.h - p.t) else r.rows) ++ [nh - 1]) := by
      rw [← List.append_assoc]
      congr 1
      split
      · rw [a1, a2, overR_tail a3 a4]
      · exact a1
    have el : ((if ov = true then overR r.rows r.lo (p.h - p.t) else r.rows) ++ [nh - 1]).length = r.rows.length + 1 := by
      rw [List.length_append, List.length_singleton]
      split
      · unfold overR
        rw [List.length_append, List.length_map, List.length_take, List.length_drop]
        omega
      · rfl
    have all : (if ov = true then overR p.rows p.lo (p.h - p.t) else p.rows) ++ [nh - 1] = X ++ ((if ov = true then overR r.rows r.lo (p.h - p.t) else r.rows) ++ [nh - 1]) ∧ (if nt > 1 then r.lo + 1 else nt) = (if nt > 1 then p.lo + 1 else nt) ∧
        0 ≤ (if nt > 1 then p.lo + 1 else nt) ∧ (if nt > 1 then p.lo + 1 else nt) ≤ (((if ov = true then overR r.rows r.lo (p.h - p.t) else r.rows) ++ [nh - 1]).length : Int) := by
      refine ⟨er, by rw [a2], ?_, ?_⟩
      · split <;> omega
      · rw [el]
        split <;> omega
    refine ⟨rfl, rfl, f1, fun z => ?_, fun z => ?_, fun z => ?_⟩
    · dsimp only at z
      rw [ew] at z
      cases z
    · dsimp only at z
      rw [ew] at z
      have hv := Option.some.inj z
      rw [x1 hv] at all
      exact all
    · dsimp only at z
      rw [ew] at z
      have hv := Option.some.inj z
      rw [x2 hv] at all
      exact all
end Pa
namespace Pa
/-! ### a Page that goes on behind others, block by block -/
structure RB where
  kd : Bool
  h : Int
  t : Int
  lo : Int
  rows : List Int
  w : Option Bool
def runR (L : Int) (c : Nat) (s : Int) (kd : Bool) (p : RP) : Nat → RP
  | 0 => p
  | n + 1 => lineR L (runR L c s kd p n) (if n = 0 then s else 0) (if n = 0 then kd else decide ((n : Int) = 1 ∨ (n : Int) = (c : Int) - 1))
def dueR (q : RB) (g : Bool) : RB := if g = true then ⟨false, 0, 0, 0, q.rows, settleW q.w⟩ else q
def endR (L : Int) (p : RP) (k : Bool) : RB :=
  if p.h = L ∧ (k = false ∨ p.t = 0) then ⟨false, 0, 0, 0, p.rows, settleW p.w⟩ else if k = true then ⟨true, p.h, p.t, if p.t = 0 then 0 else p.lo, p.rows, if p.t = 0 then settleW p.w else p.w⟩ else ⟨false, p.h, 0, 0, p.rows, settleW p.w⟩
def blockR (L : Int) (q : RB) (b : Bl) : RB :=
  let q0 := dueR q b.g
  if b.c = 0 then q0 else endR L (runR L b.c b.s q0.kd ⟨q0.h, q0.t, q0.lo, q0.rows, q0.w⟩ b.c) b.k
structure SimB (A : List Int) (c : Nat) (d : Int) (q : SB) (r : RB) : Prop where
  kd : r.kd = q.kd
  sim : Sim A c d ⟨q.h, q.t, q.lo, q.rows⟩ ⟨r.h, r.t, r.lo, r.rows, r.w⟩
theorem Sim.lo {A : List Int} {c : Nat} {d : Int} {p : PS'} {r : RP} (S : Sim A c d p r) : 0 ≤ r.lo ∧ r.lo ≤ (r.rows.length : Int) := by
  cases h : r.w with
  | none =>
    obtain ⟨_, e, _⟩ := S.none h
    rw [e]
    exact ⟨Int.natCast_nonneg _, Int.le_refl _⟩
  | some v =>
    cases v with
    | false =>
      obtain ⟨_, e, a, b⟩ := S.stay h
      rw [e]
      exact ⟨a, b⟩
    | true =>
      obtain ⟨_, e, a, b⟩ := S.over h
      rw [e]
      exact ⟨a, b⟩
theorem sim_settle {A : List Int} {c : Nat} {d : Int} {p : PS'} {r : RP} (S : Sim A c d p r) (h' : Int) : Sim A c d ⟨h', 0, 0, p.rows⟩ ⟨h', 0, 0, r.rows, settleW r.w⟩ := by
  refine ⟨rfl, rfl, Int.le_refl _, fun z => ?_, fun z => ?_, fun z => ?_⟩
  · dsimp only at z
    unfold settleW at z
    split at z
    · cases z
    · rename_i n
      exact absurd z n
  · dsimp only at z ⊢
    refine ⟨?_, rfl, Int.le_refl _, Int.natCast_nonneg _⟩
    cases hw : r.w with
    | none => exact (S.none hw).1
    | some v =>
      cases v with
      | false => exact (S.stay hw).1
      | true => rw [hw] at z; simp [settleW] at z
  · dsimp only at z ⊢
    refine ⟨?_, rfl, Int.le_refl _, Int.natCast_nonneg _⟩
    cases hw : r.w with
    | none => rw [hw] at z; simp [settleW] at z
    | some v =>
      cases v with
      | false => rw [hw] at z; simp [settleW] at z
      | true => exact (S.over hw).1
theorem sim_due {A : List Int} {c : Nat} {d : Int} {q : SB} {r : RB} (S : SimB A c d q r) (g : Bool) : SimB A c d (due0 q g) (dueR r g) := by
  unfold due0 dueR
  cases g with
  | false => exact S
  | true => exact ⟨rfl, sim_settle S.sim 0⟩
theorem sim_run {A : List Int} {c : Nat} {d L : Int} (hc : c ≤ A.length) {p : PS'} {r : RP} (S : Sim A c d p r) {s : Int} (h0 : 0 ≤ s) (m : Nat) (kd : Bool) : ∀ n, Sim A c d (runP L m s kd p n) (runR L m s kd r n)
  | 0 => S
  | n + 1 => by
    refine sim_line hc (sim_run hc S h0 m kd n) ?_ _
    split
    · exact h0
    · exact Int.le_refl _
theorem sim_end {A : List Int} {c : Nat} {d L : Int} {p : PS'} {r : RP} (S : Sim A c d p r) (k : Bool) : SimB A c d (endP L p k) (endR L r k) := by
  have h1 := S.h
  have h2 := S.t
  unfold endP endR
  rw [h1, h2]
  split
  · exact ⟨rfl, sim_settle S 0⟩
  · split
    · refine ⟨rfl, ?_⟩
      dsimp only
      by_cases ht : p.t = 0
      · have := sim_settle S p.h
        simp only [ht, if_true]
        exact this
      · simp only [ht, if_false]
        exact ⟨rfl, rfl, S.t0, S.none, S.stay, S.over⟩
    · exact ⟨rfl, sim_settle S p.h⟩
theorem sim_block {A : List Int} {c : Nat} {d L : Int} (hc : c ≤ A.length) {q : SB} {r : RB} (S : SimB A c d q r) {b : Bl} (h0 : 0 ≤ b.s) : SimB A c d (blockP L q b) (blockR L r b) := by
  have D := sim_due S b.g
  unfold blockP blockR
  dsimp only
  split
  · exact D
  · rw [D.kd]
    exact sim_end (sim_run hc D.sim h0 b.c _ b.c) b.k
theorem next_h {L h t s : Int} {b : Bool} (h0 : 0 ≤ s) (ht : 0 ≤ t) : 1 ≤ (nextLine L h t s b).h := by
  unfold nextLine lng
  repeat' split
  all_goals (try (dsimp only at *))
  all_goals (try omega)
theorem runR_h {A : List Int} {c : Nat} {d L : Int} (hc : c ≤ A.length) {p : PS'} {r : RP} (S : Sim A c d p r) {s : Int} (h0 : 0 ≤ s) (m : Nat) (kd : Bool) : ∀ n, n ≠ 0 → 1 ≤ (runR L m s kd r n).h
  | 0, h => absurd rfl h
  | n + 1, _ => by
    have S2 := sim_run (L := L) hc S h0 m kd n
    have ht : 0 ≤ (runR L m s kd r n).t := by rw [S2.t]; exact S2.t0
    unfold runR lineR
    dsimp only
    refine next_h ?_ ht
    split
    · exact h0
    · exact Int.le_refl _
theorem lineR_len (L : Int) (p : RP) (s : Int) (b : Bool) : (lineR L p s b).rows.length = p.rows.length + 1 := by
  unfold lineR overR
  dsimp only
  rw [List.length_append, List.length_singleton]
  split
  · rw [List.length_append, List.length_map, List.length_take, List.length_drop]
    omega
  · rfl
theorem runR_len (L : Int) (c : Nat) (s : Int) (kd : Bool) (p : RP) : ∀ n, (runR L c s kd p n).rows.length = p.rows.length + n
  | 0 => rfl
  | n + 1 => by
    show (lineR L _ _ _).rows.length = _
    rw [lineR_len, runR_len L c s kd p n]
    omega
end Pa
namespace Pa
/-! ### what is told of a Page that goes on, against the Page that set all -/
theorem w_set (v : Bool) : settleW (some v) = some v := rfl
theorem w_ovr (v : Bool) : overW (some v) = some v := rfl
theorem w_line {L : Int} {p : RP} {v : Bool} (h : p.w = some v) (s : Int) (b : Bool) : (lineR L p s b).w = some v := by
  unfold lineR
  rw [h]
  dsimp only
  rw [w_ovr]
  split <;> split <;> rfl
theorem w_run {L : Int} {m : Nat} {s : Int} {kd : Bool} {p : RP} {v : Bool} (h : p.w = some v) : ∀ n, (runR L m s kd p n).w = some v
  | 0 => h
  | n + 1 => w_line (w_run h n) _ _
theorem w_block {L : Int} {q : RB} {v : Bool} (h : q.w = some v) (b : Bl) : (blockR L q b).w = some v := by
  have hd : (dueR q b.g).w = some v := by
    unfold dueR
    split
    · show settleW q.w = some v
      rw [h, w_set]
    · exact h
  unfold blockR
  dsimp only
  split
  · exact hd
  · have hr := w_run (L := L) (m := b.c) (s := b.s) (kd := (dueR q b.g).kd) (p := ⟨(dueR q b.g).h, (dueR q b.g).t, (dueR q b.g).lo, (dueR q b.g).rows, (dueR q b.g).w⟩) hd b.c
    unfold endR
    rw [hr]
    repeat' split
    all_goals rfl
def pageR (L : Int) (r0 : RB) (bs : List Bl) : RB := bs.foldl (blockR L) r0
theorem pageR_snoc (L : Int) (r0 : RB) (bs : List Bl) (b : Bl) : pageR L r0 (bs ++ [b]) = blockR L (pageR L r0 bs) b := by
  unfold pageR
  rw [List.foldl_append]
  rfl
theorem pageR_w {L : Int} {r0 : RB} {v : Bool} (h : r0.w = some v) (bs : List Bl) : (pageR L r0 bs).w = some v := by
  unfold pageR
  induction bs generalizing r0 with
  | nil => exact h
  | cons b bs ih => exact ih (w_block h b)
theorem sim_page {A : List Int} {c : Nat} {d L : Int} (hc : c ≤ A.length) {lead : List Bl} {r0 : RB} (S : SimB A c d (pageOf L lead) r0) (bs : List Bl) (h : ∀ b ∈ bs, 0 ≤ b.s) : SimB A c d (pageOf L (lead ++ bs)) (pageR L r0 bs) := by
  rw [pageOf_app]
  unfold pageR
  generalize pageOf L lead = q at S
  induction bs generalizing q r0 with
  | nil => exact S
  | cons b bs ih => exact ih (fun y hy => h y (List.mem_cons_of_mem _ hy)) _ (sim_block hc S (h b List.mem_cons_self))
/-- where a Page begins that goes on behind this standing -/
def res0 (kd : Bool) (h t : Int) : RB := ⟨kd, h, t, 0, [], if t > 0 then none else some false⟩
theorem sim0 {kd : Bool} {h : Int} {t : Nat} {A : List Int} : SimB A t (h - t) ⟨kd, h, t, t, A⟩ (res0 kd h t) := by
  refine ⟨rfl, rfl, rfl, Int.natCast_nonneg _, fun z => ?_, fun z => ?_, fun z => ?_⟩
  · dsimp only [res0] at z ⊢
    split at z
    · rename_i ht
      exact ⟨by simp, rfl, rfl, rfl, ht⟩
    · cases z
  · dsimp only [res0] at z ⊢
    split at z
    · cases z
    · rename_i ht
      exact ⟨by simp, by omega, by omega, by simp; omega⟩
  · dsimp only [res0] at z
    split at z <;> cases z
structure ResM (A : List Int) (c : Nat) (P : SB) (r : RB) : Prop where
  kd : r.kd = P.kd
  h : r.h = P.h
  t : r.t = P.t
  len : P.rows.length = A.length + r.rows.length
  rows : P.rows.drop A.length = r.rows
  lo0 : 0 ≤ P.lo
  lo : r.lo = min (r.rows.length : Int) P.lo
  zero : c = 0 → r.w = some false
  over : c ≠ 0 → r.w = some true → ∃ x y, A[A.length - c]? = some x ∧ P.rows[A.length - c]? = some y ∧ x ≠ y
  same : c ≠ 0 → r.w ≠ some true → P.rows[A.length - c]? = A[A.length - c]? ∧ (r.w = none ↔ (c : Int) + (P.rows.length : Int) - (A.length : Int) ≤ P.lo)
theorem res_ok {A : List Int} {c : Nat} {d : Int} {P : SB} {r : RB} (hc : c ≤ A.length) (hd : c ≠ 0 → 0 < d) (S : SimB A c d P r) (h0 : c = 0 → r.w = some false) : ResM A c P r := by
  have key : ∃ X, P.rows = X ++ r.rows ∧ X.length = A.length ∧ 0 ≤ P.lo ∧ r.lo = min (r.rows.length : Int) P.lo := by
    cases hw : r.w with
    | none =>
      obtain ⟨a1, a2, a3, _, _⟩ := S.sim.none hw
      dsimp only at a1 a2 a3
      exact ⟨A, a1, rfl, by omega, by omega⟩
    | some v =>
      cases v with
      | false =>
        obtain ⟨a1, a2, a3, a4⟩ := S.sim.stay hw
        dsimp only at a1 a2 a3 a4
        exact ⟨A, a1, rfl, a3, by omega⟩
      | true =>
        obtain ⟨a1, a2, a3, a4⟩ := S.sim.over hw
        dsimp only at a1 a2 a3 a4
        refine ⟨_, a1, ?_, a3, by omega⟩
        unfold overR
        rw [List.length_append, List.length_map, List.length_take, List.length_drop]
        omega
  obtain ⟨X, k1, k2, k3, k4⟩ := key
  refine ⟨S.kd, S.sim.h, S.sim.t, by rw [k1, List.length_append, k2], by rw [k1, ← k2, List.drop_left], k3, k4, h0, fun hn hw => ?_, fun hn hw => ?_⟩
  · obtain ⟨a1, _, _, _⟩ := S.sim.over hw
    dsimp only at a1
    have hx : A.length - c < A.length := by omega
    have e1 : A[A.length - c]? = some A[A.length - c] := List.getElem?_eq_getElem hx
    refine ⟨A[A.length - c], A[A.length - c] - d, e1, ?_, by have := hd hn; omega⟩
    rw [a1]
    unfold overR
    rw [Int.toNat_natCast, List.append_assoc, List.getElem?_append_right (by rw [List.length_take]; omega), List.length_take, List.getElem?_append_left (by rw [List.length_map, List.length_drop]; omega), List.getElem?_map, List.getElem?_drop]
    have e2 : A.length - c + (A.length - c - min (A.length - c) A.length) = A.length - c := by omega
    rw [e2, e1]
    rfl
  · cases hw2 : r.w with
    | none =>
      obtain ⟨a1, a2, a3, _, _⟩ := S.sim.none hw2
      dsimp only at a1 a2 a3
      refine ⟨by rw [a1, List.getElem?_append_left (by omega)], fun _ => ?_, fun _ => rfl⟩
      rw [a1, List.length_append]
      omega
    | some v =>
      cases v with
      | true => exact absurd hw2 hw
      | false =>
        obtain ⟨a1, a2, a3, a4⟩ := S.sim.stay hw2
        dsimp only at a1 a2 a3 a4
        refine ⟨by rw [a1, List.getElem?_append_left (by omega)], (fun z => by cases z), fun z => ?_⟩
        rw [a1, List.length_append] at z
        omega
end Pa
namespace Pa
/-! ### heights and tails alone, and the class of a count -/
def stepHT (L : Int) (x : Int × Int) (s : Int) (b : Bool) : Int × Int := ((nextLine L x.1 x.2 s b).h, (nextLine L x.1 x.2 s b).t)
def runHT (L : Int) (c : Nat) (s : Int) (kd : Bool) (x : Int × Int) : Nat → Int × Int
  | 0 => x
  | n + 1 => stepHT L (runHT L c s kd x n) (if n = 0 then s else 0) (if n = 0 then kd else decide ((n : Int) = 1 ∨ (n : Int) = (c : Int) - 1))
theorem runP_ht (L : Int) (c : Nat) (s : Int) (kd : Bool) (p : PS') : ∀ n, ((runP L c s kd p n).h, (runP L c s kd p n).t) = runHT L c s kd (p.h, p.t) n
  | 0 => rfl
  | n + 1 => by
    unfold runHT
    rw [← runP_ht L c s kd p n]
    rfl
def cls (L c : Nat) : Nat := if c < 4 then c else 4 + (c - 4) % L
def stz (r : Nat) : Int × Int := ((r : Int) + 1, if r = 0 then 0 else 1)
def fIt (L : Int) : Nat → Int × Int → Int × Int
  | 0, x => x
  | n + 1, x => stepHT L (fIt L n x) 0 false
theorem f_any {L : Nat} (hL : 1 ≤ L) (x : Int × Int) : ∃ r, r < L ∧ stepHT (L : Int) x 0 false = stz r := by
  obtain ⟨h, t⟩ := x
  unfold stepHT nextLine
  dsimp only
  by_cases h1 : h > 0 ∧ h + 0 + 1 ≤ (L : Int)
  · rw [if_pos h1, if_pos rfl]
    refine ⟨h.toNat, by omega, ?_⟩
    unfold stz
    rw [if_neg (by omega)]
    ext1
    · dsimp only; omega
    · rfl
  · rw [if_neg h1, if_pos (.inl rfl)]
    exact ⟨0, by omega, rfl⟩
theorem f_st {L r : Nat} (hr : r < L) : stepHT (L : Int) (stz r) 0 false = stz ((r + 1) % L) := by
  unfold stepHT nextLine
  by_cases h1 : r + 1 < L
  · rw [if_pos (by unfold stz; dsimp only; omega), if_pos rfl, Nat.mod_eq_of_lt h1]
    unfold stz
    rw [if_neg (show ¬ r + 1 = 0 by omega)]
    ext1
    · dsimp only; omega
    · rfl
  · rw [if_neg (by unfold stz; dsimp only; omega), if_pos (.inl rfl)]
    have e : r + 1 = L := by omega
    rw [e, Nat.mod_self]
    rfl
theorem fIt_st {L r : Nat} (hr : r < L) : ∀ n, fIt (L : Int) n (stz r) = stz ((r + n) % L)
  | 0 => by rw [Nat.add_zero, Nat.mod_eq_of_lt hr]; rfl
  | n + 1 => by
    show stepHT (L : Int) (fIt (L : Int) n (stz r)) 0 false = _
    rw [fIt_st hr n, f_st (Nat.mod_lt _ (by omega))]
    congr 1
    rw [Nat.mod_add_mod, Nat.add_assoc]
theorem fIt_succ (L : Int) (n : Nat) (x : Int × Int) : fIt L (n + 1) x = fIt L n (stepHT L x 0 false) := by
  induction n with
  | zero => rfl
  | succ n ih =>
    show stepHT L (fIt L (n + 1) x) 0 false = stepHT L (fIt L n (stepHT L x 0 false)) 0 false
    rw [ih]
theorem fIt_mod {L : Nat} (hL : 1 ≤ L) (x : Int × Int) (a b : Nat) (h : a % L = b % L) : fIt (L : Int) (a + 1) x = fIt (L : Int) (b + 1) x := by
  rw [fIt_succ, fIt_succ]
  obtain ⟨r, hr, e⟩ := f_any hL x
  rw [e, fIt_st hr, fIt_st hr]
  congr 1
  rw [Nat.add_mod, h, ← Nat.add_mod]
def x2 (L : Int) (s : Int) (kd : Bool) (x : Int × Int) : Int × Int := stepHT L (stepHT L x s kd) 0 true
theorem run_mid {L : Int} {c : Nat} (s : Int) (kd : Bool) (x : Int × Int) (hc : 4 ≤ c) : ∀ m, m ≤ c - 3 → runHT L c s kd x (2 + m) = fIt L m (x2 L s kd x)
  | 0, _ => by
    show stepHT L (stepHT L x s kd) 0 (decide (((1 : Nat) : Int) = 1 ∨ ((1 : Nat) : Int) = (c : Int) - 1)) = _
    rw [decide_eq_true (.inl rfl)]
    rfl
  | m + 1, hm => by
    show stepHT L (runHT L c s kd x (2 + m)) (if 2 + m = 0 then s else 0) (if 2 + m = 0 then kd else decide (((2 + m : Nat) : Int) = 1 ∨ ((2 + m : Nat) : Int) = (c : Int) - 1)) = _
    rw [run_mid s kd x hc m (by omega), if_neg (by omega), if_neg (by omega), decide_eq_false (by omega)]
    rfl
theorem run_all {L : Int} {c : Nat} (s : Int) (kd : Bool) (x : Int × Int) (hc : 4 ≤ c) : runHT L c s kd x c = stepHT L (fIt L (c - 3) (x2 L s kd x)) 0 true := by
  obtain ⟨m, rfl⟩ : ∃ m, c = 2 + m + 1 := ⟨c - 3, by omega⟩
  show stepHT L (runHT L (2 + m + 1) s kd x (2 + m)) (if 2 + m = 0 then s else 0) (if 2 + m = 0 then kd else decide (((2 + m : Nat) : Int) = 1 ∨ ((2 + m : Nat) : Int) = ((2 + m + 1 : Nat) : Int) - 1)) = _
  rw [run_mid s kd x hc m (by omega), if_neg (by omega), if_neg (by omega), decide_eq_true (.inr (by omega))]
  have : 2 + m + 1 - 3 = m := by omega
  rw [this]
theorem run_cls {L : Nat} (hL : 1 ≤ L) (c : Nat) (s : Int) (kd : Bool) (x : Int × Int) : runHT L (cls L c) s kd x (cls L c) = runHT L c s kd x c := by
  unfold cls
  by_cases hc : c < 4
  · rw [if_pos hc]
  · rw [if_neg hc, run_all s kd x (by omega), run_all s kd x (by omega)]
    congr 1
    have e1 : 4 + (c - 4) % L - 3 = (c - 4) % L + 1 := by omega
    have e2 : c - 3 = (c - 4) + 1 := by omega
    rw [e1, e2]
    exact fIt_mod hL _ _ _ (Nat.mod_mod _ _)
end Pa
set_option maxRecDepth 100000
set_option maxHeartbeats 4000000
namespace Pa
open PySem PySem.Spec PyProof.Rows L2
/-! ### calls of defs, by one fact each -/
/-- the module's name x holds a def that keeps the promise sp -/
structure CallOk (P : Program) (w : World) (K : PySem.W.Frag) (mg : Str → Option Value) (base : Heap) (k : Nat) (x : Str) (ps : List Str) (sp : Sp) : Prop where
  ok : ∃ (f : Addr) (fd : FuncData), mg x = some (.ref f) ∧ PySem.W.keepIn K (.ref f) = true ∧ Binds K fd ps [] ∧ FnOk P w K mg base CX0 k f fd ps sp
theorem CallOk.imp {P : Program} {w : World} {K : PySem.W.Frag} {mg : Str → Option Value} {base : Heap} {k : Nat} {x : Str} {ps : List Str} {sp sp' : Sp} (C : CallOk P w K mg base k x ps sp) (h : ∀ vs H Q E, sp' vs H Q E → sp vs H Q E) : CallOk P w K mg base k x ps sp' := by
  obtain ⟨f, fd, h1, h2, h3, h4⟩ := C.ok
  exact ⟨f, fd, h1, h2, h3, h4.imp h⟩
theorem call_ok {P : Program} {w : World} {K : PySem.W.Frag} {mg : Str → Option Value} {base : Heap} {k : Nat} {x : Str} {ps : List Str} {sp : Sp} {f : Addr} {fd : FuncData} (m : mg x = some (.ref f)) (kp : PySem.W.keepIn K (.ref f) = true) (b : Binds K fd ps []) (F : FnOk P w K mg base CX0 k f fd ps sp) :
    CallOk P w K mg base k x ps sp := ⟨f, fd, m, kp, b, F⟩
section
variable {X : Cx} {k : Nat} {ps : List Str} {sp : Sp} {x : Str} {p pos : Pos} {e : Expr} {es : List Expr} {t : TA}
theorem pe_cc (C : CallOk X.prog X.w X.K X.mg X.base k x ps sp) (hr : Room k X.A) (hg : Gl X x) (ha : PA X (e :: es) t) (hdb : (x == ("__debug__" : Str)) = false := by decide)
    (he : starEach (e :: es) X.env = (false, eval e X.env) :: starEach es X.env := by rfl) (hpl : (backTo pos (starEach es X.env)).any (·.1) = false := by rfl) : PE X (.Call (.Name x p) (e :: es) [] pos) (tCall sp [] E0 t) := by
  obtain ⟨f, fd, h1, h2, h3, h4⟩ := C.ok
  exact pe_call h4 hr hg h1 h2 h3 .nil pass0 ha hdb he hpl
theorem pe_cc0 (C : CallOk X.prog X.w X.K X.mg X.base k x ps sp) (hr : Room k X.A) (hg : Gl X x) (hdb : (x == ("__debug__" : Str)) = false := by decide) : PE X (.Call (.Name x p) [] [] pos) (tCall sp [] E0 tNil) := by
  obtain ⟨f, fd, h1, h2, h3, h4⟩ := C.ok
  exact pe_call0 h4 hr hg h1 h2 h3 .nil pass0 hdb
end
def topS (i : Nat) : Stmt := PySem.Challenge.pw_pressalike_k44_joint_blocks_and_plain_pa.main.body.getD i (.Pass ⟨0, 0, 0, 0⟩)
abbrev sBag : Stmt := topS 28
abbrev sDraw : Stmt := topS 29
theorem scBag : FnScope ["_law_script", "_law_at", "_law_great", "_law_mixed", "_law_place", "_law_cell"] ["_law_script", "_law_at"] (defScope sBag) := ⟨rfl, rfl, rfl, by decide +kernel, rfl, by decide +kernel, by decide +kernel⟩
theorem scDraw : FnScope ["_law_bag_here", "_law_many", "_law_digit"] ["_law_bag_here", "_law_many"] (defScope sDraw) := ⟨rfl, rfl, rfl, by decide +kernel, rfl, by decide +kernel, by decide +kernel⟩
theorem atI_ints {ns : List Int} {i : Int} (h0 : 0 ≤ i) (h : i < (ns.length : Int)) : ∃ z : Int, atI (ns.map V.int) i = some (.int z) := by
  obtain ⟨n, rfl⟩ : ∃ n : Nat, i = (n : Int) := ⟨i.toNat, by omega⟩
  have hn : n < ns.length := by omega
  exact ⟨ns[n], atI_nat (j := n) (by rw [List.getElem?_map, List.getElem?_eq_getElem hn]; rfl)⟩
theorem join1 {α : Type} {G : α → Prop} {T : Prop} (h : (∀ y, G y) → T) (g : ∀ y, G y) : T := h g
/-- a source of draws stands at b -/
def IsBag (H : Hp) (b : Addr) : Prop := ∃ g x c : Int, H b = some (.lst [.int g, .int x, .int c])
/-- at most the source at b has changed -/
structure Bk (b : Addr) (H H' : Hp) : Prop where
  bag : IsBag H' b
  keep : ∀ q o, q ≠ b → H q = some o → H' q = some o
theorem Bk.trans {b : Addr} {H H1 H2 : Hp} (x : Bk b H H1) (y : Bk b H1 H2) : Bk b H H2 := ⟨y.bag, fun q o hq e => y.keep q o hq (x.keep q o hq e)⟩
theorem Bk.seqL {K : PySem.W.Frag} {b p : Addr} {H H' : Hp} {xs : List V} (x : Bk b H H') (h : SqL K H p xs) (hp : p ≠ b) : SqL K H' p xs := by
  rcases h with (h | ⟨o, h⟩) | h
  · exact .inl (.inl (x.keep _ _ hp h))
  · exact .inl (.inr ⟨o, x.keep _ _ hp h⟩)
  · exact .inr h
theorem Bk.seqT {K : PySem.W.Frag} {b p : Addr} {H H' : Hp} {xs : List V} (x : Bk b H H') (h : SqT K H p xs) (hp : p ≠ b) : SqT K H' p xs := by
  rcases h with (h | ⟨o, h⟩) | h
  · exact .inl (.inl (x.keep _ _ hp h))
  · exact .inl (.inr ⟨o, x.keep _ _ hp h⟩)
  · exact .inr h
/-- a new object beside it -/
theorem Bk.fresh {b p : Addr} {H H' : Hp} {o : HO} (x : Bk b H H') (h : H' p = none) : Bk b H (upd H' p o) := by
  obtain ⟨⟨g, y, c, e⟩, kp⟩ := x
  exact ⟨⟨g, y, c, by rw [upd_ne (ne_of_none e h)]; exact e⟩, fun q u hq eq => by rw [upd_ne (ne_of_none (kp q u hq eq) h)]; exact kp q u hq eq⟩
theorem Bk.free {b p : Addr} {H H' : Hp} (x : Bk b H H') (hb : IsBag H b) (h : H' p = none) : H p = none := by
  cases e : H p with
  | none => rfl
  | some o =>
    by_cases q : p = b
    · obtain ⟨g, y, c, e2⟩ := x.bag
      rw [q, e2] at h
      cases h
    · rw [x.keep p o q e] at h
      cases h
def spDraw : Sp := fun vs H Q _ => ∃ (b : Addr) (m : Int), vs = [.ref b, .int m] ∧ IsBag H b ∧ 1 ≤ m ∧ m < 2 ^ 200 ∧
  ∀ (d : Int) (H' : Hp), 0 ≤ d → d < m → Bk b H H' → Q (.int d) H'
section
variable {P : Program} {w : World} {K : PySem.W.Frag} {mg : Str → Option Value} {base : Heap}
theorem ok_draw {f : Addr} {fd : FuncData} (F : Fun K "_law_draw" "_law_draw" sDraw f fd) (mi : mg "int" = none) : FnOk P w K mg base CX0 1 f fd ["_law_bag_here", "_law_many"] spDraw := by
  refine F.ok scDraw (fun vs H Q E h => ?_) (fun cdv A outer s H vs Q E hr h => ?_)
  · obtain ⟨b, m, rfl, _⟩ := h
    rfl
  · obtain ⟨b, m, rfl, ⟨g, x, c, hb⟩, h1, h2, k⟩ := h
    have nd := scDraw.nd
    refine ⟨_, pss_cons (ps_if (pt_cmpR op_gt (pe_ix ix_list (pv 0) pe_int (fun _ _ => rfl)) pe_int (nomark _))
        (pss_cons (ps_set (i := 2) nd rfl (.inl rfl) (pe_op op_mod (pe_callTy call_int1 (by rfl) mi (by decide +kernel) (pa_cons (pe_ix ix_list (pv 0) pe_int (fun _ _ => rfl)) pa_nil)) (pv 1)))
        (pss_cons (ps_asg (pe_op op_fdivW (pe_ix ix_list (pv 0) pe_int (fun _ _ => rfl)) (pv 1)) (pg_sub (pv 0) pe_int set_list))
        (pss_one (ps_ret (pv 2))))) pss_nil)
      (pss_cons (ps_asg (pe_op op_add (pe_ix ix_list (pv 0) pe_int (fun _ _ => rfl)) pe_int) (pg_sub (pv 0) pe_int set_list))
      (pss_cons (ps_asg (pe_op op_mod (pe_callTy call_int1 (by rfl) mi (by decide +kernel) (pa_cons (pe_op op_add (pe_op op_add (pe_op op_mul (pe_ix ix_list (pv 0) pe_int (fun _ _ => rfl)) pe_int) (pe_op op_mul pe_int (pe_ix ix_list (pv 0) pe_int (fun _ _ => rfl)))) pe_int) pa_nil)) pe_int) (pg_sub (pv 0) pe_int set_list))
      (pss_one (ps_ret (pe_op op_mod (pe_op op_fdiv (pe_callTy call_int1 (by rfl) mi (by decide +kernel) (pa_cons (pe_op op_mod (pe_callTy call_int1 (by rfl) mi (by decide +kernel) (pa_cons (pe_op op_add (pe_op op_mul (pe_ix ix_list (pv 0) pe_int (fun _ _ => rfl)) pe_int) (pe_op op_mul pe_int (pe_ix ix_list (pv 0) pe_int (fun _ _ => rfl)))) pa_nil)) pe_int) pa_nil)) pe_int) (pv 1)))))), ?_⟩
    have i0 : ∀ {z0 z1 z2 : V}, atI [z0, z1, z2] 0 = some z0 := fun {z0 z1 z2} => atI_nat (j := 0) rfl
    have i1 : ∀ {z0 z1 z2 : V}, atI [z0, z1, z2] 1 = some z1 := fun {z0 z1 z2} => atI_nat (j := 1) rfl
    have i2 : ∀ {z0 z1 z2 : V}, atI [z0, z1, z2] 2 = some z2 := fun {z0 z1 z2} => atI_nat (j := 2) rfl
    -- if bag[0] > 0
    refine ⟨_, rfl, b, _, _, _, rfl, rfl, SqL.of hb, i0, _, _, rfl, rfl, _, rfl, ite2 (fun hg => ?_) (fun hg => ?_)⟩
    · -- digit = int(bag[0]) % many; bag[0] = bag[0] // many; return digit
      refine ⟨_, rfl, b, _, _, _, rfl, rfl, SqL.of hb, i0, .inl ⟨_, rfl, _, rfl, _, _, rfl, rfl, (by show (0 : Int) < m; omega), ?_⟩⟩
      refine ⟨_, rfl, b, _, _, _, rfl, rfl, SqL.of hb, i0, _, rfl, _, _, rfl, rfl, wide_div (b := 200) (by omega) (by omega) (by decide) (by decide), ?_⟩
      refine ⟨_, rfl, b, _, _, 0, rfl, rfl, hb, rfl, ?_⟩
      refine ⟨_, rfl, k _ _ (Int.emod_nonneg _ (by omega)) (Int.emod_lt_of_pos _ (by omega)) ⟨⟨_, _, _, upd_same⟩, fun q o hq e => by rw [upd_ne hq]; exact e⟩⟩
    · refine ⟨_, rfl, b, _, _, _, rfl, rfl, SqL.of hb, i2, _, _, rfl, rfl, ?_⟩
      refine ⟨_, rfl, b, _, _, 2, rfl, rfl, hb, rfl, ?_⟩
      have hb2 : (upd H b (.lst [.int g, .int x, .int (c + 1)])) b = some (.lst [.int g, .int x, .int (c + 1)]) := upd_same
      refine ⟨_, rfl, b, _, _, _, rfl, rfl, SqL.of hb2, i1, _, _, rfl, rfl, .inr (by decide), _, rfl, b, _, _, _, rfl, rfl, SqL.of hb2, i2, _, _, rfl, rfl, .inl (by decide), ?_⟩
      refine ⟨_, _, rfl, rfl, _, _, rfl, rfl, .inl ⟨_, rfl, _, _, rfl, rfl, (by show (0 : Int) < 2147483647; decide), ?_⟩⟩
      refine ⟨_, rfl, b, _, _, 1, rfl, rfl, hb2, rfl, ?_⟩
      have hb3 : ∀ z : Int, (upd (upd H b (.lst [.int g, .int x, .int (c + 1)])) b (.lst [.int g, .int z, .int (c + 1)])) b = some (.lst [.int g, .int z, .int (c + 1)]) := fun z => upd_same
      refine ⟨_, rfl, b, _, _, _, rfl, rfl, SqL.of (hb3 _), i1, _, _, rfl, rfl, .inr (by decide), _, rfl, b, _, _, _, rfl, rfl, SqL.of (hb3 _), i2, _, _, rfl, rfl, .inl (by decide), ?_⟩
      refine ⟨_, _, rfl, rfl, .inl ⟨_, rfl, _, _, rfl, rfl, (by show (0 : Int) < 2147483629; decide), .inl ⟨_, rfl, _, _, rfl, rfl, ⟨by decide, by decide⟩, _, rfl, _, _, rfl, rfl, (by show (0 : Int) < m; omega), ?_⟩⟩⟩
      refine k _ _ (Int.emod_nonneg _ (by omega)) (Int.emod_lt_of_pos _ (by omega)) ⟨⟨_, _, _, hb3 _⟩, fun q o hq e => by rw [upd_ne hq, upd_ne hq]; exact e⟩
/-- a new source of draws -/
def spBag (K : PySem.W.Frag) : Sp := fun vs H Q _ => ∃ (a : Addr) (i : Int) (ns : List Int), vs = [.ref a, .int i] ∧ SqL K H a (ns.map V.int) ∧ 0 ≤ i ∧ i ≤ 1000 ∧
  ∀ (b : Addr) (H' : Hp), H b = none → IsBag H' b → (∀ q o, q ≠ b → H q = some o → H' q = some o) → Q (.ref b) H'
theorem ok_bag {f : Addr} {fd : FuncData} (F : Fun K "_law_bag" "_law_bag" sBag f fd) (mi : mg "int" = none) (ma : mg "abs" = none) (ml : mg "len" = none) (me : mg "enumerate" = none) : FnOk P w K mg base CX0 1 f fd ["_law_script", "_law_at"] (spBag K) := by
  refine F.ok scBag (fun vs H Q E h => ?_) (fun cdv A outer s H vs Q E hr h => ?_)
  · obtain ⟨a, i, ns, rfl, _⟩ := h
    rfl
  · obtain ⟨a, ix, ns, rfl, hS, h0, h1, k⟩ := h
    have nd := scBag.nd
    refine ⟨_, pss_cons (ps_set (i := 2) nd rfl (.inl rfl) (pe_ifExp (pt_cmpR op_lt (pv 1) (pe_callB call_len_seq (by rfl) ml PySem.boot_len (pa_cons (pv 0) pa_nil)) (nomark _))
          (pe_callB call_abs (by rfl) ma (by decide +kernel) (pa_cons (pe_callTy call_int1 (by rfl) mi (by decide +kernel) (pa_cons (pe_ix ix_list (pv 0) (pv 1) (fun _ _ => rfl)) pa_nil)) pa_nil)) pe_int))
      (pss_cons (ps_set (i := 3) nd rfl (.inl rfl) (pe_op op_add pe_int (pe_op op_mul pe_int (pv 1))))
      (pss_cons (ps_for PassesOwn.never rfl (pi_enum (by rfl) me (pa_cons (pe_slice sl_list (pv 0) po_none (po_some pe_int)) pa_nil)) (pg_tup rfl (pgs_cons (pg_name (i := 4) nd rfl (.inl rfl)) (pgs_cons (pg_name (i := 5) nd rfl (.inl rfl)) pgs_nil)))
        (pss_one (ps_set (i := 3) nd rfl (.inl rfl) (pe_op op_mod (pe_callTy call_int1 (by rfl) mi (by decide +kernel) (pa_cons (pe_op op_add (pe_op op_add (pe_op op_mul (pv 3) pe_int)
            (pe_op op_mod (pe_callTy call_int1 (by rfl) mi (by decide +kernel) (pa_cons (pv 5) pa_nil)) pe_int)) (pe_op op_mul pe_int (pv 4))) pa_nil)) pe_int))))
      (pss_one (ps_ret (pe_lst (pa_cons (pe_ifExp (pt_cmpR op_ge (pv 2) (pe_op op_pow pe_int pe_int) (nomark _)) (pv 2) pe_int) (pa_cons (pv 3) (pa_cons pe_int pa_nil)))))))), ?_⟩
    refine join1 (α := Int) (G := ?G) (fun bag_rest => ?br) (fun y => ?fin)
    case br =>
      refine ⟨_, rfl, _, rfl, a, _, rfl, .inl hS, _, _, rfl, rfl, _, rfl, ite2 (fun hc => ?_) (fun hc => ?_)⟩
      · have hc' : ix < ((ns.map V.int).length : Int) := of_decide_eq_true hc
        rw [List.length_map] at hc'
        obtain ⟨z, hz⟩ := atI_ints h0 hc'
        refine ⟨_, rfl, _, rfl, a, _, _, _, rfl, rfl, hS, hz, .inl ⟨_, rfl, _, rfl, ?_⟩⟩
        generalize (if z < 0 then -z else z) = y
        exact bag_rest y
      · exact bag_rest 0
    case fin =>
      -- mixed = 1009 + 77 * at
      refine ⟨_, rfl, _, _, rfl, rfl, .inl (by decide), _, _, rfl, rfl, ?_⟩
      -- enumerate(script[:63])
      refine ⟨_, rfl, _, rfl, a, _, rfl, hS, fun c nc => ?_⟩
      have sc : Same H (upd H c (.lst (cutV (ns.map V.int) none (some 63)))) := fun q o e => by rw [upd_ne (ne_of_none e nc)]; exact e
      have hints : ∀ x ∈ cutV (ns.map V.int) none (some 63), ∃ z : Int, x = .int z := fun x hx => by
        have hm := List.mem_of_mem_drop (List.mem_of_mem_take hx)
        obtain ⟨z, _, e⟩ := List.mem_map.mp hm
        exact ⟨z, e.symm⟩
      revert sc hints
      generalize cutV (ns.map V.int) none (some 63) = cs
      intro sc hints
      refine ⟨c, cs, rfl, SqL.of upd_same, for_it (walk_enum (xs := cs)) (fun i σ H2 => ∃ (m : Int) (y4 y5 : Option V), σ = [some (.ref a), some (.int ix), some (.int y), some (.int m), y4, y5] ∧ Same H H2 ∧ SqL K H2 c cs) ⟨_, none, none, rfl, sc, SqL.of upd_same⟩ ?_ ?_ ?_⟩
      · rintro i σ H2 _ ⟨m, y4, y5, rfl, s2, hc2⟩
        exact hc2
      · rintro i x σ H2 H3 hi ⟨m, y4, y5, rfl, s2, hc2⟩ ⟨T, x1, x2, rfl, nT, rfl, e1, e2⟩
        obtain ⟨z, rfl⟩ := hints _ (List.mem_of_getElem? e2)
        cases e1
        have s3 : Same H2 (upd H2 T (.tup [.int (i : Nat), .int z])) := fun q o e => by rw [upd_ne (ne_of_none e nT)]; exact e
        refine ⟨T, _, rfl, SqT.of upd_same, rfl, _, _, rfl, _, _, rfl, rfl, ?_⟩
        refine ⟨_, rfl, _, _, rfl, rfl, .inr (by decide), _, rfl, .inl ⟨_, rfl, _, _, rfl, rfl, (by show (0 : Int) < 2147483629; decide), ?_⟩⟩
        refine ⟨_, _, rfl, rfl, _, rfl, _, _, rfl, rfl, .inl (by decide), _, _, rfl, rfl, .inl ⟨_, rfl, _, _, rfl, rfl, (by show (0 : Int) < 2147483647; decide), ?_⟩⟩
        exact ⟨_, _, _, rfl, s2.trans s3, s3.seq hc2⟩
      · rintro σ H2 ⟨m, y4, y5, rfl, s2, hc2⟩
        -- return [.., mixed, 0]
        refine ⟨_, rfl, _, _, rfl, rfl, ⟨by decide, by decide, by decide⟩, _, _, rfl, rfl, _, rfl, ite2 (fun hc => ⟨_, rfl, ?_⟩) (fun hc => ?_)⟩
        all_goals
          refine ⟨_, rfl, (by show 3 ≤ sizeLine; decide), fun b nb => ?_⟩
          have nbH : H b = none := s2.free nb
          exact k b _ nbH ⟨_, _, _, upd_same⟩ fun q o hq e => by rw [upd_ne hq]; exact s2 _ _ e
end
end Pa
set_option maxRecDepth 100000
set_option maxHeartbeats 4000000
namespace Pa
open PySem PySem.Spec PyProof.Rows L2 HT
/-! ### a list's end: xs[a:] = ys, del xs[a:] -/
theorem bounds_end {a n : Nat} (ha : a ≤ n) : sliceBounds (some (a : Int)) none none n = ((a : Int), (n : Int), 1) := by
  simp only [sliceBounds, Option.getD_none]
  have h1 : ¬ ((a : Int) < 0) := by omega
  simp only [h1, if_false, show (1 : Int) > 0 by decide, if_true]
  congr 1
  omega
section
variable {prog : Program} {w : World} {A : Around} {E : Value → Shared → Prop} {s : Shared}
theorem endPut {l b sl : Addr} {items new : Array Value} {n n2 : Nat} {vl vu : Value} {a : Nat} {Q : Unit → Shared → Prop}
    (el : s.heap.get? l = some { cls := .type "list", data := .seq items n }) (eb : s.heap.get? b = some { cls := .type "list", data := .seq new n2 }) (nlb : l ≠ b)
    (hsl : s.heap.IsSliceOf sl vl vu .none) (p1 : IsPart vl (some (a : Int))) (p2 : IsPart vu none) (ha : a ≤ items.size)
    (hz : items.size + new.size ≤ sizeLine) (h : Q () { s with heap := s.heap.update l (Obj.mapSeq fun xs => xs.extract 0 a ++ new ++ xs.extract items.size xs.size) }) :
    wpAny (model prog w) A (setItem (.ref l) (.ref sl) (.ref b)) Q E s := by
  have isl : s.heap.IsList l items := PySem.IsL.isList el
  have isb : s.heap.IsList b new := PySem.IsL.isList eb
  obtain ⟨o1, ho1, hc1, hd1⟩ := id hsl
  have tsl : s.TypeIs (.ref sl) "slice" := ⟨o1, ho1, hc1⟩
  have st0 : ¬ ((rawPart none == rawInt 0) = true) := Bool.false_ne_true
  have nsame : Builtin.List.listSameRef (.ref l) (.ref b) = false := by
    unfold Builtin.List.listSameRef
    exact beq_eq_false_iff_ne.mpr nlb
  have mx : (max (a : Int) (items.size : Int)).toNat = items.size := by omega
  have hz2 : ((fun xs : Array Value => xs.extract 0 a ++ new ++ xs.extract items.size xs.size) items).size ≤ sizeLine + 1 := by
    simp only [Array.size_append, Array.size_extract]
    omega
  unfold setItem
  try with_reducible refine wpAny_holding ?_
  first | refine wpAny_bind (wpAny_pure ?_) | skip
  refine wpAny_bind (wpAny_sequenceKey isl.typeIs (by decide) ?_)
  refine wpAny_bind (wpAny_callSpecial?_slot (name := Str.ofString "__setitem__") isl.typeIs slot_list_setitem
    (wpAny_call_entry slot_list_setitem isl.typeIs entry_list_setitem ?_ (args_list_setitem _ _ _)))
  show wpAny _ _ (Builtin.List.listSubscript? (.ref sl) >>= _) _ _ s
  refine wpAny_bind ?_
  unfold Builtin.List.listSubscript?
  refine wpAny_bind (wpAny_specialOf tsl slice_no_index ?_)
  simp only [Option.isNone_none, if_true]
  refine wpAny_pure ?_
  show wpAny _ _ (typeOf (.ref sl) >>= _) _ _ s
  refine wpAny_bind (wpAny_typeOf tsl ?_)
  first
    | rw [if_neg (by decide)]
    | refine PySem.W.KFB.if_not (by decide) ?_
  rw [listSliceParts_eq]
  refine wpAny_bind (wpAny_bind (wpAny_field ho1 hd1 (x := .none) rfl (wpAny_bind (wpAny_listPart .none ?_))))
  rw [if_neg st0]
  refine wpAny_bind (wpAny_field ho1 hd1 (x := vl) rfl (wpAny_bind (wpAny_listPart p1 ?_)))
  refine wpAny_bind (wpAny_field ho1 hd1 (x := vu) rfl (wpAny_bind (wpAny_listPart p2 (wpAny_pure ?_))))
  first
    | simp only [nsame, Bool.false_eq_true, if_false]
    | refine PySem.W.KFB.if_not nsame ?_
    | (dsimp only
       rw [if_neg (by rw [nsame]; exact Bool.false_ne_true)])
  refine wpAny_bind (m := Builtin.List.listAllItems (.ref b) "must assign iterable to extended slice") ?_
  unfold Builtin.List.listAllItems
  refine wpAny_bind (wpAny_typeOf isb.typeIs ?_)
  first
    | refine PySem.W.KFB.if_so (by decide) ?_
    | rw [if_pos (by decide)]
    | simp only [beq_self_eq_true, Bool.true_or, if_true]
  unfold Builtin.List.listItems
  refine wpAny_bind (wpAny_seqItems eb rfl (wpAny_pure ?_))
  refine wpAny_bind (wpAny_bind (wpAny_seqItems el rfl (wpAny_pure ?_)))
  refine wpAny_bind (wpAny_of_eq ((sliceIndices_raw (some (a : Int)) none none items.size (by simp)).trans (congrArg (pure : Int × Int × Int → Sem (Int × Int × Int)) (bounds_end ha))) ?_)
  show wpAny _ _ (if ((1 : Int) == 1) = true then _ else _) _ _ s
  rw [if_pos (by decide)]
  refine wpAny_bind (wpAny_rule ?_)
  first
    | simp only [notLongL hz, Bool.false_eq_true, if_false]
    | refine PySem.W.KFB.if_not (notLongL hz) ?_
  first | refine wpAny_bind (wpAny_pure ?_) | skip
  show wpAny _ _ (updateSeq l (fun xs => xs.extract 0 ((a : Int)).toNat ++ new ++ xs.extract (max (a : Int) (items.size : Int)).toNat xs.size) >>= _) _ _ s
  rw [mx, Int.toNat_natCast]
  refine wpAny_bind (wpAny_updateSeq (hz := Nat.le_trans (Nat.le_add_right _ _) hz) (_hz' := hz2) el rfl ?_)
  refine wpAny_bind (wpAny_letGo ?_)
  first
    | exact wpAny_bind (wpAny_pure (wpAny_pure ⟨.none, rfl, wpAny_pure h⟩))
    | exact wpAny_pure ⟨.none, rfl, wpAny_pure h⟩
theorem kept_front (p : Nat → Bool) (a : Nat) : ∀ (xs : List Value) (i : Nat), (∀ k, i ≤ k → k < i + xs.length → p k = decide (a ≤ k)) →
    (xs.zipIdx i).filterMap (fun x => if p x.2 = true then none else some x.1) = xs.take (a - i)
  | [], i, _ => by simp
  | x :: xs, i, h => by
    rw [List.zipIdx_cons, List.filterMap_cons]
    have hp := h i (Nat.le_refl _) (by simp)
    have ih := kept_front p a xs (i + 1) fun k h1 h2 => h k (by omega) (by rw [List.length_cons]; omega)
    by_cases hk : a ≤ i
    · have : a - i = 0 := by omega
      rw [decide_eq_true hk] at hp
      simp only [hp, if_true, ih, this, List.take_zero]
      have : a - (i + 1) = 0 := by omega
      rw [this, List.take_zero]
    · have e : a - i = (a - (i + 1)) + 1 := by omega
      rw [decide_eq_false hk] at hp
      simp only [hp, Bool.false_eq_true, if_false, ih]
      rw [e, List.take_succ_cons]
theorem endDel {l sl : Addr} {items : Array Value} {n : Nat} {vl vu : Value} {a : Nat} {Q : Unit → Shared → Prop}
    (el : s.heap.get? l = some { cls := .type "list", data := .seq items n })
    (hsl : s.heap.IsSliceOf sl vl vu .none) (p1 : IsPart vl (some (a : Int))) (p2 : IsPart vu none) (ha : a ≤ items.size) (hz : items.size ≤ sizeLine)
    (h : ∀ f : Array Value → Array Value, f items = (items.toList.take a).toArray → Q () { s with heap := s.heap.update l (Obj.mapSeq f) }) :
    wpAny (model prog w) A (delItem (.ref l) (.ref sl)) Q E s := by
  have isl : s.heap.IsList l items := PySem.IsL.isList el
  obtain ⟨o1, ho1, hc1, hd1⟩ := id hsl
  have tsl : s.TypeIs (.ref sl) "slice" := ⟨o1, ho1, hc1⟩
  have st0 : ¬ ((rawPart none == rawInt 0) = true) := Bool.false_ne_true
  refine wpAny_delItem_slot isl.typeIs (by decide) PySem.F.slot_list_delitem (wpAny_call_entry PySem.F.slot_list_delitem isl.typeIs PySem.F.entry_list_delitem ?_ (PySem.F.args_list_delitem_2 _ _))
  show wpAny _ _ (Builtin.List.listSubscript? (.ref sl) >>= _) _ _ s
  refine wpAny_bind ?_
  unfold Builtin.List.listSubscript?
  refine wpAny_bind (wpAny_specialOf tsl slice_no_index ?_)
  simp only [Option.isNone_none, if_true]
  refine wpAny_pure ?_
  show wpAny _ _ (typeOf (.ref sl) >>= _) _ _ s
  refine wpAny_bind (wpAny_typeOf tsl ?_)
  first
    | rw [if_neg (by decide)]
    | refine PySem.W.KFB.if_not (by decide) ?_
  rw [listSliceParts_eq]
  refine wpAny_bind (wpAny_bind (wpAny_field ho1 hd1 (x := .none) rfl (wpAny_bind (wpAny_listPart .none ?_))))
  rw [if_neg st0]
  refine wpAny_bind (wpAny_field ho1 hd1 (x := vl) rfl (wpAny_bind (wpAny_listPart p1 ?_)))
  refine wpAny_bind (wpAny_field ho1 hd1 (x := vu) rfl (wpAny_bind (wpAny_listPart p2 (wpAny_pure ?_))))
  refine wpAny_bind (m := Builtin.List.listItems (.ref l)) ?_
  unfold Builtin.List.listItems
  refine wpAny_bind (wpAny_seqItems el rfl (wpAny_pure ?_))
  refine wpAny_bind (wpAny_of_eq ((sliceIndices_raw (some (a : Int)) none none items.size (by simp)).trans (congrArg (pure : Int × Int × Int → Sem (Int × Int × Int)) (bounds_end ha))) ?_)
  refine wpAny_bind (wpAny_rule ?_)
  refine wpAny_bind ?_
  refine wpAny_updateSeq el rfl ?_ hz ?_
  · refine wpAny_bind (wpAny_letGo ?_)
    refine wpAny_pure ⟨.none, rfl, h _ ?_⟩
    refine congrArg List.toArray ((kept_front _ a items.toList 0 fun k _ hk => ?_).trans (by rw [Nat.sub_zero]))
    have hk : k < items.size := by simpa using hk
    show ((decide ((a : Int) ≤ (k : Int)) && decide ((k : Int) < (items.size : Int))) && (((k : Int) - (a : Int)) % 1 == 0)) = decide (a ≤ k)
    have h1 : decide ((k : Int) < (items.size : Int)) = true := decide_eq_true (by omega)
    have h2 : (((k : Int) - (a : Int)) % 1 == 0) = true := by simp
    rw [h1, h2, Bool.and_true, Bool.and_true]
    by_cases h3 : a ≤ k
    · rw [decide_eq_true h3, decide_eq_true (by omega)]
    · rw [decide_eq_false h3, decide_eq_false (by omega)]
  · refine Nat.le_succ_of_le (Nat.le_trans ?_ hz)
    rw [List.size_toArray]
    refine Nat.le_trans (List.length_filterMap_le _ _) ?_
    simp
end
section
variable {X : Cx} {o lo : Expr} {to tl : TE} {p2 pos : Pos}
/-- xs[a:] = ys of another list, both tracked -/
def gEnd (to tl : TE) : TG := fun v σ H Q => to σ H fun x H1 => tl σ H1 fun y H2 => ∃ (l b : Addr) (xs ys : List V) (a : Nat), x = .ref l ∧ y = .int (a : Int) ∧ v = .ref b ∧ H2 l = some (.lst xs) ∧ H2 b = some (.lst ys) ∧ l ≠ b ∧ a ≤ xs.length ∧
  xs.length + ys.length ≤ sizeLine ∧ Q σ (upd H2 l (.lst (xs.take a ++ ys)))
theorem pg_end (ho : PE X o to) (hl : PE X lo tl)
    (ha : ∀ v, assign (.Subscript o (.Slice (some lo) none none p2) pos) X.env v = (do
      let ov ← holding [v] (eval o X.env)
      let iv ← holding [v, ov] (eval (.Slice (some lo) none none p2) X.env)
      standAt pos
      holding [v, ov, iv] (setItem ov iv v)
      release [iv, v, ov] []) := by intro _; rfl) : PG X (.Subscript o (.Slice (some lo) none none p2) pos) (gEnd to tl) := by
  refine ⟨fun pins s σ H v u Q I r h => ?_⟩
  rw [ha]
  refine wpAny_bind (wpAny_holding (thn (ho.run pins s σ H _ I h) fun ov s1 ⟨x, H1, I1, r1, q1⟩ => ?_))
  refine wpAny_bind (wpAny_holding ?_)
  refine wpAny_Slice ?_
  rw [evalPart_some]
  refine thn (hl.run pins s1 σ H1 _ I1 q1) fun vl s2 ⟨y, H2, I2, r2, q2⟩ => ?_
  obtain ⟨l, b, xs, ys, a, rfl, rfl, rfl, hl2, hb2, nlb, hax, hsz, q3⟩ := q2
  obtain ⟨tk, rfl⟩ := r2
  cases (show ov = Value.ref l from r1)
  cases (show u = Value.ref b from r)
  rw [evalPart_none]
  refine wpAny_pure (wpAny_pure ?_)
  have I4 : Inv X pins σ H2 { s2 with heap := s2.heap.push { cls := .type "slice", data := .fields #[.int a tk, .none, .none] } } := I2.kept (t' := s2.toks) fun b ob q => Heap.get?_push_of_some _ q
  obtain ⟨z, its, n, rv, hl3, e3⟩ := I4.lstM hl2
  obtain ⟨z2, its2, n2, rv2, hl4, e4⟩ := I4.lstM hb2
  refine wpAny_bind (wpAny_standAt (wpAny_bind (wpAny_holding (endPut (a := a) e3 e4 nlb (Heap.IsSliceOf.new ..) (.int _ _) .none (by rw [List.size_toArray]; omega) (by rw [List.size_toArray, List.size_toArray]; omega) ?_))))
  refine wpAny_release ⟨σ, _, I4.lset (its' := its.take a ++ its2) (t' := s2.toks) hl2 e3 ?_ (Vals.append (rv.take _) rv2) ?_, q3⟩
  · show its.toArray.extract 0 a ++ its2.toArray ++ its.toArray.extract its.toArray.size its.toArray.size = (its.take a ++ its2).toArray
    apply Array.toList_inj.mp
    simp
  · rw [List.length_append, List.length_take]
    omega
def tDelE (to tl : TE) : TS := fun D σ H => to σ H fun x H1 => tl σ H1 fun y H2 => ∃ (l : Addr) (xs : List V) (a : Nat), x = .ref l ∧ y = .int (a : Int) ∧ H2 l = some (.lst xs) ∧ a ≤ xs.length ∧ D.nx σ (upd H2 l (.lst (xs.take a)))
/-- del xs[a:] -/
theorem ps_delE {tpos : Pos} (ho : PE X o to) (hl : PE X lo tl) : PS X (.Delete [.Subscript o (.Slice (some lo) none none p2) tpos] pos) (tDelE to tl) := by
  refine ⟨fun pins s σ H D I h => ?_⟩
  refine wpAny_Delete (wpAny_deleteEach_cons (wpAny_delete_Subscript (thn (ho.run pins s σ H _ I h) fun ov s1 ⟨x, H1, I1, r1, q1⟩ => ?_)))
  refine wpAny_Slice ?_
  rw [evalPart_some]
  refine thn (hl.run pins s1 σ H1 _ I1 q1) fun vl s2 ⟨y, H2, I2, r2, q2⟩ => ?_
  obtain ⟨l, xs, a, rfl, rfl, hl2, hax, q3⟩ := q2
  obtain ⟨tk, rfl⟩ := r2
  cases (show ov = Value.ref l from r1)
  rw [evalPart_none]
  refine wpAny_pure (wpAny_pure ?_)
  have I4 : Inv X pins σ H2 { s2 with heap := s2.heap.push { cls := .type "slice", data := .fields #[.int a tk, .none, .none] } } := I2.kept (t' := s2.toks) fun b ob q => Heap.get?_push_of_some _ q
  obtain ⟨z, its, n, rv, hl3, e3⟩ := I4.lstM hl2
  refine endDel (a := a) e3 (Heap.IsSliceOf.new ..) (.int _ _) .none (by rw [List.size_toArray]; omega) (by rw [List.size_toArray]; omega) fun f hf => ?_
  refine wpAny_deleteEach_nil ⟨σ, _, I4.lset (its' := its.take a) (t' := s2.toks) hl2 e3 hf (rv.take _) ?_, q3⟩
  rw [List.length_take]
  omega
end
end Pa
set_option maxRecDepth 100000
set_option maxHeartbeats 4000000
namespace Pa
open PySem PySem.Spec PyProof.Rows L2
/-! ### things in the heap -/
def AllAt {α : Type} (R : Hp → V → α → Prop) (H : Hp) : List V → List α → Prop
  | [], [] => True
  | x :: xs, y :: ys => R H x y ∧ AllAt R H xs ys
  | _, _ => False
section
variable {α : Type} {R : Hp → V → α → Prop} {H H' : Hp}
theorem AllAt.len : ∀ {xs : List V} {ys : List α}, AllAt R H xs ys → xs.length = ys.length
  | [], [], _ => rfl
  | _ :: _, _ :: _, h => congrArg (· + 1) (AllAt.len h.2)
  | [], _ :: _, h => h.elim
  | _ :: _, [], h => h.elim
theorem AllAt.mono : ∀ {xs : List V} {ys : List α}, (∀ x y, R H x y → R H' x y) → AllAt R H xs ys → AllAt R H' xs ys
  | [], [], _, _ => trivial
  | _ :: _, _ :: _, f, h => ⟨f _ _ h.1, AllAt.mono f h.2⟩
  | [], _ :: _, _, h => h.elim
  | _ :: _, [], _, h => h.elim
theorem AllAt.app : ∀ {xs xs' : List V} {ys ys' : List α}, AllAt R H xs ys → AllAt R H xs' ys' → AllAt R H (xs ++ xs') (ys ++ ys')
  | [], _, [], _, _, h => h
  | _ :: _, _, _ :: _, _, h, h' => ⟨h.1, AllAt.app h.2 h'⟩
  | [], _, _ :: _, _, h, _ => h.elim
  | _ :: _, _, [], _, h, _ => h.elim
theorem AllAt.snoc {xs : List V} {ys : List α} {x : V} {y : α} (h : AllAt R H xs ys) (r : R H x y) : AllAt R H (xs ++ [x]) (ys ++ [y]) := h.app ⟨r, trivial⟩
theorem AllAt.at : ∀ {xs : List V} {ys : List α} {i : Nat} {x : V}, AllAt R H xs ys → xs[i]? = some x → ∃ y, ys[i]? = some y ∧ R H x y
  | x :: xs, y :: ys, 0, _, h, e => by cases e; exact ⟨y, rfl, h.1⟩
  | x :: xs, y :: ys, i + 1, _, h, e => AllAt.at (xs := xs) (ys := ys) (i := i) h.2 (by simpa using e)
  | [], _, _, _, _, e => by simp at e
  | _ :: _, [], _, _, h, _ => h.elim
theorem AllAt.to : ∀ {xs : List V} {ys : List α} {i : Nat} {y : α}, AllAt R H xs ys → ys[i]? = some y → ∃ x, xs[i]? = some x ∧ R H x y
  | x :: xs, y :: ys, 0, _, h, e => by cases e; exact ⟨x, rfl, h.1⟩
  | x :: xs, y :: ys, i + 1, _, h, e => AllAt.to (xs := xs) (ys := ys) (i := i) h.2 (by simpa using e)
  | _, [], _, _, _, e => by simp at e
  | [], _ :: _, _, _, h, _ => h.elim
theorem AllAt.take : ∀ {xs : List V} {ys : List α} (n : Nat), AllAt R H xs ys → AllAt R H (xs.take n) (ys.take n)
  | _, _, 0, _ => by simp [AllAt]
  | [], [], _ + 1, _ => by simp [AllAt]
  | x :: xs, y :: ys, n + 1, h => ⟨h.1, AllAt.take n h.2⟩
  | [], _ :: _, _ + 1, h => h.elim
  | _ :: _, [], _ + 1, h => h.elim
theorem AllAt.drop : ∀ {xs : List V} {ys : List α} (n : Nat), AllAt R H xs ys → AllAt R H (xs.drop n) (ys.drop n)
  | _, _, 0, h => h
  | [], [], _ + 1, _ => by simp [AllAt]
  | x :: xs, y :: ys, n + 1, h => AllAt.drop (xs := xs) (ys := ys) n h.2
  | [], _ :: _, _ + 1, h => h.elim
  | _ :: _, [], _ + 1, h => h.elim
end
theorem join2 {c G T : Prop} (h : (c → G) → T) (g : c → G) : T := h g
theorem iteP {c A B : Prop} [Decidable c] (hc : c) (h : A) : if c then A else B := by
  rw [if_pos hc]; exact h
theorem iteQ {c A B : Prop} [Decidable c] (hc : ¬ c) (h : B) : if c then A else B := by
  rw [if_neg hc]; exact h
theorem notT {b : Bool} (h : b = true) : ¬ ((!b) = true) := by rw [h]; decide
theorem notF {b : Bool} (h : b = false) : (!b) = true := by rw [h]; rfl
theorem neT {b : Bool} (h : b = false) : ¬ (b = true) := by rw [h]; decide
theorem twoB (b : Bool) : b = true ∨ b = false := by cases b; exact .inr rfl; exact .inl rfl
/-- all tuples stand -/
def Tups (H H' : Hp) : Prop := ∀ t xs, H t = some (.tup xs) → H' t = some (.tup xs)
section
variable {H H' H'' : Hp} {p : Addr} {o : HO} {xs : List V}
theorem Tups.refl (H : Hp) : Tups H H := fun _ _ h => h
theorem Tups.trans (a : Tups H H') (b : Tups H' H'') : Tups H H'' := fun t xs h => b t xs (a t xs h)
theorem Tups.of (a : Same H H') : Tups H H' := fun t xs h => a t _ h
theorem Tups.put (h : ∀ ys, H p ≠ some (.tup ys)) : Tups H (upd H p o) := fun t ys e => by
  rw [upd_ne (fun q => h ys (by rw [← q]; exact e))]
  exact e
theorem Tups.new (h : H p = none) : Tups H (upd H p o) := Tups.put fun ys e => by rw [h] at e; cases e
theorem Tups.lst (h : H p = some (.lst xs)) : Tups H (upd H p o) := Tups.put fun ys e => by rw [h] at e; cases e
theorem Tups.ins {C dx : Addr} {fs : List (Str × V)} (h : H p = some (.ins C dx fs)) : Tups H (upd H p o) := Tups.put fun ys e => by rw [h] at e; cases e
theorem same_new (h : H p = none) : Same H (upd H p o) := fun b u e => by
  rw [upd_ne (ne_of_none e h)]
  exact e
end
/-- a tuple of these stands at x -/
def TupAt (H : Hp) (x : V) (vs : List V) : Prop := ∃ t, x = .ref t ∧ H t = some (.tup vs)
theorem TupAt.mono {H H' : Hp} {x : V} {vs : List V} (a : Tups H H') (h : TupAt H x vs) : TupAt H' x vs := by
  obtain ⟨t, e, r⟩ := h
  exact ⟨t, e, a t _ r⟩
def LnAt (H : Hp) (x : V) (l : Ln) : Prop := TupAt H x [.int l.sp, .bl l.br, .bl l.du]
def PlAt (H : Hp) (x : V) (l : Int × Bool) : Prop := TupAt H x [.int l.1, .bl l.2]
def RwAt (H : Hp) (x : V) (r : Int) : Prop := TupAt H x [.bl (decide (r = 0)), .int r]
def BlAt (H : Hp) (x : V) (b : Bl) : Prop := TupAt H x [.int (b.c : Int), .int b.s, .bl b.k, .bl b.g]
theorem lnMono {H H' : Hp} {xs : List V} {ys : List Ln} (a : Tups H H') (h : AllAt LnAt H xs ys) : AllAt LnAt H' xs ys := h.mono fun _ _ => TupAt.mono a
theorem plMono {H H' : Hp} {xs : List V} {ys : List (Int × Bool)} (a : Tups H H') (h : AllAt PlAt H xs ys) : AllAt PlAt H' xs ys := h.mono fun _ _ => TupAt.mono a
theorem rwMono {H H' : Hp} {xs : List V} {ys : List Int} (a : Tups H H') (h : AllAt RwAt H xs ys) : AllAt RwAt H' xs ys := h.mono fun _ _ => TupAt.mono a
theorem blMono {H H' : Hp} {xs : List V} {ys : List Bl} (a : Tups H H') (h : AllAt BlAt H xs ys) : AllAt BlAt H' xs ys := h.mono fun _ _ => TupAt.mono a
/-- facts of the program's top -/
structure Txt (K : PySem.W.Frag) (mg : Str → Option Value) (tp C : Addr) : Prop where
  b_len : mg "len" = none
  b_range : mg "range" = none
  b_int : mg "int" = none
  b_abs : mg "abs" = none
  b_enumerate : mg "enumerate" = none
  b_isinstance : mg "isinstance" = none
  b_bool : mg "bool" = none
  b_list : mg "list" = none
  b_tuple : mg "tuple" = none
  b_max : mg "max" = none
  b_min : mg "min" = none
  b_all : mg "all" = none
  g_TOP : mg "TOP" = some (.ref tp)
  top : ∀ H, SqT K H tp [.str "top", .int 0, .int 0]
  cl : Cls K C
  g_Page : mg "Page" = some (.ref C)
  nL : NoAttr K C "length"
  nS : NoAttr K C "_standing"
  nR : NoAttr K C "_rows"
  nO : NoAttr K C "_loose"
  nW : NoAttr K C "_went_over"
section
variable {P : Program} {w : World} {K : PySem.W.Frag} {mg : Str → Option Value} {base : Heap} {tp C : Addr}
/-! ### _longer -/
def spLng : Sp := fun vs H Q _ => ∃ (t s : Int), vs = [.int t, .int s] ∧ Q (.int (lng t s)) H
abbrev s_longer : Stmt := topS 10
theorem sc_longer : FnScope ["tail", "space"] ["tail", "space"] (defScope s_longer) := ⟨rfl, rfl, rfl, by decide +kernel, rfl, by decide +kernel, by decide +kernel⟩
theorem ok_longer {f : Addr} {fd : FuncData} (F : Fun K "_longer" "_longer" s_longer f fd) : FnOk P w K mg base CX0 1 f fd ["tail", "space"] spLng := by
  refine F.ok sc_longer (fun vs H Q E h => ?_) (fun cdv A outer s H vs Q E hr h => ?_)
  · obtain ⟨t, s, rfl, _⟩ := h
    rfl
  · obtain ⟨t, sp, rfl, k⟩ := h
    refine ⟨_, (pss_one (ps_ret (pe_ifExp (pt_cmpR op_gt (pv 0) pe_int (nomark _)) (pe_op op_add (pe_op op_add (pv 0) (pv 1)) pe_int) pe_int))), ?_⟩
    unfold lng at k
    refine ⟨_, rfl, _, _, rfl, rfl, _, rfl, ite2 (fun hc => ?_) (fun hc => ?_)⟩
    · rw [if_pos (of_decide_eq_true hc)] at k
      exact ⟨_, rfl, _, rfl, _, _, rfl, rfl, _, _, rfl, rfl, k⟩
    · rw [if_neg (fun q => hc (decide_eq_true q))] at k
      exact k
/-! ### next_line -/
def spNext : Sp := fun vs H Q _ => ∃ (L h t s : Int) (b : Bool), vs = [.int L, .int h, .int t, .int s, .bl b] ∧ ∀ p, H p = none → Q (.ref p) (upd H p (.tup [.int (nextLine L h t s b).h, .int (nextLine L h t s b).t, .bl (nextLine L h t s b).ov]))
abbrev snext_line : Stmt := topS 9
theorem scnext_line : FnScope ["length", "height", "tail", "space", "barred", "below", "over"] ["length", "height", "tail", "space", "barred"] (defScope snext_line) := ⟨rfl, rfl, rfl, by decide +kernel, rfl, by decide +kernel, by decide +kernel⟩
theorem ok_next {f : Addr} {fd : FuncData} (F : Fun K "next_line" "next_line" snext_line f fd) (C__longer : CallOk P w K mg base 1 "_longer" ["tail", "space"] spLng) : FnOk P w K mg base CX0 2 f fd ["length", "height", "tail", "space", "barred"] spNext := by
  refine F.ok scnext_line (fun vs H Q E h => ?_) (fun cdv A outer s H vs Q E hr h => ?_)
  · obtain ⟨L, h, t, s, b, rfl, _⟩ := h
    rfl
  · obtain ⟨L, h, t, sp, b, rfl, k⟩ := h
    refine ⟨_, (pss_cons (ps_set (i := 5) scnext_line.nd rfl (.inl rfl) (pe_op op_add (pe_op op_add (pv 1) (pv 3)) pe_int))
      (pss_cons (ps_if (PW.pt (pw_and (pt_cmpR op_gt (pv 1) pe_int (nomark _)) (pw_and1 (pt_cmpR op_le (pv 5) (pv 0) (nomark _)))))
        (pss_cons (ps_if (pt_not (pt_val (pv 4)))
          (pss_one (ps_ret (pe_tup (pa_cons (pv 5) (pa_cons pe_int (pa_cons pe_bl pa_nil))))))
          pss_nil)
        (pss_one (ps_ret (pe_tup (pa_cons (pv 5) (pa_cons (pe_cc C__longer (hr.mono (by decide)) (by rfl) (pa_cons (pv 2) (pa_cons (pv 3) pa_nil))) (pa_cons pe_bl pa_nil)))))))
        pss_nil)
      (pss_cons (ps_if (PW.pt (pw_or (pt_not (pt_val (pv 4))) (pw_or1 (pt_cmpR op_eq (pv 2) pe_int (nomark _)))))
        (pss_one (ps_ret (pe_tup (pa_cons pe_int (pa_cons pe_int (pa_cons pe_bl pa_nil))))))
        pss_nil)
      (pss_cons (ps_set (i := 6) scnext_line.nd rfl (.inl rfl) (pe_cc C__longer (hr.mono (by decide)) (by rfl) (pa_cons (pv 2) (pa_cons (pv 3) pa_nil))))
      (pss_one (ps_ret (pe_tup (pa_cons (pe_ifExp (pt_cmpR op_le (pv 6) (pv 0) (nomark _)) (pv 6) pe_int) (pa_cons pe_int (pa_cons pe_bl pa_nil)))))))))), ?_⟩
    unfold nextLine at k
    refine ⟨_, rfl, _, rfl, _, _, rfl, rfl, _, _, rfl, rfl, ?_⟩
    refine join2 (c := ¬ (h > 0 ∧ h + sp + 1 ≤ L)) (G := ?G) (fun rest => ?br) (fun hn => ?fin)
    case br =>
      refine ⟨_, rfl, _, _, rfl, rfl, _, rfl, ite2 (fun h1 => ?_) (fun h1 => ?_)⟩
      · refine ⟨_, rfl, _, rfl, _, _, rfl, rfl, _, rfl, ite2 (fun h2 => ?_) (fun h2 => ?_)⟩
        · have hh : h > 0 ∧ h + sp + 1 ≤ L := ⟨of_decide_eq_true h1, of_decide_eq_true h2⟩
          simp only [hh, and_self, if_true] at k
          cases b with
          | false =>
            refine ⟨_, rfl, _, rfl, iteT ⟨_, rfl, (by show 3 ≤ sizeLine; decide), fun p hp => ?_⟩⟩
            exact k p hp
          | true =>
            refine ⟨_, rfl, _, rfl, iteF ⟨_, rfl, _, rfl, _, rfl, _, _, rfl, (by show 3 ≤ sizeLine; decide), fun p hp => ?_⟩⟩
            exact k p hp
        · exact rest fun q => h2 (decide_eq_true q.2)
      · exact rest fun q => h1 (decide_eq_true q.1)
    case fin =>
      simp only [hn, if_false] at k
      have two : b = false ∨ t = 0 → ∀ p, H p = none → Q (.ref p) (upd H p (.tup [.int 1, .int 0, .bl false])) := fun q p hp => by
        have := k p hp
        simp only [q, if_true] at this
        exact this
      cases b with
      | false =>
        refine ⟨_, rfl, _, rfl, iteT (iteT ⟨(by show 3 ≤ sizeLine; decide), fun p hp => ?_⟩)⟩
        exact two (.inl rfl) p hp
      | true =>
        refine ⟨_, rfl, _, rfl, iteF ⟨_, rfl, rfl, _, rfl, ite2 (fun h1 => ?_) (fun h1 => ?_)⟩⟩
        · refine ⟨(by show 3 ≤ sizeLine; decide), fun p hp => ?_⟩
          exact two (.inr (V.int.inj (of_decide_eq_true h1))) p hp
        · have ht : ¬ t = 0 := fun q => h1 (decide_eq_true (by rw [q]))
          simp only [Bool.true_eq_false, ht, or_self, if_false] at k
          refine ⟨_, rfl, _, rfl, _, _, rfl, ?_⟩
          refine ⟨_, rfl, _, rfl, _, _, rfl, rfl, _, rfl, ite2 (fun h2 => ?_) (fun h2 => ?_)⟩
          · refine ⟨_, rfl, (by show 3 ≤ sizeLine; decide), fun p hp => ?_⟩
            have := k p hp
            rw [if_pos (of_decide_eq_true h2)] at this
            exact this
          · refine ⟨(by show 3 ≤ sizeLine; decide), fun p hp => ?_⟩
            have := k p hp
            rw [if_neg (fun q => h2 (decide_eq_true q))] at this
            exact this
end
end Pa
set_option maxRecDepth 100000
set_option maxHeartbeats 4000000
namespace Pa
open PySem PySem.Spec PyProof.Rows L2
section
variable {X : Cx}
theorem pi_or {tg l : Expr} {w1 w2 : TI} (h1 : PI X tg l w1) (h2 : PI X tg l w2) : PI X tg l (fun σ H R => w1 σ H R ∨ w2 σ H R) :=
  ⟨fun pins s σ H R I h => h.elim (h1.run pins s σ H R I) (h2.run pins s σ H R I)⟩
end
/-! ### ways that meet again: what a piece gives, told once -/
def tPureE (t : TE) : TE := fun σ H Q => ∃ v : V, (∀ Q' : VK, Q' v H → t σ H Q') ∧ Q v H
def tPureT (t : TT) : TT := fun σ H Q => ∃ c : Bool, (∀ Q' : Bool → Hp → Prop, Q' c H → t σ H Q') ∧ Q c H
def tByE (t : TE) : TE := fun σ H Q => ∃ R : V → Hp → Prop, (∀ Q' : VK, (∀ v H', R v H' → Q' v H') → t σ H Q') ∧ ∀ v H', R v H' → Q v H'
def tByS (t : TS) : TS := fun D σ H => ∃ R : L2.St → Hp → Prop, (∀ N : L2.St → Hp → Prop, (∀ σ' H', R σ' H' → N σ' H') → t { D with nx := N } σ H) ∧ ∀ σ' H', R σ' H' → D.nx σ' H'
section
variable {X : Cx} {e : Expr} {st : Stmt}
theorem pe_pure {t : TE} (h : PE X e t) : PE X e (tPureE t) := ⟨fun pins s σ H Q I ⟨_, f, q⟩ => h.run pins s σ H Q I (f Q q)⟩
theorem pt_pure {t : TT} (h : PT X e t) : PT X e (tPureT t) := ⟨fun pins s σ H Q I ⟨_, f, q⟩ => h.run pins s σ H Q I (f Q q)⟩
theorem pe_by {t : TE} (h : PE X e t) : PE X e (tByE t) := ⟨fun pins s σ H Q I ⟨_, f, q⟩ => h.run pins s σ H Q I (f Q q)⟩
theorem ps_by {t : TS} (h : PS X st t) : PS X st (tByS t) := ⟨fun pins s σ H D I ⟨_, f, q⟩ => h.run pins s σ H D I (f D.nx q)⟩
end
theorem all_push {α : Type} {f : α → List V} {H : Hp} {q p : Addr} {ls tv : List V} {ys : List α} {y : α} (hq : H q = some (.lst ls)) (ha : AllAt (fun H x y => TupAt H x (f y)) H ls ys) (hp : H p = none) (et : tv = f y) :
    upd (upd H p (.tup tv)) q (.lst (ls ++ [.ref p])) q = some (.lst (ls ++ [.ref p])) ∧ AllAt (fun H x y => TupAt H x (f y)) (upd (upd H p (.tup tv)) q (.lst (ls ++ [.ref p]))) (ls ++ [.ref p]) (ys ++ [y]) ∧
      (upd H p (.tup tv)) q = some (.lst ls) ∧ ∀ a o, a ≠ q → H a = some o → upd (upd H p (.tup tv)) q (.lst (ls ++ [.ref p])) a = some o := by
  have npq : q ≠ p := fun r => by rw [← r, hq] at hp; cases hp
  have e2 : (upd H p (.tup tv)) q = some (.lst ls) := (upd_ne npq).trans hq
  refine ⟨upd_same, AllAt.mono (fun _ _ => TupAt.mono (Tups.lst e2)) (AllAt.snoc (ha.mono fun _ _ => TupAt.mono (Tups.new hp)) ⟨p, rfl, by rw [upd_same, et]⟩), e2, fun a o na e => ?_⟩
  rw [upd_ne na]
  exact same_new hp _ _ e
theorem in_two (i a b : Int) : inV (.int i) [.int a, .int b] = decide (i = a ∨ i = b) := by
  show ((a == i) || ((b == i) || false)) = _
  rw [Bool.or_false, Bool.eq_iff_iff, Bool.or_eq_true, decide_eq_true_iff, beq_iff_eq, beq_iff_eq]
  constructor
  · rintro (h | h)
    · exact .inl h.symm
    · exact .inr h.symm
  · rintro (h | h)
    · exact .inl h.symm
    · exact .inr h.symm
def wordOf (kd : Bool) (h : Int) : Str := if kd = true then "kept" else if h = 0 then "top" else "open"
def StAt (K : PySem.W.Frag) (H : Hp) (p : Addr) (kd : Bool) (h t : Int) : Prop := ∃ w : Str, SqT K H p [.str w, .int h, .int t] ∧ decide (V.str w = V.str "kept") = kd ∧ w = wordOf kd h
theorem seqT_mono {K : PySem.W.Frag} {H H' : Hp} {p : Addr} {xs : List V} (a : ∀ o, H p = some o → H' p = some o) (h : SqT K H p xs) : SqT K H' p xs := by
  rcases h with (h | ⟨o, h⟩) | h
  · exact .inl (.inl (a _ h))
  · exact .inl (.inr ⟨o, a _ h⟩)
  · exact .inr h
theorem seqL_mono {K : PySem.W.Frag} {H H' : Hp} {p : Addr} {xs : List V} (a : ∀ o, H p = some o → H' p = some o) (h : SqL K H p xs) : SqL K H' p xs := by
  rcases h with (h | ⟨o, h⟩) | h
  · exact .inl (.inl (a _ h))
  · exact .inl (.inr ⟨o, a _ h⟩)
  · exact .inr h
section
variable {P : Program} {w : World} {K : PySem.W.Frag} {mg : Str → Option Value} {base : Heap} {tp C : Addr}
/-! ### line_place -/
def spPlace (K : PySem.W.Frag) : Sp := fun vs H Q _ => ∃ (a : Addr) (kd : Bool) (h t c s : Int) (i : Nat), vs = [.ref a, .int i, .int c, .int s] ∧ StAt K H a kd h t ∧
  ∀ p H', H p = none → Same H H' → H' p = some (.tup [.int (if i = 0 then s else 0), .bl (if i = 0 then kd else decide ((i : Int) = 1 ∨ (i : Int) = c - 1))]) → Q (.ref p) H'
abbrev sline_place : Stmt := topS 11
theorem scline_place : FnScope ["standing", "at", "count", "space"] ["standing", "at", "count", "space"] (defScope sline_place) := ⟨rfl, rfl, rfl, by decide +kernel, rfl, by decide +kernel, by decide +kernel⟩
theorem ok_place {f : Addr} {fd : FuncData} (F : Fun K "line_place" "line_place" sline_place f fd) : FnOk P w K mg base CX0 1 f fd ["standing", "at", "count", "space"] (spPlace K) := by
  refine F.ok scline_place (fun vs H Q E h => ?_) (fun cdv A outer s H vs Q E hr h => ?_)
  · obtain ⟨a, kd, h, t, c, s, i, rfl, _⟩ := h
    rfl
  · obtain ⟨a, kd, h, t, c, sp, i, rfl, ⟨wd, ha, hk, _⟩, k⟩ := h
    refine ⟨_, (pss_cons (ps_if (pt_cmpR op_eq (pv 1) pe_int (nomark _))
        (pss_one (ps_ret (pe_tup (pa_cons (pv 3) (pa_cons (pe_cmpR op_eq (pe_ix ix_tup (pv 0) pe_int (fun _ _ => rfl)) pe_str (nomark _)) pa_nil)))))
        pss_nil)
      (pss_one (ps_ret (pe_tup (pa_cons pe_int (pa_cons (pe_cmpR op_in_seq (pv 1) (pe_tup (pa_cons pe_int (pa_cons (pe_op op_sub (pv 2) pe_int) pa_nil))) (by rfl)) pa_nil)))))), ?_⟩
    refine ⟨_, rfl, rfl, _, rfl, ite2 (fun h1 => ?_) (fun h1 => ?_)⟩
    · have hi : i = 0 := by
        have := V.int.inj (of_decide_eq_true h1)
        omega
      refine ⟨_, rfl, _, rfl, a, _, _, _, rfl, rfl, ha, atI_nat (j := 0) rfl, rfl, (by show 2 ≤ sizeLine; decide), fun p hp => ?_⟩
      refine k p _ hp (same_new hp) ?_
      rw [upd_same, hi, if_pos rfl, if_pos rfl, ← hk]
    · have hi : ¬ i = 0 := fun q => h1 (decide_eq_true (by rw [q]; rfl))
      refine ⟨_, rfl, _, rfl, _, _, rfl, rfl, (by show 2 ≤ sizeLine; decide), fun q hq => ⟨q, _, rfl, .inr (SqT.of upd_same), rfl, rfl, (by show 2 ≤ sizeLine; decide), fun p hp => ?_⟩⟩
      have hp0 : H p = none := (same_new (o := .tup [V.int 1, V.int (c - 1)]) hq).free hp
      refine k p _ hp0 ((same_new hq).trans (same_new hp)) ?_
      rw [upd_same, if_neg hi, if_neg hi, ← in_two]
      rfl
/-! ### standing_of -/
def endK (L h t : Int) (k : Bool) : Bool × Int × Int := if h = L ∧ (k = false ∨ t = 0) then (false, 0, 0) else if k = true then (true, h, t) else (false, h, 0)
def spStand (K : PySem.W.Frag) : Sp := fun vs H Q _ => ∃ (L h t : Int) (k : Bool), vs = [.int L, .int h, .int t, .bl k] ∧ 1 ≤ h ∧
  ∀ p H', Same H H' → StAt K H' p (endK L h t k).1 (endK L h t k).2.1 (endK L h t k).2.2 → Q (.ref p) H'
theorem nt_ : decide (V.str "top" = V.str "kept") = false := by decide +kernel
theorem no_ : decide (V.str "open" = V.str "kept") = false := by decide +kernel
theorem nk_ : decide (V.str "kept" = V.str "kept") = true := by decide +kernel
abbrev sstanding_of : Stmt := topS 12
theorem scstanding_of : FnScope ["length", "height", "tail", "kept"] ["length", "height", "tail", "kept"] (defScope sstanding_of) := ⟨rfl, rfl, rfl, by decide +kernel, rfl, by decide +kernel, by decide +kernel⟩
theorem ok_stand {f : Addr} {fd : FuncData} (F : Fun K "standing_of" "standing_of" sstanding_of f fd) (T : Txt K mg tp C) : FnOk P w K mg base CX0 1 f fd ["length", "height", "tail", "kept"] (spStand K) := by
  refine F.ok scstanding_of (fun vs H Q E h => ?_) (fun cdv A outer s H vs Q E hr h => ?_)
  · obtain ⟨L, h, t, k, rfl, _⟩ := h
    rfl
  · obtain ⟨L, h, t, kp, rfl, h1h, k⟩ := h
    refine ⟨_, (pss_cons (ps_if (PW.pt (pw_and (pt_cmpR op_eq (pv 1) (pv 0) (nomark _)) (pw_and1 (PW.pt (pw_or (pt_not (pt_val (pv 3))) (pw_or1 (pt_cmpR op_eq (pv 2) pe_int (nomark _))))))))
        (pss_one (ps_ret (pe_glob (v := .ref tp) (by rfl) T.g_TOP rfl)))
        pss_nil)
      (pss_one (ps_ret (pe_ifExp (pt_val (pv 3)) (pe_tup (pa_cons pe_str (pa_cons (pv 1) (pa_cons (pv 2) pa_nil)))) (pe_tup (pa_cons pe_str (pa_cons (pv 1) (pa_cons pe_int pa_nil)))))))), ?_⟩
    have atop : (h = L ∧ (kp = false ∨ t = 0)) → Q (.ref tp) H := fun q => by
      refine k tp H (Same.refl H) ?_
      unfold endK
      rw [if_pos q]
      exact ⟨"top", T.top H, nt_, rfl⟩
    refine join2 (c := ¬ (h = L ∧ (kp = false ∨ t = 0))) (G := ?G) (fun rest => ?br) (fun hn => ?fin)
    case br =>
      refine ⟨_, rfl, _, rfl, rfl, _, rfl, ite2 (fun h1 => ?_) (fun h1 => ?_)⟩
      · have e1 := V.int.inj (of_decide_eq_true h1)
        rcases twoB kp with hb | hb
        · refine ⟨_, rfl, _, rfl, iteQ (notT hb) ⟨_, rfl, rfl, _, rfl, ite2 (fun h2 => ?_) (fun h2 => ?_)⟩⟩
          · exact atop ⟨e1, .inr (V.int.inj (of_decide_eq_true h2))⟩
          · have nq : ¬ (h = L ∧ (kp = false ∨ t = 0)) := fun q => by
              rcases q.2 with q | q
              · rw [hb] at q; cases q
              · exact h2 (decide_eq_true (by rw [q]))
            exact rest nq
        · refine ⟨_, rfl, _, rfl, iteP (notF hb) (iteT ?_)⟩
          exact atop ⟨e1, .inl hb⟩
      · refine iteF ?_
        exact rest fun q => h1 (decide_eq_true (by rw [q.1]))
    case fin =>
      unfold endK at k
      rw [if_neg hn] at k
      cases kp with
      | true =>
        refine ⟨_, rfl, _, rfl, iteT ⟨_, rfl, _, rfl, (by show 3 ≤ sizeLine; decide), fun p hp => ?_⟩⟩
        exact k p _ (same_new hp) ⟨"kept", SqT.of upd_same, nk_, rfl⟩
      | false =>
        refine ⟨_, rfl, _, rfl, iteF ⟨_, rfl, (by show 3 ≤ sizeLine; decide), fun p hp => ?_⟩⟩
        exact k p _ (same_new hp) ⟨"open", SqT.of upd_same, no_, (if_neg (show ¬ h = 0 by omega)).symm⟩
end
end Pa
set_option maxRecDepth 100000
set_option maxHeartbeats 4000000
namespace Pa
open PySem PySem.Spec PyProof.Rows L2
/-- a book's blocks: few, small -/
structure Book (bs : List Bl) : Prop where
  few : bs.length ≤ 20
  small : ∀ b ∈ bs, b.c ≤ 100 ∧ 0 ≤ b.s
theorem linesOf_len (bs : List Bl) : ∀ n, (∀ b ∈ bs, b.c ≤ n) → (linesOf bs).ls.length ≤ bs.length * n := by
  intro n
  rw [← List.reverse_reverse bs]
  generalize bs.reverse = r
  induction r with
  | nil => intro _; simp [linesOf]
  | cons b r ih =>
    intro h
    rw [List.reverse_cons] at h ⊢
    rw [linesOf_snoc, List.length_append, List.length_singleton]
    have h1 := ih fun x hx => h x (List.mem_append_left _ hx)
    have h2 := h b (by simp)
    show ((linesOf r.reverse).ls ++ blLines b.c b.s (linesOf r.reverse).kp ((linesOf r.reverse).du || b.g) b.c).length ≤ _
    rw [List.length_append, Nat.add_mul, Nat.one_mul]
    have : (blLines b.c b.s (linesOf r.reverse).kp ((linesOf r.reverse).du || b.g) b.c).length = b.c := by unfold blLines; simp
    omega
theorem Book.len {bs : List Bl} (B : Book bs) : (linesOf bs).ls.length ≤ 2000 := by
  have h1 := linesOf_len bs 100 fun b hb => (B.small b hb).1
  have h2 := B.few
  omega
theorem AllAt.imp {α : Type} {R : Hp → V → α → Prop} {H H' : Hp} : ∀ {xs : List V} {ys : List α}, (∀ x y, x ∈ xs → R H x y → R H' x y) → AllAt R H xs ys → AllAt R H' xs ys
  | [], [], _, _ => trivial
  | x :: xs, _ :: _, f, h => ⟨f _ _ List.mem_cons_self h.1, AllAt.imp (fun x y hx => f x y (List.mem_cons_of_mem _ hx)) h.2⟩
  | [], _ :: _, _, h => h.elim
  | _ :: _, [], _, h => h.elim
theorem AllAt.rev {α : Type} {R : Hp → V → α → Prop} {H : Hp} : ∀ {xs : List V} {ys : List α}, AllAt R H xs ys → AllAt R H xs.reverse ys.reverse
  | [], [], _ => trivial
  | x :: xs, y :: ys, h => by
    rw [List.reverse_cons, List.reverse_cons]
    exact AllAt.snoc (AllAt.rev h.2) h.1
  | [], _ :: _, h => h.elim
  | _ :: _, [], h => h.elim
theorem dec_int (r z : Int) : decide (V.int r = V.int z) = decide (r = z) := by
  by_cases h : r = z
  · rw [h]; simp
  · rw [decide_eq_false h, decide_eq_false (fun q => h (V.int.inj q))]
theorem ln_get {ls : List Ln} {i : Nat} {l : Ln} (h : ls[i]? = some l) : ln ls i = l := by
  unfold ln
  rw [h]
  rfl
theorem lnTo {H : Hp} {lv : List V} {ls : List Ln} {i : Nat} (h : AllAt LnAt H lv ls) (hi : i < ls.length) : ∃ t, lv[i]? = some (.ref t) ∧ H t = some (.tup [.int (ln ls i).sp, .bl (ln ls i).br, .bl (ln ls i).du]) := by
  obtain ⟨x, hx, t, rfl, ht⟩ := h.to (List.getElem?_eq_getElem hi)
  have e : ln ls i = ls[i] := ln_get (List.getElem?_eq_getElem hi)
  rw [← e] at ht
  exact ⟨t, hx, ht⟩
theorem lnTo' {H H' : Hp} {lv : List V} {ls : List Ln} {i : Nat} (s : Same H H') (h : AllAt LnAt H lv ls) (hi : i < ls.length) : ∃ t, lv[i]? = some (.ref t) ∧ H' t = some (.tup [.int (ln ls i).sp, .bl (ln ls i).br, .bl (ln ls i).du]) := by
  obtain ⟨t, h1, h2⟩ := lnTo h hi
  exact ⟨t, h1, s _ _ h2⟩
end Pa
set_option maxRecDepth 100000
set_option maxHeartbeats 4000000
namespace Pa
open PySem PySem.Spec PyProof.Rows L2
/-! ### methods, by one fact each -/
structure MethOk (P : Program) (w : World) (K : PySem.W.Frag) (mg : Str → Option Value) (base : Heap) (C : Addr) (k : Nat) (m : Str) (ps : List Str) (sp : Sp) : Prop where
  ok : ∃ (f : Addr) (fd : FuncData), Meth K C m f ∧ Binds K fd ps [] ∧ FnOk P w K mg base CX0 k f fd ps sp
section
variable {X : Cx} {k : Nat} {ps : List Str} {sp : Sp} {m : Str} {C : Addr} {apos pos : Pos} {o e : Expr} {es : List Expr} {t : TA} {ta : TE} {pl : Sem Bool}
theorem pe_mc (he : PE X o ta) (c : Cls X.K C) (M : MethOk X.prog X.w X.K X.mg X.base C k m ps sp) (hr : Room k X.A) (ha : PA X (e :: es) t)
    (hst : starEach (e :: es) X.env = (false, eval e X.env) :: starEach es X.env := by rfl) (hpl : (backTo pos (starEach es X.env)).any (·.1) = false := by rfl)
    (ht : eval (.Call (.Attribute o m apos) (e :: es) [] pos) X.env = (do
      let z ← eval o X.env
      standAt apos.atName
      let (f, first) ← holding [z] (getMethod z m pl)
      callWith pos f first (backTo pos (starEach (e :: es) X.env)) (backToKw pos (keywordEach [] X.env))) := by rfl) :
    PE X (.Call (.Attribute o m apos) (e :: es) [] pos) (tMeth C m sp [] E0 ta t) := by
  obtain ⟨f, fd, h1, h2, h3⟩ := M.ok
  exact pe_meth he c h1 h3 hr h2 .nil pass0 ha hst hpl ht
theorem pe_mc0 (he : PE X o ta) (c : Cls X.K C) (M : MethOk X.prog X.w X.K X.mg X.base C k m ps sp) (hr : Room k X.A)
    (ht : eval (.Call (.Attribute o m apos) [] [] pos) X.env = (do
      let z ← eval o X.env
      standAt apos.atName
      let (f, first) ← holding [z] (getMethod z m pl)
      callWith pos f first (backTo pos (starEach [] X.env)) (backToKw pos (keywordEach [] X.env))) := by rfl) :
    PE X (.Call (.Attribute o m apos) [] [] pos) (tMeth C m sp [] E0 ta tNil) := by
  obtain ⟨f, fd, h1, h2, h3⟩ := M.ok
  exact pe_meth0 he c h1 h3 hr h2 .nil pass0 ht
end
/-! ### a Page's attributes -/
/-- None, True, False -/
def wv : Option Bool → V
  | none => .non
  | some b => .bl b
theorem wv_set (o : Option Bool) (h : o = none) : wv (settleW o) = .bl false := by rw [h]; rfl
def pf (L : Int) (st rl : Addr) (lo : Int) (ww : Option Bool) : List (Str × V) := [("length", .int L), ("_standing", .ref st), ("_rows", .ref rl), ("_loose", .int lo), ("_went_over", wv ww)]
section
variable (L : Int) (st rl : Addr) (lo : Int) (ww : Option Bool)
theorem pf_length : (pf L st rl lo ww).lookup ("length" : Str) = some (.int L) := rfl
theorem pf_standing : (pf L st rl lo ww).lookup ("_standing" : Str) = some (.ref st) := rfl
theorem pf_rows : (pf L st rl lo ww).lookup ("_rows" : Str) = some (.ref rl) := rfl
theorem pf_loose : (pf L st rl lo ww).lookup ("_loose" : Str) = some (.int lo) := rfl
theorem pf_went : (pf L st rl lo ww).lookup ("_went_over" : Str) = some (wv ww) := rfl
theorem put_standing (st' : Addr) : putF "_standing" (.ref st') (pf L st rl lo ww) = pf L st' rl lo ww := rfl
theorem put_loose (lo' : Int) : putF "_loose" (.int lo') (pf L st rl lo ww) = pf L st rl lo' ww := rfl
theorem put_went (w2 : Option Bool) : putF "_went_over" (wv w2) (pf L st rl lo ww) = pf L st rl lo w2 := rfl
theorem no_settle : (pf L st rl lo ww).lookup ("_settle" : Str) = none := rfl
theorem no_put : (pf L st rl lo ww).lookup ("_put" : Str) = none := rfl
theorem no_over : (pf L st rl lo ww).lookup ("_go_over" : Str) = none := rfl
theorem no_begin : (pf L st rl lo ww).lookup ("begin" : Str) = none := rfl
theorem no_block : (pf L st rl lo ww).lookup ("block" : Str) = none := rfl
theorem no_finish : (pf L st rl lo ww).lookup ("finish" : Str) = none := rfl
theorem put_all (L : Int) (st rl : Addr) (lo : Int) : putF "_went_over" (.bl false) (putF "_loose" (.int lo) (putF "_rows" (.ref rl) (putF "_standing" (.ref st) (putF "length" (.int L) [])))) = pf L st rl lo (some false) := rfl
end
structure PA' (C : Addr) (L : Int) (x dx rl st : Addr) (lo : Int) (ww : Option Bool) (rows : List Int) (H : Hp) : Prop where
  ob : H x = some (.ins C dx (pf L st rl lo ww))
  rs : H rl = some (.lst (rows.map V.int))
def Keep (x rl : Addr) (H H' : Hp) : Prop := ∀ a o, a ≠ x → a ≠ rl → H a = some o → H' a = some o
theorem Keep.trans {x rl : Addr} {H H1 H2 : Hp} (a : Keep x rl H H1) (b : Keep x rl H1 H2) : Keep x rl H H2 := fun u o h1 h2 e => b u o h1 h2 (a u o h1 h2 e)
theorem Keep.of {x rl : Addr} {H H' : Hp} (a : Same H H') : Keep x rl H H' := fun u o _ _ e => a u o e
section
variable {C x dx rl st : Addr} {L lo : Int} {ww : Option Bool} {rows : List Int} {H H' : Hp}
theorem PA'.ne (h : PA' C L x dx rl st lo ww rows H) : x ≠ rl := fun q => by
  have e1 := h.ob
  rw [q, h.rs] at e1
  cases e1
theorem PA'.same (h : PA' C L x dx rl st lo ww rows H) (s : Same H H') : PA' C L x dx rl st lo ww rows H' := ⟨s _ _ h.ob, s _ _ h.rs⟩
theorem PA'.put (h : PA' C L x dx rl st lo ww rows H) (st' : Addr) (lo' : Int) (w2 : Option Bool) : PA' C L x dx rl st' lo' w2 rows (upd H x (.ins C dx (pf L st' rl lo' w2))) ∧ Keep x rl H (upd H x (.ins C dx (pf L st' rl lo' w2))) :=
  ⟨⟨upd_same, (upd_ne h.ne.symm).trans h.rs⟩, fun a o h1 _ e => (upd_ne h1).trans e⟩
theorem PA'.row (h : PA' C L x dx rl st lo ww rows H) (rows' : List Int) : PA' C L x dx rl st lo ww rows' (upd H rl (.lst (rows'.map V.int))) ∧ Keep x rl H (upd H rl (.lst (rows'.map V.int))) :=
  ⟨⟨(upd_ne h.ne).trans h.ob, upd_same⟩, fun a o _ h2 e => (upd_ne h2).trans e⟩
end
section
variable {P : Program} {w : World} {K : PySem.W.Frag} {mg : Str → Option Value} {base : Heap} {tp C : Addr}
/-! ### _settle -/
def spSettle (C : Addr) : Sp := fun vs H Q _ => ∃ (x dx rl st : Addr) (L lo : Int) (ww : Option Bool) (rows : List Int), vs = [.ref x] ∧ PA' C L x dx rl st lo ww rows H ∧ ∀ H', PA' C L x dx rl st 0 (settleW ww) rows H' → Keep x rl H H' → Q .non H'
abbrev sPage__settle : Stmt := inClass (topS 14) 6
theorem scPage__settle : FnScope ["self"] ["self"] (defScope sPage__settle) := ⟨rfl, rfl, rfl, by decide +kernel, rfl, by decide +kernel, by decide +kernel⟩
theorem ok_settle {f : Addr} {fd : FuncData} (F : Fun K "_settle" "Page._settle" sPage__settle f fd) (T : Txt K mg tp C) : FnOk P w K mg base CX0 1 f fd ["self"] (spSettle C) := by
  refine F.ok scPage__settle (fun vs H Q E h => ?_) (fun cdv A outer s H vs Q E hr h => ?_)
  · obtain ⟨x, dx, rl, st, L, lo, ww, rows, rfl, _⟩ := h
    rfl
  · obtain ⟨x, dx, rl, st, L, lo, ww, rows, rfl, pa, k⟩ := h
    refine ⟨_, (pss_cons (ps_fld (pv 0) pe_int rfl)
      (pss_one (ps_if (pt_cmpR op_isN (pe_fld (pv 0) rfl) pe_non (nomark _))
        (pss_one (ps_fld (pv 0) pe_bl rfl))
        pss_nil))), ?_⟩
    obtain ⟨p1, p2⟩ := pa.put st 0 ww
    refine ⟨_, rfl, x, C, dx, _, rfl, pa.ob, T.cl, T.nO, (by show 5 < 1000; decide), ?_⟩
    rw [put_loose]
    refine ⟨_, rfl, x, C, dx, _, _, rfl, p1.ob, T.cl, T.nW, pf_went _ _ _ _ _, rfl, _, rfl, ?_⟩
    cases ww with
    | none =>
      refine iteP (by rfl) ?_
      obtain ⟨q1, q2⟩ := p1.put st 0 (some false)
      refine ⟨_, rfl, x, C, dx, _, rfl, p1.ob, T.cl, T.nW, (by show 5 < 1000; decide), ?_⟩
      rw [show V.bl false = wv (some false) from rfl, put_went]
      exact k _ q1 (p2.trans q2)
    | some v =>
      refine iteQ (by show ¬ decide (V.bl v = V.non) = true; simp) ?_
      exact k _ p1 p2
/-! ### begin -/
def spBegin (C tp : Addr) : Sp := fun vs H Q _ => ∃ (x dx rl st : Addr) (L lo : Int) (ww : Option Bool) (rows : List Int), vs = [.ref x] ∧ PA' C L x dx rl st lo ww rows H ∧ ∀ H', PA' C L x dx rl tp 0 (settleW ww) rows H' → Keep x rl H H' → Q .non H'
abbrev sPage_begin : Stmt := inClass (topS 14) 2
theorem scPage_begin : FnScope ["self"] ["self"] (defScope sPage_begin) := ⟨rfl, rfl, rfl, by decide +kernel, rfl, by decide +kernel, by decide +kernel⟩
theorem ok_begin {f : Addr} {fd : FuncData} (F : Fun K "begin" "Page.begin" sPage_begin f fd) (T : Txt K mg tp C) (M__settle : MethOk P w K mg base C 1 "_settle" ["self"] (spSettle C)) : FnOk P w K mg base CX0 2 f fd ["self"] (spBegin C tp) := by
  refine F.ok scPage_begin (fun vs H Q E h => ?_) (fun cdv A outer s H vs Q E hr h => ?_)
  · obtain ⟨x, dx, rl, st, L, lo, ww, rows, rfl, _⟩ := h
    rfl
  · obtain ⟨x, dx, rl, st, L, lo, ww, rows, rfl, pa, k⟩ := h
    refine ⟨_, (pss_cons (ps_fld (pv 0) (pe_glob (v := .ref tp) (by rfl) T.g_TOP rfl) rfl)
      (pss_one (ps_expr (pe_mc0 (pv 0) T.cl M__settle (hr.mono (by decide)))))), ?_⟩
    obtain ⟨p1, p2⟩ := pa.put tp lo ww
    refine ⟨_, rfl, x, C, dx, _, rfl, pa.ob, T.cl, T.nS, (by show 5 < 1000; decide), ?_⟩
    rw [put_standing]
    refine ⟨_, rfl, x, dx, _, rfl, p1.ob, no_settle _ _ _ _ _, x, dx, rl, tp, L, lo, ww, rows, rfl, p1, fun H2 q1 q2 => ?_⟩
    exact k _ q1 (p2.trans q2)
/-! ### _put -/
def spPut (C : Addr) : Sp := fun vs H Q _ => ∃ (x dx rl st : Addr) (L lo h t : Int) (ww : Option Bool) (rows : List Int), vs = [.ref x, .int h, .int t] ∧ PA' C L x dx rl st lo ww rows H ∧ rows.length ≤ 100000 ∧ ∀ H', PA' C L x dx rl st (if t > 1 then lo + 1 else t) (if t > 1 then ww else settleW ww) (rows ++ [h - 1]) H' → Keep x rl H H' → Q .non H'
abbrev sPage__put : Stmt := inClass (topS 14) 4
theorem scPage__put : FnScope ["self", "height", "tail"] ["self", "height", "tail"] (defScope sPage__put) := ⟨rfl, rfl, rfl, by decide +kernel, rfl, by decide +kernel, by decide +kernel⟩
theorem ok_put {f : Addr} {fd : FuncData} (F : Fun K "_put" "Page._put" sPage__put f fd) (T : Txt K mg tp C) (M__settle : MethOk P w K mg base C 1 "_settle" ["self"] (spSettle C)) : FnOk P w K mg base CX0 2 f fd ["self", "height", "tail"] (spPut C) := by
  refine F.ok scPage__put (fun vs H Q E h => ?_) (fun cdv A outer s H vs Q E hr h => ?_)
  · obtain ⟨x, dx, rl, st, L, lo, h, t, ww, rows, rfl, _⟩ := h
    rfl
  · obtain ⟨x, dx, rl, st, L, lo, h, t, ww, rows, rfl, pa, hlen, k⟩ := h
    refine ⟨_, (pss_cons (ps_expr (pe_bm PySem.F.plainAttrs_list PySem.F.slot_list_append PySem.F.type_list_append mt_append (pe_fld (pv 0) rfl) (pa_cons (pe_op op_sub (pv 1) pe_int) pa_nil)))
      (pss_one (ps_if (pt_cmpR op_gt (pv 2) pe_int (nomark _))
        (pss_one (ps_fldaug (pv 0) pe_int in_add))
        (pss_cons (ps_expr (pe_mc0 (pv 0) T.cl M__settle (hr.mono (by decide))))
        (pss_one (ps_fld (pv 0) (pv 2) rfl)))))), ?_⟩
    obtain ⟨p1, p2⟩ := pa.row (rows ++ [h - 1])
    have em : (rows ++ [h - 1]).map V.int = rows.map V.int ++ [.int (h - 1)] := by simp
    rw [em] at p1 p2
    refine ⟨_, rfl, x, C, dx, _, _, rfl, pa.ob, T.cl, T.nR, pf_rows _ _ _ _ _, .inl ⟨rfl, _, SqL.of pa.rs⟩, _, rfl, _, _, rfl, rfl, rl, _, _, rfl, rfl, pa.rs, ?_, ?_⟩
    · rw [List.length_map]; exact Nat.lt_of_le_of_lt hlen (by decide)
    refine ⟨_, rfl, _, _, rfl, rfl, _, rfl, ite2 (fun h1 => ?_) (fun h1 => ?_)⟩
    · rw [if_pos (of_decide_eq_true h1), if_pos (of_decide_eq_true h1)] at k
      obtain ⟨q1, q2⟩ := p1.put st (lo + 1) ww
      refine ⟨_, rfl, x, C, dx, _, _, rfl, p1.ob, T.cl, T.nO, pf_loose _ _ _ _ _, _, _, rfl, rfl, dx, _, p1.ob, (by show 5 < 1000; decide), ?_⟩
      rw [put_loose]
      exact k _ q1 (p2.trans q2)
    · rw [if_neg (fun r => h1 (decide_eq_true r)), if_neg (fun r => h1 (decide_eq_true r))] at k
      refine ⟨_, rfl, x, dx, _, rfl, p1.ob, no_settle _ _ _ _ _, x, dx, rl, st, L, lo, ww, _, rfl, p1, fun H2 q1 q2 => ?_⟩
      obtain ⟨r1, r2⟩ := q1.put st t (settleW ww)
      refine ⟨_, rfl, _, rfl, x, C, dx, _, rfl, q1.ob, T.cl, T.nO, (by show 5 < 1000; decide), ?_⟩
      rw [put_loose]
      exact k _ r1 ((p2.trans q2).trans r2)
end
end Pa
set_option maxRecDepth 100000
set_option maxHeartbeats 4000000
namespace Pa
open PySem PySem.Spec PyProof.Rows L2
theorem cutV_from {xs : List V} {n : Nat} (h : n ≤ xs.length) : cutV xs (some (n : Int)) none = xs.drop n := by
  unfold cutV
  rw [HT.sIx_nat, HT.sIx_none, Nat.min_eq_left h]
  exact List.take_of_length_le (by rw [List.length_drop]; exact Nat.le_refl _)
theorem overR_len (rows : List Int) (lo b : Int) : (overR rows lo b).length = rows.length := by
  unfold overR
  rw [List.length_append, List.length_map, List.length_take, List.length_drop]
  omega
theorem endR_eq (L : Int) (p : RP) (k : Bool) : endR L p k = ⟨(endK L p.h p.t k).1, (endK L p.h p.t k).2.1, (endK L p.h p.t k).2.2, if (endK L p.h p.t k).2.2 = 0 then 0 else p.lo, p.rows, if (endK L p.h p.t k).2.2 = 0 then settleW p.w else p.w⟩ := by
  unfold endR endK
  split
  · rfl
  · split
    · rfl
    · rfl
theorem seqT_keep {K : PySem.W.Frag} {x rl C dx : Addr} {fs : List (Str × V)} {ys xs : List V} {H H' : Hp} {p : Addr} (hk : Keep x rl H H') (hx : H x = some (.ins C dx fs)) (hr : H rl = some (.lst ys)) (h : SqT K H p xs) : SqT K H' p xs := by
  rcases h with (h | ⟨o, h⟩) | h
  · exact .inl (.inl (hk _ _ (fun q => by rw [q, hx] at h; cases h) (fun q => by rw [q, hr] at h; cases h) h))
  · exact .inl (.inr ⟨o, hk _ _ (fun q => by rw [q, hx] at h; cases h) (fun q => by rw [q, hr] at h; cases h) h⟩)
  · exact .inr h
theorem StAt.keep {K : PySem.W.Frag} {x rl dx st p C : Addr} {L lo h t : Int} {ww : Option Bool} {rows : List Int} {kd : Bool} {H H' : Hp} (hk : Keep x rl H H') (pa : PA' C L x dx rl st lo ww rows H) (s : StAt K H p kd h t) : StAt K H' p kd h t := by
  obtain ⟨w, s1, s2, s3⟩ := s
  exact ⟨w, seqT_keep hk pa.ob pa.rs s1, s2, s3⟩
section
variable {P : Program} {w : World} {K : PySem.W.Frag} {mg : Str → Option Value} {base : Heap} {tp C : Addr}
/-! ### _go_over -/
def spOver (C : Addr) : Sp := fun vs H Q _ => ∃ (x dx rl st : Addr) (L lo bf : Int) (ww : Option Bool) (rows : List Int), vs = [.ref x, .int bf] ∧ PA' C L x dx rl st lo ww rows H ∧ 0 ≤ lo ∧ lo ≤ (rows.length : Int) ∧ rows.length ≤ 100000 ∧
  ∀ H', PA' C L x dx rl st lo (overW ww) (overR rows lo bf) H' → Keep x rl H H' → Q .non H'
abbrev sPage__go_over : Stmt := inClass (topS 14) 5
theorem scPage__go_over : FnScope ["self", "rows", "first", "row"] ["self", "rows"] (defScope sPage__go_over) := ⟨rfl, rfl, rfl, by decide +kernel, rfl, by decide +kernel, by decide +kernel⟩
theorem ok_over {f : Addr} {fd : FuncData} (F : Fun K "_go_over" "Page._go_over" sPage__go_over f fd) (T : Txt K mg tp C) : FnOk P w K mg base CX0 1 f fd ["self", "rows"] (spOver C) := by
  refine F.ok scPage__go_over (fun vs H Q E h => ?_) (fun cdv A outer s H vs Q E hr h => ?_)
  · obtain ⟨x, dx, rl, st, L, lo, bf, ww, rows, rfl, _⟩ := h
    rfl
  · obtain ⟨x, dx, rl, st, L, lo, bf, ww, rows, rfl, pa, lo0, lo1, hlen, k⟩ := h
    refine ⟨_, (pss_cons (ps_set (i := 2) scPage__go_over.nd rfl (.inl rfl) (pe_pure (pe_op op_sub (pe_callB call_len_seq (by rfl) T.b_len PySem.boot_len (pa_cons (pe_fld (pv 0) rfl) pa_nil)) (pe_fld (pv 0) rfl))))
      (pss_cons (ps_asg (pe_lc (own := [("row", 3)]) (g := gName 3) (tt := tYes) rfl scPage__go_over.nd (pi_list (pe_slice sl_list (pe_fld (pv 0) rfl) (po_some (pv 2)) po_none)) (blkOk_by (N := ["self", "rows", "first", "row"]) (sc := defScope sPage__go_over) (by decide +kernel)) (fun _ _ _ _ _ => (pg_name (i := 3) scPage__go_over.nd rfl (.inl rfl))) (fun _ _ _ _ _ => pts_nil) (fun _ _ _ _ _ => (pe_op op_sub (pv 3) (pv 1)))) (pg_end (pe_fld (pv 0) rfl) (pv 2)))
      (pss_one (ps_if (pt_cmpR op_isN (pe_fld (pv 0) rfl) pe_non (nomark _))
        (pss_one (ps_fld (pv 0) pe_bl rfl))
        pss_nil)))), ?_⟩
    have ea : ((rows.map V.int).length : Int) - lo = ((rows.length - lo.toNat : Nat) : Int) := by rw [List.length_map]; omega
    refine ⟨.int ((rows.length - lo.toNat : Nat) : Int), fun Q' hQ => ⟨_, rfl, x, C, dx, _, _, rfl, pa.ob, T.cl, T.nR, pf_rows _ _ _ _ _, rl, _, rfl, .inl (SqL.of pa.rs), _, rfl, x, C, dx, _, _, rfl, pa.ob, T.cl, T.nO, pf_loose _ _ _ _ _, _, _, rfl, rfl, ?_⟩, ?_⟩
    · rw [← ea] at hQ
      exact hQ
    generalize hn : rows.length - lo.toNat = n
    have hnl : n ≤ rows.length := by omega
    refine ⟨_, rfl, x, C, dx, _, _, rfl, pa.ob, T.cl, T.nR, pf_rows _ _ _ _ _, _, rfl, _, rfl, rl, _, rfl, SqL.of pa.rs, fun S hS => ⟨S, rfl, ⟨_, SqL.of upd_same⟩, fun D hD => ?_⟩⟩
    have ecut : cutV (rows.map V.int) (some (n : Int)) none = (rows.drop n).map V.int := by rw [cutV_from (by rw [List.length_map]; exact hnl), List.map_drop]
    rw [ecut] at hD ⊢
    have sS : Same H (upd H S (.lst ((rows.drop n).map V.int))) := same_new hS
    have hS0 : (upd H S (.lst ((rows.drop n).map V.int))) S = some (.lst ((rows.drop n).map V.int)) := upd_same
    generalize upd H S (.lst ((rows.drop n).map V.int)) = H1 at hD sS hS0 ⊢
    refine lc_list (K := K) (a := S) (xs := (rows.drop n).map V.int) (fun i H3 => Same H1 H3 ∧ H3 D = some (.lst (((rows.drop n).take i).map fun r => V.int (r - bf)))) ⟨same_new hD, upd_same⟩ (fun i H3 _ q => SqL.of (q.1 _ _ hS0)) ?_ ?_
    · rintro i y H3 hi ⟨s3, h3⟩
      rw [List.getElem?_map] at hi
      obtain ⟨r, hr, rfl⟩ := Option.map_eq_some_iff.mp hi
      have hil : i < rows.length := by
        have := (List.getElem?_eq_some_iff.mp hr).1
        rw [List.length_drop] at this
        omega
      refine ⟨rfl, ?_⟩
      refine ⟨_, rfl, _, rfl, _, _, rfl, rfl, _, h3, ?_, fun q o e => ?_, ?_⟩
      · rw [List.length_map, List.length_take]
        exact Nat.lt_of_le_of_lt (m := 100000) (by omega) (by decide)
      · rw [upd_ne (fun r => by rw [r, hD] at e; cases e)]
        exact s3 _ _ e
      · rw [upd_same, List.take_add_one, hr]
        simp
    · rintro H3 ⟨s3, h3⟩
      rw [List.length_map, List.take_of_length_le (Nat.le_refl _)] at h3
      have sH : Same H H3 := sS.trans s3
      have nrD : rl ≠ D := fun r => by
        have := sS _ _ pa.rs
        rw [r, hD] at this
        cases this
      have el : (rows.map V.int).take n ++ (rows.drop n).map (fun r => V.int (r - bf)) = (overR rows lo bf).map V.int := by
        unfold overR
        rw [hn, List.map_append, List.map_map, ← List.map_take]
        rfl
      refine ⟨_, rfl, x, C, dx, _, _, rfl, sH _ _ pa.ob, T.cl, T.nR, pf_rows _ _ _ _ _, _, rfl, rl, D, _, _, n, rfl, rfl, rfl, sH _ _ pa.rs, h3, nrD, by rw [List.length_map]; exact hnl, ?_, ?_⟩
      · rw [List.length_map, List.length_map, List.length_drop]
        exact Nat.le_trans (m := 300000) (by omega) (by decide)
      rw [el]
      obtain ⟨p1, p2⟩ := (pa.same sH).row (overR rows lo bf)
      refine ⟨_, rfl, x, C, dx, _, _, rfl, p1.ob, T.cl, T.nW, pf_went _ _ _ _ _, rfl, _, rfl, ?_⟩
      cases ww with
      | none =>
        refine iteP (by rfl) ?_
        obtain ⟨q1, q2⟩ := p1.put st lo (some true)
        refine ⟨_, rfl, x, C, dx, _, rfl, p1.ob, T.cl, T.nW, (by show 5 < 1000; decide), ?_⟩
        rw [show V.bl true = wv (some true) from rfl, put_went]
        exact k _ q1 (((Keep.of sH).trans p2).trans q2)
      | some v =>
        refine iteQ (by show ¬ decide (V.bl v = V.non) = true; simp) ?_
        exact k _ p1 ((Keep.of sH).trans p2)
/-! ### __init__ -/
def spInit (C tp : Addr) : Sp := fun vs H Q _ => ∃ (x dx : Addr) (L : Int), vs = [.ref x, .int L] ∧ H x = some (.ins C dx []) ∧ ∀ H' rl, H rl = none → PA' C L x dx rl tp 0 (some false) [] H' → (∀ a o, a ≠ x → H a = some o → H' a = some o) → Q .non H'
abbrev sPage___init__ : Stmt := inClass (topS 14) 0
theorem scPage___init__ : FnScope ["self", "length"] ["self", "length"] (defScope sPage___init__) := ⟨rfl, rfl, rfl, by decide +kernel, rfl, by decide +kernel, by decide +kernel⟩
theorem ok_init {f : Addr} {fd : FuncData} (F : Fun K "__init__" "Page.__init__" sPage___init__ f fd) (T : Txt K mg tp C) : FnOk P w K mg base CX0 1 f fd ["self", "length"] (spInit C tp) := by
  refine F.ok scPage___init__ (fun vs H Q E h => ?_) (fun cdv A outer s H vs Q E hr h => ?_)
  · obtain ⟨x, dx, L, rfl, _⟩ := h
    rfl
  · obtain ⟨x, dx, L, rfl, hx, k⟩ := h
    refine ⟨_, (pss_cons (ps_fld (pv 0) (pv 1) rfl)
      (pss_cons (ps_fld (pv 0) (pe_glob (v := .ref tp) (by rfl) T.g_TOP rfl) rfl)
      (pss_cons (ps_fld (pv 0) (pe_lst pa_nil) rfl)
      (pss_cons (ps_fld (pv 0) pe_int rfl)
      (pss_one (ps_fld (pv 0) pe_bl rfl)))))), ?_⟩
    refine ⟨_, rfl, _, rfl, x, C, dx, _, rfl, hx, T.cl, T.nL, (by show 0 < 1000; decide), ?_⟩
    refine ⟨_, rfl, x, C, dx, _, rfl, upd_same, T.cl, T.nS, (by show 1 < 1000; decide), ?_⟩
    rw [upd_upd]
    refine ⟨Nat.zero_le _, fun rl hrl => ?_⟩
    have nx : x ≠ rl := fun r => by rw [r, upd_same] at hrl; cases hrl
    have hrl0 : H rl = none := (upd_ne nx.symm).symm.trans hrl
    refine ⟨_, rfl, x, C, dx, _, rfl, (upd_ne nx).trans upd_same, T.cl, T.nR, (by show 2 < 1000; decide), ?_⟩
    refine ⟨_, rfl, x, C, dx, _, rfl, upd_same, T.cl, T.nO, (by show 3 < 1000; decide), ?_⟩
    refine ⟨_, rfl, x, C, dx, _, rfl, upd_same, T.cl, T.nW, (by show 4 < 1000; decide), ?_⟩
    rw [upd_upd, upd_upd, put_all]
    refine k _ rl hrl0 ⟨upd_same, (upd_ne nx.symm).trans upd_same⟩ fun a o ha e => ?_
    rw [upd_ne ha, upd_ne (ne_of_none e hrl0), upd_ne ha]
    exact e
/-! ### finish -/
def spFinish (C : Addr) : Sp := fun vs H Q _ => ∃ (x dx rl st : Addr) (L lo : Int) (ww : Option Bool) (rows : List Int), vs = [.ref x] ∧ PA' C L x dx rl st lo ww rows H ∧ rows.length ≤ 100000 ∧ ∀ p H' ys, H p = none → Same H H' → H' p = some (.lst ys) → AllAt RwAt H' ys rows → Q (.ref p) H'
abbrev sPage_finish : Stmt := inClass (topS 14) 11
theorem scPage_finish : FnScope ["self", "row"] ["self"] (defScope sPage_finish) := ⟨rfl, rfl, rfl, by decide +kernel, rfl, by decide +kernel, by decide +kernel⟩
theorem ok_finish {f : Addr} {fd : FuncData} (F : Fun K "finish" "Page.finish" sPage_finish f fd) (T : Txt K mg tp C) : FnOk P w K mg base CX0 1 f fd ["self"] (spFinish C) := by
  refine F.ok scPage_finish (fun vs H Q E h => ?_) (fun cdv A outer s H vs Q E hr h => ?_)
  · obtain ⟨x, dx, rl, st, L, lo, ww, rows, rfl, _⟩ := h
    rfl
  · obtain ⟨x, dx, rl, st, L, lo, ww, rows, rfl, pa, hlen, k⟩ := h
    refine ⟨_, (pss_one (ps_ret (pe_lc (own := [("row", 1)]) (g := gName 1) (tt := tYes) rfl scPage_finish.nd (pi_list (pe_fld (pv 0) rfl)) (blkOk_by (N := ["self", "row"]) (sc := defScope sPage_finish) (by decide +kernel)) (fun _ _ _ _ _ => (pg_name (i := 1) scPage_finish.nd rfl (.inl rfl))) (fun _ _ _ _ _ => pts_nil) (fun _ _ _ _ _ => (pe_tup (pa_cons (pe_cmpR op_eq (pv 1) pe_int (nomark _)) (pa_cons (pv 1) pa_nil))))))), ?_⟩
    refine ⟨_, rfl, x, C, dx, _, _, rfl, pa.ob, T.cl, T.nR, pf_rows _ _ _ _ _, rl, rfl, ⟨_, SqL.of pa.rs⟩, fun D hD => ?_⟩
    refine lc_list (K := K) (a := rl) (xs := rows.map V.int) (fun i H3 => Same H H3 ∧ ∃ acc, H3 D = some (.lst acc) ∧ AllAt RwAt H3 acc (rows.take i)) ⟨same_new hD, [], upd_same, trivial⟩ (fun i H3 _ q => SqL.of (q.1 _ _ pa.rs)) ?_ ?_
    · rintro i y H3 hi ⟨s3, acc, hacc, hra⟩
      rw [List.getElem?_map] at hi
      obtain ⟨r, hr, rfl⟩ := Option.map_eq_some_iff.mp hi
      refine ⟨rfl, ?_⟩
      refine ⟨_, rfl, rfl, _, rfl, (by show 2 ≤ sizeLine; decide), fun p hp => ?_⟩
      obtain ⟨p1, p2, p3, p4⟩ := all_push (f := fun r : Int => [.bl (decide (r = 0)), .int r]) (y := r) (tv := [.bl (decide (V.int r = V.int 0)), .int r]) hacc hra hp (by rw [dec_int])
      refine ⟨acc, p3, ?_, fun q o e => p4 q o (fun r => by rw [r, hD] at e; cases e) (s3 _ _ e), _, p1, ?_⟩
      · rw [hra.len, List.length_take]
        exact Nat.lt_of_le_of_lt (m := 100000) (by omega) (by decide)
      · rw [List.take_add_one, hr]
        exact p2
    · rintro H3 ⟨s3, acc, hacc, hra⟩
      rw [List.length_map, List.take_of_length_le (Nat.le_refl _)] at hra
      exact k D H3 acc hD s3 hacc hra
end
end Pa
set_option maxRecDepth 100000
set_option maxHeartbeats 4000000
namespace Pa
open PySem PySem.Spec PyProof.Rows L2
section
variable {P : Program} {w : World} {K : PySem.W.Frag} {mg : Str → Option Value} {base : Heap} {tp C : Addr}
def spBlock (K : PySem.W.Frag) (C : Addr) : Sp := fun vs H Q _ => ∃ (x dx rl st : Addr) (L : Int) (q : RB) (b : Bl) (q' : SB) (A : List Int) (c : Nat) (d : Int), vs = [.ref x, .int (b.c : Int), .int b.s, .bl b.k, .bl b.g] ∧ PA' C L x dx rl st q.lo q.w q.rows H ∧ StAt K H st q.kd q.h q.t ∧
  2 ≤ L ∧ SimB A c d q' q ∧ c ≤ A.length ∧ 0 ≤ b.s ∧ b.c ≤ 200 ∧ q.rows.length ≤ 5000 ∧
  ∀ H' st', PA' C L x dx rl st' (blockR L q b).lo (blockR L q b).w (blockR L q b).rows H' → StAt K H' st' (blockR L q b).kd (blockR L q b).h (blockR L q b).t → Keep x rl H H' → Q .non H'
abbrev sPage_block : Stmt := inClass (topS 14) 3
theorem scPage_block : FnScope ["self", "count", "space", "kept", "page", "ahead", "height", "tail", "at", "above", "barred", "before", "over"] ["self", "count", "space", "kept", "page"] (defScope sPage_block) := ⟨rfl, rfl, rfl, by decide +kernel, rfl, by decide +kernel, by decide +kernel⟩
theorem ok_block {f : Addr} {fd : FuncData} (F : Fun K "block" "Page.block" sPage_block f fd) (T : Txt K mg tp C) (M__settle : MethOk P w K mg base C 1 "_settle" ["self"] (spSettle C)) (M_begin : MethOk P w K mg base C 2 "begin" ["self"] (spBegin C tp))
    (M__put : MethOk P w K mg base C 2 "_put" ["self", "height", "tail"] (spPut C)) (M__go_over : MethOk P w K mg base C 1 "_go_over" ["self", "rows"] (spOver C))
    (C_line_place : CallOk P w K mg base 1 "line_place" ["standing", "at", "count", "space"] (spPlace K)) (C_next_line : CallOk P w K mg base 2 "next_line" ["length", "height", "tail", "space", "barred"] spNext)
    (C_standing_of : CallOk P w K mg base 1 "standing_of" ["length", "height", "tail", "kept"] (spStand K)) : FnOk P w K mg base CX0 3 f fd ["self", "count", "space", "kept", "page"] (spBlock K C) := by
  refine F.ok scPage_block (fun vs H Q E h => ?_) (fun cdv A outer s H vs Q E hr h => ?_)
  · obtain ⟨x, dx, rl, st, L, q, b, q', A', c', d', rfl, _⟩ := h
    rfl
  · obtain ⟨x, dx, rl, st, L, q, b, q', A', c', d', rfl, pa, hst, hL, R, hcA, hs, hc, hql, k⟩ := h
    refine ⟨_, (pss_cons (ps_by (ps_if (pt_val (pv 4))
        (pss_one (ps_expr (pe_mc0 (pv 0) T.cl M_begin (hr.mono (by decide)))))
        pss_nil))
      (pss_cons (ps_if (pt_cmpR op_eq (pv 1) pe_int (nomark _))
        (pss_one ps_retN)
        pss_nil)
      (pss_cons (ps_set (i := 5) scPage_block.nd rfl (.inl rfl) (pe_fld (pv 0) rfl))
      (pss_cons (ps_asg (pe_slice sl_tup (pv 5) (po_some pe_int) po_none) (pg_tup rfl (pgs_cons (pg_name (i := 6) scPage_block.nd rfl (.inl rfl)) (pgs_cons (pg_name (i := 7) scPage_block.nd rfl (.inl rfl)) pgs_nil))))
      (pss_cons (ps_for PassesOwn.never rfl (pi_range1 (by rfl) T.b_range (pa_cons (pv 1) pa_nil)) (pg_name (i := 8) scPage_block.nd rfl (.inl rfl))
        (pss_cons (ps_asg (pe_cc C_line_place (hr.mono (by decide)) (by rfl) (pa_cons (pv 5) (pa_cons (pv 8) (pa_cons (pv 1) (pa_cons (pv 2) pa_nil))))) (pg_tup rfl (pgs_cons (pg_name (i := 9) scPage_block.nd rfl (.inl rfl)) (pgs_cons (pg_name (i := 10) scPage_block.nd rfl (.inl rfl)) pgs_nil))))
        (pss_cons (ps_set (i := 11) scPage_block.nd rfl (.inl rfl) (pe_op op_sub (pv 6) (pv 7)))
        (pss_cons (ps_asg (pe_cc C_next_line (hr.mono (by decide)) (by rfl) (pa_cons (pe_fld (pv 0) rfl) (pa_cons (pv 6) (pa_cons (pv 7) (pa_cons (pv 9) (pa_cons (pv 10) pa_nil)))))) (pg_tup rfl (pgs_cons (pg_name (i := 6) scPage_block.nd rfl (.inl rfl)) (pgs_cons (pg_name (i := 7) scPage_block.nd rfl (.inl rfl)) (pgs_cons (pg_name (i := 12) scPage_block.nd rfl (.inl rfl)) pgs_nil)))))
        (pss_cons (ps_by (ps_if (pt_val (pv 12))
          (pss_one (ps_expr (pe_mc (pv 0) T.cl M__go_over (hr.mono (by decide)) (pa_cons (pv 11) pa_nil))))
          pss_nil))
        (pss_one (ps_expr (pe_mc (pv 0) T.cl M__put (hr.mono (by decide)) (pa_cons (pv 6) (pa_cons (pv 7) pa_nil))))))))))
      (pss_cons (ps_fld (pv 0) (pe_cc C_standing_of (hr.mono (by decide)) (by rfl) (pa_cons (pe_fld (pv 0) rfl) (pa_cons (pv 6) (pa_cons (pv 7) (pa_cons (pv 3) pa_nil))))) rfl)
      (pss_one (ps_if (pt_cmpR op_eq (pe_ix ix_tup (pe_fld (pv 0) rfl) pe_int (fun _ _ => rfl)) pe_int (nomark _))
        (pss_one (ps_expr (pe_mc0 (pv 0) T.cl M__settle (hr.mono (by decide)))))
        pss_nil)))))))), ?_⟩
    have hL0 : 0 < L := by omega
    -- if page: self.begin()
    refine ⟨fun σ' H1 => σ' = [some (.ref x), some (.int (b.c : Int)), some (.int b.s), some (.bl b.k), some (.bl b.g), none, none, none, none, none, none, none, none] ∧ ∃ st0, PA' C L x dx rl st0 (dueR q b.g).lo (dueR q b.g).w (dueR q b.g).rows H1 ∧ StAt K H1 st0 (dueR q b.g).kd (dueR q b.g).h (dueR q b.g).t ∧ Keep x rl H H1, fun N hN => ?_, ?_⟩
    · rcases twoB b.g with hg | hg
      · refine ⟨_, rfl, _, rfl, iteP hg ?_⟩
        refine ⟨_, rfl, x, dx, _, rfl, pa.ob, no_begin _ _ _ _ _, x, dx, rl, st, L, q.lo, q.w, q.rows, rfl, pa, fun H1 p1 k1 => ?_⟩
        refine hN _ _ ⟨rfl, tp, ?_⟩
        unfold dueR
        rw [if_pos hg]
        exact ⟨p1, ⟨"top", T.top H1, nt_, rfl⟩, k1⟩
      · refine ⟨_, rfl, _, rfl, iteQ (neT hg) ?_⟩
        refine hN _ _ ⟨rfl, st, ?_⟩
        unfold dueR
        rw [if_neg (neT hg)]
        exact ⟨pa, hst, fun a o _ _ e => e⟩
    rintro σ' H1 ⟨rfl, st0, pa1, hst1, k1⟩
    -- if count == 0: return
    refine ⟨_, rfl, rfl, _, rfl, ite2 (fun h1 => ?_) (fun h1 => ?_)⟩
    · have hc0 : b.c = 0 := by
        have := V.int.inj (of_decide_eq_true h1)
        omega
      have e : blockR L q b = dueR q b.g := by unfold blockR; rw [if_pos hc0]
      rw [e] at k
      exact k H1 st0 pa1 hst1 k1
    have hc0 : ¬ b.c = 0 := fun r => h1 (decide_eq_true (by rw [r]; rfl))
    have e : blockR L q b = endR L (runR L b.c b.s (dueR q b.g).kd ⟨(dueR q b.g).h, (dueR q b.g).t, (dueR q b.g).lo, (dueR q b.g).rows, (dueR q b.g).w⟩ b.c) b.k := by unfold blockR; rw [if_neg hc0]
    rw [e, endR_eq] at k
    have R1 := (sim_due R b.g).sim
    have hlo := fun n => (sim_run (L := L) hcA R1 hs b.c (dueR q b.g).kd n).lo
    have hrh := runR_h (L := L) hcA R1 hs b.c (dueR q b.g).kd b.c hc0
    have hrl : (dueR q b.g).rows = q.rows := by unfold dueR; split <;> rfl
    have hrun := runR_len L b.c b.s (dueR q b.g).kd ⟨(dueR q b.g).h, (dueR q b.g).t, (dueR q b.g).lo, (dueR q b.g).rows, (dueR q b.g).w⟩
    have hrun' : ∀ n, (runR L b.c b.s (dueR q b.g).kd ⟨(dueR q b.g).h, (dueR q b.g).t, (dueR q b.g).lo, (dueR q b.g).rows, (dueR q b.g).w⟩ n).rows.length ≤ 5000 + n := fun n => by
      rw [hrun n]
      show (dueR q b.g).rows.length + n ≤ _
      rw [hrl]
      omega
    clear hrun hrl e R R1
    generalize dueR q b.g = q0 at pa1 hst1 k hlo hrun' hrh ⊢
    -- height, tail = ahead[1:]
    obtain ⟨wd, hsq, hkd, _⟩ := id hst1
    refine ⟨_, rfl, x, C, dx, _, _, rfl, pa1.ob, T.cl, T.nS, pf_standing _ _ _ _ _, ?_⟩
    refine ⟨_, rfl, _, rfl, st0, _, rfl, hsq, (fun z => absurd z.1 (show ¬ (HT.sIx 3 0 (some 1) = 0) by decide)), fun u hu => ?_⟩
    have su := same_new (o := .tup (cutV [.str wd, .int q0.h, .int q0.t] (some 1) none)) hu
    refine ⟨u, _, rfl, SqT.of upd_same, rfl, _, _, rfl, _, _, rfl, rfl, ?_⟩
    have pa2 := pa1.same su
    have k2 : Keep x rl H _ := k1.trans (Keep.of su)
    have hst2 : StAt K _ st0 q0.kd q0.h q0.t := StAt.keep (Keep.of su) pa1 hst1
    generalize upd H1 u (.tup (cutV [.str wd, .int q0.h, .int q0.t] (some 1) none)) = H2 at pa2 k2 hst2
    -- the lines
    refine ⟨_, rfl, _, rfl, by omega, by omega, for_range (lo := 0) (n := ((b.c : Nat) : Int).toNat) (fun i σ H3 => ∃ (y8 y9 y10 y11 y12 : Option V), σ = [some (.ref x), some (.int (b.c : Int)), some (.int b.s), some (.bl b.k), some (.bl b.g), some (.ref st0),
        some (.int (runR L b.c b.s q0.kd ⟨q0.h, q0.t, q0.lo, q0.rows, q0.w⟩ i).h), some (.int (runR L b.c b.s q0.kd ⟨q0.h, q0.t, q0.lo, q0.rows, q0.w⟩ i).t), y8, y9, y10, y11, y12] ∧
        PA' C L x dx rl st0 (runR L b.c b.s q0.kd ⟨q0.h, q0.t, q0.lo, q0.rows, q0.w⟩ i).lo (runR L b.c b.s q0.kd ⟨q0.h, q0.t, q0.lo, q0.rows, q0.w⟩ i).w (runR L b.c b.s q0.kd ⟨q0.h, q0.t, q0.lo, q0.rows, q0.w⟩ i).rows H3 ∧ StAt K H3 st0 q0.kd q0.h q0.t ∧ Keep x rl H H3)
      ⟨none, none, none, none, none, rfl, pa2, hst2, k2⟩ ?_ ?_⟩
    · rintro i σ H3 hi ⟨y8, y9, y10, y11, y12, rfl, pa3, hst3, k3⟩
      have hi' : i < b.c := by omega
      have hlo3 := hlo i
      have hlen3 := hrun' i
      show gName 8 _ _ _ _
      rw [Int.zero_add]
      have er : runR L b.c b.s q0.kd ⟨q0.h, q0.t, q0.lo, q0.rows, q0.w⟩ (i + 1) = lineR L (runR L b.c b.s q0.kd ⟨q0.h, q0.t, q0.lo, q0.rows, q0.w⟩ i) (if i = 0 then b.s else 0) (if i = 0 then q0.kd else decide ((i : Int) = 1 ∨ (i : Int) = (b.c : Int) - 1)) := rfl
      rw [er]
      generalize runR L b.c b.s q0.kd ⟨q0.h, q0.t, q0.lo, q0.rows, q0.w⟩ i = p at pa3 hlo3 hlen3 ⊢
      refine ⟨_, rfl, _, rfl, _, rfl, _, rfl, st0, q0.kd, q0.h, q0.t, (b.c : Int), b.s, i, rfl, hst3, fun u1 H4 hu1 s4 hu4 => ?_⟩
      refine ⟨u1, _, rfl, SqT.of hu4, rfl, _, _, rfl, _, _, rfl, rfl, ?_⟩
      refine ⟨_, rfl, _, rfl, _, _, rfl, rfl, ?_⟩
      have pa4 := pa3.same s4
      have hst4 : StAt K H4 st0 q0.kd q0.h q0.t := StAt.keep (Keep.of s4) pa3 hst3
      have k4 : Keep x rl H H4 := k3.trans (Keep.of s4)
      generalize (if i = 0 then b.s else 0) = sp
      generalize (if i = 0 then q0.kd else decide ((i : Int) = 1 ∨ (i : Int) = (b.c : Int) - 1)) = br
      refine ⟨_, rfl, x, C, dx, _, _, rfl, pa4.ob, T.cl, T.nL, pf_length _ _ _ _ _, _, rfl, _, rfl, _, rfl, _, rfl, L, p.h, p.t, sp, br, rfl, fun u2 hu2 => ?_⟩
      refine ⟨u2, _, rfl, SqT.of upd_same, rfl, _, _, rfl, _, _, rfl, _, _, rfl, rfl, ?_⟩
      unfold lineR
      generalize nextLine L p.h p.t sp br = nl
      have s5 := same_new (o := .tup [.int nl.h, .int nl.t, .bl nl.ov]) hu2
      have pa5 := pa4.same s5
      have hst5 : StAt K _ st0 q0.kd q0.h q0.t := StAt.keep (Keep.of s5) pa4 hst4
      have k5 : Keep x rl H _ := k4.trans (Keep.of s5)
      generalize upd H4 u2 (.tup [.int nl.h, .int nl.t, .bl nl.ov]) = H5 at pa5 hst5 k5
      refine ⟨fun σ' H6 => σ' = [some (.ref x), some (.int (b.c : Int)), some (.int b.s), some (.bl b.k), some (.bl b.g), some (.ref st0), some (.int nl.h), some (.int nl.t), some (.int (i : Int)), some (.int sp), some (.bl br), some (.int (p.h - p.t)), some (.bl nl.ov)] ∧
        PA' C L x dx rl st0 p.lo (if nl.ov = true then overW p.w else p.w) (if nl.ov = true then overR p.rows p.lo (p.h - p.t) else p.rows) H6 ∧ StAt K H6 st0 q0.kd q0.h q0.t ∧ Keep x rl H H6, fun N hN => ?_, ?_⟩
      · rcases twoB nl.ov with ho | ho
        · refine ⟨_, rfl, _, rfl, iteP ho ?_⟩
          refine ⟨_, rfl, x, dx, _, rfl, pa5.ob, no_over _ _ _ _ _, _, rfl, x, dx, rl, st0, L, p.lo, p.h - p.t, p.w, p.rows, rfl, pa5, hlo3.1, hlo3.2, by omega, fun H6 p6 k6 => ?_⟩
          refine hN _ _ ⟨rfl, ?_, StAt.keep k6 pa5 hst5, k5.trans k6⟩
          rw [if_pos ho, if_pos ho]
          exact p6
        · refine ⟨_, rfl, _, rfl, iteQ (neT ho) ?_⟩
          refine hN _ _ ⟨rfl, ?_, hst5, k5⟩
          rw [if_neg (neT ho), if_neg (neT ho)]
          exact pa5
      · rintro σ' H6 ⟨rfl, p6, hst6, k6⟩
        have hl6 : (if nl.ov = true then overR p.rows p.lo (p.h - p.t) else p.rows).length ≤ 100000 := by
          split
          · rw [overR_len]; omega
          · omega
        refine ⟨_, rfl, x, dx, _, rfl, p6.ob, no_put _ _ _ _ _, _, rfl, _, rfl, x, dx, rl, st0, L, p.lo, nl.h, nl.t, _, _, rfl, p6, hl6, fun H7 p7 k7 => ?_⟩
        exact ⟨_, _, _, _, _, rfl, p7, StAt.keep k7 p6 hst6, k6.trans k7⟩
    · rintro σ H3 ⟨y8, y9, y10, y11, y12, rfl, pa3, hst3, k3⟩
      have e0 : ((b.c : Nat) : Int).toNat = b.c := Int.toNat_natCast _
      rw [e0] at pa3 ⊢
      generalize runR L b.c b.s q0.kd ⟨q0.h, q0.t, q0.lo, q0.rows, q0.w⟩ b.c = p at pa3 k hrh ⊢
      refine ⟨_, rfl, x, C, dx, _, _, rfl, pa3.ob, T.cl, T.nL, pf_length _ _ _ _ _, _, rfl, _, rfl, _, rfl, L, p.h, p.t, b.k, rfl, hrh, fun st' H4 s4 hst4 => ?_⟩
      have pa4 := pa3.same s4
      obtain ⟨p5, k5⟩ := pa4.put st' p.lo p.w
      have hst5 : StAt K _ st' _ _ _ := StAt.keep k5 pa4 hst4
      refine ⟨_, rfl, x, C, dx, _, rfl, pa4.ob, T.cl, T.nS, (by show 5 < 1000; decide), ?_⟩
      rw [put_standing]
      obtain ⟨wd2, hsq2, hkd2, _⟩ := id hst5
      have k6 : Keep x rl H _ := (k3.trans (Keep.of s4)).trans k5
      refine ⟨_, rfl, x, C, dx, _, _, rfl, p5.ob, T.cl, T.nS, pf_standing _ _ _ _ _, st', _, _, _, rfl, rfl, hsq2, atI_nat (j := 2) rfl, rfl, _, rfl, ite2 (fun h2 => ?_) (fun h2 => ?_)⟩
      · have ht0 := V.int.inj (of_decide_eq_true h2)
        refine ⟨_, rfl, x, dx, _, rfl, p5.ob, no_settle _ _ _ _ _, x, dx, rl, st', L, p.lo, p.w, p.rows, rfl, p5, fun H7 p7 k7 => ?_⟩
        refine k H7 st' ?_ (StAt.keep k7 p5 hst5) (k6.trans k7)
        rw [if_pos ht0, if_pos ht0]
        exact p7
      · have ht0 : ¬ (endK L p.h p.t b.k).2.2 = 0 := fun r => h2 (decide_eq_true (by rw [r]))
        refine k _ st' ?_ hst5 k6
        rw [if_neg ht0, if_neg ht0]
        exact p5
end
end Pa
set_option maxRecDepth 100000
set_option maxHeartbeats 4000000
namespace Pa
open PySem PySem.Spec PyProof.Rows L2 Builtin
/-! ### len(o) by an own __len__ -/
structure LenC (K : PySem.W.Frag) (C f : Addr) : Prop where
  at_ : PySem.W.findIn K (.ref C) "__len__" = some (some (.ref f))
  fn : PySem.W.isFn K (.ref f) = true
section
variable {prog : Program} {w : World} {A : Around} {E : Value → Shared → Prop} {K : PySem.W.Frag} {x C f : Addr} {ox : Obj} {od : Option Obj} {s : Shared}
theorem len_fn {Q : Value → Shared → Prop} (X : K.In s.heap) (I : PySem.W.InstAt s.heap x ox C od) (c : LenC K C f)
    (hcall : wpAny (model prog w) A.in1 (call (.ref f) [.ref x]) (fun r s' => ∃ n u, r = .int n u ∧ 0 ≤ n ∧ n < 2 ^ 63 ∧ Q (.int n s'.toks) { s' with toks := s'.toks + 1 }) E s) :
    wpAny (model prog w) A (call (.builtin "len") [.ref x]) Q E s := by
  refine Calls.call_function_entry kind_len plain_len entry_len (args_len1 _) ?_
  unfold Builtin.«len»
  refine wpAny_bind (m := oneArg "len" _) (wpAny_pure ?_)
  refine wpAny_bind (m := callSpecial? (.ref x) (Str.ofString "__len__")) (PySem.W.special_fn X I c.at_ (beq_iff_eq.mp c.fn) (wpAny_mono hcall (fun r s' hr => ?_) fun _ _ y => y))
  obtain ⟨n, u, rfl, h0, h1, hq⟩ := hr
  refine wpAny_bind (wpAny_holding (wpAny_pure ?_))
  refine wpAny_bind (wpAny_letGo ?_)
  show wpAny _ _ (if n < 0 then _ else _) _ _ _
  rw [if_neg (by omega)]
  show wpAny _ _ (if n ≥ 2 ^ 63 then _ else _) _ _ _
  rw [if_neg (by omega)]
  exact wpAny_bind (wpAny_mkInt (wpAny_pure ⟨_, rfl, hq⟩))
end
section
variable {X : Cx} {k : Nat} {C g : Addr} {fd : FuncData} {ps : List Str} {sp : Sp}
theorem call_lenOwn (hc : LenC X.K C g) (F : FnOk X.prog X.w X.K X.mg X.base CX0 k g fd ps sp) (hr : Room (k + 1) X.A) (hb : Binds X.K fd ps []) :
    CallR X (.builtin "len") (fun xs H Q => ∃ a dx fs, xs = [.ref a] ∧ H a = some (.ins C dx fs) ∧ sp [.ref a] H (fun v H' => ∃ n : Int, v = .int n ∧ 0 ≤ n ∧ n < 2 ^ 63 ∧ Q (.int n) H') E0) := by
  intro pins s σ H xs us Q I r h
  obtain ⟨a, dx, fs, rfl, ea, q⟩ := h
  obtain ⟨u, rfl, ru⟩ := vals1 r
  obtain rfl : u = Value.ref a := ru
  obtain ⟨mA, O, _, _, _, _⟩ := ins_get I.hok ea
  obtain ⟨od, J, _⟩ := O.look
  have hl : ([Value.ref a] ++ []).length = ps.length := F.len _ _ _ _ q
  refine len_fn I.kIn J hc (wpAny_call (codeAny_mono (F.run X.A.in1 X.stack s H ⟨[.ref a], []⟩ [.ref a] [.ref a] _ E0 hr.in1 I.env0.in1 (hb _ [.ref a] I.kIn hl) (.cons rfl .nil) q) fun r s' hq => ?_))
  cases r with
  | error er => exact pass0 pins σ H s er s' I hq
  | ok fl =>
    cases fl with
    | ret u =>
      obtain ⟨v, H', I3, rv, n, rfl, h0, h1, q3⟩ := I.after hq
      obtain ⟨tk, rfl⟩ := rv
      exact ⟨n, tk, rfl, h0, h1, .int n, H', I3.tok _, ⟨_, rfl⟩, q3⟩
    | next => exact False.elim hq
    | brk => exact False.elim hq
    | cont => exact False.elim hq
end
end Pa
set_option maxRecDepth 100000
set_option maxHeartbeats 4000000
namespace Pa
open PySem PySem.Spec PyProof.Rows L2
def tByT (t : TT) : TT := fun σ H Q => ∃ R : Bool → Hp → Prop, (∀ Q' : Bool → Hp → Prop, (∀ v H', R v H' → Q' v H') → t σ H Q') ∧ ∀ v H', R v H' → Q v H'
theorem pt_by {X : Cx} {e : Expr} {t : TT} (h : PT X e t) : PT X e (tByT t) := ⟨fun pins s σ H Q I ⟨_, f, q⟩ => h.run pins s σ H Q I (f Q q)⟩
theorem shaped_map {α : Type} {f : α → PyData} (h : ∀ x, (f x).canLay0 = true ∧ (f x).depth ≤ 1) (xs : List α) : SeqAt.shaped (.list (xs.map f)) = true := by
  have h1 : PyData.canLayAll0 (xs.map f) = true := by
    induction xs with
    | nil => simp [PyData.canLayAll0]
    | cons x xs ih => rw [List.map_cons, PyData.canLayAll0, (h x).1, ih]; rfl
  have h2 : PyData.depthAll (xs.map f) ≤ 1 := by
    induction xs with
    | nil => simp [PyData.depthAll]
    | cons x xs ih =>
      have := ih (by
        rw [List.map_cons, PyData.canLayAll0, Bool.and_eq_true] at h1
        exact h1.2)
      rw [List.map_cons, PyData.depthAll]
      have := (h x).2
      omega
  unfold SeqAt.shaped
  rw [PyData.canLay0, h1, Bool.true_and, PyData.depth]
  exact decide_eq_true (by omega)
theorem eqv_self {d : PyData} (h : SeqAt.shaped d = true) : PyData.eqv d d = true := SeqAt.eqv_refl d (SeqAt.canLay_of_shaped h)
theorem cutV_to {xs : List V} {n : Nat} (h : n ≤ xs.length) : cutV xs none (some (n : Int)) = xs.take n := by
  unfold cutV
  rw [HT.sIx_nat, HT.sIx_none, Nat.min_eq_left h]
  simp
end Pa
set_option maxRecDepth 100000
set_option maxHeartbeats 4000000
namespace Pa
open PySem PySem.Spec PyProof.Rows L2
structure PropOk (P : Program) (w : World) (K : PySem.W.Frag) (mg : Str → Option Value) (base : Heap) (C : Addr) (k : Nat) (m : Str) (sp : Sp) : Prop where
  ok : ∃ (p g : Addr) (fd : FuncData), PropOf K C m p g ∧ Binds K fd ["self"] [] ∧ FnOk P w K mg base CX0 k g fd ["self"] sp
structure LenOk (P : Program) (w : World) (K : PySem.W.Frag) (mg : Str → Option Value) (base : Heap) (C : Addr) (k : Nat) (sp : Sp) : Prop where
  ok : ∃ (g : Addr) (fd : FuncData), LenC K C g ∧ Binds K fd ["self"] [] ∧ FnOk P w K mg base CX0 k g fd ["self"] sp
/-- o.m(e) where the defaults fill up -/
structure MethDOk (P : Program) (w : World) (K : PySem.W.Frag) (mg : Str → Option Value) (base : Heap) (C : Addr) (k : Nat) (m : Str) (ps : List Str) (dvs : List V) (sp : Sp) : Prop where
  ok : ∃ (f : Addr) (fd : FuncData) (ds : List Value), Meth K C m f ∧ Vals dvs ds ∧ Binds K fd ps ds ∧ FnOk P w K mg base CX0 k f fd ps sp
def rLenO (C : Addr) (sp : Sp) : List V → Hp → VK → Prop := fun xs H Q => ∃ a dx fs, xs = [.ref a] ∧ H a = some (.ins C dx fs) ∧ sp [.ref a] H (fun v H' => ∃ n : Int, v = .int n ∧ 0 ≤ n ∧ n < 2 ^ 63 ∧ Q (.int n) H') E0
section
variable {X : Cx} {k : Nat} {C : Addr} {m : Str} {sp : Sp} {o e : Expr} {es : List Expr} {ta : TE} {t : TA} {pos p apos : Pos} {ps : List Str} {dvs : List V} {pl : Sem Bool}
theorem pe_pr (he : PE X o ta) (c : Cls X.K C) (M : PropOk X.prog X.w X.K X.mg X.base C k m sp) (hr : Room (k + 1) X.A)
    (hab : attributeBase o m X.env (eval o X.env) = eval o X.env := by rfl) : PE X (.Attribute o m pos) (tProp C sp [] E0 ta) := by
  obtain ⟨pp, g, fd, h1, h2, h3⟩ := M.ok
  exact pe_prop he c h1 h3 hr h2 .nil pass0 hab
theorem call_lenO (M : LenOk X.prog X.w X.K X.mg X.base C k sp) (hr : Room (k + 1) X.A) : CallR X (.builtin "len") (rLenO C sp) := by
  obtain ⟨g, fd, h1, h2, h3⟩ := M.ok
  exact call_lenOwn h1 h3 hr h2
theorem pe_mcd (he : PE X o ta) (c : Cls X.K C) (M : MethDOk X.prog X.w X.K X.mg X.base C k m ps dvs sp) (hr : Room k X.A) (ha : PA X (e :: es) t)
    (hst : starEach (e :: es) X.env = (false, eval e X.env) :: starEach es X.env := by rfl) (hpl : (backTo pos (starEach es X.env)).any (·.1) = false := by rfl)
    (ht : eval (.Call (.Attribute o m apos) (e :: es) [] pos) X.env = (do
      let z ← eval o X.env
      standAt apos.atName
      let (f, first) ← holding [z] (getMethod z m pl)
      callWith pos f first (backTo pos (starEach (e :: es) X.env)) (backToKw pos (keywordEach [] X.env))) := by rfl) :
    PE X (.Call (.Attribute o m apos) (e :: es) [] pos) (tMeth C m sp dvs E0 ta t) := by
  obtain ⟨f, fd, ds, h1, hd, h2, h3⟩ := M.ok
  exact pe_meth he c h1 h3 hr h2 hd pass0 ha hst hpl ht
end
section
variable {P : Program} {w : World} {K : PySem.W.Frag} {mg : Str → Option Value} {base : Heap} {tp C : Addr}
/-! ### what a Page tells -/
def spNow (C : Addr) : Sp := fun vs H Q _ => ∃ (x dx rl st : Addr) (L lo : Int) (ww : Option Bool) (rows : List Int), vs = [.ref x] ∧ PA' C L x dx rl st lo ww rows H ∧ Q (.ref st) H
def spPend (C : Addr) : Sp := fun vs H Q _ => ∃ (x dx rl st : Addr) (L lo : Int) (ww : Option Bool) (rows : List Int), vs = [.ref x] ∧ PA' C L x dx rl st lo ww rows H ∧ Q (.int lo) H
def spWent (C : Addr) : Sp := fun vs H Q _ => ∃ (x dx rl st : Addr) (L lo : Int) (ww : Option Bool) (rows : List Int), vs = [.ref x] ∧ PA' C L x dx rl st lo ww rows H ∧ Q (wv ww) H
def spLen (C : Addr) : Sp := fun vs H Q _ => ∃ (x dx rl st : Addr) (L lo : Int) (ww : Option Bool) (rows : List Int), vs = [.ref x] ∧ PA' C L x dx rl st lo ww rows H ∧ Q (.int (rows.length : Int)) H
def spSettled (C : Addr) : Sp := fun vs H Q _ => ∃ (x dx rl st : Addr) (L lo : Int) (ww : Option Bool) (rows : List Int), vs = [.ref x] ∧ PA' C L x dx rl st lo ww rows H ∧ 0 ≤ lo ∧ lo ≤ (rows.length : Int) ∧ rows.length ≤ 100000 ∧
  ∀ p H' ys, H p = none → Same H H' → H' p = some (.lst ys) → AllAt RwAt H' ys (preS rows lo) → Q (.ref p) H'
abbrev sPage_now : Stmt := inClass (topS 14) 7
abbrev sPage_pending : Stmt := inClass (topS 14) 8
abbrev sPage_went_over : Stmt := inClass (topS 14) 9
abbrev sPage_settled : Stmt := inClass (topS 14) 10
abbrev sPage___len__ : Stmt := inClass (topS 14) 12
theorem scPage_now : FnScope ["self"] ["self"] (defScope sPage_now) := ⟨rfl, rfl, rfl, by decide +kernel, rfl, by decide +kernel, by decide +kernel⟩
theorem scPage_pending : FnScope ["self"] ["self"] (defScope sPage_pending) := ⟨rfl, rfl, rfl, by decide +kernel, rfl, by decide +kernel, by decide +kernel⟩
theorem scPage_went_over : FnScope ["self"] ["self"] (defScope sPage_went_over) := ⟨rfl, rfl, rfl, by decide +kernel, rfl, by decide +kernel, by decide +kernel⟩
theorem scPage_settled : FnScope ["self"] ["self"] (defScope sPage_settled) := ⟨rfl, rfl, rfl, by decide +kernel, rfl, by decide +kernel, by decide +kernel⟩
theorem scPage___len__ : FnScope ["self"] ["self"] (defScope sPage___len__) := ⟨rfl, rfl, rfl, by decide +kernel, rfl, by decide +kernel, by decide +kernel⟩
theorem ok_now {f : Addr} {fd : FuncData} (F : Fun K "now" "Page.now" sPage_now f fd) (T : Txt K mg tp C) : FnOk P w K mg base CX0 1 f fd ["self"] (spNow C) := by
  refine F.ok scPage_now (fun vs H Q E h => ?_) (fun cdv A outer s H vs Q E hr h => ?_)
  · obtain ⟨x, dx, rl, st, L, lo, ww, rows, rfl, _⟩ := h
    rfl
  · obtain ⟨x, dx, rl, st, L, lo, ww, rows, rfl, pa, k⟩ := h
    refine ⟨_, (pss_one (ps_ret (pe_fld (pv 0) rfl))), ?_⟩
    exact ⟨_, rfl, x, C, dx, _, _, rfl, pa.ob, T.cl, T.nS, pf_standing _ _ _ _ _, k⟩
theorem ok_pend {f : Addr} {fd : FuncData} (F : Fun K "pending" "Page.pending" sPage_pending f fd) (T : Txt K mg tp C) : FnOk P w K mg base CX0 1 f fd ["self"] (spPend C) := by
  refine F.ok scPage_pending (fun vs H Q E h => ?_) (fun cdv A outer s H vs Q E hr h => ?_)
  · obtain ⟨x, dx, rl, st, L, lo, ww, rows, rfl, _⟩ := h
    rfl
  · obtain ⟨x, dx, rl, st, L, lo, ww, rows, rfl, pa, k⟩ := h
    refine ⟨_, (pss_one (ps_ret (pe_fld (pv 0) rfl))), ?_⟩
    exact ⟨_, rfl, x, C, dx, _, _, rfl, pa.ob, T.cl, T.nO, pf_loose _ _ _ _ _, k⟩
theorem ok_went {f : Addr} {fd : FuncData} (F : Fun K "went_over" "Page.went_over" sPage_went_over f fd) (T : Txt K mg tp C) : FnOk P w K mg base CX0 1 f fd ["self"] (spWent C) := by
  refine F.ok scPage_went_over (fun vs H Q E h => ?_) (fun cdv A outer s H vs Q E hr h => ?_)
  · obtain ⟨x, dx, rl, st, L, lo, ww, rows, rfl, _⟩ := h
    rfl
  · obtain ⟨x, dx, rl, st, L, lo, ww, rows, rfl, pa, k⟩ := h
    refine ⟨_, (pss_one (ps_ret (pe_fld (pv 0) rfl))), ?_⟩
    exact ⟨_, rfl, x, C, dx, _, _, rfl, pa.ob, T.cl, T.nW, pf_went _ _ _ _ _, k⟩
theorem ok_len {f : Addr} {fd : FuncData} (F : Fun K "__len__" "Page.__len__" sPage___len__ f fd) (T : Txt K mg tp C) : FnOk P w K mg base CX0 1 f fd ["self"] (spLen C) := by
  refine F.ok scPage___len__ (fun vs H Q E h => ?_) (fun cdv A outer s H vs Q E hr h => ?_)
  · obtain ⟨x, dx, rl, st, L, lo, ww, rows, rfl, _⟩ := h
    rfl
  · obtain ⟨x, dx, rl, st, L, lo, ww, rows, rfl, pa, k⟩ := h
    refine ⟨_, (pss_one (ps_ret (pe_pure (pe_callB call_len_seq (by rfl) T.b_len PySem.boot_len (pa_cons (pe_fld (pv 0) rfl) pa_nil))))), ?_⟩
    refine ⟨.int (rows.length : Int), fun Q' hQ => ⟨_, rfl, x, C, dx, _, _, rfl, pa.ob, T.cl, T.nR, pf_rows _ _ _ _ _, rl, _, rfl, .inl (SqL.of pa.rs), ?_⟩, k⟩
    rw [List.length_map]
    exact hQ
theorem ok_settled {f : Addr} {fd : FuncData} (F : Fun K "settled" "Page.settled" sPage_settled f fd) (T : Txt K mg tp C) (M_finish : MethOk P w K mg base C 1 "finish" ["self"] (spFinish C)) : FnOk P w K mg base CX0 2 f fd ["self"] (spSettled C) := by
  refine F.ok scPage_settled (fun vs H Q E h => ?_) (fun cdv A outer s H vs Q E hr h => ?_)
  · obtain ⟨x, dx, rl, st, L, lo, ww, rows, rfl, _⟩ := h
    rfl
  · obtain ⟨x, dx, rl, st, L, lo, ww, rows, rfl, pa, lo0, lo1, hlen, k⟩ := h
    refine ⟨_, (pss_one (ps_ret (pe_slice sl_list (pe_mc0 (pv 0) T.cl M_finish (hr.mono (by decide))) po_none (po_some (pe_pure (pe_op op_sub (pe_callB call_len_seq (by rfl) T.b_len PySem.boot_len (pa_cons (pe_fld (pv 0) rfl) pa_nil)) (pe_fld (pv 0) rfl))))))), ?_⟩
    refine ⟨_, rfl, x, dx, _, rfl, pa.ob, no_finish _ _ _ _ _, x, dx, rl, st, L, lo, ww, rows, rfl, pa, hlen, fun p H1 ys hp s1 hys hrw => ?_⟩
    have ea : ((rows.map V.int).length : Int) - lo = ((rows.length - lo.toNat : Nat) : Int) := by rw [List.length_map]; omega
    have pa1 := pa.same s1
    refine ⟨.int ((rows.length - lo.toNat : Nat) : Int), fun Q' hQ => ⟨_, rfl, x, C, dx, _, _, rfl, pa1.ob, T.cl, T.nR, pf_rows _ _ _ _ _, rl, _, rfl, .inl (SqL.of pa1.rs), _, rfl, x, C, dx, _, _, rfl, pa1.ob, T.cl, T.nO, pf_loose _ _ _ _ _, _, _, rfl, rfl, ?_⟩, ?_⟩
    · rw [← ea] at hQ
      exact hQ
    refine ⟨_, rfl, p, _, rfl, SqL.of hys, fun u hu => ?_⟩
    have sU := same_new (o := .lst (cutV ys none (some ((rows.length - lo.toNat : Nat) : Int)))) hu
    refine k u _ _ (s1.free hu) (s1.trans sU) upd_same ?_
    have ec := cutV_to (xs := ys) (n := rows.length - lo.toNat) (by rw [hrw.len]; omega)
    have z := (rwMono (Tups.of sU) hrw).take (rows.length - lo.toNat)
    rw [← ec] at z
    exact z
end
end Pa
set_option maxRecDepth 100000
set_option maxHeartbeats 4000000
namespace Pa
open PySem PySem.Spec PyProof.Rows L2 SrtO
/-! ### sorted: tuples of one of three words and two ints -/
def wordN (n : Int) : Str := if n = 0 then "kept" else if n = 1 then "open" else "top"
theorem word_eq {a b : Int} (ha : 0 ≤ a ∧ a ≤ 2) (hb : 0 ≤ b ∧ b ≤ 2) : decide (wordN a = wordN b) = decide (a = b) := by
  have h1 : a = 0 ∨ a = 1 ∨ a = 2 := by omega
  have h2 : b = 0 ∨ b = 1 ∨ b = 2 := by omega
  rcases h1 with rfl | rfl | rfl <;> rcases h2 with rfl | rfl | rfl <;> decide +kernel
theorem word_lt {a b : Int} (ha : 0 ≤ a ∧ a ≤ 2) (hb : 0 ≤ b ∧ b ≤ 2) : decide ((wordN a).cps.toList < (wordN b).cps.toList) = decide (a < b) := by
  have h1 : a = 0 ∨ a = 1 ∨ a = 2 := by omega
  have h2 : b = 0 ∨ b = 1 ∨ b = 2 := by omega
  rcases h1 with rfl | rfl | rfl <;> rcases h2 with rfl | rfl | rfl <;> decide +kernel
def lex3 (p q : Int × Int × Int) : Bool := decide (p.1 < q.1 ∨ (p.1 = q.1 ∧ (p.2.1 < q.2.1 ∨ (p.2.1 = q.2.1 ∧ p.2.2 < q.2.2))))
theorem lex3_iff {p q : Int × Int × Int} : lex3 p q = true ↔ (p.1 < q.1 ∨ (p.1 = q.1 ∧ (p.2.1 < q.2.1 ∨ (p.2.1 = q.2.1 ∧ p.2.2 < q.2.2)))) := decide_eq_true_iff
theorem lex3_no {p q : Int × Int × Int} : lex3 p q = false ↔ ¬ (p.1 < q.1 ∨ (p.1 = q.1 ∧ (p.2.1 < q.2.1 ∨ (p.2.1 = q.2.1 ∧ p.2.2 < q.2.2)))) := decide_eq_false_iff_not
theorem swo3 {α : Type} (k : α → Int × Int × Int) : Swo fun v u => lex3 (k v) (k u) := by
  refine ⟨fun x y h => ?_, fun x y z h1 h2 => ?_⟩
  · have a := lex3_iff.mp h
    exact lex3_no.mpr (by omega)
  · have a := lex3_no.mp h1
    have b := lex3_no.mp h2
    exact lex3_no.mpr (by omega)
def IsStd (h : Heap) (v : Value) (k : Int × Int × Int) : Prop := (0 ≤ k.1 ∧ k.1 ≤ 2) ∧ ∃ a o t u z n, v = .ref a ∧ h.get? a = some o ∧ o.cls = .type "tuple" ∧ o.data = .seq #[.str (wordN k.1) t, .int k.2.1 u, .int k.2.2 z] n
section
variable {prog : Program} {w : World} {A : Around} {E : Value → Shared → Prop} {s : Shared}
theorem std_cmp {vs : List Value} {k : Value → Int × Int × Int} (hp : ∀ v ∈ vs, IsStd s.heap v (k v)) : Cmp prog w A s (tuples' true) (fun p => p.1 ∈ vs) (lt2 fun v u => lex3 (k v) (k u)) := by
  intro p q hm hm'
  obtain ⟨r1, a, o, t, u, z, n, e, ho, hc, hd⟩ := hp _ hm
  obtain ⟨r2, a', o', t', u', z', n', e', ho', hc', hd'⟩ := hp _ hm'
  show wpAny (model prog w) A (keyLt' (tuples' true) p.1 q.1) (fun r s' => s' = s ∧ r = lex3 (k p.1) (k q.1)) (fun _ _ => False) s
  unfold lex3
  generalize k p.1 = x at r1 hd ⊢
  generalize k q.1 = y at r2 hd' ⊢
  obtain ⟨x1, x2, x3⟩ := x
  obtain ⟨y1, y2, y3⟩ := y
  dsimp only at r1 r2 hd hd' ⊢
  rw [e, e']
  refine PySem.W.kat_lt ho hd ho' hd' ?_
  show PySem.W.KatLex prog w A true (decide (3 < 3)) _ [(.str (wordN x1) t, .str (wordN y1) t'), (.int x2 u, .int y2 u'), (.int x3 z, .int y3 z')] 0 s
  refine PySem.W.kat_cons (wpAny_eqBool_str ?_)
  rw [word_eq r1 r2]
  refine PySem.W.kat_go (fun e1 => ?_) (fun e1 => ?_)
  · have h1 : x1 = y1 := of_decide_eq_true e1
    refine PySem.W.kat_yes (PySem.W.kat_cons (SeqAt.EqAt.int_int x2 u y2 u' prog w _ _ ?_))
    refine PySem.W.kat_go (fun e2 => ?_) (fun e2 => ?_)
    · have h2 : x2 = y2 := by simpa using e2
      refine PySem.W.kat_yes (PySem.W.kat_cons (SeqAt.EqAt.int_int x3 z y3 z' prog w _ _ ?_))
      refine PySem.W.kat_go (fun e3 => ?_) (fun e3 => ?_)
      · have h3 : x3 = y3 := by simpa using e3
        exact PySem.W.kat_yes (PySem.W.kat_nil ⟨rfl, (decide_eq_false (by omega)).symm⟩)
      · have h3 : ¬ x3 = y3 := by simpa using e3
        refine PySem.W.kat_no (oneLt_any_int ⟨rfl, decide_eq_decide.mpr (by omega)⟩)
    · have h2 : ¬ x2 = y2 := by simpa using e2
      refine PySem.W.kat_no (oneLt_any_int ⟨rfl, decide_eq_decide.mpr (by omega)⟩)
  · have h1 : ¬ x1 = y1 := of_decide_eq_false e1
    refine PySem.W.kat_no (oneLt_any_str ?_)
    rw [word_lt r1 r2]
    exact ⟨rfl, decide_eq_decide.mpr (by omega)⟩
theorem std_firsts {h : Heap} : ∀ {vs : List Value} {k : Value → Int × Int × Int}, (∀ v ∈ vs, IsStd h v (k v)) → ∃ fs, PySem.W.KatTups h vs fs ∧ fs.length = vs.length ∧ ∀ f ∈ fs, ∃ x t, f = Value.str x t
  | [], _, _ => ⟨[], .nil, rfl, fun f hf => by simp at hf⟩
  | v :: vs, k, hp => by
    obtain ⟨fs, h1, h2, h3⟩ := std_firsts (vs := vs) fun u hu => hp u (List.mem_cons_of_mem _ hu)
    obtain ⟨_, a, o, t, u, z, n, e, ho, hc, hd⟩ := hp v List.mem_cons_self
    subst e
    refine ⟨_ :: fs, .cons ho hc hd rfl h1, by simp [h2], fun f hf => ?_⟩
    rcases List.mem_cons.mp hf with rfl | hf
    · exact ⟨_, _, rfl⟩
    · exact h3 f hf
theorem std_sortable {a : Addr} {vs : List Value} {k : Value → Int × Int × Int} (h0 : 0 < vs.length) (hp : ∀ v ∈ vs, IsStd s.heap v (k v)) (ha : ∀ o, s.heap.get? a = some o → o.cls ≠ .type "tuple") : SortableO prog w A s a vs fun v u => lex3 (k v) (k u) := by
  intro h' keep
  have hp' : ∀ v ∈ vs, IsStd h' v (k v) := fun v hm => by
    obtain ⟨r, b, o, t, u, z, n, e, ho, hc, hd⟩ := hp v hm
    exact ⟨r, b, o, t, u, z, n, e, keep b o (fun q => by subst q; exact ha o ho hc) ho, hc, hd⟩
  obtain ⟨fs, h1, h2, h3⟩ := std_firsts hp'
  refine ⟨tuples' true, fun Q E hq => ?_, std_cmp hp'⟩
  have e : (Value.type "str" != Value.type "tuple") = true := by decide
  refine PySem.W.kat_kind (T := .type "str") h1 (by omega) (fun f hm => ?_) rfl (by rw [e]; exact hq)
  obtain ⟨x, t, rfl⟩ := h3 f hm
  exact PySem.W.Looks.of_pure rfl
end
/-- sorted(xs), tuples of such words and two ints -/
def rSortStd (K : PySem.W.Frag) : List V → Hp → VK → Prop := fun vs H Q => ∃ (a : Addr) (xs : List V) (k : V → Int × Int × Int), vs = [V.ref a] ∧ SqL K H a xs ∧ (∀ x ∈ xs, (0 ≤ (k x).1 ∧ (k x).1 ≤ 2) ∧ ∃ t, x = V.ref t ∧ SqT K H t [.str (wordN (k x).1), .int (k x).2.1, .int (k x).2.2]) ∧
  ∀ ys p, Srtd (fun v u => lex3 (k v) (k u)) ys → ys.Perm xs → H p = none → Q (.ref p) (upd H p (.lst ys))
theorem cr_sortStd {X : Cx} : CallR X (.builtin "sorted") (rSortStd X.K) := by
  intro pins s σ H vs us Q I r h
  obtain ⟨a, xs, k, rfl, hs, hx, q⟩ := h
  obtain ⟨its, rv, hl, hz⟩ := I.list hs
  obtain ⟨u, rfl, ru⟩ := vals1 r
  obtain rfl : u = Value.ref a := ru
  obtain ⟨e1, e2⟩ := refs_back rv fun x m => by
    obtain ⟨_, t, e, _⟩ := hx x m
    exact ⟨t, e⟩
  have hst : ∀ v ∈ its, IsStd s.heap v (k (backV v)) := fun v hv => by
    obtain ⟨t, rfl⟩ := e2 v hv
    have hm : V.ref t ∈ xs := by rw [e1]; exact List.mem_map.mpr ⟨_, hv, rfl⟩
    obtain ⟨r0, t', e, ht⟩ := hx _ hm
    cases e
    obtain ⟨its2, r2, ⟨o, ho, hc, n, hd⟩, _⟩ := I.tuple ht
    cases r2 with
    | @cons _ v1 _ _ ra r2 =>
      cases r2 with
      | @cons _ v2 _ _ rb r2 =>
        cases r2 with
        | @cons _ v3 _ _ rc r2 =>
          cases r2
          obtain ⟨t1, rfl⟩ := ra
          obtain ⟨t2, rfl⟩ := rb
          obtain ⟨t3, rfl⟩ := rc
          exact ⟨r0, t, o, t1, t2, t3, n, rfl, ho, hc, hd⟩
  refine sorted_ord (ltv := fun v u => lex3 (k (backV v)) (k (backV u))) (swo3 _) hl.isList (by rw [← rv.length]; exact hz) (fun h2 h₁ b hb kk => std_sortable (s := { s with heap := h₁ }) (by omega) (fun v hv => ?_) fun o e => ?_) fun out h1 h2 => ?_
  · obtain ⟨r0, t, o, t1, t2, t3, n, e, ho, hc, hd⟩ := hst v hv
    exact ⟨r0, t, o, t1, t2, t3, n, e, (kk t o ho).2, hc, hd⟩
  · have e' : some o = some (seqObj "list" its.toArray 0) := e.symm.trans hb
    cases e'
    intro c
    exact absurd (Value.type.inj c) (by decide)
  · have h3 : ∀ u ∈ out, ∃ a, u = Value.ref a := fun u hu => e2 u (h2.perm.mem_iff.mp hu)
    obtain ⟨n, hn⟩ := PyProof.Rows.sortedAll_at s.heap its out.toArray
    have hp : (out.map backV).Perm xs := by rw [e1]; exact h2.perm.map backV
    refine ⟨.ref _, upd H (s.heap.objs.size + 1) (.lst (out.map backV)), I.laid (t' := s.toks) (fun _ _ => PyProof.Rows.sortedAll_old) (Nat.le_succ _) ⟨?_, out, n, vals_back h3, hn⟩, rfl, q _ _ ?_ hp (I.hok.fresh (Nat.le_succ _))⟩
    · rw [hp.length_eq]; exact hz
    · exact List.pairwise_map.mpr h1
end Pa
set_option maxRecDepth 100000
set_option maxHeartbeats 4000000
namespace Pa
open PySem PySem.Spec PyProof.Rows L2 SrtO
/-! ### standings, as triples -/
abbrev Z3 := Int × Int × Int
def StdAt (K : PySem.W.Frag) (H : Hp) (x : V) (z : Z3) : Prop := (0 ≤ z.1 ∧ z.1 ≤ 2) ∧ ∃ t, x = V.ref t ∧ SqT K H t [.str (wordN z.1), .int z.2.1, .int z.2.2]
def ZAt (H : Hp) (x : V) (z : Z3) : Prop := TupAt H x [.str (wordN z.1), .int z.2.1, .int z.2.2]
theorem ZAt.std {K : PySem.W.Frag} {H : Hp} {x : V} {z : Z3} (r : 0 ≤ z.1 ∧ z.1 ≤ 2) (h : ZAt H x z) : StdAt K H x z := by
  obtain ⟨t, e, h⟩ := h
  exact ⟨r, t, e, SqT.of h⟩
theorem seqT_same {K : PySem.W.Frag} {H H' : Hp} {p : Addr} {xs : List V} (s : Same H H') (h : SqT K H p xs) : SqT K H' p xs := by
  rcases h with (h | ⟨o, h⟩) | h
  · exact .inl (.inl (s _ _ h))
  · exact .inl (.inr ⟨o, s _ _ h⟩)
  · exact .inr h
theorem StdAt.mono {K : PySem.W.Frag} {H H' : Hp} (s : Same H H') {x : V} {z : Z3} (h : StdAt K H x z) : StdAt K H' x z := by
  obtain ⟨r, t, e, h⟩ := h
  exact ⟨r, t, e, seqT_same s h⟩
theorem zMono {H H' : Hp} {xs : List V} {ys : List Z3} (a : Tups H H') (h : AllAt ZAt H xs ys) : AllAt ZAt H' xs ys := h.mono fun _ _ => TupAt.mono a
theorem zStd {K : PySem.W.Frag} {H : Hp} : ∀ {xs : List V} {ys : List Z3}, (∀ z ∈ ys, 0 ≤ z.1 ∧ z.1 ≤ 2) → AllAt ZAt H xs ys → AllAt (StdAt K) H xs ys
  | [], [], _, _ => trivial
  | [], _ :: _, _, h => h.elim
  | _ :: _, [], _, h => h.elim
  | _ :: _, _ :: _, r, h => ⟨h.1.std (r _ List.mem_cons_self), zStd (fun z hz => r z (List.mem_cons_of_mem _ hz)) h.2⟩
theorem stdMono {K : PySem.W.Frag} {H H' : Hp} {xs : List V} {ys : List Z3} (s : Same H H') (h : AllAt (StdAt K) H xs ys) : AllAt (StdAt K) H' xs ys := h.mono fun _ _ => StdAt.mono s
/-- sorted(xs), xs standings -/
def rSortZ (K : PySem.W.Frag) : List V → Hp → VK → Prop := fun vs H Q => ∃ (a : Addr) (xs : List V) (ks : List Z3), vs = [V.ref a] ∧ SqL K H a xs ∧ AllAt (StdAt K) H xs ks ∧
  ∀ ys ks' p, AllAt (StdAt K) H ys ks' → Srtd lex3 ks' → ks'.Perm ks → H p = none → Q (.ref p) (upd H p (.lst ys))
theorem all_map {K : PySem.W.Frag} {H : Hp} {k : V → Z3} : ∀ {xs : List V}, (∀ x ∈ xs, StdAt K H x (k x)) → AllAt (StdAt K) H xs (xs.map k)
  | [], _ => trivial
  | x :: xs, h => ⟨h x List.mem_cons_self, all_map fun y hy => h y (List.mem_cons_of_mem _ hy)⟩
open Classical in
theorem cr_sortZ {X : Cx} : CallR X (.builtin "sorted") (rSortZ X.K) := by
  intro pins s σ H vs us Q I r h
  obtain ⟨a, xs, ks, rfl, hs, hx, q⟩ := h
  have uni : ∀ {x : V} {y z : Z3}, StdAt X.K H x y → StdAt X.K H x z → y = z := fun {x y z} h1 h2 => by
    obtain ⟨r1, t, rfl, a1⟩ := h1
    obtain ⟨r2, t', e, a2⟩ := h2
    cases e
    have e := I.tuple_inj a1 a2
    obtain ⟨y1, y2, y3⟩ := y
    obtain ⟨z1, z2, z3⟩ := z
    simp only [List.cons.injEq, V.str.injEq, V.int.injEq, and_true] at e
    obtain ⟨e1, e2, e3⟩ := e
    dsimp only at r1 r2
    have w := word_eq r1 r2
    rw [decide_eq_true e1] at w
    have := of_decide_eq_true w.symm
    rw [this, e2, e3]
  let k : V → Z3 := fun x => if h : ∃ z, StdAt X.K H x z then choose h else (0, 0, 0)
  have hk : ∀ {x : V} {z : Z3}, StdAt X.K H x z → k x = z := fun {x z} h => by
    have e : ∃ z, StdAt X.K H x z := ⟨z, h⟩
    show (if h : ∃ z, StdAt X.K H x z then choose h else (0, 0, 0)) = z
    rw [dif_pos e]
    exact uni (choose_spec e) h
  have hall : ∀ {xs : List V} {ks : List Z3}, AllAt (StdAt X.K) H xs ks → xs.map k = ks ∧ ∀ x ∈ xs, StdAt X.K H x (k x) := by
    intro xs
    induction xs with
    | nil =>
      intro ks h
      cases ks with
      | nil => exact ⟨rfl, fun x hx => by cases hx⟩
      | cons _ _ => exact h.elim
    | cons x xs ih =>
      intro ks h
      cases ks with
      | nil => exact h.elim
      | cons z ks =>
        obtain ⟨h1, h2⟩ := h
        obtain ⟨i1, i2⟩ := ih h2
        refine ⟨by rw [List.map_cons, hk h1, i1], fun y hy => ?_⟩
        rcases List.mem_cons.mp hy with e | hy
        · rw [e, hk h1]; exact h1
        · exact i2 y hy
  obtain ⟨e1, e2⟩ := hall hx
  refine cr_sortStd pins s σ H [V.ref a] us Q I r ⟨a, xs, k, rfl, hs, e2, fun ys p h1 h2 hp => ?_⟩
  refine q ys (ys.map k) p (all_map fun y hy => e2 y (h2.mem_iff.mp hy)) (List.pairwise_map.mpr h1) ?_ hp
  rw [← e1]
  exact h2.map k
/-- all standings of a length, as the program lists them ahead of sorting -/
def barZ (L : Int) : List Z3 := (List.range (L - 1).toNat).map fun (i : Nat) => ((0, 1 + (i : Int), 0) : Z3)
def looseZ (L : Int) : List Z3 := ((List.range (L - 1).toNat).map fun (i : Nat) => (List.range (i + 1)).map fun (j : Nat) => ((0, 2 + (i : Int), 1 + (j : Int)) : Z3)).flatten
def openZ (L : Int) : List Z3 := (List.range (L - 1).toNat).map fun (i : Nat) => ((1, 1 + (i : Int), 0) : Z3)
def progZ (L : Int) : List Z3 := barZ L ++ looseZ L ++ openZ L ++ [(2, 0, 0)]
def StdZ (L : Int) (z : Z3) : Prop := (z.1 = 0 ∧ 1 ≤ z.2.1 ∧ z.2.1 ≤ L ∧ 0 ≤ z.2.2 ∧ z.2.2 < z.2.1 ∧ (z.2.1 < L ∨ 0 < z.2.2)) ∨ (z.1 = 1 ∧ 1 ≤ z.2.1 ∧ z.2.1 < L ∧ z.2.2 = 0) ∨ z = (2, 0, 0)
theorem mem_bar {L : Int} {z : Z3} : z ∈ barZ L ↔ z.1 = 0 ∧ 1 ≤ z.2.1 ∧ z.2.1 < L ∧ z.2.2 = 0 := by
  obtain ⟨a, b, c⟩ := z
  unfold barZ
  simp only [List.mem_map, List.mem_range, Prod.mk.injEq]
  constructor
  · rintro ⟨i, hi, h1, h2, h3⟩
    omega
  · rintro ⟨h1, h2, h3, h4⟩
    exact ⟨(b - 1).toNat, by omega, by omega, by omega, by omega⟩
theorem mem_open {L : Int} {z : Z3} : z ∈ openZ L ↔ z.1 = 1 ∧ 1 ≤ z.2.1 ∧ z.2.1 < L ∧ z.2.2 = 0 := by
  obtain ⟨a, b, c⟩ := z
  unfold openZ
  simp only [List.mem_map, List.mem_range, Prod.mk.injEq]
  constructor
  · rintro ⟨i, hi, h1, h2, h3⟩
    omega
  · rintro ⟨h1, h2, h3, h4⟩
    exact ⟨(b - 1).toNat, by omega, by omega, by omega, by omega⟩
theorem mem_loose {L : Int} {z : Z3} : z ∈ looseZ L ↔ z.1 = 0 ∧ 2 ≤ z.2.1 ∧ z.2.1 ≤ L ∧ 1 ≤ z.2.2 ∧ z.2.2 < z.2.1 := by
  obtain ⟨a, b, c⟩ := z
  unfold looseZ
  simp only [List.mem_flatten, List.mem_map, List.mem_range]
  constructor
  · rintro ⟨l, ⟨i, hi, rfl⟩, hl⟩
    simp only [List.mem_map, List.mem_range, Prod.mk.injEq] at hl
    obtain ⟨j, hj, h1, h2, h3⟩ := hl
    omega
  · rintro ⟨h1, h2, h3, h4, h5⟩
    refine ⟨_, ⟨(b - 2).toNat, by omega, rfl⟩, ?_⟩
    simp only [List.mem_map, List.mem_range, Prod.mk.injEq]
    exact ⟨(c - 1).toNat, by omega, by omega, by omega, by omega⟩
theorem mem_prog {L : Int} (hL : 1 ≤ L) {z : Z3} : z ∈ progZ L ↔ StdZ L z := by
  unfold progZ StdZ
  obtain ⟨a, b, c⟩ := z
  simp only [List.mem_append, mem_bar, mem_loose, mem_open, List.mem_singleton, Prod.mk.injEq]
  omega
theorem prog_word {L : Int} {z : Z3} (h : z ∈ progZ L) : 0 ≤ z.1 ∧ z.1 ≤ 2 := by
  unfold progZ at h
  simp only [List.mem_append, mem_bar, mem_loose, mem_open, List.mem_singleton] at h
  rcases h with ((h | h) | h) | h
  · omega
  · omega
  · omega
  · rw [h]; exact ⟨by decide, by decide⟩
end Pa
set_option maxRecDepth 100000
set_option maxHeartbeats 4000000
namespace Pa
open PySem PySem.Spec PyProof.Rows L2 SrtO
/-! ### two loops in one comprehension -/
section
variable {J : It} {n : Nat} {G : Hp → Prop} {Y : Nat → Hp → V → Hp → Prop}
theorem lc2_out (w : Walk J n G Y) {g : TG} {tt : TT} {Inner : L2.St → Hp → (Hp → Prop) → Prop} {vs : List Nat} {σ : L2.St} {H1 : Hp} {D : Addr} {Qd : Hp → Prop} (Pv : Nat → Hp → Prop) (h0 : Pv 0 (upd H1 D (.lst []))) (hG : ∀ i H, i ≤ n → Pv i H → G H)
    (hs : ∀ i x H H', i < n → Pv i H → Y i H x H' → g x (wipe σ vs) H' fun σ2 H2 => wipe σ2 vs = wipe σ vs ∧ tt σ2 H2 fun b H3 => if b = true then Inner σ2 H3 (Pv (i + 1)) else Pv (i + 1) H3) (hd : ∀ H, Pv n H → Qd H) :
    ∃ W : Nat → Nat → Hp → Prop, (∃ m, W 0 m (upd H1 D (.lst []))) ∧ ∀ i m H, W i m H →
      (J.stop i H ∧ Qd H) ∨ (J.go i H ∧ ∃ Nx : Hp → Prop, (∀ H', Nx H' → ∃ m', m' < m ∧ W (i + 1) m' H') ∧ ∀ x H', J.yld i H x H' → g x (wipe σ vs) H' fun σ2 H2 => wipe σ2 vs = wipe σ vs ∧ tt σ2 H2 fun b H3 =>
        if b = true then Inner σ2 H3 Nx else Nx H3) := by
  refine ⟨fun i m H => m = n - i ∧ i ≤ n ∧ Pv i H, ⟨n, by simp, Nat.zero_le _, h0⟩, ?_⟩
  rintro i m H ⟨rfl, hi, p⟩
  have q := hG i H hi p
  by_cases hlt : i < n
  · exact .inr ⟨w.goes i H hlt q, Pv (i + 1), fun H' p' => ⟨n - (i + 1), by omega, rfl, hlt, p'⟩, fun x H' y => hs i x H H' hlt p (w.yields i H x H' hlt q y)⟩
  · have e : i = n := by omega
    subst e
    exact .inl ⟨w.stops H q, hd H p⟩
theorem lc2_in (w : Walk J n G Y) {g : TG} {tt : TT} {te : TE} {vs : List Nat} {σ : L2.St} {H4 : Hp} {D : Addr} {Nx : Hp → Prop} (Pv : Nat → Hp → Prop) (h0 : Pv 0 H4) (hG : ∀ i H, i ≤ n → Pv i H → G H)
    (hs : ∀ i x H H', i < n → Pv i H → Y i H x H' → g x (wipe σ vs) H' fun σ2 H2 => wipe σ2 vs = wipe σ vs ∧ tt σ2 H2 fun b H3 =>
      if b = true then te σ2 H3 fun y H7 => ∃ acc, H7 D = some (.lst acc) ∧ acc.length < sizeLine ∧ Pv (i + 1) (upd H7 D (.lst (acc ++ [y]))) else Pv (i + 1) H3) (hd : ∀ H, Pv n H → Nx H) :
    ∃ W : Nat → Nat → Hp → Prop, (∃ m, W 0 m H4) ∧ ∀ j k H, W j k H →
      (J.stop j H ∧ Nx H) ∨ (J.go j H ∧ ∃ Nx1 : Hp → Prop, (∀ H', Nx1 H' → ∃ k', k' < k ∧ W (j + 1) k' H') ∧ ∀ x H', J.yld j H x H' → g x (wipe σ vs) H' fun σ2 H2 => wipe σ2 vs = wipe σ vs ∧ tt σ2 H2 fun b H3 =>
        if b = true then te σ2 H3 fun y H7 => ∃ acc, H7 D = some (.lst acc) ∧ acc.length < sizeLine ∧ Nx1 (upd H7 D (.lst (acc ++ [y]))) else Nx1 H3) := by
  refine ⟨fun i m H => m = n - i ∧ i ≤ n ∧ Pv i H, ⟨n, by simp, Nat.zero_le _, h0⟩, ?_⟩
  rintro i m H ⟨rfl, hi, p⟩
  have q := hG i H hi p
  by_cases hlt : i < n
  · exact .inr ⟨w.goes i H hlt q, Pv (i + 1), fun H' p' => ⟨n - (i + 1), by omega, rfl, hlt, p'⟩, fun x H' y => hs i x H H' hlt p (w.yields i H x H' hlt q y)⟩
  · have e : i = n := by omega
    subst e
    exact .inl ⟨w.stops H q, hd H p⟩
end
/-- more facts of the program's top -/
structure Txt2 (K : PySem.W.Frag) (mg : Str → Option Value) : Prop where
  b_sorted : mg "sorted" = none
  b_str : mg "str" = none
theorem zPush {H : Hp} {q p : Addr} {ls tv : List V} {ys : List Z3} {y : Z3} (hq : H q = some (.lst ls)) (ha : AllAt ZAt H ls ys) (hp : H p = none) (et : tv = [.str (wordN y.1), .int y.2.1, .int y.2.2]) :
    upd (upd H p (.tup tv)) q (.lst (ls ++ [.ref p])) q = some (.lst (ls ++ [.ref p])) ∧ AllAt ZAt (upd (upd H p (.tup tv)) q (.lst (ls ++ [.ref p]))) (ls ++ [.ref p]) (ys ++ [y]) ∧
      (upd H p (.tup tv)) q = some (.lst ls) ∧ ∀ a o, a ≠ q → H a = some o → upd (upd H p (.tup tv)) q (.lst (ls ++ [.ref p])) a = some o := all_push (f := fun y : Z3 => [.str (wordN y.1), .int y.2.1, .int y.2.2]) hq ha hp et
theorem len_loose (L : Int) (i : Nat) : ((((List.range i).map fun (i : Nat) => (List.range (i + 1)).map fun (j : Nat) => ((0, 2 + (i : Int), 1 + (j : Int)) : Z3)).flatten).length) ≤ i * (i + 1) := by
  induction i with
  | zero => simp
  | succ i ih =>
    rw [List.range_succ, List.map_append, List.flatten_append, List.length_append]
    simp only [List.map_cons, List.map_nil, List.flatten_cons, List.flatten_nil, List.append_nil, List.length_map, List.length_range]
    have : (i + 1) * (i + 1 + 1) = i * (i + 1) + 2 * (i + 1) := by rw [Nat.add_mul, Nat.mul_add, Nat.mul_add]; omega
    omega
section
variable {P : Program} {w : World} {K : PySem.W.Frag} {mg : Str → Option Value} {base : Heap} {tp C : Addr}
/-! ### standings -/
def spStandings (K : PySem.W.Frag) : Sp := fun vs H Q _ => ∃ L : Int, vs = [.int L] ∧ 2 ≤ L ∧ L ≤ 9 ∧ ∀ p H' ys ks, H p = none → Same H H' → H' p = some (.lst ys) → AllAt (StdAt K) H' ys ks → Srtd lex3 ks → ks.Perm (progZ L) → Q (.ref p) H'
abbrev sstandings : Stmt := topS 7
theorem scstandings : FnScope ["length", "all_barred", "height", "loose", "tail"] ["length"] (defScope sstandings) := ⟨rfl, rfl, rfl, by decide +kernel, rfl, by decide +kernel, by decide +kernel⟩
theorem ok_standings {f : Addr} {fd : FuncData} (F : Fun K "standings" "standings" sstandings f fd) (T : Txt K mg tp C) (T2 : Txt2 K mg) : FnOk P w K mg base CX0 1 f fd ["length"] (spStandings K) := by
  refine F.ok scstandings (fun vs H Q E h => ?_) (fun cdv A outer s H vs Q E hr h => ?_)
  · obtain ⟨L, rfl, _⟩ := h
    rfl
  · obtain ⟨L, rfl, hL2, hL9, k⟩ := h
    refine ⟨_, (pss_cons (ps_setLc (i := 1) (own := [("height", 2)]) (g := gName 2) (tt := tYes) rfl scstandings.nd rfl rfl (sw_true rfl rfl rfl (by decide +kernel)) (pi_range2 (by rfl) T.b_range (pa_cons pe_int (pa_cons (pv 0) pa_nil))) (blkOk_by (N := ["length", "all_barred", "height", "loose", "tail"]) (sc := defScope sstandings) (by decide +kernel)) (fun _ _ _ _ _ => (pg_name (i := 2) scstandings.nd rfl (.inl rfl))) (fun _ _ _ _ _ => pts_nil) (fun _ _ _ _ _ => (pe_tup (pa_cons pe_str (pa_cons (pv 2) (pa_cons pe_int pa_nil))))))
      (pss_cons (ps_setLc2 (i := 3) (own := [("height", 2), ("tail", 4)]) (vs1 := [4]) (wi1 := iRng2 (tCons (tC (.int 1)) (tCons (tVar 2) tNil))) (g := gName 2) (g1 := gName 4) rfl scstandings.nd rfl rfl (sw_true rfl rfl rfl (by decide +kernel)) (pi_range2 (by rfl) T.b_range (pa_cons pe_int (pa_cons (pe_op op_add (pv 0) pe_int) pa_nil))) (blkOk_by (N := ["length", "all_barred", "height", "loose", "tail"]) (sc := defScope sstandings) (by decide +kernel)) (by decide) (fun _ _ _ _ _ => (pg_name (i := 2) scstandings.nd rfl (.inl rfl))) (fun _ _ _ _ _ => pts_nil) (fun _ _ _ _ _ => (pi_range2 (by rfl) T.b_range (pa_cons pe_int (pa_cons (pv 2) pa_nil)))) (fun _ _ _ _ _ => (pg_name (i := 4) scstandings.nd rfl (.inl rfl))) (fun _ _ _ _ _ => pts_nil) (fun _ _ _ _ _ => (pe_tup (pa_cons pe_str (pa_cons (pv 2) (pa_cons (pv 4) pa_nil))))))
      (pss_one (ps_ret (pe_callB cr_sortZ (by rfl) T2.b_sorted (by decide +kernel) (pa_cons (pe_op op_cat (pe_op op_cat (pe_op op_cat (pv 1) (pv 3)) (pe_lc (own := [("height", 2)]) (g := gName 2) (tt := tYes) rfl scstandings.nd (pi_range2 (by rfl) T.b_range (pa_cons pe_int (pa_cons (pv 0) pa_nil))) (blkOk_by (N := ["length", "all_barred", "height", "loose", "tail"]) (sc := defScope sstandings) (by decide +kernel)) (fun _ _ _ _ _ => (pg_name (i := 2) scstandings.nd rfl (.inl rfl))) (fun _ _ _ _ _ => pts_nil) (fun _ _ _ _ _ => (pe_tup (pa_cons pe_str (pa_cons (pv 2) (pa_cons pe_int pa_nil))))))) (pe_lst (pa_cons (pe_glob (v := .ref tp) (by rfl) T.g_TOP rfl) pa_nil))) pa_nil)))))), ?_⟩
    have e1 : (L - 1).toNat ≤ 8 := by omega
    refine ⟨_, rfl, _, _, rfl, ⟨by omega, by omega, by omega, by omega⟩, fun D1 hD1 => ?_⟩
    refine lc_range (lo := 1) (n := (L - 1).toNat) (fun i H3 => Same H H3 ∧ ∃ acc, H3 D1 = some (.lst acc) ∧ AllAt ZAt H3 acc ((List.range i).map fun (i : Nat) => ((0, 1 + (i : Int), 0) : Z3))) ⟨same_new hD1, [], upd_same, trivial⟩ ?_ ?_
    · rintro i H3 hi ⟨s3, acc, hacc, hra⟩
      refine ⟨rfl, ?_⟩
      refine ⟨_, rfl, (by show 3 ≤ sizeLine; decide), fun p hp => ?_⟩
      obtain ⟨p1, p2, p3, p4⟩ := zPush (y := (0, 1 + (i : Int), 0)) (tv := [.str "kept", .int (1 + (i : Int)), .int 0]) hacc hra hp rfl
      refine ⟨acc, p3, ?_, fun q o e => p4 q o (fun r => by rw [r, hD1] at e; cases e) (s3 _ _ e), _, p1, ?_⟩
      · rw [hra.len, List.length_map, List.length_range]
        exact Nat.lt_of_le_of_lt (m := 1000) (by omega) (by decide)
      · rw [List.range_succ, List.map_append]
        exact p2
    rintro H1 ⟨s1, bs, hbs, hbr⟩
    have hbr : AllAt ZAt H1 bs (barZ L) := hbr
    refine ⟨_, rfl, _, _, rfl, rfl, _, _, rfl, ⟨by omega, by omega, by omega, by omega⟩, fun D2 hD2 => ?_⟩
    have e2 : (L + 1 - 2).toNat = (L - 1).toNat := by omega
    rw [e2]
    refine lc2_out (walk_range (lo := 2) (n := (L - 1).toNat)) (fun i H3 => Same H1 H3 ∧ ∃ acc, H3 D2 = some (.lst acc) ∧ AllAt ZAt H3 acc (((List.range i).map fun (i : Nat) => (List.range (i + 1)).map fun (j : Nat) => ((0, 2 + (i : Int), 1 + (j : Int)) : Z3)).flatten)) ⟨same_new hD2, [], upd_same, trivial⟩ (fun _ _ _ _ => trivial) ?_ ?_
    · rintro i x H3 H4 hi ⟨s3, acc, hacc, hra⟩ ⟨rfl, rfl⟩
      refine ⟨rfl, ?_⟩
      refine ⟨_, rfl, _, _, rfl, ⟨by omega, by omega, by omega, by omega⟩, ?_⟩
      have e3 : (2 + (i : Int) - 1).toNat = i + 1 := by omega
      rw [e3]
      refine lc2_in (walk_range (lo := 1) (n := i + 1)) (fun j H5 => Same H1 H5 ∧ ∃ acc, H5 D2 = some (.lst acc) ∧ AllAt ZAt H5 acc ((((List.range i).map fun (i : Nat) => (List.range (i + 1)).map fun (j : Nat) => ((0, 2 + (i : Int), 1 + (j : Int)) : Z3)).flatten) ++ (List.range j).map fun (j : Nat) => ((0, 2 + (i : Int), 1 + (j : Int)) : Z3))) ⟨s3, acc, hacc, by simpa using hra⟩ (fun _ _ _ _ => trivial) ?_ ?_
      · rintro j x H5 H6 hj ⟨s5, acc5, hacc5, hra5⟩ ⟨rfl, rfl⟩
        refine ⟨rfl, ?_⟩
        refine ⟨_, rfl, _, rfl, (by show 3 ≤ sizeLine; decide), fun p hp => ?_⟩
        obtain ⟨p1, p2, p3, p4⟩ := zPush (y := (0, 2 + (i : Int), 1 + (j : Int))) (tv := [.str "kept", .int (2 + (i : Int)), .int (1 + (j : Int))]) hacc5 hra5 hp rfl
        refine ⟨acc5, p3, ?_, fun q o e => p4 q o (fun r => by rw [r, hD2] at e; cases e) (s5 _ _ e), _, p1, ?_⟩
        · have l1 := len_loose L i
          have l2 := hra5.len
          rw [List.length_append, List.length_map, List.length_range] at l2
          have l3 : i * (i + 1) ≤ 8 * 9 := Nat.mul_le_mul (by omega) (by omega)
          exact Nat.lt_of_le_of_lt (m := 1000) (by omega) (by decide)
        · rw [List.range_succ, List.map_append, ← List.append_assoc]
          exact p2
      · rintro H5 ⟨s5, acc5, hacc5, hra5⟩
        refine ⟨s5, acc5, hacc5, ?_⟩
        rw [List.range_succ, List.map_append, List.flatten_append]
        simpa using hra5
    rintro H2 ⟨s2, ls, hls, hlr⟩
    have hlr : AllAt ZAt H2 ls (looseZ L) := hlr
    have hbs2 := s2 _ _ hbs
    have hbr2 := zMono (Tups.of s2) hbr
    have lb : bs.length ≤ 8 := by
      rw [hbr.len]
      unfold barZ
      rw [List.length_map, List.length_range]
      exact e1
    have ll : ls.length ≤ 100 := by
      rw [hlr.len]
      have := len_loose L (L - 1).toNat
      have l3 : (L - 1).toNat * ((L - 1).toNat + 1) ≤ 8 * 9 := Nat.mul_le_mul e1 (by omega)
      exact Nat.le_trans this (by omega)
    refine ⟨_, rfl, _, rfl, _, _, _, _, rfl, rfl, hbs2, hls, Nat.le_trans (m := 108) (by omega) (by decide), fun q1 hq1 => ?_⟩
    have t1 := same_new (o := .lst (bs ++ ls)) hq1
    have c1 : (upd H2 q1 (.lst (bs ++ ls))) q1 = some (.lst (bs ++ ls)) := upd_same
    have r1 : AllAt ZAt (upd H2 q1 (.lst (bs ++ ls))) (bs ++ ls) (barZ L ++ looseZ L) := zMono (Tups.of t1) (hbr2.app hlr)
    generalize upd H2 q1 (.lst (bs ++ ls)) = H3 at t1 c1 r1
    refine ⟨_, rfl, _, _, rfl, ⟨by omega, by omega, by omega, by omega⟩, fun D3 hD3 => ?_⟩
    refine lc_range (lo := 1) (n := (L - 1).toNat) (fun i H4 => Same H3 H4 ∧ ∃ acc, H4 D3 = some (.lst acc) ∧ AllAt ZAt H4 acc ((List.range i).map fun (i : Nat) => ((1, 1 + (i : Int), 0) : Z3))) ⟨same_new hD3, [], upd_same, trivial⟩ ?_ ?_
    · rintro i H4 hi ⟨s4, acc, hacc, hra⟩
      refine ⟨rfl, ?_⟩
      refine ⟨_, rfl, (by show 3 ≤ sizeLine; decide), fun p hp => ?_⟩
      obtain ⟨p1, p2, p3, p4⟩ := zPush (y := (1, 1 + (i : Int), 0)) (tv := [.str "open", .int (1 + (i : Int)), .int 0]) hacc hra hp rfl
      refine ⟨acc, p3, ?_, fun q o e => p4 q o (fun r => by rw [r, hD3] at e; cases e) (s4 _ _ e), _, p1, ?_⟩
      · rw [hra.len, List.length_map, List.length_range]
        exact Nat.lt_of_le_of_lt (m := 1000) (by omega) (by decide)
      · rw [List.range_succ, List.map_append]
        exact p2
    rintro H4 ⟨s4, os, hos, hor⟩
    have hor : AllAt ZAt H4 os (openZ L) := hor
    have lo : os.length ≤ 8 := by
      rw [hor.len]
      unfold openZ
      rw [List.length_map, List.length_range]
      exact e1
    refine ⟨_, _, _, _, rfl, rfl, s4 _ _ c1, hos, Nat.le_trans (m := 120) (by rw [List.length_append]; omega) (by decide), fun q2 hq2 => ?_⟩
    have t2 := same_new (o := .lst (bs ++ ls ++ os)) hq2
    have c2 : (upd H4 q2 (.lst (bs ++ ls ++ os))) q2 = some (.lst (bs ++ ls ++ os)) := upd_same
    have r2 : AllAt ZAt (upd H4 q2 (.lst (bs ++ ls ++ os))) (bs ++ ls ++ os) (barZ L ++ looseZ L ++ openZ L) := zMono (Tups.of t2) ((zMono (Tups.of s4) r1).app hor)
    generalize upd H4 q2 (.lst (bs ++ ls ++ os)) = H5 at t2 c2 r2
    refine ⟨(by show 1 ≤ sizeLine; decide), fun q3 hq3 => ?_⟩
    have t3 := same_new (o := .lst [V.ref tp]) hq3
    refine ⟨_, _, _, _, rfl, rfl, t3 _ _ c2, upd_same, Nat.le_trans (m := 150) (by simp only [List.length_append, List.length_cons, List.length_nil]; omega) (by decide), fun q4 hq4 => ?_⟩
    have t4 := same_new (o := .lst (bs ++ ls ++ os ++ [V.ref tp])) hq4
    have s5 : Same H5 (upd (upd H5 q3 (.lst [V.ref tp])) q4 (.lst (bs ++ ls ++ os ++ [V.ref tp]))) := t3.trans t4
    have c4 : (upd (upd H5 q3 (.lst [V.ref tp])) q4 (.lst (bs ++ ls ++ os ++ [V.ref tp]))) q4 = some (.lst (bs ++ ls ++ os ++ [V.ref tp])) := upd_same
    have r3 : AllAt (StdAt K) (upd (upd H5 q3 (.lst [V.ref tp])) q4 (.lst (bs ++ ls ++ os ++ [V.ref tp]))) (bs ++ ls ++ os ++ [V.ref tp]) (progZ L) := by
      refine (zStd (fun z hz => prog_word (List.mem_append_left _ hz)) (zMono (Tups.of s5) r2)).app ⟨⟨⟨by decide, by decide⟩, tp, rfl, ?_⟩, trivial⟩
      exact T.top _
    have sH : Same H (upd (upd H5 q3 (.lst [V.ref tp])) q4 (.lst (bs ++ ls ++ os ++ [V.ref tp]))) := ((((s1.trans s2).trans t1).trans s4).trans t2).trans s5
    generalize upd (upd H5 q3 (.lst [V.ref tp])) q4 (.lst (bs ++ ls ++ os ++ [V.ref tp])) = H6 at c4 r3 sH
    refine ⟨q4, _, _, rfl, SqL.of c4, r3, fun ys ks' p h1 h2 h3 hp => ?_⟩
    exact k p _ ys ks' (sH.free hp) (sH.trans (same_new hp)) upd_same (stdMono (same_new hp) h1) h2 h3
end
end Pa
set_option maxRecDepth 100000
set_option maxHeartbeats 4000000
namespace Pa
open PySem PySem.Spec PyProof.Rows L2
/-! ### super().__init__('..') in an own error's __init__ -/
theorem mw_init {X : Cx} {pins : List (Addr × Obj)} {σ : List (Option V)} {H : Hp} {s : Shared} {u a C : Addr} {us : List Value} {A : Around} {Q : Value → Shared → Prop} {E : Value → Shared → Prop}
    (T : OexC X.K C) (I : Inv X pins σ H s) (hu : s.heap.get? u = some (PySem.W.kxs_mw "ValueError.__init__" a)) (e : H a = some (exo a C none)) (hl : us.length ≤ sizeLine) (h : ∀ s', Inv X pins σ H s' → Q .none s') :
    wpAny (model X.prog X.w) A (call (.ref u) us) Q E s := by
  obtain ⟨_, _, _, _, _, _, _, _, _, _, _, _, _, _, _, hC, _⟩ := T.cls
  obtain ⟨t1, ho⟩ := exo_at I.hok e
  obtain ⟨hp, g, d, t, os⟩ := s
  apply wpAny_call
  apply codeAny_of_tree
  show wpAny _ A.in1 (callAny (.ref u) ⟨us, []⟩) _ _ _
  unfold callAny
  refine wpAny_bind (wpAny_load hu ?_)
  have c1 : (Value.type "method-wrapper" == Value.type "method" || Value.type "method-wrapper" == Value.type "builtin_function_or_method" || Value.type "method-wrapper" == Value.type "method-wrapper") = true := by decide
  simp only [PySem.W.kxs_mw, c1, if_true]
  refine PySem.W.KFB.if_so (by decide) ?_
  refine wpAny_bind (PySem.W.check_bound_init F.excBase_ValueError.toExcCallFacts (I.kIn _ _ hC) ho rfl (wpAny_bind (wpAny_pure (wpAny_pure ⟨plainId_quiet F.excBase_ValueError.init.plain _, codeAny_builtin F.excBase_ValueError.initEntry ?_⟩))))
  refine PySem.W.exc_init_tree (cls := .ref C) (t0 := t1) (dv := none) (c2 := .none) (c3 := .none) (b4 := .bool false) ho hl fun h' k hx _ => ?_
  have J := I.write (t' := t) (x := a) (e := a) (o := exo a C none) (by rw [e]; trivial) (.inl rfl) k ⟨_, hx⟩ (exo_ok hx)
  have eu : upd H a (exo a C none) = H := funext fun b => by
    by_cases hb : b = a
    · rw [hb, upd_same, e]
    · exact upd_ne hb
  rw [eu] at J
  exact h _ J
end Pa
set_option maxRecDepth 100000
set_option maxHeartbeats 4000000
namespace Pa
open PySem PySem.Spec PyProof.Rows L2
/-- the names of such an __init__, without those that are not its own -/
def supScope0 (fld : Str) : Scope := { kind := .function, names := [("self", .local), (fld, .local)], isGenerator := false, isCoroutine := false, more := [] }
def supScope (fld : Str) : Scope := { kind := .function, names := [("self", .local), (fld, .local), ("__class__", .free), ("super", .globalImplicit)], isGenerator := false, isCoroutine := false, more := [] }
/-- class X(..): def __init__(self, f): super().__init__('..'); self.f = f -/
def spSup (C : Addr) (fld : Str) : Sp := fun vs H Q _ => ∃ (a : Addr) (v : V), vs = [.ref a, v] ∧ H a = some (exo a C none) ∧
  ∀ dx, H dx = none → dx ≠ a → Q .non (upd (upd H dx (exd dx [(fld, v)])) a (exo a C (some dx)))
structure SupCls (P : Program) (K : PySem.W.Frag) (mg : Str → Option Value) (C : Addr) (fld : Str) : Prop where
  oex : OexC K C
  noF : PySem.W.findIn K (.ref C) fld = some none
  ve : PySem.W.subIn K (.ref C) (.type "ValueError") = some true
  own : PySem.W.mroIn K C (.ref C) = some true
  sup : PySem.W.ks_superIn K C C "__init__" = some (some (.builtin "ValueError.__init__"))
  third : PySem.W.nsIn K cStatics "thirdparty.any" = some none
  mgS : mg "super" = none
  top : (P.main.scope.names.lookup ("super" : Str)).isSome = false
theorem sup_go {X : Cx} {pins : List (Addr × Obj)} {σ : List (Option V)} {H : Hp} {s : Shared} {A : Around} {Q : Value → Shared → Prop} {E : Value → Shared → Prop} {C f cc cda a : Addr} {qual fld tx : Str} {params : Arguments} {body : List Stmt} {dV kV doc pm ct oc ccl cl : Value} {an od cdd cld : Option Addr} {osl ccs csl : Array (Option Value)}
    {vs0 : Array Value} {file : Str} {tf : Tok} {ar : Arg} {p0 p1 p3 p4 : Pos} {whole : Sem Value} {pl : Sem Bool} {bdy : List Stmt} (T : SupCls X.prog X.K X.mg C fld) (I : Inv X pins σ H s) (L : Addr)
    (lk : X.K.lookup f = some ⟨oc, od, .func (PySem.W.fnX "__init__" qual params body (supScope fld) [("__class__", cc)] dV kV doc pm an (.ref cda) ct), osl⟩)
    (hcode : X.K.lookup cda = some ⟨ccl, cdd, .fields vs0, ccs⟩) (hvs : vs0[2]? = some (.str file tf)) (hfile : ((X.prog.main.file : Str) == file) = true) (hcell : X.K.lookup cc = some ⟨cl, cld, .cell (some (.ref C)), csl⟩)
    (hp : (params.posonlyargs ++ params.args).head? = some ar) (har : ar.arg = ("self" : Str)) (hf1 : (("super" : Str) == fld) = false) (hf2 : (("__class__" : Str) == fld) = false) {m : Str → Option Value} (hns : s.heap.Ns L m) (hm : m "self" = some (.ref a)) (ha : H a = some (exo a C none)) (h : ∀ s', Inv X pins σ H s' → Q .none s') :
    PySem.wpAt (model X.prog X.w) A (.func bdy (PySem.W.ksEnv qual (supScope fld) L f (.ref cda) cc)) (attributeBase (.Call (.Name "super" p0) [] [] p1) "__init__" (PySem.W.ksEnv qual (supScope fld) L f (.ref cda) cc) whole)
      (fun ov s₁ => wpAny (model X.prog X.w) A (getMethod ov "__init__" pl) (fun fx s₂ => wpAny (model X.prog X.w) A (callWith p4 fx.1 fx.2 (backTo p4 (starEach [.Constant (.str tx) 0 p3] (PySem.W.ksEnv qual (supScope fld) L f (.ref cda) cc))) []) Q E s₂) E s₁) E s := by
  obtain ⟨nmC, qC, NC, bsC, bmC, snC, subC, abC, colC, ddC, k0, k1, k2, k3, k5, hC, hbm⟩ := T.oex.cls
  obtain ⟨t1, ho⟩ := exo_at I.hok ha
  have KI := I.kIn
  have hCi : PySem.W.clsIn X.K C = some { name := nmC, bases := bsC, mro := .ref C :: bmC, ns := NC, qualname := qC, hasDict := true, slotNames := snC, subclasses := subC, abstract := abC, collection := colC, hasDel := false } := by unfold PySem.W.clsIn; rw [hC] <;> rfl
  obtain ⟨mb, hmb, hmb2⟩ := I.mod.blt
  have hsup0 : (("super" : Str)) ≠ "__name__" := by decide
  refine PySem.ks_wpAt_super_base (env := PySem.W.ksEnv qual (supScope fld) L f (.ref cda) cc) (of := ⟨oc, od, .func (PySem.W.fnX "__init__" qual params body (supScope fld) [("__class__", cc)] dV kV doc pm an (.ref cda) ct), osl⟩) ?a1 ?a2 rfl rfl (KI _ _ lk) rfl hp rfl (KI _ _ hcode) rfl hvs hfile T.top ?_
  case a1 =>
    show List.lookup ("super" : Str) [(("self" : Str), NameKind.local), (fld, .local), ("__class__", .free), ("super", .globalImplicit)] = some .globalImplicit
    simp only [List.lookup_cons, hf1]
    rfl
  case a2 =>
    show List.lookup ("__class__" : Str) [(("self" : Str), NameKind.local), (fld, .local), ("__class__", .free), ("super", .globalImplicit)] = some .free
    simp only [List.lookup_cons, hf2]
    rfl
  have kS : (PySem.W.ksEnv qual (supScope fld) L f (.ref cda) cc).kindOf "super" = some .globalImplicit := by
    show List.lookup ("super" : Str) [(("self" : Str), NameKind.local), (fld, .local), ("__class__", .free), ("super", .globalImplicit)] = some .globalImplicit
    simp only [List.lookup_cons, hf1]
    rfl
  have kC : (PySem.W.ksEnv qual (supScope fld) L f (.ref cda) cc).kindOf "__class__" = some .free := by
    show List.lookup ("__class__" : Str) [(("self" : Str), NameKind.local), (fld, .local), ("__class__", .free), ("super", .globalImplicit)] = some .free
    simp only [List.lookup_cons, hf2]
    rfl
  have kL : (PySem.W.ksEnv qual (supScope fld) L f (.ref cda) cc).kindOf ar.arg = some .local := by rw [har]; rfl
  have hC2 := KI _ _ hC
  refine PySem.W.ks_loadName_global rfl kS (PySem.Calls.loadGlobal_builtin (env := PySem.W.ksEnv qual (supScope fld) L f (.ref cda) cc) (I.mod.glob.keeps I.bk) T.mgS (hmb.keeps I.bk) (hmb2 _ hsup0) ⟨rfl, ?_⟩)
  refine PySem.wpAny_loadName_free rfl kC rfl ⟨_, KI _ _ hcell, rfl⟩ ?_
  refine PySem.wpAny_loadName_local rfl kL hns (by rw [har]; exact hm) ?_
  obtain ⟨hp0, g, d, t, os⟩ := s
  refine PySem.ks_wpAny_isType_cls hC2 rfl ⟨rfl, ?_⟩
  refine PySem.ks_wpAny_call_super hC2 rfl ho rfl (fun c z => by cases z) (PySem.W.looks_mroIn KI T.own) (fun h2 hso k2 => ?_)
  have J0 : Inv X pins σ H ⟨h2, g, d, t, os⟩ := I.un (t' := t) (Un.kept k2) (I.hok.kept k2)
  have hne : a ≠ C := fun z => by
    have w := KI _ _ hC
    rw [← z] at w
    exact absurd (w.symm.trans ho) (fun y => by cases y)
  have ho2 := k2 _ _ ho
  have IA : PySem.W.InstAt h2 a { cls := .ref C, dict := none, data := .fields #[.ref t1, .none, .none, .none, .bool false, .none] } C none := ⟨ho2, rfl, rfl, trivial⟩
  have hsp := T.sup
  unfold PySem.W.ks_superIn at hsp
  rw [hCi] at hsp
  refine PySem.W.kxs_getMethod PySem.W.kxs_ValueError hso (PySem.W.looks_opaque J0.kIn T.third) (l₀ := Value.ref C :: bmC) ((PySem.W.looks_clsIn J0.kIn hCi).andThen .now) rfl J0.kIn hsp (IA.type.andThen (PySem.W.looks_subIn J0.kIn T.ve)) hne (by decide) ?_
  have k3 : ∀ (b : Addr) (o : Obj), h2.get? b = some o → (h2.push (PySem.W.kxs_mw "ValueError.__init__" a)).get? b = some o := fun b o e => Heap.get?_push_of_some _ e
  have J1 : Inv X pins σ H ⟨h2.push (PySem.W.kxs_mw "ValueError.__init__" a), g, d, t + 1, os⟩ := J0.un (t' := t + 1) (Un.kept k3) (J0.hok.kept k3)
  have hu : (h2.push (PySem.W.kxs_mw "ValueError.__init__" a)).get? h2.objs.size = some (PySem.W.kxs_mw "ValueError.__init__" a) := Heap.get?_push_size _ rfl
  refine PySem.W.kxs_callWith (i := "ValueError.__init__") (x := a) rfl (PySem.Calls.evalArgs_plain ?_)
  show wpAny _ _ (spliced ((false, eval (.Constant (.str tx) 0 p3) _) :: [])) _ _ _
  refine PySem.Calls.spliced_cons (PySem.wpAny_Constant_str (PySem.Calls.spliced_nil ⟨hu, ?_⟩))
  exact mw_init T.oex (J1.tok _) hu ha (by rw [sizeLine_eq]; show 1 ≤ 16777216; decide) h
theorem sup_fn {P : Program} {w : World} {K : PySem.W.Frag} {mg : Str → Option Value} {base : Heap} {CX : CXT} {k : Nat} {C f cc cda : Addr} {qual fld tx : Str} {params : Arguments} {body : List Stmt} {dV kV doc pm ct oc ccl cl : Value} {an od cdd cld : Option Addr} {osl ccs csl : Array (Option Value)}
    {vs0 : Array Value} {file : Str} {tf : Tok} {ar : Arg} {p0 p1 p2 p3 p4 p5 q1 q2 q3 q4 : Pos} (T : SupCls P K mg C fld)
    (lk : K.lookup f = some ⟨oc, od, .func (PySem.W.fnX "__init__" qual params body (supScope fld) [("__class__", cc)] dV kV doc pm an (.ref cda) ct), osl⟩) (hcd : PySem.W.codeIn K (.ref cda) qual = true)
    (hcode : K.lookup cda = some ⟨ccl, cdd, .fields vs0, ccs⟩) (hvs : vs0[2]? = some (.str file tf)) (hfile : ((P.main.file : Str) == file) = true) (hcell : K.lookup cc = some ⟨cl, cld, .cell (some (.ref C)), csl⟩)
    (hp : (params.posonlyargs ++ params.args).head? = some ar) (har : ar.arg = ("self" : Str)) (hb0 : body = [.Expr (.Call (.Attribute (.Call (.Name "super" p0) [] [] p1) "__init__" p2) [.Constant (.str tx) 0 p3] [] p4) p5, .Assign [.Attribute (.Name "self" q1) fld q2] (.Name fld q3) q4])
    {pl : Env → Sem Bool} (hmc : ∀ env, eval (.Call (.Attribute (.Call (.Name "super" p0) [] [] p1) "__init__" p2) [.Constant (.str tx) 0 p3] [] p4) env = (do
      let ov ← attributeBase (.Call (.Name "super" p0) [] [] p1) "__init__" env (eval (.Call (.Name "super" p0) [] [] p1) env)
      standAt p2.atName
      let (f, first) ← holding [ov] (getMethod ov "__init__" (pl env))
      callWith p4 f first (backTo p4 (starEach [.Constant (.str tx) 0 p3] env)) []))
    (hsw : ∀ env, swapsWith (.Name fld q3) (some (.Attribute (.Name "self" q1) fld q2)) q4.line env = pure false) (hf1 : (("super" : Str) == fld) = false) (hf2 : (("__class__" : Str) == fld) = false) (hne : fld ≠ ("self" : Str)) (hdb : (fld == ("__debug__" : Str)) = false) :
    FnOk P w K mg base CX (k + 1) f (PySem.W.fnX "__init__" qual params body (supScope fld) [("__class__", cc)] dV kV doc pm an (.ref cda) ct) ["self", fld] (spSup C fld) := by
  refine ⟨fun vs H Q E ⟨a, v, e, _⟩ => by rw [e]; rfl, fun A outer s H args us vs Q E hr e0 hb r hsp => ?_⟩
  obtain ⟨a, v, rfl, ha, q⟩ := hsp
  obtain ⟨u1, u2, rfl, ru1, ru2⟩ := vals2 r
  obtain rfl : u1 = Value.ref a := ru1
  have KX : K.In s.heap := e0.mod.kin.keeps fun b o e => (e0.bs b o e).1
  have lim : s.heap.NoLimit := e0.mod.nolimit.keeps fun b o e => (e0.bs b o e).1
  have hne' : ((fld : Str) == ("self" : Str)) = false := by simp [hne]
  refine PySem.ks_codeAny_call_defAt (body := body) (binds := [("self", .ref a), (fld, u2)]) hr.depth (KX _ _ lk) rfl lim (PySem.W.codeRec_of KX hcd) rfl hb ?_ ?_ (fun h₁ hns hk₁ => ?_) rfl rfl rfl
  · intro x hx
    simp only [PySem.W.fnX, supScope, List.mem_cons, List.not_mem_nil, or_false] at hx
    rcases hx with rfl | rfl | rfl | rfl <;> (intro z; cases z)
  · intro x hx
    simp only [List.mem_cons, List.not_mem_nil, or_false] at hx
    rcases hx with rfl | rfl
    · rfl
    · show List.lookup fld [(("self" : Str), NameKind.local), (fld, .local), ("__class__", .free), ("super", .globalImplicit)] = some .local
      simp [List.lookup_cons, hne']
  have eb : h₁.Ns s.heap.objs.size (bindL (envOfC qual (supScope0 fld) s.heap.objs.size f (.ref cda)).kindOf ([("self" : Str), fld].zip [Value.ref a, u2]) fun _ => none) := by
    have k1 : (envOfC qual (supScope0 fld) s.heap.objs.size f (.ref cda)).kindOf "self" = some .local := rfl
    have k2 : (envOfC qual (supScope0 fld) s.heap.objs.size f (.ref cda)).kindOf fld = some .local := by
      show List.lookup fld [(("self" : Str), NameKind.local), (fld, .local)] = some .local
      simp [List.lookup_cons, hne']
    have ef : (bindL (envOfC qual (supScope0 fld) s.heap.objs.size f (.ref cda)).kindOf ([("self" : Str), fld].zip [Value.ref a, u2]) fun _ => none) = fun x => List.lookup x ([(("self" : Str), Value.ref a), (fld, u2)].reverse) := by
      funext y
      show bindL _ [(("self" : Str), Value.ref a), (fld, u2)] _ y = List.lookup y [(fld, u2), (("self" : Str), Value.ref a)]
      simp only [bindL, k1, k2, if_true, List.lookup_cons, List.lookup_nil]
      by_cases h1 : y = fld
      · subst h1; simp
      · by_cases h2 : y = ("self" : Str)
        · subst h2
          rw [beq_eq_false_iff_ne.mpr h1]
          simp [h1]
        · rw [beq_eq_false_iff_ne.mpr h1, beq_eq_false_iff_ne.mpr h2]
          simp [h1, h2]
    rw [ef]
    exact hns
  have S0 : FnScope ["self", fld] ["self", fld] (supScope0 fld) := by
    refine ⟨rfl, rfl, rfl, ?_, rfl, fun x hx => ?_, fun y hy => ?_⟩
    · simp only [List.nodup_cons, List.mem_cons, List.not_mem_nil, or_false, not_false_eq_true, List.nodup_nil, and_true]
      exact fun z => hne z.symm
    · left
      simp only [List.mem_cons, List.not_mem_nil, or_false] at hx
      rcases hx with e | e
      · rw [e]; rfl
      · rw [e]
        show List.lookup fld [(("self" : Str), NameKind.local), (fld, .local)] = some .local
        simp [List.lookup_cons, hne']
    · simp only [supScope0, List.mem_cons, List.not_mem_nil, or_false] at hy
      rcases hy with rfl | rfl <;> (intro z; cases z)
  have ec : cellsFrom (s.heap.objs.size + 1) (supScope0 fld).names [] = [] := rfl
  have I : Inv (cxOf CX P w K mg base ["self", fld] qual (supScope0 fld) f (.ref cda) A outer s H E) [] (start ["self", fld] [.ref a, v]) H { s with heap := h₁, toks := s.toks + 2 } :=
    inv_start S0 hr.hd e0 rfl r ⟨⟨⟨h₁, _, rfl⟩, eb, hk₁, Nat.le_refl _⟩, (fun n c hc => by rw [ec] at hc; simp at hc), (by rw [ec]; exact List.Pairwise.nil), (fun n c hc => by rw [ec] at hc; simp at hc)⟩
  obtain ⟨oD, cdC, hC1, hC2, hCi⟩ : ∃ oD cdC, K.lookup C = some oD ∧ oD.data = .cls cdC ∧ PySem.W.clsIn K C = some cdC := by
    obtain ⟨_, _, _, _, _, _, _, _, _, _, _, _, _, _, _, hC, _⟩ := T.oex.cls
    exact ⟨_, _, hC, rfl, by unfold PySem.W.clsIn; rw [hC] <;> rfl⟩
  have henv : callEnv (PySem.W.fnX "__init__" qual params body (supScope fld) [("__class__", cc)] dV kV doc pm an (.ref cda) ct) s.heap.objs.size f = PySem.W.ksEnv qual (supScope fld) s.heap.objs.size f (.ref cda) cc := rfl
  rw [henv]
  generalize henv2 : PySem.W.ksEnv qual (supScope fld) s.heap.objs.size f (.ref cda) cc = env
  rw [hb0]
  refine PySem.ks_wpAt_execs_cons (PySem.ks_wpAt_Expr_any ?_ ?_ ?_)
  rotate_left
  · rw [← henv2]; rfl
  · rfl
  refine PySem.ks_wpAt_MethodCall (pl := pl env) ?_ (hmc env)
  rw [← henv2]
  have hself : (fun x => List.lookup x ([(("self" : Str), Value.ref a), (fld, u2)].reverse)) "self" = some (.ref a) := by
    show List.lookup ("self" : Str) [(fld, u2), (("self" : Str), Value.ref a)] = some (.ref a)
    have : (("self" : Str) == fld) = false := beq_eq_false_iff_ne.mpr fun z => hne z.symm
    simp only [List.lookup_cons, this]
    rfl
  refine sup_go (X := cxOf CX P w K mg base ["self", fld] qual (supScope0 fld) f (.ref cda) A outer s H E) T I s.heap.objs.size lk hcode hvs hfile hcell hp har hf1 hf2 hns hself ha (fun s' J => ?_)
  dsimp only
  obtain ⟨m', hns', hl'⟩ := J.loc
  obtain ⟨v1, rv1, lk1⟩ := hl' 0 "self" (.ref a) rfl rfl (.inl rfl)
  obtain rfl : v1 = Value.ref a := rv1
  have k2 : (envOfC qual (supScope0 fld) s.heap.objs.size f (.ref cda)).kindOf fld = some .local := by
    show List.lookup fld [(("self" : Str), NameKind.local), (fld, .local)] = some .local
    simp [List.lookup_cons, hne']
  obtain ⟨v2, rv2, lk2⟩ := hl' 1 fld v rfl rfl (.inl k2)
  have m1 : m' "self" = some (.ref a) := by
    rcases lk1 with ⟨_, z⟩ | ⟨z, _⟩
    · exact z
    · rcases z with z | z <;> cases z
  have m2 : m' fld = some v2 := by
    rcases lk2 with ⟨_, z⟩ | ⟨z, _⟩
    · exact z
    · rcases z with z | z <;> exact absurd (k2.symm.trans z) (fun y => by cases y)
  have e1 : (PySem.W.ksEnv qual (supScope fld) s.heap.objs.size f (.ref cda) cc).kindOf "self" = some .local := rfl
  have e2 : (PySem.W.ksEnv qual (supScope fld) s.heap.objs.size f (.ref cda) cc).kindOf fld = some .local := by
    show List.lookup fld [(("self" : Str), NameKind.local), (fld, .local), ("__class__", .free), ("super", .globalImplicit)] = some .local
    simp [List.lookup_cons, hne']
  refine PySem.ks_wpAt_execs_cons (PySem.wpAt_of_wpAny (plainObj_wpAny_Assign_Attribute ?_ (hsw _)))
  refine PySem.wpAny_Name (PySem.wpAny_loadName_local rfl e2 hns' m2 ?_) hdb
  refine PySem.wpAny_Name (PySem.wpAny_loadName_local rfl e1 hns' m1 ?_) (by decide)
  refine ost_new T.oex J ha T.noF rv2 (fun dx s'' hdx hdn J2 => ?_)
  refine PySem.wpAt_of_wpAny (wpAny_execs_nil ?_)
  exact ⟨.non, _, J2.os, J2.bare, J2.base, J2.hok, rfl, q dx hdx hdn⟩
end Pa
set_option maxRecDepth 100000
set_option maxHeartbeats 4000000
namespace Pa
open PySem PySem.Spec PyProof.Rows L2 SrtO
/-! ### data of any kind -/
def dKind : PyData → String
  | .none => "NoneType"
  | .bool _ => "bool"
  | .int _ => "int"
  | .str _ => "str"
  | .list _ => "list"
  | .tuple _ => "tuple"
  | .dict _ => "dict"
theorem dp_ty {K : PySem.W.Frag} {H : Hp} {v : V} {d : PyData} (h : Dp K H v d) : TyX K H v (.type (dKind d)) := by
  cases h with
  | non => exact .base .non
  | bl b => exact .base (.bl b)
  | int i => exact .base (.int i)
  | str x => exact .base (.str x)
  | lst hs _ =>
    rcases hs with (h | ⟨o, h⟩) | ⟨o, its, n, h1, h2, _⟩
    · exact .base (.lst h)
    · exact .base (.frz h)
    · exact .kList h1 h2
  | tup hs _ =>
    rcases hs with (h | ⟨o, h⟩) | ⟨o, its, n, h1, h2, _⟩
    · exact .base (.tup h)
    · exact .fTuple h
    · exact .kTuple h1 h2
/-- a kind that a value of Dp can have -/
def dNoD : PyData → Bool
  | .dict _ => false
  | _ => true
theorem dp_noD {K : PySem.W.Frag} {H : Hp} {v : V} {d : PyData} (h : Dp K H v d) : dNoD d = true := by cases h <;> rfl
def isB (s : String) (d : PyData) : Bool := match d with
  | .bool _ => s == "bool" || s == "int"
  | e => s == dKind e
theorem kit_d {K : PySem.W.Frag} {d : PyData} {s : String} (hs : s = "tuple" ∨ s = "str" ∨ s = "int" ∨ s = "bool") (hd : dNoD d = true) : PySem.W.kitOne K (.type (dKind d)) (.type s) = some (isB s d) := by
  rcases hs with rfl | rfl | rfl | rfl
  · cases d with
    | none => exact (kit_ty (a := "NoneType") (b := "tuple") (r := false) (by decide +kernel))
    | bool b => exact (kit_ty (a := "bool") (b := "tuple") (r := false) (by decide +kernel))
    | int i => exact (kit_ty (a := "int") (b := "tuple") (r := false) (by decide +kernel))
    | str x => exact (kit_ty (a := "str") (b := "tuple") (r := false) (by decide +kernel))
    | list l => exact (kit_ty (a := "list") (b := "tuple") (r := false) (by decide +kernel))
    | tuple l => exact (kit_ty (a := "tuple") (b := "tuple") (r := true) (by decide +kernel))
    | dict l => cases hd
  · cases d with
    | none => exact (kit_ty (a := "NoneType") (b := "str") (r := false) (by decide +kernel))
    | bool b => exact (kit_ty (a := "bool") (b := "str") (r := false) (by decide +kernel))
    | int i => exact (kit_ty (a := "int") (b := "str") (r := false) (by decide +kernel))
    | str x => exact (kit_ty (a := "str") (b := "str") (r := true) (by decide +kernel))
    | list l => exact (kit_ty (a := "list") (b := "str") (r := false) (by decide +kernel))
    | tuple l => exact (kit_ty (a := "tuple") (b := "str") (r := false) (by decide +kernel))
    | dict l => cases hd
  · cases d with
    | none => exact (kit_ty (a := "NoneType") (b := "int") (r := false) (by decide +kernel))
    | bool b => exact (kit_ty (a := "bool") (b := "int") (r := true) (by decide +kernel))
    | int i => exact (kit_ty (a := "int") (b := "int") (r := true) (by decide +kernel))
    | str x => exact (kit_ty (a := "str") (b := "int") (r := false) (by decide +kernel))
    | list l => exact (kit_ty (a := "list") (b := "int") (r := false) (by decide +kernel))
    | tuple l => exact (kit_ty (a := "tuple") (b := "int") (r := false) (by decide +kernel))
    | dict l => cases hd
  · cases d with
    | none => exact (kit_ty (a := "NoneType") (b := "bool") (r := false) (by decide +kernel))
    | bool b => exact (kit_ty (a := "bool") (b := "bool") (r := true) (by decide +kernel))
    | int i => exact (kit_ty (a := "int") (b := "bool") (r := false) (by decide +kernel))
    | str x => exact (kit_ty (a := "str") (b := "bool") (r := false) (by decide +kernel))
    | list l => exact (kit_ty (a := "list") (b := "bool") (r := false) (by decide +kernel))
    | tuple l => exact (kit_ty (a := "tuple") (b := "bool") (r := false) (by decide +kernel))
    | dict l => cases hd
def isInt : PyData → Bool
  | .int _ => true
  | _ => false
def isPart : PyData → Bool
  | .int _ => true
  | .str _ => true
  | _ => false
def zD (z : Z3) : PyData := .tuple [.str (wordN z.1), .int z.2.1, .int z.2.2]
def okD (L : Int) (d : PyData) : Prop := ∃ z, StdZ L z ∧ d = zD z
theorem e_tt (a b : List PyData) : PyData.eqv (.tuple a) (.tuple b) = PyData.eqvAll a b := by rw [PyData.eqv]
theorem e_cons (x y : PyData) (xs ys : List PyData) : PyData.eqvAll (x :: xs) (y :: ys) = (PyData.eqv x y && PyData.eqvAll xs ys) := by rw [PyData.eqvAll]
theorem e_nil : PyData.eqvAll [] [] = true := by rw [PyData.eqvAll]
theorem e_nc (y : PyData) (ys : List PyData) : PyData.eqvAll [] (y :: ys) = false := by rw [PyData.eqvAll]
theorem e_cn (x : PyData) (xs : List PyData) : PyData.eqvAll (x :: xs) [] = false := by rw [PyData.eqvAll]
theorem e_ss (x y : Str) : PyData.eqv (.str x) (.str y) = (x == y) := by rw [PyData.eqv]
theorem e_ii (x y : Int) : PyData.eqv (.int x) (.int y) = (x == y) := by rw [PyData.eqv]
theorem e_si (x : Str) (y : Int) : PyData.eqv (.str x) (.int y) = false := by rw [PyData.eqv]
theorem e_is (x : Int) (y : Str) : PyData.eqv (.int x) (.str y) = false := by rw [PyData.eqv]
theorem part_cases {d : PyData} (h : isPart d = true) : (∃ i, d = .int i) ∨ ∃ x, d = .str x := by
  cases d with
  | int i => exact .inl ⟨i, rfl⟩
  | str x => exact .inr ⟨x, rfl⟩
  | _ => cases h
theorem eqv_std {z : Z3} {ds : List PyData} (h : ds.all isPart = true) : PyData.eqv (zD z) (.tuple ds) = true ↔ PyData.tuple ds = zD z := by
  unfold zD
  rw [e_tt]
  match ds, h with
  | [], _ => rw [e_cn]; simp
  | [a], h => rw [e_cons, e_cn, Bool.and_false]; simp
  | [a, b], h => rw [e_cons, e_cons, e_cn, Bool.and_false, Bool.and_false]; simp
  | a :: b :: c :: e :: r, h => rw [e_cons, e_cons, e_cons, e_nc, Bool.and_false, Bool.and_false, Bool.and_false]; simp
  | [a, b, c], h =>
    simp only [List.all_cons, List.all_nil, Bool.and_true, Bool.and_eq_true] at h
    obtain ⟨h1, h2, h3⟩ := h
    rw [e_cons, e_cons, e_cons, e_nil, Bool.and_true]
    rcases part_cases h1 with ⟨x, rfl⟩ | ⟨x, rfl⟩
    · rw [show PyData.eqv (.str (wordN z.1)) (.int x) = false from e_si _ _, Bool.false_and]
      simp
    · rcases part_cases h2 with ⟨y, rfl⟩ | ⟨y, rfl⟩
      · rcases part_cases h3 with ⟨u, rfl⟩ | ⟨u, rfl⟩
        · rw [e_ss, e_ii, e_ii]
          simp only [Bool.and_eq_true, beq_iff_eq, PyData.tuple.injEq, List.cons.injEq, and_true, PyData.str.injEq, PyData.int.injEq]
          exact ⟨fun ⟨p, q, r⟩ => ⟨p.symm, q.symm, r.symm⟩, fun ⟨p, q, r⟩ => ⟨p.symm, q.symm, r.symm⟩⟩
        · rw [show PyData.eqv (.int z.2.2) (.str u) = false from e_is _ _, Bool.and_false, Bool.and_false]
          simp
      · rw [show PyData.eqv (.int z.2.1) (.str y) = false from e_is _ _, Bool.false_and, Bool.and_false]
        simp
section
variable {P : Program} {w : World} {K : PySem.W.Frag} {mg : Str → Option Value} {base : Heap} {tp C : Addr}
/-! ### is_integer -/
def spIsInt (K : PySem.W.Frag) : Sp := fun vs H Q _ => ∃ v d, vs = [v] ∧ Dp K H v d ∧ Q (.bl (isInt d)) H
abbrev sis_integer : Stmt := topS 1
theorem scis_integer : FnScope ["value"] ["value"] (defScope sis_integer) := ⟨rfl, rfl, rfl, by decide +kernel, rfl, by decide +kernel, by decide +kernel⟩
theorem ok_is_integer {f : Addr} {fd : FuncData} (F : Fun K "is_integer" "is_integer" sis_integer f fd) (T : Txt K mg tp C) : FnOk P w K mg base CX0 1 f fd ["value"] (spIsInt K) := by
  refine F.ok scis_integer (fun vs H Q E h => ?_) (fun cdv A outer s H vs Q E hr h => ?_)
  · obtain ⟨v, d, rfl, _⟩ := h
    rfl
  · obtain ⟨v, d, rfl, hd, k⟩ := h
    refine ⟨_, (pss_one (ps_ret (pe_and (pe_callB call_isi (by rfl) T.b_isinstance (by decide +kernel) (pa_cons (pv 0) (pa_cons (pe_bltn (v := .ty "int") (by rfl) T.b_int (by decide +kernel) rfl) pa_nil))) (pe_one (pe_not (pe_callB call_isi (by rfl) T.b_isinstance (by decide +kernel) (pa_cons (pv 0) (pa_cons (pe_bltn (v := .ty "bool") (by rfl) T.b_bool (by decide +kernel) rfl) pa_nil)))))))), ?_⟩
    have hn := dp_noD hd
    refine ⟨_, rfl, _, _, _, _, _, rfl, .ty _, dp_ty hd, kit_d (.inr (.inr (.inl rfl))) hn, _, rfl, ?_⟩
    cases hi : isB "int" d with
    | true =>
      refine iteT ⟨_, rfl, _, _, _, _, _, rfl, .ty _, dp_ty hd, kit_d (.inr (.inr (.inr rfl))) hn, _, rfl, ?_⟩
      have e : (!isB "bool" d) = isInt d := by cases d <;> first | rfl | (simp [isB, dKind] at hi)
      rw [e]
      exact k
    | false =>
      refine iteF ?_
      have e : isInt d = false := by cases d <;> first | rfl | (simp [isB, dKind] at hi)
      rw [e] at k
      exact k
end
end Pa
set_option maxRecDepth 100000
set_option maxHeartbeats 4000000
namespace Pa
open PySem PySem.Spec PyProof.Rows L2 SrtO
/-- an own error with one field, made by its own __init__ -/
structure ErrOk (P : Program) (w : World) (K : PySem.W.Frag) (mg : Str → Option Value) (base : Heap) (x fld : Str) (C : Addr) : Prop where
  oex : OexC K C
  gC : mg x = some (.ref C)
  ok : ∃ (fI : Addr) (fd : FuncData), PySem.W.findIn K (.ref C) "__init__" = some (some (.ref fI)) ∧ PySem.W.typeIn K (.ref fI) = some (.type "function") ∧ Binds K fd ["self", fld] [] ∧ FnOk P w K mg base CX0 1 fI fd ["self", fld] (spSup C fld)
theorem pmk_err {X : Cx} {x fld : Str} {C : Addr} {e : Expr} {ta : TA} {p pos : Pos} (T : ErrOk X.prog X.w X.K X.mg X.base x fld C) (hr : Room 2 X.A) (hg : Gl X x) (ha : PA X [e] ta)
    (hdb : (x == ("__debug__" : Str)) = false := by decide) (he : starEach [e] X.env = (false, eval e X.env) :: starEach [] X.env := by rfl) (hpl : (backTo pos (starEach [] X.env)).any (·.1) = false := by rfl) :
    PMk X (.Call (.Name x p) [e] [] pos) (tMkO C (spSup C fld) [] ta) := by
  obtain ⟨fI, fd, h1, h2, h3, h4⟩ := T.ok
  exact pmk_oex T.oex h1 h2 h4 hr h3 .nil pass0 hg T.gC ha hdb he hpl
/-- what a raised one leaves -/
theorem err_end {C a dx : Addr} {fld : Str} {v : V} {H : Hp} (ha : H a = none) (hne : dx ≠ a) : upd (del (upd (upd (upd H a (exo a C none)) dx (exd dx [(fld, v)])) a (exo a C (some dx))) a) dx (.xd [(fld, v)]) = upd H dx (.xd [(fld, v)]) := by
  funext b
  by_cases h1 : b = dx
  · subst h1
    rw [upd_same, upd_same]
  · rw [upd_ne h1, upd_ne h1]
    by_cases h2 : b = a
    · subst h2
      rw [del_same, ha]
    · rw [del_ne h2, upd_ne h2, upd_ne h1, upd_ne h2]
/-- the reading of raise X(v) -/
theorem err_read {C : Addr} {fld : Str} {v : V} {ta : TA} {σ : L2.St} {H : Hp} {Q : XK} (h : ∀ R : List V → Hp → Prop, R [v] H → ta σ H R) (q : ∀ dx, H dx = none → Q (.ref C) (some dx) (upd H dx (.xd [(fld, v)]))) : tMkO C (spSup C fld) [] ta σ H Q := by
  unfold tMkO
  refine h _ ⟨(by show 1 ≤ 1000; decide), fun a ha => ⟨a, v, rfl, upd_same, fun dx hdx hne => ⟨rfl, dx, [(fld, v)], upd_same, ?_, ?_, ?_⟩⟩⟩
  · rw [upd_ne hne, upd_same]
  · rw [upd_ne hne] at hdx
    exact hdx
  · rw [err_end ha hne]
    rw [upd_ne hne] at hdx
    exact q dx hdx
theorem dpAll_at {K : PySem.W.Frag} {H : Hp} : ∀ {xs : List V} {ds : List PyData} {i : Nat} {x : V}, DpAll K H xs ds → xs[i]? = some x → ∃ d, ds[i]? = some d ∧ Dp K H x d
  | x :: xs, d :: ds, 0, y, h, e => by
    cases h with
    | cons h1 h2 =>
      have : x = y := by simpa using e
      subst this
      exact ⟨d, rfl, h1⟩
  | x :: xs, d :: ds, i + 1, y, h, e => by
    cases h with
    | cons h1 h2 => exact dpAll_at (i := i) h2 (by simpa using e)
  | [], _, _, _, _, e => by simp at e
  | _ :: _, [], _, _, h, _ => by cases h
theorem dpAll_len {K : PySem.W.Frag} {H : Hp} : ∀ {xs : List V} {ds : List PyData}, DpAll K H xs ds → xs.length = ds.length
  | [], [], _ => rfl
  | _ :: _, _ :: _, h => by
    cases h with
    | cons h1 h2 => simp [dpAll_len h2]
  | [], _ :: _, h => by cases h
  | _ :: _, [], h => by cases h
theorem seqL_same {K : PySem.W.Frag} {H H' : Hp} {p : Addr} {xs : List V} (s : Same H H') (h : SqL K H p xs) : SqL K H' p xs := s.seq h
mutual
theorem dp_same {K : PySem.W.Frag} {H H' : Hp} (s : Same H H') : ∀ (d : PyData) (v : V), Dp K H v d → Dp K H' v d
  | .none, _, h => by cases h; exact .non
  | .bool b, _, h => by cases h; exact .bl b
  | .int i, _, h => by cases h; exact .int i
  | .str x, _, h => by cases h; exact .str x
  | .list ds, _, h => by
    cases h with
    | lst h1 h2 => exact .lst (s.seq h1) (dpAll_same s ds _ h2)
  | .tuple ds, _, h => by
    cases h with
    | tup h1 h2 => exact .tup (seqT_same s h1) (dpAll_same s ds _ h2)
  | .dict _, _, h => by cases h
theorem dpAll_same {K : PySem.W.Frag} {H H' : Hp} (s : Same H H') : ∀ (ds : List PyData) (vs : List V), DpAll K H vs ds → DpAll K H' vs ds
  | [], _, h => by cases h; exact .nil
  | d :: ds, _, h => by
    cases h with
    | cons h1 h2 => exact .cons (dp_same s d _ h1) (dpAll_same s ds _ h2)
end
theorem stdDp {K : PySem.W.Frag} {H : Hp} : ∀ {xs : List V} {ks : List Z3}, AllAt (StdAt K) H xs ks → DpAll K H xs (ks.map zD)
  | [], [], _ => .nil
  | _ :: _, _ :: _, ⟨⟨_, t, e, h⟩, h2⟩ => by
    subst e
    exact .cons (.tup h (.cons (.str _) (.cons (.int _) (.cons (.int _) .nil)))) (stdDp h2)
  | [], _ :: _, h => h.elim
  | _ :: _, [], h => h.elim
theorem strOk_word (n : Int) : PyData.strOk (wordN n) = true := by
  unfold wordN
  split
  · decide +kernel
  · split <;> decide +kernel
theorem shZ (ks : List Z3) : SeqAt.shaped (.list (ks.map zD)) = true := shaped_map (fun x => ⟨by simp [zD, PyData.canLay0, PyData.canLayAll0, strOk_word], by simp [zD, PyData.depth, PyData.depthAll]⟩) ks
theorem ok_any {L : Int} (hL : 1 ≤ L) {ks : List Z3} {ds : List PyData} (hp : ks.Perm (progZ L)) (h : ds.all isPart = true) : ((ks.map zD).any fun z => PyData.eqv z (.tuple ds)) = true ↔ okD L (.tuple ds) := by
  rw [List.any_map, List.any_eq_true]
  constructor
  · rintro ⟨z, hz, e⟩
    exact ⟨z, (mem_prog hL).mp (hp.mem_iff.mp hz), (eqv_std h).mp e⟩
  · rintro ⟨z, hz, e⟩
    exact ⟨z, hp.mem_iff.mpr ((mem_prog hL).mpr hz), (eqv_std h).mpr e⟩
theorem ok_parts {L : Int} {d : PyData} (h : okD L d) : ∃ ds, d = .tuple ds ∧ ds.all isPart = true := by
  obtain ⟨z, _, e⟩ := h
  exact ⟨_, e, rfl⟩
theorem isPart_eq (d : PyData) : (isB "str" d || isInt d) = isPart d := by cases d <;> rfl
section
variable {P : Program} {w : World} {K : PySem.W.Frag} {mg : Str → Option Value} {base : Heap} {tp C CS : Addr}
/-! ### checked_standing -/
def spChecked (K : PySem.W.Frag) (CS : Addr) : Sp := fun vs H Q E => ∃ (L : Int) (v : V) (d : PyData), vs = [.int L, v] ∧ 2 ≤ L ∧ L ≤ 9 ∧ Dp K H v d ∧ SeqAt.shaped d = true ∧ (∀ ds, d = .tuple ds → ds.length ≤ 100) ∧
  (okD L d → ∀ H', Same H H' → Q v H') ∧ (¬ okD L d → ∀ H' dx, Same H H' → H dx = none → H' dx = some (.xd [("standing", v)]) → E (.ref CS) (some dx) H')
abbrev schecked_standing : Stmt := topS 8
theorem scchecked_standing : FnScope ["length", "standing", "part"] ["length", "standing"] (defScope schecked_standing) := ⟨rfl, rfl, rfl, by decide +kernel, rfl, by decide +kernel, by decide +kernel⟩
theorem ok_checked {f : Addr} {fd : FuncData} (F : Fun K "checked_standing" "checked_standing" schecked_standing f fd) (T : Txt K mg tp C) (T2 : Txt2 K mg) (TE : ErrOk P w K mg base "BadStanding" "standing" CS)
    (C_is_integer : CallOk P w K mg base 1 "is_integer" ["value"] (spIsInt K)) (C_standings : CallOk P w K mg base 1 "standings" ["length"] (spStandings K)) : FnOk P w K mg base (L2.CX P w) 3 f fd ["length", "standing"] (spChecked K CS) := by
  refine F.okX scchecked_standing (fun vs H Q E h => ?_) (fun cdv A outer s H vs Q E hr h => ?_)
  · obtain ⟨L, v, d, rfl, _⟩ := h
    rfl
  · obtain ⟨L, v, d, rfl, hL2, hL9, hd, hsd, hlen, k1, k2⟩ := h
    have h65 : (A.deeper (envOfC "checked_standing" (defScope schecked_standing) s.heap.objs.size f cdv)).units + 65 < cLine := by have := hr.un; omega
    refine ⟨_, (pss_cons (ps_if (PW.pt (pw_or (pt_not (pt_val (pe_callB call_isi (by rfl) T.b_isinstance (by decide +kernel) (pa_cons (pv 1) (pa_cons (pe_bltn (v := .ty "tuple") (by rfl) T.b_tuple (by decide +kernel) rfl) pa_nil))))) (pw_or1 (pt_not (pt_val (pe_callB (cr_all rfl) (by rfl) T.b_all (by decide +kernel) (pa_cons (pe_lc (own := [("part", 2)]) (g := gName 2) (tt := tYes) rfl scchecked_standing.nd (pi_tup (pv 1)) (blkOk_by (N := ["length", "standing", "part"]) (sc := defScope schecked_standing) (by decide +kernel)) (fun _ _ _ _ _ => (pg_name (i := 2) scchecked_standing.nd rfl (.inl rfl))) (fun _ _ _ _ _ => pts_nil) (fun _ _ _ _ _ => (pe_or (pe_callB (r := rIsi K) (id := "isinstance") call_isi (by rfl) T.b_isinstance (by decide +kernel) (pa_cons (pv 2) (pa_cons (pe_bltn (v := .ty "str") (by rfl) T2.b_str (by decide +kernel) rfl) pa_nil))) (pe_one (pe_cc C_is_integer (hr.mono (by decide)) (by rfl) (pa_cons (pv 2) pa_nil)))))) pa_nil)))))))
        (pss_one (ps_raise rfl (takes_of rfl rfl rfl rfl) (pmk_err TE (hr.mono (by decide)) (by rfl) (pa_cons (pv 1) pa_nil))))
        pss_nil)
      (pss_cons (ps_if (pt_cmpR (op_notInD h65) (pv 1) (pe_cc C_standings (hr.mono (by decide)) (by rfl) (pa_cons (pv 0) pa_nil)) (by rfl))
        (pss_one (ps_raise rfl (takes_of rfl rfl rfl rfl) (pmk_err TE (hr.mono (by decide)) (by rfl) (pa_cons (pv 1) pa_nil))))
        pss_nil)
      (pss_one (ps_ret (pv 1))))), ?_⟩
    have hn := dp_noD hd
    have rz : ∀ H1, Same H H1 → ¬ okD L d → ∀ dx, H1 dx = none → E (.ref CS) (some dx) (upd H1 dx (.xd [("standing", v)])) := fun H1 s1 hno dx hdx => k2 hno _ dx (s1.trans (same_new hdx)) (s1.free hdx) upd_same
    refine ⟨_, rfl, _, _, _, _, _, rfl, .ty _, dp_ty hd, kit_d (.inl rfl) hn, _, rfl, ?_⟩
    cases ht : isB "tuple" d with
    | false =>
      have hno : ¬ okD L d := fun h => by
        obtain ⟨ds, e, _⟩ := ok_parts h
        rw [e] at ht
        cases ht
      refine iteT (iteT ?_)
      exact err_read (fun R r => ⟨_, rfl, r⟩) (rz H (Same.refl H) hno)
    | true =>
      refine iteF ?_
      obtain ⟨a, xs, ds, rfl, rfl, hxs, hds⟩ : ∃ a xs ds, v = V.ref a ∧ d = .tuple ds ∧ SqT K H a xs ∧ DpAll K H xs ds := by
        cases hd with
        | tup h1 h2 => exact ⟨_, _, _, rfl, rfl, h1, h2⟩
        | _ => cases ht
      have hl := hlen ds rfl
      refine ⟨_, rfl, a, rfl, ⟨_, hxs⟩, fun D hD => ?_⟩
      refine lc_tup (K := K) (a := a) (xs := xs) (fun i H3 => Same H H3 ∧ H3 D = some (.lst (((ds.map isPart).take i).map V.bl))) ⟨same_new hD, upd_same⟩ (fun i H3 _ q => seqT_same q.1 hxs) ?_ ?_
      · rintro i x H3 hi ⟨s3, h3⟩
        obtain ⟨e, he, hde⟩ := dpAll_at hds hi
        have hde3 := dp_same s3 e x hde
        have hil : i < ds.length := (List.getElem?_eq_some_iff.mp he).1
        refine ⟨rfl, ?_⟩
        have fin : ∀ b, b = isPart e → ∃ acc, H3 D = some (.lst acc) ∧ acc.length < sizeLine ∧ (Same H (upd H3 D (.lst (acc ++ [V.bl b]))) ∧ (upd H3 D (.lst (acc ++ [V.bl b]))) D = some (.lst (((ds.map isPart).take (i + 1)).map V.bl))) := fun b hb => by
          refine ⟨_, h3, ?_, fun q o e => ?_, ?_⟩
          · rw [List.length_map, List.length_take, List.length_map]
            exact Nat.lt_of_le_of_lt (m := 100) (by omega) (by decide)
          · rw [upd_ne (fun r => by rw [r, hD] at e; cases e)]
            exact s3 _ _ e
          · rw [upd_same, List.take_add_one, List.getElem?_map, he, hb, List.map_append]
            rfl
        refine ⟨_, rfl, _, _, _, _, _, rfl, .ty _, dp_ty hde3, kit_d (.inr (.inl rfl)) (dp_noD hde3), _, rfl, ?_⟩
        cases hs : isB "str" e with
        | true => exact iteT (fin true (by rw [← isPart_eq, hs]; rfl))
        | false => exact iteF ⟨_, rfl, _, _, rfl, hde3, fin (isInt e) (by rw [← isPart_eq, hs]; rfl)⟩
      · rintro H3 ⟨s3, h3⟩
        have hx : xs.length = ds.length := dpAll_len hds
        rw [hx, List.take_of_length_le (by rw [List.length_map]; exact Nat.le_refl _)] at h3
        refine ⟨D, _, rfl, SqL.of h3, _, rfl, ?_⟩
        cases hp : (ds.map isPart).all id with
        | false =>
          have hno : ¬ okD L (.tuple ds) := fun h => by
            obtain ⟨ds', e, hp'⟩ := ok_parts h
            cases e
            rw [List.all_map] at hp
            rw [show ds.all isPart = ds.all (id ∘ isPart) from rfl] at hp'
            rw [hp] at hp'
            cases hp'
          refine iteT ?_
          exact err_read (fun R r => ⟨_, rfl, r⟩) (rz H3 s3 hno)
        | true =>
          have hp2 : ds.all isPart = true := by rw [List.all_map] at hp; exact hp
          refine iteF ?_
          refine ⟨_, rfl, _, rfl, L, rfl, hL2, hL9, fun p H4 ys ks hp4 s4 hys hall hsrt hperm => ?_⟩
          have s5 := s3.trans s4
          refine ⟨.tuple ds, ks.map zD, dp_same s5 _ _ hd, .lst (SqL.of hys) (stdDp hall), hsd, shZ ks, ?_⟩
          have ha := ok_any (L := L) (by omega) hperm hp2
          cases hb : ((ks.map zD).any fun z => PyData.eqv z (.tuple ds)) with
          | true =>
            refine ⟨_, rfl, iteF ⟨_, rfl, k1 (ha.mp hb) _ s5⟩⟩
          | false =>
            have hno : ¬ okD L (.tuple ds) := fun h => by
              rw [ha.mpr h] at hb
              cases hb
            refine ⟨_, rfl, iteT ?_⟩
            exact err_read (fun R r => ⟨_, rfl, r⟩) (rz H4 s5 hno)
end
end Pa
set_option maxRecDepth 100000
set_option maxHeartbeats 4000000
namespace Pa
open PySem PySem.Spec PyProof.Rows L2 SrtO
/-- the module's name x holds a def that may raise -/
structure CallOkX (P : Program) (w : World) (K : PySem.W.Frag) (mg : Str → Option Value) (base : Heap) (k : Nat) (x : Str) (ps : List Str) (sp : Sp) : Prop where
  ok : ∃ (f : Addr) (fd : FuncData), mg x = some (.ref f) ∧ PySem.W.keepIn K (.ref f) = true ∧ Binds K fd ps [] ∧ FnOk P w K mg base (L2.CX P w) k f fd ps sp
theorem pe_ccx {X : Cx} {W : WX} {k : Nat} {ps : List Str} {sp : Sp} {x : Str} {p pos : Pos} {e : Expr} {es : List Expr} {t : TA} (C : CallOkX X.prog X.w X.K X.mg X.base k x ps sp) (hr : Room k X.A) (hg : Gl X x) (tk : Takes X W) (ha : PA X (e :: es) t)
    (hdb : (x == ("__debug__" : Str)) = false := by decide) (he : starEach (e :: es) X.env = (false, eval e X.env) :: starEach es X.env := by rfl) (hpl : (backTo pos (starEach es X.env)).any (·.1) = false := by rfl) :
    PE X (.Call (.Name x p) (e :: es) [] pos) (tCallS sp (fun σ => WE W σ) t) := by
  obtain ⟨f, fd, h1, h2, h3, h4⟩ := C.ok
  exact pe_callS h4 hr hg h1 h2 h3 (fun σ => passAt tk σ) ha hdb he hpl
def zKd (z : Z3) : Bool := decide (z.1 = 0)
/-- the standing behind a block that is set from one -/
def zDue (z : Z3) (g : Bool) : Bool × Int × Int := if g = true then (false, 0, 0) else (zKd z, z.2.1, z.2.2)
def zAft (L : Int) (y : Bool × Int × Int) (b : Bl) : Bool × Int × Int := if b.c = 0 then y else endK L (runHT L b.c b.s y.1 (y.2.1, y.2.2) b.c).1 (runHT L b.c b.s y.1 (y.2.1, y.2.2) b.c).2 b.k
theorem std_word {L : Int} {z : Z3} (h : StdZ L z) : wordN z.1 = wordOf (zKd z) z.2.1 := by
  unfold StdZ at h
  unfold wordN wordOf zKd
  rcases h with ⟨h, _⟩ | ⟨h, h1, _⟩ | h
  · rw [h]; rfl
  · rw [h, if_neg (by decide), if_pos rfl, if_neg (by decide), if_neg (by omega)]
  · rw [h]; rfl
theorem wdec (z : Z3) : decide (V.str (wordN z.1) = V.str "kept") = zKd z := by
  unfold wordN zKd
  by_cases h0 : z.1 = 0
  · rw [if_pos h0, decide_eq_true h0]
    decide +kernel
  · rw [if_neg h0, decide_eq_false h0]
    split <;> decide +kernel
theorem std_at {K : PySem.W.Frag} {H : Hp} {L : Int} {z : Z3} {v : V} (h : StdZ L z) (hd : Dp K H v (zD z)) : ∃ a, v = V.ref a ∧ StAt K H a (zKd z) z.2.1 z.2.2 := by
  unfold zD at hd
  cases hd with
  | tup h1 h2 =>
    cases h2 with
    | cons a1 h2 =>
      cases h2 with
      | cons a2 h2 =>
        cases h2 with
        | cons a3 h2 =>
          cases h2
          cases a1
          cases a2
          cases a3
          exact ⟨_, rfl, _, h1, wdec z, std_word h⟩
theorem runHT_h {L : Int} {s : Int} (h0 : 0 ≤ s) (c : Nat) (kd : Bool) (x : Int × Int) (hx : 0 ≤ x.2) : ∀ n, 0 ≤ (runHT L c s kd x n).2 ∧ (n ≠ 0 → 1 ≤ (runHT L c s kd x n).1)
  | 0 => ⟨hx, fun h => absurd rfl h⟩
  | n + 1 => by
    obtain ⟨h1, _⟩ := runHT_h (L := L) h0 c kd x hx n
    have hs : 0 ≤ (if n = 0 then s else 0) := by split <;> omega
    unfold runHT stepHT
    dsimp only
    generalize (if n = 0 then s else 0) = s' at hs ⊢
    generalize (if n = 0 then kd else decide ((n : Int) = 1 ∨ (n : Int) = (c : Int) - 1)) = b
    generalize runHT L c s kd x n = y at h1 ⊢
    refine ⟨?_, fun _ => ?_⟩
    · unfold nextLine lng
      repeat' split
      all_goals (try (dsimp only at *))
      all_goals (try omega)
    · unfold nextLine lng
      repeat' split
      all_goals (try (dsimp only at *))
      all_goals (try omega)
theorem StAt.same {K : PySem.W.Frag} {H H' : Hp} {p : Addr} {kd : Bool} {h t : Int} (s : Same H H') (x : StAt K H p kd h t) : StAt K H' p kd h t := by
  obtain ⟨w, s1, s2⟩ := x
  exact ⟨w, seqT_same s s1, s2⟩
/-! ### the standing that blocks leave, as a triple -/
def zY (z : Z3) : Bool × Int × Int := (zKd z, z.2.1, z.2.2)
def yOf (q : SB) : Bool × Int × Int := (q.kd, q.h, q.t)
theorem y_end (L : Int) (p : PS') (k : Bool) : yOf (endP L p k) = endK L p.h p.t k := by
  unfold yOf endP endK
  by_cases h : p.h = L ∧ (k = false ∨ p.t = 0)
  · rw [if_pos h, if_pos h]
  · rw [if_neg h, if_neg h]
    by_cases h2 : k = true
    · rw [if_pos h2, if_pos h2]
    · rw [if_neg h2, if_neg h2]
theorem y_block (L : Int) (q : SB) (b : Bl) : yOf (blockP L q b) = zAft L (if b.g = true then (false, 0, 0) else yOf q) b := by
  have hd : yOf (due0 q b.g) = if b.g = true then (false, 0, 0) else yOf q := by
    unfold due0 yOf
    cases b.g <;> rfl
  rw [← hd]
  unfold blockP zAft
  dsimp only
  generalize due0 q b.g = q0
  by_cases hc : b.c = 0
  · rw [if_pos hc, if_pos hc]
  · rw [if_neg hc, if_neg hc, y_end]
    have e := runP_ht L b.c b.s q0.kd ⟨q0.h, q0.t, q0.lo, q0.rows⟩ b.c
    have e1 := congrArg Prod.fst e
    have e2 := congrArg Prod.snd e
    dsimp only at e1 e2
    rw [e1, e2]
    rfl
theorem due_y (z : Z3) (g : Bool) : zDue z g = if g = true then (false, 0, 0) else zY z := rfl
theorem y_next {L : Int} {bs : List Bl} {z : Z3} (h : yOf (pageOf L bs) = zY z) (b : Bl) : yOf (pageOf L (bs ++ [b])) = zAft L (zDue z b.g) b := by
  rw [pageOf_snoc, y_block, h, due_y]
/-- height and tail -/
def HTok (L : Int) (x : Int × Int) : Prop := 0 ≤ x.2 ∧ x.1 ≤ L ∧ (x.2 < x.1 ∨ (x.1 = 0 ∧ x.2 = 0))
theorem step_ok {L : Int} (hL : 1 ≤ L) {x : Int × Int} {s : Int} {b : Bool} (hs : 0 ≤ s) (h : HTok L x) : HTok L (stepHT L x s b) ∧ 1 ≤ (stepHT L x s b).1 := by
  obtain ⟨a, t⟩ := x
  unfold HTok at h
  dsimp only at h
  unfold stepHT nextLine lng HTok
  dsimp only
  repeat' split
  all_goals (dsimp only at *)
  all_goals omega
theorem run_ok' {L : Int} (hL : 1 ≤ L) {c : Nat} {s : Int} (hs : 0 ≤ s) (kd : Bool) {x : Int × Int} (h : HTok L x) : ∀ n, HTok L (runHT L c s kd x n) ∧ (n ≠ 0 → 1 ≤ (runHT L c s kd x n).1)
  | 0 => ⟨h, fun q => absurd rfl q⟩
  | n + 1 => by
    have k := step_ok (s := if n = 0 then s else 0) (b := if n = 0 then kd else decide ((n : Int) = 1 ∨ (n : Int) = (c : Int) - 1)) hL (by split <;> omega) (run_ok' hL (c := c) hs kd h n).1
    exact ⟨k.1, fun _ => k.2⟩
theorem std_ht {L : Int} {z : Z3} (hL : 1 ≤ L) (h : StdZ L z) : HTok L (z.2.1, z.2.2) := by
  unfold StdZ at h
  unfold HTok
  dsimp only
  rcases h with h | h | h
  · omega
  · omega
  · rw [h]
    dsimp only
    omega
theorem std_end {L : Int} {h t : Int} (k : Bool) (x : HTok L (h, t)) (h1 : 1 ≤ h) : ∃ z, StdZ L z ∧ endK L h t k = zY z := by
  unfold HTok at x
  dsimp only at x
  unfold endK
  by_cases h0 : h = L ∧ (k = false ∨ t = 0)
  · rw [if_pos h0]
    exact ⟨(2, 0, 0), .inr (.inr rfl), rfl⟩
  · rw [if_neg h0]
    cases k with
    | true =>
      rw [if_pos rfl]
      refine ⟨(0, h, t), .inl ⟨rfl, h1, by dsimp only; omega, by dsimp only; omega, by dsimp only; omega, ?_⟩, rfl⟩
      dsimp only
      simp only [Bool.true_eq_false, false_or] at h0
      omega
    | false =>
      rw [if_neg (by decide)]
      refine ⟨(1, h, 0), .inr (.inl ⟨rfl, h1, ?_, rfl⟩), rfl⟩
      dsimp only
      simp only [true_or, and_true] at h0
      omega
theorem std_aft {L : Int} (hL : 1 ≤ L) {z : Z3} (hz : StdZ L z) {b : Bl} (hs : 0 ≤ b.s) : ∃ z', StdZ L z' ∧ zAft L (zDue z b.g) b = zY z' := by
  have hd : ∃ z0, StdZ L z0 ∧ zDue z b.g = zY z0 := by
    rw [due_y]
    cases b.g with
    | true => exact ⟨(2, 0, 0), .inr (.inr rfl), rfl⟩
    | false => exact ⟨z, hz, rfl⟩
  obtain ⟨z0, h0, e0⟩ := hd
  rw [e0]
  unfold zAft
  by_cases hc : b.c = 0
  · rw [if_pos hc]
    exact ⟨z0, h0, rfl⟩
  · rw [if_neg hc]
    obtain ⟨k1, k2⟩ := run_ok' hL (c := b.c) hs (zY z0).1 (std_ht hL h0) b.c
    exact std_end b.k k1 (k2 hc)
/-! ### standings in the heap -/
theorem shZ1 (z : Z3) : SeqAt.shaped (zD z) = true := by
  simp [SeqAt.shaped, zD, PyData.canLay0, PyData.canLayAll0, PyData.depth, PyData.depthAll, strOk_word]
theorem dp_z {K : PySem.W.Frag} {H : Hp} {p : Addr} {z : Z3} (h : SqT K H p [.str (wordN z.1), .int z.2.1, .int z.2.2]) : Dp K H (.ref p) (zD z) := .tup h (.cons (.str _) (.cons (.int _) (.cons (.int _) .nil)))
theorem seq_of_std {K : PySem.W.Frag} {H : Hp} {L : Int} {p : Addr} {z : Z3} {y : Bool × Int × Int} (hz : StdZ L z) (e : y = zY z) (h : StAt K H p y.1 y.2.1 y.2.2) : SqT K H p [.str (wordN z.1), .int z.2.1, .int z.2.2] := by
  subst e
  obtain ⟨w, h1, _, h3⟩ := h
  rw [std_word hz]
  rw [h3] at h1
  exact h1
end Pa
set_option maxRecDepth 100000
set_option maxHeartbeats 4000000
namespace Pa
open PySem PySem.Spec PyProof.Rows L2 SrtO
abbrev sBad_init : Stmt := inClass (topS 4) 0
section
variable {P : Program} {w : World} {K : PySem.W.Frag} {mg : Str → Option Value} {base : Heap} {C f cc cda : Addr} {dV kV doc pm ct oc ccl cl : Value} {an od cdd cld : Option Addr} {osl ccs csl : Array (Option Value)} {vs0 : Array Value} {file : Str} {tf : Tok}
theorem ok_badinit (T : SupCls P K mg C "standing")
    (lk : K.lookup f = some ⟨oc, od, .func (PySem.W.fnX "__init__" "BadStanding.__init__" (defArgs sBad_init) (defBody sBad_init) (supScope "standing") [("__class__", cc)] dV kV doc pm an (.ref cda) ct), osl⟩) (hcd : PySem.W.codeIn K (.ref cda) "BadStanding.__init__" = true)
    (hcode : K.lookup cda = some ⟨ccl, cdd, .fields vs0, ccs⟩) (hvs : vs0[2]? = some (.str file tf)) (hfile : ((P.main.file : Str) == file) = true) (hcell : K.lookup cc = some ⟨cl, cld, .cell (some (.ref C)), csl⟩) :
    FnOk P w K mg base CX0 1 f (PySem.W.fnX "__init__" "BadStanding.__init__" (defArgs sBad_init) (defBody sBad_init) (supScope "standing") [("__class__", cc)] dV kV doc pm an (.ref cda) ct) ["self", "standing"] (spSup C "standing") :=
  sup_fn T lk hcd hcode hvs hfile hcell rfl rfl rfl (fun env => rfl) (fun env => rfl) (by decide) (by decide) (by decide) (by decide)
theorem bad_binds : Binds K (PySem.W.fnX "__init__" "BadStanding.__init__" (defArgs sBad_init) (defBody sBad_init) (supScope "standing") [("__class__", cc)] .none kV doc pm an (.ref cda) ct) ["self", "standing"] [] := .all fun us hl => by
  match us, hl with
  | [a, b], _ => exact rfl
end
end Pa
set_option maxRecDepth 100000
set_option maxHeartbeats 4000000
namespace Pa
open PySem PySem.Spec PyProof.Rows L2 SrtO
/-! ### a Page that goes on: what its rows are like -/
/-- strictly upward from a to b -/
def Up : Int → List Int → Int → Prop
  | a, [], b => a = b
  | a, x :: l, b => a < x ∧ Up x l b
theorem Up.app : ∀ {a b c : Int} {l m : List Int}, Up a l b → Up b m c → Up a (l ++ m) c
  | a, b, c, [], m, h, k => by cases (show a = b from h); exact k
  | a, b, c, x :: l, m, h, k => ⟨h.1, Up.app h.2 k⟩
theorem Up.snoc {a b c : Int} {l : List Int} (h : Up a l b) (k : b < c) : Up a (l ++ [c]) c := h.app ⟨k, rfl⟩
theorem Up.sub (d : Int) : ∀ {a b : Int} {l : List Int}, Up a l b → Up (a - d) (l.map fun x => x - d) (b - d)
  | a, b, [], h => by cases (show a = b from h); exact rfl
  | a, b, x :: l, h => ⟨by have := h.1; show a - d < x - d; omega, Up.sub d h.2⟩
theorem Up.low : ∀ {a b : Int} {l : List Int}, Up a l b → a ≤ b ∧ ∀ x ∈ l, a < x ∧ x ≤ b
  | a, b, [], h => ⟨Int.le_of_eq h, fun x hx => by cases hx⟩
  | a, b, y :: l, h => by
    obtain ⟨h1, h2⟩ := h
    obtain ⟨i1, i2⟩ := Up.low h2
    refine ⟨by omega, fun x hx => ?_⟩
    rcases List.mem_cons.mp hx with e | hx
    · rw [e]; omega
    · have := i2 x hx; omega
theorem Up.nil_of {a : Int} {l : List Int} (h : Up a l a) : l = [] := by
  cases l with
  | nil => rfl
  | cons x l =>
    have := (Up.low h).2 x List.mem_cons_self
    omega
structure JR (L h0 d0 : Int) (p : RP) (A B : List Int) : Prop where
  rows : p.rows = A ++ B
  lo : p.lo = (B.length : Int)
  ht : HTok L (p.h, p.t)
  rng : ∀ r ∈ p.rows, 0 ≤ r ∧ r < L
  nn : p.w = none → A = [] ∧ p.h - p.t = d0 ∧ 0 < p.t ∧ Up (h0 - 1) B (p.h - 1)
  sm : p.w ≠ none → Up (p.h - p.t - 1) B (p.h - 1) ∧ ∀ x, B.head? = some x → x = p.h - p.t
theorem set_ne (w : Option Bool) : settleW w ≠ none := by unfold settleW; split <;> simp_all
theorem over_ne (w : Option Bool) : overW w ≠ none := by unfold overW; split <;> simp_all
theorem JR.off {L h0 d0 : Int} {p : RP} {A B : List Int} (J : JR L h0 d0 p A B) (hd : d0 ≤ h0) : ∀ x ∈ B, p.h - p.t ≤ x := by
  intro x hx
  cases hw : p.w with
  | none =>
    obtain ⟨_, e, _, u⟩ := J.nn hw
    have := (Up.low u).2 x hx
    omega
  | some v =>
    have := (Up.low (J.sm (by rw [hw]; simp)).1).2 x hx
    omega
theorem jr_line {L h0 d0 : Int} (hL : 1 ≤ L) (hd : d0 ≤ h0) {p : RP} {A B : List Int} (J : JR L h0 d0 p A B) {s : Int} (hs : 0 ≤ s) (b : Bool) : ∃ A' B', JR L h0 d0 (lineR L p s b) A' B' := by
  have hst := (step_ok (b := b) hL hs J.ht)
  obtain ⟨rows, lo, ht, rng, nn, sm⟩ := J
  have hoff := JR.off ⟨rows, lo, ht, rng, nn, sm⟩ hd
  obtain ⟨ph, pt, plo, prows, pw⟩ := p
  dsimp only at *
  have plain : ∀ (h' : Int) (w' : Option Bool), w' ≠ none → HTok L (h', 0) → 1 ≤ h' → ∃ A' B', JR L h0 d0 ⟨h', 0, 0, prows ++ [h' - 1], w'⟩ A' B' := fun h' w' hw hht h1 =>
    ⟨prows ++ [h' - 1], [], by simp, rfl, hht, fun r hr => by
      rcases List.mem_append.mp hr with h | h
      · exact rng r h
      · rw [List.mem_singleton.mp h]
        unfold HTok at hht
        dsimp only at hht
        omega, fun e => absurd e hw, fun _ => ⟨by show h' - 0 - 1 = h' - 1; omega, fun x hx => by cases hx⟩⟩
  unfold stepHT at hst
  unfold lineR
  dsimp only at hst ⊢
  unfold nextLine at hst ⊢
  by_cases hfit : ph > 0 ∧ ph + s + 1 ≤ L
  · simp only [if_pos hfit] at hst ⊢
    cases b with
    | false =>
      simp only [if_true] at hst ⊢
      have e1 : ¬ (1 : Int) > 1 := by decide
      simp only [if_neg e1, Bool.false_eq_true, if_false]
      refine ⟨prows, [ph + s + 1 - 1], rfl, rfl, hst.1, fun r hr => ?_, fun e => absurd e (set_ne _), fun _ => ⟨⟨by dsimp only; omega, rfl⟩, fun x hx => ?_⟩⟩
      · rcases List.mem_append.mp hr with h | h
        · exact rng r h
        · rw [List.mem_singleton.mp h]
          have := ht.1
          omega
      · simp at hx
        dsimp only
        omega
    | true =>
      simp only [Bool.true_eq_false, if_false] at hst ⊢
      by_cases ht0 : pt > 0
      · have el : lng pt s = pt + s + 1 := if_pos ht0
        rw [el] at hst ⊢
        have e1 : pt + s + 1 > 1 := by omega
        simp only [if_pos e1, Bool.false_eq_true, if_false]
        refine ⟨A, B ++ [ph + s + 1 - 1], by rw [rows, List.append_assoc], by rw [lo]; simp, hst.1, fun r hr => ?_, fun e => ?_, fun e => ?_⟩
        · rcases List.mem_append.mp hr with h | h
          · exact rng r h
          · rw [List.mem_singleton.mp h]
            have := ht.1
            omega
        · obtain ⟨a1, a2, a3, a4⟩ := nn e
          exact ⟨a1, by dsimp only; omega, by dsimp only; omega, a4.snoc (by omega)⟩
        · obtain ⟨a1, a2⟩ := sm e
          refine ⟨?_, fun x hx => ?_⟩
          · dsimp only
            rw [show ph + s + 1 - (pt + s + 1) - 1 = ph - pt - 1 by omega]
            exact a1.snoc (by omega)
          · cases B with
            | nil =>
              have : ph - pt - 1 = ph - 1 := a1
              omega
            | cons y B =>
              have := a2 x (by simpa using hx)
              dsimp only
              omega
      · have el : lng pt s = 0 := if_neg ht0
        rw [el] at hst ⊢
        have e1 : ¬ (0 : Int) > 1 := by decide
        simp only [if_neg e1, Bool.false_eq_true, if_false]
        exact plain _ _ (set_ne _) hst.1 (by omega)
  · simp only [if_neg hfit] at hst ⊢
    by_cases hb : b = false ∨ pt = 0
    · simp only [if_pos hb] at hst ⊢
      have e1 : ¬ (0 : Int) > 1 := by decide
      simp only [if_neg e1, Bool.false_eq_true, if_false]
      exact plain 1 _ (set_ne _) hst.1 (by omega)
    · simp only [if_neg hb] at hst ⊢
      have e1 : ¬ (0 : Int) > 1 := by decide
      simp only [if_neg e1, if_true]
      refine ⟨overR prows plo (ph - pt) ++ [(if lng pt s ≤ L then lng pt s else 1) - 1], [], by simp, rfl, hst.1, fun r hr => ?_, fun e => absurd e (set_ne _), fun _ => ⟨by dsimp only; show _ - 0 - 1 = _ - 1; omega, fun x hx => by cases hx⟩⟩
      rcases List.mem_append.mp hr with h | h
      · unfold overR at h
        rw [lo, Int.toNat_natCast, rows] at h
        rw [List.length_append, Nat.add_sub_cancel, List.take_left' rfl, List.drop_left' rfl] at h
        rcases List.mem_append.mp h with h | h
        · exact rng r (by rw [rows]; exact List.mem_append_left _ h)
        · obtain ⟨x, hx, rfl⟩ := List.mem_map.mp h
          have h1 := rng x (by rw [rows]; exact List.mem_append_right _ hx)
          have h2 := hoff x hx
          have h3 := ht.2
          have h4 := ht.1
          dsimp only at h2 h3 h4
          omega
      · rw [List.mem_singleton.mp h]
        have h1 := hst.2
        have h2 := hst.1.2.1
        dsimp only at h1 h2
        omega
theorem jr_run {L h0 d0 : Int} (hL : 1 ≤ L) (hd : d0 ≤ h0) {p : RP} {A B : List Int} (J : JR L h0 d0 p A B) {s : Int} (hs : 0 ≤ s) (m : Nat) (kd : Bool) : ∀ n, ∃ A' B', JR L h0 d0 (runR L m s kd p n) A' B'
  | 0 => ⟨A, B, J⟩
  | n + 1 => by
    obtain ⟨A1, B1, J1⟩ := jr_run hL hd J hs m kd n
    exact jr_line hL hd J1 (by split <;> omega) _
end Pa
set_option maxRecDepth 100000
set_option maxHeartbeats 4000000
namespace Pa
open PySem PySem.Spec PyProof.Rows L2 SrtO
/-! ### two pages set together -/
def zOf (y : Bool × Int × Int) : Z3 := if y.1 = true then (0, y.2.1, y.2.2) else if y.2.1 = 0 then (2, 0, 0) else (1, y.2.1, 0)
theorem zOf_zY {L : Int} {z : Z3} (h : StdZ L z) : zOf (zY z) = z := by
  obtain ⟨a, b, c⟩ := z
  unfold StdZ at h
  unfold zOf zY zKd
  dsimp only at h ⊢
  rcases h with ⟨rfl, _⟩ | ⟨rfl, h1, _, h3⟩ | h
  · rw [if_pos (by simp)]
  · rw [if_neg (by simp), if_neg (by omega), h3]
  · simp only [Prod.mk.injEq] at h
    obtain ⟨rfl, rfl, rfl⟩ := h
    rfl
abbrev LnV := Bool × Int
structure Sd where
  st : List LnV
  z : Z3
  o : List Int
def lnv (x : Int) : LnV := (decide (x = 0), x)
def goneO (o : List Int) : List LnV := o.map lnv
def stayO (z : Z3) (o : List Int) : List LnV := o.map fun x => (false, z.2.1 - z.2.2 + x)
def blkR (L : Int) (z : Z3) (c : Nat) (s : Int) (k : Bool) : RB := blockR L (res0 (zKd z) z.2.1 z.2.2) ⟨c, s, k, false⟩
def preR (r : RB) : List Int := r.rows.take (r.rows.length - r.lo.toNat)
def sufR (r : RB) : List Int := r.rows.drop (r.rows.length - r.lo.toNat)
def withP (S : Sd) : Sd := ⟨S.st ++ stayO S.z S.o, (2, 0, 0), []⟩
def stW (w : Option Bool) (S : Sd) : List LnV := match w with
  | none => S.st
  | some g => S.st ++ (if g = true then goneO S.o else stayO S.z S.o)
def oW (w : Option Bool) (S : Sd) : List Int := match w with
  | none => S.o
  | some _ => []
def withL (L : Int) (c : Nat) (s : Int) (k : Bool) (S : Sd) : Sd :=
  ⟨stW (blkR L S.z c s k).w S ++ (preR (blkR L S.z c s k)).map lnv, zOf ((blkR L S.z c s k).kd, (blkR L S.z c s k).h, (blkR L S.z c s k).t), oW (blkR L S.z c s k).w S ++ (sufR (blkR L S.z c s k)).map fun x => x - ((blkR L S.z c s k).h - (blkR L S.z c s k).t)⟩
structure JD where
  z1 : Z3
  o1 : List Int
  z2 : Z3
  o2 : List Int
  st : List LnV
def mmin (a b : List LnV) : Nat := min a.length b.length
def joinS (a b : Sd) : Option JD := if a.st.take (mmin a.st b.st) = b.st.take (mmin a.st b.st) then some ⟨a.z, a.o, b.z, b.o, a.st.drop (mmin a.st b.st) ++ b.st.drop (mmin a.st b.st)⟩ else none
def side1 (j : JD) : Sd := ⟨if j.o1.length < j.o2.length then j.st else [], j.z1, j.o1⟩
def side2 (j : JD) : Sd := ⟨if j.o1.length < j.o2.length then [] else j.st, j.z2, j.o2⟩
def pageJ (j : Option JD) (f s : Bool) : Option JD := match j with
  | none => none
  | some j => joinS (if f = true then withP (side1 j) else side1 j) (if s = true then withP (side2 j) else side2 j)
structure Vl where
  m : Int
  sp : Int
  k : Bool
  pg : Bool
  ot : Bool
def linesJ (L1 L2 : Int) (j : Option JD) (c : Nat) (f s : Vl) : Option JD := match j with
  | none => none
  | some j => joinS (withL L1 c f.sp f.k (side1 j)) (withL L2 c s.sp s.k (side2 j))
def blockJ (L1 L2 : Int) (j : Option JD) (c : Nat) (f s : Vl) : Option JD :=
  if 0 < c ∧ f.ot ≠ s.ot then none
  else if c = 0 ∨ f.ot = true then pageJ j (f.pg && !f.ot) (s.pg && !s.ot)
  else linesJ L1 L2 (pageJ j (f.pg && !f.ot) (s.pg && !s.ot)) c f s
/-! ### well formed -/
def LvOk (l : LnV) : Prop := 0 ≤ l.2 ∧ l.2 ≤ 3 ∧ (l.1 = true → l.2 = 0)
structure WfS (L : Int) (S : Sd) : Prop where
  z : StdZ L S.z
  up : Up (-1) S.o (S.z.2.2 - 1)
  hd : ∀ x, S.o.head? = some x → x = 0
  st : ∀ l ∈ S.st, LvOk l
def tot (S : Sd) : Nat := S.st.length + S.o.length
theorem std_t {L : Int} {z : Z3} (h : StdZ L z) : 0 ≤ z.2.2 ∧ z.2.2 ≤ z.2.1 ∧ z.2.1 ≤ L ∨ z = (2, 0, 0) := by
  unfold StdZ at h
  rcases h with h | h | h
  · left; omega
  · left; omega
  · right; exact h
theorem std_b {L : Int} (hL : 0 ≤ L) {z : Z3} (h : StdZ L z) : 0 ≤ z.2.2 ∧ z.2.2 ≤ z.2.1 ∧ z.2.1 ≤ L := by
  rcases std_t h with h | h
  · exact h
  · rw [h]; dsimp only; omega
theorem off_rng {L : Int} {S : Sd} (hL : 0 ≤ L) (hL4 : L ≤ 4) (W : WfS L S) : ∀ x ∈ S.o, 0 ≤ x ∧ x < S.z.2.2 ∧ x ≤ 3 := fun x hx => by
  have h1 := (Up.low W.up).2 x hx
  have h2 := std_b hL W.z
  have h3 : S.z.2.2 ≤ 4 := by omega
  omega
theorem lnv_ok {x : Int} (h : 0 ≤ x ∧ x ≤ 3) : LvOk (lnv x) := ⟨h.1, h.2, fun e => of_decide_eq_true e⟩
theorem gone_ok {L : Int} {S : Sd} (hL : 0 ≤ L) (hL4 : L ≤ 4) (W : WfS L S) : ∀ l ∈ goneO S.o, LvOk l := fun l hl => by
  obtain ⟨x, hx, rfl⟩ := List.mem_map.mp hl
  have := off_rng hL hL4 W x hx
  exact lnv_ok ⟨this.1, this.2.2⟩
theorem stay_ok {L : Int} {S : Sd} (hL : 0 ≤ L) (hL4 : L ≤ 4) (W : WfS L S) : ∀ l ∈ stayO S.z S.o, LvOk l := fun l hl => by
  obtain ⟨x, hx, rfl⟩ := List.mem_map.mp hl
  have h1 := off_rng hL hL4 W x hx
  have h2 := std_b hL W.z
  exact ⟨by dsimp only; omega, by dsimp only; omega, fun e => by cases e⟩
theorem withP_ok {L : Int} {S : Sd} (hL : 0 ≤ L) (hL4 : L ≤ 4) (W : WfS L S) : WfS L (withP S) ∧ tot (withP S) = tot S := by
  refine ⟨⟨.inr (.inr rfl), rfl, (fun x hx => by cases hx), fun l hl => ?_⟩, ?_⟩
  · rcases List.mem_append.mp hl with h | h
    · exact W.st l h
    · exact stay_ok hL hL4 W l h
  · unfold tot withP stayO
    simp
theorem end_jr {L h0 d0 : Int} {p : RP} {A B : List Int} (J : JR L h0 d0 p A B) (h1 : 1 ≤ p.h) (k : Bool) : ∃ A' B', JR L h0 d0 ⟨(endR L p k).h, (endR L p k).t, (endR L p k).lo, (endR L p k).rows, (endR L p k).w⟩ A' B' := by
  have z0 : ∀ (h : Int) (w : Option Bool), w ≠ none → HTok L (h, 0) → ∃ A' B', JR L h0 d0 ⟨h, 0, 0, p.rows, w⟩ A' B' := fun h w hw hh =>
    ⟨p.rows, [], by simp, rfl, hh, J.rng, fun e => absurd e hw, fun _ => ⟨by show h - 0 - 1 = h - 1; omega, fun x hx => by cases hx⟩⟩
  have hh := J.ht
  unfold endR
  by_cases c1 : p.h = L ∧ (k = false ∨ p.t = 0)
  · rw [if_pos c1]
    exact z0 0 _ (set_ne _) ⟨by dsimp only; omega, by dsimp only; have := hh.2.1; dsimp only at this; omega, .inr ⟨rfl, rfl⟩⟩
  · rw [if_neg c1]
    by_cases c2 : k = true
    · rw [if_pos c2]
      by_cases c3 : p.t = 0
      · simp only [if_pos c3]
        rw [c3]
        exact z0 p.h _ (set_ne _) (by rw [c3] at hh; exact hh)
      · simp only [if_neg c3]
        exact ⟨A, B, J⟩
    · rw [if_neg c2]
      exact z0 p.h _ (set_ne _) ⟨Int.le_refl 0, hh.2.1, .inl (by dsimp only; omega)⟩
theorem runR_h' {L : Int} (hL : 1 ≤ L) {c : Nat} {s : Int} (hs : 0 ≤ s) (kd : Bool) {p : RP} {h0 d0 : Int} {A B : List Int} (hd : d0 ≤ h0) (J : JR L h0 d0 p A B) : ∀ n, n ≠ 0 → 1 ≤ (runR L c s kd p n).h
  | 0, h => absurd rfl h
  | n + 1, _ => by
    obtain ⟨A1, B1, J1⟩ := jr_run hL hd J hs c kd n
    exact (step_ok (s := if n = 0 then s else 0) (b := if n = 0 then kd else decide ((n : Int) = 1 ∨ (n : Int) = (c : Int) - 1)) hL (by split <;> omega) J1.ht).2
structure BlkM (L : Int) (z : Z3) (c : Nat) (r : RB) (z' : Z3) : Prop where
  std : StdZ L z'
  y : (r.kd, r.h, r.t) = zY z'
  jr : ∃ A B, JR L z.2.1 (z.2.1 - z.2.2) ⟨r.h, r.t, r.lo, r.rows, r.w⟩ A B
  len : r.rows.length = c
  w0 : z.2.2 = 0 → r.w ≠ none
theorem blk_ok {L : Int} (hL : 1 ≤ L) {z : Z3} (hz : StdZ L z) {c : Nat} (hc : c ≠ 0) {s : Int} (hs : 0 ≤ s) (k : Bool) : ∃ z', BlkM L z c (blkR L z c s k) z' := by
  obtain ⟨z', hz', ez'⟩ := std_aft hL hz (b := ⟨c, s, k, false⟩) hs
  have hb := std_b (by omega) hz
  have tn : ((z.2.2.toNat : Nat) : Int) = z.2.2 := by omega
  have S0 := sim0 (kd := zKd z) (h := z.2.1) (t := z.2.2.toNat) (A := List.replicate z.2.2.toNat 0)
  rw [tn] at S0
  have S1 := sim_block (L := L) (by rw [List.length_replicate]; exact Nat.le_refl _) S0 (b := ⟨c, s, k, false⟩) hs
  have ey := y_block L ⟨zKd z, z.2.1, z.2.2, z.2.2, List.replicate z.2.2.toNat 0⟩ ⟨c, s, k, false⟩
  have e0 : yOf ⟨zKd z, z.2.1, z.2.2, z.2.2, List.replicate z.2.2.toNat 0⟩ = zY z := rfl
  rw [e0, ← due_y, ez'] at ey
  have J0 : JR L z.2.1 (z.2.1 - z.2.2) ⟨z.2.1, z.2.2, 0, [], if z.2.2 > 0 then none else some false⟩ [] [] := by
    refine ⟨rfl, rfl, std_ht hL hz, (fun r hr => by cases hr), fun e => ?_, fun e => ?_⟩
    · dsimp only at e
      split at e
      · rename_i ht
        exact ⟨rfl, rfl, ht, rfl⟩
      · cases e
    · dsimp only at e
      split at e
      · exact absurd rfl e
      · exact ⟨by show z.2.1 - z.2.2 - 1 = z.2.1 - 1; omega, fun x hx => by cases hx⟩
  have hd : z.2.1 - z.2.2 ≤ z.2.1 := by omega
  obtain ⟨A1, B1, J1⟩ := jr_run hL hd J0 hs c (zKd z) c
  have h1 := runR_h' hL (c := c) hs (zKd z) hd J0 c hc
  obtain ⟨A2, B2, J2⟩ := end_jr J1 h1 k
  have eB : blkR L z c s k = endR L (runR L c s (zKd z) ⟨z.2.1, z.2.2, 0, [], if z.2.2 > 0 then none else some false⟩ c) k := by
    unfold blkR blockR dueR res0
    simp only [Bool.false_eq_true, if_false, if_neg hc]
  refine ⟨z', hz', ?_, ?_, ?_, ?_⟩
  · unfold blkR
    rw [← ey]
    unfold yOf
    exact Prod.ext S1.kd (Prod.ext S1.sim.h S1.sim.t)
  · rw [eB]
    exact ⟨A2, B2, J2⟩
  · rw [eB]
    have e2 : (endR L (runR L c s (zKd z) ⟨z.2.1, z.2.2, 0, [], if z.2.2 > 0 then none else some false⟩ c) k).rows = (runR L c s (zKd z) ⟨z.2.1, z.2.2, 0, [], if z.2.2 > 0 then none else some false⟩ c).rows := by
      unfold endR
      repeat' split
      all_goals rfl
    rw [e2, runR_len]
    simp
  · intro ht
    have e3 : (res0 (zKd z) z.2.1 z.2.2).w = some false := by
      unfold res0
      dsimp only
      rw [if_neg (by omega)]
    have := w_block (L := L) e3 ⟨c, s, k, false⟩
    unfold blkR
    rw [this]
    simp
end Pa
set_option maxRecDepth 100000
set_option maxHeartbeats 4000000
namespace Pa
open PySem PySem.Spec PyProof.Rows L2 SrtO
theorem jr_parts {L h0 d0 : Int} {r : RB} {A B : List Int} (J : JR L h0 d0 ⟨r.h, r.t, r.lo, r.rows, r.w⟩ A B) : preR r = A ∧ sufR r = B := by
  have e1 : r.rows = A ++ B := J.rows
  have e2 : r.lo = (B.length : Int) := J.lo
  unfold preR sufR
  rw [e1, e2, Int.toNat_natCast, List.length_append, Nat.add_sub_cancel]
  exact ⟨List.take_left' rfl, List.drop_left' rfl⟩
theorem withL_ok {L : Int} (hL : 1 ≤ L) (hL4 : L ≤ 4) {S : Sd} (W : WfS L S) {c : Nat} (hc : c ≠ 0) {s : Int} (hs : 0 ≤ s) (k : Bool) : WfS L (withL L c s k S) ∧ tot (withL L c s k S) = tot S + c := by
  obtain ⟨z', M⟩ := blk_ok hL W.z hc hs k
  obtain ⟨A, B, J⟩ := M.jr
  obtain ⟨eA, eB⟩ := jr_parts J
  have hlen := M.len
  have erows : (blkR L S.z c s k).rows = A ++ B := J.rows
  rw [erows, List.length_append] at hlen
  have ez : zOf ((blkR L S.z c s k).kd, (blkR L S.z c s k).h, (blkR L S.z c s k).t) = z' := by rw [M.y, zOf_zY M.std]
  have eh : (blkR L S.z c s k).h = z'.2.1 := congrArg (fun x => x.2.1) M.y
  have et : (blkR L S.z c s k).t = z'.2.2 := congrArg (fun x => x.2.2) M.y
  have hA : ∀ l ∈ A.map lnv, LvOk l := fun l hl => by
    obtain ⟨x, hx, rfl⟩ := List.mem_map.mp hl
    have := J.rng x (by show x ∈ (blkR L S.z c s k).rows; rw [erows]; exact List.mem_append_left _ hx)
    exact lnv_ok ⟨this.1, by omega⟩
  have nn := J.nn
  have sm := J.sm
  have w0 := M.w0
  unfold withL tot
  rw [eA, eB, ez]
  dsimp only at nn sm ⊢
  rw [eh, et] at nn sm ⊢
  cases hw : (blkR L S.z c s k).w with
  | none =>
    obtain ⟨a1, a2, a3, a4⟩ := nn hw
    have zt : 0 < S.z.2.2 := by
      have h1 := std_b (by omega) W.z
      have h2 : S.z.2.2 ≠ 0 := fun e => w0 e hw
      omega
    refine ⟨⟨M.std, ?_, ?_, ?_⟩, ?_⟩
    · show Up (-1) (S.o ++ _) (z'.2.2 - 1)
      have u := Up.sub (z'.2.1 - z'.2.2) a4
      rw [show z'.2.1 - 1 - (z'.2.1 - z'.2.2) = z'.2.2 - 1 by omega, show S.z.2.1 - 1 - (z'.2.1 - z'.2.2) = S.z.2.2 - 1 by omega] at u
      exact W.up.app u
    · intro x hx
      have hx : (S.o ++ B.map fun x => x - (z'.2.1 - z'.2.2)).head? = some x := hx
      cases ho : S.o with
      | nil =>
        have := W.up
        rw [ho] at this
        have : (-1 : Int) = S.z.2.2 - 1 := this
        omega
      | cons y l =>
        rw [ho] at hx
        refine W.hd x ?_
        rw [ho]
        simpa using hx
    · intro l hl
      have hl : l ∈ S.st ++ A.map lnv := hl
      rcases List.mem_append.mp hl with h | h
      · exact W.st l h
      · exact hA l h
    · show (S.st ++ A.map lnv).length + (S.o ++ B.map fun x => x - (z'.2.1 - z'.2.2)).length = _
      simp only [List.length_append, List.length_map]
      omega
  | some g =>
    obtain ⟨a1, a2⟩ := sm (by rw [hw]; simp)
    refine ⟨⟨M.std, ?_, ?_, ?_⟩, ?_⟩
    · show Up (-1) ([] ++ _) (z'.2.2 - 1)
      have u := Up.sub (z'.2.1 - z'.2.2) a1
      rw [show z'.2.1 - 1 - (z'.2.1 - z'.2.2) = z'.2.2 - 1 by omega, show z'.2.1 - z'.2.2 - 1 - (z'.2.1 - z'.2.2) = -1 by omega] at u
      exact u
    · intro x hx
      have hx : (B.map fun x => x - (z'.2.1 - z'.2.2)).head? = some x := hx
      cases B with
      | nil => cases hx
      | cons y B =>
        have := a2 y rfl
        simp at hx
        omega
    · intro l hl
      have hl : l ∈ (S.st ++ (if g = true then goneO S.o else stayO S.z S.o)) ++ A.map lnv := hl
      rcases List.mem_append.mp hl with h | h
      · rcases List.mem_append.mp h with h | h
        · exact W.st l h
        · cases g with
          | true => exact gone_ok (by omega) hL4 W l h
          | false => exact stay_ok (by omega) hL4 W l h
      · exact hA l h
    · show ((S.st ++ (if g = true then goneO S.o else stayO S.z S.o)) ++ A.map lnv).length + (([] : List Int) ++ B.map fun x => x - (z'.2.1 - z'.2.2)).length = _
      have eg : (if g = true then goneO S.o else stayO S.z S.o).length = S.o.length := by
        cases g <;> simp [goneO, stayO]
      simp only [List.length_append, List.length_map, List.length_nil, eg]
      omega
/-- a joint standing -/
structure WfJ (L1 L2 : Int) (j : JD) : Prop where
  s1 : WfS L1 (side1 j)
  s2 : WfS L2 (side2 j)
  tt : tot (side1 j) = tot (side2 j)
theorem side_z1 (j : JD) : (side1 j).z = j.z1 := rfl
theorem join_ok {L1 L2 : Int} {a b : Sd} (h1 : WfS L1 a) (h2 : WfS L2 b) (ht : tot a = tot b) {j : JD} (e : joinS a b = some j) : WfJ L1 L2 j ∧ j.z1 = a.z ∧ j.o1 = a.o ∧ j.z2 = b.z ∧ j.o2 = b.o := by
  unfold joinS at e
  split at e
  · cases e
    have hm : ∀ l ∈ a.st.drop (mmin a.st b.st) ++ b.st.drop (mmin a.st b.st), LvOk l := fun l hl => by
      rcases List.mem_append.mp hl with h | h
      · exact h1.st l (List.mem_of_mem_drop h)
      · exact h2.st l (List.mem_of_mem_drop h)
    have hm' : ∀ (c : Prop) [Decidable c] (l), l ∈ (if c then a.st.drop (mmin a.st b.st) ++ b.st.drop (mmin a.st b.st) else []) → LvOk l := fun c _ l hl => by
      split at hl
      · exact hm l hl
      · cases hl
    have hm2 : ∀ (c : Prop) [Decidable c] (l), l ∈ (if c then [] else a.st.drop (mmin a.st b.st) ++ b.st.drop (mmin a.st b.st)) → LvOk l := fun c _ l hl => by
      split at hl
      · cases hl
      · exact hm l hl
    refine ⟨⟨⟨h1.z, h1.up, h1.hd, hm' _⟩, ⟨h2.z, h2.up, h2.hd, hm2 _⟩, ?_⟩, rfl, rfl, rfl, rfl⟩
    unfold tot at ht ⊢
    unfold side1 side2
    dsimp only
    by_cases hlt : a.o.length < b.o.length
    · rw [if_pos hlt, if_pos hlt]
      simp only [List.length_append, List.length_drop, List.length_nil, mmin]
      omega
    · rw [if_neg hlt, if_neg hlt]
      simp only [List.length_append, List.length_drop, List.length_nil, mmin]
      omega
  · cases e
def WfO (L1 L2 : Int) (j : Option JD) : Prop := ∀ x, j = some x → WfJ L1 L2 x
theorem jpage_ok {L1 L2 : Int} (a1 : 0 ≤ L1) (a2 : L1 ≤ 4) (b1 : 0 ≤ L2) (b2 : L2 ≤ 4) {j : Option JD} (W : WfO L1 L2 j) (f s : Bool) : WfO L1 L2 (pageJ j f s) := by
  cases j with
  | none => intro x e; cases e
  | some j =>
    obtain ⟨w1, w2, wt⟩ := W j rfl
    intro x e
    have p1 := withP_ok a1 a2 w1
    have p2 := withP_ok b1 b2 w2
    unfold pageJ at e
    cases f <;> cases s
    · exact (join_ok w1 w2 wt e).1
    · exact (join_ok w1 p2.1 (by rw [p2.2]; exact wt) e).1
    · exact (join_ok p1.1 w2 (by rw [p1.2]; exact wt) e).1
    · exact (join_ok p1.1 p2.1 (by rw [p1.2, p2.2]; exact wt) e).1
theorem jlines_ok {L1 L2 : Int} (a1 : 1 ≤ L1) (a2 : L1 ≤ 4) (b1 : 1 ≤ L2) (b2 : L2 ≤ 4) {j : Option JD} (W : WfO L1 L2 j) {c : Nat} (hc : c ≠ 0) {f s : Vl} (hf : 0 ≤ f.sp) (hs : 0 ≤ s.sp) : WfO L1 L2 (linesJ L1 L2 j c f s) := by
  cases j with
  | none => intro x e; cases e
  | some j =>
    obtain ⟨w1, w2, wt⟩ := W j rfl
    intro x e
    have p1 := withL_ok a1 a2 w1 hc hf f.k
    have p2 := withL_ok b1 b2 w2 hc hs s.k
    exact (join_ok p1.1 p2.1 (by rw [p1.2, p2.2, wt]) e).1
theorem jblock_ok {L1 L2 : Int} (a1 : 1 ≤ L1) (a2 : L1 ≤ 4) (b1 : 1 ≤ L2) (b2 : L2 ≤ 4) {j : Option JD} (W : WfO L1 L2 j) (c : Nat) {f s : Vl} (hf : 0 ≤ f.sp) (hs : 0 ≤ s.sp) : WfO L1 L2 (blockJ L1 L2 j c f s) := by
  unfold blockJ
  split
  · intro x e; cases e
  · split
    · exact jpage_ok (by omega) a2 (by omega) b2 W _ _
    · rename_i h
      exact jlines_ok a1 a2 b1 b2 (jpage_ok (by omega) a2 (by omega) b2 W _ _) (fun e => h (.inl e)) hf hs
/-! ### twins -/
def Twin (j : Option JD) : Prop := ∃ z o, j = some ⟨z, o, z, o, []⟩
theorem join_self (S : Sd) : joinS S S = some ⟨S.z, S.o, S.z, S.o, []⟩ := by
  unfold joinS mmin
  rw [if_pos rfl, Nat.min_self, List.drop_length, List.append_nil]
theorem twin_sides (z : Z3) (o : List Int) : side1 ⟨z, o, z, o, []⟩ = ⟨[], z, o⟩ ∧ side2 ⟨z, o, z, o, []⟩ = ⟨[], z, o⟩ := by
  unfold side1 side2
  constructor
  · dsimp only; split <;> rfl
  · dsimp only; split <;> rfl
theorem twin_page {j : Option JD} (h : Twin j) (f : Bool) : Twin (pageJ j f f) := by
  obtain ⟨z, o, rfl⟩ := h
  unfold pageJ
  dsimp only
  rw [(twin_sides z o).1, (twin_sides z o).2, join_self]
  exact ⟨_, _, rfl⟩
theorem twin_block {L : Int} {j : Option JD} (h : Twin j) (c : Nat) (f : Vl) : Twin (blockJ L L j c f f) := by
  unfold blockJ
  rw [if_neg (by simp)]
  split
  · exact twin_page h _
  · obtain ⟨z, o, e⟩ := twin_page h (f.pg && !f.ot)
    rw [e]
    unfold linesJ
    dsimp only
    rw [(twin_sides z o).1, (twin_sides z o).2, join_self]
    exact ⟨_, _, rfl⟩
end Pa
set_option maxRecDepth 100000
set_option maxHeartbeats 4000000
namespace Pa
open PySem PySem.Spec PyProof.Rows L2 SrtO
/-! ### data of joint standings -/
def dO (o : List Int) : PyData := .tuple (o.map PyData.int)
def dLn (l : LnV) : PyData := .tuple [.bool l.1, .int l.2]
def dSt (st : List LnV) : PyData := .tuple (st.map dLn)
def dSd (S : Sd) : PyData := .tuple [dSt S.st, zD S.z, dO S.o]
def LvAt (H : Hp) (x : V) (l : LnV) : Prop := TupAt H x [.bl l.1, .int l.2]
section
variable {K : PySem.W.Frag} {H : Hp}
theorem dp_tupE {v : V} {ds : List PyData} (h : Dp K H v (.tuple ds)) : ∃ a xs, v = .ref a ∧ SqT K H a xs ∧ DpAll K H xs ds := by
  cases h with
  | tup h1 h2 => exact ⟨_, _, rfl, h1, h2⟩
theorem dpInts : ∀ {xs : List V} {o : List Int}, DpAll K H xs (o.map PyData.int) → xs = o.map V.int
  | [], [], _ => rfl
  | x :: xs, i :: o, h => by
    cases h with
    | cons h1 h2 =>
      cases h1
      rw [dpInts h2]
      rfl
  | [], _ :: _, h => by cases h
  | _ :: _, [], h => by cases h
theorem dpIntsI : ∀ o : List Int, DpAll K H (o.map V.int) (o.map PyData.int)
  | [] => .nil
  | i :: o => .cons (.int i) (dpIntsI o)
theorem dp_oE {v : V} {o : List Int} (h : Dp K H v (dO o)) : ∃ a, v = .ref a ∧ SqT K H a (o.map V.int) := by
  obtain ⟨a, xs, e, h1, h2⟩ := dp_tupE h
  rw [dpInts h2] at h1
  exact ⟨a, e, h1⟩
theorem dp_oI {a : Addr} {o : List Int} (h : SqT K H a (o.map V.int)) : Dp K H (.ref a) (dO o) := .tup h (dpIntsI o)
theorem dpLv : ∀ {xs : List V} {ls : List LnV}, AllAt LvAt H xs ls → DpAll K H xs (ls.map dLn)
  | [], [], _ => .nil
  | _ :: _, _ :: _, ⟨⟨_, e, ht⟩, h2⟩ => by
    subst e
    exact .cons (.tup (SqT.of ht) (.cons (.bl _) (.cons (.int _) .nil))) (dpLv h2)
  | [], _ :: _, h => h.elim
  | _ :: _, [], h => h.elim
theorem lvMono {H' : Hp} {xs : List V} {ys : List LnV} (a : Tups H H') (h : AllAt LvAt H xs ys) : AllAt LvAt H' xs ys := h.mono fun _ _ => TupAt.mono a
theorem dp_zE {v : V} {z : Z3} (h : Dp K H v (zD z)) : ∃ a, v = .ref a ∧ SqT K H a [.str (wordN z.1), .int z.2.1, .int z.2.2] := by
  unfold zD at h
  obtain ⟨a, xs, e, h1, h2⟩ := dp_tupE h
  cases h2 with
  | cons a1 h2 =>
    cases h2 with
    | cons a2 h2 =>
      cases h2 with
      | cons a3 h2 =>
        cases h2
        cases a1
        cases a2
        cases a3
        exact ⟨a, e, h1⟩
theorem dp_3E {v : V} {d1 d2 d3 : PyData} (h : Dp K H v (.tuple [d1, d2, d3])) : ∃ a x y z, v = .ref a ∧ SqT K H a [x, y, z] ∧ Dp K H x d1 ∧ Dp K H y d2 ∧ Dp K H z d3 := by
  obtain ⟨a, xs, e, h1, h2⟩ := dp_tupE h
  cases h2 with
  | cons a1 h2 =>
    cases h2 with
    | cons a2 h2 =>
      cases h2 with
      | cons a3 h2 =>
        cases h2
        exact ⟨a, _, _, _, e, h1, a1, a2, a3⟩
theorem rd_catA {x y : V} {ds es : List PyData} {Q : VK} (hx : Dp K H x (.tuple ds)) (hy : Dp K H y (.tuple es)) (hl : ds.length ≤ 700) (hl2 : es.length ≤ 700) (k : ∀ v H', Same H H' → Dp K H' v (.tuple (ds ++ es)) → Q v H') : rCatA K x y H Q := by
  obtain ⟨a, xs, rfl, h1, h2⟩ := dp_tupE hx
  obtain ⟨b, ys, rfl, g1, g2⟩ := dp_tupE hy
  have e1 := dpAll_len h2
  have e2 := dpAll_len g2
  refine ⟨a, b, xs, ys, rfl, rfl, h1, g1, Nat.le_trans (m := 1400) (by omega) (by decide), fun e => ?_, fun _ e => ?_, fun _ _ p hp => ?_⟩
  · subst e
    have : ds = [] := List.eq_nil_of_length_eq_zero (by simpa using e1.symm)
    refine k _ H (Same.refl H) ?_
    rw [this]
    exact hy
  · subst e
    have : es = [] := List.eq_nil_of_length_eq_zero (by simpa using e2.symm)
    refine k _ H (Same.refl H) ?_
    rw [this, List.append_nil]
    exact hx
  · have s := same_new (o := .tup (xs ++ ys)) hp
    exact k _ _ s (.tup (SqT.of upd_same) (dpAll_append (dpAll_same s _ _ h2) (dpAll_same s _ _ g2)))
where
  dpAll_append {H : Hp} : ∀ {xs ys : List V} {ds es : List PyData}, DpAll K H xs ds → DpAll K H ys es → DpAll K H (xs ++ ys) (ds ++ es)
  | _, _, _, _, .nil, h => h
  | _, _, _, _, .cons a c, h => .cons a (dpAll_append c h)
end
structure Txt3 (mg : Str → Option Value) : Prop where
  g_PARTED : ∃ t, mg "PARTED" = some (.str "parted" t)
section
variable {P : Program} {w : World} {K : PySem.W.Frag} {mg : Str → Option Value} {base : Heap} {tp C CS : Addr}
/-! ### _gone_over, _stayed -/
def spGone (K : PySem.W.Frag) : Sp := fun vs H Q _ => ∃ (v : V) (o : List Int), vs = [v] ∧ Dp K H v (dO o) ∧ o.length ≤ 300 ∧ ∀ v' H', Same H H' → Dp K H' v' (dSt (goneO o)) → Q v' H'
abbrev s_gone_over : Stmt := topS 25
theorem sc_gone_over : FnScope ["offsets", "offset"] ["offsets"] (defScope s_gone_over) := ⟨rfl, rfl, rfl, by decide +kernel, rfl, by decide +kernel, by decide +kernel⟩
theorem ok_gone {f : Addr} {fd : FuncData} (F : Fun K "_gone_over" "_gone_over" s_gone_over f fd) (T : Txt K mg tp C) : FnOk P w K mg base CX0 1 f fd ["offsets"] (spGone K) := by
  refine F.ok sc_gone_over (fun vs H Q E h => ?_) (fun cdv A outer s H vs Q E hr h => ?_)
  · obtain ⟨v, o, rfl, _⟩ := h
    rfl
  · obtain ⟨v, o, rfl, hv, ho, k⟩ := h
    obtain ⟨a, rfl, ha⟩ := dp_oE hv
    refine ⟨_, (pss_one (ps_ret (pe_callTy call_tuple_of (by rfl) T.b_tuple (by decide +kernel) (pa_cons (pe_lc (own := [("offset", 1)]) (g := gName 1) (tt := tYes) rfl sc_gone_over.nd (pi_tup (pv 0)) (blkOk_by (N := ["offsets", "offset"]) (sc := defScope s_gone_over) (by decide +kernel)) (fun _ _ _ _ _ => (pg_name (i := 1) sc_gone_over.nd rfl (.inl rfl))) (fun _ _ _ _ _ => pts_nil) (fun _ _ _ _ _ => (pe_tup (pa_cons (pe_cmpR op_eq (pv 1) pe_int (nomark _)) (pa_cons (pv 1) pa_nil))))) pa_nil)))), ?_⟩
    refine ⟨_, rfl, a, rfl, ⟨_, ha⟩, fun D hD => ?_⟩
    refine lc_tup (K := K) (a := a) (xs := o.map V.int) (fun i H3 => Same H H3 ∧ ∃ acc, H3 D = some (.lst acc) ∧ AllAt LvAt H3 acc ((o.take i).map lnv)) ⟨same_new hD, [], upd_same, trivial⟩ (fun i H3 _ q => seqT_same q.1 ha) ?_ ?_
    · rintro i y H3 hi ⟨s3, acc, hacc, hra⟩
      rw [List.getElem?_map] at hi
      obtain ⟨r, hr', rfl⟩ := Option.map_eq_some_iff.mp hi
      refine ⟨rfl, ?_⟩
      refine ⟨_, rfl, rfl, _, rfl, (by show 2 ≤ sizeLine; decide), fun p hp => ?_⟩
      obtain ⟨p1, p2, p3, p4⟩ := all_push (f := fun l : LnV => [.bl l.1, .int l.2]) (y := lnv r) (tv := [.bl (decide (V.int r = V.int 0)), .int r]) hacc hra hp (by unfold lnv; simp)
      refine ⟨acc, p3, ?_, fun q u e => p4 q u (fun r => by rw [r, hD] at e; cases e) (s3 _ _ e), _, p1, ?_⟩
      · rw [hra.len, List.length_map, List.length_take]
        exact Nat.lt_of_le_of_lt (m := 300) (by omega) (by decide)
      · rw [List.take_add_one, hr', List.map_append]
        exact p2
    · rintro H3 ⟨s3, acc, hacc, hra⟩
      rw [List.length_map, List.take_of_length_le (Nat.le_refl _)] at hra
      refine ⟨D, acc, rfl, .inl ⟨SqL.of hacc, fun l hl => ?_⟩⟩
      exact k _ _ (s3.trans (same_new hl)) (.tup (SqT.of upd_same) (dpLv (lvMono (Tups.new hl) hra)))
def spStayed (K : PySem.W.Frag) : Sp := fun vs H Q _ => ∃ (u v : V) (z : Z3) (o : List Int), vs = [u, v] ∧ Dp K H u (zD z) ∧ Dp K H v (dO o) ∧ o.length ≤ 300 ∧ ∀ v' H', Same H H' → Dp K H' v' (dSt (stayO z o)) → Q v' H'
abbrev s_stayed : Stmt := topS 23
theorem sc_stayed : FnScope ["standing", "offsets", "first", "offset"] ["standing", "offsets"] (defScope s_stayed) := ⟨rfl, rfl, rfl, by decide +kernel, rfl, by decide +kernel, by decide +kernel⟩
theorem ok_stayed {f : Addr} {fd : FuncData} (F : Fun K "_stayed" "_stayed" s_stayed f fd) (T : Txt K mg tp C) : FnOk P w K mg base CX0 1 f fd ["standing", "offsets"] (spStayed K) := by
  refine F.ok sc_stayed (fun vs H Q E h => ?_) (fun cdv A outer s H vs Q E hr h => ?_)
  · obtain ⟨u, v, z, o, rfl, _⟩ := h
    rfl
  · obtain ⟨u, v, z, o, rfl, hu, hv, ho, k⟩ := h
    obtain ⟨a, rfl, ha⟩ := dp_oE hv
    obtain ⟨c, rfl, hc⟩ := dp_zE hu
    refine ⟨_, (pss_cons (ps_set (i := 2) sc_stayed.nd rfl (.inr rfl) (pe_op op_sub (pe_ix ix_tup (pv 0) pe_int (fun _ _ => rfl)) (pe_ix ix_tup (pv 0) pe_int (fun _ _ => rfl))))
      (pss_one (ps_ret (pe_callTy call_tuple_of (by rfl) T.b_tuple (by decide +kernel) (pa_cons (pe_lc (own := [("offset", 3)]) (g := gName 3) (tt := tYes) rfl sc_stayed.nd (pi_tup (pv 1)) (blkOk_by (N := ["standing", "offsets", "first", "offset"]) (sc := defScope s_stayed) (by decide +kernel)) (fun _ _ _ _ _ => (pg_name (i := 3) sc_stayed.nd rfl (.inl rfl))) (fun _ _ _ _ _ => pts_nil) (fun _ _ _ _ _ => (pe_tup (pa_cons pe_bl (pa_cons (pe_op op_add (pv 2) (pv 3)) pa_nil))))) pa_nil))))), ?_⟩
    refine ⟨_, rfl, c, _, _, _, rfl, rfl, hc, atI_nat (j := 1) rfl, _, rfl, c, _, _, _, rfl, rfl, hc, atI_nat (j := 2) rfl, _, _, rfl, rfl, ?_⟩
    refine ⟨_, rfl, a, rfl, ⟨_, ha⟩, fun D hD => ?_⟩
    refine lc_tup (K := K) (a := a) (xs := o.map V.int) (fun i H3 => Same H H3 ∧ ∃ acc, H3 D = some (.lst acc) ∧ AllAt LvAt H3 acc ((o.take i).map fun x => ((false, z.2.1 - z.2.2 + x) : LnV))) ⟨same_new hD, [], upd_same, trivial⟩ (fun i H3 _ q => seqT_same q.1 ha) ?_ ?_
    · rintro i y H3 hi ⟨s3, acc, hacc, hra⟩
      rw [List.getElem?_map] at hi
      obtain ⟨r, hr', rfl⟩ := Option.map_eq_some_iff.mp hi
      refine ⟨rfl, ?_⟩
      refine ⟨_, rfl, _, rfl, _, _, rfl, rfl, (by show 2 ≤ sizeLine; decide), fun p hp => ?_⟩
      obtain ⟨p1, p2, p3, p4⟩ := all_push (f := fun l : LnV => [.bl l.1, .int l.2]) (y := ((false, z.2.1 - z.2.2 + r) : LnV)) (tv := [.bl false, .int (z.2.1 - z.2.2 + r)]) hacc hra hp rfl
      refine ⟨acc, p3, ?_, fun q u e => p4 q u (fun r => by rw [r, hD] at e; cases e) (s3 _ _ e), _, p1, ?_⟩
      · rw [hra.len, List.length_map, List.length_take]
        exact Nat.lt_of_le_of_lt (m := 300) (by omega) (by decide)
      · rw [List.take_add_one, hr', List.map_append]
        exact p2
    · rintro H3 ⟨s3, acc, hacc, hra⟩
      rw [List.length_map, List.take_of_length_le (Nat.le_refl _)] at hra
      refine ⟨D, acc, rfl, .inl ⟨SqL.of hacc, fun l hl => ?_⟩⟩
      exact k _ _ (s3.trans (same_new hl)) (.tup (SqT.of upd_same) (dpLv (lvMono (Tups.new hl) hra)))
/-! ### _with_page -/
def spWithP (K : PySem.W.Frag) : Sp := fun vs H Q _ => ∃ (v : V) (S : Sd), vs = [v] ∧ Dp K H v (dSd S) ∧ S.o.length ≤ 300 ∧ S.st.length ≤ 300 ∧ ∀ v' H', Same H H' → Dp K H' v' (dSd (withP S)) → Q v' H'
abbrev s_with_page : Stmt := topS 24
theorem sc_with_page : FnScope ["side", "settled", "standing", "offsets"] ["side"] (defScope s_with_page) := ⟨rfl, rfl, rfl, by decide +kernel, rfl, by decide +kernel, by decide +kernel⟩
theorem ok_withp {f : Addr} {fd : FuncData} (F : Fun K "_with_page" "_with_page" s_with_page f fd) (T : Txt K mg tp C) (C__stayed : CallOk P w K mg base 1 "_stayed" ["standing", "offsets"] (spStayed K)) : FnOk P w K mg base CX0 2 f fd ["side"] (spWithP K) := by
  refine F.ok sc_with_page (fun vs H Q E h => ?_) (fun cdv A outer s H vs Q E hr h => ?_)
  · obtain ⟨v, S, rfl, _⟩ := h
    rfl
  · obtain ⟨v, S, rfl, hv, ho, hs, k⟩ := h
    obtain ⟨a, x1, x2, x3, rfl, ha, h1, h2, h3⟩ := dp_3E hv
    refine ⟨_, (pss_cons (ps_asg (pv 0) (pg_tup rfl (pgs_cons (pg_name (i := 1) sc_with_page.nd rfl (.inl rfl)) (pgs_cons (pg_name (i := 2) sc_with_page.nd rfl (.inl rfl)) (pgs_cons (pg_name (i := 3) sc_with_page.nd rfl (.inl rfl)) pgs_nil)))))
      (pss_one (ps_ret (pe_tup (pa_cons (pe_op op_catA (pv 1) (pe_cc C__stayed (hr.mono (by decide)) (by rfl) (pa_cons (pv 2) (pa_cons (pv 3) pa_nil)))) (pa_cons (pe_glob (v := .ref tp) (by rfl) T.g_TOP rfl) (pa_cons (pe_tup pa_nil) pa_nil))))))), ?_⟩
    refine ⟨_, rfl, a, _, rfl, ha, rfl, _, _, rfl, _, _, rfl, _, _, rfl, rfl, ?_⟩
    refine ⟨_, rfl, _, rfl, _, rfl, x2, x3, S.z, S.o, rfl, h2, h3, ho, fun y H1 s1 hy => ?_⟩
    refine rd_catA (dp_same s1 _ _ h1) hy (by rw [List.length_map]; omega) (by unfold stayO; rw [List.length_map, List.length_map]; omega) fun y2 H2 s2 hy2 => ?_
    refine ⟨(by show 0 ≤ sizeLine; decide), fun e he => ?_⟩
    have s3 := same_new (o := .tup []) he
    refine ⟨(by show 3 ≤ sizeLine; decide), fun p hp => ?_⟩
    have s4 := same_new (o := .tup [y2, .ref tp, .ref e]) hp
    refine k _ _ (s1.trans (s2.trans (s3.trans s4))) (.tup (SqT.of upd_same) (.cons ?_ (.cons ?_ (.cons ?_ .nil))))
    · have := dp_same (s3.trans s4) _ _ hy2
      unfold dSt withP
      rw [List.map_append]
      exact this
    · exact dp_z (z := (2, 0, 0)) (T.top _)
    · exact dp_oI (o := []) (seqT_same s4 (SqT.of upd_same))
end
end Pa
set_option maxRecDepth 100000
set_option maxHeartbeats 4000000
namespace Pa
open PySem PySem.Spec PyProof.Rows L2 SrtO
theorem lay_map {α : Type} {f : α → PyData} {n : Nat} (h : ∀ x, (f x).canLay0 = true ∧ (f x).depth ≤ n) : ∀ xs : List α, PyData.canLayAll0 (xs.map f) = true ∧ PyData.depthAll (xs.map f) ≤ n
  | [] => ⟨by simp [PyData.canLayAll0], by simp [PyData.depthAll]⟩
  | x :: xs => by
    obtain ⟨h1, h2⟩ := lay_map h xs
    obtain ⟨g1, g2⟩ := h x
    rw [List.map_cons, PyData.canLayAll0, PyData.depthAll, g1, h1]
    exact ⟨rfl, by omega⟩
theorem lay_O (o : List Int) : (dO o).canLay0 = true ∧ (dO o).depth ≤ 1 := by
  obtain ⟨h1, h2⟩ := lay_map (f := PyData.int) (n := 0) (fun x => ⟨by simp [PyData.canLay0], by simp [PyData.depth]⟩) o
  unfold dO
  rw [PyData.canLay0, PyData.depth, h1]
  exact ⟨rfl, by omega⟩
theorem lay_Ln (l : LnV) : (dLn l).canLay0 = true ∧ (dLn l).depth ≤ 1 := by simp [dLn, PyData.canLay0, PyData.canLayAll0, PyData.depth, PyData.depthAll]
theorem lay_St (st : List LnV) : (dSt st).canLay0 = true ∧ (dSt st).depth ≤ 2 := by
  obtain ⟨h1, h2⟩ := lay_map (n := 1) lay_Ln st
  unfold dSt
  rw [PyData.canLay0, PyData.depth, h1]
  exact ⟨rfl, by omega⟩
theorem lay_Z (z : Z3) : (zD z).canLay0 = true ∧ (zD z).depth ≤ 1 := by simp [zD, PyData.canLay0, PyData.canLayAll0, PyData.depth, PyData.depthAll, strOk_word]
theorem shaped_of {d : PyData} {n : Nat} (h : d.canLay0 = true ∧ d.depth ≤ n) (hn : n ≤ 64) : SeqAt.shaped d = true := by
  unfold SeqAt.shaped
  rw [h.1, Bool.true_and]
  exact decide_eq_true (by omega)
def dJ : Option JD → PyData
  | none => .str "parted"
  | some j => .tuple [zD j.z1, dO j.o1, zD j.z2, dO j.o2, dSt j.st]
theorem sh_parted : SeqAt.shaped (.str "parted") = true := by decide +kernel
theorem shJ (j : Option JD) : SeqAt.shaped (dJ j) = true := by
  cases j with
  | none => exact sh_parted
  | some j =>
    refine shaped_of (n := 3) ?_ (by decide)
    unfold dJ
    rw [PyData.canLay0, PyData.depth]
    simp only [PyData.canLayAll0, PyData.depthAll, (lay_Z j.z1).1, (lay_O j.o1).1, (lay_Z j.z2).1, (lay_O j.o2).1, (lay_St j.st).1, Bool.and_true, Bool.and_self]
    refine ⟨trivial, ?_⟩
    have a1 := (lay_Z j.z1).2
    have a2 := (lay_O j.o1).2
    have a3 := (lay_Z j.z2).2
    have a4 := (lay_O j.o2).2
    have a5 := (lay_St j.st).2
    omega
theorem eqv_J (j : Option JD) : PyData.eqv (dJ j) (.str "parted") = j.isNone := by
  cases j with
  | none => exact eqv_self sh_parted
  | some j => show PyData.eqv (.tuple _) (.str _) = false; rw [PyData.eqv]
theorem e_bb (x y : Bool) : PyData.eqv (.bool x) (.bool y) = (x == y) := by rw [PyData.eqv]
theorem eqv_Ln (a b : LnV) : PyData.eqv (dLn a) (dLn b) = decide (a = b) := by
  unfold dLn
  rw [e_tt, e_cons, e_cons, e_nil, Bool.and_true, e_bb, e_ii]
  obtain ⟨a1, a2⟩ := a
  obtain ⟨b1, b2⟩ := b
  rw [Bool.eq_iff_iff]
  simp
theorem eqv_Sts : ∀ a b : List LnV, PyData.eqvAll (a.map dLn) (b.map dLn) = decide (a = b)
  | [], [] => by rw [List.map_nil, e_nil]; rfl
  | [], y :: b => by rw [List.map_nil, List.map_cons, e_nc]; simp
  | x :: a, [] => by rw [List.map_nil, List.map_cons, e_cn]; simp
  | x :: a, y :: b => by
    rw [List.map_cons, List.map_cons, e_cons, eqv_Ln, eqv_Sts a b, Bool.eq_iff_iff]
    simp
theorem eqv_St (a b : List LnV) : PyData.eqv (dSt a) (dSt b) = decide (a = b) := by
  unfold dSt
  rw [e_tt, eqv_Sts]
section
variable {K : PySem.W.Frag} {H : Hp}
theorem cutA_to {xs : List V} {n : Nat} (h : n ≤ xs.length) : cutV xs none (some (n : Int)) = xs.take n := cutV_to h
theorem dpAll_take : ∀ {xs : List V} {ds : List PyData} (n : Nat), DpAll K H xs ds → DpAll K H (xs.take n) (ds.take n)
  | _, _, 0, _ => by simpa using DpAll.nil
  | _, _, n + 1, .nil => by simpa using DpAll.nil
  | _, _, n + 1, .cons a c => by simpa using DpAll.cons a (dpAll_take n c)
theorem dpAll_drop : ∀ {xs : List V} {ds : List PyData} (n : Nat), DpAll K H xs ds → DpAll K H (xs.drop n) (ds.drop n)
  | _, _, 0, h => by simpa using h
  | _, _, n + 1, .nil => by simpa using DpAll.nil
  | _, _, n + 1, .cons a c => by simpa using dpAll_drop n c
theorem rd_to {x : V} {ds : List PyData} {n : Nat} {Q : VK} (hx : Dp K H x (.tuple ds)) (hn : n ≤ ds.length) (k : ∀ v H', Same H H' → Dp K H' v (.tuple (ds.take n)) → Q v H') : rSlA K x none (some (n : Int)) H Q := by
  obtain ⟨a, xs, rfl, h1, h2⟩ := dp_tupE hx
  have e1 := dpAll_len h2
  refine ⟨a, xs, rfl, h1, fun hw => ?_, fun _ p hp => ?_⟩
  · have hw2 := hw.2
    rw [HT.sIx_nat] at hw2
    refine k _ H (Same.refl H) ?_
    rw [List.take_of_length_le (by omega)]
    exact hx
  · have s := same_new (o := .tup (cutV xs none (some (n : Int)))) hp
    refine k _ _ s (.tup (SqT.of upd_same) ?_)
    rw [cutV_to (by omega)]
    exact dpAll_take n (dpAll_same (by rw [cutV_to (by omega)] at s; exact s) _ _ h2)
theorem rd_from {x : V} {ds : List PyData} {n : Nat} {Q : VK} (hx : Dp K H x (.tuple ds)) (hn : n ≤ ds.length) (k : ∀ v H', Same H H' → Dp K H' v (.tuple (ds.drop n)) → Q v H') : rSlA K x (some (n : Int)) none H Q := by
  obtain ⟨a, xs, rfl, h1, h2⟩ := dp_tupE hx
  have e1 := dpAll_len h2
  refine ⟨a, xs, rfl, h1, fun hw => ?_, fun _ p hp => ?_⟩
  · have hw1 := hw.1
    rw [HT.sIx_nat] at hw1
    refine k _ H (Same.refl H) ?_
    have : ds.drop n = ds := by
      by_cases h0 : n = 0
      · subst h0; rfl
      · have : ds.length = 0 := by omega
        rw [List.eq_nil_of_length_eq_zero this]; simp
    rw [this]
    exact hx
  · have s := same_new (o := .tup (cutV xs (some (n : Int)) none)) hp
    refine k _ _ s (.tup (SqT.of upd_same) ?_)
    rw [cutV_from (by omega)]
    exact dpAll_drop n (dpAll_same (by rw [cutV_from (by omega)] at s; exact s) _ _ h2)
theorem dp_JE {v : V} {j : JD} (h : Dp K H v (dJ (some j))) : ∃ a x1 x2 x3 x4 x5, v = .ref a ∧ SqT K H a [x1, x2, x3, x4, x5] ∧ Dp K H x1 (zD j.z1) ∧ Dp K H x2 (dO j.o1) ∧ Dp K H x3 (zD j.z2) ∧ Dp K H x4 (dO j.o2) ∧ Dp K H x5 (dSt j.st) := by
  obtain ⟨a, xs, e, h1, h2⟩ := dp_tupE h
  cases h2 with
  | cons a1 h2 =>
    cases h2 with
    | cons a2 h2 =>
      cases h2 with
      | cons a3 h2 =>
        cases h2 with
        | cons a4 h2 =>
          cases h2 with
          | cons a5 h2 =>
            cases h2
            exact ⟨a, _, _, _, _, _, e, h1, a1, a2, a3, a4, a5⟩
theorem dp_seq {v : V} {ds : List PyData} (h : Dp K H v (.tuple ds)) : ∃ a xs, v = .ref a ∧ SqT K H a xs ∧ xs.length = ds.length := by
  obtain ⟨a, xs, e, h1, h2⟩ := dp_tupE h
  exact ⟨a, xs, e, h1, dpAll_len h2⟩
end
theorem stpB {i : Nat} {b b' : Bool} {σ : L2.St} {H : Hp} {R : L2.St → Hp → Prop} (e : b = b') (h : gName i (V.bl b') σ H R) : gName i (V.bl b) σ H R := by rw [e]; exact h
/-- small -/
structure SmS (S : Sd) : Prop where
  o : S.o.length ≤ 300
  st : S.st.length ≤ 300
section
variable {P : Program} {w : World} {K : PySem.W.Frag} {mg : Str → Option Value} {base : Heap} {tp C CS : Addr}
/-! ### _sides -/
def spSides (K : PySem.W.Frag) : Sp := fun vs H Q _ => ∃ (v : V) (j : JD), vs = [v] ∧ Dp K H v (dJ (some j)) ∧ ∀ p H' x y, Same H H' → SqT K H' p [x, y] → Dp K H' x (dSd (side1 j)) → Dp K H' y (dSd (side2 j)) → Q (.ref p) H'
abbrev s_sides : Stmt := topS 21
theorem sc_sides : FnScope ["joint", "standing_one", "offsets_one", "standing_two", "offsets_two", "settled", "is_first", "one", "two"] ["joint"] (defScope s_sides) := ⟨rfl, rfl, rfl, by decide +kernel, rfl, by decide +kernel, by decide +kernel⟩
theorem ok_sides {f : Addr} {fd : FuncData} (F : Fun K "_sides" "_sides" s_sides f fd) (T : Txt K mg tp C) : FnOk P w K mg base CX0 1 f fd ["joint"] (spSides K) := by
  refine F.ok sc_sides (fun vs H Q E h => ?_) (fun cdv A outer s H vs Q E hr h => ?_)
  · obtain ⟨v, j, rfl, _⟩ := h
    rfl
  · obtain ⟨v, j, rfl, hv, k⟩ := h
    obtain ⟨a, x1, x2, x3, x4, x5, rfl, ha, h1, h2, h3, h4, h5⟩ := dp_JE hv
    refine ⟨_, (pss_cons (ps_asg (pv 0) (pg_tup rfl (pgs_cons (pg_name (i := 1) sc_sides.nd rfl (.inl rfl)) (pgs_cons (pg_name (i := 2) sc_sides.nd rfl (.inl rfl)) (pgs_cons (pg_name (i := 3) sc_sides.nd rfl (.inl rfl)) (pgs_cons (pg_name (i := 4) sc_sides.nd rfl (.inl rfl)) (pgs_cons (pg_name (i := 5) sc_sides.nd rfl (.inl rfl)) pgs_nil)))))))
      (pss_cons (ps_set (i := 6) sc_sides.nd rfl (.inl rfl) (pe_cmpR op_lt (pe_callB call_len_seq (by rfl) T.b_len PySem.boot_len (pa_cons (pv 2) pa_nil)) (pe_callB call_len_seq (by rfl) T.b_len PySem.boot_len (pa_cons (pv 4) pa_nil)) (nomark _)))
      (pss_cons (ps_set (i := 7) sc_sides.nd rfl (.inl rfl) (pe_tup (pa_cons (pe_ifExp (pt_val (pv 6)) (pv 5) (pe_tup pa_nil)) (pa_cons (pv 1) (pa_cons (pv 2) pa_nil)))))
      (pss_cons (ps_set (i := 8) sc_sides.nd rfl (.inl rfl) (pe_tup (pa_cons (pe_ifExp (pt_val (pv 6)) (pe_tup pa_nil) (pv 5)) (pa_cons (pv 3) (pa_cons (pv 4) pa_nil)))))
      (pss_one (ps_ret (pe_tup (pa_cons (pv 7) (pa_cons (pv 8) pa_nil))))))))), ?_⟩
    obtain ⟨a2, xs2, rfl, hs2, l2⟩ := dp_seq h2
    obtain ⟨a4, xs4, rfl, hs4, l4⟩ := dp_seq h4
    rw [List.length_map] at l2 l4
    refine ⟨_, rfl, a, _, rfl, ha, rfl, _, _, rfl, _, _, rfl, _, _, rfl, _, _, rfl, _, _, rfl, rfl, ?_⟩
    refine ⟨_, rfl, a2, xs2, rfl, .inr hs2, _, rfl, a4, xs4, rfl, .inr hs4, _, _, rfl, rfl, ?_⟩
    rw [l2, l4]
    have e3 : (3 : Nat) ≤ sizeLine := by decide
    have e2 : (2 : Nat) ≤ sizeLine := by decide
    by_cases hlt : j.o1.length < j.o2.length
    · have hd : decide ((j.o1.length : Int) < (j.o2.length : Int)) = true := decide_eq_true (by omega)
      refine stpB hd ?_
      refine ⟨_, rfl, _, rfl, iteT ⟨_, rfl, _, rfl, _, rfl, e3, fun p hp => ?_⟩⟩
      have s1 := same_new (o := .tup [x5, x1, .ref a2]) hp
      refine ⟨_, rfl, _, rfl, iteT ⟨Nat.zero_le _, fun e he => ⟨_, rfl, _, rfl, e3, fun q hq => ?_⟩⟩⟩
      have s2 := same_new (o := .tup []) he
      have s3 := same_new (o := .tup [.ref e, x3, .ref a4]) hq
      refine ⟨_, rfl, _, rfl, e2, fun r hr' => ?_⟩
      have s4 := same_new (o := .tup [.ref p, .ref q]) hr'
      have sA := s1.trans (s2.trans (s3.trans s4))
      refine k r _ _ _ sA (SqT.of upd_same) (.tup (SqT.of ((s2.trans (s3.trans s4)) _ _ upd_same)) (.cons ?_ (.cons (dp_same sA _ _ h1) (.cons (dp_same sA _ _ h2) .nil)))) (.tup (SqT.of (s4 _ _ upd_same)) (.cons ?_ (.cons (dp_same sA _ _ h3) (.cons (dp_same sA _ _ h4) .nil))))
      · show Dp K _ x5 (dSt (if j.o1.length < j.o2.length then j.st else []))
        rw [if_pos hlt]
        exact dp_same sA _ _ h5
      · show Dp K _ (.ref e) (dSt (if j.o1.length < j.o2.length then [] else j.st))
        rw [if_pos hlt]
        exact .tup (SqT.of ((s3.trans s4) _ _ upd_same)) .nil
    · have hd : decide ((j.o1.length : Int) < (j.o2.length : Int)) = false := decide_eq_false (by omega)
      refine stpB hd ?_
      refine ⟨_, rfl, _, rfl, iteF ⟨Nat.zero_le _, fun e he => ⟨_, rfl, _, rfl, e3, fun p hp => ?_⟩⟩⟩
      have s1 := same_new (o := .tup []) he
      have s2 := same_new (o := .tup [.ref e, x1, .ref a2]) hp
      refine ⟨_, rfl, _, rfl, iteF ⟨_, rfl, _, rfl, _, rfl, e3, fun q hq => ?_⟩⟩
      have s3 := same_new (o := .tup [x5, x3, .ref a4]) hq
      refine ⟨_, rfl, _, rfl, e2, fun r hr' => ?_⟩
      have s4 := same_new (o := .tup [.ref p, .ref q]) hr'
      have sA := s1.trans (s2.trans (s3.trans s4))
      refine k r _ _ _ sA (SqT.of upd_same) (.tup (SqT.of ((s3.trans s4) _ _ upd_same)) (.cons ?_ (.cons (dp_same sA _ _ h1) (.cons (dp_same sA _ _ h2) .nil)))) (.tup (SqT.of (s4 _ _ upd_same)) (.cons ?_ (.cons (dp_same sA _ _ h3) (.cons (dp_same sA _ _ h4) .nil))))
      · show Dp K _ (.ref e) (dSt (if j.o1.length < j.o2.length then j.st else []))
        rw [if_neg hlt]
        exact .tup (SqT.of ((s2.trans (s3.trans s4)) _ _ upd_same)) .nil
      · show Dp K _ x5 (dSt (if j.o1.length < j.o2.length then [] else j.st))
        rw [if_neg hlt]
        exact dp_same sA _ _ h5
end
end Pa
set_option maxRecDepth 100000
set_option maxHeartbeats 4000000
namespace Pa
open PySem PySem.Spec PyProof.Rows L2 SrtO
theorem rd_np {σ : L2.St} {H : Hp} {Q : Option Int → Hp → Prop} (h : Q none H) : tNoPart σ H Q := h
theorem dSt_app (a b : List LnV) : dSt (a ++ b) = .tuple (a.map dLn ++ b.map dLn) := by unfold dSt; rw [List.map_append]
section
variable {P : Program} {w : World} {K : PySem.W.Frag} {mg : Str → Option Value} {base : Heap} {tp C CS : Addr}
/-! ### _joined -/
def spJoined (K : PySem.W.Frag) : Sp := fun vs H Q _ => ∃ (u v : V) (a b : Sd), vs = [u, v] ∧ Dp K H u (dSd a) ∧ Dp K H v (dSd b) ∧ SmS a ∧ SmS b ∧ ∀ v' H', Same H H' → Dp K H' v' (dJ (joinS a b)) → Q v' H'
abbrev s_joined : Stmt := topS 22
theorem sc_joined : FnScope ["one", "two", "many"] ["one", "two"] (defScope s_joined) := ⟨rfl, rfl, rfl, by decide +kernel, rfl, by decide +kernel, by decide +kernel⟩
theorem ok_joined {f : Addr} {fd : FuncData} (F : Fun K "_joined" "_joined" s_joined f fd) (T : Txt K mg tp C) (T3 : Txt3 mg) : FnOk P w K mg base CX0 1 f fd ["one", "two"] (spJoined K) := by
  refine F.ok sc_joined (fun vs H Q E h => ?_) (fun cdv A outer s H vs Q E hr h => ?_)
  · obtain ⟨u, v, a, b, rfl, _⟩ := h
    rfl
  · obtain ⟨u, v, a, b, rfl, hu, hv, sa, sb, k⟩ := h
    obtain ⟨p1, x1, x2, x3, rfl, hp1, hx1, hx2, hx3⟩ := dp_3E hu
    obtain ⟨p2, y1, y2, y3, rfl, hp2, hy1, hy2, hy3⟩ := dp_3E hv
    obtain ⟨tk, hPT⟩ := T3.g_PARTED
    refine ⟨_, (pss_cons (ps_set (i := 2) sc_joined.nd rfl (.inl rfl) (pe_pure (pe_callB (call_min2 rfl) (by rfl) T.b_min (by decide +kernel) (pa_cons (pe_callB call_len_seq (by rfl) T.b_len PySem.boot_len (pa_cons (pe_ix ix_tup (pv 0) pe_int (fun _ _ => rfl)) pa_nil)) (pa_cons (pe_callB call_len_seq (by rfl) T.b_len PySem.boot_len (pa_cons (pe_ix ix_tup (pv 1) pe_int (fun _ _ => rfl)) pa_nil)) pa_nil)))))
      (pss_cons (ps_if (pt_cmpR (op_neD hr.units) (pe_slice sl_tupA (pe_ix ix_tup (pv 0) pe_int (fun _ _ => rfl)) po_none (po_some (pv 2))) (pe_slice sl_tupA (pe_ix ix_tup (pv 1) pe_int (fun _ _ => rfl)) po_none (po_some (pv 2))) (nomark _))
        (pss_one (ps_ret (pe_glob (v := .str "parted") (by rfl) hPT ⟨_, rfl⟩)))
        pss_nil)
      (pss_one (ps_ret (pe_tup (pa_cons (pe_ix ix_tup (pv 0) pe_int (fun _ _ => rfl)) (pa_cons (pe_ix ix_tup (pv 0) pe_int (fun _ _ => rfl)) (pa_cons (pe_ix ix_tup (pv 1) pe_int (fun _ _ => rfl)) (pa_cons (pe_ix ix_tup (pv 1) pe_int (fun _ _ => rfl)) (pa_cons (pe_op op_catA (pe_slice sl_tupA (pe_ix ix_tup (pv 0) pe_int (fun _ _ => rfl)) (po_some (pv 2)) po_none) (pe_slice sl_tupA (pe_ix ix_tup (pv 1) pe_int (fun _ _ => rfl)) (po_some (pv 2)) po_none)) pa_nil)))))))))), ?_⟩
    obtain ⟨q1, xs1, rfl, hq1, l1⟩ := dp_seq hx1
    obtain ⟨q2, ys1, rfl, hq2, l2⟩ := dp_seq hy1
    rw [List.length_map] at l1 l2
    have hm1 : mmin a.st b.st ≤ a.st.length := Nat.min_le_left _ _
    have hm2 : mmin a.st b.st ≤ b.st.length := Nat.min_le_right _ _
    have em : (if ((ys1.length : Nat) : Int) < ((xs1.length : Nat) : Int) then ((ys1.length : Nat) : Int) else ((xs1.length : Nat) : Int)) = ((mmin a.st b.st : Nat) : Int) := by
      rw [l1, l2]
      unfold mmin
      split <;> omega
    refine ⟨.int ((mmin a.st b.st : Nat) : Int), fun Q' hQ => ⟨_, rfl, p1, _, _, _, rfl, rfl, hp1, atI_nat (j := 0) rfl, q1, xs1, rfl, .inr hq1, _, rfl, p2, _, _, _, rfl, rfl, hp2, atI_nat (j := 0) rfl, q2, ys1, rfl, .inr hq2, _, _, rfl, ?_⟩, ?_⟩
    · rw [← em] at hQ
      exact hQ
    refine ⟨_, rfl, p1, _, _, _, rfl, rfl, hp1, atI_nat (j := 0) rfl, _, rfl, _, rfl, ?_⟩
    refine rd_to hx1 (by rw [List.length_map]; exact hm1) fun u1 H1 s1 hu1 => ?_
    refine ⟨_, rfl, p2, _, _, _, rfl, rfl, seqT_same s1 hp2, atI_nat (j := 0) rfl, _, rfl, _, rfl, ?_⟩
    refine rd_to (dp_same s1 _ _ hy1) (by rw [List.length_map]; exact hm2) fun u2 H2 s2 hu2 => ?_
    rw [← List.map_take] at hu1 hu2
    refine ⟨dSt (a.st.take (mmin a.st b.st)), dSt (b.st.take (mmin a.st b.st)), dp_same s2 _ _ hu1, hu2, shaped_of (lay_St _) (by decide), shaped_of (lay_St _) (by decide), _, rfl, ?_⟩
    rw [eqv_St]
    have s12 := s1.trans s2
    by_cases he : a.st.take (mmin a.st b.st) = b.st.take (mmin a.st b.st)
    · rw [decide_eq_true he]
      refine iteF ?_
      refine ⟨_, rfl, p1, _, _, _, rfl, rfl, seqT_same s12 hp1, atI_nat (j := 1) rfl, ?_⟩
      refine ⟨_, rfl, p1, _, _, _, rfl, rfl, seqT_same s12 hp1, atI_nat (j := 2) rfl, ?_⟩
      refine ⟨_, rfl, p2, _, _, _, rfl, rfl, seqT_same s12 hp2, atI_nat (j := 1) rfl, ?_⟩
      refine ⟨_, rfl, p2, _, _, _, rfl, rfl, seqT_same s12 hp2, atI_nat (j := 2) rfl, ?_⟩
      refine ⟨_, rfl, p1, _, _, _, rfl, rfl, seqT_same s12 hp1, atI_nat (j := 0) rfl, _, rfl, _, rfl, ?_⟩
      refine rd_np ?_
      refine rd_from (dp_same s12 _ _ hx1) (by rw [List.length_map]; exact hm1) fun u3 H3 s3 hu3 => ?_
      have s13 := s12.trans s3
      refine ⟨_, rfl, p2, _, _, _, rfl, rfl, seqT_same s13 hp2, atI_nat (j := 0) rfl, _, rfl, _, rfl, ?_⟩
      refine rd_np ?_
      refine rd_from (dp_same s13 _ _ hy1) (by rw [List.length_map]; exact hm2) fun u4 H4 s4 hu4 => ?_
      have la := sa.st
      have lb := sb.st
      refine rd_catA (dp_same s4 _ _ hu3) hu4 (by rw [List.length_drop, List.length_map]; omega) (by rw [List.length_drop, List.length_map]; omega) fun u5 H5 s5 hu5 => ?_
      rw [← List.map_drop, ← List.map_drop] at hu5
      refine ⟨(by show 5 ≤ sizeLine; decide), fun r hr' => ?_⟩
      have s6 := same_new (o := .tup [x2, x3, y2, y3, u5]) hr'
      have sZ := s13.trans (s4.trans (s5.trans s6))
      refine k _ _ sZ ?_
      unfold joinS
      rw [if_pos he]
      refine .tup (SqT.of upd_same) (.cons (dp_same sZ _ _ hx2) (.cons (dp_same sZ _ _ hx3) (.cons (dp_same sZ _ _ hy2) (.cons (dp_same sZ _ _ hy3) (.cons ?_ .nil)))))
      rw [dSt_app]
      exact dp_same s6 _ _ hu5
    · rw [decide_eq_false he]
      refine iteT ?_
      refine k _ _ s12 ?_
      unfold joinS
      rw [if_neg he]
      exact .str _
/-! ### joint_begin, joint_page -/
def spBegin0 (K : PySem.W.Frag) : Sp := fun vs H Q _ => vs = [] ∧ ∀ v' H', Same H H' → Dp K H' v' (dJ (some ⟨(2, 0, 0), [], (2, 0, 0), [], []⟩)) → Q v' H'
abbrev sjoint_begin : Stmt := topS 17
theorem scjoint_begin : FnScope [] [] (defScope sjoint_begin) := ⟨rfl, rfl, rfl, by decide +kernel, rfl, by decide +kernel, by decide +kernel⟩
theorem ok_jbegin {f : Addr} {fd : FuncData} (F : Fun K "joint_begin" "joint_begin" sjoint_begin f fd) (T : Txt K mg tp C) : FnOk P w K mg base CX0 1 f fd [] (spBegin0 K) := by
  refine F.ok scjoint_begin (fun vs H Q E h => ?_) (fun cdv A outer s H vs Q E hr h => ?_)
  · obtain ⟨rfl, _⟩ := h
    rfl
  · obtain ⟨rfl, k⟩ := h
    refine ⟨_, (pss_one (ps_ret (pe_tup (pa_cons (pe_glob (v := .ref tp) (by rfl) T.g_TOP rfl) (pa_cons (pe_tup pa_nil) (pa_cons (pe_glob (v := .ref tp) (by rfl) T.g_TOP rfl) (pa_cons (pe_tup pa_nil) (pa_cons (pe_tup pa_nil) pa_nil)))))))), ?_⟩
    refine ⟨Nat.zero_le _, fun p hp => ?_⟩
    have s1 := same_new (o := .tup []) hp
    have h1 : (upd H p (.tup [])) p = some (.tup []) := upd_same
    generalize upd H p (.tup []) = H1 at s1 h1
    refine ⟨Nat.zero_le _, fun q hq => ?_⟩
    have s2 := same_new (o := .tup []) hq
    have h2 : (upd H1 q (.tup [])) q = some (.tup []) := upd_same
    generalize upd H1 q (.tup []) = H2 at s2 h2
    refine ⟨Nat.zero_le _, fun r hr' => ?_⟩
    have s3 := same_new (o := .tup []) hr'
    have h3 : (upd H2 r (.tup [])) r = some (.tup []) := upd_same
    generalize upd H2 r (.tup []) = H3 at s3 h3
    refine ⟨(by show 5 ≤ sizeLine; decide), fun t ht => ?_⟩
    have s4 := same_new (o := .tup [.ref tp, .ref p, .ref tp, .ref q, .ref r]) ht
    exact k _ _ (s1.trans (s2.trans (s3.trans s4))) (.tup (SqT.of upd_same) (.cons (dp_z (z := (2, 0, 0)) (T.top _)) (.cons (dp_oI (o := []) (SqT.of (s4 _ _ (s3 _ _ (s2 _ _ h1))))) (.cons (dp_z (z := (2, 0, 0)) (T.top _)) (.cons (dp_oI (o := []) (SqT.of (s4 _ _ (s3 _ _ h2)))) (.cons (.tup (SqT.of (s4 _ _ h3)) .nil) .nil))))))
def SmO (j : Option JD) : Prop := ∀ x, j = some x → SmS (side1 x) ∧ SmS (side2 x)
def spPageJ (K : PySem.W.Frag) : Sp := fun vs H Q _ => ∃ (v : V) (j : Option JD) (f s : Bool), vs = [v, .bl f, .bl s] ∧ Dp K H v (dJ j) ∧ (∀ x, j = some x → (SmS (side1 x) ∧ SmS (side2 x)) ∧ SmS (withP (side1 x)) ∧ SmS (withP (side2 x))) ∧ ∀ v' H', Same H H' → Dp K H' v' (dJ (pageJ j f s)) → Q v' H'
abbrev sjoint_page : Stmt := topS 18
theorem scjoint_page : FnScope ["joint", "first", "second", "one", "two"] ["joint", "first", "second"] (defScope sjoint_page) := ⟨rfl, rfl, rfl, by decide +kernel, rfl, by decide +kernel, by decide +kernel⟩
theorem ok_jpage {f : Addr} {fd : FuncData} (F : Fun K "joint_page" "joint_page" sjoint_page f fd) (T : Txt K mg tp C) (T3 : Txt3 mg) (C__sides : CallOk P w K mg base 1 "_sides" ["joint"] (spSides K)) (C__joined : CallOk P w K mg base 1 "_joined" ["one", "two"] (spJoined K))
    (C__with_page : CallOk P w K mg base 2 "_with_page" ["side"] (spWithP K)) : FnOk P w K mg base CX0 3 f fd ["joint", "first", "second"] (spPageJ K) := by
  refine F.ok scjoint_page (fun vs H Q E h => ?_) (fun cdv A outer s H vs Q E hr h => ?_)
  · obtain ⟨v, j, f, s, rfl, _⟩ := h
    rfl
  · obtain ⟨v, j, fi, se, rfl, hv, sm, k⟩ := h
    obtain ⟨tk, hPT⟩ := T3.g_PARTED
    refine ⟨_, (pss_cons (ps_if (pt_cmpR (op_eqD hr.units) (pv 0) (pe_glob (v := .str "parted") (by rfl) hPT ⟨_, rfl⟩) (nomark _))
        (pss_one (ps_ret (pe_glob (v := .str "parted") (by rfl) hPT ⟨_, rfl⟩)))
        pss_nil)
      (pss_cons (ps_asg (pe_cc C__sides (hr.mono (by decide)) (by rfl) (pa_cons (pv 0) pa_nil)) (pg_tup rfl (pgs_cons (pg_name (i := 3) scjoint_page.nd rfl (.inl rfl)) (pgs_cons (pg_name (i := 4) scjoint_page.nd rfl (.inl rfl)) pgs_nil))))
      (pss_one (ps_ret (pe_cc C__joined (hr.mono (by decide)) (by rfl) (pa_cons (pe_by (pe_ifExp (pt_val (pv 1)) (pe_cc C__with_page (hr.mono (by decide)) (by rfl) (pa_cons (pv 3) pa_nil)) (pv 3))) (pa_cons (pe_by (pe_ifExp (pt_val (pv 2)) (pe_cc C__with_page (hr.mono (by decide)) (by rfl) (pa_cons (pv 4) pa_nil)) (pv 4))) pa_nil))))))), ?_⟩
    refine ⟨_, rfl, dJ j, .str "parted", hv, .str _, shJ j, sh_parted, _, rfl, ?_⟩
    rw [eqv_J]
    cases j with
    | none =>
      refine iteT ?_
      exact k _ _ (Same.refl H) (.str _)
    | some j =>
      refine iteF ?_
      obtain ⟨⟨m1, m2⟩, m3, m4⟩ := sm j rfl
      refine ⟨_, rfl, v, j, rfl, hv, fun p H1 x y s1 hp hx hy => ?_⟩
      refine ⟨p, _, rfl, hp, rfl, _, _, rfl, _, _, rfl, rfl, ?_⟩
      refine ⟨fun v' H' => Same H1 H' ∧ Dp K H' v' (dSd (if fi = true then withP (side1 j) else side1 j)), fun Q' hQ => ?_, ?_⟩
      · rcases twoB fi with hf | hf
        · refine ⟨_, rfl, _, rfl, iteP hf ⟨_, rfl, x, side1 j, rfl, hx, m1.o, m1.st, fun v' H' s' hv' => hQ _ _ ⟨s', ?_⟩⟩⟩
          rw [if_pos hf]
          exact hv'
        · refine ⟨_, rfl, _, rfl, iteQ (neT hf) ⟨_, rfl, hQ _ _ ⟨Same.refl _, ?_⟩⟩⟩
          rw [if_neg (neT hf)]
          exact hx
      rintro v1 H2 ⟨s2, hv1⟩
      refine ⟨fun v' H' => Same H2 H' ∧ Dp K H' v' (dSd (if se = true then withP (side2 j) else side2 j)), fun Q' hQ => ?_, ?_⟩
      · rcases twoB se with hf | hf
        · refine ⟨_, rfl, _, rfl, iteP hf ⟨_, rfl, y, side2 j, rfl, dp_same s2 _ _ hy, m2.o, m2.st, fun v' H' s' hv' => hQ _ _ ⟨s', ?_⟩⟩⟩
          rw [if_pos hf]
          exact hv'
        · refine ⟨_, rfl, _, rfl, iteQ (neT hf) ⟨_, rfl, hQ _ _ ⟨Same.refl _, ?_⟩⟩⟩
          rw [if_neg (neT hf)]
          exact dp_same s2 _ _ hy
      rintro v2 H3 ⟨s3, hv2⟩
      refine ⟨v1, v2, _, _, rfl, dp_same s3 _ _ hv1, hv2, ?_, ?_, fun v' H' s' hv' => k v' H' (s1.trans (s2.trans (s3.trans s'))) hv'⟩
      · split
        · exact m3
        · exact m1
      · split
        · exact m4
        · exact m2
end
end Pa
set_option maxRecDepth 100000
set_option maxHeartbeats 4000000
namespace Pa
open PySem PySem.Spec PyProof.Rows L2 SrtO
/-- o.m(e, .., k = v, ..): n values and the keywords' values, put into the parameters' order by gV -/
def tMethK (C : Addr) (m : Str) (n j : Nat) (sp : Sp) (gV : List V → List V → List V) (ta : TE) (t tk : TA) : TE :=
  fun σ H Q => ta σ H fun x H1 => ∃ a dx fs, x = .ref a ∧ H1 a = some (.ins C dx fs) ∧ fs.lookup m = none ∧
    t σ H1 fun vs H2 => tk σ H2 fun zs H3 => vs.length = n ∧ zs.length = j ∧ sp (gV (x :: vs) zs) H3 Q E0
section
variable {X : Cx} {k n : Nat} {f C : Addr} {fd : FuncData} {ps ks : List Str} {sp : Sp}
variable {m : Str} {apos pos : Pos} {o e : Expr} {es : List Expr} {kws : List Keyword} {ta : TE} {t tk : TA}
variable {g : List Value → List Value → List Value} {gV : List V → List V → List V}
theorem pe_methK {pl : Sem Bool} (he : PE X o ta) (c : Cls X.K C) (hm : Meth X.K C m f)
    (F : FnOk X.prog X.w X.K X.mg X.base CX0 k f fd ps sp) (hr : Room k X.A)
    (hb : KBn X.K fd ps (n + 1) ks g gV) (ha : PA X (e :: es) t) (hkw : PK X kws tk)
    (hall : (backToKw pos (keywordEach kws X.env)).all (·.1.isSome) = true := by rfl)
    (hks : (backToKw pos (keywordEach kws X.env)).filterMap (·.1) = ks := by rfl)
    (hst : starEach (e :: es) X.env = (false, eval e X.env) :: starEach es X.env := by rfl)
    (hpl : ((backTo pos (starEach (e :: es) X.env)).any (·.1) ||
      (backToKw pos (keywordEach kws X.env)).any (·.1.isNone)) = false := by rfl)
    (ht : eval (.Call (.Attribute o m apos) (e :: es) kws pos) X.env = (do
      let z ← eval o X.env
      standAt apos.atName
      let (f, first) ← holding [z] (getMethod z m pl)
      callWith pos f first (backTo pos (starEach (e :: es) X.env))
        (backToKw pos (keywordEach kws X.env))) := by rfl) :
    PE X (.Call (.Attribute o m apos) (e :: es) kws pos) (tMethK C m n ks.length sp gV ta t tk) := by
  constructor
  intro pins s σ H Q I h
  refine PySem.W.methodCall_KW (pl := pl) (thn (he.run pins s σ H _ I h) ?_) ht
  rintro u s1 ⟨x, H1, I1, rx, a, dx, fs, ex, ea, l, q⟩
  subst ex
  cases (show u = Value.ref a from rx)
  refine getmeth_ok I1 ea c hm l ?_
  refine PySem.W.callWith_KW (first := [.ref a]) (h₀ := X.base) I.ok.mod.kin hm.kp hall ?_ hpl hst
  refine thn (ha.run pos pins s1 σ H1 _ I1 q) ?_
  rintro us s2 ⟨vs, H2, I2, r, q2⟩
  refine thn (hkw.run pos pins s2 σ H2 _ I2 q2) ?_
  rintro ws s3 ⟨zs, H3, I3, rz, l1, l2, q3⟩
  refine ⟨I3.kIn, ?_⟩
  rw [hks]
  have rr : Vals (.ref a :: vs) (.ref a :: us) := .cons rfl r
  exact run_fnN (us := .ref a :: us) (vs := .ref a :: vs) F hr hb pass0 I3 rr rz (congrArg (· + 1) l1) l2 q3
end

theorem mk_facts {C x dx rl : Addr} {H : Hp} {H1 : Hp} (nx : H x = none) (ndx : H dx = none) (ka : ∀ a o, a ≠ x → (upd (upd H dx (.own x)) x (.ins C dx [])) a = some o → H1 a = some o) (hr : (upd (upd H dx (.own x)) x (.ins C dx [])) rl = none) : Same H H1 ∧ H rl = none := by
  refine ⟨fun q o e => ka q o (fun r => by rw [r, nx] at e; cases e) (by
    rw [upd_ne (ne_of_none e nx), upd_ne (ne_of_none e ndx)]
    exact e), ?_⟩
  cases e : H rl with
  | none => rfl
  | some o =>
    have nr : rl ≠ x := fun r => by rw [r, nx] at e; cases e
    have nd : rl ≠ dx := fun r => by rw [r, ndx] at e; cases e
    rw [upd_ne nr, upd_ne nd, e] at hr
    cases hr

/-! ### C.m(..), m a staticmethod -/
structure SMet (K : PySem.W.Frag) (C : Addr) (mc : Value) (m : Str) (p g : Addr) : Prop where
  at_ : PySem.W.findCls K (.ref C) mc m = some (.get (.builtin "staticmethod.__get__") (.ref p) .none (.ref C))
  rc : ∃ rest, PySem.W.recIn K p "staticmethod" = some (.ref g :: rest)
  kp : PySem.W.keepIn K (.ref g) = true
def tSMeth (C : Addr) (sp : Sp) (E : XK) (ta : TE) (t : TA) : TE := fun σ H Q => ta σ H fun x H1 => x = .ref C ∧ t σ H1 fun vs H2 => sp vs H2 Q E
section
variable {X : Cx} {CX : CXT} {k : Nat} {C p g : Addr} {mc : Value} {fd : FuncData} {ps : List Str} {sp : Sp} {E : XK} {m : Str} {apos pos : Pos} {o e : Expr} {es : List Expr} {ta : TE} {t : TA}
theorem pe_sm {pl : Sem Bool} (he : PE X o ta) (r : ClX.CRead X.K C mc) (c : SMet X.K C mc m p g) (F : FnOk X.prog X.w X.K X.mg X.base CX k g fd ps sp) (hr : Room k X.A) (hb : Binds X.K fd ps []) (hx : Passes CX X E) (ha : PA X (e :: es) t)
    (hst : starEach (e :: es) X.env = (false, eval e X.env) :: starEach es X.env := by rfl) (hpl : (backTo pos (starEach es X.env)).any (·.1) = false := by rfl)
    (ht : eval (.Call (.Attribute o m apos) (e :: es) [] pos) X.env = (do
      let ov ← eval o X.env
      standAt apos.atName
      let (f, first) ← holding [ov] (getMethod ov m pl)
      callWith pos f first (backTo pos (starEach (e :: es) X.env)) (backToKw pos (keywordEach [] X.env))) := by rfl) :
    PE X (.Call (.Attribute o m apos) (e :: es) [] pos) (tSMeth C sp E ta t) := by
  refine ⟨fun pins s σ H Q I h => ?_⟩
  refine PySem.W.methodCall_KW (pl := pl) (thn (he.run pins s σ H _ I h) fun u s1 ⟨x, H1, I1, rx, ex, q⟩ => ?_) ht
  subst ex
  obtain rfl : u = Value.ref C := rx
  obtain ⟨rest, hp⟩ := c.rc
  refine PySem.W.method_cls I1.kIn r.ga (PySem.W.cls_bind I1.kIn r.rd c.at_ (wpAny_call (PySem.W.sm_get (s := { s1 with toks := s1.toks + 1 }) I1.kIn hp (PySem.W.handed_on rfl ?_))))
  have I2 : Inv X pins σ H1 { s1 with toks := s1.toks + 1 } := I1.tok _
  refine PySem.W.callWith_K (first := []) (h₀ := X.base) I2.ok.mod.kin c.kp (thn (ha.run pos pins _ σ H1 _ I2 q) fun us s3 ⟨vs, H2, I3, rv, q2⟩ => ⟨I3.kIn, ?_⟩) hst hpl
  have q3 : sp (vs ++ []) H2 Q E := by rw [List.append_nil]; exact q2
  exact run_fn (us := us) (vs := vs) F hr hb .nil hx I3 rv q3
end
end Pa
set_option maxRecDepth 100000
set_option maxHeartbeats 4000000
namespace Pa
open PySem PySem.Spec PyProof.Rows L2 SrtO
structure MakeOk (P : Program) (w : World) (K : PySem.W.Frag) (mg : Str → Option Value) (base : Heap) (C : Addr) (k : Nat) (x : Str) (ps : List Str) (sp : Sp) : Prop where
  ok : ∃ (f : Addr) (fd : FuncData), Mk K C f ∧ mg x = some (.ref C) ∧ Binds K fd ps [] ∧ FnOk P w K mg base CX0 k f fd ps sp
section
variable {X : Cx} {k n : Nat} {C : Addr} {ps ks : List Str} {sp : Sp} {m x : Str} {p apos pos : Pos} {o e : Expr} {es : List Expr} {kws : List Keyword} {ta : TE} {t tk : TA}
theorem pe_mk (M : MakeOk X.prog X.w X.K X.mg X.base C k x ps sp) (hr : Room (k + 1) X.A) (hg : Gl X x) (ha : PA X (e :: es) t)
    (hdb : (x == ("__debug__" : Str)) = false := by decide) (he : starEach (e :: es) X.env = (false, eval e X.env) :: starEach es X.env := by rfl) (hpl : (backTo pos (starEach es X.env)).any (·.1) = false := by rfl) :
    PE X (.Call (.Name x p) (e :: es) [] pos) (tMake C sp [] E0 t) := by
  obtain ⟨f, fd, h1, h2, h3, h4⟩ := M.ok
  exact pe_make h1 h4 hr hg h2 h3 .nil pass0 ha hdb he hpl
end

def wZ (z : Z3) : Option Bool := if z.2.2 > 0 then none else some false
section
variable {P : Program} {w : World} {K : PySem.W.Frag} {mg : Str → Option Value} {base : Heap} {tp C CS : Addr}
/-! ### Page.resumed -/
def spResumed (K : PySem.W.Frag) (C : Addr) : Sp := fun vs H Q _ => ∃ (L : Int) (v : V) (z : Z3), vs = [.int L, v] ∧ 2 ≤ L ∧ L ≤ 9 ∧ StdZ L z ∧ Dp K H v (zD z) ∧
  ∀ x dx rl st H', H x = none → H rl = none → Same H H' → PA' C L x dx rl st 0 (wZ z) [] H' → StAt K H' st (zKd z) z.2.1 z.2.2 → Q (.ref x) H'
abbrev sPage_resumed : Stmt := inClass (topS 14) 1
theorem scPage_resumed : FnScope ["length", "standing", "page"] ["length", "standing"] (defScope sPage_resumed) := ⟨rfl, rfl, rfl, by decide +kernel, rfl, by decide +kernel, by decide +kernel⟩
theorem ok_resumed {f : Addr} {fd : FuncData} (F : Fun K "resumed" "Page.resumed" sPage_resumed f fd) (T : Txt K mg tp C) (C_checked : CallOkX P w K mg base 3 "checked_standing" ["length", "standing"] (spChecked K CS)) (M_Page : MakeOk P w K mg base C 1 "Page" ["self", "length"] (spInit C tp)) :
    FnOk P w K mg base CX0 4 f fd ["length", "standing"] (spResumed K C) := by
  refine F.ok scPage_resumed (fun vs H Q E h => ?_) (fun cdv A outer s H vs Q E hr h => ?_)
  · obtain ⟨L, v, z, rfl, _⟩ := h
    rfl
  · obtain ⟨L, v, z, rfl, hL2, hL9, hz, hv, k⟩ := h
    refine ⟨_, (pss_cons (ps_set (i := 2) scPage_resumed.nd rfl (.inl rfl) (pe_mk M_Page (hr.mono (by decide)) (by rfl) (pa_cons (pv 0) pa_nil)))
      (pss_cons (ps_fld (pv 2) (pe_ccx (W := fun _ _ _ _ => False) C_checked hr (by rfl) L2.takes0 (pa_cons (pv 0) (pa_cons (pv 1) pa_nil))) rfl)
      (pss_cons (ps_fld (pv 2) (pe_ifExp (pt_cmpR op_gt (pe_ix ix_tup (pv 1) pe_int (fun _ _ => rfl)) pe_int (nomark _)) pe_non pe_bl) rfl)
      (pss_one (ps_ret (pv 2)))))), ?_⟩
    obtain ⟨st, rfl, hst⟩ := std_at hz hv
    refine ⟨_, rfl, fun x dx nx ndx ne => ⟨x, dx, L, rfl, upd_same, fun H1 rl hrl pa1 ka1 => ⟨rfl, ?_⟩⟩⟩
    obtain ⟨s1, hrl0⟩ := mk_facts nx ndx ka1 hrl
    refine ⟨_, rfl, _, rfl, L, .ref st, zD z, rfl, by omega, by omega, dp_same s1 _ _ hv, shZ1 z, fun ds e => by cases e; show 3 ≤ 100; decide, fun _ H2 s2 => ?_, fun no => absurd ⟨z, hz, rfl⟩ no⟩
    have pa2 := pa1.same s2
    have hst2 := (hst.same s1).same s2
    obtain ⟨p3, k3⟩ := pa2.put st 0 (some false)
    have hst3 : StAt K _ st (zKd z) z.2.1 z.2.2 := StAt.keep k3 pa2 hst2
    refine ⟨_, rfl, x, C, dx, _, rfl, pa2.ob, T.cl, T.nS, (by show 5 < 1000; decide), ?_⟩
    rw [put_standing]
    obtain ⟨wd, hsq, _, _⟩ := id hst3
    obtain ⟨p4, k4⟩ := p3.put st 0 (wZ z)
    have hst4 : StAt K _ st (zKd z) z.2.1 z.2.2 := StAt.keep k4 p3 hst3
    have sF : Same H (upd (upd H2 x (.ins C dx (pf L st rl 0 (some false)))) x (.ins C dx (pf L st rl 0 (wZ z)))) := fun q o e => k4 q o (fun r => by rw [r, nx] at e; cases e) (fun r => by rw [r, hrl0] at e; cases e) (k3 q o (fun r => by rw [r, nx] at e; cases e) (fun r => by rw [r, hrl0] at e; cases e) (s2 _ _ (s1 _ _ e)))
    refine ⟨_, rfl, st, _, _, _, rfl, rfl, hsq, atI_nat (j := 2) rfl, _, _, rfl, rfl, _, rfl, ite2 (fun ht => ?_) (fun ht => ?_)⟩
    · have ht := of_decide_eq_true ht
      have e : wZ z = none := if_pos ht
      rw [e] at p4 sF hst4
      refine ⟨_, rfl, x, C, dx, _, rfl, p3.ob, T.cl, T.nW, (by show 5 < 1000; decide), ?_⟩
      rw [show V.non = wv none from rfl, put_went]
      exact ⟨_, rfl, k x dx rl st _ nx hrl0 sF (by rw [e]; exact p4) hst4⟩
    · have ht : ¬ z.2.2 > 0 := fun q => ht (decide_eq_true q)
      have e : wZ z = some false := if_neg ht
      rw [e] at p4 sF hst4
      refine ⟨_, rfl, x, C, dx, _, rfl, p3.ob, T.cl, T.nW, (by show 5 < 1000; decide), ?_⟩
      rw [show V.bl false = wv (some false) from rfl, put_went]
      exact ⟨_, rfl, k x dx rl st _ nx hrl0 sF (by rw [e]; exact p4) hst4⟩
end
end Pa
set_option maxRecDepth 100000
set_option maxHeartbeats 4000000
namespace Pa
open PySem PySem.Spec PyProof.Rows L2 SrtO
structure Blk2Ok (P : Program) (w : World) (K : PySem.W.Frag) (mg : Str → Option Value) (base : Heap) (C : Addr) : Prop where
  ok : ∃ (f : Addr) (fd : FuncData) (mv : List Value), Meth K C "block" f ∧ KBn K fd ["self", "count", "space", "kept", "page"] 2 ["space", "kept"] (fun us ws => us ++ (ws ++ mv)) (fun vs zs => vs ++ (zs ++ [.bl false])) ∧ FnOk P w K mg base CX0 3 f fd ["self", "count", "space", "kept", "page"] (spBlock K C)
theorem pe_blk2 {X : Cx} {C : Addr} {o e : Expr} {es : List Expr} {kws : List Keyword} {ta : TE} {t tk : TA} {apos pos : Pos} {pl : Sem Bool} (he : PE X o ta) (c : Cls X.K C) (M : Blk2Ok X.prog X.w X.K X.mg X.base C) (hr : Room 3 X.A) (ha : PA X (e :: es) t) (hkw : PK X kws tk)
    (hall : (backToKw pos (keywordEach kws X.env)).all (·.1.isSome) = true := by rfl)
    (hks : (backToKw pos (keywordEach kws X.env)).filterMap (·.1) = (["space", "kept"] : List Str) := by rfl)
    (hst : starEach (e :: es) X.env = (false, eval e X.env) :: starEach es X.env := by rfl)
    (hpl : ((backTo pos (starEach (e :: es) X.env)).any (·.1) || (backToKw pos (keywordEach kws X.env)).any (·.1.isNone)) = false := by rfl)
    (ht : eval (.Call (.Attribute o "block" apos) (e :: es) kws pos) X.env = (do
      let z ← eval o X.env
      standAt apos.atName
      let (f, first) ← holding [z] (getMethod z "block" pl)
      callWith pos f first (backTo pos (starEach (e :: es) X.env)) (backToKw pos (keywordEach kws X.env))) := by rfl) :
    PE X (.Call (.Attribute o "block" apos) (e :: es) kws pos) (tMethK C "block" 1 2 (spBlock X.K C) (fun vs zs => vs ++ (zs ++ [.bl false])) ta t tk) := by
  obtain ⟨f, fd, mv, h1, h2, h3⟩ := M.ok
  exact pe_methK (n := 1) he c h1 h3 hr h2 ha hkw hall hks hst hpl ht
/-- Page.resumed as it stands -/
structure ResOk (P : Program) (w : World) (K : PySem.W.Frag) (mg : Str → Option Value) (base : Heap) (C : Addr) : Prop where
  ok : ∃ (mc : Value) (p g : Addr) (fd : FuncData), ClX.CRead K C mc ∧ SMet K C mc "resumed" p g ∧ Binds K fd ["length", "standing"] [] ∧ FnOk P w K mg base CX0 4 g fd ["length", "standing"] (spResumed K C)
theorem pe_res {X : Cx} {C : Addr} {o e : Expr} {es : List Expr} {ta : TE} {t : TA} {apos pos : Pos} {pl : Sem Bool} (he : PE X o ta) (M : ResOk X.prog X.w X.K X.mg X.base C) (hr : Room 4 X.A) (ha : PA X (e :: es) t)
    (hst : starEach (e :: es) X.env = (false, eval e X.env) :: starEach es X.env := by rfl) (hpl : (backTo pos (starEach es X.env)).any (·.1) = false := by rfl)
    (ht : eval (.Call (.Attribute o "resumed" apos) (e :: es) [] pos) X.env = (do
      let ov ← eval o X.env
      standAt apos.atName
      let (f, first) ← holding [ov] (getMethod ov "resumed" pl)
      callWith pos f first (backTo pos (starEach (e :: es) X.env)) (backToKw pos (keywordEach [] X.env))) := by rfl) :
    PE X (.Call (.Attribute o "resumed" apos) (e :: es) [] pos) (tSMeth C (spResumed X.K C) E0 ta t) := by
  obtain ⟨mc, p, g, fd, h1, h2, h3, h4⟩ := M.ok
  exact pe_sm he h1 h2 h4 hr h3 pass0 ha hst hpl ht
theorem no_settled5 (L : Int) (st rl : Addr) (lo : Int) (ww : Option Bool) : (pf L st rl lo ww).lookup ("settled" : Str) = none := rfl
theorem rwLv {H : Hp} : ∀ {xs : List V} {rs : List Int}, AllAt RwAt H xs rs → AllAt LvAt H xs (rs.map lnv)
  | [], [], _ => trivial
  | _ :: _, _ :: _, ⟨h1, h2⟩ => ⟨h1, rwLv h2⟩
  | [], _ :: _, h => h.elim
  | _ :: _, [], h => h.elim
theorem rw_drop {H : Hp} : ∀ {xs : List V} {rs : List Int} (n : Nat), AllAt RwAt H xs rs → AllAt RwAt H (xs.drop n) (rs.drop n)
  | _, _, 0, h => by simpa using h
  | [], [], n + 1, _ => (trivial : AllAt RwAt H [] [])
  | _ :: _, _ :: _, n + 1, ⟨_, h2⟩ => by simpa using rw_drop n h2
  | [], _ :: _, _ + 1, h => h.elim
  | _ :: _, [], _ + 1, h => h.elim
def dVl (v : Vl) : PyData := .tuple [.int 0, .int v.m, .int v.sp, .bool v.k, .bool v.pg, .bool v.ot]
theorem dp_vE {K : PySem.W.Frag} {H : Hp} {x : V} {v : Vl} (h : Dp K H x (dVl v)) : ∃ a, x = .ref a ∧ SqT K H a [.int 0, .int v.m, .int v.sp, .bl v.k, .bl v.pg, .bl v.ot] := by
  unfold dVl at h
  obtain ⟨a, xs, e, h1, h2⟩ := dp_tupE h
  cases h2 with
  | cons a1 h2 =>
    cases h2 with
    | cons a2 h2 =>
      cases h2 with
      | cons a3 h2 =>
        cases h2 with
        | cons a4 h2 =>
          cases h2 with
          | cons a5 h2 =>
            cases h2 with
            | cons a6 h2 =>
              cases h2
              cases a1; cases a2; cases a3; cases a4; cases a5; cases a6
              exact ⟨a, e, h1⟩
section
variable {P : Program} {w : World} {K : PySem.W.Frag} {mg : Str → Option Value} {base : Heap} {tp C CS : Addr}
/-! ### _with_lines -/
def spWithL (K : PySem.W.Frag) : Sp := fun vs H Q _ => ∃ (L : Int) (v u : V) (S : Sd) (c : Nat) (vl : Vl), vs = [.int L, v, .int (c : Int), u] ∧ 2 ≤ L ∧ L ≤ 9 ∧ c ≠ 0 ∧ c ≤ 200 ∧ Dp K H v (dSd S) ∧ StdZ L S.z ∧ SmS S ∧ Dp K H u (dVl vl) ∧ 0 ≤ vl.sp ∧
  ∀ v' H', Same H H' → Dp K H' v' (dSd (withL L c vl.sp vl.k S)) → Q v' H'
abbrev s_with_lines : Stmt := topS 26
theorem sc_with_lines : FnScope ["length", "side", "count", "values", "settled", "standing", "offsets", "page", "first", "loose", "line"] ["length", "side", "count", "values"] (defScope s_with_lines) := ⟨rfl, rfl, rfl, by decide +kernel, rfl, by decide +kernel, by decide +kernel⟩
theorem ok_withl {f : Addr} {fd : FuncData} (F : Fun K "_with_lines" "_with_lines" s_with_lines f fd) (T : Txt K mg tp C) (M_resumed : ResOk P w K mg base C) (M_block : Blk2Ok P w K mg base C) (M_finish : MethOk P w K mg base C 1 "finish" ["self"] (spFinish C)) (M_settled : MethOk P w K mg base C 2 "settled" ["self"] (spSettled C))
    (P_now : PropOk P w K mg base C 1 "now" (spNow C)) (P_pending : PropOk P w K mg base C 1 "pending" (spPend C)) (P_went_over : PropOk P w K mg base C 1 "went_over" (spWent C)) (M_len : LenOk P w K mg base C 1 (spLen C))
    (C__gone_over : CallOk P w K mg base 1 "_gone_over" ["offsets"] (spGone K)) (C__stayed : CallOk P w K mg base 1 "_stayed" ["standing", "offsets"] (spStayed K)) : FnOk P w K mg base CX0 5 f fd ["length", "side", "count", "values"] (spWithL K) := by
  refine F.ok sc_with_lines (fun vs H Q E h => ?_) (fun cdv A outer s H vs Q E hr h => ?_)
  · obtain ⟨L, v, u, S, c, vl, rfl, _⟩ := h
    rfl
  · obtain ⟨L, v, u, S, c, vl, rfl, hL2, hL9, hc, hc40, hv, hz, sm, hu, hsp, k⟩ := h
    refine ⟨_, (pss_cons (ps_asg (pv 1) (pg_tup rfl (pgs_cons (pg_name (i := 4) sc_with_lines.nd rfl (.inl rfl)) (pgs_cons (pg_name (i := 5) sc_with_lines.nd rfl (.inl rfl)) (pgs_cons (pg_name (i := 6) sc_with_lines.nd rfl (.inl rfl)) pgs_nil)))))
      (pss_cons (ps_set (i := 7) sc_with_lines.nd rfl (.inl rfl) (pe_res (pe_glob (v := .ref C) (by rfl) T.g_Page rfl) M_resumed hr (pa_cons (pv 0) (pa_cons (pv 5) pa_nil))))
      (pss_cons (ps_expr (pe_blk2 (pv 7) T.cl M_block (hr.mono (by decide)) (pa_cons (pv 2) pa_nil) (pk_cons (pe_ix ix_tup (pv 3) pe_int (fun _ _ => rfl)) (pk_cons (pe_ix ix_tup (pv 3) pe_int (fun _ _ => rfl)) pk_nil))))
      (pss_cons (ps_by (ps_if (pt_cmpR op_notN (pe_pr (pv 7) T.cl P_went_over (hr.mono (by decide))) pe_non (nomark _))
        (pss_cons (ps_set (i := 4) sc_with_lines.nd rfl (.inl rfl) (pe_op op_catA (pv 4) (pe_by (pe_ifExp (pt_val (pe_pr (pv 7) T.cl P_went_over (hr.mono (by decide)))) (pe_cc C__gone_over (hr.mono (by decide)) (by rfl) (pa_cons (pv 6) pa_nil)) (pe_cc C__stayed (hr.mono (by decide)) (by rfl) (pa_cons (pv 5) (pa_cons (pv 6) pa_nil)))))))
        (pss_one (ps_set (i := 6) sc_with_lines.nd rfl (.inl rfl) (pe_tup pa_nil))))
        pss_nil))
      (pss_cons (ps_set (i := 8) sc_with_lines.nd rfl (.inr rfl) (pe_op op_sub (pe_ix ix_tup (pe_pr (pv 7) T.cl P_now (hr.mono (by decide))) pe_int (fun _ _ => rfl)) (pe_ix ix_tup (pe_pr (pv 7) T.cl P_now (hr.mono (by decide))) pe_int (fun _ _ => rfl))))
      (pss_cons (ps_set (i := 9) sc_with_lines.nd rfl (.inl rfl) (pe_slice sl_list (pe_mc0 (pv 7) T.cl M_finish (hr.mono (by decide))) (po_some (pe_pure (pe_op op_sub (pe_callB (call_lenO M_len (hr.mono (by decide))) (by rfl) T.b_len PySem.boot_len (pa_cons (pv 7) pa_nil)) (pe_pr (pv 7) T.cl P_pending (hr.mono (by decide)))))) po_none))
      (pss_one (ps_ret (pe_tup (pa_cons (pe_op op_catA (pv 4) (pe_callTy call_tuple_of (by rfl) T.b_tuple (by decide +kernel) (pa_cons (pe_mc0 (pv 7) T.cl M_settled (hr.mono (by decide))) pa_nil))) (pa_cons (pe_pr (pv 7) T.cl P_now (hr.mono (by decide))) (pa_cons (pe_op op_catA (pv 6) (pe_callTy call_tuple_of (by rfl) T.b_tuple (by decide +kernel) (pa_cons (pe_lc (own := [("line", 10)]) (g := gName 10) (tt := tYes) rfl sc_with_lines.nd (pi_list (pv 9)) (blkOk_by (N := ["length", "side", "count", "values", "settled", "standing", "offsets", "page", "first", "loose", "line"]) (sc := defScope s_with_lines) (by decide +kernel)) (fun _ _ _ _ _ => (pg_name (i := 10) sc_with_lines.nd rfl (.inl rfl))) (fun _ _ _ _ _ => pts_nil) (fun _ _ _ _ _ => (pe_op op_sub (pe_ix (r := rIxT K) ix_tup (pv 10) pe_int (fun _ _ => rfl)) (pv 8)))) pa_nil))) pa_nil)))))))))))), ?_⟩
    obtain ⟨a0, x1, x2, x3, rfl, ha0, h1, h2, h3⟩ := dp_3E hv
    obtain ⟨ua, rfl, hua⟩ := dp_vE hu
    obtain ⟨z', M⟩ := blk_ok (by omega : (1 : Int) ≤ L) hz hc hsp vl.k
    obtain ⟨A', B', J⟩ := M.jr
    have hb := std_b (by omega) hz
    have tn : ((S.z.2.2.toNat : Nat) : Int) = S.z.2.2 := by omega
    have S0 := sim0 (kd := zKd S.z) (h := S.z.2.1) (t := S.z.2.2.toNat) (A := List.replicate S.z.2.2.toNat 0)
    rw [tn] at S0
    refine ⟨_, rfl, a0, _, rfl, ha0, rfl, _, _, rfl, _, _, rfl, _, _, rfl, rfl, ?_⟩
    refine ⟨rfl, _, rfl, _, rfl, L, x2, S.z, rfl, hL2, hL9, hz, h2, fun x dx rl st H1 nx nrl s1 pa1 hst1 => ?_⟩
    refine ⟨_, rfl, x, dx, _, rfl, pa1.ob, no_block _ _ _ _ _, _, rfl, _, rfl, ua, _, _, _, rfl, rfl, seqT_same s1 hua, atI_nat (j := 2) rfl, _, rfl, ua, _, _, _, rfl, rfl, seqT_same s1 hua, atI_nat (j := 3) rfl, rfl, rfl,
      x, dx, rl, st, L, res0 (zKd S.z) S.z.2.1 S.z.2.2, ⟨c, vl.sp, vl.k, false⟩, _, List.replicate S.z.2.2.toNat 0, S.z.2.2.toNat, _, rfl, pa1, hst1, hL2, S0, by rw [List.length_replicate]; exact Nat.le_refl _, hsp, by show c ≤ 200; omega, Nat.zero_le _, fun H2 st' pa2 hst2 k2 => ?_⟩
    have pa2 : PA' C L x dx rl st' (blkR L S.z c vl.sp vl.k).lo (blkR L S.z c vl.sp vl.k).w (blkR L S.z c vl.sp vl.k).rows H2 := pa2
    have hsq2 : SqT K H2 st' [.str (wordN z'.1), .int z'.2.1, .int z'.2.2] := seq_of_std M.std M.y hst2
    have s2 : Same H H2 := fun q o e => k2 q o (fun r => by rw [r, nx] at e; cases e) (fun r => by rw [r, nrl] at e; cases e) (s1 _ _ e)
    have hlen := M.len
    obtain ⟨eA, eB⟩ := jr_parts J
    have elo : (blkR L S.z c vl.sp vl.k).lo = (B'.length : Int) := J.lo
    have erw : (blkR L S.z c vl.sp vl.k).rows = A' ++ B' := J.rows
    have eh : (blkR L S.z c vl.sp vl.k).h = z'.2.1 := congrArg (fun x => x.2.1) M.y
    have et : (blkR L S.z c vl.sp vl.k).t = z'.2.2 := congrArg (fun x => x.2.2) M.y
    have ezo : zOf ((blkR L S.z c vl.sp vl.k).kd, (blkR L S.z c vl.sp vl.k).h, (blkR L S.z c vl.sp vl.k).t) = z' := by rw [M.y, zOf_zY M.std]
    have lo0 : 0 ≤ (blkR L S.z c vl.sp vl.k).lo := by rw [elo]; omega
    have lo1 : (blkR L S.z c vl.sp vl.k).lo ≤ ((blkR L S.z c vl.sp vl.k).rows.length : Int) := by rw [elo, erw, List.length_append]; omega
    have kk : ∀ v' H', Same H H' → Dp K H' v' (dSd ⟨stW (blkR L S.z c vl.sp vl.k).w S ++ (preR (blkR L S.z c vl.sp vl.k)).map lnv, z', oW (blkR L S.z c vl.sp vl.k).w S ++ (sufR (blkR L S.z c vl.sp vl.k)).map fun x => x - (z'.2.1 - z'.2.2)⟩) → Q v' H' := fun v' H' s' hv' => k v' H' s' (by
      unfold withL
      rw [ezo, eh, et]
      exact hv')
    have hst50 := sm.st
    have ho50 := sm.o
    clear k J M S0 hst2 k2 pa1 hst1
    generalize blkR L S.z c vl.sp vl.k = r at pa2 hlen eA eB elo erw eh et lo0 lo1 kk
    -- what was pending
    refine ⟨fun σ' H' => ∃ v4 v6, σ' = [some (.int L), some (.ref a0), some (.int (c : Int)), some (.ref ua), some v4, some x2, some v6, some (.ref x), none, none, none] ∧ Same H2 H' ∧ Dp K H' v4 (dSt (stW r.w S)) ∧ Dp K H' v6 (dO (oW r.w S)), fun N hN => ?_, ?_⟩
    · refine ⟨_, rfl, x, dx, _, rfl, pa2.ob, x, dx, rl, st', L, _, _, _, rfl, pa2, rfl, _, rfl, ?_⟩
      cases hw : r.w with
      | none =>
        refine iteQ (by show ¬ (!decide (V.non = V.non)) = true; simp) ?_
        refine hN _ _ ⟨x1, x3, rfl, Same.refl _, ?_, ?_⟩
        · rw [hw]; exact dp_same s2 _ _ h1
        · rw [hw]; exact dp_same s2 _ _ h3
      | some g =>
        refine iteP (by show (!decide (V.bl g = V.non)) = true; simp) ?_
        rw [hw] at pa2
        refine ⟨_, rfl, ⟨fun v' H' => Same H2 H' ∧ Dp K H' v' (dSt (if g = true then goneO S.o else stayO S.z S.o)), fun Q' hQ => ?_, ?_⟩⟩
        · refine ⟨_, rfl, x, dx, _, rfl, pa2.ob, x, dx, rl, st', L, _, _, _, rfl, pa2, _, rfl, ?_⟩
          cases g with
          | true =>
            refine iteT ⟨_, rfl, x3, S.o, rfl, dp_same s2 _ _ h3, ho50, fun v' H' s' hv' => hQ _ _ ⟨s', hv'⟩⟩
          | false =>
            refine iteF ⟨_, rfl, _, rfl, x2, x3, S.z, S.o, rfl, dp_same s2 _ _ h2, dp_same s2 _ _ h3, ho50, fun v' H' s' hv' => hQ _ _ ⟨s', hv'⟩⟩
        rintro v1 H3 ⟨s3, hv1⟩
        have hl2 : (if g = true then goneO S.o else stayO S.z S.o).length ≤ 300 := by
          cases g
          · simp [stayO]; omega
          · simp [goneO]; omega
        refine rd_catA (dp_same (s2.trans s3) _ _ h1) hv1 (by rw [List.length_map]; omega) (by rw [List.length_map]; omega) fun v4 H4 s4 hv4 => ?_
        refine ⟨Nat.zero_le _, fun e he => ?_⟩
        have s5 := same_new (o := .tup []) he
        refine hN _ _ ⟨v4, .ref e, rfl, s3.trans (s4.trans s5), ?_, ?_⟩
        · rw [hw]
          show Dp K _ v4 (dSt (S.st ++ (if g = true then goneO S.o else stayO S.z S.o)))
          rw [dSt_app]
          exact dp_same s5 _ _ hv4
        · rw [hw]
          exact dp_oI (o := []) (SqT.of upd_same)
    rintro σ' H3 ⟨v4, v6, rfl, s3, hv4, hv6⟩
    have pa3 := pa2.same s3
    have hsq3 := seqT_same s3 hsq2
    -- first
    refine ⟨_, rfl, x, dx, _, rfl, pa3.ob, x, dx, rl, st', L, _, _, _, rfl, pa3, st', _, _, _, rfl, rfl, hsq3, atI_nat (j := 1) rfl, _, rfl, x, dx, _, rfl, pa3.ob, x, dx, rl, st', L, _, _, _, rfl, pa3, st', _, _, _, rfl, rfl, hsq3, atI_nat (j := 2) rfl, _, _, rfl, rfl, ?_⟩
    -- loose
    refine ⟨_, rfl, x, dx, _, rfl, pa3.ob, no_finish _ _ _ _ _, x, dx, rl, st', L, _, _, _, rfl, pa3, by omega, fun p H4 ys hp s4 hys hrw => ?_⟩
    have pa4 := pa3.same s4
    have ea : ((r.rows.length : Nat) : Int) - r.lo = ((r.rows.length - r.lo.toNat : Nat) : Int) := by omega
    refine ⟨.int ((r.rows.length - r.lo.toNat : Nat) : Int), fun Q' hQ => ⟨_, rfl, x, dx, _, rfl, pa4.ob, x, dx, rl, st', L, _, _, _, rfl, pa4, _, rfl, by omega, ?_, _, rfl, x, dx, _, rfl, pa4.ob, x, dx, rl, st', L, _, _, _, rfl, pa4, _, _, rfl, rfl, ?_⟩, _, rfl, p, _, rfl, SqL.of hys, fun q hq => ?_⟩
    · exact Int.lt_of_lt_of_le (b := 700) (by omega) (by decide)
    · rw [← ea] at hQ
      exact hQ
    have s5 := same_new (o := .lst (cutV ys (some ((r.rows.length - r.lo.toNat : Nat) : Int)) none)) hq
    have hq5 : (upd H4 q (.lst (cutV ys (some ((r.rows.length - r.lo.toNat : Nat) : Int)) none))) q = some (.lst (cutV ys (some ((r.rows.length - r.lo.toNat : Nat) : Int)) none)) := upd_same
    have hrwl := hrw.len
    rw [cutV_from (by omega)] at hq5 s5 ⊢
    have hlo5 : AllAt RwAt (upd H4 q (.lst (ys.drop (r.rows.length - r.lo.toNat)))) (ys.drop (r.rows.length - r.lo.toNat)) (sufR r) := rw_drop _ (rwMono (Tups.of s5) hrw)
    have pa5 := pa4.same s5
    generalize upd H4 q (.lst (ys.drop (r.rows.length - r.lo.toNat))) = H5 at s5 hq5 hlo5 pa5 ⊢
    have s35 := s4.trans s5
    -- what is told
    refine ⟨_, rfl, _, rfl, x, dx, _, rfl, pa5.ob, no_settled5 _ _ _ _ _, x, dx, rl, st', L, _, _, _, rfl, pa5, lo0, lo1, by omega, fun p6 H6 zs hp6 s6 hzs hrz => ?_⟩
    refine ⟨p6, zs, rfl, .inl ⟨SqL.of hzs, fun l hl => ?_⟩⟩
    have s7 := same_new (o := .tup zs) hl
    have hl7 : Dp K (upd H6 l (.tup zs)) (.ref l) (dSt ((preR r).map lnv)) := .tup (SqT.of upd_same) (dpLv (rwLv (rwMono (Tups.of s7) hrz)))
    generalize upd H6 l (.tup zs) = H7 at s7 hl7 ⊢
    have hpl : (preR r).length ≤ 700 := by
      unfold preR
      rw [List.length_take]
      omega
    have hsl : (stW r.w S).length ≤ 700 := by
      unfold stW
      split
      · omega
      · rw [List.length_append]
        have : ∀ g : Bool, (if g = true then goneO S.o else stayO S.z S.o).length ≤ 300 := fun g => by
          cases g
          · simp [stayO]; omega
          · simp [goneO]; omega
        have := this (by assumption)
        omega
    refine rd_catA (dp_same (s35.trans (s6.trans s7)) _ _ hv4) hl7 (by rw [List.length_map]; exact hsl) (by rw [List.length_map, List.length_map]; exact hpl) fun v8 H8 s8 hv8 => ?_
    have s38 := s35.trans (s6.trans (s7.trans s8))
    have pa8 := pa3.same s38
    refine ⟨_, rfl, x, dx, _, rfl, pa8.ob, x, dx, rl, st', L, _, _, _, rfl, pa8, ?_⟩
    have hq8 := (s6.trans (s7.trans s8)) _ _ hq5
    have hlo8 := rwMono (Tups.of (s6.trans (s7.trans s8))) hlo5
    refine ⟨_, rfl, _, rfl, q, rfl, ⟨_, SqL.of hq8⟩, fun D hD => ?_⟩
    refine lc_list (K := K) (a := q) (xs := ys.drop (r.rows.length - r.lo.toNat)) (fun i H9 => Same H8 H9 ∧ H9 D = some (.lst (((sufR r).take i).map fun y => V.int (y - (z'.2.1 - z'.2.2))))) ⟨same_new hD, upd_same⟩ (fun i H9 _ w => SqL.of (w.1 _ _ hq8)) ?_ ?_
    · rintro i y H9 hi ⟨s9, h9⟩
      obtain ⟨y', hy', t, rfl, ht⟩ := hlo8.at hi
      have ht9 := s9 _ _ ht
      have hil : i < (ys.drop (r.rows.length - r.lo.toNat)).length := (List.getElem?_eq_some_iff.mp hi).1
      rw [List.length_drop] at hil
      refine ⟨rfl, ?_⟩
      refine ⟨_, rfl, t, _, _, _, rfl, rfl, SqT.of ht9, atI_nat (j := 1) rfl, _, rfl, _, _, rfl, rfl, _, h9, ?_, fun w o e => ?_, ?_⟩
      · rw [List.length_map, List.length_take]
        exact Nat.lt_of_le_of_lt (m := 700) (by omega) (by decide)
      · rw [upd_ne (fun z => by rw [z, hD] at e; cases e)]
        exact s9 _ _ e
      · rw [upd_same, List.take_add_one, hy', List.map_append]
        rfl
    · rintro H9 ⟨s9, h9⟩
      rw [hlo8.len, List.take_of_length_le (Nat.le_refl _)] at h9
      refine ⟨D, _, rfl, .inl ⟨SqL.of h9, fun l hl => ?_⟩⟩
      have s10 := same_new (o := .tup ((sufR r).map fun y => V.int (y - (z'.2.1 - z'.2.2)))) hl
      have hl10 : Dp K (upd H9 l (.tup ((sufR r).map fun y => V.int (y - (z'.2.1 - z'.2.2))))) (.ref l) (dO ((sufR r).map fun y => y - (z'.2.1 - z'.2.2))) := dp_oI (by rw [List.map_map]; exact SqT.of upd_same)
      generalize upd H9 l (.tup ((sufR r).map fun y => V.int (y - (z'.2.1 - z'.2.2)))) = H10 at s10 hl10
      have s310 := s38.trans (s9.trans s10)
      have hol : (oW r.w S).length ≤ 700 := by
        unfold oW
        split
        · omega
        · exact Nat.zero_le _
      have hsfl : (sufR r).length ≤ 700 := by
        unfold sufR
        rw [List.length_drop]
        omega
      refine rd_catA (dp_same s310 _ _ hv6) hl10 (by rw [List.length_map]; exact hol) (by rw [List.length_map, List.length_map]; exact hsfl) fun v11 H11 s11 hv11 => ?_
      refine ⟨(by show 3 ≤ sizeLine; decide), fun w hw => ?_⟩
      have s12 := same_new (o := .tup [v8, .ref st', v11]) hw
      have s812 := s9.trans (s10.trans (s11.trans s12))
      refine kk _ _ (s2.trans (s3.trans (s38.trans s812))) (.tup (SqT.of upd_same) (.cons ?_ (.cons ?_ (.cons ?_ .nil))))
      · rw [dSt_app]
        exact dp_same s812 _ _ hv8
      · exact dp_z (seqT_same (s38.trans s812) hsq3)
      · show Dp K _ v11 (dO (oW r.w S ++ (sufR r).map fun x => x - (z'.2.1 - z'.2.2)))
        unfold dO
        rw [List.map_append]
        exact dp_same s12 _ _ hv11
end
end Pa
set_option maxRecDepth 100000
set_option maxHeartbeats 4000000
namespace Pa
open PySem PySem.Spec PyProof.Rows L2 SrtO
theorem up_len : ∀ {a b : Int} {l : List Int}, Up a l b → (l.length : Int) ≤ b - a
  | a, b, [], h => by cases (show a = b from h); simp
  | a, b, x :: l, h => by
    have h1 := h.1
    have h2 := up_len h.2
    simp only [List.length_cons]
    omega
theorem wf_len {L : Int} (hL : 0 ≤ L) (hL4 : L ≤ 4) {S : Sd} (W : WfS L S) : S.o.length ≤ 4 := by
  have h1 := up_len W.up
  have h2 := std_b hL W.z
  omega
theorem wf_tot {L1 L2 : Int} (a1 : 0 ≤ L1) (a2 : L1 ≤ 4) (b1 : 0 ≤ L2) (b2 : L2 ≤ 4) {j : JD} (W : WfJ L1 L2 j) : tot (side1 j) ≤ 4 ∧ tot (side2 j) ≤ 4 := by
  have h1 := wf_len a1 a2 W.s1
  have h2 := wf_len b1 b2 W.s2
  have h3 := W.tt
  unfold tot at h3 ⊢
  simp only [side1, side2] at h1 h2 h3 ⊢
  by_cases hlt : j.o1.length < j.o2.length
  · rw [if_pos hlt, if_pos hlt] at h3
    rw [if_pos hlt, if_pos hlt]
    simp only [List.length_nil] at h3 ⊢
    omega
  · rw [if_neg hlt, if_neg hlt] at h3
    rw [if_neg hlt, if_neg hlt]
    simp only [List.length_nil] at h3 ⊢
    omega
theorem sm_tot {S : Sd} {n : Nat} (h : tot S ≤ n) (hn : n ≤ 300) : SmS S := by
  unfold tot at h
  exact ⟨by omega, by omega⟩
section
variable {P : Program} {w : World} {K : PySem.W.Frag} {mg : Str → Option Value} {base : Heap} {tp C CS : Addr}
/-! ### joint_block -/
def spBlockJ (K : PySem.W.Frag) : Sp := fun vs H Q _ => ∃ (lp v u1 u2 : V) (L1 L2 : Int) (j : Option JD) (c : Nat) (f s : Vl), vs = [lp, v, .int (c : Int), u1, u2] ∧ Dp K H lp (.tuple [.int L1, .int L2]) ∧ 2 ≤ L1 ∧ L1 ≤ 4 ∧ 2 ≤ L2 ∧ L2 ≤ 4 ∧ Dp K H v (dJ j) ∧ WfO L1 L2 j ∧ c ≤ 200 ∧
  Dp K H u1 (dVl f) ∧ Dp K H u2 (dVl s) ∧ 0 ≤ f.sp ∧ 0 ≤ s.sp ∧ ∀ v' H', Same H H' → Dp K H' v' (dJ (blockJ L1 L2 j c f s)) → Q v' H'
abbrev sjoint_block : Stmt := topS 19
theorem scjoint_block : FnScope ["lengths", "joint", "count", "first", "second", "behind", "one", "two"] ["lengths", "joint", "count", "first", "second"] (defScope sjoint_block) := ⟨rfl, rfl, rfl, by decide +kernel, rfl, by decide +kernel, by decide +kernel⟩
theorem ok_jblock {f : Addr} {fd : FuncData} (F : Fun K "joint_block" "joint_block" sjoint_block f fd) (T : Txt K mg tp C) (T3 : Txt3 mg) (C_joint_page : CallOk P w K mg base 3 "joint_page" ["joint", "first", "second"] (spPageJ K)) (C__sides : CallOk P w K mg base 1 "_sides" ["joint"] (spSides K))
    (C__joined : CallOk P w K mg base 1 "_joined" ["one", "two"] (spJoined K)) (C__with_lines : CallOk P w K mg base 5 "_with_lines" ["length", "side", "count", "values"] (spWithL K)) : FnOk P w K mg base CX0 6 f fd ["lengths", "joint", "count", "first", "second"] (spBlockJ K) := by
  refine F.ok scjoint_block (fun vs H Q E h => ?_) (fun cdv A outer s H vs Q E hr h => ?_)
  · obtain ⟨lp, v, u1, u2, L1, L2, j, c, f, s, rfl, _⟩ := h
    rfl
  · obtain ⟨lp, v, u1, u2, L1, L2, j, c, fv, sv, rfl, hlp, a1, a2, b1, b2, hv, W, hc, hu1, hu2, hf, hs, k⟩ := h
    obtain ⟨tk, hPT⟩ := T3.g_PARTED
    obtain ⟨pl, xl, rfl, hpl, hxl⟩ := dp_tupE hlp
    have hpl : SqT K H pl [.int L1, .int L2] := by
      cases hxl with
      | cons c1 hxl =>
        cases hxl with
        | cons c2 hxl =>
          cases hxl
          cases c1
          cases c2
          exact hpl
    obtain ⟨p1, rfl, hp1⟩ := dp_vE hu1
    obtain ⟨p2, rfl, hp2⟩ := dp_vE hu2
    refine ⟨_, (pss_cons (ps_if (pt_pure (PW.pt (pw_and (pt_cmpR op_gt (pv 2) pe_int (nomark _)) (pw_and1 (pt_cmpR op_ne (pe_ix ix_tup (pv 3) pe_int (fun _ _ => rfl)) (pe_ix ix_tup (pv 4) pe_int (fun _ _ => rfl)) (nomark _))))))
        (pss_one (ps_ret (pe_glob (v := .str "parted") (by rfl) hPT ⟨_, rfl⟩)))
        pss_nil)
      (pss_cons (ps_set (i := 5) scjoint_block.nd rfl (.inl rfl) (pe_cc C_joint_page (hr.mono (by decide)) (by rfl) (pa_cons (pv 1) (pa_cons (pe_pure (pe_and (pe_ix ix_tup (pv 3) pe_int (fun _ _ => rfl)) (pe_one (pe_not (pe_ix ix_tup (pv 3) pe_int (fun _ _ => rfl)))))) (pa_cons (pe_pure (pe_and (pe_ix ix_tup (pv 4) pe_int (fun _ _ => rfl)) (pe_one (pe_not (pe_ix ix_tup (pv 4) pe_int (fun _ _ => rfl)))))) pa_nil)))))
      (pss_cons (ps_if (pt_pure (PW.pt (pw_or (pt_cmpR op_eq (pv 2) pe_int (nomark _)) (pw_or (pt_cmpR (op_eqD hr.units) (pv 5) (pe_glob (v := .str "parted") (by rfl) hPT ⟨_, rfl⟩) (nomark _)) (pw_or1 (pt_val (pe_ix ix_tup (pv 3) pe_int (fun _ _ => rfl))))))))
        (pss_one (ps_ret (pv 5)))
        pss_nil)
      (pss_cons (ps_asg (pe_cc C__sides (hr.mono (by decide)) (by rfl) (pa_cons (pv 5) pa_nil)) (pg_tup rfl (pgs_cons (pg_name (i := 6) scjoint_block.nd rfl (.inl rfl)) (pgs_cons (pg_name (i := 7) scjoint_block.nd rfl (.inl rfl)) pgs_nil))))
      (pss_one (ps_ret (pe_cc C__joined (hr.mono (by decide)) (by rfl) (pa_cons (pe_cc C__with_lines hr (by rfl) (pa_cons (pe_ix ix_tup (pv 0) pe_int (fun _ _ => rfl)) (pa_cons (pv 6) (pa_cons (pv 2) (pa_cons (pv 3) pa_nil))))) (pa_cons (pe_cc C__with_lines hr (by rfl) (pa_cons (pe_ix ix_tup (pv 0) pe_int (fun _ _ => rfl)) (pa_cons (pv 7) (pa_cons (pv 2) (pa_cons (pv 4) pa_nil))))) pa_nil))))))))), ?_⟩
    have i5 : ∀ {z0 z1 z2 z3 z4 z5 : V}, atI [z0, z1, z2, z3, z4, z5] 5 = some z5 := fun {z0 z1 z2 z3 z4 z5} => atI_nat (j := 5) rfl
    have i4 : ∀ {z0 z1 z2 z3 z4 z5 : V}, atI [z0, z1, z2, z3, z4, z5] 4 = some z4 := fun {z0 z1 z2 z3 z4 z5} => atI_nat (j := 4) rfl
    -- parted
    refine ⟨decide (0 < c) && !decide (V.bl fv.ot = V.bl sv.ot), fun Q' hQ => ?_, ite2 (fun hh => ?_) (fun hh => ?_)⟩
    · refine ⟨_, rfl, _, _, rfl, rfl, _, rfl, ?_⟩
      by_cases h0 : 0 < c
      · refine iteP (decide_eq_true (by omega)) ?_
        refine ⟨_, rfl, p1, _, _, _, rfl, rfl, hp1, i5, _, rfl, p2, _, _, _, rfl, rfl, hp2, i5, rfl, _, rfl, ?_⟩
        rw [decide_eq_true h0, Bool.true_and] at hQ
        exact hQ
      · refine iteQ (fun q => h0 (by have := of_decide_eq_true q; omega)) ?_
        rw [decide_eq_false h0, Bool.false_and] at hQ
        exact hQ
    · have hp : 0 < c ∧ fv.ot ≠ sv.ot := by
        rw [Bool.and_eq_true] at hh
        refine ⟨of_decide_eq_true hh.1, fun e => ?_⟩
        have := hh.2
        rw [e] at this
        simp at this
      refine k _ _ (Same.refl H) ?_
      unfold blockJ
      rw [if_pos hp]
      exact .str _
    have hp : ¬ (0 < c ∧ fv.ot ≠ sv.ot) := fun ⟨q1, q2⟩ => hh (by
      rw [Bool.and_eq_true]
      refine ⟨decide_eq_true q1, ?_⟩
      simp [q2])
    unfold blockJ at k
    rw [if_neg hp] at k
    have Wp := jpage_ok (by omega) a2 (by omega) b2 W (fv.pg && !fv.ot) (sv.pg && !sv.ot)
    -- the page
    refine ⟨_, rfl, .bl (fv.pg && !fv.ot), fun Q' hQ => ?_, .bl (sv.pg && !sv.ot), fun Q' hQ => ?_, v, j, _, _, rfl, hv, fun x e => ?_, fun v1 H1 s1 hv1 => ?_⟩
    · refine ⟨_, rfl, p1, _, _, _, rfl, rfl, hp1, i4, _, rfl, ?_⟩
      rcases twoB fv.pg with hg | hg
      · refine iteP hg ⟨_, rfl, p1, _, _, _, rfl, rfl, hp1, i5, _, rfl, ?_⟩
        rw [hg, Bool.true_and] at hQ
        exact hQ
      · refine iteQ (neT hg) ?_
        rw [hg, Bool.false_and] at hQ
        exact hQ
    · refine ⟨_, rfl, p2, _, _, _, rfl, rfl, hp2, i4, _, rfl, ?_⟩
      rcases twoB sv.pg with hg | hg
      · refine iteP hg ⟨_, rfl, p2, _, _, _, rfl, rfl, hp2, i5, _, rfl, ?_⟩
        rw [hg, Bool.true_and] at hQ
        exact hQ
      · refine iteQ (neT hg) ?_
        rw [hg, Bool.false_and] at hQ
        exact hQ
    · have wx := W x e
      have t := wf_tot (by omega) a2 (by omega) b2 wx
      have q1 := (withP_ok (by omega) a2 wx.s1).2
      have q2 := (withP_ok (by omega) b2 wx.s2).2
      exact ⟨⟨sm_tot t.1 (by decide), sm_tot t.2 (by decide)⟩, sm_tot (n := 4) (by rw [q1]; exact t.1) (by decide), sm_tot (n := 4) (by rw [q2]; exact t.2) (by decide)⟩
    generalize pageJ j (fv.pg && !fv.ot) (sv.pg && !sv.ot) = jp at Wp k hv1
    -- done
    have hp1' := seqT_same s1 hp1
    refine ⟨decide ((c : Int) = 0) || (jp.isNone || fv.ot), fun Q' hQ => ?_, ite2 (fun hh => ?_) (fun hh => ?_)⟩
    · refine ⟨_, rfl, rfl, _, rfl, ?_⟩
      rw [dec_int]
      by_cases h0 : (c : Int) = 0
      · refine iteP (by simpa using h0) ?_
        rw [decide_eq_true h0, Bool.true_or] at hQ
        exact hQ
      · refine iteQ (by simpa using h0) ?_
        rw [decide_eq_false h0, Bool.false_or] at hQ
        refine ⟨_, rfl, dJ jp, .str "parted", hv1, .str _, shJ jp, sh_parted, _, rfl, ?_⟩
        rw [eqv_J]
        rcases twoB jp.isNone with hn | hn
        · refine iteP hn ?_
          rw [hn, Bool.true_or] at hQ
          exact hQ
        · refine iteQ (neT hn) ?_
          rw [hn, Bool.false_or] at hQ
          exact ⟨_, rfl, p1, _, _, _, rfl, rfl, hp1', i5, _, rfl, hQ⟩
    · refine ⟨_, rfl, k _ _ s1 ?_⟩
      by_cases h2 : c = 0 ∨ fv.ot = true
      · rw [if_pos h2]
        exact hv1
      · rw [if_neg h2]
        have : jp = none := by
          rw [Bool.or_eq_true, Bool.or_eq_true] at hh
          rcases hh with h | h | h
          · exact absurd (.inl (by have := of_decide_eq_true h; omega)) h2
          · cases jp with
            | none => rfl
            | some x => cases h
          · exact absurd (.inr h) h2
        rw [this] at hv1 ⊢
        exact hv1
    have h2 : ¬ (c = 0 ∨ fv.ot = true) := fun q => hh (by
      rw [Bool.or_eq_true, Bool.or_eq_true]
      rcases q with q | q
      · exact .inl (decide_eq_true (by omega))
      · exact .inr (.inr q))
    rw [if_neg h2] at k
    have hc0 : c ≠ 0 := fun e => h2 (.inl e)
    cases jp with
    | none => exact absurd (by rw [Bool.or_eq_true, Bool.or_eq_true]; exact .inr (.inl rfl)) hh
    | some jx =>
      have wx := Wp jx rfl
      have t := wf_tot (by omega) a2 (by omega) b2 wx
      have q1 := withL_ok (by omega) a2 wx.s1 hc0 hf fv.k
      have q2 := withL_ok (by omega) b2 wx.s2 hc0 hs sv.k
      refine ⟨_, rfl, v1, jx, rfl, hv1, fun p H2 x y s2 hp' hx hy => ?_⟩
      refine ⟨p, _, rfl, hp', rfl, _, _, rfl, _, _, rfl, rfl, ?_⟩
      have s12 := s1.trans s2
      refine ⟨_, rfl, pl, _, _, _, rfl, rfl, seqT_same s12 hpl, atI_nat (j := 0) rfl, _, rfl, _, rfl, _, rfl, L1, x, _, side1 jx, c, fv, rfl, a1, by omega, hc0, by omega, hx, wx.s1.z, sm_tot t.1 (by decide), dp_same s12 _ _ hu1, hf, fun v3 H3 s3 hv3 => ?_⟩
      have s13 := s12.trans s3
      refine ⟨_, rfl, pl, _, _, _, rfl, rfl, seqT_same s13 hpl, atI_nat (j := 1) rfl, _, rfl, _, rfl, _, rfl, L2, y, _, side2 jx, c, sv, rfl, b1, by omega, hc0, by omega, dp_same s3 _ _ hy, wx.s2.z, sm_tot t.2 (by decide), dp_same s13 _ _ hu2, hs, fun v4 H4 s4 hv4 => ?_⟩
      refine ⟨v3, v4, _, _, rfl, dp_same s4 _ _ hv3, hv4, sm_tot (n := 204) (by rw [q1.2]; omega) (by decide), sm_tot (n := 204) (by rw [q2.2]; omega) (by decide), fun v' H' s' hv' => k v' H' (s13.trans (s4.trans s')) hv'⟩
end
end Pa
set_option maxRecDepth 100000
set_option maxHeartbeats 4000000
/-! ### enumerate(tuple) -/
namespace PySem
open Sem (wp)
open AutoSeq1 (wpAny_loadPart')
section
variable {prog : Program} {w : World} {A : Around} {E : Value → Shared → Prop} {s : Shared}
theorem pa_nextOf_tuple_item {it l : Addr} {i : Nat} {items : Array Value} {x : Value} {Q : Value → Shared → Prop} (hit : s.heap.IsTupleIter it l i) (hl : s.heap.IsTuple l items) (hx : items[i]? = some x)
    (hQ : ∀ h', h'.IsTupleIter it l (i + 1) → Heap.SameBut it s.heap h' → Q x { s with heap := h' }) : wpAny (model prog w) A (Builtin.SmallTypes.nextOf (.ref it)) Q E s := by
  obtain ⟨o, ho, hc, hd⟩ := id hit
  obtain ⟨ol, hol, _, nl, hdl⟩ := hl
  unfold Builtin.SmallTypes.nextOf
  refine wpAny_bind (wpAny_callSpecial?_slot (name := Str.ofString "__next__") hit.typeIs F.slot_tuple_iterator_next
    (wpAny_call_entry F.slot_tuple_iterator_next hit.typeIs F.entry_tuple_iterator_next ?_ (F.args_tuple_iterator_next_1 _)))
  show wpAny _ _ (field (.ref it) 0 >>= _) _ _ s
  refine wpAny_bind (wpAny_field ho hd (x := .ref l) rfl ?_)
  show wpAny _ _ (if (Value.ref l == Value.none) = true then _ else _) _ _ s
  rw [if_neg (show ¬ ((Value.ref l == Value.none) = true) from Bool.false_ne_true)]
  show wpAny _ _ (field (.ref it) 1 >>= _) _ _ s
  refine wpAny_bind (wpAny_field ho hd (x := .int i 0) rfl ?_)
  show wpAny _ _ (seqItems? (.ref l) >>= _) _ _ s
  refine wpAny_bind (wpAny_seqItems hol hdl ?_)
  simp only [Int.toNat_natCast, hx]
  refine wpAny_bind (wpAny_setField ho hd (by simp) (wpAny_pure ⟨x, rfl, wpAny_pure (hQ _ ?_ (Heap.SameBut.update ..))⟩))
  exact ⟨_, Heap.get?_update_self _ ho (Obj.isFreed_of_fields (Obj.data_mapFields hd _)), (Obj.cls_mapFields ..).trans hc, by
    rw [Obj.data_mapFields hd]; simp [rawInt]⟩
theorem pa_nextOf_tuple_end {it l : Addr} {i : Nat} {items : Array Value} {Q : Value → Shared → Prop} (hh : A.handled = none) (hit : s.heap.IsTupleIter it l i) (hl : s.heap.IsTuple l items) (hx : items[i]? = none)
    (hE : ∀ h' e, Heap.ExtBut it s.heap h' → (∃ o, h'.get? e = some o ∧ o.cls = .type "StopIteration") → E (.ref e) { s with heap := h' }) : wpAny (model prog w) A (Builtin.SmallTypes.nextOf (.ref it)) Q E s := by
  obtain ⟨o, ho, hc, hd⟩ := id hit
  obtain ⟨ol, hol, _, nl, hdl⟩ := hl
  unfold Builtin.SmallTypes.nextOf
  refine wpAny_bind (wpAny_callSpecial?_slot (name := Str.ofString "__next__") hit.typeIs F.slot_tuple_iterator_next
    (wpAny_call_entry F.slot_tuple_iterator_next hit.typeIs F.entry_tuple_iterator_next ?_ (F.args_tuple_iterator_next_1 _)))
  show wpAny _ _ (field (.ref it) 0 >>= _) _ _ s
  refine wpAny_bind (wpAny_field ho hd (x := .ref l) rfl ?_)
  show wpAny _ _ (if (Value.ref l == Value.none) = true then _ else _) _ _ s
  rw [if_neg (show ¬ ((Value.ref l == Value.none) = true) from Bool.false_ne_true)]
  show wpAny _ _ (field (.ref it) 1 >>= _) _ _ s
  refine wpAny_bind (wpAny_field ho hd (x := .int i 0) rfl ?_)
  show wpAny _ _ (seqItems? (.ref l) >>= _) _ _ s
  refine wpAny_bind (wpAny_seqItems hol hdl ?_)
  simp only [Int.toNat_natCast, hx]
  refine wpAny_bind (wpAny_rule (wpAny_bind (wpAny_setField ho hd (by simp) ?_)))
  show wpAny _ _ (newExc (.type "StopIteration") [] >>= _) _ _ _
  refine wpAny_bind ?_
  simp only [newExc, newTuple]
  refine wpAny_bind (wpAny_newObj_type ?_ (by size_fits))
  refine wpAny_bind (m := firstArgMember _ _) (wpAny_of_eq (a := Value.none) (by first | rfl | (simp only [firstArgMember]; rfl)) ?_)
  refine wpAny_newObj_type ?_ (by size_fits)
  simp only [raiseNew]
  refine wpAny_bind (wpAny_handled ?_)
  first | rw [show A.in1.handled = none from hh] | rw [hh]
  refine wpAny_bind (wpAny_pure (wpAny_throw ?_))
  exact hE _ _ (((Heap.SameBut.update ..).extBut.push _).push _) ⟨_, Heap.get?_push_size _ rfl, rfl⟩
end
theorem pa_draws_tuple {prog : Program} {w : World} {A : Around} (hh : A.handled = none) (it l : Addr) (hne : l ≠ it) (items : Array Value) :
    Draws prog w A it [it, l] items.size (fun i v => items[i]? = some v) (fun i h => h.IsTupleIter it l i ∧ h.IsTuple l items) where
  live := fun _ _ st => let ⟨o, ho, _⟩ := st.1; ⟨o, ho⟩
  frame := fun _ _ _ st hk => ⟨st.1.at fun o e => hk it (by simp) o e, let ⟨o, a, b⟩ := st.2; ⟨o, hk l (by simp) o a, b⟩⟩
  item := fun i s Q E hi st hQ => by
    refine pa_nextOf_tuple_item st.1 st.2 (x := items[i]) (by simp [hi]) fun h' hit' hs' => ?_
    exact hQ _ h' s.toks (by simp [hi]) ⟨hit', st.2.extBut hs'.extBut hne⟩ hs'
  done := fun s Q E st hE => pa_nextOf_tuple_end hh st.1 st.2 (by simp) hE
theorem pa_meets_enum_newT (l : Addr) (items : Array Value) (n : Nat) (dct : Option Addr) (sl : Array (Option Value)) :
    Meets (Builtin.«enumerate.__new__» ⟨[.type "enumerate", .ref l], []⟩) (fun _ R s => s.heap.get? l = some { cls := .type "tuple", dict := dct, data := .seq items n, slots := sl } ∧
      R (.ok (.ret (.ref (s.heap.push { cls := .type "tuple_iterator", data := .fields #[.ref l, .int 0 0] }).objs.size)))
        { s with heap := (s.heap.push { cls := .type "tuple_iterator", data := .fields #[.ref l, .int 0 0] }).push { cls := .type "enumerate", data := .fields #[.none, .bool false, .ref s.heap.objs.size, rawInt 0, .none, .none] } }) :=
  .of_wp fun prog w A R s h => by
    obtain ⟨hp, g, d, tk, os⟩ := s; obtain ⟨hl, h⟩ := h
    have hsub := sub_enumerate
    have hL : Heap.IsTuple (Shared.heap ⟨hp, g, d, tk, os⟩) l items := ⟨_, hl, rfl, n, rfl⟩
    wp_walk using wpAny_loadPart' hl
    refine wpAny_stack_any fun st => wpAny_pure ?_
    split
    · rename_i c _ _ _ _ _
      cases (c == Value.type "enumerate")
      · wp_walk using wpAny_loadPart' hl, wpAny_pyIter_tuple hL
        exact ⟨_, rfl, h⟩
      · wp_walk using wpAny_loadPart' hl, wpAny_pyIter_tuple hL
        exact ⟨_, rfl, h⟩
    · wp_walk using wpAny_loadPart' hl, wpAny_pyIter_tuple hL
      exact ⟨_, rfl, h⟩
theorem pa_call_enum_tuple {prog : Program} {w : World} {A : Around} {E : Value → Shared → Prop} {s : Shared} {l : Addr} {items : Array Value} {Q : Value → Shared → Prop} (hL : s.heap.IsTuple l items)
    (h : ∀ h', IsEnum h' (s.heap.objs.size + 1) s.heap.objs.size 0 .none → h'.IsTupleIter s.heap.objs.size l 0 → h'.objs.size = s.heap.objs.size + 2 →
      (∀ b o, s.heap.get? b = some o → h'.get? b = some o) → Q (.ref (s.heap.objs.size + 1)) { s with heap := h' }) :
    wpAny (model prog w) A (call (.type "enumerate") [.ref l]) Q E s := by
  obtain ⟨⟨c, dct, dt, sl⟩, hl, hc, n, hd⟩ := hL
  replace hc : c = .type "tuple" := hc
  replace hd : dt = .seq items n := hd
  subst hc hd
  refine callType_new F.called_enumerate (by decide) (F.typeCall_enumerate_1 _) (F.newCall_enumerate_1 _) (fun obj => F.args_object_init_2 obj _) F.entry_enumerate_new
    (pa_meets_enum_newT l items n dct sl) ⟨hl, ?_⟩
  have hz : (s.heap.push { cls := .type "tuple_iterator", data := .fields #[.ref l, .int 0 0] }).objs.size = s.heap.objs.size + 1 := Heap.size_push ..
  show _ ∧ _
  rw [hz]
  have he : IsEnum ((s.heap.push { cls := .type "tuple_iterator", data := .fields #[.ref l, .int 0 0] }).push
      { cls := .type "enumerate", data := .fields #[.none, .bool false, .ref s.heap.objs.size, rawInt 0, .none, .none] }) (s.heap.objs.size + 1) s.heap.objs.size 0 .none := by
    have := Heap.get?_push_size (s.heap.push { cls := .type "tuple_iterator", data := .fields #[.ref l, .int 0 0] })
      (o := { cls := .type "enumerate", data := .fields #[.none, .bool false, .ref s.heap.objs.size, rawInt 0, .none, .none] }) rfl
    rw [hz] at this; exact this
  refine ⟨⟨_, he, rfl⟩, h _ he ⟨_, Heap.get?_push_of_some _ (Heap.get?_push_size _ rfl), rfl, rfl⟩ (by rw [Heap.size_push, hz]) fun b o x => Heap.get?_push_of_some _ (Heap.get?_push_of_some _ x)⟩
end PySem
namespace Pa
open PySem PySem.Spec PyProof.Rows L2
/-- the tuple at a, each item in a new pair -/
def IteT (K : PySem.W.Frag) (a : Addr) : It :=
  ⟨fun i H => ∃ (xs : List V) (x : V), SqT K H a xs ∧ xs[i]? = some x, fun i H v H' => ∃ T x, v = .ref T ∧ H T = none ∧ H' = upd H T (.tup [.int (i : Nat), x]) ∧ ∀ xs, SqT K H a xs → xs[i]? = some x, fun i H => ∃ xs : List V, SqT K H a xs ∧ xs.length ≤ i⟩
theorem turn_enumT {P : Program} {w : World} {K : PySem.W.Frag} {elts : List Expr} {kk : Nat} {tpos : Pos} (a e it : Addr) :
    Turn P w K (.Tuple elts kk tpos) (IteT K a) [e, it] e (fun i h => (∃ old, IsEnum h e it ((i : Nat) : Int) old) ∧ h.IsTupleIter it a i ∧ e ≠ it) where
  mem := by simp
  obj := fun i h st b hb => by
    obtain ⟨⟨old, he⟩, ⟨o, ho, hc, hd⟩, _⟩ := st
    have e' : b = e ∨ b = it := by simpa using hb
    rcases e' with z | z
    · rw [z]; exact ⟨_, he, fun v q => nomatch q⟩
    · rw [z]; exact ⟨o, ho, fun v q => by rw [hd] at q; cases q⟩
  keep := fun i h h' st k => let ⟨⟨old, he⟩, hi, hne⟩ := st; ⟨⟨old, k e (by simp) _ he⟩, hi.at fun o q => k it (by simp) o q, hne⟩
  item := by
    intro X hP hw hK hc i pins s σ H E I hf st hg
    subst hP hw hK
    obtain ⟨⟨old, he⟩, hit, hne⟩ := st
    obtain ⟨xs, x, hq, hx⟩ := hg
    obtain ⟨its, rv, p, hz⟩ := I.tuple hq
    obtain ⟨u, hu, ru⟩ := rv.get hx
    have hel : e < s.heap.objs.size := Heap.lt_size he
    have hil : it < s.heap.objs.size := by obtain ⟨_, q, _⟩ := hit; exact Heap.lt_size q
    have ht : s.heap.IsTuple a its.toArray := p
    have hae : a ≠ e := fun q => by obtain ⟨o, e1, e2, _⟩ := ht; rw [q, he] at e1; cases e1; exact absurd (Value.type.inj e2) (by decide)
    have hai : a ≠ it := fun q => by
      obtain ⟨o, e1, e2, _⟩ := ht
      obtain ⟨o2, g1, g2, _⟩ := hit
      rw [q, g1] at e1
      cases e1
      exact absurd (Value.type.inj (g2.symm.trans e2)) (by decide)
    have hlt : i < its.toArray.size := by
      have := (List.getElem?_eq_some_iff.mp hu).1
      simpa using this
    refine wpAny_pyNext_enum_itemD (pa_draws_tuple (A := X.A.in1) (I.ok.hd hc) it a hai its.toArray) he ⟨hit, ht⟩ hlt hne (by simp [hne]; exact fun q => hae q.symm) fun y h' tk hP ho hst' hT hsz hk => ?_
    have ey : y = u := by
      have h1 : its.toArray[i]? = some y := hP
      have h2 : its.toArray[i]? = some u := by simpa using hu
      rw [h1] at h2
      exact Option.some.inj h2
    subst ey
    refine ⟨_, rfl, wpAny_letOwnedTupleGo_enum (s := { s with heap := h', toks := tk + 1 }) ho fun h'' he' sb => ?_⟩
    have hT2 : h''.get? s.heap.objs.size = some { cls := .type "tuple", data := .seq #[.int i tk, y] } := (sb.2 _ (Nat.ne_of_gt hel)).trans hT
    have new : ObjOk X.prog X.w (upd H s.heap.objs.size (.tup [.int (i : Nat), x])) h'' s.heap.objs.size (.tup [.int (i : Nat), x]) :=
      ⟨by show 2 ≤ sizeLine; decide, [.int i tk, y], .cons ⟨_, rfl⟩ (.cons ru .nil), ⟨_, hT2, rfl, _, rfl⟩⟩
    have I1 : Inv X pins σ (upd H s.heap.objs.size (.tup [.int (i : Nat), x])) { s with heap := h'', toks := tk + 1 } :=
      I.turnedNew (ch := [e, it]) (fun b ob hb q => (sb.2 b (fun z => hb (by simp [z]))).trans (hk b ob (fun z => hb (by simp [z])) (fun z => hb (by simp [z])) q)) hf (Nat.le_refl _) new
    refine ⟨.ref s.heap.objs.size, _, I1, rfl, ⟨_, x, rfl, I.hok.fresh (Nat.le_refl _), rfl, fun ys hy => by rw [I.tuple_inj hy hq]; exact hx⟩, ⟨⟨y, ?_⟩, hst'.1.at fun o q => (sb.2 it (Ne.symm hne)).trans q, hne⟩, fun b hb => ?_⟩
    · have e1 : ((i + 1 : Nat) : Int) = (i : Int) + 1 := by omega
      rw [e1]; exact he'
    · have hb' : b < s.heap.objs.size := by
        have e' : b = e ∨ b = it := by simpa using hb
        rcases e' with z | z
        · rw [z]; exact hel
        · rw [z]; exact hil
      rw [upd_ne (Nat.ne_of_lt hb')]
      exact (hf b hb).1
  done := by
    intro X hP hw hK hc i pins s σ H E I hf st hg
    subst hP hw hK
    obtain ⟨⟨old, he⟩, hit, hne⟩ := st
    obtain ⟨xs, hq, hx⟩ := hg
    obtain ⟨its, rv, p, hz⟩ := I.tuple hq
    obtain ⟨f0, f1, f2, f3, f4, f5⟩ := hf it (by simp)
    have hl := rv.length
    have hT : s.TypeIs (.ref e) "enumerate" := ⟨_, he, rfl⟩
    unfold pyNext
    refine wpAny_bind (wpAny_attempt (wpAny_callSpecial?_slot (name := Str.ofString "__next__") hT F.slot_enumerate_next
      (wpAny_call_entry F.slot_enumerate_next hT F.entry_enumerate_next ?_ (F.args_enumerate_next_1 _))))
    show wpAny _ _ (field (.ref e) 2 >>= _) _ _ _
    refine wpAny_bind (wpAny_field he rfl (x := .ref it) rfl ?_)
    refine wpAny_bind (pa_nextOf_tuple_end (I.ok.hd hc) hit (show s.heap.IsTuple a its.toArray from p) (by simp; omega) fun h' x eb hx' => ?_)
    obtain ⟨o, ho, hc'⟩ := hx'
    refine wpAny_bind (wpAny_isInstance (T := "StopIteration") (b := true) ⟨o, ho, hc'⟩ isSubtype_stop ?_)
    exact wpAny_pure ⟨rfl, I.turned (t' := s.toks) (fun b o hb q => eb b o hb q) f0 f1 f3 f4 f5⟩
  self := fun A i s Q E st h => let ⟨⟨_, he⟩, _⟩ := st; wpAny_pyIter_enum he h
def iEnumT (K : PySem.W.Frag) (ta : TA) : TI := fun σ H R => ta σ H fun vs H1 => ∃ a xs, vs = [.ref a] ∧ SqT K H1 a xs ∧ R (IteT K a) H1
theorem pi_enumT {X : Cx} {e : Expr} {ta : TA} {p pos tpos : Pos} {elts : List Expr} {kk : Nat} (hg : Gl X "enumerate") (hm : X.mg "enumerate" = none) (ha : PA X [e] ta) (hs : starEach [e] X.env = [(false, eval e X.env)] := by rfl) :
    PI X (.Tuple elts kk tpos) (.Call (.Name "enumerate" p) [e] [] pos) (iEnumT X.K ta) := by
  refine ⟨fun pins s σ H R I h => ?_⟩
  refine Call_ (ld_blt I hg hm boot_enumerate (PyProof.Rows.callWith_type1 (thn (ha.run pos pins s σ H _ I h) fun us s1 ⟨vs, H1, I1, r1, q1⟩ => ?_) hs rfl))
  obtain ⟨a, xs, ex, hq, q⟩ := q1
  subst ex
  cases r1 with
  | cons r rr =>
    cases rr
    cases r
    obtain ⟨its, rv, p', hz⟩ := I1.tuple hq
    refine pa_call_enum_tuple (show s1.heap.IsTuple a its.toArray from p') fun h' he hit hsz hk => wpAny_pyIter_enum he ?_
    have I2 : Inv X pins σ H1 { s1 with heap := h' } := I1.kept (t' := s1.toks) hk
    refine ⟨s1.heap.objs.size + 1, [s1.heap.objs.size + 1, s1.heap.objs.size], _, _, H1, rfl, I2, turn_enumT a (s1.heap.objs.size + 1) s1.heap.objs.size, ⟨⟨.none, he⟩, hit, Nat.succ_ne_self _⟩, fun b hb => ?_, q⟩
    have e' : b = s1.heap.objs.size + 1 ∨ b = s1.heap.objs.size := by simpa using hb
    have hle : s1.heap.objs.size ≤ b := by
      rcases e' with z | z
      · rw [z]; exact Nat.le_add_right _ _
      · rw [z]; exact Nat.le_refl _
    exact I1.fpOk hle (I1.hok.fresh hle)
theorem walk_enumT {K : PySem.W.Frag} {a : Addr} {xs : List V} : Walk (IteT K a) xs.length (fun H => SqT K H a xs) (YPair (fun i => some (.int (i : Nat))) (fun i => xs[i]?)) := by
  refine ⟨fun i _ hi q => ⟨xs, xs[i], q, by simp [hi]⟩, fun _ q => ⟨xs, q, Nat.le_refl _⟩, fun i H v H' _ q y => ?_⟩
  obtain ⟨T, x, h1, h2, h3, h4⟩ := y
  exact ⟨T, .int (i : Nat), x, h1, h2, h3, rfl, h4 xs q⟩
end Pa
set_option maxRecDepth 100000
set_option maxHeartbeats 4000000
namespace Pa
open PySem PySem.Spec PyProof.Rows L2 SrtO
/-! ### a side with all that it settled, against the Page that set all -/
structure Full (L : Int) (q : SB) (S : Sd) : Prop where
  w : WfS L S
  y : yOf q = zY S.z
  lo : q.lo = (S.o.length : Int)
  rows : ∃ A : List Int, S.st = A.map lnv ∧ q.rows = A ++ S.o.map fun x => x + (q.h - q.t)
theorem Full.ht {L : Int} {q : SB} {S : Sd} (F : Full L q S) : q.kd = zKd S.z ∧ q.h = S.z.2.1 ∧ q.t = S.z.2.2 :=
  ⟨congrArg (fun x => x.1) F.y, congrArg (fun x => x.2.1) F.y, congrArg (fun x => x.2.2) F.y⟩
theorem std_pos {L : Int} {z : Z3} (h : StdZ L z) (ht : 0 < z.2.2) : z.2.2 < z.2.1 := by
  unfold StdZ at h
  rcases h with h | h | h
  · omega
  · omega
  · rw [h] at ht; exact absurd ht (by decide)
theorem o_nil {L : Int} {S : Sd} (W : WfS L S) (ht : S.z.2.2 = 0) : S.o = [] := by
  have := W.up
  rw [ht] at this
  exact Up.nil_of (a := -1) (by simpa using this)
theorem stay_eq {L : Int} {S : Sd} (W : WfS L S) : stayO S.z S.o = (S.o.map fun x => x + (S.z.2.1 - S.z.2.2)).map lnv := by
  unfold stayO
  rw [List.map_map]
  refine List.map_congr_left fun x hx => ?_
  have h1 := (Up.low W.up).2 x hx
  have h2 := std_pos W.z (by omega)
  show (false, S.z.2.1 - S.z.2.2 + x) = lnv (x + (S.z.2.1 - S.z.2.2))
  unfold lnv
  rw [decide_eq_false (by omega), show S.z.2.1 - S.z.2.2 + x = x + (S.z.2.1 - S.z.2.2) by omega]
theorem full_rows {L : Int} {q : SB} {S : Sd} (F : Full L q S) : q.rows.map lnv = S.st ++ stayO S.z S.o := by
  obtain ⟨A, e1, e2⟩ := F.rows
  rw [e2, List.map_append, e1, stay_eq F.w, F.ht.2.1, F.ht.2.2]
theorem full_page {L : Int} (hL : 0 ≤ L) (hL4 : L ≤ 4) {q : SB} {S : Sd} (F : Full L q S) : Full L (due0 q true) (withP S) := by
  refine ⟨(withP_ok hL hL4 F.w).1, rfl, rfl, q.rows, ?_, ?_⟩
  · show S.st ++ stayO S.z S.o = _
    exact (full_rows F).symm
  · show q.rows = q.rows ++ List.map _ []
    simp
theorem map_sub {d : Int} (l : List Int) : ((l.map fun x => x + d).map fun x => x - d) = l := by
  rw [List.map_map]
  conv => rhs; rw [← List.map_id l]
  refine List.map_congr_left fun x _ => ?_
  show x + d - d = x
  omega
theorem map_add {d : Int} (l : List Int) : ((l.map fun x => x - d).map fun x => x + d) = l := by
  rw [List.map_map]
  conv => rhs; rw [← List.map_id l]
  refine List.map_congr_left fun x _ => ?_
  show x - d + d = x
  omega
theorem simF {L : Int} {q : SB} {S : Sd} (F : Full L q S) : SimB q.rows S.o.length (q.h - q.t) q (res0 (zKd S.z) S.z.2.1 S.z.2.2) := by
  obtain ⟨h1, h2, h3⟩ := F.ht
  have hlo := F.lo
  obtain ⟨kd, h, t, lo, rows⟩ := q
  dsimp only at h1 h2 h3 hlo
  subst h1 h2 h3 hlo
  have hz := std_t F.w.z
  have t0 : 0 ≤ S.z.2.2 := by
    rcases hz with h | h
    · exact h.1
    · rw [h]; exact Int.le_refl _
  refine ⟨rfl, rfl, rfl, t0, fun z => ?_, fun z => ?_, fun z => ?_⟩
  · dsimp only [res0] at z ⊢
    split at z
    · rename_i ht
      exact ⟨by simp, rfl, by simp, rfl, ht⟩
    · cases z
  · dsimp only [res0] at z ⊢
    split at z
    · cases z
    · rename_i ht
      have := o_nil F.w (by omega)
      rw [this]
      exact ⟨by simp, by simp, by simp, by simp⟩
  · dsimp only [res0] at z
    split at z <;> cases z
theorem take_drop_lo {r : RB} : preR r ++ sufR r = r.rows := List.take_append_drop _ _
theorem suf_len {r : RB} (h0 : 0 ≤ r.lo) (h1 : r.lo ≤ (r.rows.length : Int)) : ((sufR r).length : Int) = r.lo := by
  unfold sufR
  rw [List.length_drop]
  omega
theorem full_lines {L : Int} (hL : 1 ≤ L) (hL4 : L ≤ 4) {q : SB} {S : Sd} (F : Full L q S) {c : Nat} (hc : c ≠ 0) {s : Int} (hs : 0 ≤ s) (k : Bool) : Full L (blockP L q ⟨c, s, k, false⟩) (withL L c s k S) := by
  obtain ⟨z', M⟩ := blk_ok hL F.w.z hc hs k
  have W' := (withL_ok hL hL4 F.w hc hs k).1
  have hcc : S.o.length ≤ q.rows.length := by
    obtain ⟨A, _, e⟩ := F.rows
    rw [e]
    simp
  have S1 : SimB q.rows S.o.length (q.h - q.t) (blockP L q ⟨c, s, k, false⟩) (blkR L S.z c s k) := sim_block hcc (simF F) (b := ⟨c, s, k, false⟩) hs
  have ez : zOf ((blkR L S.z c s k).kd, (blkR L S.z c s k).h, (blkR L S.z c s k).t) = z' := by rw [M.y, zOf_zY M.std]
  have hlo := S1.sim.lo
  dsimp only at hlo
  have hsuf := suf_len hlo.1 hlo.2
  have htd := take_drop_lo (r := blkR L S.z c s k)
  obtain ⟨A, eA, eR⟩ := F.rows
  have sn := S1.sim.none
  have ss := S1.sim.stay
  have so := S1.sim.over
  have hh := S1.sim.h
  have ht := S1.sim.t
  have hk := S1.kd
  dsimp only at sn ss so hh ht
  have ey : yOf (blockP L q ⟨c, s, k, false⟩) = zY z' := by
    rw [← M.y]
    unfold yOf
    rw [hk, hh, ht]
  have est := stay_eq F.w
  have hq := F.ht
  unfold withL at W' ⊢
  refine ⟨W', ?_, ?_, ?_⟩
  · dsimp only
    rw [ez]
    exact ey
  all_goals dsimp only
  all_goals generalize blkR L S.z c s k = r at *
  all_goals generalize blockP L q ⟨c, s, k, false⟩ = q' at *
  · cases hw : r.w with
    | none =>
      obtain ⟨a1, a2, a3, a4, a5⟩ := sn hw
      show q'.lo = (((S.o ++ _).length : Nat) : Int)
      rw [List.length_append, List.length_map, a3]
      omega
    | some v =>
      have e2 : r.lo = q'.lo := by
        cases v with
        | false => exact (ss hw).2.1
        | true => exact (so hw).2.1
      show q'.lo = ((([] ++ _ : List Int).length : Nat) : Int)
      rw [List.nil_append, List.length_map, hsuf, e2]
  · cases hw : r.w with
    | none =>
      obtain ⟨a1, a2, a3, a4, a5⟩ := sn hw
      refine ⟨A ++ preR r, ?_, ?_⟩
      · show S.st ++ _ = _
        rw [eA, List.map_append]
      · have hp : preR r = [] := by
          unfold preR
          rw [a2, Int.toNat_natCast, Nat.sub_self, List.take_zero]
        rw [hp, List.nil_append] at htd
        show q'.rows = (A ++ preR r) ++ (S.o ++ _).map _
        rw [hp, List.append_nil, List.map_append, hh, ht, map_add, htd, a1, eR, a4, List.append_assoc]
    | some v =>
      cases v with
      | false =>
        obtain ⟨a1, a2, a3, a4⟩ := ss hw
        refine ⟨q.rows ++ preR r, ?_, ?_⟩
        · show S.st ++ stayO S.z S.o ++ _ = _
          rw [← full_rows F, List.map_append]
        · show q'.rows = (q.rows ++ preR r) ++ ([] ++ _).map _
          rw [List.nil_append, hh, ht, map_add, List.append_assoc, htd, a1]
      | true =>
        obtain ⟨a1, a2, a3, a4⟩ := so hw
        refine ⟨A ++ S.o ++ preR r, ?_, ?_⟩
        · show S.st ++ goneO S.o ++ _ = _
          unfold goneO
          rw [eA, List.map_append, List.map_append]
        · have eo : overR q.rows (S.o.length : Int) (q.h - q.t) = A ++ S.o := by
            unfold overR
            have e1 : q.rows.length - ((S.o.length : Nat) : Int).toNat = A.length := by
              rw [eR, List.length_append, List.length_map, Int.toNat_natCast]
              omega
            rw [e1]
            conv => lhs; rw [eR]
            rw [List.take_left' rfl, List.drop_left' rfl, map_sub]
          show q'.rows = (A ++ S.o ++ preR r) ++ ([] ++ _).map _
          rw [List.nil_append, hh, ht, map_add, List.append_assoc, htd, a1, eo]
end Pa
set_option maxRecDepth 100000
set_option maxHeartbeats 4000000
namespace Pa
open PySem PySem.Spec PyProof.Rows L2 SrtO
/-! ### two styles block by block, against two Pages that set all -/
abbrev JRow := Nat × Vl × Vl
def plS (L : Int) (q : SB) (c : Nat) (v : Vl) : SB := if v.ot = true then q else blockP L q ⟨c, v.sp, v.k, v.pg⟩
def q0 : SB := ⟨false, 0, 0, 0, []⟩
def pl1 (L : Int) (rs : List JRow) : SB := rs.foldl (fun q r => plS L q r.1 r.2.1) q0
def pl2 (L : Int) (rs : List JRow) : SB := rs.foldl (fun q r => plS L q r.1 r.2.2) q0
def szV (c : Nat) (v : Vl) : Nat := if v.ot = true then 0 else c
def sz1 (rs : List JRow) : List Nat := rs.map fun r => szV r.1 r.2.1
def sz2 (rs : List JRow) : List Nat := rs.map fun r => szV r.1 r.2.2
def jBeg : Option JD := some ⟨(2, 0, 0), [], (2, 0, 0), [], []⟩
def jAll (L1 L2 : Int) (rs : List JRow) : Option JD := rs.foldl (fun j r => blockJ L1 L2 j r.1 r.2.1 r.2.2) jBeg
def pre (C : List LnV) (S : Sd) : Sd := ⟨C ++ S.st, S.z, S.o⟩
theorem pre_page (C : List LnV) (S : Sd) : withP (pre C S) = pre C (withP S) := by
  unfold withP pre
  simp only [List.append_assoc]
theorem pre_lines (L : Int) (c : Nat) (s : Int) (k : Bool) (C : List LnV) (S : Sd) : withL L c s k (pre C S) = pre C (withL L c s k S) := by
  unfold withL pre
  dsimp only
  cases (blkR L S.z c s k).w with
  | none => simp only [stW, oW, List.append_assoc]
  | some v => simp only [stW, oW, List.append_assoc]
/-- two lists of settled lines that part -/
def Part (a b : List LnV) : Prop := ∃ (i : Nat) (x y : LnV), a[i]? = some x ∧ b[i]? = some y ∧ x ≠ y
theorem part_of : ∀ {a b : List LnV}, a.length = b.length → a ≠ b → Part a b
  | [], [], _, h => absurd rfl h
  | [], y :: b, e, _ => by simp at e
  | x :: a, [], e, _ => by simp at e
  | x :: a, y :: b, e, h => by
    by_cases hxy : x = y
    · obtain ⟨i, u, v, h1, h2, h3⟩ := part_of (a := a) (b := b) (by simpa using e) (fun q => h (by rw [hxy, q]))
      exact ⟨i + 1, u, v, h1, h2, h3⟩
    · exact ⟨0, x, y, rfl, rfl, hxy⟩
theorem part_app {a b : List LnV} (h : Part a b) (a' b' : List LnV) : Part (a ++ a') (b ++ b') := by
  obtain ⟨i, x, y, h1, h2, h3⟩ := h
  refine ⟨i, x, y, ?_, ?_, h3⟩
  · rw [List.getElem?_append_left (List.getElem?_eq_some_iff.mp h1).1, h1]
  · rw [List.getElem?_append_left (List.getElem?_eq_some_iff.mp h2).1, h2]
theorem part_pre {a b : List LnV} (h : Part a b) (C : List LnV) : Part (C ++ a) (C ++ b) := by
  obtain ⟨i, x, y, h1, h2, h3⟩ := h
  refine ⟨C.length + i, x, y, ?_, ?_, h3⟩
  · rw [List.getElem?_append_right (by omega), Nat.add_sub_cancel_left, h1]
  · rw [List.getElem?_append_right (by omega), Nat.add_sub_cancel_left, h2]
theorem part_ne {a b : List LnV} (h : Part a b) : a ≠ b := by
  obtain ⟨i, x, y, h1, h2, h3⟩ := h
  intro e
  rw [e, h2] at h1
  exact h3 (Option.some.inj h1).symm
def PartF (L1 L2 : Int) (p1 p2 : SB) : Prop := ∃ S1 S2, Full L1 p1 S1 ∧ Full L2 p2 S2 ∧ Part S1.st S2.st
structure JSome (L1 L2 : Int) (p1 p2 : SB) (j : JD) : Prop where
  ex : ∃ C, Full L1 p1 (pre C (side1 j)) ∧ Full L2 p2 (pre C (side2 j))
  tt : tot (side1 j) = tot (side2 j)
def JInv (L1 L2 : Int) (p1 p2 : SB) : Option JD → Prop
  | none => PartF L1 L2 p1 p2
  | some j => JSome L1 L2 p1 p2 j
theorem join_inv {L1 L2 : Int} {p1 p2 : SB} {a b : Sd} {C : List LnV} (F1 : Full L1 p1 (pre C a)) (F2 : Full L2 p2 (pre C b)) (ht : tot a = tot b) : JInv L1 L2 p1 p2 (joinS a b) := by
  unfold joinS
  by_cases h : a.st.take (mmin a.st b.st) = b.st.take (mmin a.st b.st)
  · rw [if_pos h]
    have ht' := ht
    unfold tot at ht'
    by_cases hlt : a.o.length < b.o.length
    · have hm : mmin a.st b.st = b.st.length := by unfold mmin; omega
      rw [hm] at h ⊢
      rw [List.take_of_length_le (Nat.le_refl _)] at h
      have e1 : side1 ⟨a.z, a.o, b.z, b.o, a.st.drop b.st.length ++ b.st.drop b.st.length⟩ = ⟨a.st.drop b.st.length, a.z, a.o⟩ := by
        unfold side1
        dsimp only
        rw [if_pos hlt, List.drop_of_length_le (Nat.le_refl b.st.length), List.append_nil]
      have e2 : side2 ⟨a.z, a.o, b.z, b.o, a.st.drop b.st.length ++ b.st.drop b.st.length⟩ = ⟨[], b.z, b.o⟩ := by
        unfold side2
        dsimp only
        rw [if_pos hlt]
      refine ⟨⟨C ++ b.st, ?_, ?_⟩, ?_⟩
      · rw [e1]
        have : pre (C ++ b.st) ⟨a.st.drop b.st.length, a.z, a.o⟩ = pre C a := by
          unfold pre
          dsimp only
          have q := List.take_append_drop b.st.length a.st
          rw [h] at q
          rw [List.append_assoc, q]
        rw [this]
        exact F1
      · rw [e2]
        have : pre (C ++ b.st) ⟨[], b.z, b.o⟩ = pre C b := by
          unfold pre
          dsimp only
          rw [List.append_nil]
        rw [this]
        exact F2
      · rw [e1, e2]
        unfold tot
        dsimp only
        rw [List.length_drop, List.length_nil]
        omega
    · have hm : mmin a.st b.st = a.st.length := by unfold mmin; omega
      rw [hm] at h ⊢
      rw [List.take_of_length_le (Nat.le_refl a.st.length)] at h
      have e1 : side1 ⟨a.z, a.o, b.z, b.o, a.st.drop a.st.length ++ b.st.drop a.st.length⟩ = ⟨[], a.z, a.o⟩ := by
        unfold side1
        dsimp only
        rw [if_neg hlt]
      have e2 : side2 ⟨a.z, a.o, b.z, b.o, a.st.drop a.st.length ++ b.st.drop a.st.length⟩ = ⟨b.st.drop a.st.length, b.z, b.o⟩ := by
        unfold side2
        dsimp only
        rw [if_neg hlt, List.drop_of_length_le (Nat.le_refl a.st.length), List.nil_append]
      refine ⟨⟨C ++ a.st, ?_, ?_⟩, ?_⟩
      · rw [e1]
        have : pre (C ++ a.st) ⟨[], a.z, a.o⟩ = pre C a := by
          unfold pre
          dsimp only
          rw [List.append_nil]
        rw [this]
        exact F1
      · rw [e2]
        have : pre (C ++ a.st) ⟨b.st.drop a.st.length, b.z, b.o⟩ = pre C b := by
          unfold pre
          dsimp only
          have q := List.take_append_drop a.st.length b.st
          rw [← h] at q
          rw [List.append_assoc, q]
        rw [this]
        exact F2
      · rw [e1, e2]
        unfold tot
        dsimp only
        rw [List.length_drop, List.length_nil]
        omega
  · rw [if_neg h]
    have hp : Part (a.st.take (mmin a.st b.st)) (b.st.take (mmin a.st b.st)) := part_of (by
      rw [List.length_take, List.length_take]
      unfold mmin
      omega) h
    have hq := part_app hp (a.st.drop (mmin a.st b.st)) (b.st.drop (mmin a.st b.st))
    rw [List.take_append_drop, List.take_append_drop] at hq
    exact ⟨_, _, F1, F2, part_pre hq C⟩
theorem due0_f (q : SB) : due0 q false = q := rfl
theorem page_full {L : Int} (hL : 1 ≤ L) (hL4 : L ≤ 4) {p : SB} {C : List LnV} {S : Sd} (F : Full L p (pre C S)) (g : Bool) : Full L (due0 p g) (pre C (if g = true then withP S else S)) := by
  cases g with
  | false => exact F
  | true =>
    have := full_page (by omega) hL4 F
    rw [pre_page] at this
    exact this
theorem page_st {L : Int} (hL : 1 ≤ L) (hL4 : L ≤ 4) {p : SB} {S : Sd} (F : Full L p S) (g : Bool) : ∃ S' e, Full L (due0 p g) S' ∧ S'.st = S.st ++ e := by
  cases g with
  | false => exact ⟨S, [], F, by simp⟩
  | true => exact ⟨_, _, full_page (by omega) hL4 F, rfl⟩
theorem lines_st {L : Int} (hL : 1 ≤ L) (hL4 : L ≤ 4) {p : SB} {S : Sd} (F : Full L p S) {c : Nat} (hc : c ≠ 0) {s : Int} (hs : 0 ≤ s) (k : Bool) : ∃ S' e, Full L (blockP L p ⟨c, s, k, false⟩) S' ∧ S'.st = S.st ++ e := by
  refine ⟨_, ?_, full_lines hL hL4 F hc hs k, ?_⟩
  · exact (match (blkR L S.z c s k).w with
      | none => []
      | some g => (if g = true then goneO S.o else stayO S.z S.o)) ++ (preR (blkR L S.z c s k)).map lnv
  · unfold withL
    dsimp only
    cases (blkR L S.z c s k).w with
    | none => simp only [stW, List.nil_append]
    | some v => simp only [stW, List.append_assoc]
theorem page_inv {L1 L2 : Int} (a1 : 1 ≤ L1) (a2 : L1 ≤ 4) (b1 : 1 ≤ L2) (b2 : L2 ≤ 4) {p1 p2 : SB} {j : Option JD} (I : JInv L1 L2 p1 p2 j) (f s : Bool) : JInv L1 L2 (due0 p1 f) (due0 p2 s) (pageJ j f s) := by
  cases j with
  | none =>
    obtain ⟨S1, S2, F1, F2, hp⟩ := I
    obtain ⟨T1, e1, G1, h1⟩ := page_st a1 a2 F1 f
    obtain ⟨T2, e2, G2, h2⟩ := page_st b1 b2 F2 s
    exact ⟨T1, T2, G1, G2, by rw [h1, h2]; exact part_app hp _ _⟩
  | some j =>
    obtain ⟨⟨C, F1, F2⟩, ht⟩ := I
    show JInv L1 L2 _ _ (joinS _ _)
    refine join_inv (page_full a1 a2 F1 f) (page_full b1 b2 F2 s) ?_
    have t : ∀ S : Sd, tot (withP S) = tot S := fun S => by unfold tot withP stayO; simp
    cases f <;> cases s <;> simp [t, ht]
theorem lines_tot {L : Int} (hL : 1 ≤ L) (hL4 : L ≤ 4) {p : SB} {C : List LnV} {S : Sd} (F : Full L p (pre C S)) {c : Nat} (hc : c ≠ 0) {s : Int} (hs : 0 ≤ s) (k : Bool) : tot (withL L c s k S) = tot S + c := by
  have := (withL_ok hL hL4 F.w hc hs k).2
  rw [pre_lines] at this
  unfold tot pre at this
  unfold tot
  simp only [List.length_append] at this
  omega
theorem lines_inv {L1 L2 : Int} (a1 : 1 ≤ L1) (a2 : L1 ≤ 4) (b1 : 1 ≤ L2) (b2 : L2 ≤ 4) {p1 p2 : SB} {j : Option JD} (I : JInv L1 L2 p1 p2 j) {c : Nat} (hc : c ≠ 0) {f s : Vl} (hf : 0 ≤ f.sp) (hs : 0 ≤ s.sp) : JInv L1 L2 (blockP L1 p1 ⟨c, f.sp, f.k, false⟩) (blockP L2 p2 ⟨c, s.sp, s.k, false⟩) (linesJ L1 L2 j c f s) := by
  cases j with
  | none =>
    obtain ⟨S1, S2, F1, F2, hp⟩ := I
    obtain ⟨T1, e1, G1, h1⟩ := lines_st a1 a2 F1 hc hf f.k
    obtain ⟨T2, e2, G2, h2⟩ := lines_st b1 b2 F2 hc hs s.k
    exact ⟨T1, T2, G1, G2, by rw [h1, h2]; exact part_app hp _ _⟩
  | some j =>
    obtain ⟨⟨C, F1, F2⟩, ht⟩ := I
    have G1 := full_lines a1 a2 F1 hc hf f.k
    have G2 := full_lines b1 b2 F2 hc hs s.k
    rw [pre_lines] at G1 G2
    show JInv L1 L2 _ _ (joinS _ _)
    exact join_inv G1 G2 (by rw [lines_tot a1 a2 F1 hc hf, lines_tot b1 b2 F2 hc hs, ht])
theorem block_due (L : Int) (q : SB) (c : Nat) (s : Int) (k g : Bool) (hc : c ≠ 0) : blockP L q ⟨c, s, k, g⟩ = blockP L (due0 q g) ⟨c, s, k, false⟩ := by
  unfold blockP
  simp only [due0_f]
theorem block_nil (L : Int) (q : SB) (s : Int) (k g : Bool) : blockP L q ⟨0, s, k, g⟩ = due0 q g := by
  unfold blockP
  simp
theorem pl_nil (L : Int) (q : SB) (v : Vl) : plS L q 0 v = due0 q (v.pg && !v.ot) := by
  unfold plS
  cases ho : v.ot with
  | true => simp [due0_f]
  | false => simp [block_nil]
theorem pl_out {L : Int} {q : SB} {c : Nat} {v : Vl} (h : v.ot = true) : plS L q c v = due0 q (v.pg && !v.ot) := by
  unfold plS
  rw [if_pos h, h]
  simp [due0_f]
theorem pl_in {L : Int} {q : SB} {c : Nat} {v : Vl} (h : v.ot ≠ true) (hc : c ≠ 0) : plS L q c v = blockP L (due0 q (v.pg && !v.ot)) ⟨c, v.sp, v.k, false⟩ := by
  unfold plS
  rw [if_neg h, block_due L q c _ _ _ hc]
  have : v.ot = false := by simpa using h
  rw [this]
  simp
theorem block_inv {L1 L2 : Int} (a1 : 1 ≤ L1) (a2 : L1 ≤ 4) (b1 : 1 ≤ L2) (b2 : L2 ≤ 4) {p1 p2 : SB} {j : Option JD} (I : JInv L1 L2 p1 p2 j) (c : Nat) {f s : Vl} (hf : 0 ≤ f.sp) (hs : 0 ≤ s.sp) (hn : ¬ (0 < c ∧ f.ot ≠ s.ot)) :
    JInv L1 L2 (plS L1 p1 c f) (plS L2 p2 c s) (blockJ L1 L2 j c f s) := by
  unfold blockJ
  rw [if_neg hn]
  have P := page_inv a1 a2 b1 b2 I (f.pg && !f.ot) (s.pg && !s.ot)
  by_cases h : c = 0 ∨ f.ot = true
  · rw [if_pos h]
    by_cases hc : c = 0
    · rw [hc, pl_nil, pl_nil]
      exact P
    · have h1 : f.ot = true := h.resolve_left hc
      have h2 : s.ot = true := by
        by_cases e : f.ot = s.ot
        · rw [← e, h1]
        · exact absurd ⟨by omega, e⟩ hn
      rw [pl_out h1, pl_out h2]
      exact P
  · rw [if_neg h]
    have hc : c ≠ 0 := fun e => h (.inl e)
    have h1 : f.ot ≠ true := fun e => h (.inr e)
    have h2 : s.ot ≠ true := by
      by_cases e : f.ot = s.ot
      · rw [← e]; exact h1
      · exact absurd ⟨by omega, e⟩ hn
    rw [pl_in h1 hc, pl_in h2 hc]
    exact lines_inv a1 a2 b1 b2 P hc hf hs
end Pa
set_option maxRecDepth 100000
set_option maxHeartbeats 4000000
namespace Pa
open PySem PySem.Spec PyProof.Rows L2 SrtO
theorem blockJ_none (L1 L2 : Int) (c : Nat) (f s : Vl) : blockJ L1 L2 none c f s = none := by
  unfold blockJ
  split
  · rfl
  · split
    · rfl
    · rfl
theorem jAll_snoc (L1 L2 : Int) (rs : List JRow) (r : JRow) : jAll L1 L2 (rs ++ [r]) = blockJ L1 L2 (jAll L1 L2 rs) r.1 r.2.1 r.2.2 := by
  unfold jAll
  rw [List.foldl_append]
  rfl
theorem pl1_snoc (L : Int) (rs : List JRow) (r : JRow) : pl1 L (rs ++ [r]) = plS L (pl1 L rs) r.1 r.2.1 := by
  unfold pl1
  rw [List.foldl_append]
  rfl
theorem pl2_snoc (L : Int) (rs : List JRow) (r : JRow) : pl2 L (rs ++ [r]) = plS L (pl2 L rs) r.1 r.2.2 := by
  unfold pl2
  rw [List.foldl_append]
  rfl
theorem sz1_snoc (rs : List JRow) (r : JRow) : sz1 (rs ++ [r]) = sz1 rs ++ [szV r.1 r.2.1] := by unfold sz1; rw [List.map_append]; rfl
theorem sz2_snoc (rs : List JRow) (r : JRow) : sz2 (rs ++ [r]) = sz2 rs ++ [szV r.1 r.2.2] := by unfold sz2; rw [List.map_append]; rfl
theorem full0 (L : Int) : Full L q0 ⟨[], (2, 0, 0), []⟩ :=
  ⟨⟨.inr (.inr rfl), rfl, (fun x h => by cases h), (fun x h => by cases h)⟩, rfl, rfl, [], rfl, rfl⟩
theorem sz_same {c : Nat} {f s : Vl} (hn : ¬ (0 < c ∧ f.ot ≠ s.ot)) : szV c f = szV c s := by
  unfold szV
  by_cases hc : c = 0
  · subst hc
    split <;> split <;> rfl
  · by_cases e : f.ot = s.ot
    · rw [e]
    · exact absurd ⟨by omega, e⟩ hn
theorem sz_diff {c : Nat} {f s : Vl} (hn : 0 < c ∧ f.ot ≠ s.ot) : szV c f ≠ szV c s := by
  unfold szV
  cases h1 : f.ot <;> cases h2 : s.ot
  · exact absurd (h1.trans h2.symm) hn.2
  · simp; omega
  · simp; omega
  · exact absurd (h1.trans h2.symm) hn.2
theorem snoc_ne {a b : List Nat} {x y : Nat} (hl : a.length = b.length) (h : a ≠ b ∨ x ≠ y) : a ++ [x] ≠ b ++ [y] := by
  intro e
  obtain ⟨e1, e2⟩ := List.append_inj e hl
  rcases h with h | h
  · exact h e1
  · exact h (by simpa using e2)
theorem sz_len (rs : List JRow) : (sz1 rs).length = (sz2 rs).length := by unfold sz1 sz2; rw [List.length_map, List.length_map]
theorem fold_inv {L1 L2 : Int} (a1 : 1 ≤ L1) (a2 : L1 ≤ 4) (b1 : 1 ≤ L2) (b2 : L2 ≤ 4) (rs : List JRow) (h : ∀ r ∈ rs, 0 ≤ r.2.1.sp ∧ 0 ≤ r.2.2.sp) :
    (sz1 rs ≠ sz2 rs ∧ jAll L1 L2 rs = none) ∨ (sz1 rs = sz2 rs ∧ JInv L1 L2 (pl1 L1 rs) (pl2 L2 rs) (jAll L1 L2 rs)) := by
  rw [← List.reverse_reverse rs] at h ⊢
  generalize rs.reverse = l at h
  induction l with
  | nil =>
    right
    refine ⟨rfl, ⟨⟨[], ?_, ?_⟩, rfl⟩⟩
    · exact full0 L1
    · exact full0 L2
  | cons r l ih =>
    rw [List.reverse_cons] at h ⊢
    rw [jAll_snoc, pl1_snoc, pl2_snoc, sz1_snoc, sz2_snoc]
    have hr := h r (by simp)
    rcases ih fun y hy => h y (List.mem_append_left _ hy) with ⟨i1, i2⟩ | ⟨i1, i2⟩
    · left
      exact ⟨snoc_ne (sz_len _) (.inl i1), by rw [i2, blockJ_none]⟩
    · by_cases hn : 0 < r.1 ∧ r.2.1.ot ≠ r.2.2.ot
      · left
        refine ⟨snoc_ne (sz_len _) (.inr (sz_diff hn)), ?_⟩
        unfold blockJ
        rw [if_pos hn]
      · right
        exact ⟨by rw [i1, sz_same hn], block_inv a1 a2 b1 b2 i2 r.1 hr.1 hr.2 hn⟩
theorem tot_page (S : Sd) : (withP S).st.length = tot S := by
  unfold tot withP stayO
  simp
theorem end_inv {L1 L2 : Int} {p1 p2 : SB} {j : Option JD} (I : JInv L1 L2 p1 p2 j) : (pageJ j true true).isSome = true ↔ p1.rows.map lnv = p2.rows.map lnv := by
  cases j with
  | none =>
    obtain ⟨S1, S2, F1, F2, hp⟩ := I
    refine ⟨(fun e => by cases e), fun e => ?_⟩
    rw [full_rows F1, full_rows F2] at e
    exact absurd e (part_ne (part_app hp _ _))
  | some j =>
    obtain ⟨⟨C, F1, F2⟩, ht⟩ := I
    have e1 : p1.rows.map lnv = C ++ (withP (side1 j)).st := by
      rw [full_rows F1]
      show (C ++ (side1 j).st) ++ stayO (side1 j).z (side1 j).o = C ++ ((side1 j).st ++ stayO (side1 j).z (side1 j).o)
      rw [List.append_assoc]
    have e2 : p2.rows.map lnv = C ++ (withP (side2 j)).st := by
      rw [full_rows F2]
      show (C ++ (side2 j).st) ++ stayO (side2 j).z (side2 j).o = C ++ ((side2 j).st ++ stayO (side2 j).z (side2 j).o)
      rw [List.append_assoc]
    have hl : (withP (side1 j)).st.length = (withP (side2 j)).st.length := by rw [tot_page, tot_page, ht]
    show (joinS (withP (side1 j)) (withP (side2 j))).isSome = true ↔ _
    rw [e1, e2, List.append_right_inj]
    generalize withP (side1 j) = a at hl
    generalize withP (side2 j) = b at hl
    have hm : mmin a.st b.st = a.st.length := by unfold mmin; omega
    unfold joinS
    rw [hm, List.take_of_length_le (Nat.le_refl _), List.take_of_length_le (by omega)]
    by_cases h : a.st = b.st
    · rw [if_pos h]
      exact ⟨fun _ => h, fun _ => rfl⟩
    · rw [if_neg h]
      exact ⟨(fun e => by cases e), fun e => absurd e h⟩
theorem jnt_main {L1 L2 : Int} (a1 : 1 ≤ L1) (a2 : L1 ≤ 4) (b1 : 1 ≤ L2) (b2 : L2 ≤ 4) (rs : List JRow) (h : ∀ r ∈ rs, 0 ≤ r.2.1.sp ∧ 0 ≤ r.2.2.sp) :
    (pageJ (jAll L1 L2 rs) true true).isSome = true ↔ (sz1 rs = sz2 rs ∧ (pl1 L1 rs).rows.map lnv = (pl2 L2 rs).rows.map lnv) := by
  rcases fold_inv a1 a2 b1 b2 rs h with ⟨i1, i2⟩ | ⟨i1, i2⟩
  · rw [i2]
    exact ⟨(fun e => by cases e), fun e => absurd e.1 i1⟩
  · rw [end_inv i2]
    exact ⟨fun e => ⟨i1, e⟩, fun e => e.2⟩
/-! ### the blocks of one style, as a book of their own -/
def bsV (bl : List (Nat × Vl)) : List Bl := (bl.filter fun b => !b.2.ot).map fun b => ⟨b.1, b.2.sp, b.2.k, b.2.pg⟩
theorem plV (L : Int) (bl : List (Nat × Vl)) : ∀ q : SB, bl.foldl (fun q b => plS L q b.1 b.2) q = (bsV bl).foldl (blockP L) q := by
  induction bl with
  | nil => intro q; rfl
  | cons b bl ih =>
    intro q
    rw [List.foldl_cons, ih]
    unfold bsV plS
    rw [List.filter_cons]
    cases h : b.2.ot with
    | true => simp
    | false => simp
def bl1 (rs : List JRow) : List (Nat × Vl) := rs.map fun r => (r.1, r.2.1)
def bl2 (rs : List JRow) : List (Nat × Vl) := rs.map fun r => (r.1, r.2.2)
theorem pl1_page (L : Int) (rs : List JRow) : pl1 L rs = pageOf L (bsV (bl1 rs)) := by
  unfold pageOf
  show _ = (bsV (bl1 rs)).foldl (blockP L) q0
  rw [← plV]
  unfold pl1 bl1
  rw [List.foldl_map]
theorem pl2_page (L : Int) (rs : List JRow) : pl2 L rs = pageOf L (bsV (bl2 rs)) := by
  unfold pageOf
  show _ = (bsV (bl2 rs)).foldl (blockP L) q0
  rw [← plV]
  unfold pl2 bl2
  rw [List.foldl_map]
def szB (bl : List (Nat × Vl)) : List Nat := bl.map fun b => szV b.1 b.2
theorem sz1_b (rs : List JRow) : sz1 rs = szB (bl1 rs) := by unfold sz1 szB bl1; rw [List.map_map]; rfl
theorem sz2_b (rs : List JRow) : sz2 rs = szB (bl2 rs) := by unfold sz2 szB bl2; rw [List.map_map]; rfl
/-! ### block by block -/
def bySl : List Nat → List LnV → List (List LnV)
  | [], _ => []
  | n :: ns, P => P.take n :: bySl ns (P.drop n)
theorem bySl_inj : ∀ {ns ms : List Nat} {P R : List LnV}, P.length = ns.sum → R.length = ms.sum → (bySl ns P = bySl ms R ↔ ns = ms ∧ P = R)
  | [], [], P, R, h1, h2 => by
    rw [List.eq_nil_of_length_eq_zero h1, List.eq_nil_of_length_eq_zero h2]
    simp [bySl]
  | [], m :: ms, P, R, h1, h2 => by simp [bySl]
  | n :: ns, [], P, R, h1, h2 => by simp [bySl]
  | n :: ns, m :: ms, P, R, h1, h2 => by
    rw [List.sum_cons] at h1 h2
    have ih := bySl_inj (ns := ns) (ms := ms) (P := P.drop n) (R := R.drop m) (by rw [List.length_drop]; omega) (by rw [List.length_drop]; omega)
    constructor
    · intro e
      have e : P.take n :: bySl ns (P.drop n) = R.take m :: bySl ms (R.drop m) := e
      rw [List.cons.injEq] at e
      obtain ⟨e1, e2⟩ := e
      obtain ⟨e3, e4⟩ := ih.mp e2
      have el := congrArg List.length e1
      rw [List.length_take, List.length_take] at el
      have em : n = m := by omega
      refine ⟨by rw [em, e3], ?_⟩
      rw [← List.take_append_drop n P, ← List.take_append_drop m R, e1, e4]
    · rintro ⟨e1, e2⟩
      rw [e1, e2]
theorem lines_sum : ∀ (bs : List Bl) (t : LS), (bs.foldl stepB t).ls.length = t.ls.length + (bs.map (·.c)).sum
  | [], t => by simp
  | b :: bs, t => by
    rw [List.foldl_cons, lines_sum bs]
    unfold stepB blLines
    simp only [List.length_append, List.length_map, List.length_range, List.map_cons, List.sum_cons]
    omega
theorem bs_sum : ∀ bl : List (Nat × Vl), ((bsV bl).map (·.c)).sum = (szB bl).sum
  | [] => rfl
  | b :: bl => by
    have ih := bs_sum bl
    unfold bsV szB at ih ⊢
    rw [List.filter_cons, List.map_cons, List.sum_cons, ← ih]
    unfold szV
    cases h : b.2.ot with
    | true => simp
    | false => simp
theorem rows_len {L : Int} (hL : 0 < L) (bs : List Bl) (h : ∀ b ∈ bs, 0 ≤ b.s) : (pageOf L bs).rows.length = (bs.map (·.c)).sum := by
  have g := (good_lines bs h).1
  rw [rows_same hL bs h, (right_ok hL g).1]
  unfold linesOf
  rw [lines_sum]
  simp
theorem bs_sp {bl : List (Nat × Vl)} (h : ∀ b ∈ bl, 0 ≤ b.2.sp) : ∀ b ∈ bsV bl, 0 ≤ b.s := fun b hb => by
  unfold bsV at hb
  obtain ⟨x, hx, rfl⟩ := List.mem_map.mp hb
  exact h x ((List.mem_filter.mp hx).1)
/-- the places of one style's lines, the whole book on end -/
def plcs (L : Int) (bl : List (Nat × Vl)) : List LnV := (rowsOf (runS L (linesOf (bsV bl)).ls)).map lnv
theorem plcs_len {L : Int} (hL : 0 < L) {bl : List (Nat × Vl)} (h : ∀ b ∈ bl, 0 ≤ b.2.sp) : (plcs L bl).length = (szB bl).sum := by
  unfold plcs
  rw [List.length_map, ← rows_same hL _ (bs_sp h), rows_len hL _ (bs_sp h), bs_sum]
theorem k44_main {L1 L2 : Int} (a1 : 1 ≤ L1) (a2 : L1 ≤ 4) (b1 : 1 ≤ L2) (b2 : L2 ≤ 4) (rs : List JRow) (h : ∀ r ∈ rs, 0 ≤ r.2.1.sp ∧ 0 ≤ r.2.2.sp) :
    (pageJ (jAll L1 L2 rs) true true).isSome = true ↔ bySl (szB (bl1 rs)) (plcs L1 (bl1 rs)) = bySl (szB (bl2 rs)) (plcs L2 (bl2 rs)) := by
  have h1 : ∀ b ∈ bl1 rs, 0 ≤ b.2.sp := fun b hb => by
    obtain ⟨r, hr, rfl⟩ := List.mem_map.mp hb
    exact (h r hr).1
  have h2 : ∀ b ∈ bl2 rs, 0 ≤ b.2.sp := fun b hb => by
    obtain ⟨r, hr, rfl⟩ := List.mem_map.mp hb
    exact (h r hr).2
  rw [jnt_main a1 a2 b1 b2 rs h, bySl_inj (plcs_len (by omega) h1) (plcs_len (by omega) h2), ← sz1_b, ← sz2_b]
  unfold plcs
  rw [← rows_same (by omega) _ (bs_sp h1), ← rows_same (by omega) _ (bs_sp h2), ← pl1_page, ← pl2_page]
end Pa
set_option maxRecDepth 100000
set_option maxHeartbeats 4000000
namespace Pa
open PySem PySem.Spec PyProof.Rows L2 SrtO
/-! ### the law's lines, its cut, its places -/
/-- two lists of lines that differ in the first one's due at most -/
structure Like (a b : List Ln) : Prop where
  len : a.length = b.length
  sp : ∀ i, (ln a i).sp = (ln b i).sp
  br : ∀ i, (ln a i).br = (ln b i).br
  du : ∀ i, 1 ≤ i → (ln a i).du = (ln b i).du
structure LLike (a b : LS) : Prop where
  kp : a.kp = b.kp
  ls : Like a.ls b.ls
  du : a.ls ≠ [] → a.du = b.du
  nil : a.ls = [] → b.du = true
theorem ln_app_lt {a c : List Ln} {i : Nat} (h : i < a.length) : ln (a ++ c) i = ln a i := by
  unfold ln
  rw [List.getElem?_append_left h]
theorem ln_app_ge {a c : List Ln} {i : Nat} (h : a.length ≤ i) : ln (a ++ c) i = ln c (i - a.length) := by
  unfold ln
  rw [List.getElem?_append_right h]
theorem ln_bl (c : Nat) (s : Int) (kp du : Bool) (n i : Nat) : ln (blLines c s kp du n) i = if i < n then blLn c s kp du i else ⟨0, false, false⟩ := by
  unfold ln blLines
  rw [List.getElem?_map]
  by_cases h : i < n
  · rw [if_pos h, List.getElem?_range h]
    rfl
  · rw [if_neg h, List.getElem?_eq_none (by rw [List.length_range]; omega)]
    rfl
theorem bl_len (c : Nat) (s : Int) (kp du : Bool) (n : Nat) : (blLines c s kp du n).length = n := by
  unfold blLines
  rw [List.length_map, List.length_range]
theorem bl_like (c : Nat) (s : Int) (kp d1 d2 : Bool) : Like (blLines c s kp d1 c) (blLines c s kp d2 c) := by
  refine ⟨by rw [bl_len, bl_len], fun i => ?_, fun i => ?_, fun i hi => ?_⟩
  · rw [ln_bl, ln_bl]
    unfold blLn
    split
    · split <;> rfl
    · rfl
  · rw [ln_bl, ln_bl]
    unfold blLn
    split
    · split <;> rfl
    · rfl
  · rw [ln_bl, ln_bl]
    unfold blLn
    split
    · rw [if_neg (by omega), if_neg (by omega)]
    · rfl
theorem like_app {a b : List Ln} (h : Like a b) (c : List Ln) : Like (a ++ c) (b ++ c) := by
  refine ⟨by rw [List.length_append, List.length_append, h.len], fun i => ?_, fun i => ?_, fun i hi => ?_⟩
  all_goals
    by_cases hl : i < a.length
    · rw [ln_app_lt hl, ln_app_lt (by rw [← h.len]; exact hl)]
      first | exact h.sp i | exact h.br i | exact h.du i hi
    · rw [ln_app_ge (by omega), ln_app_ge (by rw [← h.len]; omega), h.len]
theorem like_step {a b : LS} (h : LLike a b) (x : Bl) : LLike (stepB a x) (stepB b x) := by
  by_cases hc : x.c = 0
  · have e : ∀ t : LS, stepB t x = ⟨t.ls, t.du || x.g, t.kp⟩ := fun t => by
      unfold stepB
      rw [hc]
      show LS.mk (t.ls ++ []) _ _ = _
      rw [List.append_nil]
      rfl
    rw [e, e]
    exact ⟨h.kp, h.ls, fun q => by dsimp only; rw [h.du q], fun q => by dsimp only; rw [h.nil q]; rfl⟩
  · have e : ∀ t : LS, stepB t x = ⟨t.ls ++ blLines x.c x.s t.kp (t.du || x.g) x.c, false, x.k⟩ := fun t => by
      unfold stepB
      rw [if_neg hc, if_neg hc]
    rw [e, e]
    refine ⟨rfl, ?_, fun _ => rfl, fun q => ?_⟩
    · dsimp only
      by_cases hn : a.ls = []
      · have hb : b.ls = [] := List.eq_nil_of_length_eq_zero (by rw [← h.ls.len, hn]; rfl)
        rw [hn, hb, List.nil_append, List.nil_append, h.kp]
        exact bl_like _ _ _ _ _
      · rw [h.du hn, h.kp]
        exact like_app h.ls _
    · dsimp only at q
      have := congrArg List.length q
      rw [List.length_append, bl_len] at this
      simp at this
      omega
def lawLines (bl : List (Nat × Vl)) : LS := (bsV bl).foldl stepB ⟨[], false, false⟩
theorem law_like (bl : List (Nat × Vl)) : LLike (lawLines bl) (linesOf (bsV bl)) := by
  have key : ∀ (bs : List Bl) (a b : LS), LLike a b → LLike (bs.foldl stepB a) (bs.foldl stepB b) := by
    intro bs
    induction bs with
    | nil => intro a b h; exact h
    | cons x bs ih => intro a b h; exact ih _ _ (like_step h x)
  exact key _ _ _ ⟨rfl, ⟨rfl, fun _ => rfl, fun _ => rfl, fun _ _ => rfl⟩, fun q => absurd rfl q, fun _ => rfl⟩
/-! the cut -/
def kcGo (L : Int) (ls : List Ln) : Nat → Nat → Int → Option Nat → Nat
  | 0, _, _, _ => ls.length
  | n + 1, i, used, last =>
    if (ln ls i).du = true then i
    else if L < used + (ln ls i).sp + 1 then (if (ln ls i).br = false then i else last.getD i)
    else kcGo L ls n (i + 1) (used + (ln ls i).sp + 1) (if (ln ls i).br = false then some i else last)
def kCut (L : Int) (ls : List Ln) (start : Nat) : Nat := kcGo L ls (ls.length - (start + 1)) (start + 1) 1 none
theorem freeL_snoc (ls : List Ln) (lo i : Nat) (h : lo ≤ i) : freeL ls lo (i + 1) = freeL ls lo i ++ (if (ln ls i).br = false then [i] else []) := by
  unfold freeL
  have e : i + 1 - lo = (i - lo) + 1 := by omega
  rw [e, List.range'_concat, List.filter_append, Nat.one_mul]
  have e2 : lo + (i - lo) = i := by omega
  rw [e2, List.filter_cons, List.filter_nil]
  cases (ln ls i).br <;> rfl
theorem free_last (ls : List Ln) (lo i : Nat) (h : lo ≤ i) : (freeL ls lo (i + 1)).getLast? = if (ln ls i).br = false then some i else (freeL ls lo i).getLast? := by
  rw [freeL_snoc ls lo i h]
  split
  · rw [List.getLast?_append]
    rfl
  · rw [List.append_nil]
theorem kc_lc (L : Int) (ls : List Ln) (start : Nat) : ∀ (n i : Nat) (row : Int), start + 1 ≤ i → kcGo L ls n i (row + 1) (freeL ls (start + 1) i).getLast? = lcGo L ls start n i row
  | 0, i, row, h => rfl
  | n + 1, i, row, h => by
    rw [kcGo, lcGo]
    have hf := free_last ls (start + 1) i h
    by_cases hd : (ln ls i).du = true
    · rw [if_pos hd]
      simp only [if_pos hd]
    · rw [if_neg hd]
      simp only [if_neg hd]
      by_cases hl : L < row + 1 + (ln ls i).sp + 1
      · have hl2 : L ≤ row + (ln ls i).sp + 1 := by omega
        rw [if_pos hl, if_pos hl2, lastFree_eq, hf]
        split <;> rfl
      · have hl2 : ¬ L ≤ row + (ln ls i).sp + 1 := by omega
        rw [if_neg hl, if_neg hl2, ← hf, show row + 1 + (ln ls i).sp + 1 = (row + (ln ls i).sp + 1) + 1 by omega]
        exact kc_lc L ls start n (i + 1) _ (by omega)
theorem kcut_eq (L : Int) (ls : List Ln) (start : Nat) : kCut L ls start = lawCut L ls start := by
  unfold kCut lawCut
  have := kc_lc L ls start (ls.length - (start + 1)) (start + 1) 0 (Nat.le_refl _)
  have e : freeL ls (start + 1) (start + 1) = [] := by
    unfold freeL
    rw [Nat.sub_self]
    rfl
  rw [e] at this
  exact this
theorem kc_like {a b : List Ln} (h : Like a b) (L : Int) : ∀ (n i : Nat) (used : Int) (last : Option Nat), 1 ≤ i → kcGo L a n i used last = kcGo L b n i used last
  | 0, i, used, last, _ => h.len
  | n + 1, i, used, last, hi => by
    rw [kcGo, kcGo, h.sp i, h.br i, h.du i hi, kc_like h L n (i + 1) _ _ (by omega)]
theorem kcut_like {a b : List Ln} (h : Like a b) (L : Int) (start : Nat) : kCut L a start = kCut L b start := by
  unfold kCut
  rw [h.len, kc_like h L _ _ _ _ (by omega)]
/-! the places, page by page -/
def rwGo (ls : List Ln) : Nat → Nat → Int → List Int
  | 0, _, _ => []
  | n + 1, i, row => (row + 1 + (ln ls i).sp) :: rwGo ls n (i + 1) (row + 1 + (ln ls i).sp)
theorem rwGo_like {a b : List Ln} (h : Like a b) : ∀ (n i : Nat) (row : Int), rwGo a n i row = rwGo b n i row
  | 0, _, _ => rfl
  | n + 1, i, row => by rw [rwGo, rwGo, h.sp i, rwGo_like h n (i + 1)]
theorem rwGo_pg (ls : List Ln) : ∀ (xs p q : List Ln) (row : Int), ls = p ++ xs ++ q → (pgGo row xs).map (·.1) = rwGo ls xs.length p.length row
  | [], p, q, row, e => rfl
  | x :: xs, p, q, row, e => by
    have hx : ln ls p.length = x := by
      rw [e, List.append_assoc]
      exact ln_at p x _
    show (row + x.sp + 1) :: (pgGo (row + x.sp + 1) xs).map (·.1) = (row + 1 + (ln ls p.length).sp) :: rwGo ls xs.length (p.length + 1) (row + 1 + (ln ls p.length).sp)
    rw [hx, show row + 1 + x.sp = row + x.sp + 1 by omega]
    have := rwGo_pg ls xs (p ++ [x]) q (row + x.sp + 1) (by rw [e]; simp)
    rw [this, List.length_append]
    rfl
/-- the rows of a page of the law that begins at `start` and has n lines -/
def rwPg (ls : List Ln) (start n : Nat) : List Int := if n = 0 then [] else 0 :: rwGo ls (n - 1) (start + 1) 0
theorem rwPg_seg {ls p s q : List Ln} (e : ls = p ++ s ++ q) : rw1 s = rwPg ls p.length s.length := by
  cases s with
  | nil => rfl
  | cons x s =>
    unfold rwPg rw1
    rw [if_neg (by simp)]
    show (0 : Int) :: (pgGo 0 s).map (·.1) = _
    have := rwGo_pg ls s (p ++ [x]) q 0 (by rw [e]; simp)
    rw [this, List.length_append]
    rfl
def plGo (L : Int) (ls : List Ln) : Nat → Nat → List Int
  | 0, _ => []
  | f + 1, sa => if sa < ls.length then rwPg ls sa (kCut L ls sa - sa) ++ plGo L ls f (kCut L ls sa) else []
theorem plGo_like {a b : List Ln} (h : Like a b) (L : Int) : ∀ f sa, plGo L a f sa = plGo L b f sa
  | 0, _ => rfl
  | f + 1, sa => by
    rw [plGo, plGo, h.len, kcut_like h L, plGo_like h L f]
    unfold rwPg
    rw [rwGo_like h]
theorem plGo_ok {L : Int} {ls : List Ln} (h0 : ∀ y ∈ ls, 0 ≤ y.sp) : ∀ (T : List (List Ln)) (pre : List Ln) (f : Nat), ls = pre ++ T.flatten → FJ L T → T.length ≤ f → plGo L ls f pre.length = (T.map rw1).flatten
  | [], pre, f, e, _, _ => by
    have : pre.length = ls.length := by rw [e]; simp
    cases f with
    | zero => rfl
    | succ f =>
      rw [plGo, if_neg (by omega)]
      rfl
  | s :: T, pre, 0, e, _, hf => by simp at hf
  | s :: T, pre, f + 1, e, ⟨hs, hj, hT⟩, hf => by
    have e2 : ls = pre ++ s ++ T.flatten := by rw [e]; simp
    have hsl : 1 ≤ s.length := List.length_pos_iff.mpr hs.1
    have hl : ls.length = pre.length + s.length + T.flatten.length := by rw [e2, List.length_append, List.length_append]
    have hc : kCut L ls pre.length = pre.length + s.length := by
      rw [kcut_eq]
      exact cut_J e2 hs h0 fun hne => hj fun q => hne (by rw [q]; rfl)
    have ih := plGo_ok h0 T (pre ++ s) f e2 hT (by simpa using hf)
    rw [plGo, if_pos (by omega), hc, Nat.add_sub_cancel_left, ← rwPg_seg e2]
    rw [List.length_append] at ih
    rw [ih]
    rfl
/-- the law's places are those of the book -/
theorem law_places {L : Int} (hL : 0 < L) {bl : List (Nat × Vl)} (h : ∀ b ∈ bl, 0 ≤ b.2.sp) {f : Nat} (hf : (lawLines bl).ls.length ≤ f) : (plGo L (lawLines bl).ls f 0).map lnv = plcs L bl := by
  have lk := (law_like bl).ls
  rw [plGo_like lk]
  have g := (good_lines _ (bs_sp h)).1
  obtain ⟨h1, h2, h3⟩ := run_ok hL _ g.nn g.first
  have eR : rowsOf (runS L (linesOf (bsV bl)).ls) = ((runS L (linesOf (bsV bl)).ls).reverse.map rw1).flatten := by
    unfold rowsOf rw1
    rw [List.map_flatten, List.map_map]
    rfl
  unfold plcs
  rw [eR]
  have hseg : (runS L (linesOf (bsV bl)).ls).reverse.length ≤ f := by
    have hne : ∀ (T : List (List Ln)), FJ L T → T.length ≤ T.flatten.length := by
      intro T
      induction T with
      | nil => intro _; exact Nat.le_refl _
      | cons s T ih =>
        intro ⟨hs, _, hT⟩
        have := ih hT
        have hsl : 1 ≤ s.length := List.length_pos_iff.mpr hs.1
        rw [List.flatten_cons, List.length_append, List.length_cons]
        omega
    have := hne _ (FJ_VS h2)
    rw [h3] at this
    rw [lk.len] at hf
    omega
  have := plGo_ok g.nn (runS L (linesOf (bsV bl)).ls).reverse [] f h3.symm (FJ_VS h2) hseg
  rw [← this]
  rfl
end Pa
set_option maxRecDepth 100000
set_option maxHeartbeats 4000000
namespace Pa
open PySem PySem.Spec PyProof.Rows L2 SrtO
theorem bk_of {b : Addr} {H H1 : Hp} (s : Same H H1) (hb : IsBag H b) : Bk b H H1 := by
  obtain ⟨g, x, c, e⟩ := hb
  exact ⟨⟨g, x, c, s _ _ e⟩, fun q o _ e => s q o e⟩
theorem bk_tups {b : Addr} {H H1 : Hp} (hb : IsBag H b) (x : Bk b H H1) : Tups H H1 := fun t vs h => x.keep _ _ (fun r => by
  obtain ⟨_, _, _, e⟩ := hb
  rw [r, e] at h
  cases h) h
def vT (v : Vl) : List V := [.int 0, .int v.m, .int v.sp, .bl v.k, .bl v.pg, .bl v.ot]
structure R3 where
  c : Nat
  f : Vl
  s : Vl
def RowAt (H : Hp) (x : V) (r : R3) : Prop := ∃ t f s, x = V.ref t ∧ H t = some (.tup [.int (r.c : Int), .ref f, .ref s]) ∧ H f = some (.tup (vT r.f)) ∧ H s = some (.tup (vT r.s))
theorem RowAt.mono {H H' : Hp} {x : V} {r : R3} (a : Tups H H') (h : RowAt H x r) : RowAt H' x r := by
  obtain ⟨t, f, s, e, h1, h2, h3⟩ := h
  exact ⟨t, f, s, e, a _ _ h1, a _ _ h2, a _ _ h3⟩
def ROk (r : R3) : Prop := r.c ≤ 6 ∧ 0 ≤ r.f.sp ∧ 0 ≤ r.s.sp
section
variable {P : Program} {w : World} {K : PySem.W.Frag} {mg : Str → Option Value} {base : Heap} {tp C CS : Addr}
/-! ### _law_values -/
def spVals : Sp := fun vs H Q _ => ∃ b : Addr, vs = [.ref b] ∧ IsBag H b ∧ ∀ (p : Addr) (H' : Hp) (vl : Vl), H p = none → Bk b H H' → H' p = some (.tup (vT vl)) → 0 ≤ vl.sp → Q (.ref p) H'
abbrev sL_values : Stmt := topS 31
theorem scL_values : FnScope ["_law_bag_here", "_law_space", "_law_kept", "_law_page"] ["_law_bag_here"] (defScope sL_values) := ⟨rfl, rfl, rfl, by decide +kernel, rfl, by decide +kernel, by decide +kernel⟩
theorem ok_vals {f : Addr} {fd : FuncData} (F : Fun K "_law_values" "_law_values" sL_values f fd) (C__law_draw : CallOk P w K mg base 1 "_law_draw" ["_law_bag_here", "_law_many"] spDraw) : FnOk P w K mg base CX0 2 f fd ["_law_bag_here"] spVals := by
  refine F.ok scL_values (fun vs H Q E h => ?_) (fun cdv A outer s H vs Q E hr h => ?_)
  · obtain ⟨b, rfl, _⟩ := h
    rfl
  · obtain ⟨b, rfl, hb, k⟩ := h
    refine ⟨_, (pss_cons (ps_par3 (i := 1) (j := 2) (l := 3) (by rfl) scL_values.nd rfl rfl rfl (by decide) (by decide) (by decide) rfl rfl rfl (pa_cons (pe_cc C__law_draw (hr.mono (by decide)) (by rfl) (pa_cons (pv 0) (pa_cons pe_int pa_nil))) (pa_cons (pe_cmpR op_eq (pe_cc C__law_draw (hr.mono (by decide)) (by rfl) (pa_cons (pv 0) (pa_cons pe_int pa_nil))) pe_int (nomark _)) (pa_cons (pe_cmpR op_eq (pe_cc C__law_draw (hr.mono (by decide)) (by rfl) (pa_cons (pv 0) (pa_cons pe_int pa_nil))) pe_int (nomark _)) pa_nil))) (by rfl))
      (pss_one (ps_ret (pe_tup (pa_cons pe_int (pa_cons (pe_op op_add pe_int (pe_cc C__law_draw (hr.mono (by decide)) (by rfl) (pa_cons (pv 0) (pa_cons pe_int pa_nil)))) (pa_cons (pv 1) (pa_cons (pv 2) (pa_cons (pv 3) (pa_cons (pe_cmpR op_eq (pe_cc C__law_draw (hr.mono (by decide)) (by rfl) (pa_cons (pv 0) (pa_cons pe_int pa_nil))) pe_int (nomark _)) pa_nil)))))))))), ?_⟩
    refine ⟨_, rfl, b, _, rfl, hb, by decide, by decide, fun d1 H1 d10 _ B1 => ?_⟩
    refine ⟨_, rfl, b, _, rfl, B1.bag, by decide, by decide, fun d2 H2 _ _ B2 => ⟨rfl, ?_⟩⟩
    refine ⟨_, rfl, b, _, rfl, B2.bag, by decide, by decide, fun d3 H3 _ _ B3 => ⟨rfl, ⟨_, _, _, rfl, ?_⟩⟩⟩
    refine ⟨_, rfl, b, _, rfl, B3.bag, by decide, by decide, fun d4 H4 _ _ B4 => ⟨1, d4, rfl, rfl, ?_⟩⟩
    refine ⟨_, rfl, _, rfl, _, rfl, _, rfl, b, _, rfl, B4.bag, by decide, by decide, fun d5 H5 _ _ B5 => ⟨rfl, ?_⟩⟩
    have BT := (((B1.trans B2).trans B3).trans B4).trans B5
    refine ⟨(by show 6 ≤ sizeLine; decide), fun p hp => ?_⟩
    exact k p _ ⟨1 + d4, d1, decide (V.int d2 = V.int 1), decide (V.int d3 = V.int 1), decide (V.int d5 = V.int 1)⟩ (BT.free hb hp) (BT.fresh hp) upd_same d10
/-! ### _law_row -/
def spRow : Sp := fun vs H Q _ => ∃ (b : Addr) (m : Int), vs = [.ref b, .int m] ∧ IsBag H b ∧ 0 ≤ m ∧ m ≤ 20 ∧ ∀ (p : Addr) (H' : Hp) (xs : List V) (rs : List R3), H p = none → Bk b H H' → H' p = some (.lst xs) → AllAt RowAt H' xs rs → (∀ r ∈ rs, ROk r) → rs.length = m.toNat → Q (.ref p) H'
abbrev sL_row : Stmt := topS 32
theorem scL_row : FnScope ["_law_bag_here", "_law_many", "_law_row_here", "_law_alike", "_law_turn", "_law_count", "_law_first", "_law_second"] ["_law_bag_here", "_law_many"] (defScope sL_row) := ⟨rfl, rfl, rfl, by decide +kernel, rfl, by decide +kernel, by decide +kernel⟩
theorem ok_row {f : Addr} {fd : FuncData} (F : Fun K "_law_row" "_law_row" sL_row f fd) (T : Txt K mg tp C) (C__law_draw : CallOk P w K mg base 1 "_law_draw" ["_law_bag_here", "_law_many"] spDraw) (C__law_values : CallOk P w K mg base 2 "_law_values" ["_law_bag_here"] spVals) : FnOk P w K mg base CX0 3 f fd ["_law_bag_here", "_law_many"] spRow := by
  refine F.ok scL_row (fun vs H Q E h => ?_) (fun cdv A outer s H vs Q E hr h => ?_)
  · obtain ⟨b, m, rfl, _⟩ := h
    rfl
  · obtain ⟨b, m, rfl, hb, m0, m20, k⟩ := h
    refine ⟨_, (pss_cons (ps_set (i := 2) scL_row.nd rfl (.inl rfl) (pe_lst pa_nil))
      (pss_cons (ps_set (i := 3) scL_row.nd rfl (.inl rfl) (pe_cc C__law_draw (hr.mono (by decide)) (by rfl) (pa_cons (pv 0) (pa_cons pe_int pa_nil))))
      (pss_cons (ps_for PassesOwn.never rfl (pi_range1 (by rfl) T.b_range (pa_cons (pv 1) pa_nil)) (pg_name (i := 4) scL_row.nd rfl (.inl rfl))
        (pss_cons (ps_set (i := 5) scL_row.nd rfl (.inl rfl) (pe_by (pe_ifExp (pt_cmpR op_eq (pe_cc C__law_draw (hr.mono (by decide)) (by rfl) (pa_cons (pv 0) (pa_cons pe_int pa_nil))) pe_int (nomark _)) (pe_cc C__law_draw (hr.mono (by decide)) (by rfl) (pa_cons (pv 0) (pa_cons pe_int pa_nil))) (pe_cc C__law_draw (hr.mono (by decide)) (by rfl) (pa_cons (pv 0) (pa_cons pe_int pa_nil))))))
        (pss_cons (ps_set (i := 6) scL_row.nd rfl (.inl rfl) (pe_cc C__law_values (hr.mono (by decide)) (by rfl) (pa_cons (pv 0) pa_nil)))
        (pss_cons (ps_set (i := 7) scL_row.nd rfl (.inl rfl) (pv 6))
        (pss_cons (ps_by (ps_if (pt_cmpR op_lt (pe_cc C__law_draw (hr.mono (by decide)) (by rfl) (pa_cons (pv 0) (pa_cons pe_int pa_nil))) (pv 3) (nomark _))
          (pss_one (ps_set (i := 7) scL_row.nd rfl (.inl rfl) (pe_cc C__law_values (hr.mono (by decide)) (by rfl) (pa_cons (pv 0) pa_nil))))
          pss_nil))
        (pss_cons (ps_by (ps_if (pt_by (PW.pt (pw_and (pt_cmpR op_ne (pe_ix ix_tup (pv 6) pe_int (fun _ _ => rfl)) (pe_ix ix_tup (pv 7) pe_int (fun _ _ => rfl)) (nomark _)) (pw_and1 (pt_cmpR op_eq (pe_cc C__law_draw (hr.mono (by decide)) (by rfl) (pa_cons (pv 0) (pa_cons pe_int pa_nil))) pe_int (nomark _))))))
          (pss_one (ps_set (i := 5) scL_row.nd rfl (.inl rfl) pe_int))
          pss_nil))
        (pss_one (ps_expr (pe_bm PySem.F.plainAttrs_list PySem.F.slot_list_append PySem.F.type_list_append mt_append (pv 2) (pa_cons (pe_tup (pa_cons (pv 5) (pa_cons (pv 6) (pa_cons (pv 7) pa_nil)))) pa_nil))))))))))
      (pss_one (ps_ret (pv 2)))))), ?_⟩
    refine ⟨Nat.zero_le _, fun D hD => ?_⟩
    have B0 : Bk b H (upd H D (.lst [])) := bk_of (same_new hD) hb
    have hD0 : (upd H D (.lst [])) D = some (.lst []) := upd_same
    generalize upd H D (.lst []) = H0 at B0 hD0 ⊢
    have nDb : D ≠ b := fun r => by
      obtain ⟨_, _, _, e⟩ := hb
      rw [← r, hD] at e
      cases e
    refine ⟨_, rfl, b, _, rfl, B0.bag, by decide, by decide, fun al H1 _ _ B1 => ?_⟩
    refine ⟨_, rfl, _, rfl, by omega, by omega, for_range (lo := 0) (n := m.toNat) (fun i σ H' => ∃ (y4 y5 y6 y7 : Option V) (xs : List V) (rs : List R3), σ = [some (.ref b), some (.int m), some (.ref D), some (.int al), y4, y5, y6, y7] ∧ Bk b H H' ∧ H' D = some (.lst xs) ∧ AllAt RowAt H' xs rs ∧ rs.length = i ∧ ∀ r ∈ rs, ROk r)
      ⟨none, none, none, none, [], [], rfl, B0.trans B1, B1.keep _ _ nDb hD0, trivial, rfl, fun r hr => by cases hr⟩ ?_ ?_⟩
    · rintro i σ H2 hi ⟨y4, y5, y6, y7, xs, rs, rfl, B2, hD2, hall2, hrl, hok⟩
      show gName 4 _ _ _ _
      -- count
      refine ⟨fun v H' => ∃ n : Nat, v = .int (n : Int) ∧ n ≤ 6 ∧ Bk b H2 H', fun Q' hQ => ?_, ?_⟩
      · refine ⟨_, rfl, b, _, rfl, B2.bag, by decide, by decide, fun e1 H3 _ _ B3 => ⟨rfl, _, rfl, ite2 (fun _ => ?_) (fun _ => ?_)⟩⟩
        · refine ⟨_, rfl, b, _, rfl, B3.bag, by decide, by decide, fun e2 H4 e0 e7 B4 => hQ _ _ ⟨e2.toNat, ?_, by omega, B3.trans B4⟩⟩
          rw [Int.toNat_of_nonneg e0]
        · refine ⟨_, rfl, b, _, rfl, B3.bag, by decide, by decide, fun e2 H4 e0 e7 B4 => hQ _ _ ⟨e2.toNat, ?_, by omega, B3.trans B4⟩⟩
          rw [Int.toNat_of_nonneg e0]
      rintro v3 H3 ⟨n, rfl, hn, B3⟩
      -- first
      refine ⟨_, rfl, b, rfl, B3.bag, fun p H4 vl hp B4 hp4 hsp => ?_⟩
      refine ⟨_, rfl, ?_⟩
      -- second
      refine ⟨fun σ' H' => ∃ (q : Addr) (v2 : Vl), σ' = [some (.ref b), some (.int m), some (.ref D), some (.int al), some (.int (0 + (i : Int))), some (.int (n : Int)), some (.ref p), some (.ref q)] ∧ Bk b H4 H' ∧ H' q = some (.tup (vT v2)) ∧ 0 ≤ v2.sp, fun N hN => ?_, ?_⟩
      · refine ⟨_, rfl, b, _, rfl, B4.bag, by decide, by decide, fun e1 H5 _ _ B5 => ⟨_, rfl, _, _, rfl, rfl, _, rfl, ite2 (fun _ => ?_) (fun _ => ?_)⟩⟩
        · refine ⟨_, rfl, b, rfl, B5.bag, fun q H6 v2 hq B6 hq6 hs2 => ?_⟩
          exact hN _ _ ⟨q, v2, rfl, B5.trans B6, hq6, hs2⟩
        · exact hN _ _ ⟨p, vl, rfl, B5, bk_tups B4.bag B5 _ _ hp4, hsp⟩
      rintro σ' H5 ⟨q, v2, rfl, B5, hq5, hs2⟩
      have hp5 := bk_tups B4.bag B5 _ _ hp4
      -- none at all
      refine ⟨fun σ' H' => ∃ (n2 : Nat), σ' = [some (.ref b), some (.int m), some (.ref D), some (.int al), some (.int (0 + (i : Int))), some (.int (n2 : Int)), some (.ref p), some (.ref q)] ∧ n2 ≤ 6 ∧ Bk b H5 H', fun N hN => ?_, ?_⟩
      · refine ⟨fun _ H' => Bk b H5 H', fun Q' hQ => ?_, fun c0 H6 B6 => ite2 (fun _ => ?_) (fun _ => ?_)⟩
        · refine ⟨_, rfl, p, _, _, _, rfl, rfl, SqT.of hp5, atI_nat (j := 5) rfl, _, rfl, q, _, _, _, rfl, rfl, SqT.of hq5, atI_nat (j := 5) rfl, rfl, _, rfl, ite2 (fun _ => ?_) (fun _ => ?_)⟩
          · refine ⟨_, rfl, b, _, rfl, B5.bag, by decide, by decide, fun e1 H6 _ _ B6 => ⟨rfl, _, rfl, hQ _ _ B6⟩⟩
          · exact hQ _ _ ⟨B5.bag, fun _ _ _ e => e⟩
        · exact hN _ _ ⟨0, rfl, by decide, B6⟩
        · exact hN _ _ ⟨n, rfl, hn, B6⟩
      rintro σ' H6 ⟨n2, rfl, hn2, B6⟩
      have B26 := ((B3.trans B4).trans B5).trans B6
      have hD6 := B26.keep _ _ nDb hD2
      have hall6 := hall2.mono fun _ _ => RowAt.mono (bk_tups B2.bag B26)
      have hp6 := bk_tups B5.bag B6 _ _ hp5
      have hq6 := bk_tups B5.bag B6 _ _ hq5
      refine ⟨_, rfl, .inl ⟨rfl, _, SqL.of hD6⟩, _, rfl, _, rfl, _, rfl, (by show 3 ≤ sizeLine; decide), fun t ht => ?_⟩
      have s7 := same_new (o := .tup [.int (n2 : Int), .ref p, .ref q]) ht
      have ht7 : (upd H6 t (.tup [.int (n2 : Int), .ref p, .ref q])) t = some (.tup [.int (n2 : Int), .ref p, .ref q]) := upd_same
      have B7 := B6.fresh (o := .tup [.int (n2 : Int), .ref p, .ref q]) ht
      generalize upd H6 t (.tup [.int (n2 : Int), .ref p, .ref q]) = H7 at s7 ht7 B7 ⊢
      have hD7 := s7 _ _ hD6
      refine ⟨D, _, _, rfl, rfl, hD7, ?_, ?_⟩
      · rw [hall6.len, hrl]
        exact Nat.lt_of_le_of_lt (m := 100) (by omega) (by decide)
      have tD : Tups H7 (upd H7 D (.lst (xs ++ [.ref t]))) := Tups.lst hD7
      refine ⟨_, _, _, _, xs ++ [.ref t], rs ++ [⟨n2, vl, v2⟩], rfl, ⟨?_, fun u o hu e => ?_⟩, upd_same, (hall6.mono fun _ _ => RowAt.mono ((Tups.of s7).trans tD)).snoc ⟨t, p, q, rfl, tD _ _ ht7, tD _ _ (s7 _ _ hp6), tD _ _ (s7 _ _ hq6)⟩, ?_, ?_⟩
      · obtain ⟨g', x, c', e⟩ := B7.bag
        exact ⟨g', x, c', (upd_ne nDb.symm).trans e⟩
      · rw [upd_ne (fun r => by rw [r, hD] at e; cases e)]
        exact s7 _ _ (B26.keep _ _ hu (B2.keep _ _ hu e))
      · rw [List.length_append, hrl]; rfl
      · intro r hr'
        rcases List.mem_append.mp hr' with h | h
        · exact hok r h
        · rw [List.mem_singleton.mp h]
          exact ⟨hn2, hsp, hs2⟩
    · rintro σ H2 ⟨y4, y5, y6, y7, xs, rs, rfl, B2, hD2, hall2, hrl, hok⟩
      exact ⟨_, rfl, k D H2 xs rs hD B2 hD2 hall2 hok hrl⟩
end
end Pa
set_option maxRecDepth 100000
set_option maxHeartbeats 4000000
namespace Pa
open PySem PySem.Spec PyProof.Rows L2 SrtO
section
variable {P : Program} {w : World} {K : PySem.W.Frag} {mg : Str → Option Value} {base : Heap} {tp C CS : Addr}
/-! ### alike_at_end -/
def spEnd (K : PySem.W.Frag) : Sp := fun vs H Q _ => ∃ (v : V) (j : Option JD) (L1 L2 : Int), vs = [v] ∧ Dp K H v (dJ j) ∧ 2 ≤ L1 ∧ L1 ≤ 4 ∧ 2 ≤ L2 ∧ L2 ≤ 4 ∧ WfO L1 L2 j ∧ ∀ H', Same H H' → Q (.bl (pageJ j true true).isSome) H'
abbrev salike_at_end : Stmt := topS 20
theorem scalike_at_end : FnScope ["joint"] ["joint"] (defScope salike_at_end) := ⟨rfl, rfl, rfl, by decide +kernel, rfl, by decide +kernel, by decide +kernel⟩
theorem ok_aend {f : Addr} {fd : FuncData} (F : Fun K "alike_at_end" "alike_at_end" salike_at_end f fd) (T : Txt K mg tp C) (T3 : Txt3 mg) (C_joint_page : CallOk P w K mg base 3 "joint_page" ["joint", "first", "second"] (spPageJ K)) : FnOk P w K mg base CX0 4 f fd ["joint"] (spEnd K) := by
  refine F.ok scalike_at_end (fun vs H Q E h => ?_) (fun cdv A outer s H vs Q E hr h => ?_)
  · obtain ⟨v, j, L1, L2, rfl, _⟩ := h
    rfl
  · obtain ⟨v, j, L1, L2, rfl, hv, a1, a2, b1, b2, W, k⟩ := h
    obtain ⟨tk, hPT⟩ := T3.g_PARTED
    refine ⟨_, (pss_one (ps_ret (pe_cmpR (op_neD hr.units) (pe_cc C_joint_page hr (by rfl) (pa_cons (pv 0) (pa_cons pe_bl (pa_cons pe_bl pa_nil)))) (pe_glob (v := .str "parted") (by rfl) hPT ⟨_, rfl⟩) (nomark _)))), ?_⟩
    refine ⟨_, rfl, v, j, true, true, rfl, hv, fun x e => ?_, fun v1 H1 s1 hv1 => ?_⟩
    · have wx := W x e
      have t := wf_tot (by omega) a2 (by omega) b2 wx
      have q1 := (withP_ok (by omega) a2 wx.s1).2
      have q2 := (withP_ok (by omega) b2 wx.s2).2
      exact ⟨⟨sm_tot t.1 (by decide), sm_tot t.2 (by decide)⟩, sm_tot (n := 4) (by rw [q1]; exact t.1) (by decide), sm_tot (n := 4) (by rw [q2]; exact t.2) (by decide)⟩
    · refine ⟨dJ (pageJ j true true), .str "parted", hv1, .str _, shJ _, sh_parted, ?_⟩
      rw [eqv_J]
      have := k H1 s1
      cases h : pageJ j true true with
      | none => rw [h] at this; exact this
      | some x => rw [h] at this; exact this
end
end Pa
set_option maxRecDepth 100000
set_option maxHeartbeats 4000000
namespace Pa
open PySem PySem.Spec PyProof.Rows L2 SrtO
/-- a line of the law: (space, a new page, barred) -/
def LfAt (H : Hp) (x : V) (l : Ln) : Prop := TupAt H x [.int l.sp, .bl l.du, .bl l.br]
theorem lfMono {H H' : Hp} {xs : List V} {ys : List Ln} (a : Tups H H') (h : AllAt LfAt H xs ys) : AllAt LfAt H' xs ys := h.mono fun _ _ => TupAt.mono a
theorem lfTo {H : Hp} {lv : List V} {ls : List Ln} {i : Nat} (h : AllAt LfAt H lv ls) (hi : i < ls.length) : ∃ t, lv[i]? = some (.ref t) ∧ H t = some (.tup [.int (ln ls i).sp, .bl (ln ls i).du, .bl (ln ls i).br]) := by
  have e : ls[i]? = some (ln ls i) := by
    unfold ln
    rw [List.getElem?_eq_getElem hi]
    rfl
  obtain ⟨x, hx, t, rfl, ht⟩ := h.to e
  exact ⟨t, hx, ht⟩
def oN (o : Option Nat) : V := match o with
  | none => .non
  | some k => .int (k : Int)
section
variable {P : Program} {w : World} {K : PySem.W.Frag} {mg : Str → Option Value} {base : Heap} {tp C CS : Addr}
/-! ### _law_cut -/
def spKCut : Sp := fun vs H Q _ => ∃ (L : Int) (q : Addr) (lv : List V) (ls : List Ln) (sa : Nat), vs = [.int L, .ref q, .int (sa : Int)] ∧ H q = some (.lst lv) ∧ AllAt LfAt H lv ls ∧ sa < ls.length ∧ ls.length ≤ 100000 ∧ ∀ H', Same H H' → Q (.int (kCut L ls sa : Int)) H'
abbrev sL_cut : Stmt := topS 34
theorem scL_cut : FnScope ["_law_length", "_law_rows", "_law_start", "_law_used", "_law_last", "_law_at", "_law_space", "_law_forced", "_law_barred"] ["_law_length", "_law_rows", "_law_start"] (defScope sL_cut) := ⟨rfl, rfl, rfl, by decide +kernel, rfl, by decide +kernel, by decide +kernel⟩
theorem ok_kcut {f : Addr} {fd : FuncData} (F : Fun K "_law_cut" "_law_cut" sL_cut f fd) (T : Txt K mg tp C) : FnOk P w K mg base CX0 1 f fd ["_law_length", "_law_rows", "_law_start"] spKCut := by
  refine F.ok scL_cut (fun vs H Q E h => ?_) (fun cdv A outer s H vs Q E hr h => ?_)
  · obtain ⟨L, q, lv, ls, sa, rfl, _⟩ := h
    rfl
  · obtain ⟨L, q, lv, ls, sa, rfl, hq, hall, h1, hlen, k⟩ := h
    refine ⟨_, (pss_cons (ps_asg (pe_tup (pa_cons pe_int (pa_cons pe_non pa_nil))) (pg_tup rfl (pgs_cons (pg_name (i := 3) scL_cut.nd rfl (.inl rfl)) (pgs_cons (pg_name (i := 4) scL_cut.nd rfl (.inl rfl)) pgs_nil))))
      (pss_cons (ps_for PassesOwn.never rfl (pi_range2 (by rfl) T.b_range (pa_cons (pe_op op_add (pv 2) pe_int) (pa_cons (pe_callB call_len_seq (by rfl) T.b_len PySem.boot_len (pa_cons (pv 1) pa_nil)) pa_nil))) (pg_name (i := 5) scL_cut.nd rfl (.inl rfl))
        (pss_cons (ps_asg (pe_ix ix_list (pv 1) (pv 5) (fun _ _ => rfl)) (pg_tup rfl (pgs_cons (pg_name (i := 6) scL_cut.nd rfl (.inl rfl)) (pgs_cons (pg_name (i := 7) scL_cut.nd rfl (.inl rfl)) (pgs_cons (pg_name (i := 8) scL_cut.nd rfl (.inl rfl)) pgs_nil)))))
        (pss_cons (ps_if (pt_val (pv 7))
          (pss_one (ps_ret (pv 5)))
          pss_nil)
        (pss_cons (ps_if (pt_cmpR op_gt (pe_op op_add (pe_op op_add (pv 3) (pv 6)) pe_int) (pv 0) (nomark _))
          (pss_cons (ps_if (pt_not (pt_val (pv 8)))
            (pss_one (ps_ret (pv 5)))
            pss_nil)
          (pss_one (ps_ret (pe_ifExp (pt_cmpR op_isN (pv 4) pe_non (nomark _)) (pv 5) (pv 4)))))
          pss_nil)
        (pss_cons (ps_if (pt_not (pt_val (pv 8)))
          (pss_one (ps_set (i := 4) scL_cut.nd rfl (.inl rfl) (pv 5)))
          pss_nil)
        (pss_one (ps_set (i := 3) scL_cut.nd rfl (.inl rfl) (pe_op op_add (pe_op op_add (pv 3) (pv 6)) pe_int))))))))
      (pss_one (ps_ret (pe_callB call_len_seq (by rfl) T.b_len PySem.boot_len (pa_cons (pv 1) pa_nil)))))), ?_⟩
    unfold kCut at k
    have hll : lv.length = ls.length := hall.len
    have hn : ((lv.length : Int) - ((sa : Int) + 1)).toNat = ls.length - (sa + 1) := by omega
    refine ⟨(by show 2 ≤ sizeLine; decide), fun u0 hu0 => ⟨u0, _, rfl, SqT.of upd_same, rfl, _, _, rfl, _, _, rfl, rfl, ?_⟩⟩
    have s0 := same_new (o := .tup [.int 1, .non]) hu0
    generalize upd H u0 (.tup [.int 1, .non]) = H0 at s0 ⊢
    have hq0 := s0 _ _ hq
    have hall0 := lfMono (Tups.of s0) hall
    have k := k H0 s0
    refine ⟨_, rfl, _, _, rfl, rfl, _, rfl, q, _, rfl, .inl (SqL.of hq0), (sa : Int) + 1, (lv.length : Int), rfl, ⟨by omega, by omega, by omega, by omega⟩, ?_⟩
    rw [hn]
    refine for_range (lo := (sa : Int) + 1) (n := ls.length - (sa + 1)) (fun i σ H' => ∃ (used : Int) (last : Option Nat) (y5 y6 y7 y8 : Option V), σ = [some (.int L), some (.ref q), some (.int (sa : Int)), some (.int used), some (oN last), y5, y6, y7, y8] ∧ H' = H0 ∧ kcGo L ls (ls.length - (sa + 1) - i) (sa + 1 + i) used last = kcGo L ls (ls.length - (sa + 1)) (sa + 1) 1 none)
      ⟨1, none, none, none, none, none, rfl, rfl, rfl⟩ ?_ ?_
    · rintro i σ H' hi ⟨used, last, y5, y6, y7, y8, rfl, rfl, hgo⟩
      obtain ⟨m, hm⟩ : ∃ m, ls.length - (sa + 1) - i = m + 1 := ⟨ls.length - (sa + 1) - i - 1, by omega⟩
      have hat : sa + 1 + i < ls.length := by omega
      have eat : (sa : Int) + 1 + (i : Int) = ((sa + 1 + i : Nat) : Int) := by omega
      rw [hm, kcGo] at hgo
      obtain ⟨t, ht, ht'⟩ := lfTo hall0 hat
      show gName 5 _ _ _ _
      rw [eat]
      refine ⟨_, rfl, _, rfl, q, _, _, _, rfl, rfl, SqL.of hq0, atI_nat ht, t, _, rfl, SqT.of ht', rfl, _, _, rfl, _, _, rfl, _, _, rfl, rfl, ?_⟩
      refine ⟨_, rfl, _, rfl, ite2 (fun g1 => ?_) (fun g1 => ?_)⟩
      · rw [if_pos g1] at hgo
        rw [← hgo] at k
        exact ⟨_, rfl, k⟩
      rw [if_neg g1] at hgo
      refine ⟨_, rfl, _, rfl, _, _, rfl, rfl, _, _, rfl, rfl, _, rfl, _, _, rfl, rfl, _, rfl, ite2 (fun g2 => ?_) (fun g2 => ?_)⟩
      · have g2' := of_decide_eq_true g2
        rw [if_pos g2'] at hgo
        refine ⟨_, rfl, _, rfl, ?_⟩
        rcases twoB (ln ls (sa + 1 + i)).br with hb | hb
        · refine iteQ (notT hb) ?_
          rw [if_neg (by rw [hb]; decide)] at hgo
          cases last with
          | none =>
            rw [← hgo] at k
            exact ⟨_, rfl, rfl, _, rfl, iteP (by rfl) ⟨_, rfl, k⟩⟩
          | some e =>
            rw [← hgo] at k
            exact ⟨_, rfl, rfl, _, rfl, iteQ (by show ¬ decide (V.int (e : Int) = V.non) = true; simp) ⟨_, rfl, k⟩⟩
        · refine iteP (notF hb) ?_
          rw [if_pos hb] at hgo
          rw [← hgo] at k
          exact ⟨_, rfl, k⟩
      · have g2' : ¬ L < used + (ln ls (sa + 1 + i)).sp + 1 := fun z => g2 (decide_eq_true z)
        rw [if_neg g2'] at hgo
        have em : ls.length - (sa + 1) - (i + 1) = m := by omega
        refine ⟨_, rfl, _, rfl, ?_⟩
        rcases twoB (ln ls (sa + 1 + i)).br with hb | hb
        · refine iteQ (notT hb) ?_
          rw [if_neg (by rw [hb]; decide)] at hgo
          refine ⟨_, rfl, _, rfl, _, _, rfl, rfl, _, _, rfl, rfl, ?_⟩
          exact ⟨_, last, _, _, _, _, rfl, rfl, by rw [em]; exact hgo⟩
        · refine iteP (notF hb) ?_
          rw [if_pos hb] at hgo
          refine ⟨_, rfl, ?_⟩
          refine ⟨_, rfl, _, rfl, _, _, rfl, rfl, _, _, rfl, rfl, ?_⟩
          exact ⟨_, some (sa + 1 + i), _, _, _, _, rfl, rfl, by rw [em]; exact hgo⟩
    · rintro σ H' ⟨used, last, y5, y6, y7, y8, rfl, rfl, hgo⟩
      rw [Nat.sub_self, kcGo] at hgo
      refine ⟨_, rfl, q, _, rfl, .inl (SqL.of hq0), ?_⟩
      rw [← hgo] at k
      rw [hll]
      exact k
end
end Pa
set_option maxRecDepth 100000
set_option maxHeartbeats 4000000
namespace Pa
open PySem PySem.Spec PyProof.Rows L2 SrtO
/-- a block of the law: (count, values) -/
def PvAt (H : Hp) (x : V) (b : Nat × Vl) : Prop := ∃ t p, x = V.ref t ∧ H t = some (.tup [.int (b.1 : Int), .ref p]) ∧ H p = some (.tup (vT b.2))
theorem PvAt.mono {H H' : Hp} {x : V} {b : Nat × Vl} (a : Tups H H') (h : PvAt H x b) : PvAt H' x b := by
  obtain ⟨t, p, e, h1, h2⟩ := h
  exact ⟨t, p, e, a _ _ h1, a _ _ h2⟩
theorem bs_snoc (bl : List (Nat × Vl)) (b : Nat × Vl) : bsV (bl ++ [b]) = bsV bl ++ (if b.2.ot = true then [] else [⟨b.1, b.2.sp, b.2.k, b.2.pg⟩]) := by
  unfold bsV
  rw [List.filter_append, List.map_append]
  congr 1
  cases h : b.2.ot <;> simp [h]
theorem law_snoc_out {bl : List (Nat × Vl)} {b : Nat × Vl} (h : b.2.ot = true) : lawLines (bl ++ [b]) = lawLines bl := by
  unfold lawLines
  rw [bs_snoc, if_pos h, List.append_nil]
theorem law_snoc_in {bl : List (Nat × Vl)} {b : Nat × Vl} (h : ¬ b.2.ot = true) : lawLines (bl ++ [b]) = stepB (lawLines bl) ⟨b.1, b.2.sp, b.2.k, b.2.pg⟩ := by
  unfold lawLines
  rw [bs_snoc, if_neg h, List.foldl_append]
  rfl
theorem law_len (bl : List (Nat × Vl)) : (lawLines bl).ls.length = (szB bl).sum := by
  unfold lawLines
  rw [lines_sum, bs_sum]
  simp
theorem sz_take (bl : List (Nat × Vl)) (i : Nat) : (szB (bl.take i)).sum ≤ (szB bl).sum := by
  conv => rhs; rw [← List.take_append_drop i bl]
  unfold szB
  rw [List.map_append, List.sum_append]
  exact Nat.le_add_right _ _
section
variable {P : Program} {w : World} {K : PySem.W.Frag} {mg : Str → Option Value} {base : Heap} {tp C CS : Addr}
/-! ### _law_lines -/
def spKLines (K : PySem.W.Frag) : Sp := fun vs H Q _ => ∃ (q : Addr) (xs : List V) (bl : List (Nat × Vl)), vs = [.ref q] ∧ H q = some (.lst xs) ∧ AllAt PvAt H xs bl ∧ (szB bl).sum ≤ 2000 ∧ (∀ b ∈ bl, b.1 ≤ 200) ∧ ∀ (D : Addr) (H' : Hp) (lv : List V), H D = none → Same H H' → H' D = some (.lst lv) → AllAt LfAt H' lv (lawLines bl).ls → Q (.ref D) H'
abbrev sL_lines : Stmt := topS 33
theorem scL_lines : FnScope ["_law_blocks", "_law_rows", "_law_due", "_law_kept", "_law_count", "_law_values_here", "_law_k", "_law_barred"] ["_law_blocks"] (defScope sL_lines) := ⟨rfl, rfl, rfl, by decide +kernel, rfl, by decide +kernel, by decide +kernel⟩
theorem ok_klines {f : Addr} {fd : FuncData} (F : Fun K "_law_lines" "_law_lines" sL_lines f fd) (T : Txt K mg tp C) : FnOk P w K mg base CX0 1 f fd ["_law_blocks"] (spKLines K) := by
  refine F.ok scL_lines (fun vs H Q E h => ?_) (fun cdv A outer s H vs Q E hr h => ?_)
  · obtain ⟨q, xs, bl, rfl, _⟩ := h
    rfl
  · obtain ⟨q, xs, bl, rfl, hq, hall, hsum, h200, k⟩ := h
    refine ⟨_, (pss_cons (ps_par3 (i := 1) (j := 2) (l := 3) (by rfl) scL_lines.nd rfl rfl rfl (by decide) (by decide) (by decide) rfl rfl rfl (pa_cons (pe_lst pa_nil) (pa_cons pe_bl (pa_cons pe_bl pa_nil))) (by rfl))
      (pss_cons (ps_for PassesOwn.never rfl (pi_list (pv 0)) (pg_tup rfl (pgs_cons (pg_name (i := 4) scL_lines.nd rfl (.inl rfl)) (pgs_cons (pg_name (i := 5) scL_lines.nd rfl (.inl rfl)) pgs_nil)))
        (pss_cons (ps_if (pt_val (pe_ix ix_tup (pv 5) pe_int (fun _ _ => rfl)))
          (pss_one ps_continue)
          pss_nil)
        (pss_cons (ps_set (i := 2) scL_lines.nd rfl (.inl rfl) (pe_pure (pe_or (pv 2) (pe_one (pe_ix ix_tup (pv 5) pe_int (fun _ _ => rfl))))))
        (pss_cons (ps_for PassesOwn.never rfl (pi_range1 (by rfl) T.b_range (pa_cons (pv 4) pa_nil)) (pg_name (i := 6) scL_lines.nd rfl (.inl rfl))
          (pss_cons (ps_set (i := 7) scL_lines.nd rfl (.inl rfl) (pe_pure (pe_ifExp (pt_cmpR op_eq (pv 6) pe_int (nomark _)) (pv 3) (pe_or (pe_cmpR op_eq (pv 6) pe_int (nomark _)) (pe_one (pe_cmpR op_eq (pv 6) (pe_op op_sub (pv 4) pe_int) (nomark _)))))))
          (pss_one (ps_expr (pe_bm PySem.F.plainAttrs_list PySem.F.slot_list_append PySem.F.type_list_append mt_append (pv 1) (pa_cons (pe_tup (pa_cons (pe_pure (pe_ifExp (pt_cmpR op_eq (pv 6) pe_int (nomark _)) (pe_ix ix_tup (pv 5) pe_int (fun _ _ => rfl)) pe_int)) (pa_cons (pe_pure (pe_and (pv 2) (pe_one (pe_cmpR op_eq (pv 6) pe_int (nomark _))))) (pa_cons (pv 7) pa_nil)))) pa_nil))))))
        (pss_one (ps_if (pt_cmpR op_gt (pv 4) pe_int (nomark _))
          (pss_one (ps_par (i := 2) (j := 3) (by rfl) scL_lines.nd rfl rfl (by decide) rfl rfl (pa_cons pe_bl (pa_cons (pe_ix ix_tup (pv 5) pe_int (fun _ _ => rfl)) pa_nil)) (by rfl)))
          pss_nil))))))
      (pss_one (ps_ret (pv 1))))), ?_⟩
    refine ⟨Nat.zero_le _, fun D hD => ⟨_, _, _, rfl, ?_⟩⟩
    have s0 := same_new (o := .lst []) hD
    have hD0 : (upd H D (.lst [])) D = some (.lst []) := upd_same
    generalize upd H D (.lst []) = H0 at s0 hD0 ⊢
    have hlen : xs.length = bl.length := hall.len
    refine ⟨_, rfl, q, rfl, ⟨_, SqL.of (s0 _ _ hq)⟩, for_list (K := K) (a := q) (xs := xs) (fun i σ H' => ∃ (y4 y5 y6 y7 : Option V) (lv : List V), σ = [some (.ref q), some (.ref D), some (.bl (lawLines (bl.take i)).du), some (.bl (lawLines (bl.take i)).kp), y4, y5, y6, y7] ∧ Same H H' ∧ H' D = some (.lst lv) ∧ AllAt LfAt H' lv (lawLines (bl.take i)).ls)
      ⟨none, none, none, none, [], rfl, s0, hD0, trivial⟩ (fun i σ H' _ ⟨_, _, _, _, _, _, s1, _⟩ => SqL.of (s1 _ _ hq)) ?_ ?_⟩
    · rintro i x σ H' hi ⟨y4, y5, y6, y7, lv, rfl, s1, hlv, hall1⟩
      obtain ⟨b, hb, t, p, rfl, ht, hp⟩ := hall.at hi
      have eb : bl.take (i + 1) = bl.take i ++ [b] := by rw [List.take_add_one, hb]; rfl
      have hb200 := h200 b (List.mem_of_getElem? hb)
      have hlens : (lawLines (bl.take i)).ls.length ≤ 2000 := by
        rw [law_len]
        exact Nat.le_trans (sz_take bl i) hsum
      refine ⟨t, _, rfl, SqT.of (s1 _ _ ht), rfl, _, _, rfl, _, _, rfl, rfl, ?_⟩
      rw [eb]
      have hp1 := s1 _ _ hp
      refine ⟨_, rfl, p, _, _, _, rfl, rfl, SqT.of hp1, atI_nat (j := 5) rfl, _, rfl, ite2 (fun g1 => ?_) (fun g1 => ?_)⟩
      · rw [law_snoc_out g1]
        exact ⟨_, _, _, _, lv, rfl, s1, hlv, hall1⟩
      rw [law_snoc_in g1]
      generalize lawLines (bl.take i) = tt at hlv hall1 hlens ⊢
      refine ⟨.bl (tt.du || b.2.pg), fun Q' hQ => ⟨_, rfl, tt.du, rfl, ite2 (fun h1 => ?_) (fun h1 => ?_)⟩, ?_⟩
      · rw [h1] at hQ; exact hQ
      · have : tt.du = false := by simpa using h1
        rw [this] at hQ
        exact ⟨_, rfl, p, _, _, _, rfl, rfl, SqT.of hp1, atI_nat (j := 4) rfl, hQ⟩
      generalize hdu : (tt.du || b.2.pg) = du
      obtain ⟨c, v⟩ := b
      dsimp only at *
      refine ⟨_, rfl, _, rfl, by omega, by omega, for_range (lo := 0) (n := ((c : Nat) : Int).toNat) (fun j σ H2 => ∃ (y6 y7 : Option V) (lv2 : List V), σ = [some (.ref q), some (.ref D), some (.bl du), some (.bl tt.kp), some (.int (c : Int)), some (.ref p), y6, y7] ∧ Same H H2 ∧ H2 D = some (.lst lv2) ∧ AllAt LfAt H2 lv2 (tt.ls ++ blLines c v.sp tt.kp du j))
        ⟨_, _, lv, rfl, s1, hlv, by rw [show blLines c v.sp tt.kp du 0 = [] from rfl, List.append_nil]; exact hall1⟩ ?_ ?_⟩
      · rintro j σ H2 hj ⟨y6', y7', lv2, rfl, s2, hlv2, hall2⟩
        have hj' : j < c := by omega
        have hsz : lv2.length < sizeLine := by
          rw [hall2.len, List.length_append, bl_len]
          exact Nat.lt_of_le_of_lt (m := 5000) (by omega) (by decide)
        have z0 : (0 : Int) + (j : Int) = (j : Int) := Int.zero_add _
        rw [blLines_succ, ← List.append_assoc]
        show gName 6 _ _ _ _
        rw [z0]
        refine ⟨.bl (blLn c v.sp tt.kp du j).br, fun Q' hQ => ?_, ?_⟩
        · refine ⟨_, rfl, rfl, _, rfl, ite2 (fun h1 => ?_) (fun h1 => ?_)⟩
          · have hj0 : j = 0 := by
              have := V.int.inj (of_decide_eq_true h1)
              omega
            unfold blLn at hQ
            rw [if_pos hj0] at hQ
            exact ⟨_, rfl, hQ⟩
          · have hj0 : ¬ j = 0 := fun r => h1 (decide_eq_true (by rw [r]; rfl))
            unfold blLn at hQ
            rw [if_neg hj0] at hQ
            refine ⟨_, rfl, rfl, _, rfl, ite2 (fun h2 => ?_) (fun h2 => ?_)⟩
            · have e1 : (j : Int) = 1 := V.int.inj (of_decide_eq_true h2)
              rw [decide_eq_true (.inl e1)] at hQ
              exact hQ
            · have e1 : ¬ (j : Int) = 1 := fun r => h2 (decide_eq_true (by rw [r]))
              refine ⟨_, rfl, _, rfl, _, _, rfl, rfl, rfl, ?_⟩
              rw [dec_int]
              have : decide ((j : Int) = 1 ∨ (j : Int) = (c : Int) - 1) = decide ((j : Int) = (c : Int) - 1) := by
                by_cases e2 : (j : Int) = (c : Int) - 1
                · rw [decide_eq_true (.inr e2), decide_eq_true e2]
                · rw [decide_eq_false (fun r => r.elim e1 e2), decide_eq_false e2]
              rw [this] at hQ
              exact hQ
        · refine ⟨_, rfl, .inl ⟨rfl, _, SqL.of hlv2⟩, .int (blLn c v.sp tt.kp du j).sp, fun Q' hQ => ?_, .bl (blLn c v.sp tt.kp du j).du, fun Q' hQ => ?_, _, rfl, (by show 3 ≤ sizeLine; decide), fun u hu => ?_⟩
          · refine ⟨_, rfl, rfl, _, rfl, ite2 (fun h1 => ?_) (fun h1 => ?_)⟩
            · have hj0 : j = 0 := by
                have := V.int.inj (of_decide_eq_true h1)
                omega
              unfold blLn at hQ
              rw [if_pos hj0] at hQ
              exact ⟨_, rfl, p, _, _, _, rfl, rfl, SqT.of (s2 _ _ hp), atI_nat (j := 2) rfl, hQ⟩
            · have hj0 : ¬ j = 0 := fun r => h1 (decide_eq_true (by rw [r]; rfl))
              unfold blLn at hQ
              rw [if_neg hj0] at hQ
              exact hQ
          · refine ⟨_, rfl, du, rfl, ?_⟩
            by_cases hj0 : j = 0
            · unfold blLn at hQ
              rw [if_pos hj0] at hQ
              rcases twoB du with hd | hd
              · refine iteP hd ⟨_, rfl, rfl, ?_⟩
                rw [dec_int, hj0, decide_eq_true (by rfl)]
                rw [hd] at hQ
                exact hQ
              · refine iteQ (neT hd) ?_
                have hQ : Q' (V.bl du) H2 := hQ
                rw [hd] at hQ
                exact hQ
            · unfold blLn at hQ
              rw [if_neg hj0] at hQ
              rcases twoB du with hd | hd
              · refine iteP hd ⟨_, rfl, rfl, ?_⟩
                rw [dec_int, decide_eq_false (by omega)]
                exact hQ
              · refine iteQ (neT hd) ?_
                exact hQ
          · obtain ⟨p1, p2, p3, p4⟩ := all_push (f := fun l : Ln => [.int l.sp, .bl l.du, .bl l.br]) (y := blLn c v.sp tt.kp du j) (tv := [.int (blLn c v.sp tt.kp du j).sp, .bl (blLn c v.sp tt.kp du j).du, .bl (blLn c v.sp tt.kp du j).br]) hlv2 hall2 hu rfl
            exact ⟨D, _, _, rfl, rfl, p3, hsz, _, _, _, rfl, fun u o e => p4 u o (fun r => by rw [r, hD] at e; cases e) (s2 _ _ e), p1, p2⟩
      · rintro σ H2 ⟨y6', y7', lv2, rfl, s2, hlv2, hall2⟩
        have e0 : ((c : Nat) : Int).toNat = c := Int.toNat_natCast _
        rw [e0] at hall2
        refine ⟨_, rfl, _, _, rfl, rfl, _, rfl, ite2 (fun h1 => ?_) (fun h1 => ?_)⟩
        · have hc : ¬ c = 0 := by
            have := of_decide_eq_true h1
            omega
          refine ⟨_, rfl, p, _, _, _, rfl, rfl, SqT.of (s2 _ _ hp), atI_nat (j := 3) rfl, _, _, rfl, some (.int (c : Int)), some (.ref p), y6', y7', lv2, ?_, s2, hlv2, ?_⟩
          · unfold stepB
            rw [if_neg hc, if_neg hc]
            rfl
          · unfold stepB
            rw [hdu]
            exact hall2
        · have hc : c = 0 := by
            have : ¬ (c : Int) > 0 := fun r => h1 (decide_eq_true r)
            omega
          refine ⟨some (.int (c : Int)), some (.ref p), y6', y7', lv2, ?_, s2, hlv2, ?_⟩
          · unfold stepB
            rw [if_pos hc, if_pos hc, hdu]
          · unfold stepB
            rw [hdu]
            exact hall2
    · rintro σ H' ⟨y4, y5, y6, y7, lv, rfl, s1, hlv, hall1⟩
      rw [hlen, List.take_of_length_le (Nat.le_refl _)] at hall1
      exact ⟨_, rfl, k D H' lv hD s1 hlv hall1⟩
end
end Pa
set_option maxRecDepth 100000
set_option maxHeartbeats 4000000
namespace Pa
open PySem PySem.Spec PyProof.Rows L2 SrtO
theorem kc_bd (L : Int) (ls : List Ln) (lo : Nat) : ∀ (n i : Nat) (used : Int) (last : Option Nat), lo ≤ i → lo ≤ ls.length → i + n ≤ ls.length → (∀ e, last = some e → lo ≤ e ∧ e ≤ ls.length) → lo ≤ kcGo L ls n i used last ∧ kcGo L ls n i used last ≤ ls.length
  | 0, i, used, last, h1, h2, h3, h4 => ⟨h2, Nat.le_refl _⟩
  | n + 1, i, used, last, h1, h2, h3, h4 => by
    rw [kcGo]
    split
    · omega
    · split
      · split
        · omega
        · cases last with
          | none => show lo ≤ i ∧ i ≤ ls.length; omega
          | some e => exact h4 e rfl
      · refine kc_bd L ls lo n (i + 1) _ _ (by omega) h2 (by omega) fun e he => ?_
        split at he
        · cases he; omega
        · exact h4 e he
theorem kcut_bd {L : Int} {ls : List Ln} {sa : Nat} (h : sa < ls.length) : sa + 1 ≤ kCut L ls sa ∧ kCut L ls sa ≤ ls.length :=
  kc_bd L ls (sa + 1) _ _ _ _ (Nat.le_refl _) (by omega) (by omega) (fun e he => by cases he)
def rowAt (ls : List Ln) (sa : Nat) : Nat → Int
  | 0 => 0
  | k + 1 => rowAt ls sa k + 1 + (ln ls (sa + (k + 1))).sp
def rwL (ls : List Ln) (sa n : Nat) : List Int := (List.range n).map (rowAt ls sa)
theorem rwGo_at (ls : List Ln) (sa : Nat) : ∀ n m, rwGo ls n (sa + 1 + m) (rowAt ls sa m) = (List.range' (m + 1) n).map (rowAt ls sa)
  | 0, m => rfl
  | n + 1, m => by
    rw [rwGo, List.range'_succ, List.map_cons]
    have e : sa + 1 + m = sa + (m + 1) := by omega
    have ih := rwGo_at ls sa n (m + 1)
    rw [e]
    rw [show sa + 1 + (m + 1) = sa + (m + 1) + 1 by omega] at ih
    have er : rowAt ls sa m + 1 + (ln ls (sa + (m + 1))).sp = rowAt ls sa (m + 1) := rfl
    rw [er, ih]
theorem rwPg_at (ls : List Ln) (sa n : Nat) : rwPg ls sa n = rwL ls sa n := by
  unfold rwPg rwL
  cases n with
  | zero => rfl
  | succ n =>
    rw [if_neg (by omega), List.range_eq_range', List.range'_succ, List.map_cons]
    have := rwGo_at ls sa n 0
    show 0 :: rwGo ls n (sa + 1) 0 = rowAt ls sa 0 :: _
    rw [← this]
    rfl
theorem rwL_succ (ls : List Ln) (sa n : Nat) : rwL ls sa (n + 1) = rwL ls sa n ++ [rowAt ls sa n] := by
  unfold rwL
  rw [List.range_succ, List.map_append]
  rfl
theorem rwL_len (ls : List Ln) (sa n : Nat) : (rwL ls sa n).length = n := by
  unfold rwL
  rw [List.length_map, List.length_range]
theorem rowAt_ge {ls : List Ln} (h : ∀ i, 0 ≤ (ln ls i).sp) (sa : Nat) : ∀ k : Nat, (k : Int) ≤ rowAt ls sa k
  | 0 => Int.le_refl _
  | k + 1 => by
    have := rowAt_ge h sa k
    have := h (sa + (k + 1))
    show ((k + 1 : Nat) : Int) ≤ rowAt ls sa k + 1 + (ln ls (sa + (k + 1))).sp
    omega
theorem rowAt_0 {ls : List Ln} (h : ∀ i, 0 ≤ (ln ls i).sp) (sa k : Nat) : decide (rowAt ls sa k = 0) = decide (k = 0) := by
  have := rowAt_ge h sa k
  by_cases e : k = 0
  · subst e; rfl
  · rw [decide_eq_false e, decide_eq_false (by omega)]
theorem plGo_end {L : Int} {ls : List Ln} {sa : Nat} (h : ls.length ≤ sa) : ∀ f, plGo L ls f sa = []
  | 0 => rfl
  | f + 1 => by rw [plGo, if_neg (by omega)]
theorem plGo_len {L : Int} {ls : List Ln} : ∀ f sa, (plGo L ls f sa).length + sa ≤ ls.length ∨ plGo L ls f sa = []
  | 0, _ => .inr rfl
  | f + 1, sa => by
    rw [plGo]
    split
    · rename_i h
      have hb := kcut_bd (L := L) h
      left
      rw [List.length_append, rwPg_at, rwL_len]
      rcases plGo_len (L := L) (ls := ls) f (kCut L ls sa) with i | i
      · omega
      · rw [i, List.length_nil]; omega
    · exact .inr rfl
section
variable {P : Program} {w : World} {K : PySem.W.Frag} {mg : Str → Option Value} {base : Heap} {tp C CS : Addr}
/-! ### _law_places -/
def spKPlaces : Sp := fun vs H Q _ => ∃ (L : Int) (q : Addr) (lv : List V) (ls : List Ln), vs = [.int L, .ref q] ∧ H q = some (.lst lv) ∧ AllAt LfAt H lv ls ∧ ls.length ≤ 5000 ∧ (∀ i, 0 ≤ (ln ls i).sp) ∧ ∀ (D : Addr) (H' : Hp) (pv : List V), H D = none → Same H H' → H' D = some (.lst pv) → AllAt RwAt H' pv (plGo L ls ls.length 0) → Q (.ref D) H'
abbrev sL_places : Stmt := topS 35
theorem scL_places : FnScope ["_law_length", "_law_rows", "_law_places_here", "_law_start", "_law_stop", "_law_row_here", "_law_at"] ["_law_length", "_law_rows"] (defScope sL_places) := ⟨rfl, rfl, rfl, by decide +kernel, rfl, by decide +kernel, by decide +kernel⟩
theorem ok_kplaces {f : Addr} {fd : FuncData} (F : Fun K "_law_places" "_law_places" sL_places f fd) (T : Txt K mg tp C) (C__law_cut : CallOk P w K mg base 1 "_law_cut" ["_law_length", "_law_rows", "_law_start"] spKCut) : FnOk P w K mg base CX0 2 f fd ["_law_length", "_law_rows"] spKPlaces := by
  refine F.ok scL_places (fun vs H Q E h => ?_) (fun cdv A outer s H vs Q E hr h => ?_)
  · obtain ⟨L, q, lv, ls, rfl, _⟩ := h
    rfl
  · obtain ⟨L, q, lv, ls, rfl, hq, hall, hlen, hsp, k⟩ := h
    refine ⟨_, (pss_cons (ps_par (i := 2) (j := 3) (by rfl) scL_places.nd rfl rfl (by decide) rfl rfl (pa_cons (pe_lst pa_nil) (pa_cons pe_int pa_nil)) (by rfl))
      (pss_cons (ps_while PassesOwn.never (pt_cmpR op_lt (pv 3) (pe_callB call_len_seq (by rfl) T.b_len PySem.boot_len (pa_cons (pv 1) pa_nil)) (nomark _))
        (pss_cons (ps_set (i := 4) scL_places.nd rfl (.inl rfl) (pe_cc C__law_cut hr (by rfl) (pa_cons (pv 0) (pa_cons (pv 1) (pa_cons (pv 3) pa_nil)))))
        (pss_cons (ps_set (i := 5) scL_places.nd rfl (.inl rfl) pe_int)
        (pss_cons (ps_for PassesOwn.never rfl (pi_range2 (by rfl) T.b_range (pa_cons (pv 3) (pa_cons (pv 4) pa_nil))) (pg_name (i := 6) scL_places.nd rfl (.inl rfl))
          (pss_cons (ps_by (ps_if (pt_cmpR op_gt (pv 6) (pv 3) (nomark _))
            (pss_one (ps_set (i := 5) scL_places.nd rfl (.inl rfl) (pe_op op_add (pe_op op_add (pv 5) pe_int) (pe_ix ix_tup (pe_ix ix_list (pv 1) (pv 6) (fun _ _ => rfl)) pe_int (fun _ _ => rfl)))))
            pss_nil))
          (pss_one (ps_expr (pe_bm PySem.F.plainAttrs_list PySem.F.slot_list_append PySem.F.type_list_append mt_append (pv 2) (pa_cons (pe_tup (pa_cons (pe_cmpR op_eq (pv 6) (pv 3) (nomark _)) (pa_cons (pv 5) pa_nil))) pa_nil))))))
        (pss_one (ps_set (i := 3) scL_places.nd rfl (.inl rfl) (pv 4)))))))
      (pss_one (ps_ret (pv 2))))), ?_⟩
    refine ⟨Nat.zero_le _, fun D hD => ⟨_, _, rfl, ?_⟩⟩
    have s0 := same_new (o := .lst []) hD
    have hD0 : (upd H D (.lst [])) D = some (.lst []) := upd_same
    generalize upd H D (.lst []) = H0 at s0 hD0 ⊢
    have hll : lv.length = ls.length := hall.len
    refine ⟨fun m σ H' => ∃ (sa f : Nat) (dn : List Int) (y4 y5 y6 : Option V) (pv : List V), σ = [some (.int L), some (.ref q), some (.ref D), some (.int (sa : Int)), y4, y5, y6] ∧ Same H H' ∧ H' D = some (.lst pv) ∧ AllAt RwAt H' pv dn ∧ dn ++ plGo L ls f sa = plGo L ls ls.length 0 ∧ sa ≤ ls.length ∧ ls.length ≤ sa + f ∧ dn.length = sa ∧ m = ls.length - sa,
      ⟨_, 0, ls.length, [], none, none, none, [], rfl, s0, hD0, trivial, rfl, Nat.zero_le _, by omega, rfl, rfl⟩, ?_⟩
    rintro m σ H1 ⟨sa, f, dn, y4, y5, y6, pv, rfl, s1, hpv, hdn, hgo, hsa, hf, hdl, hm⟩
    refine ⟨_, rfl, _, rfl, q, _, rfl, .inl (SqL.of (s1 _ _ hq)), _, _, rfl, rfl, _, rfl, ite2 (fun g1 => ?_) (fun g1 => ?_)⟩
    · have g1' : sa < ls.length := by
        have := of_decide_eq_true g1
        omega
      have hb := kcut_bd (L := L) g1'
      obtain ⟨f', rfl⟩ : ∃ f', f = f' + 1 := ⟨f - 1, by omega⟩
      rw [plGo, if_pos g1', rwPg_at, ← List.append_assoc] at hgo
      refine ⟨fun σ' H' => ∃ m', m' < m ∧ ∃ (sa f : Nat) (dn : List Int) (y4 y5 y6 : Option V) (pv : List V), σ' = [some (.int L), some (.ref q), some (.ref D), some (.int (sa : Int)), y4, y5, y6] ∧ Same H H' ∧ H' D = some (.lst pv) ∧ AllAt RwAt H' pv dn ∧ dn ++ plGo L ls f sa = plGo L ls ls.length 0 ∧ sa ≤ ls.length ∧ ls.length ≤ sa + f ∧ dn.length = sa ∧ m' = ls.length - sa, fun σ' H' h => h, ?_⟩
      refine ⟨_, rfl, _, rfl, _, rfl, L, q, lv, ls, sa, rfl, s1 _ _ hq, lfMono (Tups.of s1) hall, g1', by omega, fun H2 s2 => ?_⟩
      generalize kCut L ls sa = st at hb hgo ⊢
      have s12 := s1.trans s2
      refine ⟨_, rfl, _, rfl, (sa : Int), (st : Int), rfl, ⟨by omega, by omega, by omega, by omega⟩, ?_⟩
      have en : ((st : Int) - (sa : Int)).toNat = st - sa := by omega
      rw [en]
      refine for_range (lo := (sa : Int)) (n := st - sa) (fun i σ H' => ∃ (y6 : Option V) (pv : List V), σ = [some (.int L), some (.ref q), some (.ref D), some (.int (sa : Int)), some (.int (st : Int)), some (.int (rowAt ls sa (i - 1))), y6] ∧ Same H H' ∧ H' D = some (.lst pv) ∧ AllAt RwAt H' pv (dn ++ rwL ls sa i))
        ⟨_, pv, rfl, s12, s2 _ _ hpv, by rw [show rwL ls sa 0 = [] from rfl, List.append_nil]; exact rwMono (Tups.of s2) hdn⟩ ?_ ?_
      · rintro i σ H3 hi ⟨y6', pv3, rfl, s3, hpv3, hall3⟩
        have hat : sa + i < ls.length := by omega
        have eat : (sa : Int) + (i : Int) = ((sa + i : Nat) : Int) := by omega
        obtain ⟨t, ht, ht'⟩ := lfTo (lfMono (Tups.of s3) hall) hat
        show gName 6 _ _ _ _
        rw [eat]
        refine ⟨fun σ' H' => σ' = [some (.int L), some (.ref q), some (.ref D), some (.int (sa : Int)), some (.int (st : Int)), some (.int (rowAt ls sa i)), some (.int ((sa + i : Nat) : Int))] ∧ H' = H3, fun N hN => ?_, ?_⟩
        · refine ⟨_, rfl, _, rfl, _, _, rfl, rfl, _, rfl, ite2 (fun g2 => ?_) (fun g2 => ?_)⟩
          · have hi0 : i ≠ 0 := by
              have := of_decide_eq_true g2
              omega
            obtain ⟨j, rfl⟩ : ∃ j, i = j + 1 := ⟨i - 1, by omega⟩
            refine ⟨_, rfl, _, _, rfl, rfl, _, rfl, _, rfl, q, _, _, _, rfl, rfl, SqL.of (s3 _ _ hq), atI_nat ht, t, _, _, _, rfl, rfl, SqT.of ht', atI_nat (j := 0) rfl, _, _, rfl, rfl, ?_⟩
            exact hN _ _ ⟨rfl, rfl⟩
          · have hi0 : i = 0 := by
              have : ¬ ((sa + i : Nat) : Int) > (sa : Int) := fun r => g2 (decide_eq_true r)
              omega
            subst hi0
            exact hN _ _ ⟨rfl, rfl⟩
        rintro σ' H' ⟨rfl, rfl⟩
        refine ⟨_, rfl, .inl ⟨rfl, _, SqL.of hpv3⟩, _, rfl, _, rfl, rfl, _, rfl, (by show 2 ≤ sizeLine; decide), fun u hu => ?_⟩
        have hsz : pv3.length < sizeLine := by
          rw [hall3.len, List.length_append, rwL_len, hdl]
          exact Nat.lt_of_le_of_lt (m := 10000) (by omega) (by decide)
        obtain ⟨p1, p2, p3, p4⟩ := all_push (f := fun r : Int => [.bl (decide (r = 0)), .int r]) (y := rowAt ls sa i) (tv := [.bl (decide (V.int ((sa + i : Nat) : Int) = V.int (sa : Int))), .int (rowAt ls sa i)]) hpv3 hall3 hu (by
          rw [rowAt_0 hsp, dec_int]
          have : decide (((sa + i : Nat) : Int) = (sa : Int)) = decide (i = 0) := by
            by_cases e : i = 0
            · rw [decide_eq_true e, decide_eq_true (by omega)]
            · rw [decide_eq_false e, decide_eq_false (by omega)]
          rw [this])
        rw [List.append_assoc, ← rwL_succ] at p2
        exact ⟨D, _, _, rfl, rfl, p3, hsz, _, _, rfl, fun u o e => p4 u o (fun r => by rw [r, hD] at e; cases e) (s3 _ _ e), p1, p2⟩
      · rintro σ H3 ⟨y6', pv3, rfl, s3, hpv3, hall3⟩
        refine ⟨_, rfl, ?_⟩
        exact ⟨ls.length - st, by omega, st, f', dn ++ rwL ls sa (st - sa), _, _, _, pv3, rfl, s3, hpv3, hall3, hgo, hb.2, by omega, by rw [List.length_append, rwL_len, hdl]; omega, rfl⟩
    · have hge : ls.length ≤ sa := by
        have : ¬ (sa : Int) < (lv.length : Int) := fun r => g1 (decide_eq_true r)
        omega
      rw [plGo_end hge, List.append_nil] at hgo
      rw [hgo] at hdn
      exact ⟨_, rfl, k D H1 pv hD s1 hpv hdn⟩
end
end Pa
set_option maxRecDepth 100000
set_option maxHeartbeats 4000000
namespace Pa
open PySem PySem.Spec PyProof.Rows L2 SrtO
theorem cutV_both {xs : List V} {a b : Nat} (h : a ≤ b) (hb : b ≤ xs.length) : cutV xs (some (a : Int)) (some (b : Int)) = (xs.drop a).take (b - a) := by
  unfold cutV
  rw [HT.sIx_nat, HT.sIx_nat, Nat.min_eq_left hb, Nat.min_eq_left (Nat.le_trans h hb)]
theorem bySl_snoc : ∀ (ns : List Nat) (n : Nat) (P : List LnV), bySl (ns ++ [n]) P = bySl ns P ++ [(P.drop ns.sum).take n]
  | [], n, P => by simp [bySl]
  | m :: ns, n, P => by
    show P.take m :: bySl (ns ++ [n]) (P.drop m) = (P.take m :: bySl ns (P.drop m)) ++ _
    rw [bySl_snoc ns n, List.drop_drop, List.sum_cons, List.cons_append]
def SlAt (D : Addr) (H : Hp) (x : V) (l : List LnV) : Prop := ∃ a vs, x = V.ref a ∧ a ≠ D ∧ H a = some (.lst vs) ∧ AllAt LvAt H vs l
def dLs (l : List LnV) : PyData := .list (l.map dLn)
def dBy (ll : List (List LnV)) : PyData := .list (ll.map dLs)

theorem SlAt.mono {D : Addr} {H H' : Hp} {x : V} {l : List LnV} (m : ∀ a o, a ≠ D → H a = some o → H' a = some o) (t : Tups H H') (h : SlAt D H x l) : SlAt D H' x l := by
  obtain ⟨a, vs, e, hn, h1, h2⟩ := h
  exact ⟨a, vs, e, hn, m _ _ hn h1, lvMono t h2⟩
theorem dpSl {K : PySem.W.Frag} {D : Addr} {H : Hp} : ∀ {xs : List V} {ll : List (List LnV)}, AllAt (SlAt D) H xs ll → DpAll K H xs (ll.map dLs)
  | [], [], _ => .nil
  | _ :: _, _ :: _, ⟨⟨_, _, e, _, h1, h2⟩, h⟩ => by
    subst e
    exact .cons (.lst (SqL.of h1) (dpLv h2)) (dpSl h)
  | [], _ :: _, h => h.elim
  | _ :: _, [], h => h.elim
theorem law_sp {bl : List (Nat × Vl)} (h : ∀ b ∈ bl, 0 ≤ b.2.sp) : ∀ i, 0 ≤ (ln (lawLines bl).ls i).sp := fun i => by
  rw [(law_like bl).ls.sp i]
  have g := (good_lines _ (bs_sp h)).1
  unfold ln
  cases e : (linesOf (bsV bl)).ls[i]? with
  | none => exact Int.le_refl 0
  | some l => exact g.nn l (List.mem_of_getElem? e)
section
variable {P : Program} {w : World} {K : PySem.W.Frag} {mg : Str → Option Value} {base : Heap} {tp C CS : Addr}
/-! ### _law_by_block -/
def spKBy (K : PySem.W.Frag) : Sp := fun vs H Q _ => ∃ (L : Int) (q : Addr) (xs : List V) (bl : List (Nat × Vl)), vs = [.int L, .ref q] ∧ 1 ≤ L ∧ H q = some (.lst xs) ∧ AllAt PvAt H xs bl ∧ (szB bl).sum ≤ 2000 ∧ bl.length ≤ 100 ∧ (∀ b ∈ bl, b.1 ≤ 200) ∧ (∀ b ∈ bl, 0 ≤ b.2.sp) ∧
  ∀ v H', Same H H' → Dp K H' v (dBy (bySl (szB bl) (plcs L bl))) → Q v H'
abbrev sL_by_block : Stmt := topS 36
theorem scL_by_block : FnScope ["_law_length", "_law_blocks", "_law_places_here", "_law_told", "_law_at", "_law_count", "_law_values_here", "_law_size"] ["_law_length", "_law_blocks"] (defScope sL_by_block) := ⟨rfl, rfl, rfl, by decide +kernel, rfl, by decide +kernel, by decide +kernel⟩
theorem ok_kby {f : Addr} {fd : FuncData} (F : Fun K "_law_by_block" "_law_by_block" sL_by_block f fd) (C__law_lines : CallOk P w K mg base 1 "_law_lines" ["_law_blocks"] (spKLines K)) (C__law_places : CallOk P w K mg base 2 "_law_places" ["_law_length", "_law_rows"] spKPlaces) : FnOk P w K mg base CX0 3 f fd ["_law_length", "_law_blocks"] (spKBy K) := by
  refine F.ok scL_by_block (fun vs H Q E h => ?_) (fun cdv A outer s H vs Q E hr h => ?_)
  · obtain ⟨L, q, xs, bl, rfl, _⟩ := h
    rfl
  · obtain ⟨L, q, xs, bl, rfl, hL, hq, hall, hsum, hbl, h200, hsp, k⟩ := h
    refine ⟨_, (pss_cons (ps_set (i := 2) scL_by_block.nd rfl (.inl rfl) (pe_cc C__law_places hr (by rfl) (pa_cons (pv 0) (pa_cons (pe_cc C__law_lines (hr.mono (by decide)) (by rfl) (pa_cons (pv 1) pa_nil)) pa_nil))))
      (pss_cons (ps_par (i := 3) (j := 4) (by rfl) scL_by_block.nd rfl rfl (by decide) rfl rfl (pa_cons (pe_lst pa_nil) (pa_cons pe_int pa_nil)) (by rfl))
      (pss_cons (ps_for PassesOwn.never rfl (pi_list (pv 1)) (pg_tup rfl (pgs_cons (pg_name (i := 5) scL_by_block.nd rfl (.inl rfl)) (pgs_cons (pg_name (i := 6) scL_by_block.nd rfl (.inl rfl)) pgs_nil)))
        (pss_cons (ps_set (i := 7) scL_by_block.nd rfl (.inl rfl) (pe_pure (pe_ifExp (pt_val (pe_ix ix_tup (pv 6) pe_int (fun _ _ => rfl))) pe_int (pv 5))))
        (pss_cons (ps_expr (pe_bm PySem.F.plainAttrs_list PySem.F.slot_list_append PySem.F.type_list_append mt_append (pv 3) (pa_cons (pe_slice sl_list (pv 2) (po_some (pv 4)) (po_some (pe_op op_add (pv 4) (pv 7)))) pa_nil)))
        (pss_one (ps_set (i := 4) scL_by_block.nd rfl (.inl rfl) (pe_op op_add (pv 4) (pv 7)))))))
      (pss_one (ps_ret (pv 3)))))), ?_⟩
    refine ⟨_, rfl, _, rfl, q, xs, bl, rfl, hq, hall, hsum, h200, fun D1 H1 lv hD1 s1 hlv hlf => ?_⟩
    refine ⟨L, D1, lv, (lawLines bl).ls, rfl, hlv, hlf, by rw [law_len]; omega, law_sp hsp, fun D2 H2 pv hD2 s2 hpv hrw => ?_⟩
    have hP : AllAt LvAt H2 pv (plcs L bl) := by
      rw [← law_places (by omega) hsp (Nat.le_refl _)]
      exact rwLv hrw
    have hPl : pv.length = (szB bl).sum := by rw [hP.len, plcs_len (by omega) hsp]
    have hPl2 := hP.len
    generalize plcs L bl = PL at hP hPl2 k
    have s12 := s1.trans s2
    refine ⟨Nat.zero_le _, fun D hD => ⟨_, _, rfl, ?_⟩⟩
    have s3 := same_new (o := .lst []) hD
    have hD3 : (upd H2 D (.lst [])) D = some (.lst []) := upd_same
    generalize upd H2 D (.lst []) = H3 at s3 hD3 ⊢
    have s13 := s12.trans s3
    have hD0 : H D = none := by
      cases e : H D with
      | none => rfl
      | some o => rw [s12 _ _ e] at hD; cases hD
    have hpv3 := s3 _ _ hpv
    have nD : D2 ≠ D := fun r => by rw [r, hD] at hpv; cases hpv
    have hlen : xs.length = bl.length := hall.len
    refine ⟨_, rfl, q, rfl, ⟨_, SqL.of (s13 _ _ hq)⟩, for_list (K := K) (a := q) (xs := xs) (fun i σ H' => ∃ (y5 y6 y7 : Option V) (tv : List V), σ = [some (.int L), some (.ref q), some (.ref D2), some (.ref D), some (.int (((szB (bl.take i)).sum : Nat) : Int)), y5, y6, y7] ∧ Same H2 H' ∧ H' D = some (.lst tv) ∧ AllAt (SlAt D) H' tv (bySl (szB (bl.take i)) PL))
      ⟨none, none, none, [], rfl, s3, hD3, trivial⟩ (fun i σ H' _ ⟨_, _, _, _, _, s, _⟩ => SqL.of (s _ _ (s12 _ _ hq))) ?_ ?_⟩
    · rintro i x σ H4 hi ⟨y5, y6, y7, tv, rfl, s4, htv, hall4⟩
      obtain ⟨b, hb, t, p, rfl, ht, hp⟩ := hall.at hi
      have eb : bl.take (i + 1) = bl.take i ++ [b] := by rw [List.take_add_one, hb]; rfl
      have hi2 : i < bl.length := (List.getElem?_eq_some_iff.mp hb).1
      have esz : szB (bl.take (i + 1)) = szB (bl.take i) ++ [szV b.1 b.2] := by
        rw [eb]
        unfold szB
        rw [List.map_append]
        rfl
      have hsm : (szB (bl.take (i + 1))).sum ≤ (szB bl).sum := sz_take bl (i + 1)
      have hst : (szB (bl.take i)).length = i := by
        unfold szB
        rw [List.length_map, List.length_take]
        omega
      have htl := hall4.len
      have hbn : ∀ (ns : List Nat) (P : List LnV), (bySl ns P).length = ns.length := by
        intro ns
        induction ns with
        | nil => intro P; rfl
        | cons n ns ih => intro P; show (bySl ns (P.drop n)).length + 1 = ns.length + 1; rw [ih]
      rw [hbn, hst] at htl
      rw [esz, List.sum_append, List.sum_singleton] at hsm
      rw [esz, bySl_snoc, List.sum_append, List.sum_singleton]
      generalize (szB (bl.take i)).sum = n0 at hsm ⊢
      have s04 := s12.trans s4
      have hp4 := s04 _ _ hp
      refine ⟨t, _, rfl, SqT.of (s04 _ _ ht), rfl, _, _, rfl, _, _, rfl, rfl, ?_⟩
      refine ⟨.int ((szV b.1 b.2 : Nat) : Int), fun Q' hQ => ?_, ?_⟩
      · refine ⟨_, rfl, p, _, _, _, rfl, rfl, SqT.of hp4, atI_nat (j := 5) rfl, _, rfl, ite2 (fun g1 => ?_) (fun g1 => ?_)⟩
        · unfold szV at hQ
          rw [if_pos g1] at hQ
          exact hQ
        · unfold szV at hQ
          rw [if_neg g1] at hQ
          exact ⟨_, rfl, hQ⟩
      generalize szV b.1 b.2 = n1 at hsm ⊢
      have hpv4 := s4 _ _ hpv
      refine ⟨_, rfl, .inl ⟨rfl, _, SqL.of htv⟩, _, rfl, _, rfl, _, rfl, _, rfl, _, rfl, _, _, rfl, rfl, _, rfl, D2, _, rfl, SqL.of hpv4, fun u hu => ?_⟩
      have e1 : cutV pv (some (n0 : Int)) (some ((n0 : Int) + (n1 : Int))) = (pv.drop n0).take n1 := by
        have := cutV_both (xs := pv) (a := n0) (b := n0 + n1) (by omega) (by omega)
        rw [Nat.add_sub_cancel_left] at this
        rw [← this]
        rfl
      rw [e1]
      have s5 := same_new (o := .lst ((pv.drop n0).take n1)) hu
      have hu5 : (upd H4 u (.lst ((pv.drop n0).take n1))) u = some (.lst ((pv.drop n0).take n1)) := upd_same
      generalize upd H4 u (.lst ((pv.drop n0).take n1)) = H5 at s5 hu5 ⊢
      have nu : u ≠ D := fun r => by rw [r, htv] at hu; cases hu
      have htv5 := s5 _ _ htv
      have tD : Tups H5 (upd H5 D (.lst (tv ++ [.ref u]))) := Tups.lst htv5
      have keep : ∀ a o, a ≠ D → H5 a = some o → (upd H5 D (.lst (tv ++ [.ref u]))) a = some o := fun a o hn e => (upd_ne hn).trans e
      have hP5 : AllAt LvAt H5 pv PL := lvMono (Tups.of (s4.trans s5)) hP
      refine ⟨D, _, _, rfl, rfl, htv5, ?_, ?_⟩
      · rw [htl]
        exact Nat.lt_of_le_of_lt (m := 100) (by omega) (by decide)
      refine ⟨_, rfl, _, rfl, _, _, rfl, rfl, ?_⟩
      refine ⟨_, _, _, tv ++ [.ref u], rfl, ?_, upd_same, ?_⟩
      · exact fun a o e => keep a o (fun r => by rw [r, hD] at e; cases e) (s5 _ _ (s4 _ _ e))
      · refine ((hall4.mono fun _ _ => SlAt.mono (fun a o _ e => s5 a o e) (Tups.of s5)).mono fun _ _ => SlAt.mono keep tD).snoc ⟨u, _, rfl, nu, keep _ _ nu hu5, lvMono tD ((hP5.drop n0).take n1)⟩
    · rintro σ H4 ⟨y5, y6, y7, tv, rfl, s4, htv, hall4⟩
      rw [hlen, List.take_of_length_le (Nat.le_refl _)] at hall4
      exact ⟨_, rfl, k _ H4 (s12.trans s4) (.lst (SqL.of htv) (dpSl hall4))⟩
end
end Pa
set_option maxRecDepth 100000
set_option maxHeartbeats 4000000
namespace Pa
open PySem PySem.Spec PyProof.Rows L2 SrtO
theorem dp_vI {K : PySem.W.Frag} {H : Hp} {a : Addr} {v : Vl} (h : H a = some (.tup (vT v))) : Dp K H (.ref a) (dVl v) := .tup (SqT.of h) (.cons (.int _) (.cons (.int _) (.cons (.int _) (.cons (.bl _) (.cons (.bl _) (.cons (.bl _) .nil))))))
theorem dp2 {K : PySem.W.Frag} {H : Hp} {p : Addr} {a b : Int} (h : H p = some (.tup [.int a, .int b])) : Dp K H (.ref p) (.tuple [.int a, .int b]) := .tup (SqT.of h) (.cons (.int _) (.cons (.int _) .nil))
def j00 : JD := ⟨(2, 0, 0), [], (2, 0, 0), [], []⟩
theorem wf00 {L1 L2 : Int} : WfO L1 L2 (some j00) := by
  intro x e
  cases e
  refine ⟨⟨.inr (.inr rfl), rfl, (fun x hx => by cases hx), fun l hl => ?_⟩, ⟨.inr (.inr rfl), rfl, (fun x hx => by cases hx), fun l hl => ?_⟩, rfl⟩
  · simp [side1, j00] at hl
  · simp [side2, j00] at hl
def ROk2 (r : R3) : Prop := r.c ≤ 200 ∧ 0 ≤ r.f.sp ∧ 0 ≤ r.s.sp
def jR (rs : List R3) : List JRow := rs.map fun r => (r.c, r.f, r.s)
theorem jR_ok {rs : List R3} (h : ∀ r ∈ rs, ROk2 r) : ∀ r ∈ jR rs, 0 ≤ r.2.1.sp ∧ 0 ≤ r.2.2.sp := fun r hr => by
  obtain ⟨x, hx, rfl⟩ := List.mem_map.mp hr
  exact (h x hx).2
theorem wf_all {L1 L2 : Int} (a1 : 1 ≤ L1) (a2 : L1 ≤ 4) (b1 : 1 ≤ L2) (b2 : L2 ≤ 4) (rs : List JRow) (h : ∀ r ∈ rs, 0 ≤ r.2.1.sp ∧ 0 ≤ r.2.2.sp) : WfO L1 L2 (jAll L1 L2 rs) := by
  rw [← List.reverse_reverse rs] at h ⊢
  generalize rs.reverse = l at h
  induction l with
  | nil => exact wf00
  | cons r l ih =>
    rw [List.reverse_cons] at h ⊢
    rw [jAll_snoc]
    have hr := h r (by simp)
    exact jblock_ok a1 a2 b1 b2 (ih fun y hy => h y (List.mem_append_left _ hy)) r.1 hr.1 hr.2
theorem sz_bd {bl : List (Nat × Vl)} (h : ∀ b ∈ bl, b.1 ≤ 200) : (szB bl).sum ≤ 200 * bl.length := by
  induction bl with
  | nil => exact Nat.le_refl _
  | cons b bl ih =>
    have h1 := ih fun x hx => h x (List.mem_cons_of_mem _ hx)
    have h2 := h b List.mem_cons_self
    unfold szB at h1 ⊢
    rw [List.map_cons, List.sum_cons, List.length_cons]
    have : szV b.1 b.2 ≤ b.1 := by unfold szV; split <;> omega
    omega
theorem block0 (L1 L2 : Int) (j : Option JD) (f s : Vl) : blockJ L1 L2 j 0 f s = pageJ j (f.pg && !f.ot) (s.pg && !s.ot) := by
  unfold blockJ
  rw [if_neg (by omega), if_pos (.inl rfl)]
theorem e_ll (a b : List PyData) : PyData.eqv (.list a) (.list b) = PyData.eqvAll a b := by simp [PyData.eqv]
theorem eqv_Ls (a b : List LnV) : PyData.eqv (dLs a) (dLs b) = decide (a = b) := by
  unfold dLs
  rw [e_ll, eqv_Sts]
theorem eqv_Bys : ∀ a b : List (List LnV), PyData.eqvAll (a.map dLs) (b.map dLs) = decide (a = b)
  | [], [] => by rw [List.map_nil, e_nil]; rfl
  | [], y :: b => by rw [List.map_nil, List.map_cons, e_nc]; simp
  | x :: a, [] => by rw [List.map_nil, List.map_cons, e_cn]; simp
  | x :: a, y :: b => by
    rw [List.map_cons, List.map_cons, e_cons, eqv_Ls, eqv_Bys a b, Bool.eq_iff_iff]
    simp
theorem eqv_by (a b : List (List LnV)) : PyData.eqv (dBy a) (dBy b) = decide (a = b) := by
  unfold dBy
  rw [e_ll, eqv_Bys]
theorem lay_Ls (st : List LnV) : (dLs st).canLay0 = true ∧ (dLs st).depth ≤ 2 := by
  obtain ⟨h1, h2⟩ := lay_map (n := 1) lay_Ln st
  unfold dLs
  rw [PyData.canLay0, PyData.depth, h1]
  exact ⟨rfl, by omega⟩
theorem sh_By (l : List (List LnV)) : SeqAt.shaped (dBy l) = true := by
  obtain ⟨h1, h2⟩ := lay_map (n := 2) lay_Ls l
  refine shaped_of (n := 3) ?_ (by decide)
  unfold dBy
  rw [PyData.canLay0, PyData.depth, h1]
  exact ⟨rfl, by omega⟩
theorem AllAt.set {α : Type} {R : Hp → V → α → Prop} {H : Hp} : ∀ {xs : List V} {ys : List α} {x : V} {y : α} (i : Nat), AllAt R H xs ys → R H x y → AllAt R H (xs.set i x) (ys.set i y)
  | [], [], _, _, _, _, _ => trivial
  | _ :: _, _ :: _, _, _, 0, h, r => ⟨r, h.2⟩
  | _ :: _, _ :: _, _, _, i + 1, h, r => ⟨h.1, AllAt.set i h.2 r⟩
  | [], _ :: _, _, _, _, h, _ => h.elim
  | _ :: _, [], _, _, _, h, _ => h.elim
section
variable {P : Program} {w : World} {K : PySem.W.Frag} {mg : Str → Option Value} {base : Heap} {tp C CS : Addr}
/-! ### law -/
def spLaw (K : PySem.W.Frag) : Sp := fun vs H Q _ => ∃ (a : Addr) (ns : List Int), vs = [.ref a] ∧ SqL K H a (ns.map V.int) ∧ ns.length ≤ 63 ∧ ∀ H', Q (.bl true) H'
abbrev slaw : Stmt := topS 37
theorem sclaw : FnScope ["_law_script", "_law_bag_here", "_law_lengths", "_law_row_here", "_law_at", "_law_joint", "_law_count", "_law_first", "_law_second", "_law_before", "_law_pages", "_law_one_here", "_law_two", "_law_told"] ["_law_script"] (defScope slaw) := ⟨rfl, rfl, rfl, by decide +kernel, rfl, by decide +kernel, by decide +kernel⟩
theorem ok_law {f : Addr} {fd : FuncData} (F : Fun K "law" "law" slaw f fd) (T : Txt K mg tp C)
    (C__law_bag : CallOk P w K mg base 1 "_law_bag" ["_law_script", "_law_at"] (spBag K)) (C__law_draw : CallOk P w K mg base 1 "_law_draw" ["_law_bag_here", "_law_many"] spDraw)
    (C__law_row : CallOk P w K mg base 3 "_law_row" ["_law_bag_here", "_law_many"] spRow) (C_joint_begin : CallOk P w K mg base 1 "joint_begin" [] (spBegin0 K)) (C_joint_page : CallOk P w K mg base 3 "joint_page" ["joint", "first", "second"] (spPageJ K))
    (C_joint_block : CallOk P w K mg base 6 "joint_block" ["lengths", "joint", "count", "first", "second"] (spBlockJ K)) (C_alike_at_end : CallOk P w K mg base 4 "alike_at_end" ["joint"] (spEnd K)) (C__law_by_block : CallOk P w K mg base 3 "_law_by_block" ["_law_length", "_law_blocks"] (spKBy K)) : FnOk P w K mg base CX0 7 f fd ["_law_script"] (spLaw K) := by
  refine F.ok sclaw (fun vs H Q E h => ?_) (fun cdv A outer s H vs Q E hr h => ?_)
  · obtain ⟨a, ns, rfl, _⟩ := h
    rfl
  · obtain ⟨a, ns, rfl, hS, hns, k⟩ := h
    refine ⟨_, (pss_cons (ps_set (i := 1) sclaw.nd rfl (.inl rfl) (pe_cc C__law_bag (hr.mono (by decide)) (by rfl) (pa_cons (pv 0) (pa_cons pe_int pa_nil))))
      (pss_cons (ps_set (i := 2) sclaw.nd rfl (.inl rfl) (pe_tup (pa_cons (pe_op op_add pe_int (pe_cc C__law_draw (hr.mono (by decide)) (by rfl) (pa_cons (pv 1) (pa_cons pe_int pa_nil)))) (pa_cons (pe_op op_add pe_int (pe_cc C__law_draw (hr.mono (by decide)) (by rfl) (pa_cons (pv 1) (pa_cons pe_int pa_nil)))) pa_nil))))
      (pss_cons (ps_by (ps_if (pt_cmpR op_gt (pe_cc C__law_draw (hr.mono (by decide)) (by rfl) (pa_cons (pv 1) (pa_cons pe_int pa_nil))) pe_int (nomark _))
        (pss_one (ps_set (i := 2) sclaw.nd rfl (.inl rfl) (pe_tup (pa_cons (pe_ix ix_tup (pv 2) pe_int (fun _ _ => rfl)) (pa_cons (pe_ix ix_tup (pv 2) pe_int (fun _ _ => rfl)) pa_nil)))))
        pss_nil))
      (pss_cons (ps_set (i := 3) sclaw.nd rfl (.inl rfl) (pe_cc C__law_row (hr.mono (by decide)) (by rfl) (pa_cons (pv 1) (pa_cons (pe_op op_add pe_int (pe_cc C__law_draw (hr.mono (by decide)) (by rfl) (pa_cons (pv 1) (pa_cons pe_int pa_nil)))) pa_nil))))
      (pss_cons (ps_by (ps_if (pt_cmpR op_eq (pe_cc C__law_draw (hr.mono (by decide)) (by rfl) (pa_cons (pv 1) (pa_cons pe_int pa_nil))) pe_int (nomark _))
        (pss_cons (ps_set (i := 4) sclaw.nd rfl (.inl rfl) (pe_cc C__law_draw (hr.mono (by decide)) (by rfl) (pa_cons (pv 1) (pa_cons (pe_callB call_len_seq (by rfl) T.b_len PySem.boot_len (pa_cons (pv 3) pa_nil)) pa_nil))))
        (pss_one (ps_asg (pe_op op_catA (pe_tup (pa_cons (pe_cc C__law_draw (hr.mono (by decide)) (by rfl) (pa_cons (pv 1) (pa_cons pe_int pa_nil))) pa_nil)) (pe_slice sl_tupA (pe_ix ix_list (pv 3) (pv 4) (fun _ _ => rfl)) (po_some pe_int) po_none)) (pg_sub (pv 3) (pv 4) set_list))))
        pss_nil))
      (pss_cons (ps_set (i := 5) sclaw.nd rfl (.inl rfl) (pe_cc0 C_joint_begin (hr.mono (by decide)) (by rfl)))
      (pss_cons (ps_for PassesOwn.never rfl (pi_list (pv 3)) (pg_tup rfl (pgs_cons (pg_name (i := 6) sclaw.nd rfl (.inl rfl)) (pgs_cons (pg_name (i := 7) sclaw.nd rfl (.inl rfl)) (pgs_cons (pg_name (i := 8) sclaw.nd rfl (.inl rfl)) pgs_nil))))
        (pss_cons (ps_set (i := 9) sclaw.nd rfl (.inl rfl) (pv 5))
        (pss_cons (ps_set (i := 10) sclaw.nd rfl (.inl rfl) (pe_tup (pa_cons (pe_pure (pe_and (pe_ix ix_tup (pv 7) pe_int (fun _ _ => rfl)) (pe_one (pe_not (pe_ix ix_tup (pv 7) pe_int (fun _ _ => rfl)))))) (pa_cons (pe_pure (pe_and (pe_ix ix_tup (pv 8) pe_int (fun _ _ => rfl)) (pe_one (pe_not (pe_ix ix_tup (pv 8) pe_int (fun _ _ => rfl)))))) pa_nil))))
        (pss_cons (ps_if (pt_cmpR (op_neD hr.units) (pe_cc C_joint_page (hr.mono (by decide)) (by rfl) (pa_cons (pv 5) (pa_cons (pe_ix ix_tup (pv 10) pe_int (fun _ _ => rfl)) (pa_cons (pe_ix ix_tup (pv 10) pe_int (fun _ _ => rfl)) pa_nil)))) (pe_cc C_joint_block hr (by rfl) (pa_cons (pv 2) (pa_cons (pv 5) (pa_cons pe_int (pa_cons (pv 7) (pa_cons (pv 8) pa_nil)))))) (nomark _))
          (pss_one (ps_ret pe_bl))
          pss_nil)
        (pss_cons (ps_set (i := 5) sclaw.nd rfl (.inl rfl) (pe_cc C_joint_block hr (by rfl) (pa_cons (pv 2) (pa_cons (pv 5) (pa_cons (pv 6) (pa_cons (pv 7) (pa_cons (pv 8) pa_nil)))))))
        (pss_one (ps_if (pt_by (PW.pt (pw_and (pt_cmpR (op_eqD hr.units) (pv 9) pe_str (nomark _)) (pw_and1 (pt_cmpR (op_neD hr.units) (pv 5) pe_str (nomark _))))))
          (pss_one (ps_ret pe_bl))
          pss_nil)))))))
      (pss_cons (ps_set (i := 11) sclaw.nd rfl (.inl rfl) (pe_cc C__law_by_block (hr.mono (by decide)) (by rfl) (pa_cons (pe_ix ix_tup (pv 2) pe_int (fun _ _ => rfl)) (pa_cons (pe_lc (own := [("_law_count", 6), ("_law_first", 7), ("_law_second", 8)]) (g := gTup K 3 (gCons (gName 6) (gCons (gName 7) (gCons (gName 8) gNil)))) (tt := tYes) rfl sclaw.nd (pi_list (pv 3)) (blkOk_by (N := ["_law_script", "_law_bag_here", "_law_lengths", "_law_row_here", "_law_at", "_law_joint", "_law_count", "_law_first", "_law_second", "_law_before", "_law_pages", "_law_one_here", "_law_two", "_law_told"]) (sc := defScope slaw) (by decide +kernel)) (fun _ _ _ _ _ => (pg_tup rfl (pgs_cons (pg_name (i := 6) sclaw.nd rfl (.inl rfl)) (pgs_cons (pg_name (i := 7) sclaw.nd rfl (.inl rfl)) (pgs_cons (pg_name (i := 8) sclaw.nd rfl (.inl rfl)) pgs_nil))))) (fun _ _ _ _ _ => pts_nil) (fun _ _ _ _ _ => (pe_tup (pa_cons (pv 6) (pa_cons (pv 7) pa_nil))))) pa_nil))))
      (pss_cons (ps_set (i := 12) sclaw.nd rfl (.inl rfl) (pe_cc C__law_by_block (hr.mono (by decide)) (by rfl) (pa_cons (pe_ix ix_tup (pv 2) pe_int (fun _ _ => rfl)) (pa_cons (pe_lc (own := [("_law_count", 6), ("_law_first", 7), ("_law_second", 8)]) (g := gTup K 3 (gCons (gName 6) (gCons (gName 7) (gCons (gName 8) gNil)))) (tt := tYes) rfl sclaw.nd (pi_list (pv 3)) (blkOk_by (N := ["_law_script", "_law_bag_here", "_law_lengths", "_law_row_here", "_law_at", "_law_joint", "_law_count", "_law_first", "_law_second", "_law_before", "_law_pages", "_law_one_here", "_law_two", "_law_told"]) (sc := defScope slaw) (by decide +kernel)) (fun _ _ _ _ _ => (pg_tup rfl (pgs_cons (pg_name (i := 6) sclaw.nd rfl (.inl rfl)) (pgs_cons (pg_name (i := 7) sclaw.nd rfl (.inl rfl)) (pgs_cons (pg_name (i := 8) sclaw.nd rfl (.inl rfl)) pgs_nil))))) (fun _ _ _ _ _ => pts_nil) (fun _ _ _ _ _ => (pe_tup (pa_cons (pv 6) (pa_cons (pv 8) pa_nil))))) pa_nil))))
      (pss_cons (ps_set (i := 13) sclaw.nd rfl (.inl rfl) (pe_cc C_alike_at_end (hr.mono (by decide)) (by rfl) (pa_cons (pv 5) pa_nil)))
      (pss_one (ps_ret (pe_and (pe_callB call_isi (by rfl) T.b_isinstance (by decide +kernel) (pa_cons (pv 13) (pa_cons (pe_bltn (v := .ty "bool") (by rfl) T.b_bool (by decide +kernel) rfl) pa_nil))) (pe_one (pe_cmpR op_eq (pv 13) (pe_cmpR (op_eqD hr.units) (pv 11) (pv 12) (nomark _)) (nomark _)))))))))))))))), ?_⟩
    refine ⟨_, rfl, a, 0, ns, rfl, hS, by decide, by decide, fun b H1 nb hb1 _ => ?_⟩
    -- lengths
    refine ⟨_, rfl, b, _, rfl, hb1, by decide, by decide, fun d1 H2 d10 d11 B2 => ⟨2, d1, rfl, rfl, ?_⟩⟩
    refine ⟨_, rfl, b, _, rfl, B2.bag, by decide, by decide, fun d2 H3 d20 d21 B3 => ⟨2, d2, rfl, rfl, (by show 2 ≤ sizeLine; decide), fun q hq => ?_⟩⟩
    have B4 := B3.fresh (o := .tup [.int (2 + d1), .int (2 + d2)]) hq
    have hq4 : (upd H3 q (.tup [.int (2 + d1), .int (2 + d2)])) q = some (.tup [.int (2 + d1), .int (2 + d2)]) := upd_same
    generalize upd H3 q (.tup [.int (2 + d1), .int (2 + d2)]) = H4 at B4 hq4 ⊢
    refine ⟨fun σ' H' => ∃ (q : Addr) (L1 L2 : Int), σ' = [some (.ref a), some (.ref b), some (.ref q), none, none, none, none, none, none, none, none, none, none, none] ∧ H' q = some (.tup [.int L1, .int L2]) ∧ 2 ≤ L1 ∧ L1 ≤ 4 ∧ 2 ≤ L2 ∧ L2 ≤ 4 ∧ IsBag H' b, fun N hN => ?_, ?_⟩
    · refine ⟨_, rfl, b, _, rfl, B4.bag, by decide, by decide, fun d3 H5 _ _ B5 => ⟨_, _, rfl, rfl, _, rfl, ite2 (fun _ => ?_) (fun _ => ?_)⟩⟩
      · have hq5 := bk_tups B4.bag B5 _ _ hq4
        refine ⟨_, rfl, q, _, _, _, rfl, rfl, SqT.of hq5, atI_nat (j := 0) rfl, _, rfl, q, _, _, _, rfl, rfl, SqT.of hq5, atI_nat (j := 0) rfl, (by show 2 ≤ sizeLine; decide), fun q2 hq2 => ?_⟩
        exact hN _ _ ⟨q2, 2 + d1, 2 + d1, rfl, upd_same, by omega, by omega, by omega, by omega, (B5.fresh hq2).bag⟩
      · exact hN _ _ ⟨q, 2 + d1, 2 + d2, rfl, bk_tups B4.bag B5 _ _ hq4, by omega, by omega, by omega, by omega, B5.bag⟩
    rintro σ' H5 ⟨q, L1, L2, rfl, hq5, a1, a2, b1, b2, hb5⟩
    -- the row
    refine ⟨_, rfl, _, rfl, b, _, rfl, hb5, by decide, by decide, fun d9 H6 d90 d91 B6 => ⟨1, d9, rfl, rfl, b, 1 + d9, rfl, B6.bag, by omega, by omega, fun D H7 xs rs nD B7 hD7 hall hok hrl => ?_⟩⟩
    have hq7 := bk_tups B6.bag B7 _ _ (bk_tups hb5 B6 _ _ hq5)
    have hxl := hall.len
    have hrl2 : rs.length = (1 + d9).toNat := hrl
    refine ⟨fun σ' H' => ∃ (y4 : Option V) (xs : List V) (rs : List R3), σ' = [some (.ref a), some (.ref b), some (.ref q), some (.ref D), y4, none, none, none, none, none, none, none, none, none] ∧ H' q = some (.tup [.int L1, .int L2]) ∧ H' D = some (.lst xs) ∧ AllAt RowAt H' xs rs ∧ (∀ r ∈ rs, ROk2 r) ∧ rs.length ≤ 9, fun N hN => ?_, ?_⟩
    · refine ⟨_, rfl, b, _, rfl, B7.bag, by decide, by decide, fun d3 H8 _ _ B8 => ⟨rfl, _, rfl, ite2 (fun _ => ?_) (fun _ => ?_)⟩⟩
      · have nDb : D ≠ b := fun r => by
          obtain ⟨_, _, _, e⟩ := B6.bag
          rw [← r, nD] at e
          cases e
        have hD8 := B8.keep _ _ nDb hD7
        have hall8 := hall.mono fun _ _ => RowAt.mono (bk_tups B7.bag B8)
        have hq8 := bk_tups B7.bag B8 _ _ hq7
        refine ⟨_, rfl, _, rfl, D, xs, rfl, .inl (SqL.of hD8), b, _, rfl, B8.bag, by omega, Int.lt_of_lt_of_le (b := 1000) (by omega) (by decide), fun d4 H9 d40 d41 B9 => ?_⟩
        have hD9 := B9.keep _ _ nDb hD8
        have hall9 := hall8.mono fun _ _ => RowAt.mono (bk_tups B8.bag B9)
        have hq9 := bk_tups B8.bag B9 _ _ hq8
        refine ⟨_, rfl, b, _, rfl, B9.bag, by decide, by decide, fun d5 H10 d50 d51 B10 => ⟨(by show 1 ≤ sizeLine; decide), fun u1 hu1 => ?_⟩⟩
        have hD10 := B10.keep _ _ nDb hD9
        have hall10 := hall9.mono fun _ _ => RowAt.mono (bk_tups B9.bag B10)
        have hq10 := bk_tups B9.bag B10 _ _ hq9
        have s11 := same_new (o := .tup [.int d5]) hu1
        have hu11 : (upd H10 u1 (.tup [.int d5])) u1 = some (.tup [.int d5]) := upd_same
        generalize upd H10 u1 (.tup [.int d5]) = H11 at s11 hu11 ⊢
        obtain ⟨n4, rfl⟩ : ∃ n : Nat, d4 = (n : Int) := ⟨d4.toNat, by omega⟩
        have hn4 : n4 < xs.length := by omega
        obtain ⟨r, hr', t, p1, p2, ex, ht, hp1, hp2⟩ := hall10.at (List.getElem?_eq_getElem hn4)
        have ex4 : xs[n4]? = some (.ref t) := by rw [List.getElem?_eq_getElem hn4, ex]
        refine ⟨_, rfl, _, rfl, D, _, _, _, rfl, rfl, SqL.of (s11 _ _ hD10), atI_nat ex4, _, rfl, t, _, rfl, SqT.of (s11 _ _ ht), fun e => absurd (show HT.sIx 3 0 (some 1) = 0 from e.1) (by decide), fun _ u2 hu2 => ?_⟩
        have e2 : cutV [V.int (r.c : Int), .ref p1, .ref p2] (some 1) none = [.ref p1, .ref p2] := rfl
        rw [e2]
        have s12 := same_new (o := .tup [.ref p1, .ref p2]) hu2
        have hu12 : (upd H11 u2 (.tup [.ref p1, .ref p2])) u2 = some (.tup [.ref p1, .ref p2]) := upd_same
        generalize upd H11 u2 (.tup [.ref p1, .ref p2]) = H12 at s12 hu12 ⊢
        refine ⟨u1, u2, _, _, rfl, rfl, SqT.of (s12 _ _ hu11), SqT.of hu12, (by show 3 ≤ sizeLine; decide), (fun e => by cases e), (fun _ e => by cases e), fun _ _ p hp => ?_⟩
        have s13 := same_new (o := .tup ([.int d5] ++ [.ref p1, .ref p2])) hp
        have hp13 : (upd H12 p (.tup ([.int d5] ++ [.ref p1, .ref p2]))) p = some (.tup [.int d5, .ref p1, .ref p2]) := upd_same
        generalize upd H12 p (.tup ([.int d5] ++ [.ref p1, .ref p2])) = H13 at s13 hp13 ⊢
        have sX := s11.trans (s12.trans s13)
        have hD13 := sX _ _ hD10
        have eix : ixN xs.length (n4 : Int) = some n4 := by
          unfold ixN
          rw [if_pos (by omega), if_pos (by omega)]
          rfl
        refine ⟨_, rfl, _, rfl, D, xs, _, n4, rfl, rfl, hD13, eix, ?_⟩
        have tD : Tups H13 (upd H13 D (.lst (xs.set n4 (.ref p)))) := Tups.lst hD13
        have hmem := List.mem_of_getElem? hr'
        refine hN _ _ ⟨_, xs.set n4 (.ref p), rs.set n4 ⟨d5.toNat, r.f, r.s⟩, rfl, tD _ _ (sX _ _ hq10), upd_same, ?_, fun z hz => ?_, by rw [List.length_set]; omega⟩
        · refine AllAt.set n4 ((hall10.mono fun _ _ => RowAt.mono (Tups.of sX)).mono fun _ _ => RowAt.mono tD) ⟨p, p1, p2, rfl, ?_, tD _ _ (sX _ _ hp1), tD _ _ (sX _ _ hp2)⟩
          have := tD _ _ hp13
          rw [this]
          show _ = some (HO.tup [.int ((d5.toNat : Nat) : Int), _, _])
          rw [Int.toNat_of_nonneg d50]
        · rcases List.mem_or_eq_of_mem_set hz with h | h
          · exact ⟨by have := (hok z h).1; omega, (hok z h).2⟩
          · rw [h]
            exact ⟨by show d5.toNat ≤ 200; omega, (hok r hmem).2⟩
      · exact hN _ _ ⟨none, xs, rs, rfl, bk_tups B7.bag B8 _ _ hq7, B8.keep _ _ (fun r => by
          obtain ⟨_, _, _, e⟩ := B6.bag
          rw [← r, nD] at e
          cases e) hD7, hall.mono fun _ _ => RowAt.mono (bk_tups B7.bag B8), fun r hr => ⟨by have := (hok r hr).1; omega, (hok r hr).2⟩, by omega⟩
    rintro σ' H8 ⟨y4, xs, rs, rfl, hq8, hD8, hall, hok, hrl⟩
    clear hrl2
    refine ⟨rfl, fun vj H9 s9 hj9 => ?_⟩
    have W0 := @wf00 L1 L2
    -- the walk
    refine ⟨_, rfl, D, rfl, ⟨_, SqL.of (s9 _ _ hD8)⟩, for_list (K := K) (a := D) (xs := xs) (fun i σ H' => ∃ (vj : V) (y6 y7 y8 y9 y10 : Option V), σ = [some (.ref a), some (.ref b), some (.ref q), some (.ref D), y4, some vj, y6, y7, y8, y9, y10, none, none, none] ∧ Same H8 H' ∧ Dp K H' vj (dJ (jAll L1 L2 (jR (rs.take i)))))
      ⟨vj, none, none, none, none, none, rfl, s9, hj9⟩ (fun i σ H' _ ⟨_, _, _, _, _, _, _, s, _⟩ => SqL.of (s _ _ hD8)) ?_ ?_⟩
    · rintro i x σ H10 hi ⟨vj, y6, y7, y8, y9, y10, rfl, s10, hj10⟩
      obtain ⟨r, hr', t, p1, p2, rfl, ht, hp1, hp2⟩ := hall.at hi
      obtain ⟨c200, sp1, sp2⟩ := hok r (List.mem_of_getElem? hr')
      have er : rs.take (i + 1) = rs.take i ++ [r] := by rw [List.take_add_one, hr']; rfl
      have ej : jAll L1 L2 (jR (rs.take (i + 1))) = blockJ L1 L2 (jAll L1 L2 (jR (rs.take i))) r.c r.f r.s := by
        rw [er]
        unfold jR
        rw [List.map_append]
        exact jAll_snoc L1 L2 _ (r.c, r.f, r.s)
      have Wj : WfO L1 L2 (jAll L1 L2 (jR (rs.take i))) := wf_all (by omega) a2 (by omega) b2 _ (jR_ok fun z hz => hok z (List.mem_of_mem_take hz))
      rw [ej]
      generalize jAll L1 L2 (jR (rs.take i)) = j at hj10 Wj ⊢
      refine ⟨t, _, rfl, SqT.of (s10 _ _ ht), rfl, _, _, rfl, _, _, rfl, _, _, rfl, rfl, ?_⟩
      -- before, pages
      refine ⟨_, rfl, ?_⟩
      refine ⟨.bl (r.f.pg && !r.f.ot), fun Q' hQ => ?_, .bl (r.s.pg && !r.s.ot), fun Q' hQ => ?_, (by show 2 ≤ sizeLine; decide), fun u hu => ?_⟩
      · refine ⟨_, rfl, p1, _, _, _, rfl, rfl, SqT.of (s10 _ _ hp1), atI_nat (j := 4) rfl, _, rfl, ?_⟩
        rcases twoB r.f.pg with hg | hg
        · refine iteP hg ⟨_, rfl, p1, _, _, _, rfl, rfl, SqT.of (s10 _ _ hp1), atI_nat (j := 5) rfl, _, rfl, ?_⟩
          rw [hg, Bool.true_and] at hQ
          exact hQ
        · refine iteQ (neT hg) ?_
          rw [hg, Bool.false_and] at hQ
          exact hQ
      · refine ⟨_, rfl, p2, _, _, _, rfl, rfl, SqT.of (s10 _ _ hp2), atI_nat (j := 4) rfl, _, rfl, ?_⟩
        rcases twoB r.s.pg with hg | hg
        · refine iteP hg ⟨_, rfl, p2, _, _, _, rfl, rfl, SqT.of (s10 _ _ hp2), atI_nat (j := 5) rfl, _, rfl, ?_⟩
          rw [hg, Bool.true_and] at hQ
          exact hQ
        · refine iteQ (neT hg) ?_
          rw [hg, Bool.false_and] at hQ
          exact hQ
      have s11 := same_new (o := .tup [.bl (r.f.pg && !r.f.ot), .bl (r.s.pg && !r.s.ot)]) hu
      have hu11 : (upd H10 u (.tup [.bl (r.f.pg && !r.f.ot), .bl (r.s.pg && !r.s.ot)])) u = some (.tup [.bl (r.f.pg && !r.f.ot), .bl (r.s.pg && !r.s.ot)]) := upd_same
      generalize upd H10 u (.tup [.bl (r.f.pg && !r.f.ot), .bl (r.s.pg && !r.s.ot)]) = H11 at s11 hu11 ⊢
      have sA := s10.trans s11
      have dL : ∀ {H'}, Same H8 H' → Dp K H' (.ref q) (.tuple [.int L1, .int L2]) := fun s => dp2 (s _ _ hq8)
      -- a page against a block without lines
      refine ⟨_, rfl, _, rfl, u, _, _, _, rfl, rfl, SqT.of hu11, atI_nat (j := 0) rfl, _, rfl, u, _, _, _, rfl, rfl, SqT.of hu11, atI_nat (j := 1) rfl, vj, j, _, _, rfl, dp_same s11 _ _ hj10, fun x e => ?_, fun v1 H12 s12 hv1 => ?_⟩
      · have wx := Wj x e
        have t := wf_tot (by omega) a2 (by omega) b2 wx
        have q1 := (withP_ok (by omega) a2 wx.s1).2
        have q2 := (withP_ok (by omega) b2 wx.s2).2
        exact ⟨⟨sm_tot t.1 (by decide), sm_tot t.2 (by decide)⟩, sm_tot (n := 4) (by rw [q1]; exact t.1) (by decide), sm_tot (n := 4) (by rw [q2]; exact t.2) (by decide)⟩
      have sB := sA.trans s12
      have s10_12 := s11.trans s12
      refine ⟨_, rfl, _, rfl, _, rfl, _, rfl, .ref q, vj, .ref p1, .ref p2, L1, L2, j, 0, r.f, r.s, rfl, dL sB, a1, a2, b1, b2, dp_same s10_12 _ _ hj10, Wj, by omega, dp_vI (sB _ _ hp1), dp_vI (sB _ _ hp2), sp1, sp2, fun v2 H13 s13 hv2 => ?_⟩
      rw [block0] at hv2
      refine ⟨_, _, dp_same s13 _ _ hv1, hv2, shJ _, shJ _, _, rfl, ?_⟩
      rw [eqv_self (shJ _)]
      refine iteF ?_
      have sC := sB.trans s13
      have s10_13 := s10_12.trans s13
      -- the block
      refine ⟨_, rfl, _, rfl, _, rfl, _, rfl, _, rfl, .ref q, vj, .ref p1, .ref p2, L1, L2, j, r.c, r.f, r.s, rfl, dL sC, a1, a2, b1, b2, dp_same s10_13 _ _ hj10, Wj, c200, dp_vI (sC _ _ hp1), dp_vI (sC _ _ hp2), sp1, sp2, fun v3 H14 s14 hv3 => ?_⟩
      have s10_14 := s10_13.trans s14
      refine ⟨fun c H' => c = false ∧ Same H14 H', fun Q' hQ => ?_, ?_⟩
      · refine ⟨_, rfl, dJ j, .str "parted", dp_same s10_14 _ _ hj10, .str _, shJ _, sh_parted, _, rfl, ?_⟩
        rw [eqv_J]
        cases hj : j with
        | none =>
          refine iteP (by rfl) ⟨_, rfl, dJ (blockJ L1 L2 j r.c r.f r.s), .str "parted", hv3, .str _, shJ _, sh_parted, _, rfl, ?_⟩
          rw [eqv_J, hj, blockJ_none]
          exact hQ _ _ ⟨rfl, Same.refl _⟩
        | some x =>
          refine iteQ (by simp) ?_
          exact hQ _ _ ⟨rfl, Same.refl _⟩
      rintro c0 H15 ⟨rfl, s15⟩
      refine iteF ?_
      exact ⟨v3, _, _, _, _, _, rfl, (sC.trans s14).trans s15, dp_same s15 _ _ hv3⟩
    rintro σ H10 ⟨vj, y6, y7, y8, y9, y10, rfl, s10, hj10⟩
    rw [hall.len, List.take_of_length_le (Nat.le_refl _)] at hj10
    have WA : WfO L1 L2 (jAll L1 L2 (jR rs)) := wf_all (by omega) a2 (by omega) b2 _ (jR_ok hok)
    have main := k44_main (L1 := L1) (L2 := L2) (by omega) a2 (by omega) b2 (jR rs) (jR_ok hok)
    have hb1 : ∀ b ∈ bl1 (jR rs), b.1 ≤ 200 ∧ 0 ≤ b.2.sp := fun b hb => by
      obtain ⟨y, hy, rfl⟩ := List.mem_map.mp hb
      obtain ⟨r, hr, rfl⟩ := List.mem_map.mp hy
      exact ⟨(hok r hr).1, (hok r hr).2.1⟩
    have hb2 : ∀ b ∈ bl2 (jR rs), b.1 ≤ 200 ∧ 0 ≤ b.2.sp := fun b hb => by
      obtain ⟨y, hy, rfl⟩ := List.mem_map.mp hb
      obtain ⟨r, hr, rfl⟩ := List.mem_map.mp hy
      exact ⟨(hok r hr).1, (hok r hr).2.2⟩
    have hl1 : (bl1 (jR rs)).length = rs.length := by unfold bl1 jR; rw [List.length_map, List.length_map]
    have hl2 : (bl2 (jR rs)).length = rs.length := by unfold bl2 jR; rw [List.length_map, List.length_map]
    have hs1 := sz_bd fun b hb => (hb1 b hb).1
    have hs2 := sz_bd fun b hb => (hb2 b hb).1
    have hxl := hall.len
    -- one
    refine ⟨_, rfl, q, _, _, _, rfl, rfl, SqT.of (s10 _ _ hq8), atI_nat (j := 0) rfl, _, rfl, D, rfl, ⟨_, SqL.of (s10 _ _ hD8)⟩, fun E1 hE1 => ?_⟩
    refine lc_list (K := K) (a := D) (xs := xs) (fun i H' => Same H10 H' ∧ ∃ lv, H' E1 = some (.lst lv) ∧ AllAt PvAt H' lv ((bl1 (jR rs)).take i)) ⟨same_new hE1, [], upd_same, trivial⟩ (fun i H' _ q => SqL.of (q.1 _ _ (s10 _ _ hD8))) ?_ ?_
    · rintro i x H3 hi ⟨s3, lv, h3, hall3⟩
      obtain ⟨r, hr', t, p1, p2, rfl, ht, hp1, hp2⟩ := hall.at hi
      have sA := s10.trans s3
      have hi9 : i < xs.length := (List.getElem?_eq_some_iff.mp hi).1
      refine ⟨t, _, rfl, SqT.of (sA _ _ ht), rfl, _, _, rfl, _, _, rfl, _, _, rfl, rfl, rfl, ?_⟩
      refine ⟨_, rfl, _, rfl, (by show 2 ≤ sizeLine; decide), fun u hu => ?_⟩
      have s4 := same_new (o := .tup [.int (r.c : Int), .ref p1]) hu
      have hu4 : (upd H3 u (.tup [.int (r.c : Int), .ref p1])) u = some (.tup [.int (r.c : Int), .ref p1]) := upd_same
      generalize upd H3 u (.tup [.int (r.c : Int), .ref p1]) = H4 at s4 hu4 ⊢
      have h4 := s4 _ _ h3
      have tD : Tups H4 (upd H4 E1 (.lst (lv ++ [.ref u]))) := Tups.lst h4
      refine ⟨lv, h4, ?_, fun a o e => ?_, lv ++ [.ref u], upd_same, ?_⟩
      · rw [hall3.len, List.length_take]
        exact Nat.lt_of_le_of_lt (m := 100) (by omega) (by decide)
      · rw [upd_ne (fun z => by rw [z, hE1] at e; cases e)]
        exact s4 _ _ (s3 _ _ e)
      · have eb : (bl1 (jR rs)).take (i + 1) = (bl1 (jR rs)).take i ++ [(r.c, r.f)] := by
          rw [List.take_add_one]
          unfold bl1 jR
          rw [List.getElem?_map, List.getElem?_map, hr']
          rfl
        rw [eb]
        exact ((hall3.mono fun _ _ => PvAt.mono (Tups.of s4)).mono fun _ _ => PvAt.mono tD).snoc ⟨u, p1, rfl, tD _ _ hu4, tD _ _ (s4 _ _ (sA _ _ hp1))⟩
    rintro H11 ⟨s11, lv1, he1, hpv1⟩
    rw [List.take_of_length_le (by omega)] at hpv1
    have sA := s10.trans s11
    refine ⟨L1, E1, lv1, bl1 (jR rs), rfl, by omega, he1, hpv1, by omega, by omega, fun b hb => (hb1 b hb).1, fun b hb => (hb1 b hb).2, fun w1 H12 s12 hw1 => ?_⟩
    have sB := sA.trans s12
    -- two
    refine ⟨_, rfl, q, _, _, _, rfl, rfl, SqT.of (sB _ _ hq8), atI_nat (j := 1) rfl, _, rfl, D, rfl, ⟨_, SqL.of (sB _ _ hD8)⟩, fun E2 hE2 => ?_⟩
    refine lc_list (K := K) (a := D) (xs := xs) (fun i H' => Same H12 H' ∧ ∃ lv, H' E2 = some (.lst lv) ∧ AllAt PvAt H' lv ((bl2 (jR rs)).take i)) ⟨same_new hE2, [], upd_same, trivial⟩ (fun i H' _ q => SqL.of (q.1 _ _ (sB _ _ hD8))) ?_ ?_
    · rintro i x H3 hi ⟨s3, lv, h3, hall3⟩
      obtain ⟨r, hr', t, p1, p2, rfl, ht, hp1, hp2⟩ := hall.at hi
      have sC := sB.trans s3
      have hi9 : i < xs.length := (List.getElem?_eq_some_iff.mp hi).1
      refine ⟨t, _, rfl, SqT.of (sC _ _ ht), rfl, _, _, rfl, _, _, rfl, _, _, rfl, rfl, rfl, ?_⟩
      refine ⟨_, rfl, _, rfl, (by show 2 ≤ sizeLine; decide), fun u hu => ?_⟩
      have s4 := same_new (o := .tup [.int (r.c : Int), .ref p2]) hu
      have hu4 : (upd H3 u (.tup [.int (r.c : Int), .ref p2])) u = some (.tup [.int (r.c : Int), .ref p2]) := upd_same
      generalize upd H3 u (.tup [.int (r.c : Int), .ref p2]) = H4 at s4 hu4 ⊢
      have h4 := s4 _ _ h3
      have tD : Tups H4 (upd H4 E2 (.lst (lv ++ [.ref u]))) := Tups.lst h4
      refine ⟨lv, h4, ?_, fun a o e => ?_, lv ++ [.ref u], upd_same, ?_⟩
      · rw [hall3.len, List.length_take]
        exact Nat.lt_of_le_of_lt (m := 100) (by omega) (by decide)
      · rw [upd_ne (fun z => by rw [z, hE2] at e; cases e)]
        exact s4 _ _ (s3 _ _ e)
      · have eb : (bl2 (jR rs)).take (i + 1) = (bl2 (jR rs)).take i ++ [(r.c, r.s)] := by
          rw [List.take_add_one]
          unfold bl2 jR
          rw [List.getElem?_map, List.getElem?_map, hr']
          rfl
        rw [eb]
        exact ((hall3.mono fun _ _ => PvAt.mono (Tups.of s4)).mono fun _ _ => PvAt.mono tD).snoc ⟨u, p2, rfl, tD _ _ hu4, tD _ _ (s4 _ _ (sC _ _ hp2))⟩
    rintro H13 ⟨s13, lv2, he2, hpv2⟩
    rw [List.take_of_length_le (by omega)] at hpv2
    have sC := sB.trans s13
    refine ⟨L2, E2, lv2, bl2 (jR rs), rfl, by omega, he2, hpv2, by omega, by omega, fun b hb => (hb2 b hb).1, fun b hb => (hb2 b hb).2, fun w2 H14 s14 hw2 => ?_⟩
    have s10_14 := s11.trans (s12.trans (s13.trans s14))
    -- told
    refine ⟨_, rfl, vj, _, L1, L2, rfl, dp_same s10_14 _ _ hj10, a1, a2, b1, b2, WA, fun H15 s15 => ?_⟩
    generalize (pageJ (jAll L1 L2 (jR rs)) true true).isSome = told at main ⊢
    refine ⟨_, rfl, _, _, _, _, true, rfl, .ty _, .base (.bl _), kit_ty (by decide +kernel), _, rfl, iteT ?_⟩
    refine ⟨_, rfl, _, rfl, _, rfl, _, _, dp_same (s13.trans (s14.trans s15)) _ _ hw1, dp_same s15 _ _ hw2, sh_By _, sh_By _, ?_⟩
    rw [eqv_by]
    have e : decide (bySl (szB (bl1 (jR rs))) (plcs L1 (bl1 (jR rs))) = bySl (szB (bl2 (jR rs))) (plcs L2 (bl2 (jR rs)))) = told := by
      by_cases h : bySl (szB (bl1 (jR rs))) (plcs L1 (bl1 (jR rs))) = bySl (szB (bl2 (jR rs))) (plcs L2 (bl2 (jR rs)))
      · rw [decide_eq_true h]
        exact (main.mpr h).symm
      · rw [decide_eq_false h]
        cases ht : told with
        | false => rfl
        | true => exact absurd (main.mp ht) h
    rw [e]
    refine ⟨rfl, ?_⟩
    rw [decide_eq_true (by rfl)]
    exact k H15
end
end Pa
set_option maxRecDepth 100000
set_option maxHeartbeats 4000000
namespace Pa
open PySem PySem.Spec PyProof.Rows L2 SrtO
/-! ### what the top has written -/
theorem all_mk {l : PySem.W.OpenLaw} {w : World} {K : PySem.W.Frag} {h : Heap} {mg : Str → Option Value} {fa C CS tp D0 fI cc cda pR f0 f1 f2 f3 f4 f5 f6 f7 f8 f9 f10 f11 f12 f13 f14 f15 f16 f17 f18 f19 f20 f21 f22 f23 f24 f25 f26 f27 f28 f29 f30 f31 f32 f33 f34 f35 f36 f37 f38 pp35 pp36 pp37 : Addr} {mcC : Value} (X : K.In h) (G : h.Ns mainGlobals mg) (hfa : mg "law" = some (.ref fa))
    {od0 an0 od1 an1 od2 an2 od3 an3 od4 an4 od5 an5 od6 an6 od7 an7 od8 an8 od9 an9 od10 an10 od11 an11 od12 an12 od13 an13 od14 an14 od15 an15 od16 an16 od17 an17 od18 an18 od19 an19 od20 an20 od21 an21 od22 an22 od23 an23 od24 an24 od25 an25 od26 an26 od27 an27 od28 an28 od29 an29 od30 an30 od31 an31 od32 an32 od33 an33 od34 an34 od35 an35 od36 an36 od37 an37 od38 an38 : Option Addr} {sl0 sl1 sl2 sl3 sl4 sl5 sl6 sl7 sl8 sl9 sl10 sl11 sl12 sl13 sl14 sl15 sl16 sl17 sl18 sl19 sl20 sl21 sl22 sl23 sl24 sl25 sl26 sl27 sl28 sl29 sl30 sl31 sl32 sl33 sl34 sl35 sl36 sl37 sl38 : Array (Option Value)} {oc0 kV0 dc0 pm0 cd0 ct0 oc1 kV1 dc1 pm1 cd1 ct1 oc2 kV2 dc2 pm2 cd2 ct2 oc3 kV3 dc3 pm3 cd3 ct3 oc4 kV4 dc4 pm4 cd4 ct4 oc5 kV5 dc5 pm5 cd5 ct5 oc6 kV6 dc6 pm6 cd6 ct6 oc7 kV7 dc7 pm7 cd7 ct7 oc8 kV8 dc8 pm8 cd8 ct8 oc9 kV9 dc9 pm9 cd9 ct9 oc10 kV10 dc10 pm10 cd10 ct10 oc11 kV11 dc11 pm11 cd11 ct11 oc12 kV12 dc12 pm12 cd12 ct12 oc13 kV13 dc13 pm13 cd13 ct13 oc14 kV14 dc14 pm14 cd14 ct14 oc15 kV15 dc15 pm15 cd15 ct15 oc16 kV16 dc16 pm16 cd16 ct16 oc17 kV17 dc17 pm17 cd17 ct17 oc18 kV18 dc18 pm18 cd18 ct18 oc19 kV19 dc19 pm19 cd19 ct19 oc20 kV20 dc20 pm20 cd20 ct20 oc21 kV21 dc21 pm21 cd21 ct21 oc22 kV22 dc22 pm22 cd22 ct22 oc23 kV23 dc23 pm23 cd23 ct23 oc24 kV24 dc24 pm24 cd24 ct24 oc25 kV25 dc25 pm25 cd25 ct25 oc26 kV26 dc26 pm26 cd26 ct26 oc27 kV27 dc27 pm27 cd27 ct27 oc28 dc28 pm28 cd28 ct28 oc29 kV29 dc29 pm29 cd29 ct29 oc30 kV30 dc30 pm30 cd30 ct30 oc31 kV31 dc31 pm31 cd31 ct31 oc32 kV32 dc32 pm32 cd32 ct32 oc33 kV33 dc33 pm33 cd33 ct33 oc34 kV34 dc34 pm34 cd34 ct34 oc35 kV35 dc35 pm35 cd35 ct35 oc36 kV36 dc36 pm36 cd36 ct36 oc37 kV37 dc37 pm37 cd37 ct37 oc38 kV38 dc38 pm38 cd38 ct38 : Value}
    {odI anI cdd cld : Option Addr} {slI ccs csl : Array (Option Value)} {ocI kVI dcI pmI ctI ccl cl : Value} {vs0 : Array Value} {file : Str} {tf : Tok} {rs35 rs36 rs37 rsR : List Value}
    {tn : Nat} {tk0 tk1 tk2 tk3 tkP : Tok}
    {nmC : _} {qC : _} {NC : _} {bsC : _} {bmC : _} {snC : _} {subC : _} {abC : _} {colC : _} {ddC : _} {e0C : _} {e1C : _} {e2C : _} {e3C : _} {e5C : _}
    (aC : PySem.W.nsIn K mainGlobals "Page" = some (some (.ref C))) (aS : PySem.W.nsIn K mainGlobals "BadStanding" = some (some (.ref CS))) (aT : PySem.W.nsIn K mainGlobals "TOP" = some (some (.ref tp))) (aPT : PySem.W.nsIn K mainGlobals "PARTED" = some (some (.str "parted" tkP)))
    (a0 : PySem.W.nsIn K mainGlobals "is_integer" = some (some (.ref f0)))
    (l0 : K.lookup f0 = some ⟨oc0, od0, .func (PySem.W.fnOf "is_integer" "is_integer" (defArgs sis_integer) (defBody sis_integer) (defScope sis_integer) .none kV0 dc0 pm0 an0 cd0 ct0), sl0⟩) (c0 : PySem.W.codeIn K cd0 "is_integer" = true) (k0 : PySem.W.keepIn K (.ref f0) = true)
    (a1 : PySem.W.nsIn K mainGlobals "standings" = some (some (.ref f1)))
    (l1 : K.lookup f1 = some ⟨oc1, od1, .func (PySem.W.fnOf "standings" "standings" (defArgs sstandings) (defBody sstandings) (defScope sstandings) .none kV1 dc1 pm1 an1 cd1 ct1), sl1⟩) (c1 : PySem.W.codeIn K cd1 "standings" = true) (k1 : PySem.W.keepIn K (.ref f1) = true)
    (a2 : PySem.W.nsIn K mainGlobals "checked_standing" = some (some (.ref f2)))
    (l2 : K.lookup f2 = some ⟨oc2, od2, .func (PySem.W.fnOf "checked_standing" "checked_standing" (defArgs schecked_standing) (defBody schecked_standing) (defScope schecked_standing) .none kV2 dc2 pm2 an2 cd2 ct2), sl2⟩) (c2 : PySem.W.codeIn K cd2 "checked_standing" = true) (k2 : PySem.W.keepIn K (.ref f2) = true)
    (a3 : PySem.W.nsIn K mainGlobals "_longer" = some (some (.ref f3)))
    (l3 : K.lookup f3 = some ⟨oc3, od3, .func (PySem.W.fnOf "_longer" "_longer" (defArgs s_longer) (defBody s_longer) (defScope s_longer) .none kV3 dc3 pm3 an3 cd3 ct3), sl3⟩) (c3 : PySem.W.codeIn K cd3 "_longer" = true) (k3 : PySem.W.keepIn K (.ref f3) = true)
    (a4 : PySem.W.nsIn K mainGlobals "next_line" = some (some (.ref f4)))
    (l4 : K.lookup f4 = some ⟨oc4, od4, .func (PySem.W.fnOf "next_line" "next_line" (defArgs snext_line) (defBody snext_line) (defScope snext_line) .none kV4 dc4 pm4 an4 cd4 ct4), sl4⟩) (c4 : PySem.W.codeIn K cd4 "next_line" = true) (k4 : PySem.W.keepIn K (.ref f4) = true)
    (a5 : PySem.W.nsIn K mainGlobals "line_place" = some (some (.ref f5)))
    (l5 : K.lookup f5 = some ⟨oc5, od5, .func (PySem.W.fnOf "line_place" "line_place" (defArgs sline_place) (defBody sline_place) (defScope sline_place) .none kV5 dc5 pm5 an5 cd5 ct5), sl5⟩) (c5 : PySem.W.codeIn K cd5 "line_place" = true) (k5 : PySem.W.keepIn K (.ref f5) = true)
    (a6 : PySem.W.nsIn K mainGlobals "standing_of" = some (some (.ref f6)))
    (l6 : K.lookup f6 = some ⟨oc6, od6, .func (PySem.W.fnOf "standing_of" "standing_of" (defArgs sstanding_of) (defBody sstanding_of) (defScope sstanding_of) .none kV6 dc6 pm6 an6 cd6 ct6), sl6⟩) (c6 : PySem.W.codeIn K cd6 "standing_of" = true) (k6 : PySem.W.keepIn K (.ref f6) = true)
    (a7 : PySem.W.nsIn K mainGlobals "joint_begin" = some (some (.ref f7)))
    (l7 : K.lookup f7 = some ⟨oc7, od7, .func (PySem.W.fnOf "joint_begin" "joint_begin" (defArgs sjoint_begin) (defBody sjoint_begin) (defScope sjoint_begin) .none kV7 dc7 pm7 an7 cd7 ct7), sl7⟩) (c7 : PySem.W.codeIn K cd7 "joint_begin" = true) (k7 : PySem.W.keepIn K (.ref f7) = true)
    (a8 : PySem.W.nsIn K mainGlobals "joint_page" = some (some (.ref f8)))
    (l8 : K.lookup f8 = some ⟨oc8, od8, .func (PySem.W.fnOf "joint_page" "joint_page" (defArgs sjoint_page) (defBody sjoint_page) (defScope sjoint_page) .none kV8 dc8 pm8 an8 cd8 ct8), sl8⟩) (c8 : PySem.W.codeIn K cd8 "joint_page" = true) (k8 : PySem.W.keepIn K (.ref f8) = true)
    (a9 : PySem.W.nsIn K mainGlobals "joint_block" = some (some (.ref f9)))
    (l9 : K.lookup f9 = some ⟨oc9, od9, .func (PySem.W.fnOf "joint_block" "joint_block" (defArgs sjoint_block) (defBody sjoint_block) (defScope sjoint_block) .none kV9 dc9 pm9 an9 cd9 ct9), sl9⟩) (c9 : PySem.W.codeIn K cd9 "joint_block" = true) (k9 : PySem.W.keepIn K (.ref f9) = true)
    (a10 : PySem.W.nsIn K mainGlobals "alike_at_end" = some (some (.ref f10)))
    (l10 : K.lookup f10 = some ⟨oc10, od10, .func (PySem.W.fnOf "alike_at_end" "alike_at_end" (defArgs salike_at_end) (defBody salike_at_end) (defScope salike_at_end) .none kV10 dc10 pm10 an10 cd10 ct10), sl10⟩) (c10 : PySem.W.codeIn K cd10 "alike_at_end" = true) (k10 : PySem.W.keepIn K (.ref f10) = true)
    (a11 : PySem.W.nsIn K mainGlobals "_sides" = some (some (.ref f11)))
    (l11 : K.lookup f11 = some ⟨oc11, od11, .func (PySem.W.fnOf "_sides" "_sides" (defArgs s_sides) (defBody s_sides) (defScope s_sides) .none kV11 dc11 pm11 an11 cd11 ct11), sl11⟩) (c11 : PySem.W.codeIn K cd11 "_sides" = true) (k11 : PySem.W.keepIn K (.ref f11) = true)
    (a12 : PySem.W.nsIn K mainGlobals "_joined" = some (some (.ref f12)))
    (l12 : K.lookup f12 = some ⟨oc12, od12, .func (PySem.W.fnOf "_joined" "_joined" (defArgs s_joined) (defBody s_joined) (defScope s_joined) .none kV12 dc12 pm12 an12 cd12 ct12), sl12⟩) (c12 : PySem.W.codeIn K cd12 "_joined" = true) (k12 : PySem.W.keepIn K (.ref f12) = true)
    (a13 : PySem.W.nsIn K mainGlobals "_stayed" = some (some (.ref f13)))
    (l13 : K.lookup f13 = some ⟨oc13, od13, .func (PySem.W.fnOf "_stayed" "_stayed" (defArgs s_stayed) (defBody s_stayed) (defScope s_stayed) .none kV13 dc13 pm13 an13 cd13 ct13), sl13⟩) (c13 : PySem.W.codeIn K cd13 "_stayed" = true) (k13 : PySem.W.keepIn K (.ref f13) = true)
    (a14 : PySem.W.nsIn K mainGlobals "_with_page" = some (some (.ref f14)))
    (l14 : K.lookup f14 = some ⟨oc14, od14, .func (PySem.W.fnOf "_with_page" "_with_page" (defArgs s_with_page) (defBody s_with_page) (defScope s_with_page) .none kV14 dc14 pm14 an14 cd14 ct14), sl14⟩) (c14 : PySem.W.codeIn K cd14 "_with_page" = true) (k14 : PySem.W.keepIn K (.ref f14) = true)
    (a15 : PySem.W.nsIn K mainGlobals "_gone_over" = some (some (.ref f15)))
    (l15 : K.lookup f15 = some ⟨oc15, od15, .func (PySem.W.fnOf "_gone_over" "_gone_over" (defArgs s_gone_over) (defBody s_gone_over) (defScope s_gone_over) .none kV15 dc15 pm15 an15 cd15 ct15), sl15⟩) (c15 : PySem.W.codeIn K cd15 "_gone_over" = true) (k15 : PySem.W.keepIn K (.ref f15) = true)
    (a16 : PySem.W.nsIn K mainGlobals "_with_lines" = some (some (.ref f16)))
    (l16 : K.lookup f16 = some ⟨oc16, od16, .func (PySem.W.fnOf "_with_lines" "_with_lines" (defArgs s_with_lines) (defBody s_with_lines) (defScope s_with_lines) .none kV16 dc16 pm16 an16 cd16 ct16), sl16⟩) (c16 : PySem.W.codeIn K cd16 "_with_lines" = true) (k16 : PySem.W.keepIn K (.ref f16) = true)
    (a17 : PySem.W.nsIn K mainGlobals "_law_bag" = some (some (.ref f17)))
    (l17 : K.lookup f17 = some ⟨oc17, od17, .func (PySem.W.fnOf "_law_bag" "_law_bag" (defArgs sBag) (defBody sBag) (defScope sBag) .none kV17 dc17 pm17 an17 cd17 ct17), sl17⟩) (c17 : PySem.W.codeIn K cd17 "_law_bag" = true) (k17 : PySem.W.keepIn K (.ref f17) = true)
    (a18 : PySem.W.nsIn K mainGlobals "_law_draw" = some (some (.ref f18)))
    (l18 : K.lookup f18 = some ⟨oc18, od18, .func (PySem.W.fnOf "_law_draw" "_law_draw" (defArgs sDraw) (defBody sDraw) (defScope sDraw) .none kV18 dc18 pm18 an18 cd18 ct18), sl18⟩) (c18 : PySem.W.codeIn K cd18 "_law_draw" = true) (k18 : PySem.W.keepIn K (.ref f18) = true)
    (a19 : PySem.W.nsIn K mainGlobals "_law_values" = some (some (.ref f19)))
    (l19 : K.lookup f19 = some ⟨oc19, od19, .func (PySem.W.fnOf "_law_values" "_law_values" (defArgs sL_values) (defBody sL_values) (defScope sL_values) .none kV19 dc19 pm19 an19 cd19 ct19), sl19⟩) (c19 : PySem.W.codeIn K cd19 "_law_values" = true) (k19 : PySem.W.keepIn K (.ref f19) = true)
    (a20 : PySem.W.nsIn K mainGlobals "_law_row" = some (some (.ref f20)))
    (l20 : K.lookup f20 = some ⟨oc20, od20, .func (PySem.W.fnOf "_law_row" "_law_row" (defArgs sL_row) (defBody sL_row) (defScope sL_row) .none kV20 dc20 pm20 an20 cd20 ct20), sl20⟩) (c20 : PySem.W.codeIn K cd20 "_law_row" = true) (k20 : PySem.W.keepIn K (.ref f20) = true)
    (a21 : PySem.W.nsIn K mainGlobals "_law_lines" = some (some (.ref f21)))
    (l21 : K.lookup f21 = some ⟨oc21, od21, .func (PySem.W.fnOf "_law_lines" "_law_lines" (defArgs sL_lines) (defBody sL_lines) (defScope sL_lines) .none kV21 dc21 pm21 an21 cd21 ct21), sl21⟩) (c21 : PySem.W.codeIn K cd21 "_law_lines" = true) (k21 : PySem.W.keepIn K (.ref f21) = true)
    (a22 : PySem.W.nsIn K mainGlobals "_law_cut" = some (some (.ref f22)))
    (l22 : K.lookup f22 = some ⟨oc22, od22, .func (PySem.W.fnOf "_law_cut" "_law_cut" (defArgs sL_cut) (defBody sL_cut) (defScope sL_cut) .none kV22 dc22 pm22 an22 cd22 ct22), sl22⟩) (c22 : PySem.W.codeIn K cd22 "_law_cut" = true) (k22 : PySem.W.keepIn K (.ref f22) = true)
    (a23 : PySem.W.nsIn K mainGlobals "_law_places" = some (some (.ref f23)))
    (l23 : K.lookup f23 = some ⟨oc23, od23, .func (PySem.W.fnOf "_law_places" "_law_places" (defArgs sL_places) (defBody sL_places) (defScope sL_places) .none kV23 dc23 pm23 an23 cd23 ct23), sl23⟩) (c23 : PySem.W.codeIn K cd23 "_law_places" = true) (k23 : PySem.W.keepIn K (.ref f23) = true)
    (a24 : PySem.W.nsIn K mainGlobals "_law_by_block" = some (some (.ref f24)))
    (l24 : K.lookup f24 = some ⟨oc24, od24, .func (PySem.W.fnOf "_law_by_block" "_law_by_block" (defArgs sL_by_block) (defBody sL_by_block) (defScope sL_by_block) .none kV24 dc24 pm24 an24 cd24 ct24), sl24⟩) (c24 : PySem.W.codeIn K cd24 "_law_by_block" = true) (k24 : PySem.W.keepIn K (.ref f24) = true)
    (a25 : PySem.W.nsIn K mainGlobals "law" = some (some (.ref f25)))
    (l25 : K.lookup f25 = some ⟨oc25, od25, .func (PySem.W.fnOf "law" "law" (defArgs slaw) (defBody slaw) (defScope slaw) .none kV25 dc25 pm25 an25 cd25 ct25), sl25⟩) (c25 : PySem.W.codeIn K cd25 "law" = true) (k25 : PySem.W.keepIn K (.ref f25) = true)
    (a26 : PySem.W.findIn K (.ref C) "__init__" = some (some (.ref f26))) (i26 : PySem.W.isFn K (.ref f26) = true)
    (l26 : K.lookup f26 = some ⟨oc26, od26, .func (PySem.W.fnOf "__init__" "Page.__init__" (defArgs sPage___init__) (defBody sPage___init__) (defScope sPage___init__) .none kV26 dc26 pm26 an26 cd26 ct26), sl26⟩) (c26 : PySem.W.codeIn K cd26 "Page.__init__" = true) (k26 : PySem.W.keepIn K (.ref f26) = true)
    (a27 : PySem.W.findIn K (.ref C) "begin" = some (some (.ref f27))) (i27 : PySem.W.isFn K (.ref f27) = true)
    (l27 : K.lookup f27 = some ⟨oc27, od27, .func (PySem.W.fnOf "begin" "Page.begin" (defArgs sPage_begin) (defBody sPage_begin) (defScope sPage_begin) .none kV27 dc27 pm27 an27 cd27 ct27), sl27⟩) (c27 : PySem.W.codeIn K cd27 "Page.begin" = true) (k27 : PySem.W.keepIn K (.ref f27) = true)
    (a28 : PySem.W.findIn K (.ref C) "block" = some (some (.ref f28))) (i28 : PySem.W.isFn K (.ref f28) = true)
    (l28 : K.lookup f28 = some ⟨oc28, od28, .func (PySem.W.fnOf "block" "Page.block" (defArgs sPage_block) (defBody sPage_block) (defScope sPage_block) .none (.ref D0) dc28 pm28 an28 cd28 ct28), sl28⟩) (c28 : PySem.W.codeIn K cd28 "Page.block" = true) (k28 : PySem.W.keepIn K (.ref f28) = true)
    (a29 : PySem.W.findIn K (.ref C) "_put" = some (some (.ref f29))) (i29 : PySem.W.isFn K (.ref f29) = true)
    (l29 : K.lookup f29 = some ⟨oc29, od29, .func (PySem.W.fnOf "_put" "Page._put" (defArgs sPage__put) (defBody sPage__put) (defScope sPage__put) .none kV29 dc29 pm29 an29 cd29 ct29), sl29⟩) (c29 : PySem.W.codeIn K cd29 "Page._put" = true) (k29 : PySem.W.keepIn K (.ref f29) = true)
    (a30 : PySem.W.findIn K (.ref C) "_go_over" = some (some (.ref f30))) (i30 : PySem.W.isFn K (.ref f30) = true)
    (l30 : K.lookup f30 = some ⟨oc30, od30, .func (PySem.W.fnOf "_go_over" "Page._go_over" (defArgs sPage__go_over) (defBody sPage__go_over) (defScope sPage__go_over) .none kV30 dc30 pm30 an30 cd30 ct30), sl30⟩) (c30 : PySem.W.codeIn K cd30 "Page._go_over" = true) (k30 : PySem.W.keepIn K (.ref f30) = true)
    (a31 : PySem.W.findIn K (.ref C) "_settle" = some (some (.ref f31))) (i31 : PySem.W.isFn K (.ref f31) = true)
    (l31 : K.lookup f31 = some ⟨oc31, od31, .func (PySem.W.fnOf "_settle" "Page._settle" (defArgs sPage__settle) (defBody sPage__settle) (defScope sPage__settle) .none kV31 dc31 pm31 an31 cd31 ct31), sl31⟩) (c31 : PySem.W.codeIn K cd31 "Page._settle" = true) (k31 : PySem.W.keepIn K (.ref f31) = true)
    (a32 : PySem.W.findIn K (.ref C) "settled" = some (some (.ref f32))) (i32 : PySem.W.isFn K (.ref f32) = true)
    (l32 : K.lookup f32 = some ⟨oc32, od32, .func (PySem.W.fnOf "settled" "Page.settled" (defArgs sPage_settled) (defBody sPage_settled) (defScope sPage_settled) .none kV32 dc32 pm32 an32 cd32 ct32), sl32⟩) (c32 : PySem.W.codeIn K cd32 "Page.settled" = true) (k32 : PySem.W.keepIn K (.ref f32) = true)
    (a33 : PySem.W.findIn K (.ref C) "finish" = some (some (.ref f33))) (i33 : PySem.W.isFn K (.ref f33) = true)
    (l33 : K.lookup f33 = some ⟨oc33, od33, .func (PySem.W.fnOf "finish" "Page.finish" (defArgs sPage_finish) (defBody sPage_finish) (defScope sPage_finish) .none kV33 dc33 pm33 an33 cd33 ct33), sl33⟩) (c33 : PySem.W.codeIn K cd33 "Page.finish" = true) (k33 : PySem.W.keepIn K (.ref f33) = true)
    (a34 : PySem.W.findIn K (.ref C) "__len__" = some (some (.ref f34))) (i34 : PySem.W.isFn K (.ref f34) = true)
    (l34 : K.lookup f34 = some ⟨oc34, od34, .func (PySem.W.fnOf "__len__" "Page.__len__" (defArgs sPage___len__) (defBody sPage___len__) (defScope sPage___len__) .none kV34 dc34 pm34 an34 cd34 ct34), sl34⟩) (c34 : PySem.W.codeIn K cd34 "Page.__len__" = true) (k34 : PySem.W.keepIn K (.ref f34) = true)
    (a35 : PySem.W.findIn K (.ref C) "now" = some (some (.ref pp35))) (g35 : PySem.W.specialIn K (.ref pp35) "__get__" = some (some (.builtin "property.__get__"))) (t35 : PySem.W.takesIn K (.ref pp35) = some true) (r35 : PySem.W.recIn K pp35 "property" = some (.ref f35 :: rs35))
    (l35 : K.lookup f35 = some ⟨oc35, od35, .func (PySem.W.fnOf "now" "Page.now" (defArgs sPage_now) (defBody sPage_now) (defScope sPage_now) .none kV35 dc35 pm35 an35 cd35 ct35), sl35⟩) (c35 : PySem.W.codeIn K cd35 "Page.now" = true) (k35 : PySem.W.keepIn K (.ref f35) = true)
    (a36 : PySem.W.findIn K (.ref C) "pending" = some (some (.ref pp36))) (g36 : PySem.W.specialIn K (.ref pp36) "__get__" = some (some (.builtin "property.__get__"))) (t36 : PySem.W.takesIn K (.ref pp36) = some true) (r36 : PySem.W.recIn K pp36 "property" = some (.ref f36 :: rs36))
    (l36 : K.lookup f36 = some ⟨oc36, od36, .func (PySem.W.fnOf "pending" "Page.pending" (defArgs sPage_pending) (defBody sPage_pending) (defScope sPage_pending) .none kV36 dc36 pm36 an36 cd36 ct36), sl36⟩) (c36 : PySem.W.codeIn K cd36 "Page.pending" = true) (k36 : PySem.W.keepIn K (.ref f36) = true)
    (a37 : PySem.W.findIn K (.ref C) "went_over" = some (some (.ref pp37))) (g37 : PySem.W.specialIn K (.ref pp37) "__get__" = some (some (.builtin "property.__get__"))) (t37 : PySem.W.takesIn K (.ref pp37) = some true) (r37 : PySem.W.recIn K pp37 "property" = some (.ref f37 :: rs37))
    (l37 : K.lookup f37 = some ⟨oc37, od37, .func (PySem.W.fnOf "went_over" "Page.went_over" (defArgs sPage_went_over) (defBody sPage_went_over) (defScope sPage_went_over) .none kV37 dc37 pm37 an37 cd37 ct37), sl37⟩) (c37 : PySem.W.codeIn K cd37 "Page.went_over" = true) (k37 : PySem.W.keepIn K (.ref f37) = true)
    (mcT : PySem.W.typeIn K (.ref C) = some mcC) (a38 : PySem.W.findCls K (.ref C) mcC "resumed" = some (.get (.builtin "staticmethod.__get__") (.ref pR) .none (.ref C))) (r38 : PySem.W.recIn K pR "staticmethod" = some (.ref f38 :: rsR)) (crd : PySem.W.readsIn K C mcC = true) (cga : PySem.W.specialIn K (.ref C) "__getattribute__" = some (some (.builtin "type.__getattribute__")))
    (l38 : K.lookup f38 = some ⟨oc38, od38, .func (PySem.W.fnOf "resumed" "Page.resumed" (defArgs sPage_resumed) (defBody sPage_resumed) (defScope sPage_resumed) .none kV38 dc38 pm38 an38 cd38 ct38), sl38⟩) (c38 : PySem.W.codeIn K cd38 "Page.resumed" = true) (k38 : PySem.W.keepIn K (.ref f38) = true)
    (dk0 : PySem.W.nsIn K D0 "space" = some (some (.int 0 tk3))) (dk1 : PySem.W.nsIn K D0 "kept" = some (some (.bool false))) (dk2 : PySem.W.nsIn K D0 "page" = some (some (.bool false)))
    (lT : K.lookup tp = some ⟨.type "tuple", none, .seq #[.str (Str.ofString "top") tk0, .int 0 tk1, .int 0 tk2] tn, #[]⟩)
    (pg : PySem.W.plainGet K C Str.empty = true) (hd : PySem.W.hasDictIn K C = true) (po : PySem.W.plainOver K C = true) (sa : PySem.W.findIn K (.ref C) "__setattr__" = some (some (.builtin "object.__setattr__"))) (mk : PySem.W.makesIn K C = true) (kc : PySem.W.keepIn K (.ref C) = true)
    (nL : PySem.W.findIn K (.ref C) "length" = some none)
    (nS : PySem.W.findIn K (.ref C) "_standing" = some none)
    (nR : PySem.W.findIn K (.ref C) "_rows" = some none)
    (nO : PySem.W.findIn K (.ref C) "_loose" = some none)
    (nW : PySem.W.findIn K (.ref C) "_went_over" = some none)
    (z_len : PySem.W.nsIn K mainGlobals "len" = some none)
    (z_range : PySem.W.nsIn K mainGlobals "range" = some none)
    (z_int : PySem.W.nsIn K mainGlobals "int" = some none)
    (z_abs : PySem.W.nsIn K mainGlobals "abs" = some none)
    (z_enumerate : PySem.W.nsIn K mainGlobals "enumerate" = some none)
    (z_isinstance : PySem.W.nsIn K mainGlobals "isinstance" = some none)
    (z_bool : PySem.W.nsIn K mainGlobals "bool" = some none)
    (z_list : PySem.W.nsIn K mainGlobals "list" = some none)
    (z_tuple : PySem.W.nsIn K mainGlobals "tuple" = some none)
    (z_max : PySem.W.nsIn K mainGlobals "max" = some none)
    (z_min : PySem.W.nsIn K mainGlobals "min" = some none)
    (z_all : PySem.W.nsIn K mainGlobals "all" = some none)
    (z_sorted : PySem.W.nsIn K mainGlobals "sorted" = some none)
    (z_str : PySem.W.nsIn K mainGlobals "str" = some none)
    (z_super : PySem.W.nsIn K mainGlobals "super" = some none)
    (iI : PySem.W.findIn K (.ref CS) "__init__" = some (some (.ref fI))) (lI : K.lookup fI = some ⟨ocI, odI, .func (PySem.W.fnX "__init__" "BadStanding.__init__" (defArgs sBad_init) (defBody sBad_init) (supScope "standing") [("__class__", cc)] .none kVI dcI pmI anI (.ref cda) ctI), slI⟩)
    (tI : PySem.W.typeIn K (.ref fI) = some (.type "function")) (cI : PySem.W.codeIn K (.ref cda) "BadStanding.__init__" = true) (lcda : K.lookup cda = some ⟨ccl, cdd, .fields vs0, ccs⟩) (lcc : K.lookup cc = some ⟨cl, cld, .cell (some (.ref CS)), csl⟩)
    (lC : K.lookup CS = some (excClassObj nmC qC CS NC bsC bmC true snC subC abC colC ddC e0C e1C e2C e3C e5C "ValueError.__new__"))
    (x1 : PySem.W.findIn K (.ref CS) "__setattr__" = some (some (.builtin "object.__setattr__"))) (x2 : PySem.W.subIn K (.ref CS) (.type "BaseException") = some true) (x3 : PySem.W.typeIn K (.ref CS) = some (.type "type")) (x4 : PySem.W.keepIn K (.ref CS) = true)
    (x5 : PySem.W.findIn K (.ref CS) "standing" = some none) (x6 : PySem.W.subIn K (.ref CS) (.type "ValueError") = some true) (x7 : PySem.W.mroIn K CS (.ref CS) = some true)
    (y1 : PySem.HandSPX.refsVE bmC = true) (y2 : PySem.W.ks_superIn K CS CS "__init__" = some (some (.builtin "ValueError.__init__"))) (y3 : PySem.W.nsIn K cStatics "thirdparty.any" = some none) (y4 : (l.prog.main.scope.names.lookup ("super" : Str)).isSome = false)
    (y5 : vs0[2]? = some (.str file tf)) (y6 : ((l.prog.main.file : Str) == file) = true)
    : ∃ fd : FuncData, (∀ (s : Shared) (v : Value), BindsTo s fd ⟨[v], []⟩ [("_law_script", v)]) ∧ ∀ base : Heap, K.In base → base.Ns mainGlobals mg → FnOk l.prog w K mg base CX0 7 fa fd ["_law_script"] (spLaw K) := by
  have e := hfa.symm.trans (PySem.W.mg_of X G a25)
  cases e
  have T : Txt K mg tp C := ⟨(PySem.W.mg_none_of X G z_len), (PySem.W.mg_none_of X G z_range), (PySem.W.mg_none_of X G z_int), (PySem.W.mg_none_of X G z_abs), (PySem.W.mg_none_of X G z_enumerate), (PySem.W.mg_none_of X G z_isinstance), (PySem.W.mg_none_of X G z_bool), (PySem.W.mg_none_of X G z_list), (PySem.W.mg_none_of X G z_tuple), (PySem.W.mg_none_of X G z_max), (PySem.W.mg_none_of X G z_min), (PySem.W.mg_none_of X G z_all), PySem.W.mg_of X G aT, fun H => .inr ⟨_, _, _, lT, rfl, rfl, (by show 3 ≤ sizeLine; decide), .cons ⟨_, rfl⟩ (.cons ⟨_, rfl⟩ (.cons ⟨_, rfl⟩ .nil))⟩, ⟨pg, hd, po, sa⟩, PySem.W.mg_of X G aC, nL, nS, nR, nO, nW⟩
  have T2 : Txt2 K mg := ⟨(PySem.W.mg_none_of X G z_sorted), (PySem.W.mg_none_of X G z_str)⟩
  have T3 : Txt3 mg := ⟨⟨_, PySem.W.mg_of X G aPT⟩⟩
  have OX : OexC K CS := ⟨⟨_, _, _, _, _, _, _, _, _, _, _, _, _, _, _, lC, y1⟩, x1, x2, x3, x4⟩
  have SC : SupCls l.prog K mg CS "standing" := ⟨OX, x5, x6, x7, y2, y3, (PySem.W.mg_none_of X G z_super), y4⟩
  have F0 := fun_mk (st := sis_integer) l0 c0 k0
  have b0 := F0.binds (ps := ["value"]) fun _ _ _ _ _ _ us hl => match us, hl with | [_], _ => rfl
  have F1 := fun_mk (st := sstandings) l1 c1 k1
  have b1 := F1.binds (ps := ["length"]) fun _ _ _ _ _ _ us hl => match us, hl with | [_], _ => rfl
  have F2 := fun_mk (st := schecked_standing) l2 c2 k2
  have b2 := F2.binds (ps := ["length", "standing"]) fun _ _ _ _ _ _ us hl => match us, hl with | [_, _], _ => rfl
  have F3 := fun_mk (st := s_longer) l3 c3 k3
  have b3 := F3.binds (ps := ["tail", "space"]) fun _ _ _ _ _ _ us hl => match us, hl with | [_, _], _ => rfl
  have F4 := fun_mk (st := snext_line) l4 c4 k4
  have b4 := F4.binds (ps := ["length", "height", "tail", "space", "barred"]) fun _ _ _ _ _ _ us hl => match us, hl with | [_, _, _, _, _], _ => rfl
  have F5 := fun_mk (st := sline_place) l5 c5 k5
  have b5 := F5.binds (ps := ["standing", "at", "count", "space"]) fun _ _ _ _ _ _ us hl => match us, hl with | [_, _, _, _], _ => rfl
  have F6 := fun_mk (st := sstanding_of) l6 c6 k6
  have b6 := F6.binds (ps := ["length", "height", "tail", "kept"]) fun _ _ _ _ _ _ us hl => match us, hl with | [_, _, _, _], _ => rfl
  have F7 := fun_mk (st := sjoint_begin) l7 c7 k7
  have b7 := F7.binds (ps := []) fun _ _ _ _ _ _ us hl => match us, hl with | [], _ => rfl
  have F8 := fun_mk (st := sjoint_page) l8 c8 k8
  have b8 := F8.binds (ps := ["joint", "first", "second"]) fun _ _ _ _ _ _ us hl => match us, hl with | [_, _, _], _ => rfl
  have F9 := fun_mk (st := sjoint_block) l9 c9 k9
  have b9 := F9.binds (ps := ["lengths", "joint", "count", "first", "second"]) fun _ _ _ _ _ _ us hl => match us, hl with | [_, _, _, _, _], _ => rfl
  have F10 := fun_mk (st := salike_at_end) l10 c10 k10
  have b10 := F10.binds (ps := ["joint"]) fun _ _ _ _ _ _ us hl => match us, hl with | [_], _ => rfl
  have F11 := fun_mk (st := s_sides) l11 c11 k11
  have b11 := F11.binds (ps := ["joint"]) fun _ _ _ _ _ _ us hl => match us, hl with | [_], _ => rfl
  have F12 := fun_mk (st := s_joined) l12 c12 k12
  have b12 := F12.binds (ps := ["one", "two"]) fun _ _ _ _ _ _ us hl => match us, hl with | [_, _], _ => rfl
  have F13 := fun_mk (st := s_stayed) l13 c13 k13
  have b13 := F13.binds (ps := ["standing", "offsets"]) fun _ _ _ _ _ _ us hl => match us, hl with | [_, _], _ => rfl
  have F14 := fun_mk (st := s_with_page) l14 c14 k14
  have b14 := F14.binds (ps := ["side"]) fun _ _ _ _ _ _ us hl => match us, hl with | [_], _ => rfl
  have F15 := fun_mk (st := s_gone_over) l15 c15 k15
  have b15 := F15.binds (ps := ["offsets"]) fun _ _ _ _ _ _ us hl => match us, hl with | [_], _ => rfl
  have F16 := fun_mk (st := s_with_lines) l16 c16 k16
  have b16 := F16.binds (ps := ["length", "side", "count", "values"]) fun _ _ _ _ _ _ us hl => match us, hl with | [_, _, _, _], _ => rfl
  have F17 := fun_mk (st := sBag) l17 c17 k17
  have b17 := F17.binds (ps := ["_law_script", "_law_at"]) fun _ _ _ _ _ _ us hl => match us, hl with | [_, _], _ => rfl
  have F18 := fun_mk (st := sDraw) l18 c18 k18
  have b18 := F18.binds (ps := ["_law_bag_here", "_law_many"]) fun _ _ _ _ _ _ us hl => match us, hl with | [_, _], _ => rfl
  have F19 := fun_mk (st := sL_values) l19 c19 k19
  have b19 := F19.binds (ps := ["_law_bag_here"]) fun _ _ _ _ _ _ us hl => match us, hl with | [_], _ => rfl
  have F20 := fun_mk (st := sL_row) l20 c20 k20
  have b20 := F20.binds (ps := ["_law_bag_here", "_law_many"]) fun _ _ _ _ _ _ us hl => match us, hl with | [_, _], _ => rfl
  have F21 := fun_mk (st := sL_lines) l21 c21 k21
  have b21 := F21.binds (ps := ["_law_blocks"]) fun _ _ _ _ _ _ us hl => match us, hl with | [_], _ => rfl
  have F22 := fun_mk (st := sL_cut) l22 c22 k22
  have b22 := F22.binds (ps := ["_law_length", "_law_rows", "_law_start"]) fun _ _ _ _ _ _ us hl => match us, hl with | [_, _, _], _ => rfl
  have F23 := fun_mk (st := sL_places) l23 c23 k23
  have b23 := F23.binds (ps := ["_law_length", "_law_rows"]) fun _ _ _ _ _ _ us hl => match us, hl with | [_, _], _ => rfl
  have F24 := fun_mk (st := sL_by_block) l24 c24 k24
  have b24 := F24.binds (ps := ["_law_length", "_law_blocks"]) fun _ _ _ _ _ _ us hl => match us, hl with | [_, _], _ => rfl
  have F25 := fun_mk (st := slaw) l25 c25 k25
  have b25 := F25.binds (ps := ["_law_script"]) fun _ _ _ _ _ _ us hl => match us, hl with | [_], _ => rfl
  have F26 := fun_mk (st := sPage___init__) l26 c26 k26
  have b26 := F26.binds (ps := ["self", "length"]) fun _ _ _ _ _ _ us hl => match us, hl with | [_, _], _ => rfl
  have F27 := fun_mk (st := sPage_begin) l27 c27 k27
  have b27 := F27.binds (ps := ["self"]) fun _ _ _ _ _ _ us hl => match us, hl with | [_], _ => rfl
  have F28 := fun_mk (st := sPage_block) l28 c28 k28
  have F29 := fun_mk (st := sPage__put) l29 c29 k29
  have b29 := F29.binds (ps := ["self", "height", "tail"]) fun _ _ _ _ _ _ us hl => match us, hl with | [_, _, _], _ => rfl
  have F30 := fun_mk (st := sPage__go_over) l30 c30 k30
  have b30 := F30.binds (ps := ["self", "rows"]) fun _ _ _ _ _ _ us hl => match us, hl with | [_, _], _ => rfl
  have F31 := fun_mk (st := sPage__settle) l31 c31 k31
  have b31 := F31.binds (ps := ["self"]) fun _ _ _ _ _ _ us hl => match us, hl with | [_], _ => rfl
  have F32 := fun_mk (st := sPage_settled) l32 c32 k32
  have b32 := F32.binds (ps := ["self"]) fun _ _ _ _ _ _ us hl => match us, hl with | [_], _ => rfl
  have F33 := fun_mk (st := sPage_finish) l33 c33 k33
  have b33 := F33.binds (ps := ["self"]) fun _ _ _ _ _ _ us hl => match us, hl with | [_], _ => rfl
  have F34 := fun_mk (st := sPage___len__) l34 c34 k34
  have b34 := F34.binds (ps := ["self"]) fun _ _ _ _ _ _ us hl => match us, hl with | [_], _ => rfl
  have F35 := fun_mk (st := sPage_now) l35 c35 k35
  have b35 := F35.binds (ps := ["self"]) fun _ _ _ _ _ _ us hl => match us, hl with | [_], _ => rfl
  have F36 := fun_mk (st := sPage_pending) l36 c36 k36
  have b36 := F36.binds (ps := ["self"]) fun _ _ _ _ _ _ us hl => match us, hl with | [_], _ => rfl
  have F37 := fun_mk (st := sPage_went_over) l37 c37 k37
  have b37 := F37.binds (ps := ["self"]) fun _ _ _ _ _ _ us hl => match us, hl with | [_], _ => rfl
  have F38 := fun_mk (st := sPage_resumed) l38 c38 k38
  have b38 := F38.binds (ps := ["length", "standing"]) fun _ _ _ _ _ _ us hl => match us, hl with | [_, _], _ => rfl
  have FD : FunD K "block" "Page.block" (defArgs sPage_block) (defBody sPage_block) (defScope sPage_block) [] [("space", .int 0), ("kept", .bl false), ("page", .bl false)] f28 _ := ⟨⟨_, _, _, _, _, _, _, _, _, _, rfl, l28, c28, .inl ⟨rfl, rfl⟩, .inr ⟨D0, rfl, fun q hq => by
    rcases List.mem_cons.mp hq with rfl | hq
    · exact ⟨_, dk0, _, rfl⟩
    rcases List.mem_cons.mp hq with rfl | hq
    · exact ⟨_, dk1, rfl⟩
    rcases List.mem_cons.mp hq with rfl | hq
    · exact ⟨_, dk2, rfl⟩
    cases hq⟩⟩, k28⟩
  obtain ⟨mvB, kB⟩ := FD.kbinds0 (ps := ["self", "count", "space", "kept", "page"]) 2 ["space", "kept"] [("page", .bl false)] (fun us mv ws => us ++ (ws ++ mv)) (by simp) (fun q hq => by rw [List.mem_singleton.mp hq]; simp) (fun r1 r2 r3 => Vals.append r1 (Vals.append r3 r2)) fun D doc pm an cdv ct us mv ws h1 h2 h3 => match us, mv, ws, h1, h2, h3 with
    | [_, _], [_], [_, _], _, _, _ => ⟨_, _, _, _, _, _, rfl, rfl, rfl⟩
  refine ⟨PySem.W.fnOf "law" "law" (defArgs slaw) (defBody slaw) (defScope slaw) .none kV25 dc25 pm25 an25 cd25 ct25, fun s v => .of_eq rfl, fun base _ _ => ?_⟩
  have TE : ErrOk l.prog w K mg base "BadStanding" "standing" CS := ⟨OX, PySem.W.mg_of X G aS, fI, _, iI, tI, bad_binds, ok_badinit SC lI cI lcda y5 y6 lcc⟩
  have C_is_integer : CallOk l.prog w K mg base 1 "is_integer" ["value"] (spIsInt K) := call_ok (PySem.W.mg_of X G a0) k0 b0 (ok_is_integer F0 T)
  have C_standings : CallOk l.prog w K mg base 1 "standings" ["length"] (spStandings K) := call_ok (PySem.W.mg_of X G a1) k1 b1 (ok_standings F1 T T2)
  have C_checked : CallOkX l.prog w K mg base 3 "checked_standing" ["length", "standing"] (spChecked K CS) := ⟨f2, _, PySem.W.mg_of X G a2, k2, b2, ok_checked F2 T T2 TE C_is_integer C_standings⟩
  have C__longer : CallOk l.prog w K mg base 1 "_longer" ["tail", "space"] spLng := call_ok (PySem.W.mg_of X G a3) k3 b3 (ok_longer F3)
  have C_next_line : CallOk l.prog w K mg base 2 "next_line" ["length", "height", "tail", "space", "barred"] spNext := call_ok (PySem.W.mg_of X G a4) k4 b4 (ok_next F4 C__longer)
  have C_line_place : CallOk l.prog w K mg base 1 "line_place" ["standing", "at", "count", "space"] (spPlace K) := call_ok (PySem.W.mg_of X G a5) k5 b5 (ok_place F5)
  have C_standing_of : CallOk l.prog w K mg base 1 "standing_of" ["length", "height", "tail", "kept"] (spStand K) := call_ok (PySem.W.mg_of X G a6) k6 b6 (ok_stand F6 T)
  have M__settle : MethOk l.prog w K mg base C 1 "_settle" ["self"] (spSettle C) := ⟨f31, _, ⟨a31, i31, k31⟩, b31, ok_settle F31 T⟩
  have M_begin : MethOk l.prog w K mg base C 2 "begin" ["self"] (spBegin C tp) := ⟨f27, _, ⟨a27, i27, k27⟩, b27, ok_begin F27 T M__settle⟩
  have M__put : MethOk l.prog w K mg base C 2 "_put" ["self", "height", "tail"] (spPut C) := ⟨f29, _, ⟨a29, i29, k29⟩, b29, ok_put F29 T M__settle⟩
  have M__go_over : MethOk l.prog w K mg base C 1 "_go_over" ["self", "rows"] (spOver C) := ⟨f30, _, ⟨a30, i30, k30⟩, b30, ok_over F30 T⟩
  have M_finish : MethOk l.prog w K mg base C 1 "finish" ["self"] (spFinish C) := ⟨f33, _, ⟨a33, i33, k33⟩, b33, ok_finish F33 T⟩
  have M_settled : MethOk l.prog w K mg base C 2 "settled" ["self"] (spSettled C) := ⟨f32, _, ⟨a32, i32, k32⟩, b32, ok_settled F32 T M_finish⟩
  have M_Page : MakeOk l.prog w K mg base C 1 "Page" ["self", "length"] (spInit C tp) := ⟨f26, _, ⟨mk, a26, i26, kc⟩, PySem.W.mg_of X G aC, b26, ok_init F26 T⟩
  have M_block : Blk2Ok l.prog w K mg base C := ⟨f28, _, mvB, ⟨a28, i28, k28⟩, kB, ok_block F28 T M__settle M_begin M__put M__go_over C_line_place C_next_line C_standing_of⟩
  have M_len : LenOk l.prog w K mg base C 1 (spLen C) := ⟨f34, _, ⟨a34, i34⟩, b34, ok_len F34 T⟩
  have P_now : PropOk l.prog w K mg base C 1 "now" (spNow C) := ⟨pp35, f35, _, ⟨a35, g35, t35, ⟨_, r35⟩⟩, b35, ok_now F35 T⟩
  have P_pending : PropOk l.prog w K mg base C 1 "pending" (spPend C) := ⟨pp36, f36, _, ⟨a36, g36, t36, ⟨_, r36⟩⟩, b36, ok_pend F36 T⟩
  have P_went_over : PropOk l.prog w K mg base C 1 "went_over" (spWent C) := ⟨pp37, f37, _, ⟨a37, g37, t37, ⟨_, r37⟩⟩, b37, ok_went F37 T⟩
  have M_resumed : ResOk l.prog w K mg base C := ⟨mcC, pR, f38, _, ⟨crd, cga⟩, ⟨a38, ⟨_, r38⟩, k38⟩, b38, ok_resumed F38 T C_checked M_Page⟩
  have C_joint_begin : CallOk l.prog w K mg base 1 "joint_begin" [] (spBegin0 K) := call_ok (PySem.W.mg_of X G a7) k7 b7 (ok_jbegin F7 T)
  have C__sides : CallOk l.prog w K mg base 1 "_sides" ["joint"] (spSides K) := call_ok (PySem.W.mg_of X G a11) k11 b11 (ok_sides F11 T)
  have C__joined : CallOk l.prog w K mg base 1 "_joined" ["one", "two"] (spJoined K) := call_ok (PySem.W.mg_of X G a12) k12 b12 (ok_joined F12 T T3)
  have C__stayed : CallOk l.prog w K mg base 1 "_stayed" ["standing", "offsets"] (spStayed K) := call_ok (PySem.W.mg_of X G a13) k13 b13 (ok_stayed F13 T)
  have C__gone_over : CallOk l.prog w K mg base 1 "_gone_over" ["offsets"] (spGone K) := call_ok (PySem.W.mg_of X G a15) k15 b15 (ok_gone F15 T)
  have C__with_page : CallOk l.prog w K mg base 2 "_with_page" ["side"] (spWithP K) := call_ok (PySem.W.mg_of X G a14) k14 b14 (ok_withp F14 T C__stayed)
  have C__with_lines : CallOk l.prog w K mg base 5 "_with_lines" ["length", "side", "count", "values"] (spWithL K) := call_ok (PySem.W.mg_of X G a16) k16 b16 (ok_withl F16 T M_resumed M_block M_finish M_settled P_now P_pending P_went_over M_len C__gone_over C__stayed)
  have C_joint_page : CallOk l.prog w K mg base 3 "joint_page" ["joint", "first", "second"] (spPageJ K) := call_ok (PySem.W.mg_of X G a8) k8 b8 (ok_jpage F8 T T3 C__sides C__joined C__with_page)
  have C_joint_block : CallOk l.prog w K mg base 6 "joint_block" ["lengths", "joint", "count", "first", "second"] (spBlockJ K) := call_ok (PySem.W.mg_of X G a9) k9 b9 (ok_jblock F9 T T3 C_joint_page C__sides C__joined C__with_lines)
  have C__law_bag : CallOk l.prog w K mg base 1 "_law_bag" ["_law_script", "_law_at"] (spBag K) := call_ok (PySem.W.mg_of X G a17) k17 b17 (ok_bag F17 (PySem.W.mg_none_of X G z_int) (PySem.W.mg_none_of X G z_abs) (PySem.W.mg_none_of X G z_len) (PySem.W.mg_none_of X G z_enumerate))
  have C__law_draw : CallOk l.prog w K mg base 1 "_law_draw" ["_law_bag_here", "_law_many"] spDraw := call_ok (PySem.W.mg_of X G a18) k18 b18 (ok_draw F18 (PySem.W.mg_none_of X G z_int))
  have C__law_values : CallOk l.prog w K mg base 2 "_law_values" ["_law_bag_here"] spVals := call_ok (PySem.W.mg_of X G a19) k19 b19 (ok_vals F19 C__law_draw)
  have C__law_row : CallOk l.prog w K mg base 3 "_law_row" ["_law_bag_here", "_law_many"] spRow := call_ok (PySem.W.mg_of X G a20) k20 b20 (ok_row F20 T C__law_draw C__law_values)
  have C_alike_at_end : CallOk l.prog w K mg base 4 "alike_at_end" ["joint"] (spEnd K) := call_ok (PySem.W.mg_of X G a10) k10 b10 (ok_aend F10 T T3 C_joint_page)
  have C__law_lines : CallOk l.prog w K mg base 1 "_law_lines" ["_law_blocks"] (spKLines K) := call_ok (PySem.W.mg_of X G a21) k21 b21 (ok_klines F21 T)
  have C__law_cut : CallOk l.prog w K mg base 1 "_law_cut" ["_law_length", "_law_rows", "_law_start"] spKCut := call_ok (PySem.W.mg_of X G a22) k22 b22 (ok_kcut F22 T)
  have C__law_places : CallOk l.prog w K mg base 2 "_law_places" ["_law_length", "_law_rows"] spKPlaces := call_ok (PySem.W.mg_of X G a23) k23 b23 (ok_kplaces F23 T C__law_cut)
  have C__law_by_block : CallOk l.prog w K mg base 3 "_law_by_block" ["_law_length", "_law_blocks"] (spKBy K) := call_ok (PySem.W.mg_of X G a24) k24 b24 (ok_kby F24 C__law_lines C__law_places)
  exact ok_law F25 T C__law_bag C__law_draw C__law_row C_joint_begin C_joint_page C_joint_block C_alike_at_end C__law_by_block
theorem walk_law {l : PySem.W.OpenLaw} {q : Program} {loose : List Str} {XP : (Str → Option Value) → Heap → Prop} {YP : World → Heap → Prop} {d : DefRec} {K : Params → PySem.W.Frag} (hmost : l.most = some 63) (hdf : d.params.defaults = [])
    (hin : ∀ (w : World) (h : Heap), YP w h → (K w.params).In h)
    (all : ∀ (w : World) (mg : Str → Option Value) (fa : Addr) (h : Heap), (K w.params).In h → h.Ns mainGlobals mg → mg d.name = some (.ref fa) →
      ∃ fd : FuncData, (∀ (s : Shared) (u : Value), BindsTo s fd ⟨[u], []⟩ [("_law_script", u)]) ∧ ∀ base : Heap, (K w.params).In base → base.Ns mainGlobals mg → FnOk l.prog w (K w.params) mg base CX0 7 fa fd ["_law_script"] (spLaw (K w.params))) :
    PySem.W.WalkO q loose XP YP l.row.toRowW d [] (fun f vs => PySem.call f vs) :=
  L2.walk_of (n := 63) (k := 7) (x := "_law_script") (CX := fun _ => CX0) (sp := fun w => spLaw (K w.params)) hmost (by decide) hdf ⟨rfl, by decide, by decide⟩ hin all (fun _ _ a ns hl _ hS => ⟨a, ns, rfl, hS, hl, fun _ => rfl⟩) fun _ _ _ _ _ z => z
end Pa
open PySem PySem.W PyProof.Rows in
set_option maxRecDepth 100000 in
set_option maxHeartbeats 0 in
theorem PySem.Challenge.cw_pressalike_k44_joint_blocks_and_plain_pa_holds : PySem.Challenge.rw_pressalike_k44_joint_blocks_and_plain_pa.Holds := by
  w_on; o_law; k_head; (case hw => w_witness2)
  k_fill
  refine Pa.walk_law (l := PySem.Challenge.rw_pressalike_k44_joint_blocks_and_plain_pa) rfl rfl (fun w h Y => PySem.W.kIn_of Y) ?F
  case F =>
    intro w mg fa h KX G hmg
    refine' Pa.all_mk KX G hmg ?aC ?aS ?aT ?aPT ?a0 ?l0 ?c0 ?k0 ?a1 ?l1 ?c1 ?k1 ?a2 ?l2 ?c2 ?k2 ?a3 ?l3 ?c3 ?k3 ?a4 ?l4 ?c4 ?k4 ?a5 ?l5 ?c5 ?k5 ?a6 ?l6 ?c6 ?k6 ?a7 ?l7 ?c7 ?k7 ?a8 ?l8 ?c8 ?k8 ?a9 ?l9 ?c9 ?k9 ?a10 ?l10 ?c10 ?k10 ?a11 ?l11 ?c11 ?k11 ?a12 ?l12 ?c12 ?k12 ?a13 ?l13 ?c13 ?k13 ?a14 ?l14 ?c14 ?k14 ?a15 ?l15 ?c15 ?k15 ?a16 ?l16 ?c16 ?k16 ?a17 ?l17 ?c17 ?k17 ?a18 ?l18 ?c18 ?k18 ?a19 ?l19 ?c19 ?k19 ?a20 ?l20 ?c20 ?k20 ?a21 ?l21 ?c21 ?k21 ?a22 ?l22 ?c22 ?k22 ?a23 ?l23 ?c23 ?k23 ?a24 ?l24 ?c24 ?k24 ?a25 ?l25 ?c25 ?k25 ?a26 ?i26 ?l26 ?c26 ?k26 ?a27 ?i27 ?l27 ?c27 ?k27 ?a28 ?i28 ?l28 ?c28 ?k28 ?a29 ?i29 ?l29 ?c29 ?k29 ?a30 ?i30 ?l30 ?c30 ?k30 ?a31 ?i31 ?l31 ?c31 ?k31 ?a32 ?i32 ?l32 ?c32 ?k32 ?a33 ?i33 ?l33 ?c33 ?k33 ?a34 ?i34 ?l34 ?c34 ?k34 ?a35 ?g35 ?t35 ?r35 ?l35 ?c35 ?k35 ?a36 ?g36 ?t36 ?r36 ?l36 ?c36 ?k36 ?a37 ?g37 ?t37 ?r37 ?l37 ?c37 ?k37 ?mcT ?a38 ?r38 ?crd ?cga ?l38 ?c38 ?k38 ?dk0 ?dk1 ?dk2 ?lT ?pg ?hd ?po ?sa ?mk ?kc ?nL ?nS ?nR ?nO ?nW ?z_len ?z_range ?z_int ?z_abs ?z_enumerate ?z_isinstance ?z_bool ?z_list ?z_tuple ?z_max ?z_min ?z_all ?z_sorted ?z_str ?z_super ?iI ?lI ?tI ?cI ?lcda ?lcc ?lC ?x1 ?x2 ?x3 ?x4 ?x5 ?x6 ?x7 ?y1 ?y2 ?y3 ?y4 ?y5 ?y6
    (case aC => k_is)
    (case aS => k_is)
    (case aT => k_is)
    (case aPT => k_is)
    (case a0 => k_is)
    (case l0 => k_is)
    (case c0 => k_is)
    (case k0 => k_is)
    (case a1 => k_is)
    (case l1 => k_is)
    (case c1 => k_is)
    (case k1 => k_is)
    (case a2 => k_is)
    (case l2 => k_is)
    (case c2 => k_is)
    (case k2 => k_is)
    (case a3 => k_is)
    (case l3 => k_is)
    (case c3 => k_is)
    (case k3 => k_is)
    (case a4 => k_is)
    (case l4 => k_is)
    (case c4 => k_is)
    (case k4 => k_is)
    (case a5 => k_is)
    (case l5 => k_is)
    (case c5 => k_is)
    (case k5 => k_is)
    (case a6 => k_is)
    (case l6 => k_is)
    (case c6 => k_is)
    (case k6 => k_is)
    (case a7 => k_is)
    (case l7 => k_is)
    (case c7 => k_is)
    (case k7 => k_is)
    (case a8 => k_is)
    (case l8 => k_is)
    (case c8 => k_is)
    (case k8 => k_is)
    (case a9 => k_is)
    (case l9 => k_is)
    (case c9 => k_is)
    (case k9 => k_is)
    (case a10 => k_is)
    (case l10 => k_is)
    (case c10 => k_is)
    (case k10 => k_is)
    (case a11 => k_is)
    (case l11 => k_is)
    (case c11 => k_is)
    (case k11 => k_is)
    (case a12 => k_is)
    (case l12 => k_is)
    (case c12 => k_is)
    (case k12 => k_is)
    (case a13 => k_is)
    (case l13 => k_is)
    (case c13 => k_is)
    (case k13 => k_is)
    (case a14 => k_is)
    (case l14 => k_is)
    (case c14 => k_is)
    (case k14 => k_is)
    (case a15 => k_is)
    (case l15 => k_is)
    (case c15 => k_is)
    (case k15 => k_is)
    (case a16 => k_is)
    (case l16 => k_is)
    (case c16 => k_is)
    (case k16 => k_is)
    (case a17 => k_is)
    (case l17 => k_is)
    (case c17 => k_is)
    (case k17 => k_is)
    (case a18 => k_is)
    (case l18 => k_is)
    (case c18 => k_is)
    (case k18 => k_is)
    (case a19 => k_is)
    (case l19 => k_is)
    (case c19 => k_is)
    (case k19 => k_is)
    (case a20 => k_is)
    (case l20 => k_is)
    (case c20 => k_is)
    (case k20 => k_is)
    (case a21 => k_is)
    (case l21 => k_is)
    (case c21 => k_is)
    (case k21 => k_is)
    (case a22 => k_is)
    (case l22 => k_is)
    (case c22 => k_is)
    (case k22 => k_is)
    (case a23 => k_is)
    (case l23 => k_is)
    (case c23 => k_is)
    (case k23 => k_is)
    (case a24 => k_is)
    (case l24 => k_is)
    (case c24 => k_is)
    (case k24 => k_is)
    (case a25 => k_is)
    (case l25 => k_is)
    (case c25 => k_is)
    (case k25 => k_is)
    (case a26 => k_is)
    (case i26 => k_is)
    (case l26 => k_is)
    (case c26 => k_is)
    (case k26 => k_is)
    (case a27 => k_is)
    (case i27 => k_is)
    (case l27 => k_is)
    (case c27 => k_is)
    (case k27 => k_is)
    (case a28 => k_is)
    (case i28 => k_is)
    (case l28 => k_is)
    (case c28 => k_is)
    (case k28 => k_is)
    (case a29 => k_is)
    (case i29 => k_is)
    (case l29 => k_is)
    (case c29 => k_is)
    (case k29 => k_is)
    (case a30 => k_is)
    (case i30 => k_is)
    (case l30 => k_is)
    (case c30 => k_is)
    (case k30 => k_is)
    (case a31 => k_is)
    (case i31 => k_is)
    (case l31 => k_is)
    (case c31 => k_is)
    (case k31 => k_is)
    (case a32 => k_is)
    (case i32 => k_is)
    (case l32 => k_is)
    (case c32 => k_is)
    (case k32 => k_is)
    (case a33 => k_is)
    (case i33 => k_is)
    (case l33 => k_is)
    (case c33 => k_is)
    (case k33 => k_is)
    (case a34 => k_is)
    (case i34 => k_is)
    (case l34 => k_is)
    (case c34 => k_is)
    (case k34 => k_is)
    (case a35 => k_is)
    (case g35 => k_is)
    (case t35 => k_is)
    (case r35 => k_is)
    (case l35 => k_is)
    (case c35 => k_is)
    (case k35 => k_is)
    (case a36 => k_is)
    (case g36 => k_is)
    (case t36 => k_is)
    (case r36 => k_is)
    (case l36 => k_is)
    (case c36 => k_is)
    (case k36 => k_is)
    (case a37 => k_is)
    (case g37 => k_is)
    (case t37 => k_is)
    (case r37 => k_is)
    (case l37 => k_is)
    (case c37 => k_is)
    (case k37 => k_is)
    (case mcT => k_is)
    (case a38 => k_is)
    (case r38 => k_is)
    (case crd => k_is)
    (case cga => k_is)
    (case l38 => k_is)
    (case c38 => k_is)
    (case k38 => k_is)
    (case dk0 => k_is)
    (case dk1 => k_is)
    (case dk2 => k_is)
    (case lT => k_is)
    (case pg => k_is)
    (case hd => k_is)
    (case po => k_is)
    (case sa => k_is)
    (case mk => k_is)
    (case kc => k_is)
    (case nL => k_is)
    (case nS => k_is)
    (case nR => k_is)
    (case nO => k_is)
    (case nW => k_is)
    (case z_len => k_is)
    (case z_range => k_is)
    (case z_int => k_is)
    (case z_abs => k_is)
    (case z_enumerate => k_is)
    (case z_isinstance => k_is)
    (case z_bool => k_is)
    (case z_list => k_is)
    (case z_tuple => k_is)
    (case z_max => k_is)
    (case z_min => k_is)
    (case z_all => k_is)
    (case z_sorted => k_is)
    (case z_str => k_is)
    (case z_super => k_is)
    (case iI => k_is)
    (case lI => k_is)
    (case tI => k_is)
    (case cI => k_is)
    (case lcda => k_is)
    (case lcc => k_is)
    (case lC => k_is)
    (case x1 => k_is)
    (case x2 => k_is)
    (case x3 => k_is)
    (case x4 => k_is)
    (case x5 => k_is)
    (case x6 => k_is)
    (case x7 => k_is)
    (case y1 => kernel_rfl)
    (case y2 => kernel_rfl)
    (case y3 => kernel_rfl)
    (case y4 => kernel_rfl)
    (case y5 => exact rfl)
    (case y6 => kernel_rfl)
