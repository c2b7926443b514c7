import PyProof.Rows.All
import Wide.All
import OpenK.AllK
import Wide.FinOn
import HandS.ForMost
import HandS.Wide
import HandS.Walk
import HandS.TupAny
import HandS.IsInst
import HandS.Property
import HandS.Style
import HandS.TupLe
import HandS.Defaults
import HandS.SortRule
import KE.KSortTupAny
import HandS.ExcInit
import KE.KExcSuper
import HandS.Deep
import HandS.Exc
import HandS.ExcOwn
import HandS.WordsExc
import HandS.ExcField
import HandS.ExcIs
import KE.KExcIs
import HandS.ClsMeth
import HandS.MakeKwOnly
import KE.KRevSl
import HandS.EndTab
import KE.KNestM
import HandS.HotCalls
import HandS.ExcInitHot
import HandS.TryMany
import HandS.CallSlots
import PySem.Challenge.RW_pressalike_k29_pages_resumed
set_option Elab.async false
set_option linter.all false
namespace Pa
/-! ### the mathematics: lines, segments, pages -/
structure Ln where
  sp : Int
  br : Bool
  du : Bool
structure Bl where
  c : Nat
  s : Int
  k : Bool
  g : Bool
/-- the last line of a row ahead of which the place is free: (what stands ahead of it, it and what follows) -/
def cutT : List Ln → Option (List Ln × List Ln)
  | [] => none
  | x :: xs => match cutT xs with
    | some ab => some (x :: ab.1, ab.2)
    | none => if x.br = true then none else some ([], x :: xs)
def cut : List Ln → Option (List Ln × List Ln)
  | [] => none
  | x :: xs => (cutT xs).map fun ab => (x :: ab.1, ab.2)
theorem cutT_snoc (xs : List Ln) (l : Ln) : cutT (xs ++ [l]) = if l.br = true then (cutT xs).map (fun ab => (ab.1, ab.2 ++ [l])) else some (xs, [l]) := by
  induction xs with
  | nil => cases h : l.br <;> simp [cutT, h]
  | cons x xs ih =>
    rw [List.cons_append, cutT, ih]
    cases h : l.br with
    | true =>
      simp only [if_true]
      rw [cutT]
      cases h2 : cutT xs with
      | none => cases h3 : x.br <;> simp
      | some ab => simp
    | false => simp
theorem cut_snoc {xs : List Ln} (h : xs ≠ []) (l : Ln) : cut (xs ++ [l]) = if l.br = true then (cut xs).map (fun ab => (ab.1, ab.2 ++ [l])) else some (xs, [l]) := by
  cases xs with
  | nil => exact absurd rfl h
  | cons x xs =>
    rw [List.cons_append, cut, cutT_snoc, cut]
    cases l.br <;> simp [Option.map_map, Function.comp_def]
theorem cutT_spec : ∀ {xs a b : List Ln}, cutT xs = some (a, b) → xs = a ++ b ∧ ∃ x b', b = x :: b' ∧ x.br = false ∧ ∀ y ∈ b', y.br = true
  | [], a, b, h => by cases h
  | x :: xs, a, b, h => by
    rw [cutT] at h
    cases h2 : cutT xs with
    | some ab =>
      rw [h2] at h
      obtain ⟨a', b'⟩ := ab
      cases h
      obtain ⟨e, r⟩ := cutT_spec h2
      exact ⟨by rw [e]; rfl, r⟩
    | none =>
      rw [h2] at h
      cases h3 : x.br with
      | true => simp [h3] at h
      | false =>
        simp only [h3, Bool.false_eq_true, if_false, Option.some.injEq, Prod.mk.injEq] at h
        obtain ⟨rfl, rfl⟩ := h
        exact ⟨rfl, x, xs, rfl, h3, cutT_none h2⟩
where
  cutT_none : ∀ {xs : List Ln}, cutT xs = none → ∀ y ∈ xs, y.br = true
  | [], _, y, hy => by cases hy
  | x :: xs, h, y, hy => by
    rw [cutT] at h
    cases h2 : cutT xs with
    | some ab => rw [h2] at h; cases h
    | none =>
      rw [h2] at h
      cases h3 : x.br with
      | false => simp [h3] at h
      | true =>
        rcases List.mem_cons.mp hy with e | e
        · rw [e]; exact h3
        · exact cutT_none h2 y e
theorem cutT_none {xs : List Ln} (h : cutT xs = none) : ∀ y ∈ xs, y.br = true := cutT_spec.cutT_none h
theorem cutT_allbr : ∀ {xs : List Ln}, (∀ y ∈ xs, y.br = true) → cutT xs = none
  | [], _ => rfl
  | x :: xs, h => by
    rw [cutT, cutT_allbr fun y hy => h y (List.mem_cons_of_mem _ hy)]
    simp [h x List.mem_cons_self]
theorem cut_spec {xs a b : List Ln} (h : cut xs = some (a, b)) : xs = a ++ b ∧ a ≠ [] ∧ ∃ x b', b = x :: b' ∧ x.br = false ∧ ∀ y ∈ b', y.br = true := by
  cases xs with
  | nil => cases h
  | cons x xs =>
    rw [cut] at h
    cases h2 : cutT xs with
    | none => rw [h2] at h; cases h
    | some ab =>
      rw [h2] at h
      obtain ⟨a', b'⟩ := ab
      cases h
      obtain ⟨e, r⟩ := cutT_spec h2
      exact ⟨by rw [e]; rfl, by simp, r⟩
theorem cut_none {xs : List Ln} (h : cut xs = none) : ∀ y ∈ xs.tail, y.br = true := by
  cases xs with
  | nil => intro y hy; cases hy
  | cons x xs =>
    rw [cut] at h
    cases h2 : cutT xs with
    | none => exact cutT_none h2
    | some ab => rw [h2] at h; cases h
theorem cut_allbr {x : Ln} {xs : List Ln} (h : ∀ y ∈ xs, y.br = true) : cut (x :: xs) = none := by
  rw [cut, cutT_allbr h]; rfl
theorem cut_one (x : Ln) : cut [x] = none := rfl

/-- how far the last of these stands below what is ahead of them -/
def adv : List Ln → Int
  | [] => 0
  | l :: ls => l.sp + 1 + adv ls
theorem adv_append (a b : List Ln) : adv (a ++ b) = adv a + adv b := by
  induction a with
  | nil => simp [adv]
  | cons x a ih => rw [List.cons_append, adv, adv, ih]; omega
theorem adv_nonneg {a : List Ln} (h : ∀ l ∈ a, 0 ≤ l.sp) : (a.length : Int) ≤ adv a := by
  induction a with
  | nil => simp [adv]
  | cons x a ih =>
    have h1 := h x List.mem_cons_self
    have h2 := ih fun l hl => h l (List.mem_cons_of_mem _ hl)
    rw [adv, List.length_cons]
    omega
def lastRow (s : List Ln) : Int := adv s.tail
def pgGo (r : Int) : List Ln → List (Int × Bool)
  | [] => []
  | l :: ls => (r + l.sp + 1, l.br) :: pgGo (r + l.sp + 1) ls
def pgOf : List Ln → List (Int × Bool)
  | [] => []
  | l :: ls => (0, l.br) :: pgGo 0 ls
theorem pgGo_append (r : Int) (a b : List Ln) : pgGo r (a ++ b) = pgGo r a ++ pgGo (r + adv a) b := by
  induction a generalizing r with
  | nil => simp [pgGo, adv]
  | cons x a ih =>
    rw [List.cons_append, pgGo, pgGo, ih, List.cons_append, adv]
    congr 3
    omega
theorem pgGo_len (r : Int) (a : List Ln) : (pgGo r a).length = a.length := by
  induction a generalizing r with
  | nil => rfl
  | cons x a ih => rw [pgGo, List.length_cons, ih, List.length_cons]
theorem pgOf_len (a : List Ln) : (pgOf a).length = a.length := by
  cases a with
  | nil => rfl
  | cons x a => rw [pgOf, List.length_cons, pgGo_len, List.length_cons]
theorem pgOf_snoc {s : List Ln} (h : s ≠ []) (l : Ln) : pgOf (s ++ [l]) = pgOf s ++ [(lastRow s + l.sp + 1, l.br)] := by
  cases s with
  | nil => exact absurd rfl h
  | cons x s =>
    rw [List.cons_append, pgOf, pgGo_append, pgOf, List.cons_append]
    simp [pgGo, lastRow]
theorem lastRow_snoc {s : List Ln} (h : s ≠ []) (l : Ln) : lastRow (s ++ [l]) = lastRow s + l.sp + 1 := by
  cases s with
  | nil => exact absurd rfl h
  | cons x s =>
    show adv (s ++ [l]) = adv s + l.sp + 1
    rw [adv_append]
    simp [adv]
    omega
theorem lastRow_one (l : Ln) : lastRow [l] = 0 := rfl
theorem lastRow_append {a : List Ln} (h : a ≠ []) (x : Ln) (b : List Ln) : lastRow (a ++ x :: b) = lastRow a + x.sp + 1 + lastRow (x :: b) := by
  cases a with
  | nil => exact absurd rfl h
  | cons y a =>
    show adv (a ++ x :: b) = adv a + x.sp + 1 + adv b
    rw [adv_append, adv]
    omega
theorem lastRow_nonneg {s : List Ln} (h : ∀ l ∈ s, 0 ≤ l.sp) : 0 ≤ lastRow s := by
  have := adv_nonneg (a := s.tail) fun l hl => h l (List.mem_of_mem_tail hl)
  unfold lastRow
  omega
theorem pgOf_last {s : List Ln} (h : s ≠ []) : ∃ b, (pgOf s).getLast? = some (lastRow s, b) := by
  rcases List.eq_nil_or_concat s with e | ⟨t, l, e⟩
  · exact absurd e h
  · subst e
    by_cases ht : t = []
    · subst ht
      exact ⟨l.br, rfl⟩
    · rw [List.concat_eq_append] at *
      rw [pgOf_snoc ht, lastRow_snoc ht]
      exact ⟨l.br, by simp⟩
theorem pgGo_shift (r d : Int) (b : List Ln) : pgGo (r + d) b = (pgGo r b).map fun x => (x.1 + d, x.2) := by
  induction b generalizing r with
  | nil => rfl
  | cons x b ih =>
    rw [pgGo, pgGo, List.map_cons, ← ih]
    have e : r + d + x.sp + 1 = r + x.sp + 1 + d := by omega
    rw [e]
/-- a page parted at one of its lines -/
theorem pgOf_parted {a : List Ln} (h : a ≠ []) (x : Ln) (b : List Ln) : pgOf (a ++ x :: b) = pgOf a ++ (pgOf (x :: b)).map fun y => (y.1 + (lastRow a + x.sp + 1), y.2) := by
  cases a with
  | nil => exact absurd rfl h
  | cons y a =>
    rw [List.cons_append, pgOf, pgGo_append, pgOf, pgOf, pgGo, List.map_cons, ← pgGo_shift, List.cons_append]
    show _ = (0, y.br) :: (pgGo 0 a ++ (0 + (adv a + x.sp + 1), x.br) :: pgGo (0 + (adv a + x.sp + 1)) b)
    have e : (0 : Int) + adv a + x.sp + 1 = 0 + (adv a + x.sp + 1) := by omega
    rw [e]

/-! ### the lines of blocks -/
def blLn (c : Nat) (s : Int) (kp du : Bool) (i : Nat) : Ln := if i = 0 then ⟨s, kp, du⟩ else ⟨0, decide ((i : Int) = 1 ∨ (i : Int) = (c : Int) - 1), false⟩
def blLines (c : Nat) (s : Int) (kp du : Bool) (n : Nat) : List Ln := (List.range n).map (blLn c s kp du)
theorem blLines_succ (c : Nat) (s : Int) (kp du : Bool) (n : Nat) : blLines c s kp du (n + 1) = blLines c s kp du n ++ [blLn c s kp du n] := by
  unfold blLines
  rw [List.range_succ, List.map_append]
  rfl
structure LS where
  ls : List Ln
  du : Bool
  kp : Bool
def stepB (t : LS) (b : Bl) : LS :=
  ⟨t.ls ++ blLines b.c b.s t.kp (t.du || b.g) b.c, if b.c = 0 then (t.du || b.g) else false, if b.c = 0 then t.kp else b.k⟩
def linesOf (bs : List Bl) : LS := bs.foldl stepB ⟨[], true, false⟩
theorem linesOf_snoc (bs : List Bl) (b : Bl) : linesOf (bs ++ [b]) = stepB (linesOf bs) b := by
  unfold linesOf
  rw [List.foldl_append]
  rfl

/-! ### lines put onto pages: a state is its pages' lines, the last page first -/
def stepS (L : Int) (S : List (List Ln)) (l : Ln) : List (List Ln) :=
  if l.du = true then [l] :: S else match S with
  | [] => [[l]]
  | seg :: S' => if lastRow seg + l.sp + 1 < L then (seg ++ [l]) :: S' else
    match (if l.br = true then cut seg else none) with
    | none => [l] :: seg :: S'
    | some ab => if lastRow ab.2 + l.sp + 1 < L then (ab.2 ++ [l]) :: ab.1 :: S' else [l] :: ab.2 :: ab.1 :: S'
def runS (L : Int) (ls : List Ln) : List (List Ln) := ls.foldl (stepS L) []
theorem runS_snoc (L : Int) (ls : List Ln) (l : Ln) : runS L (ls ++ [l]) = stepS L (runS L ls) l := by
  unfold runS
  rw [List.foldl_append]
  rfl
theorem runS_append (L : Int) (a b : List Ln) : runS L (a ++ b) = b.foldl (stepS L) (runS L a) := by
  unfold runS
  rw [List.foldl_append]
def rowsOf (S : List (List Ln)) : List Int := ((S.reverse.map pgOf).flatten).map (·.1)
theorem rowsOf_cons (s : List Ln) (S : List (List Ln)) : rowsOf (s :: S) = rowsOf S ++ (pgOf s).map (·.1) := by
  unfold rowsOf
  simp

/-! ### a Page's state -/
structure PS' where
  h : Int
  t : Int
  lo : Int
  rows : List Int
def lng (t s : Int) : Int := if t > 0 then t + s + 1 else 0
structure NL where
  h : Int
  t : Int
  ov : Bool
def nextLine (L h t s : Int) (b : Bool) : NL :=
  if h > 0 ∧ h + s + 1 ≤ L then (if b = false then ⟨h + s + 1, 1, false⟩ else ⟨h + s + 1, lng t s, false⟩)
  else if b = false ∨ t = 0 then ⟨1, 0, false⟩ else ⟨if lng t s ≤ L then lng t s else 1, 0, true⟩
def overR (rows : List Int) (lo before : Int) : List Int := rows.take (rows.length - lo.toNat) ++ (rows.drop (rows.length - lo.toNat)).map (· - before)
def lineP (L : Int) (p : PS') (s : Int) (b : Bool) : PS' :=
  let n := nextLine L p.h p.t s b
  ⟨n.h, n.t, if n.t > 1 then p.lo + 1 else n.t, (if n.ov = true then overR p.rows p.lo (p.h - p.t) else p.rows) ++ [n.h - 1]⟩
def tailOf (s : List Ln) : Int := match cut s with
  | none => 0
  | some ab => lastRow ab.2 + 1
def looseOf (s : List Ln) : Int := match cut s with
  | none => 0
  | some ab => ab.2.length
/-- the page's state is that of these lines -/
structure Ex (S : List (List Ln)) (p : PS') : Prop where
  ok : ∃ s S', S = s :: S' ∧ s ≠ [] ∧ p.h = lastRow s + 1 ∧ p.t = tailOf s ∧ p.lo = looseOf s ∧ p.rows = rowsOf S
def NN (S : List (List Ln)) : Prop := ∀ s ∈ S, ∀ l ∈ s, 0 ≤ l.sp
theorem overR_ok {S' : List (List Ln)} {a b : List Ln} {x : Ln} (ha : a ≠ []) : overR (rowsOf ((a ++ x :: b) :: S')) ((x :: b).length : Int) (lastRow a + x.sp + 1) = rowsOf ((x :: b) :: a :: S') := by
  unfold overR
  rw [rowsOf_cons, rowsOf_cons, rowsOf_cons, pgOf_parted ha]
  have e : ((((pgOf a ++ (pgOf (x :: b)).map fun y => (y.1 + (lastRow a + x.sp + 1), y.2))).map (·.1)) : List Int) = (pgOf a).map (·.1) ++ ((pgOf (x :: b)).map (·.1)).map (· + (lastRow a + x.sp + 1)) := by
    simp [List.map_map, Function.comp_def]
  rw [e, ← List.append_assoc]
  have el : (rowsOf S' ++ (pgOf a).map (·.1) ++ ((pgOf (x :: b)).map (·.1)).map (· + (lastRow a + x.sp + 1))).length - (((x :: b).length : Int)).toNat = (rowsOf S' ++ (pgOf a).map (·.1)).length := by
    simp only [List.length_append, List.length_map, pgOf_len, Int.toNat_natCast]
    omega
  rw [el, List.take_left', List.drop_left']
  · rw [List.map_map]
    congr 1
    conv => rhs; rw [← List.map_id ((pgOf (x :: b)).map (·.1))]
    apply List.map_congr_left
    intro y _
    simp
  · rfl
  · rfl
theorem line_ok {L : Int} {seg : List Ln} {S' : List (List Ln)} {p : PS'} {l : Ln} (hL : 0 < L) (hn : NN (seg :: S')) (hs : seg ≠ []) (h0 : 0 ≤ l.sp) (hd : l.du = false) (hh : p.h = lastRow seg + 1) (hb : l.br = true → p.t = tailOf seg ∧ p.lo = looseOf seg)
    (hr : p.rows = rowsOf (seg :: S')) : Ex (stepS L (seg :: S') l) (lineP L p l.sp l.br) := by
  have hnn : 0 ≤ lastRow seg := lastRow_nonneg (hn seg List.mem_cons_self)
  unfold stepS lineP nextLine
  simp only [hd, Bool.false_eq_true, if_false, hh]
  by_cases hf : lastRow seg + l.sp + 1 < L
  · have hf' : lastRow seg + 1 > 0 ∧ lastRow seg + 1 + l.sp + 1 ≤ L := ⟨by omega, by omega⟩
    simp only [hf, hf', and_self, if_true]
    cases hbr : l.br with
    | false =>
      simp only [if_true]
      refine ⟨_, _, rfl, by simp, ?_, ?_, ?_, ?_⟩
      · rw [lastRow_snoc hs]; show lastRow seg + 1 + l.sp + 1 = _; omega
      · show (1 : Int) = _
        unfold tailOf; rw [cut_snoc hs, hbr]; rfl
      · show (if (1 : Int) > 1 then p.lo + 1 else (1 : Int)) = _
        unfold looseOf; rw [cut_snoc hs, hbr]; rfl
      · show p.rows ++ [_] = _
        rw [hr, rowsOf_cons, rowsOf_cons, pgOf_snoc hs, List.map_append, List.append_assoc]
        congr 2
        simp
        omega
    | true =>
      obtain ⟨ht, hlo⟩ := hb hbr
      simp only [Bool.true_eq_false, if_false]
      refine ⟨_, _, rfl, by simp, ?_, ?_, ?_, ?_⟩
      · rw [lastRow_snoc hs]; show lastRow seg + 1 + l.sp + 1 = _; omega
      · show lng p.t l.sp = _
        rw [ht]
        unfold tailOf lng
        rw [cut_snoc hs, hbr]
        simp only [if_true]
        cases hc : cut seg with
        | none => simp
        | some ab =>
          obtain ⟨a, b⟩ := ab
          obtain ⟨e, ha, x, b', hb', _⟩ := cut_spec hc
          have hbn : b ≠ [] := by rw [hb']; simp
          have : 0 ≤ lastRow b := lastRow_nonneg fun y hy => hn seg List.mem_cons_self y (by rw [e]; exact List.mem_append_right _ hy)
          simp only [Option.map_some]
          rw [lastRow_snoc hbn, if_pos (by omega)]
          omega
      · show (if lng p.t l.sp > 1 then p.lo + 1 else lng p.t l.sp) = _
        rw [ht, hlo]
        unfold tailOf looseOf lng
        rw [cut_snoc hs, hbr]
        simp only [if_true]
        cases hc : cut seg with
        | none => simp
        | some ab =>
          obtain ⟨a, b⟩ := ab
          obtain ⟨e, ha, x, b', hb', _⟩ := cut_spec hc
          have : 0 ≤ lastRow b := lastRow_nonneg fun y hy => hn seg List.mem_cons_self y (by rw [e]; exact List.mem_append_right _ hy)
          simp only [Option.map_some, List.length_append, List.length_singleton]
          rw [if_pos (by omega)]
          omega
      · show p.rows ++ [_] = _
        rw [hr, rowsOf_cons, rowsOf_cons, pgOf_snoc hs, List.map_append, List.append_assoc]
        congr 2
        simp
        omega
  · have hf' : ¬ (lastRow seg + 1 > 0 ∧ lastRow seg + 1 + l.sp + 1 ≤ L) := fun q => hf (by omega)
    simp only [hf, hf', if_false]
    cases hbr : l.br with
    | false =>
      simp only [Bool.false_eq_true, if_false, true_or, if_true]
      refine ⟨_, _, rfl, by simp, rfl, rfl, rfl, ?_⟩
      show p.rows ++ [_] = _
      rw [hr]
      rw [rowsOf_cons [l]]
      rfl
    | true =>
      obtain ⟨ht, hlo⟩ := hb hbr
      simp only [if_true, Bool.true_eq_false, false_or]
      cases hc : cut seg with
      | none =>
        have ht0 : p.t = 0 := by rw [ht]; unfold tailOf; rw [hc]
        simp only [ht0, if_true]
        refine ⟨_, _, rfl, by simp, rfl, rfl, rfl, ?_⟩
        show p.rows ++ [_] = _
        rw [hr]
        rw [rowsOf_cons [l]]
        rfl
      | some ab =>
        obtain ⟨a, b⟩ := ab
        obtain ⟨e, ha, x, b', hb', hx, hall⟩ := cut_spec hc
        have hbn : b ≠ [] := by rw [hb']; simp
        have hb0 : 0 ≤ lastRow b := lastRow_nonneg fun y hy => hn seg List.mem_cons_self y (by rw [e]; exact List.mem_append_right _ hy)
        have ht1 : p.t = lastRow b + 1 := by rw [ht]; unfold tailOf; rw [hc]
        have hlo1 : p.lo = b.length := by rw [hlo]; unfold looseOf; rw [hc]
        have htn : ¬ p.t = 0 := by omega
        have hlr : lastRow seg = lastRow a + x.sp + 1 + lastRow b := by rw [e, hb']; exact lastRow_append ha x b'
        have hov : overR p.rows p.lo (lastRow seg + 1 - p.t) = rowsOf (b :: a :: S') := by
          have e2 : lastRow seg + 1 - p.t = lastRow a + x.sp + 1 := by omega
          rw [e2, hr, hlo1, e, hb']
          exact overR_ok ha
        have hlng : lng p.t l.sp = lastRow b + l.sp + 1 + 1 := by
          unfold lng
          rw [if_pos (by omega)]
          omega
        simp only [htn, if_false, hlng, hov, if_true]
        by_cases hf2 : lastRow b + l.sp + 1 < L
        · have hf3 : lastRow b + l.sp + 1 + 1 ≤ L := by omega
          simp only [hf2, hf3, if_true]
          refine ⟨_, _, rfl, by simp, ?_, ?_, ?_, ?_⟩
          · rw [lastRow_snoc hbn]
          · show (0 : Int) = _
            unfold tailOf; rw [cut_snoc hbn, hbr, hb', cut_allbr hall]; rfl
          · show (if (0 : Int) > 1 then p.lo + 1 else (0 : Int)) = _
            unfold looseOf; rw [cut_snoc hbn, hbr, hb', cut_allbr hall]; rfl
          · show rowsOf (b :: a :: S') ++ [_] = _
            rw [rowsOf_cons, rowsOf_cons (b ++ [l]), pgOf_snoc hbn, List.map_append, List.append_assoc]
            congr 2
            simp
        · have hf3 : ¬ (lastRow b + l.sp + 1 + 1 ≤ L) := by omega
          simp only [hf2, hf3, if_false]
          refine ⟨_, _, rfl, by simp, rfl, rfl, rfl, ?_⟩
          show rowsOf (b :: a :: S') ++ [_] = _
          rw [rowsOf_cons [l]]
          rfl
/-! ### a block -/
structure SB where
  kd : Bool
  h : Int
  t : Int
  lo : Int
  rows : List Int
def runP (L : Int) (c : Nat) (s : Int) (kd : Bool) (p : PS') : Nat → PS'
  | 0 => p
  | n + 1 => lineP L (runP L c s kd p n) (if n = 0 then s else 0) (if n = 0 then kd else decide ((n : Int) = 1 ∨ (n : Int) = (c : Int) - 1))
def due0 (q : SB) (g : Bool) : SB := if g = true then ⟨false, 0, 0, 0, q.rows⟩ else q
def endP (L : Int) (p : PS') (k : Bool) : SB :=
  if p.h = L ∧ (k = false ∨ p.t = 0) then ⟨false, 0, 0, 0, p.rows⟩ else if k = true then ⟨true, p.h, p.t, if p.t = 0 then 0 else p.lo, p.rows⟩ else ⟨false, p.h, 0, 0, p.rows⟩
def blockP (L : Int) (q : SB) (b : Bl) : SB :=
  let q0 := due0 q b.g
  if b.c = 0 then q0 else endP L (runP L b.c b.s q0.kd ⟨q0.h, q0.t, q0.lo, q0.rows⟩ b.c) b.k
theorem NN_step {L : Int} {S : List (List Ln)} {l : Ln} (h : NN S) (h0 : 0 ≤ l.sp) : NN (stepS L S l) := by
  unfold stepS
  have h1 : ∀ y ∈ [l], 0 ≤ y.sp := fun y hy => by rw [List.mem_singleton.mp hy]; exact h0
  split
  · intro s hs
    rcases List.mem_cons.mp hs with e | e
    · rw [e]; exact h1
    · exact h s e
  · cases S with
    | nil =>
      intro s hs
      rw [List.mem_singleton.mp hs]; exact h1
    | cons seg S' =>
      have hseg := h seg List.mem_cons_self
      have hS' : ∀ s ∈ S', ∀ y ∈ s, 0 ≤ y.sp := fun s hs => h s (List.mem_cons_of_mem _ hs)
      have app : ∀ {a b : List Ln}, (∀ y ∈ a, 0 ≤ y.sp) → (∀ y ∈ b, 0 ≤ y.sp) → ∀ y ∈ a ++ b, 0 ≤ y.sp := fun ha hb y hy => (List.mem_append.mp hy).elim (ha y) (hb y)
      dsimp only
      split
      · intro s hs
        rcases List.mem_cons.mp hs with e | e
        · rw [e]; exact app hseg h1
        · exact hS' s e
      · cases hc : (if l.br = true then cut seg else none) with
        | none =>
          intro s hs
          rcases List.mem_cons.mp hs with e | e
          · rw [e]; exact h1
          · exact h s e
        | some ab =>
          obtain ⟨a, b⟩ := ab
          have hc' : cut seg = some (a, b) := by
            split at hc
            · exact hc
            · cases hc
          obtain ⟨e0, _, _⟩ := cut_spec hc'
          have ha : ∀ y ∈ a, 0 ≤ y.sp := fun y hy => hseg y (by rw [e0]; exact List.mem_append_left _ hy)
          have hb : ∀ y ∈ b, 0 ≤ y.sp := fun y hy => hseg y (by rw [e0]; exact List.mem_append_right _ hy)
          dsimp only
          split
          · intro s hs
            rcases List.mem_cons.mp hs with e | e
            · rw [e]; exact app hb h1
            · rcases List.mem_cons.mp e with e | e
              · rw [e]; exact ha
              · exact hS' s e
          · intro s hs
            rcases List.mem_cons.mp hs with e | e
            · rw [e]; exact h1
            · rcases List.mem_cons.mp e with e | e
              · rw [e]; exact hb
              · rcases List.mem_cons.mp e with e | e
                · rw [e]; exact ha
                · exact hS' s e
structure Rel (L : Int) (t : LS) (q : SB) : Prop where
  rows : q.rows = rowsOf (runS L t.ls)
  nn : NN (runS L t.ls)
  due : t.du = true → q.h = 0 ∧ q.t = 0 ∧ q.kd = false ∧ q.lo = 0
  not : t.du = false → ∃ seg S', runS L t.ls = seg :: S' ∧ seg ≠ [] ∧
    ((q.h = lastRow seg + 1 ∧ q.kd = t.kp ∧ (t.kp = true → q.t = tailOf seg ∧ q.lo = looseOf seg) ∧ (t.kp = false → q.t = 0 ∧ q.lo = 0)) ∨
     (lastRow seg + 1 = L ∧ q.h = 0 ∧ q.t = 0 ∧ q.kd = false ∧ q.lo = 0 ∧ (t.kp = false ∨ cut seg = none)))
theorem rel0 (L : Int) : Rel L ⟨[], true, false⟩ ⟨false, 0, 0, 0, []⟩ := ⟨rfl, (fun _ h => by cases h), (fun _ => ⟨rfl, rfl, rfl, rfl⟩), (fun h => by cases h)⟩
theorem line_new {L : Int} {S : List (List Ln)} {p : PS'} {l : Ln} (hh : p.h = 0) (hr : p.rows = rowsOf S) : Ex ([l] :: S) (lineP L p l.sp false) := by
  unfold lineP nextLine
  have : ¬ (p.h > 0 ∧ p.h + l.sp + 1 ≤ L) := by omega
  simp only [this, if_false, true_or, if_true, Bool.false_eq_true]
  refine ⟨_, _, rfl, by simp, rfl, rfl, rfl, ?_⟩
  rw [hr, rowsOf_cons [l]]
  rfl
theorem line_sp (p : PS') (L s s' : Int) (h : p.h = 0) : lineP L p s false = lineP L p s' false := by
  unfold lineP nextLine
  have h1 : ¬ (p.h > 0 ∧ p.h + s + 1 ≤ L) := by omega
  have h2 : ¬ (p.h > 0 ∧ p.h + s' + 1 ≤ L) := by omega
  simp only [h1, h2, if_false, true_or, if_true]
theorem first_ok {L : Int} (hL : 0 < L) {t : LS} {q : SB} (R : Rel L t q) {s : Int} (h0 : 0 ≤ s) (g : Bool) :
    Ex (stepS L (runS L t.ls) ⟨s, t.kp, t.du || g⟩) (lineP L ⟨(due0 q g).h, (due0 q g).t, (due0 q g).lo, (due0 q g).rows⟩ s (due0 q g).kd) := by
  cases hd : (t.du || g) with
  | true =>
    have z : (due0 q g).h = 0 ∧ (due0 q g).kd = false ∧ (due0 q g).rows = q.rows := by
      unfold due0
      cases g with
      | true => exact ⟨rfl, rfl, rfl⟩
      | false =>
        have := R.due (by simpa using hd)
        exact ⟨this.1, this.2.2.1, rfl⟩
    unfold stepS
    simp only [if_true]
    rw [z.2.1]
    exact line_new (l := ⟨s, t.kp, true⟩) z.1 (z.2.2.trans R.rows)
  | false =>
    obtain ⟨hd1, hg⟩ : t.du = false ∧ g = false := by simpa using hd
    subst hg
    have z : due0 q false = q := rfl
    rw [z]
    obtain ⟨seg, S', hS, hne, hh⟩ := R.not hd1
    have nn := R.nn
    have rr := R.rows
    rw [hS] at nn rr ⊢
    rcases hh with ⟨h1, h2, h3, h4⟩ | ⟨h1, h2, h3, h4, h5, h6⟩
    · rw [h2]
      exact line_ok (l := ⟨s, t.kp, false⟩) (p := ⟨q.h, q.t, q.lo, q.rows⟩) hL nn hne h0 rfl h1 h3 rr
    · have e : stepS L (seg :: S') ⟨s, t.kp, false⟩ = [⟨s, t.kp, false⟩] :: seg :: S' := by
        unfold stepS
        have : ¬ (lastRow seg + s + 1 < L) := by omega
        simp only [Bool.false_eq_true, if_false, this]
        have : (if t.kp = true then cut seg else none) = none := by
          rcases h6 with h6 | h6
          · simp [h6]
          · simp [h6]
        rw [this]
      rw [e, h4]
      exact line_new (l := ⟨s, t.kp, false⟩) (p := ⟨q.h, q.t, q.lo, q.rows⟩) h2 rr
theorem lines_ok {L : Int} (hL : 0 < L) {t : LS} {q : SB} (R : Rel L t q) {s : Int} (h0 : 0 ≤ s) (g : Bool) (c : Nat) : ∀ n : Nat,
    NN (runS L (t.ls ++ blLines c s t.kp (t.du || g) (n + 1))) ∧ Ex (runS L (t.ls ++ blLines c s t.kp (t.du || g) (n + 1))) (runP L c s (due0 q g).kd ⟨(due0 q g).h, (due0 q g).t, (due0 q g).lo, (due0 q g).rows⟩ (n + 1))
  | 0 => by
    have e : blLines c s t.kp (t.du || g) 1 = [⟨s, t.kp, t.du || g⟩] := rfl
    show NN (runS L (t.ls ++ blLines c s t.kp (t.du || g) 1)) ∧ Ex (runS L (t.ls ++ blLines c s t.kp (t.du || g) 1)) _
    rw [e, runS_snoc]
    exact ⟨NN_step R.nn h0, first_ok hL R h0 g⟩
  | n + 1 => by
    obtain ⟨nn, ex⟩ := lines_ok hL R h0 g c n
    rw [blLines_succ, ← List.append_assoc, runS_snoc]
    have e : blLn c s t.kp (t.du || g) (n + 1) = ⟨0, decide (((n + 1 : Nat) : Int) = 1 ∨ ((n + 1 : Nat) : Int) = (c : Int) - 1), false⟩ := by
      unfold blLn
      rw [if_neg (by omega)]
    refine ⟨NN_step nn (by rw [e]; exact Int.le_refl _), ?_⟩
    obtain ⟨seg, S', hS, hne, h1, h2, h3, h4⟩ := ex
    rw [hS] at nn ⊢
    rw [e]
    show Ex _ (lineP L _ (if n + 1 = 0 then s else 0) (if n + 1 = 0 then _ else _))
    rw [if_neg (by omega), if_neg (by omega)]
    exact line_ok (l := ⟨0, decide (((n + 1 : Nat) : Int) = 1 ∨ ((n + 1 : Nat) : Int) = (c : Int) - 1), false⟩) hL nn hne (Int.le_refl _) rfl h1 (fun _ => ⟨h2, h3⟩) (by rw [h4, hS])
theorem tail0 {s : List Ln} (hn : ∀ l ∈ s, 0 ≤ l.sp) (h : tailOf s = 0) : cut s = none := by
  unfold tailOf at h
  cases hc : cut s with
  | none => rfl
  | some ab =>
    obtain ⟨a, b⟩ := ab
    rw [hc] at h
    obtain ⟨e, _, _⟩ := cut_spec hc
    have : 0 ≤ lastRow b := lastRow_nonneg fun y hy => hn y (by rw [e]; exact List.mem_append_right _ hy)
    dsimp only at h
    omega
theorem rel_step {L : Int} (hL : 0 < L) {t : LS} {q : SB} (R : Rel L t q) {b : Bl} (h0 : 0 ≤ b.s) : Rel L (stepB t b) (blockP L q b) := by
  unfold blockP stepB
  by_cases hc : b.c = 0
  · have e : blLines b.c b.s t.kp (t.du || b.g) b.c = [] := by rw [hc]; rfl
    rw [e]
    simp only [hc, if_true, List.append_nil]
    unfold due0
    cases hg : b.g with
    | true =>
      simp only [if_true, Bool.or_true]
      exact ⟨R.rows, R.nn, fun _ => ⟨rfl, rfl, rfl, rfl⟩, fun h => by cases h⟩
    | false =>
      simp only [Bool.false_eq_true, if_false, Bool.or_false]
      exact ⟨R.rows, R.nn, R.due, R.not⟩
  · simp only [hc, if_false]
    obtain ⟨n, hn⟩ : ∃ n, b.c = n + 1 := ⟨b.c - 1, by omega⟩
    have key := lines_ok hL R h0 b.g b.c n
    rw [← hn] at key
    obtain ⟨nn, ex⟩ := key
    revert ex
    generalize runP L b.c b.s (due0 q b.g).kd ⟨(due0 q b.g).h, (due0 q b.g).t, (due0 q b.g).lo, (due0 q b.g).rows⟩ b.c = p
    intro ex
    obtain ⟨seg, S', hS, hne, h1, h2, h3, h4⟩ := ex
    have hsn : ∀ l ∈ seg, 0 ≤ l.sp := fun l hl => nn seg (by rw [hS]; exact List.mem_cons_self) l hl
    unfold endP
    split
    · rename_i hh
      refine ⟨h4, nn, fun h => (by cases h), fun _ => ⟨seg, S', hS, hne, .inr ⟨by omega, rfl, rfl, rfl, rfl, ?_⟩⟩⟩
      rcases hh.2 with z | z
      · exact .inl z
      · exact .inr (tail0 hsn (h2 ▸ z))
    · split
      · rename_i hh hk
        refine ⟨h4, nn, fun h => (by cases h), fun _ => ⟨seg, S', hS, hne, .inl ⟨h1, hk.symm, fun _ => ⟨h2, ?_⟩, fun z => ?_⟩⟩⟩
        · show (if p.t = 0 then (0 : Int) else p.lo) = _
          split
          · rename_i hz
            unfold looseOf
            rw [tail0 hsn (h2 ▸ hz)]
          · exact h3
        · exact absurd (hk.symm.trans z) (by decide)
      · rename_i hh hk
        have hk' : b.k = false := by simpa using hk
        refine ⟨h4, nn, fun h => (by cases h), fun _ => ⟨seg, S', hS, hne, .inl ⟨h1, hk'.symm, fun z => ?_, fun _ => ⟨rfl, rfl⟩⟩⟩⟩
        exact absurd z hk
def pageOf (L : Int) (bs : List Bl) : SB := bs.foldl (blockP L) ⟨false, 0, 0, 0, []⟩
theorem pageOf_snoc (L : Int) (bs : List Bl) (b : Bl) : pageOf L (bs ++ [b]) = blockP L (pageOf L bs) b := by
  unfold pageOf
  rw [List.foldl_append]
  rfl
theorem pageOf_rel {L : Int} (hL : 0 < L) (bs : List Bl) (h : ∀ b ∈ bs, 0 ≤ b.s) : Rel L (linesOf bs) (pageOf L bs) := by
  unfold linesOf pageOf
  have key : ∀ (bs : List Bl) (t : LS) (q : SB), (∀ b ∈ bs, 0 ≤ b.s) → Rel L t q → Rel L (bs.foldl stepB t) (bs.foldl (blockP L) q) := by
    intro bs
    induction bs with
    | nil => intro t q _ R; exact R
    | cons b bs ih => intro t q h R; exact ih _ _ (fun b' hb => h b' (List.mem_cons_of_mem _ hb)) (rel_step hL R (h b List.mem_cons_self))
  exact key bs _ _ h (rel0 L)
/-- both ways tell the same rows -/
theorem rows_same {L : Int} (hL : 0 < L) (bs : List Bl) (h : ∀ b ∈ bs, 0 ≤ b.s) : (pageOf L bs).rows = rowsOf (runS L (linesOf bs).ls) := (pageOf_rel hL bs h).rows
/-! ### each page is broken for a reason -/
def ln (ls : List Ln) (i : Nat) : Ln := (ls[i]?).getD ⟨0, false, false⟩
def allBr (ls : List Ln) (lo hi : Nat) : Bool := (List.range' lo (hi - lo)).all fun k => (ln ls k).br
def rsGo (L : Int) (ls : List Ln) (start stop : Nat) : Nat → Nat → Int → Bool
  | 0, _, _ => false
  | n + 1, i, row =>
    let r := row + (ln ls i).sp + 1
    if stop < i ∧ (ln ls i).du = true then false
    else if L ≤ r ∧ stop < i then (!(ln ls stop).br && allBr ls (stop + 1) (i + 1))
    else if L ≤ r then (decide (i = stop) && (!(ln ls i).br || allBr ls (start + 1) (i + 1)))
    else rsGo L ls start stop n (i + 1) r
def reasonB (L : Int) (ls : List Ln) (start stop : Nat) : Bool := if (ln ls stop).du = true then true else rsGo L ls start stop (ls.length - (start + 1)) (start + 1) 0
theorem ln_at (p : List Ln) (x : Ln) (q : List Ln) : ln (p ++ x :: q) p.length = x := by
  unfold ln
  simp
theorem allBr_of {ls p a q : List Ln} (e : ls = p ++ a ++ q) (h : ∀ y ∈ a, y.br = true) : allBr ls p.length (p.length + a.length) = true := by
  unfold allBr
  rw [List.all_eq_true]
  intro k hk
  rw [List.mem_range'_1] at hk
  have h1 : k - p.length < a.length := by omega
  have : ls[k]? = some a[k - p.length] := by
    rw [e, List.append_assoc, List.getElem?_append_right (by omega), List.getElem?_append_left h1, List.getElem?_eq_getElem h1]
  unfold ln
  rw [this]
  exact h _ (List.getElem_mem h1)
theorem rs_run {L : Int} {ls : List Ln} {start stop : Nat} : ∀ (xs p q : List Ln) (n : Nat) (row : Int), ls = p ++ xs ++ q → (∀ y ∈ xs, 0 ≤ y.sp) → row + adv xs < L → (p.length + xs.length ≤ stop + 1 ∨ ∀ y ∈ xs, y.du = false) →
    rsGo L ls start stop (xs.length + n) p.length row = rsGo L ls start stop n (p.length + xs.length) (row + adv xs)
  | [], p, q, n, row, _, _, _, _ => by simp [adv]
  | x :: xs, p, q, n, row, e, h0, hf, hd => by
    have e1 : ls = p ++ x :: (xs ++ q) := by rw [e]; simp
    have hx : ln ls p.length = x := by rw [e1]; exact ln_at _ _ _
    have hn := adv_nonneg (a := xs) fun y hy => h0 y (List.mem_cons_of_mem _ hy)
    rw [adv] at hf
    have e2 : (x :: xs).length + n = (xs.length + n) + 1 := by rw [List.length_cons]; omega
    rw [e2, rsGo]
    simp only [hx]
    have c1 : ¬ (stop < p.length ∧ x.du = true) := by
      rintro ⟨a, b⟩
      rcases hd with hd | hd
      · rw [List.length_cons] at hd; omega
      · rw [hd x List.mem_cons_self] at b; cases b
    have c2 : ¬ (L ≤ row + x.sp + 1 ∧ stop < p.length) := by omega
    have c3 : ¬ (L ≤ row + x.sp + 1) := by omega
    rw [if_neg c1, if_neg c2, if_neg c3]
    have ih := rs_run (L := L) (ls := ls) (start := start) (stop := stop) xs (p ++ [x]) q n (row + x.sp + 1) (by rw [e]; simp) (fun y hy => h0 y (List.mem_cons_of_mem _ hy)) (by omega) (by
      rcases hd with hd | hd
      · exact .inl (by simp at hd ⊢; omega)
      · exact .inr fun y hy => hd y (List.mem_cons_of_mem _ hy))
    rw [List.length_append, List.length_singleton] at ih
    rw [ih, adv, List.length_cons]
    congr 1 <;> omega
def OkSeg (L : Int) (s : List Ln) : Prop := s ≠ [] ∧ lastRow s < L ∧ ∀ y ∈ s.tail, y.du = false
def J (L : Int) (s rest : List Ln) : Prop := match rest with
  | [] => False
  | h :: t => h.du = true ∨ (L ≤ lastRow s + h.sp + 1 ∧ (h.br = false ∨ ∀ y ∈ s.tail, y.br = true)) ∨
    (h.br = false ∧ ∃ m f u, t = m ++ f :: u ∧ (∀ y ∈ m, y.br = true ∧ y.du = false) ∧ f.br = true ∧ f.du = false ∧ lastRow s + h.sp + 1 + adv m < L ∧ L ≤ lastRow s + h.sp + 1 + adv m + f.sp + 1)
theorem J_snoc {L : Int} {s rest : List Ln} (l : Ln) (h : J L s rest) : J L s (rest ++ [l]) := by
  cases rest with
  | nil => exact h.elim
  | cons x t =>
    rcases h with h | h | ⟨h1, m, f, u, h2, h3⟩
    · exact .inl h
    · exact .inr (.inl h)
    · exact .inr (.inr ⟨h1, m, f, u ++ [l], by rw [h2]; simp, h3⟩)
theorem reason_J {L : Int} {ls pre s rest : List Ln} (e : ls = pre ++ s ++ rest) (hs : OkSeg L s) (h0 : ∀ y ∈ ls, 0 ≤ y.sp) (hj : J L s rest) : reasonB L ls pre.length (pre.length + s.length) = true := by
  obtain ⟨hne, hlt, hdu⟩ := hs
  cases s with
  | nil => exact absurd rfl hne
  | cons x s =>
  cases rest with
  | nil => exact hj.elim
  | cons h t =>
  have hst : ln ls (pre.length + (x :: s).length) = h := by
    rw [e, ← List.length_append]; exact ln_at _ _ _
  unfold reasonB
  rw [hst]
  by_cases hd : h.du = true
  · rw [if_pos hd]
  rw [if_neg hd]
  have hs0 : ∀ y ∈ s, 0 ≤ y.sp := fun y hy => h0 y (by rw [e]; simp [hy])
  have hl : ls.length - (pre.length + 1) = s.length + (1 + t.length) := by rw [e]; simp; omega
  have e1 : ls = (pre ++ [x]) ++ s ++ (h :: t) := by rw [e]; simp
  have lp : pre.length + 1 = (pre ++ [x]).length := by simp
  have hlt' : adv s < L := hlt
  rw [hl, lp, rs_run s (pre ++ [x]) (h :: t) (1 + t.length) 0 e1 hs0 (by omega) (.inl (by simp; omega))]
  have e3 : (pre ++ [x]).length + s.length = pre.length + (x :: s).length := by simp; omega
  rw [e3, Nat.add_comm 1 t.length, rsGo]
  simp only [hst]
  rcases hj with hj | ⟨hj1, hj2⟩ | ⟨hj1, m, f, u, hj2, hj3, hj4, hj5, hj6, hj7⟩
  · exact absurd hj hd
  · have hj1 : L ≤ adv s + h.sp + 1 := hj1
    have hlt2 : ¬ (pre.length + (x :: s).length < pre.length + (x :: s).length) := Nat.lt_irrefl _
    have c3 : L ≤ 0 + adv s + h.sp + 1 := by omega
    rw [if_neg (fun q => hlt2 q.1), if_neg (fun q => hlt2 q.2), if_pos c3]
    simp only [decide_true, Bool.true_and, Bool.or_eq_true, Bool.not_eq_true']
    rcases hj2 with hj2 | hj2
    · exact .inl hj2
    · cases hb : h.br with
      | false => exact .inl rfl
      | true =>
        refine .inr ?_
        have e4 : ls = (pre ++ [x]) ++ (s ++ [h]) ++ t := by rw [e]; simp
        have := allBr_of e4 (fun y hy => by
          rcases List.mem_append.mp hy with z | z
          · exact hj2 y z
          · rw [List.mem_singleton.mp z]; exact hb)
        have e5 : (pre ++ [x]).length + (s ++ [h]).length = pre.length + (x :: s).length + 1 := by simp; omega
        rw [e5] at this
        rw [lp]
        exact this
  · have hj6 : adv s + h.sp + 1 + adv m < L := hj6
    have hj7 : L ≤ adv s + h.sp + 1 + adv m + f.sp + 1 := hj7
    have hm0 : ∀ y ∈ m, 0 ≤ y.sp := fun y hy => h0 y (by rw [e, hj2]; simp [hy])
    have hmn := adv_nonneg hm0
    have hlt2 : ¬ (pre.length + (x :: s).length < pre.length + (x :: s).length) := Nat.lt_irrefl _
    have c3 : ¬ (L ≤ 0 + adv s + h.sp + 1) := by omega
    rw [if_neg (fun q => hlt2 q.1), if_neg (fun q => hlt2 q.2), if_neg c3]
    have e6 : ls = (pre ++ x :: s ++ [h]) ++ m ++ (f :: u) := by rw [e, hj2]; simp
    have e7 : pre.length + (x :: s).length + 1 = (pre ++ x :: s ++ [h]).length := by simp; omega
    have e8 : t.length = m.length + (u.length + 1) := by rw [hj2]; simp
    rw [e7, e8, rs_run m _ (f :: u) (u.length + 1) _ e6 hm0 (by omega) (.inr fun y hy => (hj3 y hy).2)]
    have hf : ln ls ((pre ++ x :: s ++ [h]).length + m.length) = f := by
      rw [← List.length_append, e6]; exact ln_at _ _ _
    rw [rsGo]
    simp only [hf]
    have c4 : ¬ (pre.length + (x :: s).length < (pre ++ x :: s ++ [h]).length + m.length ∧ f.du = true) := fun q => by rw [hj5] at q; exact Bool.noConfusion q.2
    have c5 : L ≤ 0 + adv s + h.sp + 1 + adv m + f.sp + 1 ∧ pre.length + (x :: s).length < (pre ++ x :: s ++ [h]).length + m.length := ⟨by omega, by simp; omega⟩
    rw [if_neg c4, if_pos c5, hst, hj1]
    simp only [Bool.not_false, Bool.true_and]
    have e9 : ls = (pre ++ x :: s ++ [h]) ++ (m ++ [f]) ++ u := by rw [e6]; simp
    have := allBr_of e9 (fun y hy => by
      rcases List.mem_append.mp hy with z | z
      · exact (hj3 y z).1
      · rw [List.mem_singleton.mp z]; exact hj4)
    rw [List.length_append (as := m), List.length_singleton] at this
    rw [e7]
    exact this
def Just (L : Int) : List (List Ln) → List Ln → Prop
  | [], _ => True
  | s :: S, rest => OkSeg L s ∧ J L s rest ∧ Just L S (s ++ rest)
theorem Just_snoc {L : Int} {l : Ln} : ∀ {S : List (List Ln)} {rest : List Ln}, Just L S rest → Just L S (rest ++ [l])
  | [], _, _ => trivial
  | s :: S, rest, ⟨h1, h2, h3⟩ => ⟨h1, J_snoc l h2, by rw [← List.append_assoc]; exact Just_snoc h3⟩
def VS (L : Int) (S : List (List Ln)) : Prop := match S with
  | [] => True
  | s :: S' => OkSeg L s ∧ Just L S' s
theorem ok_one {L : Int} (hL : 0 < L) (l : Ln) : OkSeg L [l] := ⟨by simp, hL, fun y hy => by cases hy⟩
theorem VS_step {L : Int} (hL : 0 < L) {S : List (List Ln)} {l : Ln} (hn : NN S) (h0 : 0 ≤ l.sp) (hv : VS L S) (hd : S = [] → l.du = true) : VS L (stepS L S l) := by
  unfold stepS
  split
  · rename_i hdu
    cases S with
    | nil => exact ⟨ok_one hL l, trivial⟩
    | cons s S' => exact ⟨ok_one hL l, hv.1, .inl hdu, Just_snoc hv.2⟩
  · rename_i hdu
    have hdu' : l.du = false := by simpa using hdu
    cases S with
    | nil => exact absurd (hd rfl) hdu
    | cons s S' =>
      obtain ⟨⟨v1, v2, v3⟩, v4⟩ := hv
      dsimp only
      have hnn := hn s List.mem_cons_self
      split
      · rename_i hf
        refine ⟨⟨by simp, by rw [lastRow_snoc v1]; exact hf, fun y hy => ?_⟩, Just_snoc v4⟩
        cases s with
        | nil => exact absurd rfl v1
        | cons x s =>
          rcases List.mem_append.mp hy with z | z
          · exact v3 y z
          · rw [List.mem_singleton.mp z]; exact hdu'
      · rename_i hf
        cases hc : (if l.br = true then cut s else none) with
        | none =>
          refine ⟨ok_one hL l, ⟨v1, v2, v3⟩, .inr (.inl ⟨by omega, ?_⟩), Just_snoc v4⟩
          cases hb : l.br with
          | false => exact .inl rfl
          | true =>
            rw [hb, if_pos rfl] at hc
            exact .inr (cut_none hc)
        | some ab =>
          obtain ⟨a, b⟩ := ab
          have hb : l.br = true ∧ cut s = some (a, b) := by
            split at hc
            · rename_i z; exact ⟨z, hc⟩
            · cases hc
          obtain ⟨hb, hc'⟩ := hb
          obtain ⟨e, ha, x, b', eb, hx, hall⟩ := cut_spec hc'
          have hbn : b ≠ [] := by rw [eb]; simp
          have hsub : ∀ y ∈ b, y ∈ s.tail := fun y hy => by
            rw [e]
            cases a with
            | nil => exact absurd rfl ha
            | cons z a => exact List.mem_append_right _ hy
          have hlr : lastRow s = lastRow a + x.sp + 1 + lastRow b := by rw [e, eb]; exact lastRow_append ha x b'
          have hx0 : 0 ≤ x.sp := hnn x (by rw [e, eb]; simp)
          have hb0 : 0 ≤ lastRow b := lastRow_nonneg fun y hy => hnn y (by rw [e]; exact List.mem_append_right _ hy)
          have ha0 : 0 ≤ lastRow a := lastRow_nonneg fun y hy => hnn y (by rw [e]; exact List.mem_append_left _ hy)
          have oka : OkSeg L a := ⟨ha, by omega, fun y hy => v3 y (by
            rw [e]
            cases a with
            | nil => exact absurd rfl ha
            | cons z a => exact List.mem_append_left _ hy)⟩
          have okb : OkSeg L b := ⟨hbn, by omega, fun y hy => v3 y (hsub y (List.mem_of_mem_tail hy))⟩
          have ja : J L a (b ++ [l]) := by
            rw [eb]
            refine .inr (.inr ⟨hx, b', l, [], rfl, fun y hy => ⟨hall y hy, v3 y (hsub y (by rw [eb]; exact List.mem_cons_of_mem _ hy))⟩, hb, hdu', ?_, ?_⟩)
            · have : lastRow b = adv b' := by rw [eb]; rfl
              omega
            · have : lastRow b = adv b' := by rw [eb]; rfl
              omega
          have js : Just L S' (a ++ (b ++ [l])) := by
            rw [← List.append_assoc, ← e]; exact Just_snoc v4
          dsimp only
          split
          · rename_i hf2
            refine ⟨⟨by simp, by rw [lastRow_snoc hbn]; exact hf2, fun y hy => ?_⟩, oka, ja, js⟩
            rw [eb] at hy
            rcases List.mem_append.mp hy with z | z
            · exact okb.2.2 y (by rw [eb]; exact z)
            · rw [List.mem_singleton.mp z]; exact hdu'
          · rename_i hf2
            refine ⟨ok_one hL l, okb, .inr (.inl ⟨by omega, .inr ?_⟩), oka, ja, js⟩
            rw [eb]; exact hall
theorem step_flat (L : Int) (S : List (List Ln)) (l : Ln) : (stepS L S l).reverse.flatten = S.reverse.flatten ++ [l] := by
  unfold stepS
  split
  · simp
  · cases S with
    | nil => simp
    | cons s S' =>
      dsimp only
      split
      · simp
      · cases hc : (if l.br = true then cut s else none) with
        | none => simp
        | some ab =>
          obtain ⟨a, b⟩ := ab
          have hc' : cut s = some (a, b) := by
            split at hc
            · exact hc
            · cases hc
          obtain ⟨e, _, _⟩ := cut_spec hc'
          dsimp only
          split <;> simp [e]
theorem run_ok {L : Int} (hL : 0 < L) : ∀ (ls : List Ln), (∀ l ∈ ls, 0 ≤ l.sp) → (∀ l, ls.head? = some l → l.du = true) → NN (runS L ls) ∧ VS L (runS L ls) ∧ (runS L ls).reverse.flatten = ls := by
  intro ls
  rw [← List.reverse_reverse ls]
  generalize ls.reverse = r
  induction r with
  | nil => intro _ _; exact ⟨(fun _ h => by cases h), trivial, rfl⟩
  | cons l r ih =>
    intro h1 h2
    rw [List.reverse_cons] at h1 h2 ⊢
    obtain ⟨i1, i2, i3⟩ := ih (fun y hy => h1 y (List.mem_append_left _ hy)) (fun y hy => h2 y (by
      rw [List.head?_append, hy]; rfl))
    rw [runS_snoc]
    have h0 : 0 ≤ l.sp := h1 l (by simp)
    refine ⟨NN_step i1 h0, VS_step hL i1 h0 i2 (fun e => ?_), by rw [step_flat, i3]⟩
    rw [e] at i3
    have : r.reverse = [] := i3.symm
    exact h2 l (by rw [this]; rfl)
/-! the rows that are told -/
def startB (R : List Int) : Nat → Nat
  | 0 => 0
  | k + 1 => if (R[k]?).getD 1 = 0 then k else startB R k
structure OkAt (L : Int) (ls : List Ln) (R : List Int) (i : Nat) : Prop where
  lt : (R[i]?).getD 0 < L
  first : (R[i]?).getD 0 = 0 → i = 0 ∨ reasonB L ls (startB R i) i = true
  other : (R[i]?).getD 0 ≠ 0 → i ≠ 0 ∧ (ln ls i).du = false ∧ (R[i]?).getD 0 = (R[i - 1]?).getD 0 + (ln ls i).sp + 1
def FJ (L : Int) : List (List Ln) → Prop
  | [] => True
  | s :: T => OkSeg L s ∧ (T ≠ [] → J L s T.flatten) ∧ FJ L T
theorem FJ_of {L : Int} : ∀ (S T : List (List Ln)), Just L S T.flatten → FJ L T → T ≠ [] → FJ L (S.reverse ++ T)
  | [], T, _, h, _ => h
  | s :: S, T, ⟨h1, h2, h3⟩, h, hne => by
    rw [List.reverse_cons, List.append_assoc]
    exact FJ_of S (s :: T) h3 ⟨h1, fun _ => h2, h⟩ (by simp)
theorem FJ_VS {L : Int} {S : List (List Ln)} (h : VS L S) : FJ L S.reverse := by
  cases S with
  | nil => trivial
  | cons s S' =>
    rw [List.reverse_cons]
    exact FJ_of S' [s] (by simpa using h.2) ⟨h.1, fun q => absurd rfl q, trivial⟩ (by simp)
def rw1 (s : List Ln) : List Int := (pgOf s).map (·.1)
theorem rw1_len (s : List Ln) : (rw1 s).length = s.length := by unfold rw1; rw [List.length_map, pgOf_len]
theorem rw1_at {s a b : List Ln} {x : Ln} (e : s = a ++ x :: b) (h0 : ∀ y ∈ s, 0 ≤ y.sp) : (a = [] → (rw1 s)[0]? = some 0) ∧ (a ≠ [] → (rw1 s)[a.length]? = some (lastRow a + x.sp + 1) ∧ (rw1 s)[a.length - 1]? = some (lastRow a) ∧ 0 < lastRow a + x.sp + 1 ∧ lastRow a + x.sp + 1 ≤ lastRow s) := by
  subst e
  refine ⟨fun h => by subst h; rfl, fun h => ?_⟩
  have e1 : rw1 (a ++ x :: b) = rw1 a ++ (rw1 (x :: b)).map (· + (lastRow a + x.sp + 1)) := by
    unfold rw1
    rw [pgOf_parted h]
    simp [List.map_map, Function.comp_def]
  have hl : 0 < a.length := List.length_pos_iff.mpr h
  refine ⟨?_, ?_, ?_, ?_⟩
  · rw [e1, List.getElem?_append_right (by rw [rw1_len]; exact Nat.le_refl _), rw1_len, Nat.sub_self]
    show some (0 + (lastRow a + x.sp + 1)) = _
    rw [Int.zero_add]
  · rw [e1, List.getElem?_append_left (by rw [rw1_len]; omega)]
    obtain ⟨b', hb'⟩ := pgOf_last h
    rw [List.getLast?_eq_getElem?, pgOf_len] at hb'
    unfold rw1
    rw [List.getElem?_map, hb']
    rfl
  · have := lastRow_nonneg (s := a) fun y hy => h0 y (List.mem_append_left _ hy)
    have := h0 x (by simp)
    omega
  · rw [lastRow_append h]
    have := lastRow_nonneg (s := x :: b) fun y hy => h0 y (List.mem_append_right _ hy)
    omega
theorem startB_seg {R A B : List Int} {s : List Ln} (e : R = A ++ rw1 s ++ B) (h0 : ∀ y ∈ s, 0 ≤ y.sp) : ∀ j, 1 ≤ j → j ≤ s.length → startB R (A.length + j) = A.length
  | 0, h, _ => by omega
  | j + 1, _, hj => by
    show (if (R[A.length + j]?).getD 1 = 0 then A.length + j else startB R (A.length + j)) = A.length
    have hR : R[A.length + j]? = (rw1 s)[j]? := by
      rw [e, List.append_assoc, List.getElem?_append_right (by omega), List.getElem?_append_left (by rw [rw1_len]; omega)]
      congr 1
      omega
    rw [hR]
    by_cases hj0 : j = 0
    · subst hj0
      cases s with
      | nil => simp at hj
      | cons x s => simp [rw1, pgOf]
    · have hlt : j < s.length := by omega
      have e2 : s = s.take j ++ s[j] :: s.drop (j + 1) := by
        rw [List.getElem_cons_drop, List.take_append_drop]
      have hl : (s.take j).length = j := by rw [List.length_take]; omega
      obtain ⟨q1, q2, q3, q4⟩ := (rw1_at e2 h0).2 (fun q => by rw [q] at hl; simp at hl; omega)
      rw [hl] at q1
      rw [q1, if_neg (by simp; omega)]
      exact startB_seg e h0 j (by omega) (by omega)
theorem right_go {L : Int} {ls : List Ln} {R : List Int} (h0 : ∀ y ∈ ls, 0 ≤ y.sp) : ∀ (T : List (List Ln)) (pre : List Ln) (A : List Int), A.length = pre.length → ls = pre ++ T.flatten → R = A ++ (T.map rw1).flatten → FJ L T →
    (T ≠ [] → pre = [] ∨ reasonB L ls (startB R pre.length) pre.length = true) → ∀ i, pre.length ≤ i → i < ls.length → OkAt L ls R i
  | [], pre, A, _, el, _, _, _, i, h1, h2 => by
    rw [el] at h2
    simp at h2
    omega
  | s :: T, pre, A, hA, el, eR, ⟨hs, hj, hT⟩, hp, i, h1, h2 => by
    have el2 : ls = pre ++ s ++ T.flatten := by rw [el]; simp
    have eR2 : R = A ++ rw1 s ++ (T.map rw1).flatten := by rw [eR]; simp
    have hs0 : ∀ y ∈ s, 0 ≤ y.sp := fun y hy => h0 y (by rw [el2]; simp [hy])
    by_cases hi : i < pre.length + s.length
    · obtain ⟨j, rfl⟩ : ∃ j, i = pre.length + j := ⟨i - pre.length, by omega⟩
      have hj' : j < s.length := by omega
      have e2 : s = s.take j ++ s[j] :: s.drop (j + 1) := by
        rw [List.getElem_cons_drop, List.take_append_drop]
      have hl : (s.take j).length = j := by rw [List.length_take]; omega
      have hRj : ∀ k, k < s.length → R[pre.length + k]? = (rw1 s)[k]? := fun k hk => by
        rw [eR2, ← hA, List.append_assoc, List.getElem?_append_right (by omega), List.getElem?_append_left (by rw [rw1_len]; omega)]
        congr 1
        omega
      have hln : ln ls (pre.length + j) = s[j] := by
        unfold ln
        rw [el2, List.append_assoc, List.getElem?_append_right (by omega), List.getElem?_append_left (by omega)]
        have : pre.length + j - pre.length = j := by omega
        rw [this, List.getElem?_eq_getElem hj']
        rfl
      obtain ⟨q0, q1⟩ := rw1_at e2 hs0
      by_cases hj0 : j = 0
      · subst hj0
        have hr : R[pre.length + 0]? = some 0 := (hRj 0 hj').trans (q0 (by simpa using hl))
        have hL0 : (0 : Int) < L := by
          have := lastRow_nonneg hs0
          have := hs.2.1
          omega
        refine ⟨by rw [hr]; exact hL0, fun _ => ?_, fun q => absurd (by rw [hr]; rfl) q⟩
        rcases hp (by simp) with z | z
        · left; rw [z]; rfl
        · right; exact z
      · obtain ⟨q1, q2, q3, q4⟩ := q1 (fun q => by rw [q] at hl; simp at hl; omega)
        rw [hl] at q1 q2
        have hr : R[pre.length + j]? = some (lastRow (s.take j) + s[j].sp + 1) := (hRj j hj').trans q1
        have hr' : R[pre.length + j - 1]? = some (lastRow (s.take j)) := by
          have : pre.length + j - 1 = pre.length + (j - 1) := by omega
          rw [this]
          exact (hRj (j - 1) (by omega)).trans q2
        refine ⟨?_, fun q => ?_, fun _ => ⟨by omega, ?_, ?_⟩⟩
        · rw [hr]
          have := hs.2.1
          simp only [Option.getD_some]
          omega
        · rw [hr] at q
          simp only [Option.getD_some] at q
          omega
        · rw [hln]
          refine hs.2.2 _ ?_
          have : s.tail[j - 1]? = s[j]? := by
            rw [List.getElem?_tail]
            congr 1
            omega
          rw [List.getElem?_eq_getElem hj'] at this
          exact List.mem_of_getElem? this
        · rw [hr, hr', hln]
          rfl
    · refine right_go h0 T (pre ++ s) (A ++ rw1 s) (by rw [List.length_append, List.length_append, hA, rw1_len]) (by rw [el2]) (by rw [eR2]) hT (fun hne => .inr ?_) i (by rw [List.length_append]; omega) h2
      rw [List.length_append]
      have hsl : 1 ≤ s.length := List.length_pos_iff.mpr hs.1
      have := startB_seg eR2 hs0 s.length hsl (Nat.le_refl _)
      rw [hA] at this
      rw [this]
      exact reason_J el2 hs h0 (hj hne)
/-- the first line begins a page, no space is below 0 -/
structure GoodLs (ls : List Ln) : Prop where
  nn : ∀ l ∈ ls, 0 ≤ l.sp
  first : ∀ l, ls.head? = some l → l.du = true
theorem right_ok {L : Int} (hL : 0 < L) {ls : List Ln} (g : GoodLs ls) : (rowsOf (runS L ls)).length = ls.length ∧ ∀ i, i < ls.length → OkAt L ls (rowsOf (runS L ls)) i := by
  obtain ⟨h1, h2, h3⟩ := run_ok hL ls g.nn g.first
  have eR : rowsOf (runS L ls) = ((runS L ls).reverse.map rw1).flatten := by
    unfold rowsOf rw1
    rw [List.map_flatten, List.map_map]
    rfl
  refine ⟨?_, fun i hi => ?_⟩
  · rw [eR]
    conv => rhs; rw [← h3]
    rw [List.length_flatten, List.length_flatten, List.map_map]
    congr 1
    apply List.map_congr_left
    intro s _
    exact rw1_len s
  · exact right_go g.nn (runS L ls).reverse [] [] rfl h3.symm eR (FJ_VS h2) (fun _ => .inl rfl) i (Nat.zero_le _) hi
theorem good_lines (bs : List Bl) (h : ∀ b ∈ bs, 0 ≤ b.s) : GoodLs (linesOf bs).ls ∧ ((linesOf bs).ls = [] → (linesOf bs).du = true) := by
  rw [← List.reverse_reverse bs] at h ⊢
  generalize bs.reverse = r at h
  induction r with
  | nil => exact ⟨⟨(fun _ h => by cases h), (fun _ h => by cases h)⟩, fun _ => rfl⟩
  | cons b r ih =>
    rw [List.reverse_cons] at h ⊢
    obtain ⟨⟨i1, i2⟩, i3⟩ := ih fun y hy => h y (List.mem_append_left _ hy)
    rw [linesOf_snoc]
    have h0 : 0 ≤ b.s := h b (by simp)
    generalize linesOf r.reverse = t at i1 i2 i3
    refine ⟨⟨fun l hl => ?_, fun l hl => ?_⟩, fun e => ?_⟩
    · rcases List.mem_append.mp hl with z | z
      · exact i1 l z
      · unfold blLines at z
        obtain ⟨i, _, hi⟩ := List.mem_map.mp z
        rw [← hi]
        unfold blLn
        split
        · exact h0
        · exact Int.le_refl _
    · have hl : (t.ls ++ blLines b.c b.s t.kp (t.du || b.g) b.c).head? = some l := hl
      rw [List.head?_append] at hl
      cases ht : t.ls with
      | cons x xs =>
        rw [ht] at hl
        exact i2 l (by rw [ht]; exact hl)
      | nil =>
        rw [ht] at hl
        have hl : (blLines b.c b.s t.kp (t.du || b.g) b.c).head? = some l := hl
        unfold blLines at hl
        cases hc : b.c with
        | zero => rw [hc] at hl; cases hl
        | succ n =>
          rw [hc, List.range_succ_eq_map] at hl
          simp only [List.map_cons, List.head?_cons, Option.some.injEq] at hl
          rw [← hl, i3 ht]
          rfl
    · have e : t.ls ++ blLines b.c b.s t.kp (t.du || b.g) b.c = [] := e
      obtain ⟨e1, e2⟩ := List.append_eq_nil_iff.mp e
      have hc : b.c = 0 := by
        unfold blLines at e2
        simpa using e2
      show (if b.c = 0 then (t.du || b.g) else false) = true
      rw [if_pos hc, i3 e1]
      rfl
end Pa
namespace Pa
/-! ### the law's own pages -/
def lastFree (ls : List Ln) (lo hi d : Nat) : Nat := (((List.range' lo (hi - lo)).filter fun k => !(ln ls k).br).getLast?).getD d
def lcGo (L : Int) (ls : List Ln) (start : Nat) : Nat → Nat → Int → Nat
  | 0, _, _ => ls.length
  | n + 1, i, row =>
    let r := row + (ln ls i).sp + 1
    if (ln ls i).du = true then i else if L ≤ r then lastFree ls (start + 1) (i + 1) i else lcGo L ls start n (i + 1) r
def lawCut (L : Int) (ls : List Ln) (start : Nat) : Nat := lcGo L ls start (ls.length - (start + 1)) (start + 1) 0
theorem lc_run {L : Int} {ls : List Ln} {start : Nat} : ∀ (xs p q : List Ln) (n : Nat) (row : Int), ls = p ++ xs ++ q → (∀ y ∈ xs, 0 ≤ y.sp) → row + adv xs < L → (∀ y ∈ xs, y.du = false) →
    lcGo L ls start (xs.length + n) p.length row = lcGo L ls start n (p.length + xs.length) (row + adv xs)
  | [], p, q, n, row, _, _, _, _ => by simp [adv]
  | x :: xs, p, q, n, row, e, h0, hf, hd => by
    have e1 : ls = p ++ x :: (xs ++ q) := by rw [e]; simp
    have hx : ln ls p.length = x := by rw [e1]; exact ln_at _ _ _
    have hn := adv_nonneg (a := xs) fun y hy => h0 y (List.mem_cons_of_mem _ hy)
    rw [adv] at hf
    have e2 : (x :: xs).length + n = (xs.length + n) + 1 := by rw [List.length_cons]; omega
    rw [e2, lcGo]
    simp only [hx]
    have c1 : ¬ (x.du = true) := by rw [hd x List.mem_cons_self]; decide
    have c3 : ¬ (L ≤ row + x.sp + 1) := by omega
    rw [if_neg c1, if_neg c3]
    have ih := lc_run (L := L) (ls := ls) (start := start) xs (p ++ [x]) q n (row + x.sp + 1) (by rw [e]; simp) (fun y hy => h0 y (List.mem_cons_of_mem _ hy)) (by omega) (fun y hy => hd y (List.mem_cons_of_mem _ hy))
    rw [List.length_append, List.length_singleton] at ih
    rw [ih, adv, List.length_cons]
    congr 1 <;> omega
/-- none free among these -/
theorem lastFree_none {ls p a q : List Ln} {d : Nat} (e : ls = p ++ a ++ q) (h : ∀ y ∈ a, y.br = true) : lastFree ls p.length (p.length + a.length) d = d := by
  unfold lastFree
  have : ((List.range' p.length (p.length + a.length - p.length)).filter fun k => !(ln ls k).br) = [] := by
    rw [List.filter_eq_nil_iff]
    intro k hk
    rw [List.mem_range'_1] at hk
    have h1 : k - p.length < a.length := by omega
    have e2 : ls[k]? = some a[k - p.length] := by
      rw [e, List.append_assoc, List.getElem?_append_right (by omega), List.getElem?_append_left h1, List.getElem?_eq_getElem h1]
    unfold ln
    rw [e2]
    have := h _ (List.getElem_mem h1)
    simp [this]
  rw [this]
  rfl
/-- the last free one: x, all behind it barred -/
theorem lastFree_some {ls p a b q : List Ln} {x : Ln} {d : Nat} (e : ls = p ++ a ++ (x :: b) ++ q) (hx : x.br = false) (h : ∀ y ∈ b, y.br = true) :
    lastFree ls p.length (p.length + a.length + (b.length + 1)) d = p.length + a.length := by
  unfold lastFree
  have e1 : p.length + a.length + (b.length + 1) - p.length = (a.length + 1) + b.length := by omega
  rw [e1, ← List.range'_append_1, List.filter_append]
  have hb : ((List.range' (p.length + (a.length + 1)) b.length).filter fun k => !(ln ls k).br) = [] := by
    rw [List.filter_eq_nil_iff]
    intro k hk
    rw [List.mem_range'_1] at hk
    have h1 : k - (p.length + (a.length + 1)) < b.length := by omega
    have e2 : ls[k]? = some b[k - (p.length + (a.length + 1))] := by
      have e3 : ls = (p ++ a ++ [x]) ++ b ++ q := by rw [e]; simp
      have el : (p ++ a ++ [x]).length = p.length + (a.length + 1) := by simp [Nat.add_assoc]
      rw [e3, List.append_assoc, List.getElem?_append_right (by omega), el, List.getElem?_append_left h1, List.getElem?_eq_getElem h1]
    unfold ln
    rw [e2]
    have := h _ (List.getElem_mem h1)
    simp [this]
  rw [hb, List.append_nil, List.range'_concat, List.filter_append]
  have hx2 : ln ls (p.length + a.length) = x := by
    have e3 : ls = (p ++ a) ++ x :: (b ++ q) := by rw [e]; simp
    have el : (p ++ a).length = p.length + a.length := by simp
    rw [← el, e3]
    exact ln_at _ _ _
  have : ([p.length + 1 * a.length].filter fun k => !(ln ls k).br) = [p.length + a.length] := by
    rw [Nat.one_mul, List.filter_cons, hx2, hx]
    rfl
  rw [this, List.getLast?_append]
  rfl
theorem cut_J {L : Int} {ls pre s rest : List Ln} (e : ls = pre ++ s ++ rest) (hs : OkSeg L s) (h0 : ∀ y ∈ ls, 0 ≤ y.sp) (hj : rest ≠ [] → J L s rest) : lawCut L ls pre.length = pre.length + s.length := by
  obtain ⟨hne, hlt, hdu⟩ := hs
  cases s with
  | nil => exact absurd rfl hne
  | cons x s =>
  have hs0 : ∀ y ∈ s, 0 ≤ y.sp := fun y hy => h0 y (by rw [e]; simp [hy])
  have hlt' : adv s < L := hlt
  have lp : pre.length + 1 = (pre ++ [x]).length := by simp
  unfold lawCut
  cases rest with
  | nil =>
    have hl : ls.length - (pre.length + 1) = s.length + 0 := by rw [e]; simp; omega
    have e1 : ls = (pre ++ [x]) ++ s ++ [] := by rw [e]; simp
    rw [hl, lp, lc_run s (pre ++ [x]) [] 0 0 e1 hs0 (by omega) hdu, lcGo, e]
    simp
  | cons h t =>
  have hst : ln ls (pre.length + (x :: s).length) = h := by
    rw [e, ← List.length_append]; exact ln_at _ _ _
  have hl : ls.length - (pre.length + 1) = s.length + (t.length + 1) := by rw [e]; simp; omega
  have e1 : ls = (pre ++ [x]) ++ s ++ (h :: t) := by rw [e]; simp
  have e3 : (pre ++ [x]).length + s.length = pre.length + (x :: s).length := by simp; omega
  rw [hl, lp, lc_run s (pre ++ [x]) (h :: t) (t.length + 1) 0 e1 hs0 (by omega) hdu, e3, lcGo]
  simp only [hst]
  by_cases hd : h.du = true
  · rw [if_pos hd]
  rw [if_neg hd]
  rcases hj (by simp) with hj | ⟨hj1, hj2⟩ | ⟨hj1, m, f, u, hj2, hj3, hj4, hj5, hj6, hj7⟩
  · exact absurd hj hd
  · have hj1 : L ≤ adv s + h.sp + 1 := hj1
    rw [if_pos (by omega)]
    have e4 : pre.length + (x :: s).length + 1 = (pre ++ [x]).length + (s.length + 1) := by simp; omega
    cases hb : h.br with
    | false =>
      have e5 : ls = (pre ++ [x]) ++ s ++ (h :: []) ++ t := by rw [e]; simp
      have := lastFree_some (d := pre.length + (x :: s).length) e5 hb (fun y hy => by cases hy)
      have e6 : pre.length + (x :: s).length + 1 = (pre ++ [x]).length + s.length + (([] : List Ln).length + 1) := by simp; omega
      rw [e6, lp, this, e3]
    | true =>
      have hall : ∀ y ∈ s, y.br = true := by
        rcases hj2 with hj2 | hj2
        · rw [hb] at hj2; cases hj2
        · exact hj2
      have e5 : ls = (pre ++ [x]) ++ (s ++ [h]) ++ t := by rw [e]; simp
      have := lastFree_none (d := pre.length + (x :: s).length) e5 (fun y hy => by
        rcases List.mem_append.mp hy with z | z
        · exact hall y z
        · rw [List.mem_singleton.mp z]; exact hb)
      rw [List.length_append (as := s), List.length_singleton] at this
      rw [e4, lp, this]
  · have hj6 : adv s + h.sp + 1 + adv m < L := hj6
    have hj7 : L ≤ adv s + h.sp + 1 + adv m + f.sp + 1 := hj7
    have hm0 : ∀ y ∈ m, 0 ≤ y.sp := fun y hy => h0 y (by rw [e, hj2]; simp [hy])
    have hmn := adv_nonneg hm0
    rw [if_neg (by omega)]
    have e6 : ls = (pre ++ x :: s ++ [h]) ++ m ++ (f :: u) := by rw [e, hj2]; simp
    have e7 : pre.length + (x :: s).length + 1 = (pre ++ x :: s ++ [h]).length := by simp; omega
    have e8 : t.length = m.length + (u.length + 1) := by rw [hj2]; simp
    rw [e7, e8, lc_run m _ (f :: u) (u.length + 1) _ e6 hm0 (by omega) (fun y hy => (hj3 y hy).2)]
    have hf : ln ls ((pre ++ x :: s ++ [h]).length + m.length) = f := by
      rw [← List.length_append, e6]; exact ln_at _ _ _
    rw [lcGo]
    simp only [hf]
    rw [if_neg (by rw [hj5]; decide), if_pos (by omega)]
    have e9 : ls = (pre ++ [x]) ++ s ++ (h :: (m ++ [f])) ++ u := by rw [e6]; simp
    have := lastFree_some (d := (pre ++ x :: s ++ [h]).length + m.length) e9 hj1 (fun y hy => by
      rcases List.mem_append.mp hy with z | z
      · exact (hj3 y z).1
      · rw [List.mem_singleton.mp z]; exact hj4)
    have e10 : (pre ++ x :: s ++ [h]).length + m.length + 1 = (pre ++ [x]).length + s.length + ((m ++ [f]).length + 1) := by simp; omega
    rw [lp, e10, this, e3]
/-- the next page's first line, from a line on -/
def segEnd : List (List Ln) → Nat → Nat
  | [], _ => 0
  | s :: T, i => if i = 0 then 0 else if i ≤ s.length then s.length else s.length + segEnd T (i - s.length)
theorem segEnd_zero (T : List (List Ln)) : segEnd T 0 = 0 := by cases T <;> rfl
theorem segEnd_big {s : List Ln} {T : List (List Ln)} {i : Nat} (h : s.length ≤ i) (hs : s ≠ []) : segEnd (s :: T) i = s.length + segEnd T (i - s.length) := by
  have hl : 1 ≤ s.length := List.length_pos_iff.mpr hs
  show (if i = 0 then 0 else if i ≤ s.length then s.length else s.length + segEnd T (i - s.length)) = _
  rw [if_neg (by omega)]
  by_cases h2 : i ≤ s.length
  · have : i - s.length = 0 := by omega
    rw [if_pos h2, this, segEnd_zero]
    rfl
  · rw [if_neg h2]
theorem segEnd_mid {s : List Ln} {T : List (List Ln)} {i : Nat} (h0 : i ≠ 0) (h : i ≤ s.length) : segEnd (s :: T) i = s.length := by
  show (if i = 0 then 0 else if i ≤ s.length then s.length else s.length + segEnd T (i - s.length)) = _
  rw [if_neg h0, if_pos h]
def PgAt1 (L : Int) (ls : List Ln) (R : List Int) (E : Nat → Nat) (i : Nat) : Prop :=
  (E i = i ∧ R[i]? = some 0 ∧ lawCut L ls i = E (i + 1)) ∨ (E i ≠ i ∧ i ≠ 0 ∧ E (i + 1) = E i ∧ ∃ r, R[i - 1]? = some r ∧ R[i]? = some (r + (ln ls i).sp + 1) ∧ r + (ln ls i).sp + 1 ≠ 0)
theorem pages_go {L : Int} {ls : List Ln} {R : List Int} (h0 : ∀ y ∈ ls, 0 ≤ y.sp) : ∀ (T : List (List Ln)) (pre : List Ln) (A : List Int), A.length = pre.length → ls = pre ++ T.flatten → R = A ++ (T.map rw1).flatten → FJ L T →
    ∀ j, j < T.flatten.length → PgAt1 L ls R (fun i => pre.length + segEnd T (i - pre.length)) (pre.length + j)
  | [], _, _, _, _, _, _, j, h => by simp at h
  | s :: T, pre, A, hA, el, eR, ⟨hs, hj, hT⟩, j, h1 => by
    have el2 : ls = pre ++ s ++ T.flatten := by rw [el]; simp
    have eR2 : R = A ++ rw1 s ++ (T.map rw1).flatten := by rw [eR]; simp
    have hs0 : ∀ y ∈ s, 0 ≤ y.sp := fun y hy => h0 y (by rw [el2]; simp [hy])
    have hsl : 1 ≤ s.length := List.length_pos_iff.mpr hs.1
    have ej : pre.length + j - pre.length = j := by omega
    have ej1 : pre.length + j + 1 - pre.length = j + 1 := by omega
    by_cases hi : j < s.length
    · have e2 : s = s.take j ++ s[j] :: s.drop (j + 1) := by
        rw [List.getElem_cons_drop, List.take_append_drop]
      have hl : (s.take j).length = j := by rw [List.length_take]; omega
      have hRj : ∀ k, k < s.length → R[pre.length + k]? = (rw1 s)[k]? := fun k hk => by
        rw [eR2, ← hA, List.append_assoc, List.getElem?_append_right (by omega), List.getElem?_append_left (by rw [rw1_len]; omega)]
        congr 1
        omega
      have hln : ln ls (pre.length + j) = s[j] := by
        unfold ln
        rw [el2, List.append_assoc, List.getElem?_append_right (by omega), List.getElem?_append_left (by omega), ej, List.getElem?_eq_getElem hi]
        rfl
      obtain ⟨q0, q1⟩ := rw1_at e2 hs0
      by_cases hj0 : j = 0
      · subst hj0
        refine .inl ⟨?_, (hRj 0 hi).trans (q0 (by simpa using hl)), ?_⟩
        · show pre.length + segEnd (s :: T) (pre.length + 0 - pre.length) = _
          rw [ej, segEnd_zero]
        · show lawCut L ls (pre.length + 0) = pre.length + segEnd (s :: T) (pre.length + 0 + 1 - pre.length)
          rw [ej1, segEnd_mid (by omega) (by omega), Nat.add_zero]
          exact cut_J el2 hs h0 fun hne => hj fun q => hne (by rw [q]; rfl)
      · obtain ⟨q1, q2, q3, q4⟩ := q1 (fun q => by rw [q] at hl; simp at hl; omega)
        rw [hl] at q1 q2
        refine .inr ⟨?_, by omega, ?_, lastRow (s.take j), ?_, ?_, ?_⟩
        · show ¬ pre.length + segEnd (s :: T) (pre.length + j - pre.length) = pre.length + j
          rw [ej, segEnd_mid hj0 (by omega)]
          omega
        · show pre.length + segEnd (s :: T) (pre.length + j + 1 - pre.length) = pre.length + segEnd (s :: T) (pre.length + j - pre.length)
          rw [ej, ej1, segEnd_mid hj0 (by omega), segEnd_mid (by omega) (by omega)]
        · have : pre.length + j - 1 = pre.length + (j - 1) := by omega
          rw [this]
          exact (hRj (j - 1) (by omega)).trans q2
        · rw [hln]; exact (hRj j hi).trans q1
        · rw [hln]; omega
    · have ih := pages_go (L := L) (ls := ls) (R := R) h0 T (pre ++ s) (A ++ rw1 s) (by rw [List.length_append, List.length_append, hA, rw1_len]) (by rw [el2]) (by rw [eR2]) hT (j - s.length) (by
        have : (s :: T).flatten.length = s.length + T.flatten.length := by simp
        omega)
      have e3 : (pre ++ s).length + (j - s.length) = pre.length + j := by rw [List.length_append]; omega
      rw [e3] at ih
      have eE : ∀ i, pre.length + j ≤ i → pre.length + segEnd (s :: T) (i - pre.length) = (pre ++ s).length + segEnd T (i - (pre ++ s).length) := fun i hi2 => by
        rw [segEnd_big (by omega) hs.1, List.length_append]
        have : i - pre.length - s.length = i - (pre.length + s.length) := by omega
        rw [this]
        omega
      unfold PgAt1 at ih ⊢
      simp only [eE _ (Nat.le_refl _), eE _ (Nat.le_succ _)]
      exact ih
theorem law_pages {L : Int} (hL : 0 < L) {ls : List Ln} (g : GoodLs ls) : ∃ E : Nat → Nat, E 0 = 0 ∧ ∀ i, i < ls.length → PgAt1 L ls (rowsOf (runS L ls)) E i := by
  obtain ⟨h1, h2, h3⟩ := run_ok hL ls g.nn g.first
  have eR : rowsOf (runS L ls) = ((runS L ls).reverse.map rw1).flatten := by
    unfold rowsOf rw1
    rw [List.map_flatten, List.map_map]
    rfl
  refine ⟨fun i => segEnd (runS L ls).reverse i, segEnd_zero _, fun i hi => ?_⟩
  have := pages_go g.nn (runS L ls).reverse [] [] rfl h3.symm eR (FJ_VS h2) i (by rw [h3]; exact hi)
  simpa using this
end Pa
namespace Pa
/-! ### the last page -/
def freeL (ls : List Ln) (lo hi : Nat) : List Nat := (List.range' lo (hi - lo)).filter fun k => !(ln ls k).br
theorem lastFree_eq (ls : List Ln) (lo hi d : Nat) : lastFree ls lo hi d = ((freeL ls lo hi).getLast?).getD d := rfl
theorem freeL_none {ls p a q : List Ln} (e : ls = p ++ a ++ q) (h : ∀ y ∈ a, y.br = true) : freeL ls p.length (p.length + a.length) = [] := by
  unfold freeL
  rw [List.filter_eq_nil_iff]
  intro k hk
  rw [List.mem_range'_1] at hk
  have h1 : k - p.length < a.length := by omega
  have e2 : ls[k]? = some a[k - p.length] := by
    rw [e, List.append_assoc, List.getElem?_append_right (by omega), List.getElem?_append_left h1, List.getElem?_eq_getElem h1]
  unfold ln
  rw [e2]
  have := h _ (List.getElem_mem h1)
  simp [this]
theorem freeL_some {ls p a b q : List Ln} {x : Ln} (e : ls = p ++ a ++ (x :: b) ++ q) (hx : x.br = false) (h : ∀ y ∈ b, y.br = true) :
    (freeL ls p.length (p.length + a.length + (b.length + 1))).getLast? = some (p.length + a.length) := by
  have h1 := lastFree_some (d := 0) e hx h
  have h2 := lastFree_some (d := 1) e hx h
  rw [lastFree_eq] at h1 h2
  cases hc : (freeL ls p.length (p.length + a.length + (b.length + 1))).getLast? with
  | none =>
    rw [hc] at h1 h2
    simp only [Option.getD_none] at h1 h2
    omega
  | some z =>
    rw [hc] at h1
    simp only [Option.getD_some] at h1
    rw [h1]
structure LastPg (ls : List Ln) (R : List Int) (seg : List Ln) (f : Nat) : Prop where
  lt : f < ls.length
  len : R.length = ls.length
  zero : R[f]? = some 0
  pos : ∀ k, f < k → R[k]? ≠ some 0
  last : R[ls.length - 1]? = some (lastRow seg)
  none : cut seg = none → freeL ls (f + 1) ls.length = []
  some : ∀ a b, cut seg = some (a, b) → (freeL ls (f + 1) ls.length).getLast? = some (f + a.length) ∧ R[f + a.length]? = some (lastRow seg - lastRow b) ∧ 0 ≤ lastRow b ∧ f + a.length + b.length = ls.length ∧ 1 ≤ a.length ∧ 1 ≤ b.length ∧
    (∀ k, f + a.length ≤ k → ∀ r, R[k]? = some r → lastRow seg - lastRow b ≤ r) ∧ ∃ r, R[f + a.length - 1]? = some r ∧ r < lastRow seg - lastRow b
theorem last_pg {L : Int} {ls : List Ln} (hL : 0 < L) (g : GoodLs ls) {seg : List Ln} {S' : List (List Ln)} (hS : runS L ls = seg :: S') (hne : seg ≠ []) : LastPg ls (rowsOf (runS L ls)) seg S'.reverse.flatten.length := by
  obtain ⟨nn, vs, fl⟩ := run_ok hL ls g.nn g.first
  have hlen := (right_ok hL g).1
  rw [hS] at fl nn ⊢
  rw [hS] at hlen
  rw [List.reverse_cons, List.flatten_append, List.flatten_singleton] at fl
  have hn : ∀ l ∈ seg, 0 ≤ l.sp := nn seg List.mem_cons_self
  have hsl : 1 ≤ seg.length := List.length_pos_iff.mpr hne
  have ell : ls.length = S'.reverse.flatten.length + seg.length := by rw [← fl, List.length_append]
  have eR : rowsOf (seg :: S') = rowsOf S' ++ rw1 seg := rowsOf_cons seg S'
  have hlr : (rowsOf S').length = S'.reverse.flatten.length := by
    have h1 := congrArg List.length eR
    rw [List.length_append, rw1_len, hlen] at h1
    omega
  have hRj : ∀ k, (rowsOf (seg :: S'))[S'.reverse.flatten.length + k]? = (rw1 seg)[k]? := fun k => by
    rw [eR, ← hlr, List.getElem?_append_right (by omega)]
    congr 1
    omega
  have parts : ∀ j, j < seg.length → (j = 0 → (rw1 seg)[j]? = some 0) ∧ (j ≠ 0 → ∃ r, (rw1 seg)[j]? = some r ∧ 0 < r) := fun j hj => by
    have e2 : seg = seg.take j ++ seg[j] :: seg.drop (j + 1) := by rw [List.getElem_cons_drop, List.take_append_drop]
    have hl : (seg.take j).length = j := by rw [List.length_take]; omega
    obtain ⟨q0, q1⟩ := rw1_at e2 hn
    refine ⟨fun h => ?_, fun h => ?_⟩
    · subst h
      exact q0 (by simpa using hl)
    · obtain ⟨u1, _, u3, _⟩ := q1 (fun q => by rw [q] at hl; simp at hl; omega)
      rw [hl] at u1
      exact ⟨_, u1, u3⟩
  refine ⟨by omega, hlen, ?_, fun k hk => ?_, ?_, fun hc => ?_, fun a b hc => ?_⟩
  · have := hRj 0
    rw [Nat.add_zero] at this
    rw [this]
    exact (parts 0 hsl).1 rfl
  · obtain ⟨j, rfl⟩ : ∃ j, k = S'.reverse.flatten.length + j := ⟨k - S'.reverse.flatten.length, by omega⟩
    rw [hRj]
    by_cases hj : j < seg.length
    · obtain ⟨r, h1, h2⟩ := (parts j hj).2 (by omega)
      rw [h1]
      intro q
      cases q
      omega
    · rw [List.getElem?_eq_none (by rw [rw1_len]; omega)]
      intro q
      cases q
  · obtain ⟨b, hb⟩ := pgOf_last hne
    rw [List.getLast?_eq_getElem?, pgOf_len] at hb
    have : ls.length - 1 = S'.reverse.flatten.length + (seg.length - 1) := by omega
    rw [this, hRj]
    unfold rw1
    rw [List.getElem?_map, hb]
    rfl
  · cases seg with
    | nil => exact absurd rfl hne
    | cons x s =>
      have e1 : ls = (S'.reverse.flatten ++ [x]) ++ s ++ [] := by rw [← fl]; simp
      have := freeL_none e1 (cut_none hc)
      rw [List.length_append, List.length_singleton] at this
      rw [ell, List.length_cons]
      have e2 : S'.reverse.flatten.length + (s.length + 1) = S'.reverse.flatten.length + 1 + s.length := by omega
      rw [e2]
      exact this
  · obtain ⟨e, ha, x, b', eb, hx, hall⟩ := cut_spec hc
    have hb0 : 0 ≤ lastRow b := lastRow_nonneg fun y hy => hn y (by rw [e]; exact List.mem_append_right _ hy)
    have hbl : 1 ≤ b.length := by rw [eb]; simp
    have hal : 1 ≤ a.length := List.length_pos_iff.mpr ha
    have esl : seg.length = a.length + b.length := by rw [e, List.length_append]
    have hlr2 : lastRow seg = lastRow a + x.sp + 1 + lastRow b := by rw [e, eb]; exact lastRow_append ha x b'
    have hx0 : 0 ≤ x.sp := hn x (by rw [e, eb]; simp)
    have erw : rw1 seg = rw1 a ++ (rw1 b).map (· + (lastRow a + x.sp + 1)) := by
      rw [e, eb]
      unfold rw1
      rw [pgOf_parted ha]
      simp [List.map_map, Function.comp_def]
    have hRb : ∀ k, (rowsOf (seg :: S'))[S'.reverse.flatten.length + a.length + k]? = ((rw1 b)[k]?).map (· + (lastRow a + x.sp + 1)) := fun k => by
      rw [Nat.add_assoc, hRj, erw, List.getElem?_append_right (by rw [rw1_len]; omega), rw1_len, List.getElem?_map]
      congr 2
      omega
    have hbn : ∀ l ∈ b, 0 ≤ l.sp := fun y hy => hn y (by rw [e]; exact List.mem_append_right _ hy)
    refine ⟨?_, ?_, hb0, by omega, hal, hbl, fun k hk r hr => ?_, ?_⟩
    · cases a with
      | nil => exact absurd rfl ha
      | cons y a =>
        have e1 : ls = (S'.reverse.flatten ++ [y]) ++ a ++ (x :: b') ++ [] := by rw [← fl, e, eb]; simp
        have := freeL_some e1 hx hall
        rw [List.length_append, List.length_singleton] at this
        have e2 : ls.length = S'.reverse.flatten.length + 1 + a.length + (b'.length + 1) := by rw [e1]; simp; omega
        rw [e2, this, List.length_cons]
        congr 1
        omega
    · have := hRb 0
      rw [Nat.add_zero] at this
      rw [this, eb]
      show Option.some (0 + (lastRow a + x.sp + 1)) = _
      rw [← eb]
      congr 1
      omega
    · obtain ⟨j, rfl⟩ : ∃ j, k = S'.reverse.flatten.length + a.length + j := ⟨k - (S'.reverse.flatten.length + a.length), by omega⟩
      rw [hRb] at hr
      obtain ⟨z, hz, rfl⟩ := Option.map_eq_some_iff.mp hr
      have hj : j < b.length := by
        have := (List.getElem?_eq_some_iff.mp hz).1
        rw [rw1_len] at this
        exact this
      have e2 : b = b.take j ++ b[j] :: b.drop (j + 1) := by rw [List.getElem_cons_drop, List.take_append_drop]
      have hl : (b.take j).length = j := by rw [List.length_take]; omega
      obtain ⟨q0, q1⟩ := rw1_at e2 hbn
      by_cases h : j = 0
      · subst h
        rw [q0 (by simpa using hl)] at hz
        cases hz
        omega
      · obtain ⟨u1, _, u3, _⟩ := q1 (fun q => by rw [q] at hl; simp at hl; omega)
        rw [hl, hz] at u1
        cases u1
        omega
    · have : S'.reverse.flatten.length + a.length - 1 = S'.reverse.flatten.length + (a.length - 1) := by omega
      rw [this, hRj, erw, List.getElem?_append_left (by rw [rw1_len]; omega)]
      obtain ⟨bb, hbb⟩ := pgOf_last ha
      rw [List.getLast?_eq_getElem?, pgOf_len] at hbb
      refine ⟨lastRow a, ?_, by omega⟩
      unfold rw1
      rw [List.getElem?_map, hbb]
      rfl
/-! ### the standing, just so -/
def Excl (L : Int) (t : LS) (q : SB) : Prop := t.du = false → q.h ≠ 0 → ∀ seg S', runS L t.ls = seg :: S' → ¬ (lastRow seg + 1 = L ∧ (t.kp = false ∨ cut seg = none))
theorem excl_step {L : Int} (hL : 0 < L) {t : LS} {q : SB} (R : Rel L t q) (X : Excl L t q) {b : Bl} (h0 : 0 ≤ b.s) : Excl L (stepB t b) (blockP L q b) := by
  unfold blockP stepB Excl
  by_cases hc : b.c = 0
  · have e : blLines b.c b.s t.kp (t.du || b.g) b.c = [] := by rw [hc]; rfl
    rw [e]
    simp only [hc, if_true, List.append_nil]
    unfold due0
    cases hg : b.g with
    | true =>
      simp only [if_true, Bool.or_true]
      intro h
      cases h
    | false =>
      simp only [Bool.false_eq_true, if_false, Bool.or_false]
      exact X
  · simp only [hc, if_false]
    obtain ⟨n, hn⟩ : ∃ n, b.c = n + 1 := ⟨b.c - 1, by omega⟩
    have key := lines_ok hL R h0 b.g b.c n
    rw [← hn] at key
    obtain ⟨nn, ex⟩ := key
    revert ex
    generalize runP L b.c b.s (due0 q b.g).kd ⟨(due0 q b.g).h, (due0 q b.g).t, (due0 q b.g).lo, (due0 q b.g).rows⟩ b.c = p
    intro ex _ hh seg S' hS
    obtain ⟨seg2, S2, hS2, hne, h1, h2, h3, h4⟩ := ex
    rw [hS] at hS2
    cases hS2
    unfold endP at hh
    split at hh
    · exact absurd rfl hh
    · rename_i hx
      rintro ⟨z1, z2⟩
      refine hx ⟨by omega, ?_⟩
      rcases z2 with z2 | z2
      · exact .inl z2
      · right
        rw [h2]
        unfold tailOf
        rw [z2]
theorem pageOf_excl {L : Int} (hL : 0 < L) (bs : List Bl) (h : ∀ b ∈ bs, 0 ≤ b.s) : Excl L (linesOf bs) (pageOf L bs) := by
  rw [← List.reverse_reverse bs] at h ⊢
  generalize bs.reverse = r at h
  induction r with
  | nil => intro h; cases h
  | cons b r ih =>
    rw [List.reverse_cons] at h ⊢
    rw [linesOf_snoc, pageOf_snoc]
    exact excl_step hL (pageOf_rel hL _ fun y hy => h y (List.mem_append_left _ hy)) (ih fun y hy => h y (List.mem_append_left _ hy)) (h b (by simp))
/-! ### what is settled stays -/
def preS (rows : List Int) (lo : Int) : List Int := rows.take (rows.length - lo.toNat)
theorem pre_line {L : Int} {p : PS'} {s : Int} {b : Bool} (h0 : 0 ≤ s) (hlo : 0 ≤ p.lo) (hle : p.lo ≤ (p.rows.length : Int)) : (preS (lineP L p s b).rows (lineP L p s b).lo).take (preS p.rows p.lo).length = preS p.rows p.lo := by
  have hn : (lineP L p s b).lo ≤ p.lo + 1 := by
    unfold lineP nextLine lng
    dsimp only
    repeat' split
    all_goals (try (dsimp only at *))
    all_goals (try omega)
  have e1 : (lineP L p s b).rows.take (p.rows.length - p.lo.toNat) = p.rows.take (p.rows.length - p.lo.toNat) := by
    unfold lineP
    dsimp only
    split
    · unfold overR
      rw [List.append_assoc, List.take_append_of_le_length (by rw [List.length_take]; omega), List.take_take]
      congr 1
      omega
    · rw [List.take_append_of_le_length (by omega)]
  have e2 : (lineP L p s b).rows.length = p.rows.length + 1 := by
    unfold lineP
    dsimp only
    rw [List.length_append, List.length_singleton]
    split
    · unfold overR
      rw [List.length_append, List.length_map, List.length_take, List.length_drop]
      omega
    · rfl
  unfold preS
  rw [List.take_take, e2, List.length_take]
  have e3 : min (min (p.rows.length - p.lo.toNat) p.rows.length) (p.rows.length + 1 - (lineP L p s b).lo.toNat) = p.rows.length - p.lo.toNat := by omega
  rw [e3, e1]
end Pa
namespace Pa
/-! ### blocks of one line that leave a given standing -/
def oB (k : Bool) : Bl := ⟨1, 0, k, false⟩
def leadB (kd : Bool) (h t : Nat) : List Bl := if kd = false then List.replicate h (oB false) else if t = 0 then List.replicate h (oB true) else List.replicate (h - t) (oB false) ++ List.replicate t (oB true)
theorem block_one (L : Int) (q : SB) (k : Bool) : blockP L q (oB k) = endP L (lineP L ⟨q.h, q.t, q.lo, q.rows⟩ 0 q.kd) k := rfl
theorem lead_open {L : Int} (n : Nat) (h : (n : Int) < L) : ∃ rows, pageOf L (List.replicate n (oB false)) = ⟨false, n, 0, 0, rows⟩ := by
  induction n with
  | zero => exact ⟨[], rfl⟩
  | succ n ih =>
    obtain ⟨rows, e⟩ := ih (by omega)
    rw [List.replicate_succ', pageOf_snoc, e, block_one]
    unfold lineP nextLine
    dsimp only
    by_cases h0 : n = 0
    · subst h0
      simp only [Int.natCast_zero, Int.lt_irrefl, gt_iff_lt, false_and, if_false, true_or, if_true]
      unfold endP
      rw [if_neg (by dsimp only; omega)]
      exact ⟨_, rfl⟩
    · rw [if_pos ⟨by omega, by omega⟩]
      simp only [if_true]
      unfold endP
      rw [if_neg (by dsimp only; omega)]
      refine ⟨(if false = true then overR rows 0 ((n : Int) - 0) else rows) ++ [(n : Int) + 0 + 1 - 1], ?_⟩
      simp
theorem lead_kept0 {L : Int} (n : Nat) (h : (n : Int) < L) (hn : 1 ≤ n) : ∃ rows, pageOf L (List.replicate n (oB true)) = ⟨true, n, 0, 0, rows⟩ := by
  induction n with
  | zero => omega
  | succ n ih =>
    by_cases h0 : n = 0
    · subst h0
      refine ⟨[0], ?_⟩
      show blockP L ⟨false, 0, 0, 0, []⟩ (oB true) = _
      rw [block_one]
      unfold lineP nextLine
      dsimp only
      simp only [Int.lt_irrefl, gt_iff_lt, false_and, if_false, true_or, if_true]
      unfold endP
      rw [if_neg (by dsimp only; omega)]
      rfl
    · obtain ⟨rows, e⟩ := ih (by omega) (by omega)
      rw [List.replicate_succ', pageOf_snoc, e, block_one]
      unfold lineP nextLine lng
      dsimp only
      rw [if_pos ⟨by omega, by omega⟩]
      simp only [Bool.true_eq_false, if_false, Int.lt_irrefl, gt_iff_lt]
      unfold endP
      rw [if_neg (by dsimp only; omega)]
      refine ⟨rows ++ [(n : Int) + 0 + 1 - 1], ?_⟩
      simp
theorem pageOf_app (L : Int) (a b : List Bl) : pageOf L (a ++ b) = b.foldl (blockP L) (pageOf L a) := by
  unfold pageOf
  rw [List.foldl_append]
theorem lead_kept {L : Int} (m t : Nat) (hm : 1 ≤ m) (h : ((m + t : Nat) : Int) ≤ L) (ht : 1 ≤ t) : ∃ rows, pageOf L (List.replicate m (oB false) ++ List.replicate t (oB true)) = ⟨true, ((m + t : Nat) : Int), t, t, rows⟩ := by
  obtain ⟨r0, e0⟩ := lead_open (L := L) m (by omega)
  induction t with
  | zero => omega
  | succ t ih =>
    rw [List.replicate_succ', ← List.append_assoc, pageOf_snoc, block_one]
    by_cases h0 : t = 0
    · subst h0
      rw [List.replicate_zero, List.append_nil, e0]
      unfold lineP nextLine
      dsimp only
      rw [if_pos ⟨by omega, by omega⟩]
      simp only [if_true]
      unfold endP
      rw [if_neg (by dsimp only; simp)]
      refine ⟨r0 ++ [(m : Int) + 0 + 1 - 1], ?_⟩
      simp
    · obtain ⟨rows, e⟩ := ih (by omega) (by omega)
      rw [e]
      unfold lineP nextLine lng
      dsimp only
      rw [if_pos ⟨by omega, by omega⟩]
      have h1 : (0 : Int) < (t : Int) := by omega
      simp only [Bool.true_eq_false, if_false, gt_iff_lt, h1, if_true]
      have h2 : (1 : Int) < (t : Int) + 0 + 1 := by omega
      unfold endP
      rw [if_neg (by dsimp only; simp; omega)]
      refine ⟨rows ++ [((m + t : Nat) : Int) + 0 + 1 - 1], ?_⟩
      simp [h2]
      omega
end Pa
namespace Pa
/-! ### a Page that goes on behind others: what it holds, against the Page that set all -/
structure RP where
  h : Int
  t : Int
  lo : Int
  rows : List Int
  w : Option Bool
def settleW (w : Option Bool) : Option Bool := if w = none then some false else w
def overW (w : Option Bool) : Option Bool := if w = none then some true else w
def lineR (L : Int) (p : RP) (s : Int) (b : Bool) : RP :=
  let n := nextLine L p.h p.t s b
  ⟨n.h, n.t, if n.t > 1 then p.lo + 1 else n.t, (if n.ov = true then overR p.rows p.lo (p.h - p.t) else p.rows) ++ [n.h - 1],
    if n.t > 1 then (if n.ov = true then overW p.w else p.w) else settleW (if n.ov = true then overW p.w else p.w)⟩
/-- A: the rows ahead when it began, the last c of them pending; d: by how many rows they'd go up -/
structure Sim (A : List Int) (c : Nat) (d : Int) (p : PS') (r : RP) : Prop where
  h : r.h = p.h
  t : r.t = p.t
  t0 : 0 ≤ p.t
  none : r.w = none → p.rows = A ++ r.rows ∧ r.lo = (r.rows.length : Int) ∧ p.lo = ((c + r.rows.length : Nat) : Int) ∧ p.h - p.t = d ∧ 0 < p.t
  stay : r.w = some false → p.rows = A ++ r.rows ∧ r.lo = p.lo ∧ 0 ≤ p.lo ∧ p.lo ≤ (r.rows.length : Int)
  over : r.w = some true → p.rows = overR A c d ++ r.rows ∧ r.lo = p.lo ∧ 0 ≤ p.lo ∧ p.lo ≤ (r.rows.length : Int)
theorem overR_app {A B : List Int} {c : Nat} (hc : c ≤ A.length) (d : Int) : overR (A ++ B) ((c + B.length : Nat) : Int) d = overR A c d ++ overR B (B.length : Int) d := by
  unfold overR
  have e1 : (((c + B.length : Nat) : Int)).toNat = c + B.length := Int.toNat_natCast _
  have e2 : ((c : Nat) : Int).toNat = c := Int.toNat_natCast _
  have e3 : ((B.length : Nat) : Int).toNat = B.length := Int.toNat_natCast _
  rw [e1, e2, e3, List.length_append, Nat.sub_self, List.take_zero, List.drop_zero, List.nil_append]
  have e4 : A.length + B.length - (c + B.length) = A.length - c := by omega
  rw [e4, List.take_append_of_le_length (by omega), List.drop_append_of_le_length (by omega), List.map_append, List.append_assoc]
theorem overR_tail {A B : List Int} {lo : Int} (h0 : 0 ≤ lo) (h1 : lo ≤ (B.length : Int)) (d : Int) : overR (A ++ B) lo d = A ++ overR B lo d := by
  unfold overR
  have e4 : (A ++ B).length - lo.toNat = A.length + (B.length - lo.toNat) := by rw [List.length_append]; omega
  rw [e4, List.take_length_add_append, List.drop_length_add_append, List.append_assoc]
theorem nl_facts {L h t s : Int} {b : Bool} (h0 : 0 ≤ s) (ht : 0 ≤ t) : 0 ≤ (nextLine L h t s b).t ∧ ((nextLine L h t s b).ov = true → (nextLine L h t s b).t = 0) ∧
    ((nextLine L h t s b).t > 1 → (nextLine L h t s b).ov = false ∧ t > 0 ∧ (nextLine L h t s b).h - (nextLine L h t s b).t = h - t) := by
  unfold nextLine lng
  split
  · split
    · refine ⟨by dsimp only; omega, (fun z => by cases z), fun z => ?_⟩
      dsimp only at z
      omega
    · dsimp only
      split
      · exact ⟨by omega, (fun z => by cases z), fun z => ⟨rfl, by omega, by omega⟩⟩
      · exact ⟨by omega, (fun z => by cases z), fun z => by omega⟩
  · split
    · exact ⟨by dsimp only; omega, (fun z => by cases z), fun z => by dsimp only at z; omega⟩
    · exact ⟨by dsimp only; omega, (fun z => rfl), fun z => by dsimp only at z; omega⟩
theorem sim_line {A : List Int} {c : Nat} {d L : Int} {p : PS'} {r : RP} (hc : c ≤ A.length) (S : Sim A c d p r) {s : Int} (h0 : 0 ≤ s) (b : Bool) : Sim A c d (lineP L p s b) (lineR L r s b) := by
  obtain ⟨f1, f2, f3⟩ := nl_facts (L := L) (h := p.h) (t := p.t) (s := s) (b := b) h0 S.t0
  unfold lineP lineR
  rw [S.h, S.t]
  have Sn := S.none
  have Ss := S.stay
  have So := S.over
  generalize nextLine L p.h p.t s b = n at f1 f2 f3
  obtain ⟨nh, nt, ov⟩ := n
  dsimp only at f1 f2 f3 ⊢
  cases hw : r.w with
  | none =>
    obtain ⟨a1, a2, a3, a4, a5⟩ := Sn hw
    by_cases h1 : nt > 1
    · obtain ⟨g1, g2, g3⟩ := f3 h1
      refine ⟨rfl, rfl, f1, fun _ => ?_, fun z => ?_, fun z => ?_⟩
      · dsimp only
        rw [if_pos h1, if_neg (by rw [g1]; decide), if_neg (by rw [g1]; decide), if_pos h1, a1, a2, a3, List.append_assoc, List.length_append, List.length_singleton]
        exact ⟨rfl, by omega, by omega, by omega, by omega⟩
      · dsimp only at z
        rw [if_pos h1, if_neg (by rw [g1]; decide)] at z
        cases z
      · dsimp only at z
        rw [if_pos h1, if_neg (by rw [g1]; decide)] at z
        cases z
    · cases ov with
      | true =>
        have ht := f2 rfl
        refine ⟨rfl, rfl, f1, fun z => ?_, fun z => ?_, fun _ => ?_⟩
        · dsimp only at z
          rw [if_neg h1] at z
          simp [overW, settleW] at z
        · dsimp only at z
          rw [if_neg h1] at z
          simp [overW, settleW] at z
        · dsimp only
          rw [if_neg h1, if_neg h1, if_pos rfl, if_pos rfl, a1, a2, a3, a4, overR_app hc, List.append_assoc, ht]
          exact ⟨rfl, rfl, Int.le_refl _, Int.natCast_nonneg _⟩
      | false =>
        refine ⟨rfl, rfl, f1, fun z => ?_, fun _ => ?_, fun z => ?_⟩
        · dsimp only at z
          rw [if_neg h1] at z
          simp [settleW] at z
        · dsimp only
          rw [if_neg h1, if_neg h1, if_neg (by decide), if_neg (by decide), a1, List.append_assoc, List.length_append, List.length_singleton]
          exact ⟨rfl, rfl, f1, by omega⟩
        · dsimp only at z
          rw [if_neg h1] at z
          simp [settleW] at z
  | some v =>
    have hr : ∃ X, p.rows = X ++ r.rows ∧ r.lo = p.lo ∧ 0 ≤ p.lo ∧ p.lo ≤ (r.rows.length : Int) ∧ (v = false → X = A) ∧ (v = true → X = overR A c d) := by
      cases v with
      | false =>
        obtain ⟨a1, a2, a3, a4⟩ := Ss hw
        exact ⟨A, a1, a2, a3, a4, (fun _ => rfl), (fun z => by cases z)⟩
      | true =>
        obtain ⟨a1, a2, a3, a4⟩ := So hw
        exact ⟨_, a1, a2, a3, a4, (fun z => by cases z), (fun _ => rfl)⟩
    obtain ⟨X, a1, a2, a3, a4, x1, x2⟩ := hr
    have ew : (if nt > 1 then (if ov = true then overW (some v) else some v) else settleW (if ov = true then overW (some v) else some v)) = some v := by
      unfold settleW overW
      split <;> split <;> simp
    have er : (if ov = true then overR p.rows p.lo (p.h - p.t) else p.rows) ++ [nh - 1] = X ++ ((if ov = true then overR r.rows r.lo (p.h - p.t) else r.rows) ++ [nh - 1]) := by
      rw [← List.append_assoc]
      congr 1
      split
      · rw [a1, a2, overR_tail a3 a4]
      · exact a1
    have el : ((if ov = true then overR r.rows r.lo (p.h - p.t) else r.rows) ++ [nh - 1]).length = r.rows.length + 1 := by
      rw [List.length_append, List.length_singleton]
      split
      · unfold overR
        rw [List.length_append, List.length_map, List.length_take, List.length_drop]
        omega
      · rfl
    have all : (if ov = true then overR p.rows p.lo (p.h - p.t) else p.rows) ++ [nh - 1] = X ++ ((if ov = true then overR r.rows r.lo (p.h - p.t) else r.rows) ++ [nh - 1]) ∧ (if nt > 1 then r.lo + 1 else nt) = (if nt > 1 then p.lo + 1 else nt) ∧
        0 ≤ (if nt > 1 then p.lo + 1 else nt) ∧ (if nt > 1 then p.lo + 1 else nt) ≤ (((if ov = true then overR r.rows r.lo (p.h - p.t) else r.rows) ++ [nh - 1]).length : Int) := by
      refine ⟨er, by rw [a2], ?_, ?_⟩
      · split <;> omega
      · rw [el]
        split <;> omega
    refine ⟨rfl, rfl, f1, fun z => ?_, fun z => ?_, fun z => ?_⟩
    · dsimp only at z
      rw [ew] at z
      cases z
    · dsimp only at z
      rw [ew] at z
      have hv := Option.some.inj z
      rw [x1 hv] at all
      exact all
    · dsimp only at z
      rw [ew] at z
      have hv := Option.some.inj z
      rw [x2 hv] at all
      exact all
end Pa
namespace Pa
/-! ### a Page that goes on behind others, block by block -/
structure RB where
  kd : Bool
  h : Int
  t : Int
  lo : Int
  rows : List Int
  w : Option Bool
def runR (L : Int) (c : Nat) (s : Int) (kd : Bool) (p : RP) : Nat → RP
  | 0 => p
  | n + 1 => lineR L (runR L c s kd p n) (if n = 0 then s else 0) (if n = 0 then kd else decide ((n : Int) = 1 ∨ (n : Int) = (c : Int) - 1))
def dueR (q : RB) (g : Bool) : RB := if g = true then ⟨false, 0, 0, 0, q.rows, settleW q.w⟩ else q
def endR (L : Int) (p : RP) (k : Bool) : RB :=
  if p.h = L ∧ (k = false ∨ p.t = 0) then ⟨false, 0, 0, 0, p.rows, settleW p.w⟩ else if k = true then ⟨true, p.h, p.t, if p.t = 0 then 0 else p.lo, p.rows, if p.t = 0 then settleW p.w else p.w⟩ else ⟨false, p.h, 0, 0, p.rows, settleW p.w⟩
def blockR (L : Int) (q : RB) (b : Bl) : RB :=
  let q0 := dueR q b.g
  if b.c = 0 then q0 else endR L (runR L b.c b.s q0.kd ⟨q0.h, q0.t, q0.lo, q0.rows, q0.w⟩ b.c) b.k
structure SimB (A : List Int) (c : Nat) (d : Int) (q : SB) (r : RB) : Prop where
  kd : r.kd = q.kd
  sim : Sim A c d ⟨q.h, q.t, q.lo, q.rows⟩ ⟨r.h, r.t, r.lo, r.rows, r.w⟩
theorem Sim.lo {A : List Int} {c : Nat} {d : Int} {p : PS'} {r : RP} (S : Sim A c d p r) : 0 ≤ r.lo ∧ r.lo ≤ (r.rows.length : Int) := by
  cases h : r.w with
  | none =>
    obtain ⟨_, e, _⟩ := S.none h
    rw [e]
    exact ⟨Int.natCast_nonneg _, Int.le_refl _⟩
  | some v =>
    cases v with
    | false =>
      obtain ⟨_, e, a, b⟩ := S.stay h
      rw [e]
      exact ⟨a, b⟩
    | true =>
      obtain ⟨_, e, a, b⟩ := S.over h
      rw [e]
      exact ⟨a, b⟩
theorem sim_settle {A : List Int} {c : Nat} {d : Int} {p : PS'} {r : RP} (S : Sim A c d p r) (h' : Int) : Sim A c d ⟨h', 0, 0, p.rows⟩ ⟨h', 0, 0, r.rows, settleW r.w⟩ := by
  refine ⟨rfl, rfl, Int.le_refl _, fun z => ?_, fun z => ?_, fun z => ?_⟩
  · dsimp only at z
    unfold settleW at z
    split at z
    · cases z
    · rename_i n
      exact absurd z n
  · dsimp only at z ⊢
    refine ⟨?_, rfl, Int.le_refl _, Int.natCast_nonneg _⟩
    cases hw : r.w with
    | none => exact (S.none hw).1
    | some v =>
      cases v with
      | false => exact (S.stay hw).1
      | true => rw [hw] at z; simp [settleW] at z
  · dsimp only at z ⊢
    refine ⟨?_, rfl, Int.le_refl _, Int.natCast_nonneg _⟩
    cases hw : r.w with
    | none => rw [hw] at z; simp [settleW] at z
    | some v =>
      cases v with
      | false => rw [hw] at z; simp [settleW] at z
      | true => exact (S.over hw).1
theorem sim_due {A : List Int} {c : Nat} {d : Int} {q : SB} {r : RB} (S : SimB A c d q r) (g : Bool) : SimB A c d (due0 q g) (dueR r g) := by
  unfold due0 dueR
  cases g with
  | false => exact S
  | true => exact ⟨rfl, sim_settle S.sim 0⟩
theorem sim_run {A : List Int} {c : Nat} {d L : Int} (hc : c ≤ A.length) {p : PS'} {r : RP} (S : Sim A c d p r) {s : Int} (h0 : 0 ≤ s) (m : Nat) (kd : Bool) : ∀ n, Sim A c d (runP L m s kd p n) (runR L m s kd r n)
  | 0 => S
  | n + 1 => by
    refine sim_line hc (sim_run hc S h0 m kd n) ?_ _
    split
    · exact h0
    · exact Int.le_refl _
theorem sim_end {A : List Int} {c : Nat} {d L : Int} {p : PS'} {r : RP} (S : Sim A c d p r) (k : Bool) : SimB A c d (endP L p k) (endR L r k) := by
  have h1 := S.h
  have h2 := S.t
  unfold endP endR
  rw [h1, h2]
  split
  · exact ⟨rfl, sim_settle S 0⟩
  · split
    · refine ⟨rfl, ?_⟩
      dsimp only
      by_cases ht : p.t = 0
      · have := sim_settle S p.h
        simp only [ht, if_true]
        exact this
      · simp only [ht, if_false]
        exact ⟨rfl, rfl, S.t0, S.none, S.stay, S.over⟩
    · exact ⟨rfl, sim_settle S p.h⟩
theorem sim_block {A : List Int} {c : Nat} {d L : Int} (hc : c ≤ A.length) {q : SB} {r : RB} (S : SimB A c d q r) {b : Bl} (h0 : 0 ≤ b.s) : SimB A c d (blockP L q b) (blockR L r b) := by
  have D := sim_due S b.g
  unfold blockP blockR
  dsimp only
  split
  · exact D
  · rw [D.kd]
    exact sim_end (sim_run hc D.sim h0 b.c _ b.c) b.k
theorem next_h {L h t s : Int} {b : Bool} (h0 : 0 ≤ s) (ht : 0 ≤ t) : 1 ≤ (nextLine L h t s b).h := by
  unfold nextLine lng
  repeat' split
  all_goals (try (dsimp only at *))
  all_goals (try omega)
theorem runR_h {A : List Int} {c : Nat} {d L : Int} (hc : c ≤ A.length) {p : PS'} {r : RP} (S : Sim A c d p r) {s : Int} (h0 : 0 ≤ s) (m : Nat) (kd : Bool) : ∀ n, n ≠ 0 → 1 ≤ (runR L m s kd r n).h
  | 0, h => absurd rfl h
  | n + 1, _ => by
    have S2 := sim_run (L := L) hc S h0 m kd n
    have ht : 0 ≤ (runR L m s kd r n).t := by rw [S2.t]; exact S2.t0
    unfold runR lineR
    dsimp only
    refine next_h ?_ ht
    split
    · exact h0
    · exact Int.le_refl _
theorem lineR_len (L : Int) (p : RP) (s : Int) (b : Bool) : (lineR L p s b).rows.length = p.rows.length + 1 := by
  unfold lineR overR
  dsimp only
  rw [List.length_append, List.length_singleton]
  split
  · rw [List.length_append, List.length_map, List.length_take, List.length_drop]
    omega
  · rfl
theorem runR_len (L : Int) (c : Nat) (s : Int) (kd : Bool) (p : RP) : ∀ n, (runR L c s kd p n).rows.length = p.rows.length + n
  | 0 => rfl
  | n + 1 => by
    show (lineR L _ _ _).rows.length = _
    rw [lineR_len, runR_len L c s kd p n]
    omega
end Pa
namespace Pa
/-! ### what is told of a Page that goes on, against the Page that set all -/
theorem w_set (v : Bool) : settleW (some v) = some v := rfl
theorem w_ovr (v : Bool) : overW (some v) = some v := rfl
theorem w_line {L : Int} {p : RP} {v : Bool} (h : p.w = some v) (s : Int) (b : Bool) : (lineR L p s b).w = some v := by
  unfold lineR
  rw [h]
  dsimp only
  rw [w_ovr]
  split <;> split <;> rfl
theorem w_run {L : Int} {m : Nat} {s : Int} {kd : Bool} {p : RP} {v : Bool} (h : p.w = some v) : ∀ n, (runR L m s kd p n).w = some v
  | 0 => h
  | n + 1 => w_line (w_run h n) _ _
theorem w_block {L : Int} {q : RB} {v : Bool} (h : q.w = some v) (b : Bl) : (blockR L q b).w = some v := by
  have hd : (dueR q b.g).w = some v := by
    unfold dueR
    split
    · show settleW q.w = some v
      rw [h, w_set]
    · exact h
  unfold blockR
  dsimp only
  split
  · exact hd
  · have hr := w_run (L := L) (m := b.c) (s := b.s) (kd := (dueR q b.g).kd) (p := ⟨(dueR q b.g).h, (dueR q b.g).t, (dueR q b.g).lo, (dueR q b.g).rows, (dueR q b.g).w⟩) hd b.c
    unfold endR
    rw [hr]
    repeat' split
    all_goals rfl
def pageR (L : Int) (r0 : RB) (bs : List Bl) : RB := bs.foldl (blockR L) r0
theorem pageR_snoc (L : Int) (r0 : RB) (bs : List Bl) (b : Bl) : pageR L r0 (bs ++ [b]) = blockR L (pageR L r0 bs) b := by
  unfold pageR
  rw [List.foldl_append]
  rfl
theorem pageR_w {L : Int} {r0 : RB} {v : Bool} (h : r0.w = some v) (bs : List Bl) : (pageR L r0 bs).w = some v := by
  unfold pageR
  induction bs generalizing r0 with
  | nil => exact h
  | cons b bs ih => exact ih (w_block h b)
theorem sim_page {A : List Int} {c : Nat} {d L : Int} (hc : c ≤ A.length) {lead : List Bl} {r0 : RB} (S : SimB A c d (pageOf L lead) r0) (bs : List Bl) (h : ∀ b ∈ bs, 0 ≤ b.s) : SimB A c d (pageOf L (lead ++ bs)) (pageR L r0 bs) := by
  rw [pageOf_app]
  unfold pageR
  generalize pageOf L lead = q at S
  induction bs generalizing q r0 with
  | nil => exact S
  | cons b bs ih => exact ih (fun y hy => h y (List.mem_cons_of_mem _ hy)) _ (sim_block hc S (h b List.mem_cons_self))
/-- where a Page begins that goes on behind this standing -/
def res0 (kd : Bool) (h t : Int) : RB := ⟨kd, h, t, 0, [], if t > 0 then none else some false⟩
theorem sim0 {kd : Bool} {h : Int} {t : Nat} {A : List Int} : SimB A t (h - t) ⟨kd, h, t, t, A⟩ (res0 kd h t) := by
  refine ⟨rfl, rfl, rfl, Int.natCast_nonneg _, fun z => ?_, fun z => ?_, fun z => ?_⟩
  · dsimp only [res0] at z ⊢
    split at z
    · rename_i ht
      exact ⟨by simp, rfl, rfl, rfl, ht⟩
    · cases z
  · dsimp only [res0] at z ⊢
    split at z
    · cases z
    · rename_i ht
      exact ⟨by simp, by omega, by omega, by simp; omega⟩
  · dsimp only [res0] at z
    split at z <;> cases z
structure ResM (A : List Int) (c : Nat) (P : SB) (r : RB) : Prop where
  kd : r.kd = P.kd
  h : r.h = P.h
  t : r.t = P.t
  len : P.rows.length = A.length + r.rows.length
  rows : P.rows.drop A.length = r.rows
  lo0 : 0 ≤ P.lo
  lo : r.lo = min (r.rows.length : Int) P.lo
  zero : c = 0 → r.w = some false
  over : c ≠ 0 → r.w = some true → ∃ x y, A[A.length - c]? = some x ∧ P.rows[A.length - c]? = some y ∧ x ≠ y
  same : c ≠ 0 → r.w ≠ some true → P.rows[A.length - c]? = A[A.length - c]? ∧ (r.w = none ↔ (c : Int) + (P.rows.length : Int) - (A.length : Int) ≤ P.lo)
theorem res_ok {A : List Int} {c : Nat} {d : Int} {P : SB} {r : RB} (hc : c ≤ A.length) (hd : c ≠ 0 → 0 < d) (S : SimB A c d P r) (h0 : c = 0 → r.w = some false) : ResM A c P r := by
  have key : ∃ X, P.rows = X ++ r.rows ∧ X.length = A.length ∧ 0 ≤ P.lo ∧ r.lo = min (r.rows.length : Int) P.lo := by
    cases hw : r.w with
    | none =>
      obtain ⟨a1, a2, a3, _, _⟩ := S.sim.none hw
      dsimp only at a1 a2 a3
      exact ⟨A, a1, rfl, by omega, by omega⟩
    | some v =>
      cases v with
      | false =>
        obtain ⟨a1, a2, a3, a4⟩ := S.sim.stay hw
        dsimp only at a1 a2 a3 a4
        exact ⟨A, a1, rfl, a3, by omega⟩
      | true =>
        obtain ⟨a1, a2, a3, a4⟩ := S.sim.over hw
        dsimp only at a1 a2 a3 a4
        refine ⟨_, a1, ?_, a3, by omega⟩
        unfold overR
        rw [List.length_append, List.length_map, List.length_take, List.length_drop]
        omega
  obtain ⟨X, k1, k2, k3, k4⟩ := key
  refine ⟨S.kd, S.sim.h, S.sim.t, by rw [k1, List.length_append, k2], by rw [k1, ← k2, List.drop_left], k3, k4, h0, fun hn hw => ?_, fun hn hw => ?_⟩
  · obtain ⟨a1, _, _, _⟩ := S.sim.over hw
    dsimp only at a1
    have hx : A.length - c < A.length := by omega
    have e1 : A[A.length - c]? = some A[A.length - c] := List.getElem?_eq_getElem hx
    refine ⟨A[A.length - c], A[A.length - c] - d, e1, ?_, by have := hd hn; omega⟩
    rw [a1]
    unfold overR
    rw [Int.toNat_natCast, List.append_assoc, List.getElem?_append_right (by rw [List.length_take]; omega), List.length_take, List.getElem?_append_left (by rw [List.length_map, List.length_drop]; omega), List.getElem?_map, List.getElem?_drop]
    have e2 : A.length - c + (A.length - c - min (A.length - c) A.length) = A.length - c := by omega
    rw [e2, e1]
    rfl
  · cases hw2 : r.w with
    | none =>
      obtain ⟨a1, a2, a3, _, _⟩ := S.sim.none hw2
      dsimp only at a1 a2 a3
      refine ⟨by rw [a1, List.getElem?_append_left (by omega)], fun _ => ?_, fun _ => rfl⟩
      rw [a1, List.length_append]
      omega
    | some v =>
      cases v with
      | true => exact absurd hw2 hw
      | false =>
        obtain ⟨a1, a2, a3, a4⟩ := S.sim.stay hw2
        dsimp only at a1 a2 a3 a4
        refine ⟨by rw [a1, List.getElem?_append_left (by omega)], (fun z => by cases z), fun z => ?_⟩
        rw [a1, List.length_append] at z
        omega
end Pa
namespace Pa
/-! ### heights and tails alone, and the class of a count -/
def stepHT (L : Int) (x : Int × Int) (s : Int) (b : Bool) : Int × Int := ((nextLine L x.1 x.2 s b).h, (nextLine L x.1 x.2 s b).t)
def runHT (L : Int) (c : Nat) (s : Int) (kd : Bool) (x : Int × Int) : Nat → Int × Int
  | 0 => x
  | n + 1 => stepHT L (runHT L c s kd x n) (if n = 0 then s else 0) (if n = 0 then kd else decide ((n : Int) = 1 ∨ (n : Int) = (c : Int) - 1))
theorem runP_ht (L : Int) (c : Nat) (s : Int) (kd : Bool) (p : PS') : ∀ n, ((runP L c s kd p n).h, (runP L c s kd p n).t) = runHT L c s kd (p.h, p.t) n
  | 0 => rfl
  | n + 1 => by
    unfold runHT
    rw [← runP_ht L c s kd p n]
    rfl
def cls (L c : Nat) : Nat := if c < 4 then c else 4 + (c - 4) % L
def stz (r : Nat) : Int × Int := ((r : Int) + 1, if r = 0 then 0 else 1)
def fIt (L : Int) : Nat → Int × Int → Int × Int
  | 0, x => x
  | n + 1, x => stepHT L (fIt L n x) 0 false
theorem f_any {L : Nat} (hL : 1 ≤ L) (x : Int × Int) : ∃ r, r < L ∧ stepHT (L : Int) x 0 false = stz r := by
  obtain ⟨h, t⟩ := x
  unfold stepHT nextLine
  dsimp only
  by_cases h1 : h > 0 ∧ h + 0 + 1 ≤ (L : Int)
  · rw [if_pos h1, if_pos rfl]
    refine ⟨h.toNat, by omega, ?_⟩
    unfold stz
    rw [if_neg (by omega)]
    ext1
    · dsimp only; omega
    · rfl
  · rw [if_neg h1, if_pos (.inl rfl)]
    exact ⟨0, by omega, rfl⟩
theorem f_st {L r : Nat} (hr : r < L) : stepHT (L : Int) (stz r) 0 false = stz ((r + 1) % L) := by
  unfold stepHT nextLine
  by_cases h1 : r + 1 < L
  · rw [if_pos (by unfold stz; dsimp only; omega), if_pos rfl, Nat.mod_eq_of_lt h1]
    unfold stz
    rw [if_neg (show ¬ r + 1 = 0 by omega)]
    ext1
    · dsimp only; omega
    · rfl
  · rw [if_neg (by unfold stz; dsimp only; omega), if_pos (.inl rfl)]
    have e : r + 1 = L := by omega
    rw [e, Nat.mod_self]
    rfl
theorem fIt_st {L r : Nat} (hr : r < L) : ∀ n, fIt (L : Int) n (stz r) = stz ((r + n) % L)
  | 0 => by rw [Nat.add_zero, Nat.mod_eq_of_lt hr]; rfl
  | n + 1 => by
    show stepHT (L : Int) (fIt (L : Int) n (stz r)) 0 false = _
    rw [fIt_st hr n, f_st (Nat.mod_lt _ (by omega))]
    congr 1
    rw [Nat.mod_add_mod, Nat.add_assoc]
theorem fIt_succ (L : Int) (n : Nat) (x : Int × Int) : fIt L (n + 1) x = fIt L n (stepHT L x 0 false) := by
  induction n with
  | zero => rfl
  | succ n ih =>
    show stepHT L (fIt L (n + 1) x) 0 false = stepHT L (fIt L n (stepHT L x 0 false)) 0 false
    rw [ih]
theorem fIt_mod {L : Nat} (hL : 1 ≤ L) (x : Int × Int) (a b : Nat) (h : a % L = b % L) : fIt (L : Int) (a + 1) x = fIt (L : Int) (b + 1) x := by
  rw [fIt_succ, fIt_succ]
  obtain ⟨r, hr, e⟩ := f_any hL x
  rw [e, fIt_st hr, fIt_st hr]
  congr 1
  rw [Nat.add_mod, h, ← Nat.add_mod]
def x2 (L : Int) (s : Int) (kd : Bool) (x : Int × Int) : Int × Int := stepHT L (stepHT L x s kd) 0 true
theorem run_mid {L : Int} {c : Nat} (s : Int) (kd : Bool) (x : Int × Int) (hc : 4 ≤ c) : ∀ m, m ≤ c - 3 → runHT L c s kd x (2 + m) = fIt L m (x2 L s kd x)
  | 0, _ => by
    show stepHT L (stepHT L x s kd) 0 (decide (((1 : Nat) : Int) = 1 ∨ ((1 : Nat) : Int) = (c : Int) - 1)) = _
    rw [decide_eq_true (.inl rfl)]
    rfl
  | m + 1, hm => by
    show stepHT L (runHT L c s kd x (2 + m)) (if 2 + m = 0 then s else 0) (if 2 + m = 0 then kd else decide (((2 + m : Nat) : Int) = 1 ∨ ((2 + m : Nat) : Int) = (c : Int) - 1)) = _
    rw [run_mid s kd x hc m (by omega), if_neg (by omega), if_neg (by omega), decide_eq_false (by omega)]
    rfl
theorem run_all {L : Int} {c : Nat} (s : Int) (kd : Bool) (x : Int × Int) (hc : 4 ≤ c) : runHT L c s kd x c = stepHT L (fIt L (c - 3) (x2 L s kd x)) 0 true := by
  obtain ⟨m, rfl⟩ : ∃ m, c = 2 + m + 1 := ⟨c - 3, by omega⟩
  show stepHT L (runHT L (2 + m + 1) s kd x (2 + m)) (if 2 + m = 0 then s else 0) (if 2 + m = 0 then kd else decide (((2 + m : Nat) : Int) = 1 ∨ ((2 + m : Nat) : Int) = ((2 + m + 1 : Nat) : Int) - 1)) = _
  rw [run_mid s kd x hc m (by omega), if_neg (by omega), if_neg (by omega), decide_eq_true (.inr (by omega))]
  have : 2 + m + 1 - 3 = m := by omega
  rw [this]
theorem run_cls {L : Nat} (hL : 1 ≤ L) (c : Nat) (s : Int) (kd : Bool) (x : Int × Int) : runHT L (cls L c) s kd x (cls L c) = runHT L c s kd x c := by
  unfold cls
  by_cases hc : c < 4
  · rw [if_pos hc]
  · rw [if_neg hc, run_all s kd x (by omega), run_all s kd x (by omega)]
    congr 1
    have e1 : 4 + (c - 4) % L - 3 = (c - 4) % L + 1 := by omega
    have e2 : c - 3 = (c - 4) + 1 := by omega
    rw [e1, e2]
    exact fIt_mod hL _ _ _ (Nat.mod_mod _ _)
end Pa
set_option maxRecDepth 100000
set_option maxHeartbeats 4000000
namespace Pa
/-! ### the standing and the pending lines, by the law's own pages -/
structure StandM (L : Int) (ls : List Ln) (R : List Int) (kp : Bool) (q : SB) (f : Nat) (hi : Int) : Prop where
  lt : f < ls.length
  len : R.length = ls.length
  zero : R[f]? = some 0
  pos : ∀ k, f < k → R[k]? ≠ some 0
  last : R[ls.length - 1]? = some (hi - 1)
  hi0 : 0 < hi
  top : hi = L ∧ (kp = false ∨ freeL ls (f + 1) ls.length = []) → q.h = 0 ∧ q.t = 0 ∧ q.kd = false
  opn : ¬ (hi = L ∧ (kp = false ∨ freeL ls (f + 1) ls.length = [])) → kp = false → q.kd = false ∧ q.h = hi ∧ q.t = 0
  kept : ¬ (hi = L ∧ (kp = false ∨ freeL ls (f + 1) ls.length = [])) → kp = true → q.kd = true ∧ q.h = hi ∧ (freeL ls (f + 1) ls.length = [] → q.t = 0) ∧ ∀ e, (freeL ls (f + 1) ls.length).getLast? = some e → ∃ r, R[e]? = some r ∧ q.t = hi - r
theorem stand_ok {L : Int} (hL : 0 < L) {t : LS} {q : SB} (g : GoodLs t.ls) (Rl : Rel L t q) (X : Excl L t q) (hd : t.du = false) : ∃ f hi, StandM L t.ls (rowsOf (runS L t.ls)) t.kp q f hi := by
  obtain ⟨seg, S', hS, hne, hh⟩ := Rl.not hd
  have P := last_pg hL g hS hne
  have nn := Rl.nn
  rw [hS] at nn
  have h0 := lastRow_nonneg (nn seg List.mem_cons_self)
  have hnone : freeL t.ls (S'.reverse.flatten.length + 1) t.ls.length = [] → cut seg = none := fun e => by
    cases hc : cut seg with
    | none => rfl
    | some ab =>
      obtain ⟨a, b⟩ := ab
      have := (P.some a b hc).1
      rw [e] at this
      cases this
  have hx : ¬ (lastRow seg + 1 = L ∧ (t.kp = false ∨ freeL t.ls (S'.reverse.flatten.length + 1) t.ls.length = [])) → q.h = lastRow seg + 1 ∧ q.kd = t.kp ∧ (t.kp = true → q.t = tailOf seg ∧ q.lo = looseOf seg) ∧ (t.kp = false → q.t = 0 ∧ q.lo = 0) := fun hn => by
    rcases hh with h | ⟨h1, _, _, _, _, h2⟩
    · exact h
    · exact absurd ⟨h1, h2.imp id P.none⟩ hn
  refine ⟨S'.reverse.flatten.length, lastRow seg + 1, P.lt, P.len, P.zero, P.pos, ?_, by omega, fun h => ?_, fun hn hk => ?_, fun hn hk => ?_⟩
  · rw [P.last]; congr 1; omega
  · rcases hh with h' | ⟨_, h1, h2, h3, _, _⟩
    · exact absurd ⟨h.1, h.2.imp id hnone⟩ (X hd (by rw [h'.1]; omega) seg S' hS)
    · exact ⟨h1, h2, h3⟩
  · obtain ⟨h1, h2, h3, h4⟩ := hx hn
    exact ⟨by rw [h2, hk], h1, (h4 hk).1⟩
  · obtain ⟨h1, h2, h3, h4⟩ := hx hn
    obtain ⟨h5, h6⟩ := h3 hk
    refine ⟨by rw [h2, hk], h1, fun e => ?_, fun e he => ?_⟩
    · rw [h5]
      unfold tailOf
      rw [hnone e]
    · cases hc : cut seg with
      | none =>
        rw [P.none hc] at he
        cases he
      | some ab =>
        obtain ⟨a, b⟩ := ab
        obtain ⟨z1, z2, _⟩ := P.some a b hc
        rw [z1] at he
        cases he
        refine ⟨_, z2, ?_⟩
        rw [h5]
        unfold tailOf
        rw [hc]
        dsimp only
        omega
structure PendM (R : List Int) (q : SB) (n : Nat) : Prop where
  lo : q.lo = (n : Int)
  ge : ∀ j, j < n → ∀ r, R.reverse[j]? = some r → ¬ r < q.h - q.t
  lt : ∃ r, R.reverse[n]? = some r ∧ r < q.h - q.t
theorem pend_ok {L : Int} (hL : 0 < L) {t : LS} {q : SB} (g : GoodLs t.ls) (Rl : Rel L t q) : (q.t = 0 → q.lo = 0) ∧ (q.t ≠ 0 → ∃ n, PendM (rowsOf (runS L t.ls)) q n) := by
  cases hd : t.du with
  | true =>
    obtain ⟨h1, h2, h3, h4⟩ := Rl.due hd
    exact ⟨fun _ => h4, fun h => absurd h2 h⟩
  | false =>
    obtain ⟨seg, S', hS, hne, hh⟩ := Rl.not hd
    have nn := Rl.nn
    rw [hS] at nn
    rcases hh with ⟨h1, h2, h3, h4⟩ | ⟨_, _, h2, _, h3, _⟩
    · cases hk : t.kp with
      | false => exact ⟨fun _ => (h4 hk).2, fun h => absurd (h4 hk).1 h⟩
      | true =>
        obtain ⟨h5, h6⟩ := h3 hk
        refine ⟨fun h => ?_, fun h => ?_⟩
        · rw [h6]
          unfold looseOf
          rw [tail0 (nn seg List.mem_cons_self) (by rw [← h5]; exact h)]
        · have P := last_pg hL g hS hne
          cases hc : cut seg with
          | none =>
            refine absurd ?_ h
            rw [h5]
            unfold tailOf
            rw [hc]
          | some ab =>
            obtain ⟨a, b⟩ := ab
            obtain ⟨_, _, hb0, e1, e2, e3, e4, r, e5, e6⟩ := P.some a b hc
            have et : q.h - q.t = lastRow seg - lastRow b := by
              rw [h1, h5]
              unfold tailOf
              rw [hc]
              dsimp only
              omega
            refine ⟨b.length, ?_, fun j hj r hr => ?_, r, ?_, ?_⟩
            · rw [h6]
              unfold looseOf
              rw [hc]
            · rw [List.getElem?_reverse (by rw [P.len]; omega)] at hr
              rw [et]
              have := e4 _ (by rw [P.len]; omega) r hr
              omega
            · rw [List.getElem?_reverse (by rw [P.len]; omega), P.len, ← e5]
              congr 1
              omega
            · rw [et]; exact e6
    · exact ⟨fun _ => h3, fun h => absurd h2 h⟩
/-! ### what is settled stays, over blocks -/
end Pa
set_option maxRecDepth 100000
set_option maxHeartbeats 4000000
namespace Pa
open PySem PySem.Spec PyProof.Rows L2
/-! ### calls of defs, by one fact each -/
/-- the module's name x holds a def that keeps the promise sp -/
structure CallOk (P : Program) (w : World) (K : PySem.W.Frag) (mg : Str → Option Value) (base : Heap) (k : Nat) (x : Str) (ps : List Str) (sp : Sp) : Prop where
  ok : ∃ (f : Addr) (fd : FuncData), mg x = some (.ref f) ∧ PySem.W.keepIn K (.ref f) = true ∧ Binds K fd ps [] ∧ FnOk P w K mg base CX0 k f fd ps sp
theorem CallOk.imp {P : Program} {w : World} {K : PySem.W.Frag} {mg : Str → Option Value} {base : Heap} {k : Nat} {x : Str} {ps : List Str} {sp sp' : Sp} (C : CallOk P w K mg base k x ps sp) (h : ∀ vs H Q E, sp' vs H Q E → sp vs H Q E) : CallOk P w K mg base k x ps sp' := by
  obtain ⟨f, fd, h1, h2, h3, h4⟩ := C.ok
  exact ⟨f, fd, h1, h2, h3, h4.imp h⟩
theorem call_ok {P : Program} {w : World} {K : PySem.W.Frag} {mg : Str → Option Value} {base : Heap} {k : Nat} {x : Str} {ps : List Str} {sp : Sp} {f : Addr} {fd : FuncData} (m : mg x = some (.ref f)) (kp : PySem.W.keepIn K (.ref f) = true) (b : Binds K fd ps []) (F : FnOk P w K mg base CX0 k f fd ps sp) :
    CallOk P w K mg base k x ps sp := ⟨f, fd, m, kp, b, F⟩
section
variable {X : Cx} {k : Nat} {ps : List Str} {sp : Sp} {x : Str} {p pos : Pos} {e : Expr} {es : List Expr} {t : TA}
theorem pe_cc (C : CallOk X.prog X.w X.K X.mg X.base k x ps sp) (hr : Room k X.A) (hg : Gl X x) (ha : PA X (e :: es) t) (hdb : (x == ("__debug__" : Str)) = false := by decide)
    (he : starEach (e :: es) X.env = (false, eval e X.env) :: starEach es X.env := by rfl) (hpl : (backTo pos (starEach es X.env)).any (·.1) = false := by rfl) : PE X (.Call (.Name x p) (e :: es) [] pos) (tCall sp [] E0 t) := by
  obtain ⟨f, fd, h1, h2, h3, h4⟩ := C.ok
  exact pe_call h4 hr hg h1 h2 h3 .nil pass0 ha hdb he hpl
theorem pe_cc0 (C : CallOk X.prog X.w X.K X.mg X.base k x ps sp) (hr : Room k X.A) (hg : Gl X x) (hdb : (x == ("__debug__" : Str)) = false := by decide) : PE X (.Call (.Name x p) [] [] pos) (tCall sp [] E0 tNil) := by
  obtain ⟨f, fd, h1, h2, h3, h4⟩ := C.ok
  exact pe_call0 h4 hr hg h1 h2 h3 .nil pass0 hdb
end
def topS (i : Nat) : Stmt := PySem.Challenge.pw_pressalike_k29_pages_resumed.main.body.getD i (.Pass ⟨0, 0, 0, 0⟩)
abbrev sBag : Stmt := topS 16
abbrev sDraw : Stmt := topS 17
theorem scBag : FnScope ["_law_script", "_law_at", "_law_great", "_law_mixed", "_law_place", "_law_cell"] ["_law_script", "_law_at"] (defScope sBag) := ⟨rfl, rfl, rfl, by decide +kernel, rfl, by decide +kernel, by decide +kernel⟩
theorem scDraw : FnScope ["_law_bag_here", "_law_many", "_law_digit"] ["_law_bag_here", "_law_many"] (defScope sDraw) := ⟨rfl, rfl, rfl, by decide +kernel, rfl, by decide +kernel, by decide +kernel⟩
theorem atI_ints {ns : List Int} {i : Int} (h0 : 0 ≤ i) (h : i < (ns.length : Int)) : ∃ z : Int, atI (ns.map V.int) i = some (.int z) := by
  obtain ⟨n, rfl⟩ : ∃ n : Nat, i = (n : Int) := ⟨i.toNat, by omega⟩
  have hn : n < ns.length := by omega
  exact ⟨ns[n], atI_nat (j := n) (by rw [List.getElem?_map, List.getElem?_eq_getElem hn]; rfl)⟩
theorem join1 {α : Type} {G : α → Prop} {T : Prop} (h : (∀ y, G y) → T) (g : ∀ y, G y) : T := h g
/-- a source of draws stands at b -/
def IsBag (H : Hp) (b : Addr) : Prop := ∃ g x c : Int, H b = some (.lst [.int g, .int x, .int c])
/-- at most the source at b has changed -/
structure Bk (b : Addr) (H H' : Hp) : Prop where
  bag : IsBag H' b
  keep : ∀ q o, q ≠ b → H q = some o → H' q = some o
theorem Bk.trans {b : Addr} {H H1 H2 : Hp} (x : Bk b H H1) (y : Bk b H1 H2) : Bk b H H2 := ⟨y.bag, fun q o hq e => y.keep q o hq (x.keep q o hq e)⟩
theorem Bk.seqL {K : PySem.W.Frag} {b p : Addr} {H H' : Hp} {xs : List V} (x : Bk b H H') (h : SqL K H p xs) (hp : p ≠ b) : SqL K H' p xs := by
  rcases h with (h | ⟨o, h⟩) | h
  · exact .inl (.inl (x.keep _ _ hp h))
  · exact .inl (.inr ⟨o, x.keep _ _ hp h⟩)
  · exact .inr h
theorem Bk.seqT {K : PySem.W.Frag} {b p : Addr} {H H' : Hp} {xs : List V} (x : Bk b H H') (h : SqT K H p xs) (hp : p ≠ b) : SqT K H' p xs := by
  rcases h with (h | ⟨o, h⟩) | h
  · exact .inl (.inl (x.keep _ _ hp h))
  · exact .inl (.inr ⟨o, x.keep _ _ hp h⟩)
  · exact .inr h
/-- a new object beside it -/
theorem Bk.fresh {b p : Addr} {H H' : Hp} {o : HO} (x : Bk b H H') (h : H' p = none) : Bk b H (upd H' p o) := by
  obtain ⟨⟨g, y, c, e⟩, kp⟩ := x
  exact ⟨⟨g, y, c, by rw [upd_ne (ne_of_none e h)]; exact e⟩, fun q u hq eq => by rw [upd_ne (ne_of_none (kp q u hq eq) h)]; exact kp q u hq eq⟩
theorem Bk.free {b p : Addr} {H H' : Hp} (x : Bk b H H') (hb : IsBag H b) (h : H' p = none) : H p = none := by
  cases e : H p with
  | none => rfl
  | some o =>
    by_cases q : p = b
    · obtain ⟨g, y, c, e2⟩ := x.bag
      rw [q, e2] at h
      cases h
    · rw [x.keep p o q e] at h
      cases h
def spDraw : Sp := fun vs H Q _ => ∃ (b : Addr) (m : Int), vs = [.ref b, .int m] ∧ IsBag H b ∧ 1 ≤ m ∧ m < 2 ^ 200 ∧
  ∀ (d : Int) (H' : Hp), 0 ≤ d → d < m → Bk b H H' → Q (.int d) H'
section
variable {P : Program} {w : World} {K : PySem.W.Frag} {mg : Str → Option Value} {base : Heap}
theorem ok_draw {f : Addr} {fd : FuncData} (F : Fun K "_law_draw" "_law_draw" sDraw f fd) (mi : mg "int" = none) : FnOk P w K mg base CX0 1 f fd ["_law_bag_here", "_law_many"] spDraw := by
  refine F.ok scDraw (fun vs H Q E h => ?_) (fun cdv A outer s H vs Q E hr h => ?_)
  · obtain ⟨b, m, rfl, _⟩ := h
    rfl
  · obtain ⟨b, m, rfl, ⟨g, x, c, hb⟩, h1, h2, k⟩ := h
    have nd := scDraw.nd
    refine ⟨_, pss_cons (ps_if (pt_cmpR op_gt (pe_ix ix_list (pv 0) pe_int (fun _ _ => rfl)) pe_int (nomark _))
        (pss_cons (ps_set (i := 2) nd rfl (.inl rfl) (pe_op op_mod (pe_callTy call_int1 (by rfl) mi (by decide +kernel) (pa_cons (pe_ix ix_list (pv 0) pe_int (fun _ _ => rfl)) pa_nil)) (pv 1)))
        (pss_cons (ps_asg (pe_op op_fdivW (pe_ix ix_list (pv 0) pe_int (fun _ _ => rfl)) (pv 1)) (pg_sub (pv 0) pe_int set_list))
        (pss_one (ps_ret (pv 2))))) pss_nil)
      (pss_cons (ps_asg (pe_op op_add (pe_ix ix_list (pv 0) pe_int (fun _ _ => rfl)) pe_int) (pg_sub (pv 0) pe_int set_list))
      (pss_cons (ps_asg (pe_op op_mod (pe_callTy call_int1 (by rfl) mi (by decide +kernel) (pa_cons (pe_op op_add (pe_op op_add (pe_op op_mul (pe_ix ix_list (pv 0) pe_int (fun _ _ => rfl)) pe_int) (pe_op op_mul pe_int (pe_ix ix_list (pv 0) pe_int (fun _ _ => rfl)))) pe_int) pa_nil)) pe_int) (pg_sub (pv 0) pe_int set_list))
      (pss_one (ps_ret (pe_op op_mod (pe_op op_fdiv (pe_callTy call_int1 (by rfl) mi (by decide +kernel) (pa_cons (pe_op op_mod (pe_callTy call_int1 (by rfl) mi (by decide +kernel) (pa_cons (pe_op op_add (pe_op op_mul (pe_ix ix_list (pv 0) pe_int (fun _ _ => rfl)) pe_int) (pe_op op_mul pe_int (pe_ix ix_list (pv 0) pe_int (fun _ _ => rfl)))) pa_nil)) pe_int) pa_nil)) pe_int) (pv 1)))))), ?_⟩
    have i0 : ∀ {z0 z1 z2 : V}, atI [z0, z1, z2] 0 = some z0 := fun {z0 z1 z2} => atI_nat (j := 0) rfl
    have i1 : ∀ {z0 z1 z2 : V}, atI [z0, z1, z2] 1 = some z1 := fun {z0 z1 z2} => atI_nat (j := 1) rfl
    have i2 : ∀ {z0 z1 z2 : V}, atI [z0, z1, z2] 2 = some z2 := fun {z0 z1 z2} => atI_nat (j := 2) rfl
    -- if bag[0] > 0
    refine ⟨_, rfl, b, _, _, _, rfl, rfl, SqL.of hb, i0, _, _, rfl, rfl, _, rfl, ite2 (fun hg => ?_) (fun hg => ?_)⟩
    · -- digit = int(bag[0]) % many; bag[0] = bag[0] // many; return digit
      refine ⟨_, rfl, b, _, _, _, rfl, rfl, SqL.of hb, i0, .inl ⟨_, rfl, _, rfl, _, _, rfl, rfl, (by show (0 : Int) < m; omega), ?_⟩⟩
      refine ⟨_, rfl, b, _, _, _, rfl, rfl, SqL.of hb, i0, _, rfl, _, _, rfl, rfl, wide_div (b := 200) (by omega) (by omega) (by decide) (by decide), ?_⟩
      refine ⟨_, rfl, b, _, _, 0, rfl, rfl, hb, rfl, ?_⟩
      refine ⟨_, rfl, k _ _ (Int.emod_nonneg _ (by omega)) (Int.emod_lt_of_pos _ (by omega)) ⟨⟨_, _, _, upd_same⟩, fun q o hq e => by rw [upd_ne hq]; exact e⟩⟩
    · refine ⟨_, rfl, b, _, _, _, rfl, rfl, SqL.of hb, i2, _, _, rfl, rfl, ?_⟩
      refine ⟨_, rfl, b, _, _, 2, rfl, rfl, hb, rfl, ?_⟩
      have hb2 : (upd H b (.lst [.int g, .int x, .int (c + 1)])) b = some (.lst [.int g, .int x, .int (c + 1)]) := upd_same
      refine ⟨_, rfl, b, _, _, _, rfl, rfl, SqL.of hb2, i1, _, _, rfl, rfl, .inr (by decide), _, rfl, b, _, _, _, rfl, rfl, SqL.of hb2, i2, _, _, rfl, rfl, .inl (by decide), ?_⟩
      refine ⟨_, _, rfl, rfl, _, _, rfl, rfl, .inl ⟨_, rfl, _, _, rfl, rfl, (by show (0 : Int) < 2147483647; decide), ?_⟩⟩
      refine ⟨_, rfl, b, _, _, 1, rfl, rfl, hb2, rfl, ?_⟩
      have hb3 : ∀ z : Int, (upd (upd H b (.lst [.int g, .int x, .int (c + 1)])) b (.lst [.int g, .int z, .int (c + 1)])) b = some (.lst [.int g, .int z, .int (c + 1)]) := fun z => upd_same
      refine ⟨_, rfl, b, _, _, _, rfl, rfl, SqL.of (hb3 _), i1, _, _, rfl, rfl, .inr (by decide), _, rfl, b, _, _, _, rfl, rfl, SqL.of (hb3 _), i2, _, _, rfl, rfl, .inl (by decide), ?_⟩
      refine ⟨_, _, rfl, rfl, .inl ⟨_, rfl, _, _, rfl, rfl, (by show (0 : Int) < 2147483629; decide), .inl ⟨_, rfl, _, _, rfl, rfl, ⟨by decide, by decide⟩, _, rfl, _, _, rfl, rfl, (by show (0 : Int) < m; omega), ?_⟩⟩⟩
      refine k _ _ (Int.emod_nonneg _ (by omega)) (Int.emod_lt_of_pos _ (by omega)) ⟨⟨_, _, _, hb3 _⟩, fun q o hq e => by rw [upd_ne hq, upd_ne hq]; exact e⟩
/-- a new source of draws -/
def spBag (K : PySem.W.Frag) : Sp := fun vs H Q _ => ∃ (a : Addr) (i : Int) (ns : List Int), vs = [.ref a, .int i] ∧ SqL K H a (ns.map V.int) ∧ 0 ≤ i ∧ i ≤ 1000 ∧
  ∀ (b : Addr) (H' : Hp), H b = none → IsBag H' b → (∀ q o, q ≠ b → H q = some o → H' q = some o) → Q (.ref b) H'
theorem ok_bag {f : Addr} {fd : FuncData} (F : Fun K "_law_bag" "_law_bag" sBag f fd) (mi : mg "int" = none) (ma : mg "abs" = none) (ml : mg "len" = none) (me : mg "enumerate" = none) : FnOk P w K mg base CX0 1 f fd ["_law_script", "_law_at"] (spBag K) := by
  refine F.ok scBag (fun vs H Q E h => ?_) (fun cdv A outer s H vs Q E hr h => ?_)
  · obtain ⟨a, i, ns, rfl, _⟩ := h
    rfl
  · obtain ⟨a, ix, ns, rfl, hS, h0, h1, k⟩ := h
    have nd := scBag.nd
    refine ⟨_, pss_cons (ps_set (i := 2) nd rfl (.inl rfl) (pe_ifExp (pt_cmpR op_lt (pv 1) (pe_callB call_len_seq (by rfl) ml PySem.boot_len (pa_cons (pv 0) pa_nil)) (nomark _))
          (pe_callB call_abs (by rfl) ma (by decide +kernel) (pa_cons (pe_callTy call_int1 (by rfl) mi (by decide +kernel) (pa_cons (pe_ix ix_list (pv 0) (pv 1) (fun _ _ => rfl)) pa_nil)) pa_nil)) pe_int))
      (pss_cons (ps_set (i := 3) nd rfl (.inl rfl) (pe_op op_add pe_int (pe_op op_mul pe_int (pv 1))))
      (pss_cons (ps_for PassesOwn.never rfl (pi_enum (by rfl) me (pa_cons (pe_slice sl_list (pv 0) po_none (po_some pe_int)) pa_nil)) (pg_tup rfl (pgs_cons (pg_name (i := 4) nd rfl (.inl rfl)) (pgs_cons (pg_name (i := 5) nd rfl (.inl rfl)) pgs_nil)))
        (pss_one (ps_set (i := 3) nd rfl (.inl rfl) (pe_op op_mod (pe_callTy call_int1 (by rfl) mi (by decide +kernel) (pa_cons (pe_op op_add (pe_op op_add (pe_op op_mul (pv 3) pe_int)
            (pe_op op_mod (pe_callTy call_int1 (by rfl) mi (by decide +kernel) (pa_cons (pv 5) pa_nil)) pe_int)) (pe_op op_mul pe_int (pv 4))) pa_nil)) pe_int))))
      (pss_one (ps_ret (pe_lst (pa_cons (pe_ifExp (pt_cmpR op_ge (pv 2) (pe_op op_pow pe_int pe_int) (nomark _)) (pv 2) pe_int) (pa_cons (pv 3) (pa_cons pe_int pa_nil)))))))), ?_⟩
    refine join1 (α := Int) (G := ?G) (fun bag_rest => ?br) (fun y => ?fin)
    case br =>
      refine ⟨_, rfl, _, rfl, a, _, rfl, .inl hS, _, _, rfl, rfl, _, rfl, ite2 (fun hc => ?_) (fun hc => ?_)⟩
      · have hc' : ix < ((ns.map V.int).length : Int) := of_decide_eq_true hc
        rw [List.length_map] at hc'
        obtain ⟨z, hz⟩ := atI_ints h0 hc'
        refine ⟨_, rfl, _, rfl, a, _, _, _, rfl, rfl, hS, hz, .inl ⟨_, rfl, _, rfl, ?_⟩⟩
        generalize (if z < 0 then -z else z) = y
        exact bag_rest y
      · exact bag_rest 0
    case fin =>
      -- mixed = 1009 + 77 * at
      refine ⟨_, rfl, _, _, rfl, rfl, .inl (by decide), _, _, rfl, rfl, ?_⟩
      -- enumerate(script[:63])
      refine ⟨_, rfl, _, rfl, a, _, rfl, hS, fun c nc => ?_⟩
      have sc : Same H (upd H c (.lst (cutV (ns.map V.int) none (some 63)))) := fun q o e => by rw [upd_ne (ne_of_none e nc)]; exact e
      have hints : ∀ x ∈ cutV (ns.map V.int) none (some 63), ∃ z : Int, x = .int z := fun x hx => by
        have hm := List.mem_of_mem_drop (List.mem_of_mem_take hx)
        obtain ⟨z, _, e⟩ := List.mem_map.mp hm
        exact ⟨z, e.symm⟩
      revert sc hints
      generalize cutV (ns.map V.int) none (some 63) = cs
      intro sc hints
      refine ⟨c, cs, rfl, SqL.of upd_same, for_it (walk_enum (xs := cs)) (fun i σ H2 => ∃ (m : Int) (y4 y5 : Option V), σ = [some (.ref a), some (.int ix), some (.int y), some (.int m), y4, y5] ∧ Same H H2 ∧ SqL K H2 c cs) ⟨_, none, none, rfl, sc, SqL.of upd_same⟩ ?_ ?_ ?_⟩
      · rintro i σ H2 _ ⟨m, y4, y5, rfl, s2, hc2⟩
        exact hc2
      · rintro i x σ H2 H3 hi ⟨m, y4, y5, rfl, s2, hc2⟩ ⟨T, x1, x2, rfl, nT, rfl, e1, e2⟩
        obtain ⟨z, rfl⟩ := hints _ (List.mem_of_getElem? e2)
        cases e1
        have s3 : Same H2 (upd H2 T (.tup [.int (i : Nat), .int z])) := fun q o e => by rw [upd_ne (ne_of_none e nT)]; exact e
        refine ⟨T, _, rfl, SqT.of upd_same, rfl, _, _, rfl, _, _, rfl, rfl, ?_⟩
        refine ⟨_, rfl, _, _, rfl, rfl, .inr (by decide), _, rfl, .inl ⟨_, rfl, _, _, rfl, rfl, (by show (0 : Int) < 2147483629; decide), ?_⟩⟩
        refine ⟨_, _, rfl, rfl, _, rfl, _, _, rfl, rfl, .inl (by decide), _, _, rfl, rfl, .inl ⟨_, rfl, _, _, rfl, rfl, (by show (0 : Int) < 2147483647; decide), ?_⟩⟩
        exact ⟨_, _, _, rfl, s2.trans s3, s3.seq hc2⟩
      · rintro σ H2 ⟨m, y4, y5, rfl, s2, hc2⟩
        -- return [.., mixed, 0]
        refine ⟨_, rfl, _, _, rfl, rfl, ⟨by decide, by decide, by decide⟩, _, _, rfl, rfl, _, rfl, ite2 (fun hc => ⟨_, rfl, ?_⟩) (fun hc => ?_)⟩
        all_goals
          refine ⟨_, rfl, (by show 3 ≤ sizeLine; decide), fun b nb => ?_⟩
          have nbH : H b = none := s2.free nb
          exact k b _ nbH ⟨_, _, _, upd_same⟩ fun q o hq e => by rw [upd_ne hq]; exact s2 _ _ e
end
end Pa
set_option maxRecDepth 100000
set_option maxHeartbeats 4000000
namespace Pa
open PySem PySem.Spec PyProof.Rows L2 HT
/-! ### a list's end: xs[a:] = ys, del xs[a:] -/
theorem bounds_end {a n : Nat} (ha : a ≤ n) : sliceBounds (some (a : Int)) none none n = ((a : Int), (n : Int), 1) := by
  simp only [sliceBounds, Option.getD_none]
  have h1 : ¬ ((a : Int) < 0) := by omega
  simp only [h1, if_false, show (1 : Int) > 0 by decide, if_true]
  congr 1
  omega
section
variable {prog : Program} {w : World} {A : Around} {E : Value → Shared → Prop} {s : Shared}
theorem endPut {l b sl : Addr} {items new : Array Value} {n n2 : Nat} {vl vu : Value} {a : Nat} {Q : Unit → Shared → Prop}
    (el : s.heap.get? l = some { cls := .type "list", data := .seq items n }) (eb : s.heap.get? b = some { cls := .type "list", data := .seq new n2 }) (nlb : l ≠ b)
    (hsl : s.heap.IsSliceOf sl vl vu .none) (p1 : IsPart vl (some (a : Int))) (p2 : IsPart vu none) (ha : a ≤ items.size)
    (hz : items.size + new.size ≤ sizeLine) (h : Q () { s with heap := s.heap.update l (Obj.mapSeq fun xs => xs.extract 0 a ++ new ++ xs.extract items.size xs.size) }) :
    wpAny (model prog w) A (setItem (.ref l) (.ref sl) (.ref b)) Q E s := by
  have isl : s.heap.IsList l items := PySem.IsL.isList el
  have isb : s.heap.IsList b new := PySem.IsL.isList eb
  obtain ⟨o1, ho1, hc1, hd1⟩ := id hsl
  have tsl : s.TypeIs (.ref sl) "slice" := ⟨o1, ho1, hc1⟩
  have st0 : ¬ ((rawPart none == rawInt 0) = true) := Bool.false_ne_true
  have nsame : Builtin.List.listSameRef (.ref l) (.ref b) = false := by
    unfold Builtin.List.listSameRef
    exact beq_eq_false_iff_ne.mpr nlb
  have mx : (max (a : Int) (items.size : Int)).toNat = items.size := by omega
  have hz2 : ((fun xs : Array Value => xs.extract 0 a ++ new ++ xs.extract items.size xs.size) items).size ≤ sizeLine + 1 := by
    simp only [Array.size_append, Array.size_extract]
    omega
  unfold setItem
  try with_reducible refine wpAny_holding ?_
  first | refine wpAny_bind (wpAny_pure ?_) | skip
  refine wpAny_bind (wpAny_sequenceKey isl.typeIs (by decide) ?_)
  refine wpAny_bind (wpAny_callSpecial?_slot (name := Str.ofString "__setitem__") isl.typeIs slot_list_setitem
    (wpAny_call_entry slot_list_setitem isl.typeIs entry_list_setitem ?_ (args_list_setitem _ _ _)))
  show wpAny _ _ (Builtin.List.listSubscript? (.ref sl) >>= _) _ _ s
  refine wpAny_bind ?_
  unfold Builtin.List.listSubscript?
  refine wpAny_bind (wpAny_specialOf tsl slice_no_index ?_)
  simp only [Option.isNone_none, if_true]
  refine wpAny_pure ?_
  show wpAny _ _ (typeOf (.ref sl) >>= _) _ _ s
  refine wpAny_bind (wpAny_typeOf tsl ?_)
  first
    | rw [if_neg (by decide)]
    | refine PySem.W.KFB.if_not (by decide) ?_
  rw [listSliceParts_eq]
  refine wpAny_bind (wpAny_bind (wpAny_field ho1 hd1 (x := .none) rfl (wpAny_bind (wpAny_listPart .none ?_))))
  rw [if_neg st0]
  refine wpAny_bind (wpAny_field ho1 hd1 (x := vl) rfl (wpAny_bind (wpAny_listPart p1 ?_)))
  refine wpAny_bind (wpAny_field ho1 hd1 (x := vu) rfl (wpAny_bind (wpAny_listPart p2 (wpAny_pure ?_))))
  first
    | simp only [nsame, Bool.false_eq_true, if_false]
    | refine PySem.W.KFB.if_not nsame ?_
    | (dsimp only
       rw [if_neg (by rw [nsame]; exact Bool.false_ne_true)])
  refine wpAny_bind (m := Builtin.List.listAllItems (.ref b) "must assign iterable to extended slice") ?_
  unfold Builtin.List.listAllItems
  refine wpAny_bind (wpAny_typeOf isb.typeIs ?_)
  first
    | refine PySem.W.KFB.if_so (by decide) ?_
    | rw [if_pos (by decide)]
    | simp only [beq_self_eq_true, Bool.true_or, if_true]
  unfold Builtin.List.listItems
  refine wpAny_bind (wpAny_seqItems eb rfl (wpAny_pure ?_))
  refine wpAny_bind (wpAny_bind (wpAny_seqItems el rfl (wpAny_pure ?_)))
  refine wpAny_bind (wpAny_of_eq ((sliceIndices_raw (some (a : Int)) none none items.size (by simp)).trans (congrArg (pure : Int × Int × Int → Sem (Int × Int × Int)) (bounds_end ha))) ?_)
  show wpAny _ _ (if ((1 : Int) == 1) = true then _ else _) _ _ s
  rw [if_pos (by decide)]
  refine wpAny_bind (wpAny_rule ?_)
  first
    | simp only [notLongL hz, Bool.false_eq_true, if_false]
    | refine PySem.W.KFB.if_not (notLongL hz) ?_
  first | refine wpAny_bind (wpAny_pure ?_) | skip
  show wpAny _ _ (updateSeq l (fun xs => xs.extract 0 ((a : Int)).toNat ++ new ++ xs.extract (max (a : Int) (items.size : Int)).toNat xs.size) >>= _) _ _ s
  rw [mx, Int.toNat_natCast]
  refine wpAny_bind (wpAny_updateSeq (hz := Nat.le_trans (Nat.le_add_right _ _) hz) (_hz' := hz2) el rfl ?_)
  refine wpAny_bind (wpAny_letGo ?_)
  first
    | exact wpAny_bind (wpAny_pure (wpAny_pure ⟨.none, rfl, wpAny_pure h⟩))
    | exact wpAny_pure ⟨.none, rfl, wpAny_pure h⟩
theorem kept_front (p : Nat → Bool) (a : Nat) : ∀ (xs : List Value) (i : Nat), (∀ k, i ≤ k → k < i + xs.length → p k = decide (a ≤ k)) →
    (xs.zipIdx i).filterMap (fun x => if p x.2 = true then none else some x.1) = xs.take (a - i)
  | [], i, _ => by simp
  | x :: xs, i, h => by
    rw [List.zipIdx_cons, List.filterMap_cons]
    have hp := h i (Nat.le_refl _) (by simp)
    have ih := kept_front p a xs (i + 1) fun k h1 h2 => h k (by omega) (by rw [List.length_cons]; omega)
    by_cases hk : a ≤ i
    · have : a - i = 0 := by omega
      rw [decide_eq_true hk] at hp
      simp only [hp, if_true, ih, this, List.take_zero]
      have : a - (i + 1) = 0 := by omega
      rw [this, List.take_zero]
    · have e : a - i = (a - (i + 1)) + 1 := by omega
      rw [decide_eq_false hk] at hp
      simp only [hp, Bool.false_eq_true, if_false, ih]
      rw [e, List.take_succ_cons]
theorem endDel {l sl : Addr} {items : Array Value} {n : Nat} {vl vu : Value} {a : Nat} {Q : Unit → Shared → Prop}
    (el : s.heap.get? l = some { cls := .type "list", data := .seq items n })
    (hsl : s.heap.IsSliceOf sl vl vu .none) (p1 : IsPart vl (some (a : Int))) (p2 : IsPart vu none) (ha : a ≤ items.size) (hz : items.size ≤ sizeLine)
    (h : ∀ f : Array Value → Array Value, f items = (items.toList.take a).toArray → Q () { s with heap := s.heap.update l (Obj.mapSeq f) }) :
    wpAny (model prog w) A (delItem (.ref l) (.ref sl)) Q E s := by
  have isl : s.heap.IsList l items := PySem.IsL.isList el
  obtain ⟨o1, ho1, hc1, hd1⟩ := id hsl
  have tsl : s.TypeIs (.ref sl) "slice" := ⟨o1, ho1, hc1⟩
  have st0 : ¬ ((rawPart none == rawInt 0) = true) := Bool.false_ne_true
  refine wpAny_delItem_slot isl.typeIs (by decide) PySem.F.slot_list_delitem (wpAny_call_entry PySem.F.slot_list_delitem isl.typeIs PySem.F.entry_list_delitem ?_ (PySem.F.args_list_delitem_2 _ _))
  show wpAny _ _ (Builtin.List.listSubscript? (.ref sl) >>= _) _ _ s
  refine wpAny_bind ?_
  unfold Builtin.List.listSubscript?
  refine wpAny_bind (wpAny_specialOf tsl slice_no_index ?_)
  simp only [Option.isNone_none, if_true]
  refine wpAny_pure ?_
  show wpAny _ _ (typeOf (.ref sl) >>= _) _ _ s
  refine wpAny_bind (wpAny_typeOf tsl ?_)
  first
    | rw [if_neg (by decide)]
    | refine PySem.W.KFB.if_not (by decide) ?_
  rw [listSliceParts_eq]
  refine wpAny_bind (wpAny_bind (wpAny_field ho1 hd1 (x := .none) rfl (wpAny_bind (wpAny_listPart .none ?_))))
  rw [if_neg st0]
  refine wpAny_bind (wpAny_field ho1 hd1 (x := vl) rfl (wpAny_bind (wpAny_listPart p1 ?_)))
  refine wpAny_bind (wpAny_field ho1 hd1 (x := vu) rfl (wpAny_bind (wpAny_listPart p2 (wpAny_pure ?_))))
  refine wpAny_bind (m := Builtin.List.listItems (.ref l)) ?_
  unfold Builtin.List.listItems
  refine wpAny_bind (wpAny_seqItems el rfl (wpAny_pure ?_))
  refine wpAny_bind (wpAny_of_eq ((sliceIndices_raw (some (a : Int)) none none items.size (by simp)).trans (congrArg (pure : Int × Int × Int → Sem (Int × Int × Int)) (bounds_end ha))) ?_)
  refine wpAny_bind (wpAny_rule ?_)
  refine wpAny_bind ?_
  refine wpAny_updateSeq el rfl ?_ hz ?_
  · refine wpAny_bind (wpAny_letGo ?_)
    refine wpAny_pure ⟨.none, rfl, h _ ?_⟩
    refine congrArg List.toArray ((kept_front _ a items.toList 0 fun k _ hk => ?_).trans (by rw [Nat.sub_zero]))
    have hk : k < items.size := by simpa using hk
    show ((decide ((a : Int) ≤ (k : Int)) && decide ((k : Int) < (items.size : Int))) && (((k : Int) - (a : Int)) % 1 == 0)) = decide (a ≤ k)
    have h1 : decide ((k : Int) < (items.size : Int)) = true := decide_eq_true (by omega)
    have h2 : (((k : Int) - (a : Int)) % 1 == 0) = true := by simp
    rw [h1, h2, Bool.and_true, Bool.and_true]
    by_cases h3 : a ≤ k
    · rw [decide_eq_true h3, decide_eq_true (by omega)]
    · rw [decide_eq_false h3, decide_eq_false (by omega)]
  · refine Nat.le_succ_of_le (Nat.le_trans ?_ hz)
    rw [List.size_toArray]
    refine Nat.le_trans (List.length_filterMap_le _ _) ?_
    simp
end
section
variable {X : Cx} {o lo : Expr} {to tl : TE} {p2 pos : Pos}
/-- xs[a:] = ys of another list, both tracked -/
def gEnd (to tl : TE) : TG := fun v σ H Q => to σ H fun x H1 => tl σ H1 fun y H2 => ∃ (l b : Addr) (xs ys : List V) (a : Nat), x = .ref l ∧ y = .int (a : Int) ∧ v = .ref b ∧ H2 l = some (.lst xs) ∧ H2 b = some (.lst ys) ∧ l ≠ b ∧ a ≤ xs.length ∧
  xs.length + ys.length ≤ sizeLine ∧ Q σ (upd H2 l (.lst (xs.take a ++ ys)))
theorem pg_end (ho : PE X o to) (hl : PE X lo tl)
    (ha : ∀ v, assign (.Subscript o (.Slice (some lo) none none p2) pos) X.env v = (do
      let ov ← holding [v] (eval o X.env)
      let iv ← holding [v, ov] (eval (.Slice (some lo) none none p2) X.env)
      standAt pos
      holding [v, ov, iv] (setItem ov iv v)
      release [iv, v, ov] []) := by intro _; rfl) : PG X (.Subscript o (.Slice (some lo) none none p2) pos) (gEnd to tl) := by
  refine ⟨fun pins s σ H v u Q I r h => ?_⟩
  rw [ha]
  refine wpAny_bind (wpAny_holding (thn (ho.run pins s σ H _ I h) fun ov s1 ⟨x, H1, I1, r1, q1⟩ => ?_))
  refine wpAny_bind (wpAny_holding ?_)
  refine wpAny_Slice ?_
  rw [evalPart_some]
  refine thn (hl.run pins s1 σ H1 _ I1 q1) fun vl s2 ⟨y, H2, I2, r2, q2⟩ => ?_
  obtain ⟨l, b, xs, ys, a, rfl, rfl, rfl, hl2, hb2, nlb, hax, hsz, q3⟩ := q2
  obtain ⟨tk, rfl⟩ := r2
  cases (show ov = Value.ref l from r1)
  cases (show u = Value.ref b from r)
  rw [evalPart_none]
  refine wpAny_pure (wpAny_pure ?_)
  have I4 : Inv X pins σ H2 { s2 with heap := s2.heap.push { cls := .type "slice", data := .fields #[.int a tk, .none, .none] } } := I2.kept (t' := s2.toks) fun b ob q => Heap.get?_push_of_some _ q
  obtain ⟨z, its, n, rv, hl3, e3⟩ := I4.lstM hl2
  obtain ⟨z2, its2, n2, rv2, hl4, e4⟩ := I4.lstM hb2
  refine wpAny_bind (wpAny_standAt (wpAny_bind (wpAny_holding (endPut (a := a) e3 e4 nlb (Heap.IsSliceOf.new ..) (.int _ _) .none (by rw [List.size_toArray]; omega) (by rw [List.size_toArray, List.size_toArray]; omega) ?_))))
  refine wpAny_release ⟨σ, _, I4.lset (its' := its.take a ++ its2) (t' := s2.toks) hl2 e3 ?_ (Vals.append (rv.take _) rv2) ?_, q3⟩
  · show its.toArray.extract 0 a ++ its2.toArray ++ its.toArray.extract its.toArray.size its.toArray.size = (its.take a ++ its2).toArray
    apply Array.toList_inj.mp
    simp
  · rw [List.length_append, List.length_take]
    omega
def tDelE (to tl : TE) : TS := fun D σ H => to σ H fun x H1 => tl σ H1 fun y H2 => ∃ (l : Addr) (xs : List V) (a : Nat), x = .ref l ∧ y = .int (a : Int) ∧ H2 l = some (.lst xs) ∧ a ≤ xs.length ∧ D.nx σ (upd H2 l (.lst (xs.take a)))
/-- del xs[a:] -/
theorem ps_delE {tpos : Pos} (ho : PE X o to) (hl : PE X lo tl) : PS X (.Delete [.Subscript o (.Slice (some lo) none none p2) tpos] pos) (tDelE to tl) := by
  refine ⟨fun pins s σ H D I h => ?_⟩
  refine wpAny_Delete (wpAny_deleteEach_cons (wpAny_delete_Subscript (thn (ho.run pins s σ H _ I h) fun ov s1 ⟨x, H1, I1, r1, q1⟩ => ?_)))
  refine wpAny_Slice ?_
  rw [evalPart_some]
  refine thn (hl.run pins s1 σ H1 _ I1 q1) fun vl s2 ⟨y, H2, I2, r2, q2⟩ => ?_
  obtain ⟨l, xs, a, rfl, rfl, hl2, hax, q3⟩ := q2
  obtain ⟨tk, rfl⟩ := r2
  cases (show ov = Value.ref l from r1)
  rw [evalPart_none]
  refine wpAny_pure (wpAny_pure ?_)
  have I4 : Inv X pins σ H2 { s2 with heap := s2.heap.push { cls := .type "slice", data := .fields #[.int a tk, .none, .none] } } := I2.kept (t' := s2.toks) fun b ob q => Heap.get?_push_of_some _ q
  obtain ⟨z, its, n, rv, hl3, e3⟩ := I4.lstM hl2
  refine endDel (a := a) e3 (Heap.IsSliceOf.new ..) (.int _ _) .none (by rw [List.size_toArray]; omega) (by rw [List.size_toArray]; omega) fun f hf => ?_
  refine wpAny_deleteEach_nil ⟨σ, _, I4.lset (its' := its.take a) (t' := s2.toks) hl2 e3 hf (rv.take _) ?_, q3⟩
  rw [List.length_take]
  omega
end
end Pa
set_option maxRecDepth 100000
set_option maxHeartbeats 4000000
namespace Pa
open PySem PySem.Spec PyProof.Rows L2
/-! ### things in the heap -/
def AllAt {α : Type} (R : Hp → V → α → Prop) (H : Hp) : List V → List α → Prop
  | [], [] => True
  | x :: xs, y :: ys => R H x y ∧ AllAt R H xs ys
  | _, _ => False
section
variable {α : Type} {R : Hp → V → α → Prop} {H H' : Hp}
theorem AllAt.len : ∀ {xs : List V} {ys : List α}, AllAt R H xs ys → xs.length = ys.length
  | [], [], _ => rfl
  | _ :: _, _ :: _, h => congrArg (· + 1) (AllAt.len h.2)
  | [], _ :: _, h => h.elim
  | _ :: _, [], h => h.elim
theorem AllAt.mono : ∀ {xs : List V} {ys : List α}, (∀ x y, R H x y → R H' x y) → AllAt R H xs ys → AllAt R H' xs ys
  | [], [], _, _ => trivial
  | _ :: _, _ :: _, f, h => ⟨f _ _ h.1, AllAt.mono f h.2⟩
  | [], _ :: _, _, h => h.elim
  | _ :: _, [], _, h => h.elim
theorem AllAt.app : ∀ {xs xs' : List V} {ys ys' : List α}, AllAt R H xs ys → AllAt R H xs' ys' → AllAt R H (xs ++ xs') (ys ++ ys')
  | [], _, [], _, _, h => h
  | _ :: _, _, _ :: _, _, h, h' => ⟨h.1, AllAt.app h.2 h'⟩
  | [], _, _ :: _, _, h, _ => h.elim
  | _ :: _, _, [], _, h, _ => h.elim
theorem AllAt.snoc {xs : List V} {ys : List α} {x : V} {y : α} (h : AllAt R H xs ys) (r : R H x y) : AllAt R H (xs ++ [x]) (ys ++ [y]) := h.app ⟨r, trivial⟩
theorem AllAt.at : ∀ {xs : List V} {ys : List α} {i : Nat} {x : V}, AllAt R H xs ys → xs[i]? = some x → ∃ y, ys[i]? = some y ∧ R H x y
  | x :: xs, y :: ys, 0, _, h, e => by cases e; exact ⟨y, rfl, h.1⟩
  | x :: xs, y :: ys, i + 1, _, h, e => AllAt.at (xs := xs) (ys := ys) (i := i) h.2 (by simpa using e)
  | [], _, _, _, _, e => by simp at e
  | _ :: _, [], _, _, h, _ => h.elim
theorem AllAt.to : ∀ {xs : List V} {ys : List α} {i : Nat} {y : α}, AllAt R H xs ys → ys[i]? = some y → ∃ x, xs[i]? = some x ∧ R H x y
  | x :: xs, y :: ys, 0, _, h, e => by cases e; exact ⟨x, rfl, h.1⟩
  | x :: xs, y :: ys, i + 1, _, h, e => AllAt.to (xs := xs) (ys := ys) (i := i) h.2 (by simpa using e)
  | _, [], _, _, _, e => by simp at e
  | [], _ :: _, _, _, h, _ => h.elim
theorem AllAt.take : ∀ {xs : List V} {ys : List α} (n : Nat), AllAt R H xs ys → AllAt R H (xs.take n) (ys.take n)
  | _, _, 0, _ => by simp [AllAt]
  | [], [], _ + 1, _ => by simp [AllAt]
  | x :: xs, y :: ys, n + 1, h => ⟨h.1, AllAt.take n h.2⟩
  | [], _ :: _, _ + 1, h => h.elim
  | _ :: _, [], _ + 1, h => h.elim
theorem AllAt.drop : ∀ {xs : List V} {ys : List α} (n : Nat), AllAt R H xs ys → AllAt R H (xs.drop n) (ys.drop n)
  | _, _, 0, h => h
  | [], [], _ + 1, _ => by simp [AllAt]
  | x :: xs, y :: ys, n + 1, h => AllAt.drop (xs := xs) (ys := ys) n h.2
  | [], _ :: _, _ + 1, h => h.elim
  | _ :: _, [], _ + 1, h => h.elim
end
theorem join2 {c G T : Prop} (h : (c → G) → T) (g : c → G) : T := h g
theorem iteP {c A B : Prop} [Decidable c] (hc : c) (h : A) : if c then A else B := by
  rw [if_pos hc]; exact h
theorem iteQ {c A B : Prop} [Decidable c] (hc : ¬ c) (h : B) : if c then A else B := by
  rw [if_neg hc]; exact h
theorem notT {b : Bool} (h : b = true) : ¬ ((!b) = true) := by rw [h]; decide
theorem notF {b : Bool} (h : b = false) : (!b) = true := by rw [h]; rfl
theorem neT {b : Bool} (h : b = false) : ¬ (b = true) := by rw [h]; decide
theorem twoB (b : Bool) : b = true ∨ b = false := by cases b; exact .inr rfl; exact .inl rfl
/-- all tuples stand -/
def Tups (H H' : Hp) : Prop := ∀ t xs, H t = some (.tup xs) → H' t = some (.tup xs)
section
variable {H H' H'' : Hp} {p : Addr} {o : HO} {xs : List V}
theorem Tups.refl (H : Hp) : Tups H H := fun _ _ h => h
theorem Tups.trans (a : Tups H H') (b : Tups H' H'') : Tups H H'' := fun t xs h => b t xs (a t xs h)
theorem Tups.of (a : Same H H') : Tups H H' := fun t xs h => a t _ h
theorem Tups.put (h : ∀ ys, H p ≠ some (.tup ys)) : Tups H (upd H p o) := fun t ys e => by
  rw [upd_ne (fun q => h ys (by rw [← q]; exact e))]
  exact e
theorem Tups.new (h : H p = none) : Tups H (upd H p o) := Tups.put fun ys e => by rw [h] at e; cases e
theorem Tups.lst (h : H p = some (.lst xs)) : Tups H (upd H p o) := Tups.put fun ys e => by rw [h] at e; cases e
theorem Tups.ins {C dx : Addr} {fs : List (Str × V)} (h : H p = some (.ins C dx fs)) : Tups H (upd H p o) := Tups.put fun ys e => by rw [h] at e; cases e
theorem same_new (h : H p = none) : Same H (upd H p o) := fun b u e => by
  rw [upd_ne (ne_of_none e h)]
  exact e
end
/-- a tuple of these stands at x -/
def TupAt (H : Hp) (x : V) (vs : List V) : Prop := ∃ t, x = .ref t ∧ H t = some (.tup vs)
theorem TupAt.mono {H H' : Hp} {x : V} {vs : List V} (a : Tups H H') (h : TupAt H x vs) : TupAt H' x vs := by
  obtain ⟨t, e, r⟩ := h
  exact ⟨t, e, a t _ r⟩
def LnAt (H : Hp) (x : V) (l : Ln) : Prop := TupAt H x [.int l.sp, .bl l.br, .bl l.du]
def PlAt (H : Hp) (x : V) (l : Int × Bool) : Prop := TupAt H x [.int l.1, .bl l.2]
def RwAt (H : Hp) (x : V) (r : Int) : Prop := TupAt H x [.bl (decide (r = 0)), .int r]
def BlAt (H : Hp) (x : V) (b : Bl) : Prop := TupAt H x [.int (b.c : Int), .int b.s, .bl b.k, .bl b.g]
theorem lnMono {H H' : Hp} {xs : List V} {ys : List Ln} (a : Tups H H') (h : AllAt LnAt H xs ys) : AllAt LnAt H' xs ys := h.mono fun _ _ => TupAt.mono a
theorem plMono {H H' : Hp} {xs : List V} {ys : List (Int × Bool)} (a : Tups H H') (h : AllAt PlAt H xs ys) : AllAt PlAt H' xs ys := h.mono fun _ _ => TupAt.mono a
theorem rwMono {H H' : Hp} {xs : List V} {ys : List Int} (a : Tups H H') (h : AllAt RwAt H xs ys) : AllAt RwAt H' xs ys := h.mono fun _ _ => TupAt.mono a
theorem blMono {H H' : Hp} {xs : List V} {ys : List Bl} (a : Tups H H') (h : AllAt BlAt H xs ys) : AllAt BlAt H' xs ys := h.mono fun _ _ => TupAt.mono a
/-- facts of the program's top -/
structure Txt (K : PySem.W.Frag) (mg : Str → Option Value) (tp C : Addr) : Prop where
  b_len : mg "len" = none
  b_range : mg "range" = none
  b_int : mg "int" = none
  b_abs : mg "abs" = none
  b_enumerate : mg "enumerate" = none
  b_isinstance : mg "isinstance" = none
  b_bool : mg "bool" = none
  b_list : mg "list" = none
  b_tuple : mg "tuple" = none
  b_max : mg "max" = none
  b_min : mg "min" = none
  b_all : mg "all" = none
  g_TOP : mg "TOP" = some (.ref tp)
  top : ∀ H, SqT K H tp [.str "top", .int 0, .int 0]
  cl : Cls K C
  g_Page : mg "Page" = some (.ref C)
  nL : NoAttr K C "length"
  nS : NoAttr K C "_standing"
  nR : NoAttr K C "_rows"
  nO : NoAttr K C "_loose"
  nW : NoAttr K C "_went_over"
section
variable {P : Program} {w : World} {K : PySem.W.Frag} {mg : Str → Option Value} {base : Heap} {tp C : Addr}
/-! ### _longer -/
def spLng : Sp := fun vs H Q _ => ∃ (t s : Int), vs = [.int t, .int s] ∧ Q (.int (lng t s)) H
abbrev s_longer : Stmt := topS 10
theorem sc_longer : FnScope ["tail", "space"] ["tail", "space"] (defScope s_longer) := ⟨rfl, rfl, rfl, by decide +kernel, rfl, by decide +kernel, by decide +kernel⟩
theorem ok_longer {f : Addr} {fd : FuncData} (F : Fun K "_longer" "_longer" s_longer f fd) : FnOk P w K mg base CX0 1 f fd ["tail", "space"] spLng := by
  refine F.ok sc_longer (fun vs H Q E h => ?_) (fun cdv A outer s H vs Q E hr h => ?_)
  · obtain ⟨t, s, rfl, _⟩ := h
    rfl
  · obtain ⟨t, sp, rfl, k⟩ := h
    refine ⟨_, (pss_one (ps_ret (pe_ifExp (pt_cmpR op_gt (pv 0) pe_int (nomark _)) (pe_op op_add (pe_op op_add (pv 0) (pv 1)) pe_int) pe_int))), ?_⟩
    unfold lng at k
    refine ⟨_, rfl, _, _, rfl, rfl, _, rfl, ite2 (fun hc => ?_) (fun hc => ?_)⟩
    · rw [if_pos (of_decide_eq_true hc)] at k
      exact ⟨_, rfl, _, rfl, _, _, rfl, rfl, _, _, rfl, rfl, k⟩
    · rw [if_neg (fun q => hc (decide_eq_true q))] at k
      exact k
/-! ### next_line -/
def spNext : Sp := fun vs H Q _ => ∃ (L h t s : Int) (b : Bool), vs = [.int L, .int h, .int t, .int s, .bl b] ∧ ∀ p, H p = none → Q (.ref p) (upd H p (.tup [.int (nextLine L h t s b).h, .int (nextLine L h t s b).t, .bl (nextLine L h t s b).ov]))
abbrev snext_line : Stmt := topS 9
theorem scnext_line : FnScope ["length", "height", "tail", "space", "barred", "below", "over"] ["length", "height", "tail", "space", "barred"] (defScope snext_line) := ⟨rfl, rfl, rfl, by decide +kernel, rfl, by decide +kernel, by decide +kernel⟩
theorem ok_next {f : Addr} {fd : FuncData} (F : Fun K "next_line" "next_line" snext_line f fd) (C__longer : CallOk P w K mg base 1 "_longer" ["tail", "space"] spLng) : FnOk P w K mg base CX0 2 f fd ["length", "height", "tail", "space", "barred"] spNext := by
  refine F.ok scnext_line (fun vs H Q E h => ?_) (fun cdv A outer s H vs Q E hr h => ?_)
  · obtain ⟨L, h, t, s, b, rfl, _⟩ := h
    rfl
  · obtain ⟨L, h, t, sp, b, rfl, k⟩ := h
    refine ⟨_, (pss_cons (ps_set (i := 5) scnext_line.nd rfl (.inl rfl) (pe_op op_add (pe_op op_add (pv 1) (pv 3)) pe_int))
      (pss_cons (ps_if (PW.pt (pw_and (pt_cmpR op_gt (pv 1) pe_int (nomark _)) (pw_and1 (pt_cmpR op_le (pv 5) (pv 0) (nomark _)))))
        (pss_cons (ps_if (pt_not (pt_val (pv 4)))
          (pss_one (ps_ret (pe_tup (pa_cons (pv 5) (pa_cons pe_int (pa_cons pe_bl pa_nil))))))
          pss_nil)
        (pss_one (ps_ret (pe_tup (pa_cons (pv 5) (pa_cons (pe_cc C__longer (hr.mono (by decide)) (by rfl) (pa_cons (pv 2) (pa_cons (pv 3) pa_nil))) (pa_cons pe_bl pa_nil)))))))
        pss_nil)
      (pss_cons (ps_if (PW.pt (pw_or (pt_not (pt_val (pv 4))) (pw_or1 (pt_cmpR op_eq (pv 2) pe_int (nomark _)))))
        (pss_one (ps_ret (pe_tup (pa_cons pe_int (pa_cons pe_int (pa_cons pe_bl pa_nil))))))
        pss_nil)
      (pss_cons (ps_set (i := 6) scnext_line.nd rfl (.inl rfl) (pe_cc C__longer (hr.mono (by decide)) (by rfl) (pa_cons (pv 2) (pa_cons (pv 3) pa_nil))))
      (pss_one (ps_ret (pe_tup (pa_cons (pe_ifExp (pt_cmpR op_le (pv 6) (pv 0) (nomark _)) (pv 6) pe_int) (pa_cons pe_int (pa_cons pe_bl pa_nil)))))))))), ?_⟩
    unfold nextLine at k
    refine ⟨_, rfl, _, rfl, _, _, rfl, rfl, _, _, rfl, rfl, ?_⟩
    refine join2 (c := ¬ (h > 0 ∧ h + sp + 1 ≤ L)) (G := ?G) (fun rest => ?br) (fun hn => ?fin)
    case br =>
      refine ⟨_, rfl, _, _, rfl, rfl, _, rfl, ite2 (fun h1 => ?_) (fun h1 => ?_)⟩
      · refine ⟨_, rfl, _, rfl, _, _, rfl, rfl, _, rfl, ite2 (fun h2 => ?_) (fun h2 => ?_)⟩
        · have hh : h > 0 ∧ h + sp + 1 ≤ L := ⟨of_decide_eq_true h1, of_decide_eq_true h2⟩
          simp only [hh, and_self, if_true] at k
          cases b with
          | false =>
            refine ⟨_, rfl, _, rfl, iteT ⟨_, rfl, (by show 3 ≤ sizeLine; decide), fun p hp => ?_⟩⟩
            exact k p hp
          | true =>
            refine ⟨_, rfl, _, rfl, iteF ⟨_, rfl, _, rfl, _, rfl, _, _, rfl, (by show 3 ≤ sizeLine; decide), fun p hp => ?_⟩⟩
            exact k p hp
        · exact rest fun q => h2 (decide_eq_true q.2)
      · exact rest fun q => h1 (decide_eq_true q.1)
    case fin =>
      simp only [hn, if_false] at k
      have two : b = false ∨ t = 0 → ∀ p, H p = none → Q (.ref p) (upd H p (.tup [.int 1, .int 0, .bl false])) := fun q p hp => by
        have := k p hp
        simp only [q, if_true] at this
        exact this
      cases b with
      | false =>
        refine ⟨_, rfl, _, rfl, iteT (iteT ⟨(by show 3 ≤ sizeLine; decide), fun p hp => ?_⟩)⟩
        exact two (.inl rfl) p hp
      | true =>
        refine ⟨_, rfl, _, rfl, iteF ⟨_, rfl, rfl, _, rfl, ite2 (fun h1 => ?_) (fun h1 => ?_)⟩⟩
        · refine ⟨(by show 3 ≤ sizeLine; decide), fun p hp => ?_⟩
          exact two (.inr (V.int.inj (of_decide_eq_true h1))) p hp
        · have ht : ¬ t = 0 := fun q => h1 (decide_eq_true (by rw [q]))
          simp only [Bool.true_eq_false, ht, or_self, if_false] at k
          refine ⟨_, rfl, _, rfl, _, _, rfl, ?_⟩
          refine ⟨_, rfl, _, rfl, _, _, rfl, rfl, _, rfl, ite2 (fun h2 => ?_) (fun h2 => ?_)⟩
          · refine ⟨_, rfl, (by show 3 ≤ sizeLine; decide), fun p hp => ?_⟩
            have := k p hp
            rw [if_pos (of_decide_eq_true h2)] at this
            exact this
          · refine ⟨(by show 3 ≤ sizeLine; decide), fun p hp => ?_⟩
            have := k p hp
            rw [if_neg (fun q => h2 (decide_eq_true q))] at this
            exact this
end
end Pa
set_option maxRecDepth 100000
set_option maxHeartbeats 4000000
namespace Pa
open PySem PySem.Spec PyProof.Rows L2
section
variable {X : Cx}
theorem pi_or {tg l : Expr} {w1 w2 : TI} (h1 : PI X tg l w1) (h2 : PI X tg l w2) : PI X tg l (fun σ H R => w1 σ H R ∨ w2 σ H R) :=
  ⟨fun pins s σ H R I h => h.elim (h1.run pins s σ H R I) (h2.run pins s σ H R I)⟩
end
/-! ### ways that meet again: what a piece gives, told once -/
def tPureE (t : TE) : TE := fun σ H Q => ∃ v : V, (∀ Q' : VK, Q' v H → t σ H Q') ∧ Q v H
def tPureT (t : TT) : TT := fun σ H Q => ∃ c : Bool, (∀ Q' : Bool → Hp → Prop, Q' c H → t σ H Q') ∧ Q c H
def tByE (t : TE) : TE := fun σ H Q => ∃ R : V → Hp → Prop, (∀ Q' : VK, (∀ v H', R v H' → Q' v H') → t σ H Q') ∧ ∀ v H', R v H' → Q v H'
def tByS (t : TS) : TS := fun D σ H => ∃ R : L2.St → Hp → Prop, (∀ N : L2.St → Hp → Prop, (∀ σ' H', R σ' H' → N σ' H') → t { D with nx := N } σ H) ∧ ∀ σ' H', R σ' H' → D.nx σ' H'
section
variable {X : Cx} {e : Expr} {st : Stmt}
theorem pe_pure {t : TE} (h : PE X e t) : PE X e (tPureE t) := ⟨fun pins s σ H Q I ⟨_, f, q⟩ => h.run pins s σ H Q I (f Q q)⟩
theorem pt_pure {t : TT} (h : PT X e t) : PT X e (tPureT t) := ⟨fun pins s σ H Q I ⟨_, f, q⟩ => h.run pins s σ H Q I (f Q q)⟩
theorem pe_by {t : TE} (h : PE X e t) : PE X e (tByE t) := ⟨fun pins s σ H Q I ⟨_, f, q⟩ => h.run pins s σ H Q I (f Q q)⟩
theorem ps_by {t : TS} (h : PS X st t) : PS X st (tByS t) := ⟨fun pins s σ H D I ⟨_, f, q⟩ => h.run pins s σ H D I (f D.nx q)⟩
end
theorem all_push {α : Type} {f : α → List V} {H : Hp} {q p : Addr} {ls tv : List V} {ys : List α} {y : α} (hq : H q = some (.lst ls)) (ha : AllAt (fun H x y => TupAt H x (f y)) H ls ys) (hp : H p = none) (et : tv = f y) :
    upd (upd H p (.tup tv)) q (.lst (ls ++ [.ref p])) q = some (.lst (ls ++ [.ref p])) ∧ AllAt (fun H x y => TupAt H x (f y)) (upd (upd H p (.tup tv)) q (.lst (ls ++ [.ref p]))) (ls ++ [.ref p]) (ys ++ [y]) ∧
      (upd H p (.tup tv)) q = some (.lst ls) ∧ ∀ a o, a ≠ q → H a = some o → upd (upd H p (.tup tv)) q (.lst (ls ++ [.ref p])) a = some o := by
  have npq : q ≠ p := fun r => by rw [← r, hq] at hp; cases hp
  have e2 : (upd H p (.tup tv)) q = some (.lst ls) := (upd_ne npq).trans hq
  refine ⟨upd_same, AllAt.mono (fun _ _ => TupAt.mono (Tups.lst e2)) (AllAt.snoc (ha.mono fun _ _ => TupAt.mono (Tups.new hp)) ⟨p, rfl, by rw [upd_same, et]⟩), e2, fun a o na e => ?_⟩
  rw [upd_ne na]
  exact same_new hp _ _ e
theorem in_two (i a b : Int) : inV (.int i) [.int a, .int b] = decide (i = a ∨ i = b) := by
  show ((a == i) || ((b == i) || false)) = _
  rw [Bool.or_false, Bool.eq_iff_iff, Bool.or_eq_true, decide_eq_true_iff, beq_iff_eq, beq_iff_eq]
  constructor
  · rintro (h | h)
    · exact .inl h.symm
    · exact .inr h.symm
  · rintro (h | h)
    · exact .inl h.symm
    · exact .inr h.symm
def wordOf (kd : Bool) (h : Int) : Str := if kd = true then "kept" else if h = 0 then "top" else "open"
def StAt (K : PySem.W.Frag) (H : Hp) (p : Addr) (kd : Bool) (h t : Int) : Prop := ∃ w : Str, SqT K H p [.str w, .int h, .int t] ∧ decide (V.str w = V.str "kept") = kd ∧ w = wordOf kd h
theorem seqT_mono {K : PySem.W.Frag} {H H' : Hp} {p : Addr} {xs : List V} (a : ∀ o, H p = some o → H' p = some o) (h : SqT K H p xs) : SqT K H' p xs := by
  rcases h with (h | ⟨o, h⟩) | h
  · exact .inl (.inl (a _ h))
  · exact .inl (.inr ⟨o, a _ h⟩)
  · exact .inr h
theorem seqL_mono {K : PySem.W.Frag} {H H' : Hp} {p : Addr} {xs : List V} (a : ∀ o, H p = some o → H' p = some o) (h : SqL K H p xs) : SqL K H' p xs := by
  rcases h with (h | ⟨o, h⟩) | h
  · exact .inl (.inl (a _ h))
  · exact .inl (.inr ⟨o, a _ h⟩)
  · exact .inr h
section
variable {P : Program} {w : World} {K : PySem.W.Frag} {mg : Str → Option Value} {base : Heap} {tp C : Addr}
/-! ### line_place -/
def spPlace (K : PySem.W.Frag) : Sp := fun vs H Q _ => ∃ (a : Addr) (kd : Bool) (h t c s : Int) (i : Nat), vs = [.ref a, .int i, .int c, .int s] ∧ StAt K H a kd h t ∧
  ∀ p H', H p = none → Same H H' → H' p = some (.tup [.int (if i = 0 then s else 0), .bl (if i = 0 then kd else decide ((i : Int) = 1 ∨ (i : Int) = c - 1))]) → Q (.ref p) H'
abbrev sline_place : Stmt := topS 11
theorem scline_place : FnScope ["standing", "at", "count", "space"] ["standing", "at", "count", "space"] (defScope sline_place) := ⟨rfl, rfl, rfl, by decide +kernel, rfl, by decide +kernel, by decide +kernel⟩
theorem ok_place {f : Addr} {fd : FuncData} (F : Fun K "line_place" "line_place" sline_place f fd) : FnOk P w K mg base CX0 1 f fd ["standing", "at", "count", "space"] (spPlace K) := by
  refine F.ok scline_place (fun vs H Q E h => ?_) (fun cdv A outer s H vs Q E hr h => ?_)
  · obtain ⟨a, kd, h, t, c, s, i, rfl, _⟩ := h
    rfl
  · obtain ⟨a, kd, h, t, c, sp, i, rfl, ⟨wd, ha, hk, _⟩, k⟩ := h
    refine ⟨_, (pss_cons (ps_if (pt_cmpR op_eq (pv 1) pe_int (nomark _))
        (pss_one (ps_ret (pe_tup (pa_cons (pv 3) (pa_cons (pe_cmpR op_eq (pe_ix ix_tup (pv 0) pe_int (fun _ _ => rfl)) pe_str (nomark _)) pa_nil)))))
        pss_nil)
      (pss_one (ps_ret (pe_tup (pa_cons pe_int (pa_cons (pe_cmpR op_in_seq (pv 1) (pe_tup (pa_cons pe_int (pa_cons (pe_op op_sub (pv 2) pe_int) pa_nil))) (by rfl)) pa_nil)))))), ?_⟩
    refine ⟨_, rfl, rfl, _, rfl, ite2 (fun h1 => ?_) (fun h1 => ?_)⟩
    · have hi : i = 0 := by
        have := V.int.inj (of_decide_eq_true h1)
        omega
      refine ⟨_, rfl, _, rfl, a, _, _, _, rfl, rfl, ha, atI_nat (j := 0) rfl, rfl, (by show 2 ≤ sizeLine; decide), fun p hp => ?_⟩
      refine k p _ hp (same_new hp) ?_
      rw [upd_same, hi, if_pos rfl, if_pos rfl, ← hk]
    · have hi : ¬ i = 0 := fun q => h1 (decide_eq_true (by rw [q]; rfl))
      refine ⟨_, rfl, _, rfl, _, _, rfl, rfl, (by show 2 ≤ sizeLine; decide), fun q hq => ⟨q, _, rfl, .inr (SqT.of upd_same), rfl, rfl, (by show 2 ≤ sizeLine; decide), fun p hp => ?_⟩⟩
      have hp0 : H p = none := (same_new (o := .tup [V.int 1, V.int (c - 1)]) hq).free hp
      refine k p _ hp0 ((same_new hq).trans (same_new hp)) ?_
      rw [upd_same, if_neg hi, if_neg hi, ← in_two]
      rfl
/-! ### standing_of -/
def endK (L h t : Int) (k : Bool) : Bool × Int × Int := if h = L ∧ (k = false ∨ t = 0) then (false, 0, 0) else if k = true then (true, h, t) else (false, h, 0)
def spStand (K : PySem.W.Frag) : Sp := fun vs H Q _ => ∃ (L h t : Int) (k : Bool), vs = [.int L, .int h, .int t, .bl k] ∧ 1 ≤ h ∧
  ∀ p H', Same H H' → StAt K H' p (endK L h t k).1 (endK L h t k).2.1 (endK L h t k).2.2 → Q (.ref p) H'
theorem nt_ : decide (V.str "top" = V.str "kept") = false := by decide +kernel
theorem no_ : decide (V.str "open" = V.str "kept") = false := by decide +kernel
theorem nk_ : decide (V.str "kept" = V.str "kept") = true := by decide +kernel
abbrev sstanding_of : Stmt := topS 12
theorem scstanding_of : FnScope ["length", "height", "tail", "kept"] ["length", "height", "tail", "kept"] (defScope sstanding_of) := ⟨rfl, rfl, rfl, by decide +kernel, rfl, by decide +kernel, by decide +kernel⟩
theorem ok_stand {f : Addr} {fd : FuncData} (F : Fun K "standing_of" "standing_of" sstanding_of f fd) (T : Txt K mg tp C) : FnOk P w K mg base CX0 1 f fd ["length", "height", "tail", "kept"] (spStand K) := by
  refine F.ok scstanding_of (fun vs H Q E h => ?_) (fun cdv A outer s H vs Q E hr h => ?_)
  · obtain ⟨L, h, t, k, rfl, _⟩ := h
    rfl
  · obtain ⟨L, h, t, kp, rfl, h1h, k⟩ := h
    refine ⟨_, (pss_cons (ps_if (PW.pt (pw_and (pt_cmpR op_eq (pv 1) (pv 0) (nomark _)) (pw_and1 (PW.pt (pw_or (pt_not (pt_val (pv 3))) (pw_or1 (pt_cmpR op_eq (pv 2) pe_int (nomark _))))))))
        (pss_one (ps_ret (pe_glob (v := .ref tp) (by rfl) T.g_TOP rfl)))
        pss_nil)
      (pss_one (ps_ret (pe_ifExp (pt_val (pv 3)) (pe_tup (pa_cons pe_str (pa_cons (pv 1) (pa_cons (pv 2) pa_nil)))) (pe_tup (pa_cons pe_str (pa_cons (pv 1) (pa_cons pe_int pa_nil)))))))), ?_⟩
    have atop : (h = L ∧ (kp = false ∨ t = 0)) → Q (.ref tp) H := fun q => by
      refine k tp H (Same.refl H) ?_
      unfold endK
      rw [if_pos q]
      exact ⟨"top", T.top H, nt_, rfl⟩
    refine join2 (c := ¬ (h = L ∧ (kp = false ∨ t = 0))) (G := ?G) (fun rest => ?br) (fun hn => ?fin)
    case br =>
      refine ⟨_, rfl, _, rfl, rfl, _, rfl, ite2 (fun h1 => ?_) (fun h1 => ?_)⟩
      · have e1 := V.int.inj (of_decide_eq_true h1)
        rcases twoB kp with hb | hb
        · refine ⟨_, rfl, _, rfl, iteQ (notT hb) ⟨_, rfl, rfl, _, rfl, ite2 (fun h2 => ?_) (fun h2 => ?_)⟩⟩
          · exact atop ⟨e1, .inr (V.int.inj (of_decide_eq_true h2))⟩
          · have nq : ¬ (h = L ∧ (kp = false ∨ t = 0)) := fun q => by
              rcases q.2 with q | q
              · rw [hb] at q; cases q
              · exact h2 (decide_eq_true (by rw [q]))
            exact rest nq
        · refine ⟨_, rfl, _, rfl, iteP (notF hb) (iteT ?_)⟩
          exact atop ⟨e1, .inl hb⟩
      · refine iteF ?_
        exact rest fun q => h1 (decide_eq_true (by rw [q.1]))
    case fin =>
      unfold endK at k
      rw [if_neg hn] at k
      cases kp with
      | true =>
        refine ⟨_, rfl, _, rfl, iteT ⟨_, rfl, _, rfl, (by show 3 ≤ sizeLine; decide), fun p hp => ?_⟩⟩
        exact k p _ (same_new hp) ⟨"kept", SqT.of upd_same, nk_, rfl⟩
      | false =>
        refine ⟨_, rfl, _, rfl, iteF ⟨_, rfl, (by show 3 ≤ sizeLine; decide), fun p hp => ?_⟩⟩
        exact k p _ (same_new hp) ⟨"open", SqT.of upd_same, no_, (if_neg (show ¬ h = 0 by omega)).symm⟩
end
end Pa
set_option maxRecDepth 100000
set_option maxHeartbeats 4000000
namespace Pa
open PySem PySem.Spec PyProof.Rows L2
/-- a book's blocks: few, small -/
structure Book (bs : List Bl) : Prop where
  few : bs.length ≤ 20
  small : ∀ b ∈ bs, b.c ≤ 100 ∧ 0 ≤ b.s
theorem linesOf_len (bs : List Bl) : ∀ n, (∀ b ∈ bs, b.c ≤ n) → (linesOf bs).ls.length ≤ bs.length * n := by
  intro n
  rw [← List.reverse_reverse bs]
  generalize bs.reverse = r
  induction r with
  | nil => intro _; simp [linesOf]
  | cons b r ih =>
    intro h
    rw [List.reverse_cons] at h ⊢
    rw [linesOf_snoc, List.length_append, List.length_singleton]
    have h1 := ih fun x hx => h x (List.mem_append_left _ hx)
    have h2 := h b (by simp)
    show ((linesOf r.reverse).ls ++ blLines b.c b.s (linesOf r.reverse).kp ((linesOf r.reverse).du || b.g) b.c).length ≤ _
    rw [List.length_append, Nat.add_mul, Nat.one_mul]
    have : (blLines b.c b.s (linesOf r.reverse).kp ((linesOf r.reverse).du || b.g) b.c).length = b.c := by unfold blLines; simp
    omega
theorem Book.len {bs : List Bl} (B : Book bs) : (linesOf bs).ls.length ≤ 2000 := by
  have h1 := linesOf_len bs 100 fun b hb => (B.small b hb).1
  have h2 := B.few
  omega
theorem AllAt.imp {α : Type} {R : Hp → V → α → Prop} {H H' : Hp} : ∀ {xs : List V} {ys : List α}, (∀ x y, x ∈ xs → R H x y → R H' x y) → AllAt R H xs ys → AllAt R H' xs ys
  | [], [], _, _ => trivial
  | x :: xs, _ :: _, f, h => ⟨f _ _ List.mem_cons_self h.1, AllAt.imp (fun x y hx => f x y (List.mem_cons_of_mem _ hx)) h.2⟩
  | [], _ :: _, _, h => h.elim
  | _ :: _, [], _, h => h.elim
theorem AllAt.rev {α : Type} {R : Hp → V → α → Prop} {H : Hp} : ∀ {xs : List V} {ys : List α}, AllAt R H xs ys → AllAt R H xs.reverse ys.reverse
  | [], [], _ => trivial
  | x :: xs, y :: ys, h => by
    rw [List.reverse_cons, List.reverse_cons]
    exact AllAt.snoc (AllAt.rev h.2) h.1
  | [], _ :: _, h => h.elim
  | _ :: _, [], h => h.elim
theorem dec_int (r z : Int) : decide (V.int r = V.int z) = decide (r = z) := by
  by_cases h : r = z
  · rw [h]; simp
  · rw [decide_eq_false h, decide_eq_false (fun q => h (V.int.inj q))]
theorem ln_get {ls : List Ln} {i : Nat} {l : Ln} (h : ls[i]? = some l) : ln ls i = l := by
  unfold ln
  rw [h]
  rfl
theorem lnTo {H : Hp} {lv : List V} {ls : List Ln} {i : Nat} (h : AllAt LnAt H lv ls) (hi : i < ls.length) : ∃ t, lv[i]? = some (.ref t) ∧ H t = some (.tup [.int (ln ls i).sp, .bl (ln ls i).br, .bl (ln ls i).du]) := by
  obtain ⟨x, hx, t, rfl, ht⟩ := h.to (List.getElem?_eq_getElem hi)
  have e : ln ls i = ls[i] := ln_get (List.getElem?_eq_getElem hi)
  rw [← e] at ht
  exact ⟨t, hx, ht⟩
theorem lnTo' {H H' : Hp} {lv : List V} {ls : List Ln} {i : Nat} (s : Same H H') (h : AllAt LnAt H lv ls) (hi : i < ls.length) : ∃ t, lv[i]? = some (.ref t) ∧ H' t = some (.tup [.int (ln ls i).sp, .bl (ln ls i).br, .bl (ln ls i).du]) := by
  obtain ⟨t, h1, h2⟩ := lnTo h hi
  exact ⟨t, h1, s _ _ h2⟩
end Pa
set_option maxRecDepth 100000
set_option maxHeartbeats 4000000
namespace Pa
open PySem PySem.Spec PyProof.Rows L2
/-! ### methods, by one fact each -/
structure MethOk (P : Program) (w : World) (K : PySem.W.Frag) (mg : Str → Option Value) (base : Heap) (C : Addr) (k : Nat) (m : Str) (ps : List Str) (sp : Sp) : Prop where
  ok : ∃ (f : Addr) (fd : FuncData), Meth K C m f ∧ Binds K fd ps [] ∧ FnOk P w K mg base CX0 k f fd ps sp
section
variable {X : Cx} {k : Nat} {ps : List Str} {sp : Sp} {m : Str} {C : Addr} {apos pos : Pos} {o e : Expr} {es : List Expr} {t : TA} {ta : TE} {pl : Sem Bool}
theorem pe_mc (he : PE X o ta) (c : Cls X.K C) (M : MethOk X.prog X.w X.K X.mg X.base C k m ps sp) (hr : Room k X.A) (ha : PA X (e :: es) t)
    (hst : starEach (e :: es) X.env = (false, eval e X.env) :: starEach es X.env := by rfl) (hpl : (backTo pos (starEach es X.env)).any (·.1) = false := by rfl)
    (ht : eval (.Call (.Attribute o m apos) (e :: es) [] pos) X.env = (do
      let z ← eval o X.env
      standAt apos.atName
      let (f, first) ← holding [z] (getMethod z m pl)
      callWith pos f first (backTo pos (starEach (e :: es) X.env)) (backToKw pos (keywordEach [] X.env))) := by rfl) :
    PE X (.Call (.Attribute o m apos) (e :: es) [] pos) (tMeth C m sp [] E0 ta t) := by
  obtain ⟨f, fd, h1, h2, h3⟩ := M.ok
  exact pe_meth he c h1 h3 hr h2 .nil pass0 ha hst hpl ht
theorem pe_mc0 (he : PE X o ta) (c : Cls X.K C) (M : MethOk X.prog X.w X.K X.mg X.base C k m ps sp) (hr : Room k X.A)
    (ht : eval (.Call (.Attribute o m apos) [] [] pos) X.env = (do
      let z ← eval o X.env
      standAt apos.atName
      let (f, first) ← holding [z] (getMethod z m pl)
      callWith pos f first (backTo pos (starEach [] X.env)) (backToKw pos (keywordEach [] X.env))) := by rfl) :
    PE X (.Call (.Attribute o m apos) [] [] pos) (tMeth C m sp [] E0 ta tNil) := by
  obtain ⟨f, fd, h1, h2, h3⟩ := M.ok
  exact pe_meth0 he c h1 h3 hr h2 .nil pass0 ht
end
/-! ### a Page's attributes -/
/-- None, True, False -/
def wv : Option Bool → V
  | none => .non
  | some b => .bl b
theorem wv_set (o : Option Bool) (h : o = none) : wv (settleW o) = .bl false := by rw [h]; rfl
def pf (L : Int) (st rl : Addr) (lo : Int) (ww : Option Bool) : List (Str × V) := [("length", .int L), ("_standing", .ref st), ("_rows", .ref rl), ("_loose", .int lo), ("_went_over", wv ww)]
section
variable (L : Int) (st rl : Addr) (lo : Int) (ww : Option Bool)
theorem pf_length : (pf L st rl lo ww).lookup ("length" : Str) = some (.int L) := rfl
theorem pf_standing : (pf L st rl lo ww).lookup ("_standing" : Str) = some (.ref st) := rfl
theorem pf_rows : (pf L st rl lo ww).lookup ("_rows" : Str) = some (.ref rl) := rfl
theorem pf_loose : (pf L st rl lo ww).lookup ("_loose" : Str) = some (.int lo) := rfl
theorem pf_went : (pf L st rl lo ww).lookup ("_went_over" : Str) = some (wv ww) := rfl
theorem put_standing (st' : Addr) : putF "_standing" (.ref st') (pf L st rl lo ww) = pf L st' rl lo ww := rfl
theorem put_loose (lo' : Int) : putF "_loose" (.int lo') (pf L st rl lo ww) = pf L st rl lo' ww := rfl
theorem put_went (w2 : Option Bool) : putF "_went_over" (wv w2) (pf L st rl lo ww) = pf L st rl lo w2 := rfl
theorem no_settle : (pf L st rl lo ww).lookup ("_settle" : Str) = none := rfl
theorem no_put : (pf L st rl lo ww).lookup ("_put" : Str) = none := rfl
theorem no_over : (pf L st rl lo ww).lookup ("_go_over" : Str) = none := rfl
theorem no_begin : (pf L st rl lo ww).lookup ("begin" : Str) = none := rfl
theorem no_block : (pf L st rl lo ww).lookup ("block" : Str) = none := rfl
theorem no_finish : (pf L st rl lo ww).lookup ("finish" : Str) = none := rfl
theorem put_all (L : Int) (st rl : Addr) (lo : Int) : putF "_went_over" (.bl false) (putF "_loose" (.int lo) (putF "_rows" (.ref rl) (putF "_standing" (.ref st) (putF "length" (.int L) [])))) = pf L st rl lo (some false) := rfl
end
structure PA' (C : Addr) (L : Int) (x dx rl st : Addr) (lo : Int) (ww : Option Bool) (rows : List Int) (H : Hp) : Prop where
  ob : H x = some (.ins C dx (pf L st rl lo ww))
  rs : H rl = some (.lst (rows.map V.int))
def Keep (x rl : Addr) (H H' : Hp) : Prop := ∀ a o, a ≠ x → a ≠ rl → H a = some o → H' a = some o
theorem Keep.trans {x rl : Addr} {H H1 H2 : Hp} (a : Keep x rl H H1) (b : Keep x rl H1 H2) : Keep x rl H H2 := fun u o h1 h2 e => b u o h1 h2 (a u o h1 h2 e)
theorem Keep.of {x rl : Addr} {H H' : Hp} (a : Same H H') : Keep x rl H H' := fun u o _ _ e => a u o e
section
variable {C x dx rl st : Addr} {L lo : Int} {ww : Option Bool} {rows : List Int} {H H' : Hp}
theorem PA'.ne (h : PA' C L x dx rl st lo ww rows H) : x ≠ rl := fun q => by
  have e1 := h.ob
  rw [q, h.rs] at e1
  cases e1
theorem PA'.same (h : PA' C L x dx rl st lo ww rows H) (s : Same H H') : PA' C L x dx rl st lo ww rows H' := ⟨s _ _ h.ob, s _ _ h.rs⟩
theorem PA'.put (h : PA' C L x dx rl st lo ww rows H) (st' : Addr) (lo' : Int) (w2 : Option Bool) : PA' C L x dx rl st' lo' w2 rows (upd H x (.ins C dx (pf L st' rl lo' w2))) ∧ Keep x rl H (upd H x (.ins C dx (pf L st' rl lo' w2))) :=
  ⟨⟨upd_same, (upd_ne h.ne.symm).trans h.rs⟩, fun a o h1 _ e => (upd_ne h1).trans e⟩
theorem PA'.row (h : PA' C L x dx rl st lo ww rows H) (rows' : List Int) : PA' C L x dx rl st lo ww rows' (upd H rl (.lst (rows'.map V.int))) ∧ Keep x rl H (upd H rl (.lst (rows'.map V.int))) :=
  ⟨⟨(upd_ne h.ne).trans h.ob, upd_same⟩, fun a o _ h2 e => (upd_ne h2).trans e⟩
end
section
variable {P : Program} {w : World} {K : PySem.W.Frag} {mg : Str → Option Value} {base : Heap} {tp C : Addr}
/-! ### _settle -/
def spSettle (C : Addr) : Sp := fun vs H Q _ => ∃ (x dx rl st : Addr) (L lo : Int) (ww : Option Bool) (rows : List Int), vs = [.ref x] ∧ PA' C L x dx rl st lo ww rows H ∧ ∀ H', PA' C L x dx rl st 0 (settleW ww) rows H' → Keep x rl H H' → Q .non H'
abbrev sPage__settle : Stmt := inClass (topS 14) 6
theorem scPage__settle : FnScope ["self"] ["self"] (defScope sPage__settle) := ⟨rfl, rfl, rfl, by decide +kernel, rfl, by decide +kernel, by decide +kernel⟩
theorem ok_settle {f : Addr} {fd : FuncData} (F : Fun K "_settle" "Page._settle" sPage__settle f fd) (T : Txt K mg tp C) : FnOk P w K mg base CX0 1 f fd ["self"] (spSettle C) := by
  refine F.ok scPage__settle (fun vs H Q E h => ?_) (fun cdv A outer s H vs Q E hr h => ?_)
  · obtain ⟨x, dx, rl, st, L, lo, ww, rows, rfl, _⟩ := h
    rfl
  · obtain ⟨x, dx, rl, st, L, lo, ww, rows, rfl, pa, k⟩ := h
    refine ⟨_, (pss_cons (ps_fld (pv 0) pe_int rfl)
      (pss_one (ps_if (pt_cmpR op_isN (pe_fld (pv 0) rfl) pe_non (nomark _))
        (pss_one (ps_fld (pv 0) pe_bl rfl))
        pss_nil))), ?_⟩
    obtain ⟨p1, p2⟩ := pa.put st 0 ww
    refine ⟨_, rfl, x, C, dx, _, rfl, pa.ob, T.cl, T.nO, (by show 5 < 1000; decide), ?_⟩
    rw [put_loose]
    refine ⟨_, rfl, x, C, dx, _, _, rfl, p1.ob, T.cl, T.nW, pf_went _ _ _ _ _, rfl, _, rfl, ?_⟩
    cases ww with
    | none =>
      refine iteP (by rfl) ?_
      obtain ⟨q1, q2⟩ := p1.put st 0 (some false)
      refine ⟨_, rfl, x, C, dx, _, rfl, p1.ob, T.cl, T.nW, (by show 5 < 1000; decide), ?_⟩
      rw [show V.bl false = wv (some false) from rfl, put_went]
      exact k _ q1 (p2.trans q2)
    | some v =>
      refine iteQ (by show ¬ decide (V.bl v = V.non) = true; simp) ?_
      exact k _ p1 p2
/-! ### begin -/
def spBegin (C tp : Addr) : Sp := fun vs H Q _ => ∃ (x dx rl st : Addr) (L lo : Int) (ww : Option Bool) (rows : List Int), vs = [.ref x] ∧ PA' C L x dx rl st lo ww rows H ∧ ∀ H', PA' C L x dx rl tp 0 (settleW ww) rows H' → Keep x rl H H' → Q .non H'
abbrev sPage_begin : Stmt := inClass (topS 14) 2
theorem scPage_begin : FnScope ["self"] ["self"] (defScope sPage_begin) := ⟨rfl, rfl, rfl, by decide +kernel, rfl, by decide +kernel, by decide +kernel⟩
theorem ok_begin {f : Addr} {fd : FuncData} (F : Fun K "begin" "Page.begin" sPage_begin f fd) (T : Txt K mg tp C) (M__settle : MethOk P w K mg base C 1 "_settle" ["self"] (spSettle C)) : FnOk P w K mg base CX0 2 f fd ["self"] (spBegin C tp) := by
  refine F.ok scPage_begin (fun vs H Q E h => ?_) (fun cdv A outer s H vs Q E hr h => ?_)
  · obtain ⟨x, dx, rl, st, L, lo, ww, rows, rfl, _⟩ := h
    rfl
  · obtain ⟨x, dx, rl, st, L, lo, ww, rows, rfl, pa, k⟩ := h
    refine ⟨_, (pss_cons (ps_fld (pv 0) (pe_glob (v := .ref tp) (by rfl) T.g_TOP rfl) rfl)
      (pss_one (ps_expr (pe_mc0 (pv 0) T.cl M__settle (hr.mono (by decide)))))), ?_⟩
    obtain ⟨p1, p2⟩ := pa.put tp lo ww
    refine ⟨_, rfl, x, C, dx, _, rfl, pa.ob, T.cl, T.nS, (by show 5 < 1000; decide), ?_⟩
    rw [put_standing]
    refine ⟨_, rfl, x, dx, _, rfl, p1.ob, no_settle _ _ _ _ _, x, dx, rl, tp, L, lo, ww, rows, rfl, p1, fun H2 q1 q2 => ?_⟩
    exact k _ q1 (p2.trans q2)
/-! ### _put -/
def spPut (C : Addr) : Sp := fun vs H Q _ => ∃ (x dx rl st : Addr) (L lo h t : Int) (ww : Option Bool) (rows : List Int), vs = [.ref x, .int h, .int t] ∧ PA' C L x dx rl st lo ww rows H ∧ rows.length ≤ 100000 ∧ ∀ H', PA' C L x dx rl st (if t > 1 then lo + 1 else t) (if t > 1 then ww else settleW ww) (rows ++ [h - 1]) H' → Keep x rl H H' → Q .non H'
abbrev sPage__put : Stmt := inClass (topS 14) 4
theorem scPage__put : FnScope ["self", "height", "tail"] ["self", "height", "tail"] (defScope sPage__put) := ⟨rfl, rfl, rfl, by decide +kernel, rfl, by decide +kernel, by decide +kernel⟩
theorem ok_put {f : Addr} {fd : FuncData} (F : Fun K "_put" "Page._put" sPage__put f fd) (T : Txt K mg tp C) (M__settle : MethOk P w K mg base C 1 "_settle" ["self"] (spSettle C)) : FnOk P w K mg base CX0 2 f fd ["self", "height", "tail"] (spPut C) := by
  refine F.ok scPage__put (fun vs H Q E h => ?_) (fun cdv A outer s H vs Q E hr h => ?_)
  · obtain ⟨x, dx, rl, st, L, lo, h, t, ww, rows, rfl, _⟩ := h
    rfl
  · obtain ⟨x, dx, rl, st, L, lo, h, t, ww, rows, rfl, pa, hlen, k⟩ := h
    refine ⟨_, (pss_cons (ps_expr (pe_bm PySem.F.plainAttrs_list PySem.F.slot_list_append PySem.F.type_list_append mt_append (pe_fld (pv 0) rfl) (pa_cons (pe_op op_sub (pv 1) pe_int) pa_nil)))
      (pss_one (ps_if (pt_cmpR op_gt (pv 2) pe_int (nomark _))
        (pss_one (ps_fldaug (pv 0) pe_int in_add))
        (pss_cons (ps_expr (pe_mc0 (pv 0) T.cl M__settle (hr.mono (by decide))))
        (pss_one (ps_fld (pv 0) (pv 2) rfl)))))), ?_⟩
    obtain ⟨p1, p2⟩ := pa.row (rows ++ [h - 1])
    have em : (rows ++ [h - 1]).map V.int = rows.map V.int ++ [.int (h - 1)] := by simp
    rw [em] at p1 p2
    refine ⟨_, rfl, x, C, dx, _, _, rfl, pa.ob, T.cl, T.nR, pf_rows _ _ _ _ _, .inl ⟨rfl, _, SqL.of pa.rs⟩, _, rfl, _, _, rfl, rfl, rl, _, _, rfl, rfl, pa.rs, ?_, ?_⟩
    · rw [List.length_map]; exact Nat.lt_of_le_of_lt hlen (by decide)
    refine ⟨_, rfl, _, _, rfl, rfl, _, rfl, ite2 (fun h1 => ?_) (fun h1 => ?_)⟩
    · rw [if_pos (of_decide_eq_true h1), if_pos (of_decide_eq_true h1)] at k
      obtain ⟨q1, q2⟩ := p1.put st (lo + 1) ww
      refine ⟨_, rfl, x, C, dx, _, _, rfl, p1.ob, T.cl, T.nO, pf_loose _ _ _ _ _, _, _, rfl, rfl, dx, _, p1.ob, (by show 5 < 1000; decide), ?_⟩
      rw [put_loose]
      exact k _ q1 (p2.trans q2)
    · rw [if_neg (fun r => h1 (decide_eq_true r)), if_neg (fun r => h1 (decide_eq_true r))] at k
      refine ⟨_, rfl, x, dx, _, rfl, p1.ob, no_settle _ _ _ _ _, x, dx, rl, st, L, lo, ww, _, rfl, p1, fun H2 q1 q2 => ?_⟩
      obtain ⟨r1, r2⟩ := q1.put st t (settleW ww)
      refine ⟨_, rfl, _, rfl, x, C, dx, _, rfl, q1.ob, T.cl, T.nO, (by show 5 < 1000; decide), ?_⟩
      rw [put_loose]
      exact k _ r1 ((p2.trans q2).trans r2)
end
end Pa
set_option maxRecDepth 100000
set_option maxHeartbeats 4000000
namespace Pa
open PySem PySem.Spec PyProof.Rows L2
theorem cutV_from {xs : List V} {n : Nat} (h : n ≤ xs.length) : cutV xs (some (n : Int)) none = xs.drop n := by
  unfold cutV
  rw [HT.sIx_nat, HT.sIx_none, Nat.min_eq_left h]
  exact List.take_of_length_le (by rw [List.length_drop]; exact Nat.le_refl _)
theorem overR_len (rows : List Int) (lo b : Int) : (overR rows lo b).length = rows.length := by
  unfold overR
  rw [List.length_append, List.length_map, List.length_take, List.length_drop]
  omega
theorem endR_eq (L : Int) (p : RP) (k : Bool) : endR L p k = ⟨(endK L p.h p.t k).1, (endK L p.h p.t k).2.1, (endK L p.h p.t k).2.2, if (endK L p.h p.t k).2.2 = 0 then 0 else p.lo, p.rows, if (endK L p.h p.t k).2.2 = 0 then settleW p.w else p.w⟩ := by
  unfold endR endK
  split
  · rfl
  · split
    · rfl
    · rfl
theorem seqT_keep {K : PySem.W.Frag} {x rl C dx : Addr} {fs : List (Str × V)} {ys xs : List V} {H H' : Hp} {p : Addr} (hk : Keep x rl H H') (hx : H x = some (.ins C dx fs)) (hr : H rl = some (.lst ys)) (h : SqT K H p xs) : SqT K H' p xs := by
  rcases h with (h | ⟨o, h⟩) | h
  · exact .inl (.inl (hk _ _ (fun q => by rw [q, hx] at h; cases h) (fun q => by rw [q, hr] at h; cases h) h))
  · exact .inl (.inr ⟨o, hk _ _ (fun q => by rw [q, hx] at h; cases h) (fun q => by rw [q, hr] at h; cases h) h⟩)
  · exact .inr h
theorem StAt.keep {K : PySem.W.Frag} {x rl dx st p C : Addr} {L lo h t : Int} {ww : Option Bool} {rows : List Int} {kd : Bool} {H H' : Hp} (hk : Keep x rl H H') (pa : PA' C L x dx rl st lo ww rows H) (s : StAt K H p kd h t) : StAt K H' p kd h t := by
  obtain ⟨w, s1, s2, s3⟩ := s
  exact ⟨w, seqT_keep hk pa.ob pa.rs s1, s2, s3⟩
section
variable {P : Program} {w : World} {K : PySem.W.Frag} {mg : Str → Option Value} {base : Heap} {tp C : Addr}
/-! ### _go_over -/
def spOver (C : Addr) : Sp := fun vs H Q _ => ∃ (x dx rl st : Addr) (L lo bf : Int) (ww : Option Bool) (rows : List Int), vs = [.ref x, .int bf] ∧ PA' C L x dx rl st lo ww rows H ∧ 0 ≤ lo ∧ lo ≤ (rows.length : Int) ∧ rows.length ≤ 100000 ∧
  ∀ H', PA' C L x dx rl st lo (overW ww) (overR rows lo bf) H' → Keep x rl H H' → Q .non H'
abbrev sPage__go_over : Stmt := inClass (topS 14) 5
theorem scPage__go_over : FnScope ["self", "rows", "first", "row"] ["self", "rows"] (defScope sPage__go_over) := ⟨rfl, rfl, rfl, by decide +kernel, rfl, by decide +kernel, by decide +kernel⟩
theorem ok_over {f : Addr} {fd : FuncData} (F : Fun K "_go_over" "Page._go_over" sPage__go_over f fd) (T : Txt K mg tp C) : FnOk P w K mg base CX0 1 f fd ["self", "rows"] (spOver C) := by
  refine F.ok scPage__go_over (fun vs H Q E h => ?_) (fun cdv A outer s H vs Q E hr h => ?_)
  · obtain ⟨x, dx, rl, st, L, lo, bf, ww, rows, rfl, _⟩ := h
    rfl
  · obtain ⟨x, dx, rl, st, L, lo, bf, ww, rows, rfl, pa, lo0, lo1, hlen, k⟩ := h
    refine ⟨_, (pss_cons (ps_set (i := 2) scPage__go_over.nd rfl (.inl rfl) (pe_pure (pe_op op_sub (pe_callB call_len_seq (by rfl) T.b_len PySem.boot_len (pa_cons (pe_fld (pv 0) rfl) pa_nil)) (pe_fld (pv 0) rfl))))
      (pss_cons (ps_asg (pe_lc (own := [("row", 3)]) (g := gName 3) (tt := tYes) rfl scPage__go_over.nd (pi_list (pe_slice sl_list (pe_fld (pv 0) rfl) (po_some (pv 2)) po_none)) (blkOk_by (N := ["self", "rows", "first", "row"]) (sc := defScope sPage__go_over) (by decide +kernel)) (fun _ _ _ _ _ => (pg_name (i := 3) scPage__go_over.nd rfl (.inl rfl))) (fun _ _ _ _ _ => pts_nil) (fun _ _ _ _ _ => (pe_op op_sub (pv 3) (pv 1)))) (pg_end (pe_fld (pv 0) rfl) (pv 2)))
      (pss_one (ps_if (pt_cmpR op_isN (pe_fld (pv 0) rfl) pe_non (nomark _))
        (pss_one (ps_fld (pv 0) pe_bl rfl))
        pss_nil)))), ?_⟩
    have ea : ((rows.map V.int).length : Int) - lo = ((rows.length - lo.toNat : Nat) : Int) := by rw [List.length_map]; omega
    refine ⟨.int ((rows.length - lo.toNat : Nat) : Int), fun Q' hQ => ⟨_, rfl, x, C, dx, _, _, rfl, pa.ob, T.cl, T.nR, pf_rows _ _ _ _ _, rl, _, rfl, .inl (SqL.of pa.rs), _, rfl, x, C, dx, _, _, rfl, pa.ob, T.cl, T.nO, pf_loose _ _ _ _ _, _, _, rfl, rfl, ?_⟩, ?_⟩
    · rw [← ea] at hQ
      exact hQ
    generalize hn : rows.length - lo.toNat = n
    have hnl : n ≤ rows.length := by omega
    refine ⟨_, rfl, x, C, dx, _, _, rfl, pa.ob, T.cl, T.nR, pf_rows _ _ _ _ _, _, rfl, _, rfl, rl, _, rfl, SqL.of pa.rs, fun S hS => ⟨S, rfl, ⟨_, SqL.of upd_same⟩, fun D hD => ?_⟩⟩
    have ecut : cutV (rows.map V.int) (some (n : Int)) none = (rows.drop n).map V.int := by rw [cutV_from (by rw [List.length_map]; exact hnl), List.map_drop]
    rw [ecut] at hD ⊢
    have sS : Same H (upd H S (.lst ((rows.drop n).map V.int))) := same_new hS
    have hS0 : (upd H S (.lst ((rows.drop n).map V.int))) S = some (.lst ((rows.drop n).map V.int)) := upd_same
    generalize upd H S (.lst ((rows.drop n).map V.int)) = H1 at hD sS hS0 ⊢
    refine lc_list (K := K) (a := S) (xs := (rows.drop n).map V.int) (fun i H3 => Same H1 H3 ∧ H3 D = some (.lst (((rows.drop n).take i).map fun r => V.int (r - bf)))) ⟨same_new hD, upd_same⟩ (fun i H3 _ q => SqL.of (q.1 _ _ hS0)) ?_ ?_
    · rintro i y H3 hi ⟨s3, h3⟩
      rw [List.getElem?_map] at hi
      obtain ⟨r, hr, rfl⟩ := Option.map_eq_some_iff.mp hi
      have hil : i < rows.length := by
        have := (List.getElem?_eq_some_iff.mp hr).1
        rw [List.length_drop] at this
        omega
      refine ⟨rfl, ?_⟩
      refine ⟨_, rfl, _, rfl, _, _, rfl, rfl, _, h3, ?_, fun q o e => ?_, ?_⟩
      · rw [List.length_map, List.length_take]
        exact Nat.lt_of_le_of_lt (m := 100000) (by omega) (by decide)
      · rw [upd_ne (fun r => by rw [r, hD] at e; cases e)]
        exact s3 _ _ e
      · rw [upd_same, List.take_add_one, hr]
        simp
    · rintro H3 ⟨s3, h3⟩
      rw [List.length_map, List.take_of_length_le (Nat.le_refl _)] at h3
      have sH : Same H H3 := sS.trans s3
      have nrD : rl ≠ D := fun r => by
        have := sS _ _ pa.rs
        rw [r, hD] at this
        cases this
      have el : (rows.map V.int).take n ++ (rows.drop n).map (fun r => V.int (r - bf)) = (overR rows lo bf).map V.int := by
        unfold overR
        rw [hn, List.map_append, List.map_map, ← List.map_take]
        rfl
      refine ⟨_, rfl, x, C, dx, _, _, rfl, sH _ _ pa.ob, T.cl, T.nR, pf_rows _ _ _ _ _, _, rfl, rl, D, _, _, n, rfl, rfl, rfl, sH _ _ pa.rs, h3, nrD, by rw [List.length_map]; exact hnl, ?_, ?_⟩
      · rw [List.length_map, List.length_map, List.length_drop]
        exact Nat.le_trans (m := 300000) (by omega) (by decide)
      rw [el]
      obtain ⟨p1, p2⟩ := (pa.same sH).row (overR rows lo bf)
      refine ⟨_, rfl, x, C, dx, _, _, rfl, p1.ob, T.cl, T.nW, pf_went _ _ _ _ _, rfl, _, rfl, ?_⟩
      cases ww with
      | none =>
        refine iteP (by rfl) ?_
        obtain ⟨q1, q2⟩ := p1.put st lo (some true)
        refine ⟨_, rfl, x, C, dx, _, rfl, p1.ob, T.cl, T.nW, (by show 5 < 1000; decide), ?_⟩
        rw [show V.bl true = wv (some true) from rfl, put_went]
        exact k _ q1 (((Keep.of sH).trans p2).trans q2)
      | some v =>
        refine iteQ (by show ¬ decide (V.bl v = V.non) = true; simp) ?_
        exact k _ p1 ((Keep.of sH).trans p2)
/-! ### __init__ -/
def spInit (C tp : Addr) : Sp := fun vs H Q _ => ∃ (x dx : Addr) (L : Int), vs = [.ref x, .int L] ∧ H x = some (.ins C dx []) ∧ ∀ H' rl, H rl = none → PA' C L x dx rl tp 0 (some false) [] H' → (∀ a o, a ≠ x → H a = some o → H' a = some o) → Q .non H'
abbrev sPage___init__ : Stmt := inClass (topS 14) 0
theorem scPage___init__ : FnScope ["self", "length"] ["self", "length"] (defScope sPage___init__) := ⟨rfl, rfl, rfl, by decide +kernel, rfl, by decide +kernel, by decide +kernel⟩
theorem ok_init {f : Addr} {fd : FuncData} (F : Fun K "__init__" "Page.__init__" sPage___init__ f fd) (T : Txt K mg tp C) : FnOk P w K mg base CX0 1 f fd ["self", "length"] (spInit C tp) := by
  refine F.ok scPage___init__ (fun vs H Q E h => ?_) (fun cdv A outer s H vs Q E hr h => ?_)
  · obtain ⟨x, dx, L, rfl, _⟩ := h
    rfl
  · obtain ⟨x, dx, L, rfl, hx, k⟩ := h
    refine ⟨_, (pss_cons (ps_fld (pv 0) (pv 1) rfl)
      (pss_cons (ps_fld (pv 0) (pe_glob (v := .ref tp) (by rfl) T.g_TOP rfl) rfl)
      (pss_cons (ps_fld (pv 0) (pe_lst pa_nil) rfl)
      (pss_cons (ps_fld (pv 0) pe_int rfl)
      (pss_one (ps_fld (pv 0) pe_bl rfl)))))), ?_⟩
    refine ⟨_, rfl, _, rfl, x, C, dx, _, rfl, hx, T.cl, T.nL, (by show 0 < 1000; decide), ?_⟩
    refine ⟨_, rfl, x, C, dx, _, rfl, upd_same, T.cl, T.nS, (by show 1 < 1000; decide), ?_⟩
    rw [upd_upd]
    refine ⟨Nat.zero_le _, fun rl hrl => ?_⟩
    have nx : x ≠ rl := fun r => by rw [r, upd_same] at hrl; cases hrl
    have hrl0 : H rl = none := (upd_ne nx.symm).symm.trans hrl
    refine ⟨_, rfl, x, C, dx, _, rfl, (upd_ne nx).trans upd_same, T.cl, T.nR, (by show 2 < 1000; decide), ?_⟩
    refine ⟨_, rfl, x, C, dx, _, rfl, upd_same, T.cl, T.nO, (by show 3 < 1000; decide), ?_⟩
    refine ⟨_, rfl, x, C, dx, _, rfl, upd_same, T.cl, T.nW, (by show 4 < 1000; decide), ?_⟩
    rw [upd_upd, upd_upd, put_all]
    refine k _ rl hrl0 ⟨upd_same, (upd_ne nx.symm).trans upd_same⟩ fun a o ha e => ?_
    rw [upd_ne ha, upd_ne (ne_of_none e hrl0), upd_ne ha]
    exact e
/-! ### finish -/
def spFinish (C : Addr) : Sp := fun vs H Q _ => ∃ (x dx rl st : Addr) (L lo : Int) (ww : Option Bool) (rows : List Int), vs = [.ref x] ∧ PA' C L x dx rl st lo ww rows H ∧ rows.length ≤ 100000 ∧ ∀ p H' ys, H p = none → Same H H' → H' p = some (.lst ys) → AllAt RwAt H' ys rows → Q (.ref p) H'
abbrev sPage_finish : Stmt := inClass (topS 14) 11
theorem scPage_finish : FnScope ["self", "row"] ["self"] (defScope sPage_finish) := ⟨rfl, rfl, rfl, by decide +kernel, rfl, by decide +kernel, by decide +kernel⟩
theorem ok_finish {f : Addr} {fd : FuncData} (F : Fun K "finish" "Page.finish" sPage_finish f fd) (T : Txt K mg tp C) : FnOk P w K mg base CX0 1 f fd ["self"] (spFinish C) := by
  refine F.ok scPage_finish (fun vs H Q E h => ?_) (fun cdv A outer s H vs Q E hr h => ?_)
  · obtain ⟨x, dx, rl, st, L, lo, ww, rows, rfl, _⟩ := h
    rfl
  · obtain ⟨x, dx, rl, st, L, lo, ww, rows, rfl, pa, hlen, k⟩ := h
    refine ⟨_, (pss_one (ps_ret (pe_lc (own := [("row", 1)]) (g := gName 1) (tt := tYes) rfl scPage_finish.nd (pi_list (pe_fld (pv 0) rfl)) (blkOk_by (N := ["self", "row"]) (sc := defScope sPage_finish) (by decide +kernel)) (fun _ _ _ _ _ => (pg_name (i := 1) scPage_finish.nd rfl (.inl rfl))) (fun _ _ _ _ _ => pts_nil) (fun _ _ _ _ _ => (pe_tup (pa_cons (pe_cmpR op_eq (pv 1) pe_int (nomark _)) (pa_cons (pv 1) pa_nil))))))), ?_⟩
    refine ⟨_, rfl, x, C, dx, _, _, rfl, pa.ob, T.cl, T.nR, pf_rows _ _ _ _ _, rl, rfl, ⟨_, SqL.of pa.rs⟩, fun D hD => ?_⟩
    refine lc_list (K := K) (a := rl) (xs := rows.map V.int) (fun i H3 => Same H H3 ∧ ∃ acc, H3 D = some (.lst acc) ∧ AllAt RwAt H3 acc (rows.take i)) ⟨same_new hD, [], upd_same, trivial⟩ (fun i H3 _ q => SqL.of (q.1 _ _ pa.rs)) ?_ ?_
    · rintro i y H3 hi ⟨s3, acc, hacc, hra⟩
      rw [List.getElem?_map] at hi
      obtain ⟨r, hr, rfl⟩ := Option.map_eq_some_iff.mp hi
      refine ⟨rfl, ?_⟩
      refine ⟨_, rfl, rfl, _, rfl, (by show 2 ≤ sizeLine; decide), fun p hp => ?_⟩
      obtain ⟨p1, p2, p3, p4⟩ := all_push (f := fun r : Int => [.bl (decide (r = 0)), .int r]) (y := r) (tv := [.bl (decide (V.int r = V.int 0)), .int r]) hacc hra hp (by rw [dec_int])
      refine ⟨acc, p3, ?_, fun q o e => p4 q o (fun r => by rw [r, hD] at e; cases e) (s3 _ _ e), _, p1, ?_⟩
      · rw [hra.len, List.length_take]
        exact Nat.lt_of_le_of_lt (m := 100000) (by omega) (by decide)
      · rw [List.take_add_one, hr]
        exact p2
    · rintro H3 ⟨s3, acc, hacc, hra⟩
      rw [List.length_map, List.take_of_length_le (Nat.le_refl _)] at hra
      exact k D H3 acc hD s3 hacc hra
end
end Pa
set_option maxRecDepth 100000
set_option maxHeartbeats 4000000
namespace Pa
open PySem PySem.Spec PyProof.Rows L2
section
variable {P : Program} {w : World} {K : PySem.W.Frag} {mg : Str → Option Value} {base : Heap} {tp C : Addr}
def spBlock (K : PySem.W.Frag) (C : Addr) : Sp := fun vs H Q _ => ∃ (x dx rl st : Addr) (L : Int) (q : RB) (b : Bl) (q' : SB) (A : List Int) (c : Nat) (d : Int), vs = [.ref x, .int (b.c : Int), .int b.s, .bl b.k, .bl b.g] ∧ PA' C L x dx rl st q.lo q.w q.rows H ∧ StAt K H st q.kd q.h q.t ∧
  2 ≤ L ∧ SimB A c d q' q ∧ c ≤ A.length ∧ 0 ≤ b.s ∧ b.c ≤ 100 ∧ q.rows.length ≤ 5000 ∧
  ∀ H' st', PA' C L x dx rl st' (blockR L q b).lo (blockR L q b).w (blockR L q b).rows H' → StAt K H' st' (blockR L q b).kd (blockR L q b).h (blockR L q b).t → Keep x rl H H' → Q .non H'
abbrev sPage_block : Stmt := inClass (topS 14) 3
theorem scPage_block : FnScope ["self", "count", "space", "kept", "page", "ahead", "height", "tail", "at", "above", "barred", "before", "over"] ["self", "count", "space", "kept", "page"] (defScope sPage_block) := ⟨rfl, rfl, rfl, by decide +kernel, rfl, by decide +kernel, by decide +kernel⟩
theorem ok_block {f : Addr} {fd : FuncData} (F : Fun K "block" "Page.block" sPage_block f fd) (T : Txt K mg tp C) (M__settle : MethOk P w K mg base C 1 "_settle" ["self"] (spSettle C)) (M_begin : MethOk P w K mg base C 2 "begin" ["self"] (spBegin C tp))
    (M__put : MethOk P w K mg base C 2 "_put" ["self", "height", "tail"] (spPut C)) (M__go_over : MethOk P w K mg base C 1 "_go_over" ["self", "rows"] (spOver C))
    (C_line_place : CallOk P w K mg base 1 "line_place" ["standing", "at", "count", "space"] (spPlace K)) (C_next_line : CallOk P w K mg base 2 "next_line" ["length", "height", "tail", "space", "barred"] spNext)
    (C_standing_of : CallOk P w K mg base 1 "standing_of" ["length", "height", "tail", "kept"] (spStand K)) : FnOk P w K mg base CX0 3 f fd ["self", "count", "space", "kept", "page"] (spBlock K C) := by
  refine F.ok scPage_block (fun vs H Q E h => ?_) (fun cdv A outer s H vs Q E hr h => ?_)
  · obtain ⟨x, dx, rl, st, L, q, b, q', A', c', d', rfl, _⟩ := h
    rfl
  · obtain ⟨x, dx, rl, st, L, q, b, q', A', c', d', rfl, pa, hst, hL, R, hcA, hs, hc, hql, k⟩ := h
    refine ⟨_, (pss_cons (ps_by (ps_if (pt_val (pv 4))
        (pss_one (ps_expr (pe_mc0 (pv 0) T.cl M_begin (hr.mono (by decide)))))
        pss_nil))
      (pss_cons (ps_if (pt_cmpR op_eq (pv 1) pe_int (nomark _))
        (pss_one ps_retN)
        pss_nil)
      (pss_cons (ps_set (i := 5) scPage_block.nd rfl (.inl rfl) (pe_fld (pv 0) rfl))
      (pss_cons (ps_asg (pe_slice sl_tup (pv 5) (po_some pe_int) po_none) (pg_tup rfl (pgs_cons (pg_name (i := 6) scPage_block.nd rfl (.inl rfl)) (pgs_cons (pg_name (i := 7) scPage_block.nd rfl (.inl rfl)) pgs_nil))))
      (pss_cons (ps_for PassesOwn.never rfl (pi_range1 (by rfl) T.b_range (pa_cons (pv 1) pa_nil)) (pg_name (i := 8) scPage_block.nd rfl (.inl rfl))
        (pss_cons (ps_asg (pe_cc C_line_place (hr.mono (by decide)) (by rfl) (pa_cons (pv 5) (pa_cons (pv 8) (pa_cons (pv 1) (pa_cons (pv 2) pa_nil))))) (pg_tup rfl (pgs_cons (pg_name (i := 9) scPage_block.nd rfl (.inl rfl)) (pgs_cons (pg_name (i := 10) scPage_block.nd rfl (.inl rfl)) pgs_nil))))
        (pss_cons (ps_set (i := 11) scPage_block.nd rfl (.inl rfl) (pe_op op_sub (pv 6) (pv 7)))
        (pss_cons (ps_asg (pe_cc C_next_line (hr.mono (by decide)) (by rfl) (pa_cons (pe_fld (pv 0) rfl) (pa_cons (pv 6) (pa_cons (pv 7) (pa_cons (pv 9) (pa_cons (pv 10) pa_nil)))))) (pg_tup rfl (pgs_cons (pg_name (i := 6) scPage_block.nd rfl (.inl rfl)) (pgs_cons (pg_name (i := 7) scPage_block.nd rfl (.inl rfl)) (pgs_cons (pg_name (i := 12) scPage_block.nd rfl (.inl rfl)) pgs_nil)))))
        (pss_cons (ps_by (ps_if (pt_val (pv 12))
          (pss_one (ps_expr (pe_mc (pv 0) T.cl M__go_over (hr.mono (by decide)) (pa_cons (pv 11) pa_nil))))
          pss_nil))
        (pss_one (ps_expr (pe_mc (pv 0) T.cl M__put (hr.mono (by decide)) (pa_cons (pv 6) (pa_cons (pv 7) pa_nil))))))))))
      (pss_cons (ps_fld (pv 0) (pe_cc C_standing_of (hr.mono (by decide)) (by rfl) (pa_cons (pe_fld (pv 0) rfl) (pa_cons (pv 6) (pa_cons (pv 7) (pa_cons (pv 3) pa_nil))))) rfl)
      (pss_one (ps_if (pt_cmpR op_eq (pe_ix ix_tup (pe_fld (pv 0) rfl) pe_int (fun _ _ => rfl)) pe_int (nomark _))
        (pss_one (ps_expr (pe_mc0 (pv 0) T.cl M__settle (hr.mono (by decide)))))
        pss_nil)))))))), ?_⟩
    have hL0 : 0 < L := by omega
    -- if page: self.begin()
    refine ⟨fun σ' H1 => σ' = [some (.ref x), some (.int (b.c : Int)), some (.int b.s), some (.bl b.k), some (.bl b.g), none, none, none, none, none, none, none, none] ∧ ∃ st0, PA' C L x dx rl st0 (dueR q b.g).lo (dueR q b.g).w (dueR q b.g).rows H1 ∧ StAt K H1 st0 (dueR q b.g).kd (dueR q b.g).h (dueR q b.g).t ∧ Keep x rl H H1, fun N hN => ?_, ?_⟩
    · rcases twoB b.g with hg | hg
      · refine ⟨_, rfl, _, rfl, iteP hg ?_⟩
        refine ⟨_, rfl, x, dx, _, rfl, pa.ob, no_begin _ _ _ _ _, x, dx, rl, st, L, q.lo, q.w, q.rows, rfl, pa, fun H1 p1 k1 => ?_⟩
        refine hN _ _ ⟨rfl, tp, ?_⟩
        unfold dueR
        rw [if_pos hg]
        exact ⟨p1, ⟨"top", T.top H1, nt_, rfl⟩, k1⟩
      · refine ⟨_, rfl, _, rfl, iteQ (neT hg) ?_⟩
        refine hN _ _ ⟨rfl, st, ?_⟩
        unfold dueR
        rw [if_neg (neT hg)]
        exact ⟨pa, hst, fun a o _ _ e => e⟩
    rintro σ' H1 ⟨rfl, st0, pa1, hst1, k1⟩
    -- if count == 0: return
    refine ⟨_, rfl, rfl, _, rfl, ite2 (fun h1 => ?_) (fun h1 => ?_)⟩
    · have hc0 : b.c = 0 := by
        have := V.int.inj (of_decide_eq_true h1)
        omega
      have e : blockR L q b = dueR q b.g := by unfold blockR; rw [if_pos hc0]
      rw [e] at k
      exact k H1 st0 pa1 hst1 k1
    have hc0 : ¬ b.c = 0 := fun r => h1 (decide_eq_true (by rw [r]; rfl))
    have e : blockR L q b = endR L (runR L b.c b.s (dueR q b.g).kd ⟨(dueR q b.g).h, (dueR q b.g).t, (dueR q b.g).lo, (dueR q b.g).rows, (dueR q b.g).w⟩ b.c) b.k := by unfold blockR; rw [if_neg hc0]
    rw [e, endR_eq] at k
    have R1 := (sim_due R b.g).sim
    have hlo := fun n => (sim_run (L := L) hcA R1 hs b.c (dueR q b.g).kd n).lo
    have hrh := runR_h (L := L) hcA R1 hs b.c (dueR q b.g).kd b.c hc0
    have hrl : (dueR q b.g).rows = q.rows := by unfold dueR; split <;> rfl
    have hrun := runR_len L b.c b.s (dueR q b.g).kd ⟨(dueR q b.g).h, (dueR q b.g).t, (dueR q b.g).lo, (dueR q b.g).rows, (dueR q b.g).w⟩
    have hrun' : ∀ n, (runR L b.c b.s (dueR q b.g).kd ⟨(dueR q b.g).h, (dueR q b.g).t, (dueR q b.g).lo, (dueR q b.g).rows, (dueR q b.g).w⟩ n).rows.length ≤ 5000 + n := fun n => by
      rw [hrun n]
      show (dueR q b.g).rows.length + n ≤ _
      rw [hrl]
      omega
    clear hrun hrl e R R1
    generalize dueR q b.g = q0 at pa1 hst1 k hlo hrun' hrh ⊢
    -- height, tail = ahead[1:]
    obtain ⟨wd, hsq, hkd, _⟩ := id hst1
    refine ⟨_, rfl, x, C, dx, _, _, rfl, pa1.ob, T.cl, T.nS, pf_standing _ _ _ _ _, ?_⟩
    refine ⟨_, rfl, _, rfl, st0, _, rfl, hsq, (fun z => absurd z.1 (show ¬ (HT.sIx 3 0 (some 1) = 0) by decide)), fun u hu => ?_⟩
    have su := same_new (o := .tup (cutV [.str wd, .int q0.h, .int q0.t] (some 1) none)) hu
    refine ⟨u, _, rfl, SqT.of upd_same, rfl, _, _, rfl, _, _, rfl, rfl, ?_⟩
    have pa2 := pa1.same su
    have k2 : Keep x rl H _ := k1.trans (Keep.of su)
    have hst2 : StAt K _ st0 q0.kd q0.h q0.t := StAt.keep (Keep.of su) pa1 hst1
    generalize upd H1 u (.tup (cutV [.str wd, .int q0.h, .int q0.t] (some 1) none)) = H2 at pa2 k2 hst2
    -- the lines
    refine ⟨_, rfl, _, rfl, by omega, by omega, for_range (lo := 0) (n := ((b.c : Nat) : Int).toNat) (fun i σ H3 => ∃ (y8 y9 y10 y11 y12 : Option V), σ = [some (.ref x), some (.int (b.c : Int)), some (.int b.s), some (.bl b.k), some (.bl b.g), some (.ref st0),
        some (.int (runR L b.c b.s q0.kd ⟨q0.h, q0.t, q0.lo, q0.rows, q0.w⟩ i).h), some (.int (runR L b.c b.s q0.kd ⟨q0.h, q0.t, q0.lo, q0.rows, q0.w⟩ i).t), y8, y9, y10, y11, y12] ∧
        PA' C L x dx rl st0 (runR L b.c b.s q0.kd ⟨q0.h, q0.t, q0.lo, q0.rows, q0.w⟩ i).lo (runR L b.c b.s q0.kd ⟨q0.h, q0.t, q0.lo, q0.rows, q0.w⟩ i).w (runR L b.c b.s q0.kd ⟨q0.h, q0.t, q0.lo, q0.rows, q0.w⟩ i).rows H3 ∧ StAt K H3 st0 q0.kd q0.h q0.t ∧ Keep x rl H H3)
      ⟨none, none, none, none, none, rfl, pa2, hst2, k2⟩ ?_ ?_⟩
    · rintro i σ H3 hi ⟨y8, y9, y10, y11, y12, rfl, pa3, hst3, k3⟩
      have hi' : i < b.c := by omega
      have hlo3 := hlo i
      have hlen3 := hrun' i
      show gName 8 _ _ _ _
      rw [Int.zero_add]
      have er : runR L b.c b.s q0.kd ⟨q0.h, q0.t, q0.lo, q0.rows, q0.w⟩ (i + 1) = lineR L (runR L b.c b.s q0.kd ⟨q0.h, q0.t, q0.lo, q0.rows, q0.w⟩ i) (if i = 0 then b.s else 0) (if i = 0 then q0.kd else decide ((i : Int) = 1 ∨ (i : Int) = (b.c : Int) - 1)) := rfl
      rw [er]
      generalize runR L b.c b.s q0.kd ⟨q0.h, q0.t, q0.lo, q0.rows, q0.w⟩ i = p at pa3 hlo3 hlen3 ⊢
      refine ⟨_, rfl, _, rfl, _, rfl, _, rfl, st0, q0.kd, q0.h, q0.t, (b.c : Int), b.s, i, rfl, hst3, fun u1 H4 hu1 s4 hu4 => ?_⟩
      refine ⟨u1, _, rfl, SqT.of hu4, rfl, _, _, rfl, _, _, rfl, rfl, ?_⟩
      refine ⟨_, rfl, _, rfl, _, _, rfl, rfl, ?_⟩
      have pa4 := pa3.same s4
      have hst4 : StAt K H4 st0 q0.kd q0.h q0.t := StAt.keep (Keep.of s4) pa3 hst3
      have k4 : Keep x rl H H4 := k3.trans (Keep.of s4)
      generalize (if i = 0 then b.s else 0) = sp
      generalize (if i = 0 then q0.kd else decide ((i : Int) = 1 ∨ (i : Int) = (b.c : Int) - 1)) = br
      refine ⟨_, rfl, x, C, dx, _, _, rfl, pa4.ob, T.cl, T.nL, pf_length _ _ _ _ _, _, rfl, _, rfl, _, rfl, _, rfl, L, p.h, p.t, sp, br, rfl, fun u2 hu2 => ?_⟩
      refine ⟨u2, _, rfl, SqT.of upd_same, rfl, _, _, rfl, _, _, rfl, _, _, rfl, rfl, ?_⟩
      unfold lineR
      generalize nextLine L p.h p.t sp br = nl
      have s5 := same_new (o := .tup [.int nl.h, .int nl.t, .bl nl.ov]) hu2
      have pa5 := pa4.same s5
      have hst5 : StAt K _ st0 q0.kd q0.h q0.t := StAt.keep (Keep.of s5) pa4 hst4
      have k5 : Keep x rl H _ := k4.trans (Keep.of s5)
      generalize upd H4 u2 (.tup [.int nl.h, .int nl.t, .bl nl.ov]) = H5 at pa5 hst5 k5
      refine ⟨fun σ' H6 => σ' = [some (.ref x), some (.int (b.c : Int)), some (.int b.s), some (.bl b.k), some (.bl b.g), some (.ref st0), some (.int nl.h), some (.int nl.t), some (.int (i : Int)), some (.int sp), some (.bl br), some (.int (p.h - p.t)), some (.bl nl.ov)] ∧
        PA' C L x dx rl st0 p.lo (if nl.ov = true then overW p.w else p.w) (if nl.ov = true then overR p.rows p.lo (p.h - p.t) else p.rows) H6 ∧ StAt K H6 st0 q0.kd q0.h q0.t ∧ Keep x rl H H6, fun N hN => ?_, ?_⟩
      · rcases twoB nl.ov with ho | ho
        · refine ⟨_, rfl, _, rfl, iteP ho ?_⟩
          refine ⟨_, rfl, x, dx, _, rfl, pa5.ob, no_over _ _ _ _ _, _, rfl, x, dx, rl, st0, L, p.lo, p.h - p.t, p.w, p.rows, rfl, pa5, hlo3.1, hlo3.2, by omega, fun H6 p6 k6 => ?_⟩
          refine hN _ _ ⟨rfl, ?_, StAt.keep k6 pa5 hst5, k5.trans k6⟩
          rw [if_pos ho, if_pos ho]
          exact p6
        · refine ⟨_, rfl, _, rfl, iteQ (neT ho) ?_⟩
          refine hN _ _ ⟨rfl, ?_, hst5, k5⟩
          rw [if_neg (neT ho), if_neg (neT ho)]
          exact pa5
      · rintro σ' H6 ⟨rfl, p6, hst6, k6⟩
        have hl6 : (if nl.ov = true then overR p.rows p.lo (p.h - p.t) else p.rows).length ≤ 100000 := by
          split
          · rw [overR_len]; omega
          · omega
        refine ⟨_, rfl, x, dx, _, rfl, p6.ob, no_put _ _ _ _ _, _, rfl, _, rfl, x, dx, rl, st0, L, p.lo, nl.h, nl.t, _, _, rfl, p6, hl6, fun H7 p7 k7 => ?_⟩
        exact ⟨_, _, _, _, _, rfl, p7, StAt.keep k7 p6 hst6, k6.trans k7⟩
    · rintro σ H3 ⟨y8, y9, y10, y11, y12, rfl, pa3, hst3, k3⟩
      have e0 : ((b.c : Nat) : Int).toNat = b.c := Int.toNat_natCast _
      rw [e0] at pa3 ⊢
      generalize runR L b.c b.s q0.kd ⟨q0.h, q0.t, q0.lo, q0.rows, q0.w⟩ b.c = p at pa3 k hrh ⊢
      refine ⟨_, rfl, x, C, dx, _, _, rfl, pa3.ob, T.cl, T.nL, pf_length _ _ _ _ _, _, rfl, _, rfl, _, rfl, L, p.h, p.t, b.k, rfl, hrh, fun st' H4 s4 hst4 => ?_⟩
      have pa4 := pa3.same s4
      obtain ⟨p5, k5⟩ := pa4.put st' p.lo p.w
      have hst5 : StAt K _ st' _ _ _ := StAt.keep k5 pa4 hst4
      refine ⟨_, rfl, x, C, dx, _, rfl, pa4.ob, T.cl, T.nS, (by show 5 < 1000; decide), ?_⟩
      rw [put_standing]
      obtain ⟨wd2, hsq2, hkd2, _⟩ := id hst5
      have k6 : Keep x rl H _ := (k3.trans (Keep.of s4)).trans k5
      refine ⟨_, rfl, x, C, dx, _, _, rfl, p5.ob, T.cl, T.nS, pf_standing _ _ _ _ _, st', _, _, _, rfl, rfl, hsq2, atI_nat (j := 2) rfl, rfl, _, rfl, ite2 (fun h2 => ?_) (fun h2 => ?_)⟩
      · have ht0 := V.int.inj (of_decide_eq_true h2)
        refine ⟨_, rfl, x, dx, _, rfl, p5.ob, no_settle _ _ _ _ _, x, dx, rl, st', L, p.lo, p.w, p.rows, rfl, p5, fun H7 p7 k7 => ?_⟩
        refine k H7 st' ?_ (StAt.keep k7 p5 hst5) (k6.trans k7)
        rw [if_pos ht0, if_pos ht0]
        exact p7
      · have ht0 : ¬ (endK L p.h p.t b.k).2.2 = 0 := fun r => h2 (decide_eq_true (by rw [r]))
        refine k _ st' ?_ hst5 k6
        rw [if_neg ht0, if_neg ht0]
        exact p5
end
end Pa
set_option maxRecDepth 100000
set_option maxHeartbeats 4000000
namespace Pa
open PySem PySem.Spec PyProof.Rows L2
def tByT (t : TT) : TT := fun σ H Q => ∃ R : Bool → Hp → Prop, (∀ Q' : Bool → Hp → Prop, (∀ v H', R v H' → Q' v H') → t σ H Q') ∧ ∀ v H', R v H' → Q v H'
theorem pt_by {X : Cx} {e : Expr} {t : TT} (h : PT X e t) : PT X e (tByT t) := ⟨fun pins s σ H Q I ⟨_, f, q⟩ => h.run pins s σ H Q I (f Q q)⟩
section
variable {P : Program} {w : World} {K : PySem.W.Frag} {mg : Str → Option Value} {base : Heap} {tp C : Addr}
/-! ### _law_number, of an int -/
def spNum : Sp := fun vs H Q _ => ∃ i : Int, vs = [.int i] ∧ Q (.bl true) H
abbrev sL_number : Stmt := topS 18
theorem scL_number : FnScope ["_law_thing"] ["_law_thing"] (defScope sL_number) := ⟨rfl, rfl, rfl, by decide +kernel, rfl, by decide +kernel, by decide +kernel⟩
theorem ok_number {f : Addr} {fd : FuncData} (F : Fun K "_law_number" "_law_number" sL_number f fd) (T : Txt K mg tp C) : FnOk P w K mg base CX0 1 f fd ["_law_thing"] spNum := by
  refine F.ok scL_number (fun vs H Q E h => ?_) (fun cdv A outer s H vs Q E hr h => ?_)
  · obtain ⟨i, rfl, _⟩ := h
    rfl
  · obtain ⟨i, rfl, k⟩ := h
    refine ⟨_, (pss_one (ps_ret (pe_and (pe_callB call_isi (by rfl) T.b_isinstance (by decide +kernel) (pa_cons (pv 0) (pa_cons (pe_bltn (v := .ty "int") (by rfl) T.b_int (by decide +kernel) rfl) pa_nil))) (pe_one (pe_not (pe_callB call_isi (by rfl) T.b_isinstance (by decide +kernel) (pa_cons (pv 0) (pa_cons (pe_bltn (v := .ty "bool") (by rfl) T.b_bool (by decide +kernel) rfl) pa_nil)))))))), ?_⟩
    refine ⟨_, rfl, _, _, _, _, true, rfl, .ty _, .base (.int _), kit_ty (by decide +kernel), _, rfl, iteT ?_⟩
    exact ⟨_, rfl, _, _, _, _, false, rfl, .ty _, .base (.int _), kit_ty (by decide +kernel), _, rfl, k⟩
/-! ### _law_block, _law_length -/
def spLBlock : Sp := fun vs H Q _ => ∃ (b : Addr), vs = [.ref b, .int 30] ∧ IsBag H b ∧ ∀ (p : Addr) (H' : Hp) (c : Nat) (s : Int) (k g : Bool), H p = none → Bk b H H' → H' p = some (.tup [.int (c : Int), .int s, .bl k, .bl g]) → c ≤ 30 → 0 ≤ s → Q (.ref p) H'
abbrev sL_block : Stmt := topS 25
theorem scL_block : FnScope ["_law_bag_here", "_law_most", "_law_count"] ["_law_bag_here", "_law_most"] (defScope sL_block) := ⟨rfl, rfl, rfl, by decide +kernel, rfl, by decide +kernel, by decide +kernel⟩
theorem ok_lblock {f : Addr} {fd : FuncData} (F : Fun K "_law_block" "_law_block" sL_block f fd) (C__law_draw : CallOk P w K mg base 1 "_law_draw" ["_law_bag_here", "_law_many"] spDraw) : FnOk P w K mg base CX0 2 f fd ["_law_bag_here", "_law_most"] spLBlock := by
  refine F.ok scL_block (fun vs H Q E h => ?_) (fun cdv A outer s H vs Q E hr h => ?_)
  · obtain ⟨b, rfl, _⟩ := h
    rfl
  · obtain ⟨b, rfl, hb, k⟩ := h
    refine ⟨_, (pss_cons (ps_set (i := 2) scL_block.nd rfl (.inl rfl) (pe_by (pe_ifExp (pt_cmpR op_eq (pe_cc C__law_draw (hr.mono (by decide)) (by rfl) (pa_cons (pv 0) (pa_cons pe_int pa_nil))) pe_int (nomark _)) (pe_cc C__law_draw (hr.mono (by decide)) (by rfl) (pa_cons (pv 0) (pa_cons (pe_op op_add (pv 1) pe_int) pa_nil))) (pe_cc C__law_draw (hr.mono (by decide)) (by rfl) (pa_cons (pv 0) (pa_cons pe_int pa_nil))))))
      (pss_one (ps_ret (pe_tup (pa_cons (pv 2) (pa_cons (pe_cc C__law_draw (hr.mono (by decide)) (by rfl) (pa_cons (pv 0) (pa_cons pe_int pa_nil))) (pa_cons (pe_cmpR op_eq (pe_cc C__law_draw (hr.mono (by decide)) (by rfl) (pa_cons (pv 0) (pa_cons pe_int pa_nil))) pe_int (nomark _)) (pa_cons (pe_cmpR op_eq (pe_cc C__law_draw (hr.mono (by decide)) (by rfl) (pa_cons (pv 0) (pa_cons pe_int pa_nil))) pe_int (nomark _)) pa_nil)))))))), ?_⟩
    refine ⟨fun v H' => ∃ c : Int, v = .int c ∧ 0 ≤ c ∧ c ≤ 30 ∧ Bk b H H', fun Q' hQ => ?_, ?_⟩
    · refine ⟨_, rfl, b, _, rfl, hb, by decide, by decide, fun d H1 d0 d1 B1 => ⟨rfl, _, rfl, ite2 (fun h1 => ?_) (fun h1 => ?_)⟩⟩
      · refine ⟨_, rfl, _, rfl, _, _, rfl, rfl, b, _, rfl, B1.bag, by decide, by decide, fun e H2 e0 e1 B2 => ?_⟩
        exact hQ _ _ ⟨e, rfl, e0, by omega, B1.trans B2⟩
      · refine ⟨_, rfl, b, _, rfl, B1.bag, by decide, by decide, fun e H2 e0 e1 B2 => ?_⟩
        exact hQ _ _ ⟨e, rfl, e0, by omega, B1.trans B2⟩
    · rintro v H1 ⟨c, rfl, c0, c1, B1⟩
      refine ⟨_, rfl, _, rfl, b, _, rfl, B1.bag, by decide, by decide, fun e H2 e0 e1 B2 => ?_⟩
      refine ⟨_, rfl, b, _, rfl, B2.bag, by decide, by decide, fun e' H3 e0' e1' B3 => ⟨rfl, ?_⟩⟩
      refine ⟨_, rfl, b, _, rfl, B3.bag, by decide, by decide, fun e'' H4 e0'' e1'' B4 => ⟨rfl, (by show 4 ≤ sizeLine; decide), fun p hp => ?_⟩⟩
      have BB := ((B1.trans B2).trans B3).trans B4
      have hc : ((c.toNat : Nat) : Int) = c := Int.toNat_of_nonneg c0
      refine k p _ c.toNat e (decide (V.int e' = V.int 1)) (decide (V.int e'' = V.int 7)) (BB.free hb hp) (BB.fresh hp) ?_ (by omega) e0
      rw [upd_same, hc]
def spLLength : Sp := fun vs H Q _ => ∃ (b : Addr), vs = [.ref b] ∧ IsBag H b ∧ ∀ (L : Int) (H' : Hp), 2 ≤ L → L ≤ 9 → Bk b H H' → Q (.int L) H'
abbrev sL_length : Stmt := topS 26
theorem scL_length : FnScope ["_law_bag_here"] ["_law_bag_here"] (defScope sL_length) := ⟨rfl, rfl, rfl, by decide +kernel, rfl, by decide +kernel, by decide +kernel⟩
theorem ok_llength {f : Addr} {fd : FuncData} (F : Fun K "_law_length" "_law_length" sL_length f fd) (C__law_draw : CallOk P w K mg base 1 "_law_draw" ["_law_bag_here", "_law_many"] spDraw) : FnOk P w K mg base CX0 2 f fd ["_law_bag_here"] spLLength := by
  refine F.ok scL_length (fun vs H Q E h => ?_) (fun cdv A outer s H vs Q E hr h => ?_)
  · obtain ⟨b, rfl, _⟩ := h
    rfl
  · obtain ⟨b, rfl, hb, k⟩ := h
    refine ⟨_, (pss_one (ps_ret (pe_op op_add pe_int (pe_ifExp (pt_cmpR op_eq (pe_cc C__law_draw (hr.mono (by decide)) (by rfl) (pa_cons (pv 0) (pa_cons pe_int pa_nil))) pe_int (nomark _)) (pe_cc C__law_draw (hr.mono (by decide)) (by rfl) (pa_cons (pv 0) (pa_cons pe_int pa_nil))) (pe_cc C__law_draw (hr.mono (by decide)) (by rfl) (pa_cons (pv 0) (pa_cons pe_int pa_nil))))))), ?_⟩
    refine ⟨_, rfl, b, _, rfl, hb, by decide, by decide, fun d H1 d0 d1 B1 => ⟨rfl, _, rfl, ite2 (fun h1 => ?_) (fun h1 => ?_)⟩⟩
    · refine ⟨_, rfl, b, _, rfl, B1.bag, by decide, by decide, fun e H2 e0 e1 B2 => ⟨_, _, rfl, rfl, ?_⟩⟩
      exact k _ _ (by omega) (by omega) (B1.trans B2)
    · refine ⟨_, rfl, b, _, rfl, B1.bag, by decide, by decide, fun e H2 e0 e1 B2 => ⟨_, _, rfl, rfl, ?_⟩⟩
      exact k _ _ (by omega) (by omega) (B1.trans B2)
/-! ### _law_lines -/
def spLLines (K : PySem.W.Frag) : Sp := fun vs H Q _ => ∃ (a : Addr) (xs : List V) (bs : List Bl), vs = [.ref a] ∧ SqL K H a xs ∧ AllAt BlAt H xs bs ∧ Book bs ∧
  ∀ (p q : Addr) (H' : Hp) (ys : List V), H p = none → Same H H' → H' p = some (.tup [.ref q, .bl (linesOf bs).kp, .bl (linesOf bs).du]) → H' q = some (.lst ys) → AllAt LnAt H' ys (linesOf bs).ls → Q (.ref p) H'
abbrev sL_lines : Stmt := topS 19
theorem scL_lines : FnScope ["_law_blocks", "_law_lines_here", "_law_barred", "_law_due", "_law_count", "_law_space", "_law_kept", "_law_page", "_law_k"] ["_law_blocks"] (defScope sL_lines) := ⟨rfl, rfl, rfl, by decide +kernel, rfl, by decide +kernel, by decide +kernel⟩
theorem ok_llines {f : Addr} {fd : FuncData} (F : Fun K "_law_lines" "_law_lines" sL_lines f fd) (T : Txt K mg tp C) : FnOk P w K mg base CX0 1 f fd ["_law_blocks"] (spLLines K) := by
  refine F.ok scL_lines (fun vs H Q E h => ?_) (fun cdv A outer s H vs Q E hr h => ?_)
  · obtain ⟨a, xs, bs, rfl, _⟩ := h
    rfl
  · obtain ⟨a, xs, bs, rfl, hS, hx, B, k⟩ := h
    refine ⟨_, (pss_cons (ps_par3 (i := 1) (j := 2) (l := 3) (by rfl) scL_lines.nd rfl rfl rfl (by decide) (by decide) (by decide) rfl rfl rfl (pa_cons (pe_lst pa_nil) (pa_cons pe_bl (pa_cons pe_bl pa_nil))) (by rfl))
      (pss_cons (ps_for PassesOwn.never rfl (pi_list (pv 0)) (pg_tup rfl (pgs_cons (pg_name (i := 4) scL_lines.nd rfl (.inl rfl)) (pgs_cons (pg_name (i := 5) scL_lines.nd rfl (.inl rfl)) (pgs_cons (pg_name (i := 6) scL_lines.nd rfl (.inl rfl)) (pgs_cons (pg_name (i := 7) scL_lines.nd rfl (.inl rfl)) pgs_nil)))))
        (pss_cons (ps_set (i := 3) scL_lines.nd rfl (.inl rfl) (pe_pure (pe_or (pv 3) (pe_one (pv 7)))))
        (pss_cons (ps_for PassesOwn.never rfl (pi_range1 (by rfl) T.b_range (pa_cons (pv 4) pa_nil)) (pg_name (i := 8) scL_lines.nd rfl (.inl rfl))
          (pss_one (ps_expr (pe_bm PySem.F.plainAttrs_list PySem.F.slot_list_append PySem.F.type_list_append mt_append (pv 1) (pa_cons (pe_ifExp (pt_cmpR op_eq (pv 8) pe_int (nomark _)) (pe_tup (pa_cons (pv 5) (pa_cons (pv 2) (pa_cons (pv 3) pa_nil)))) (pe_tup (pa_cons pe_int (pa_cons (pe_cmpR op_in_seq (pv 8) (pe_tup (pa_cons pe_int (pa_cons (pe_op op_sub (pv 4) pe_int) pa_nil))) (by rfl)) (pa_cons pe_bl pa_nil))))) pa_nil)))))
        (pss_cons (ps_set (i := 3) scL_lines.nd rfl (.inl rfl) (pe_pure (pe_and (pv 3) (pe_one (pe_cmpR op_eq (pv 4) pe_int (nomark _))))))
        (pss_one (ps_set (i := 2) scL_lines.nd rfl (.inl rfl) (pe_pure (pe_ifExp (pt_cmpR op_gt (pv 4) pe_int (nomark _)) (pv 6) (pv 2)))))))))
      (pss_one (ps_ret (pe_tup (pa_cons (pv 1) (pa_cons (pv 2) (pa_cons (pv 3) pa_nil)))))))), ?_⟩
    refine ⟨Nat.zero_le _, fun q hq => ?_⟩
    refine ⟨_, _, _, rfl, ?_⟩
    have sq : Same H (upd H q (.lst [])) := same_new hq
    have hlen : xs.length = bs.length := hx.len
    refine ⟨_, rfl, a, rfl, ⟨_, sq.seq hS⟩, for_list (K := K) (a := a) (xs := xs) (fun i σ H' => ∃ (y4 y5 y6 y7 y8 : Option V) (ls : List V), σ = [some (.ref a), some (.ref q), some (.bl (linesOf (bs.take i)).kp), some (.bl (linesOf (bs.take i)).du), y4, y5, y6, y7, y8] ∧ Same H H' ∧ H' q = some (.lst ls) ∧ AllAt LnAt H' ls (linesOf (bs.take i)).ls)
      ⟨none, none, none, none, none, [], rfl, sq, upd_same, trivial⟩ (fun i σ H' _ ⟨_, _, _, _, _, _, _, s1, _⟩ => s1.seq hS) ?_ ?_⟩
    · rintro i x σ H' hxi ⟨y4, y5, y6, y7, y8, ls, rfl, s1, hls, hall⟩
      obtain ⟨b, hb, t, rfl, ht⟩ := hx.at hxi
      have eb : bs.take (i + 1) = bs.take i ++ [b] := by rw [List.take_add_one, hb]; rfl
      have hbs := B.small b (List.mem_of_getElem? hb)
      have hlens : (linesOf (bs.take i)).ls.length ≤ 2000 := by
        have h1 := linesOf_len (bs.take i) 100 fun z hz => (B.small z (List.mem_of_mem_take hz)).1
        have h2 := B.few
        rw [List.length_take] at h1
        omega
      refine ⟨t, _, rfl, SqT.of (s1 _ _ ht), rfl, _, _, rfl, _, _, rfl, _, _, rfl, _, _, rfl, rfl, ?_⟩
      rw [eb, linesOf_snoc]
      generalize linesOf (bs.take i) = tt at hls hall hlens ⊢
      refine ⟨.bl (tt.du || b.g), fun Q' hQ => ⟨_, rfl, tt.du, rfl, ite2 (fun h1 => ?_) (fun h1 => ⟨_, rfl, ?_⟩)⟩, ?_⟩
      · rw [h1] at hQ; exact hQ
      · have : tt.du = false := by simpa using h1
        rw [this] at hQ; exact hQ
      generalize hdu : (tt.du || b.g) = du
      refine ⟨_, rfl, _, rfl, by omega, by omega, for_range (lo := 0) (n := ((b.c : Nat) : Int).toNat) (fun j σ H2 => ∃ (y8 : Option V) (ls' : List V), σ = [some (.ref a), some (.ref q), some (.bl tt.kp), some (.bl du), some (.int (b.c : Int)), some (.int b.s), some (.bl b.k), some (.bl b.g), y8] ∧ Same H H2 ∧ H2 q = some (.lst ls') ∧ AllAt LnAt H2 ls' (tt.ls ++ blLines b.c b.s tt.kp du j))
        ⟨_, ls, rfl, s1, hls, by rw [show blLines b.c b.s tt.kp du 0 = [] from rfl, List.append_nil]; exact hall⟩ ?_ ?_⟩
      · rintro j σ H2 hj ⟨y8', ls', rfl, s2, hls2, hall2⟩
        have hj' : j < b.c := by omega
        have hln : (blLines b.c b.s tt.kp du j).length = j := by unfold blLines; simp
        have hsz : ls'.length < sizeLine := by
          rw [hall2.len, List.length_append, hln]
          exact Nat.lt_of_le_of_lt (m := 5000) (by omega) (by decide)
        have z0 : (0 : Int) + (j : Int) = (j : Int) := Int.zero_add _
        rw [blLines_succ, ← List.append_assoc]
        refine ⟨_, rfl, .inl ⟨rfl, _, SqL.of hls2⟩, _, rfl, rfl, _, rfl, ite2 (fun h1 => ?_) (fun h1 => ?_)⟩
        · have hj0 : j = 0 := by
            have := V.int.inj (of_decide_eq_true h1)
            omega
          refine ⟨_, rfl, _, rfl, _, rfl, (by show 3 ≤ sizeLine; decide), fun p hp => ?_⟩
          obtain ⟨p1, p2, p3, p4⟩ := all_push (f := fun l : Ln => [.int l.sp, .bl l.br, .bl l.du]) (y := blLn b.c b.s tt.kp du j) (tv := [.int b.s, .bl tt.kp, .bl du]) hls2 hall2 hp (by rw [hj0]; rfl)
          exact ⟨q, _, _, rfl, rfl, p3, hsz, _, _, rfl, fun u o e => p4 u o (fun r => by rw [r, hq] at e; cases e) (s2 _ _ e), p1, p2⟩
        · have hj0 : ¬ j = 0 := fun r => h1 (decide_eq_true (by rw [r]; rfl))
          refine ⟨_, rfl, _, rfl, _, _, rfl, rfl, (by show 2 ≤ sizeLine; decide), fun u hu => ⟨u, _, rfl, .inr (SqT.of upd_same), rfl, rfl, (by show 3 ≤ sizeLine; decide), fun p hp => ?_⟩⟩
          have nuq : q ≠ u := fun r => by rw [← r, hls2] at hu; cases hu
          have hls3 : (upd H2 u (.tup [V.int 1, V.int ((b.c : Int) - 1)])) q = some (.lst ls') := (upd_ne nuq).trans hls2
          have hall3 := lnMono (Tups.new (o := .tup [V.int 1, V.int ((b.c : Int) - 1)]) hu) hall2
          have eb2 : blLn b.c b.s tt.kp du j = ⟨0, decide ((j : Int) = 1 ∨ (j : Int) = (b.c : Int) - 1), false⟩ := by unfold blLn; rw [if_neg hj0]
          obtain ⟨p1, p2, p3, p4⟩ := all_push (f := fun l : Ln => [.int l.sp, .bl l.br, .bl l.du]) (y := blLn b.c b.s tt.kp du j) (tv := [.int 0, .bl (inV (.int (0 + (j : Int))) [V.int 1, V.int ((b.c : Int) - 1)]), .bl false]) hls3 hall3 hp (by rw [eb2, in_two, z0])
          exact ⟨q, _, _, rfl, rfl, p3, hsz, _, _, rfl, fun v o e => p4 v o (fun r => by rw [r, hq] at e; cases e) (same_new hu _ _ (s2 _ _ e)), p1, p2⟩
      · rintro σ H2 ⟨y8', ls', rfl, s2, hls2, hall2⟩
        have e0 : ((b.c : Nat) : Int).toNat = b.c := Int.toNat_natCast _
        rw [e0] at hall2
        have ec : decide (V.int (b.c : Int) = V.int 0) = decide (b.c = 0) := by
          rw [dec_int]
          by_cases h : b.c = 0
          · rw [h]; rfl
          · rw [decide_eq_false h, decide_eq_false (by omega)]
        refine ⟨.bl (if b.c = 0 then du else false), fun Q' hQ => ⟨_, rfl, du, rfl, ite2 (fun h1 => ⟨_, rfl, rfl, ?_⟩) (fun h1 => ?_)⟩, ?_⟩
        · rw [ec]
          by_cases h : b.c = 0
          · rw [if_pos h, h1] at hQ; rw [decide_eq_true h]; exact hQ
          · rw [if_neg h] at hQ; rw [decide_eq_false h]; exact hQ
        · have : du = false := by simpa using h1
          rw [this, ite_self] at hQ
          exact hQ
        refine ⟨.bl (if b.c = 0 then tt.kp else b.k), fun Q' hQ => ⟨_, rfl, _, _, rfl, rfl, _, rfl, ite2 (fun h1 => ⟨_, rfl, ?_⟩) (fun h1 => ⟨_, rfl, ?_⟩)⟩, ?_⟩
        · have hc : ¬ b.c = 0 := by
            have := of_decide_eq_true h1
            omega
          rw [if_neg hc] at hQ
          exact hQ
        · have hc : b.c = 0 := by
            have : ¬ (b.c : Int) > 0 := fun r => h1 (decide_eq_true r)
            omega
          rw [if_pos hc] at hQ
          exact hQ
        refine ⟨some (.int (b.c : Int)), some (.int b.s), some (.bl b.k), some (.bl b.g), y8', ls', ?_, s2, hls2, ?_⟩
        · unfold stepB
          rw [hdu]
          rfl
        · unfold stepB
          rw [hdu]
          exact hall2
    · rintro σ H' ⟨y4, y5, y6, y7, y8, ls, rfl, s1, hls, hall⟩
      have et : bs.take xs.length = bs := by rw [hlen]; exact List.take_of_length_le (Nat.le_refl _)
      rw [et] at hall ⊢
      refine ⟨_, rfl, _, rfl, _, rfl, (by show 3 ≤ sizeLine; decide), fun p hp => ?_⟩
      have sp := same_new (o := .tup [.ref q, .bl (linesOf bs).kp, .bl (linesOf bs).du]) hp
      exact k p q _ ls (s1.free hp) (s1.trans sp) upd_same (sp _ _ hls) (lnMono (Tups.of sp) hall)
end
end Pa
set_option maxRecDepth 100000
set_option maxHeartbeats 4000000
namespace Pa
open PySem PySem.Spec PyProof.Rows L2
/-! ### data that is compared -/
def dBl (b : Bl) : PyData := .tuple [.int (b.c : Int), .int b.s, .bool b.k, .bool b.g]
def dRw (r : Int) : PyData := .tuple [.bool (decide (r = 0)), .int r]
theorem dpBl {K : PySem.W.Frag} {H : Hp} : ∀ {xs : List V} {bs : List Bl}, AllAt BlAt H xs bs → DpAll K H xs (bs.map dBl)
  | [], [], _ => .nil
  | _ :: _, _ :: _, ⟨⟨_, e, ht⟩, h2⟩ => by
    subst e
    exact .cons (.tup (SqT.of ht) (.cons (.int _) (.cons (.int _) (.cons (.bl _) (.cons (.bl _) .nil))))) (dpBl h2)
  | [], _ :: _, h => h.elim
  | _ :: _, [], h => h.elim
theorem dpRw {K : PySem.W.Frag} {H : Hp} : ∀ {xs : List V} {rs : List Int}, AllAt RwAt H xs rs → DpAll K H xs (rs.map dRw)
  | [], [], _ => .nil
  | _ :: _, _ :: _, ⟨⟨_, e, ht⟩, h2⟩ => by
    subst e
    exact .cons (.tup (SqT.of ht) (.cons (.bl _) (.cons (.int _) .nil))) (dpRw h2)
  | [], _ :: _, h => h.elim
  | _ :: _, [], h => h.elim
theorem shaped_map {α : Type} {f : α → PyData} (h : ∀ x, (f x).canLay0 = true ∧ (f x).depth ≤ 1) (xs : List α) : SeqAt.shaped (.list (xs.map f)) = true := by
  have h1 : PyData.canLayAll0 (xs.map f) = true := by
    induction xs with
    | nil => simp [PyData.canLayAll0]
    | cons x xs ih => rw [List.map_cons, PyData.canLayAll0, (h x).1, ih]; rfl
  have h2 : PyData.depthAll (xs.map f) ≤ 1 := by
    induction xs with
    | nil => simp [PyData.depthAll]
    | cons x xs ih =>
      have := ih (by
        rw [List.map_cons, PyData.canLayAll0, Bool.and_eq_true] at h1
        exact h1.2)
      rw [List.map_cons, PyData.depthAll]
      have := (h x).2
      omega
  unfold SeqAt.shaped
  rw [PyData.canLay0, h1, Bool.true_and, PyData.depth]
  exact decide_eq_true (by omega)
theorem shBl (bs : List Bl) : SeqAt.shaped (.list (bs.map dBl)) = true := shaped_map (fun x => ⟨by simp [dBl, PyData.canLay0, PyData.canLayAll0], by simp [dBl, PyData.depth, PyData.depthAll]⟩) bs
theorem shRw (rs : List Int) : SeqAt.shaped (.list (rs.map dRw)) = true := shaped_map (fun x => ⟨by simp [dRw, PyData.canLay0, PyData.canLayAll0], by simp [dRw, PyData.depth, PyData.depthAll]⟩) rs
theorem eqv_self {d : PyData} (h : SeqAt.shaped d = true) : PyData.eqv d d = true := SeqAt.eqv_refl d (SeqAt.canLay_of_shaped h)
end Pa
set_option maxRecDepth 100000
set_option maxHeartbeats 4000000
namespace Pa
open PySem PySem.Spec PyProof.Rows L2
def vN (k : Nat) : V := .int (k : Int)
def fI (l : List Nat) : List V := l.map vN
def dN (k : Nat) : PyData := .int (k : Int)
theorem dpN {K : PySem.W.Frag} {H : Hp} : ∀ (l : List Nat), DpAll K H (fI l) (l.map dN)
  | [] => .nil
  | k :: l => .cons (.int _) (dpN l)
theorem shN (l : List Nat) : SeqAt.shaped (.list (l.map dN)) = true := shaped_map (fun x => ⟨by simp [dN, PyData.canLay0], by simp [dN, PyData.depth]⟩) l
theorem eqvN (l : List Nat) : PyData.eqv (.list (l.map dN)) (.list []) = decide (l = []) := by
  cases l with
  | nil => simp [PyData.eqv, PyData.eqvAll]
  | cons k l => simp [PyData.eqv, PyData.eqvAll]
theorem fI_last {l : List Nat} {e : Nat} (h : l.getLast? = some e) : atI (fI l) (-1) = some (.int (e : Int)) := by
  obtain ⟨ys, rfl⟩ := List.getLast?_eq_some_iff.mp h
  unfold fI
  rw [List.map_append]
  exact atI_last _ _
theorem freeL_succ (ls : List Ln) (lo j : Nat) : ((List.range' lo (j + 1)).filter fun k => !(ln ls k).br) = ((List.range' lo j).filter fun k => !(ln ls k).br) ++ (if (ln ls (lo + j)).br = true then [] else [lo + j]) := by
  rw [List.range'_concat, List.filter_append, Nat.one_mul]
  congr 1
  cases h : (ln ls (lo + j)).br <;> simp [h]
theorem freeN_len (ls : List Ln) (lo j : Nat) : ((List.range' lo j).filter fun k => !(ln ls k).br).length ≤ j := Nat.le_trans (List.length_filter_le _ _) (by rw [List.length_range']; exact Nat.le_refl _)
section
variable {P : Program} {w : World} {K : PySem.W.Frag} {mg : Str → Option Value} {base : Heap} {tp C : Addr}
/-! ### _law_cut -/
def spCut : Sp := fun vs H Q _ => ∃ (L : Int) (q : Addr) (lv : List V) (ls : List Ln) (start : Nat), vs = [.int L, .ref q, .int (start : Int)] ∧ H q = some (.lst lv) ∧ AllAt LnAt H lv ls ∧ start < ls.length ∧ ls.length ≤ 100000 ∧
  ∀ H', Same H H' → Q (.int (lawCut L ls start : Int)) H'
abbrev sL_cut : Stmt := topS 20
theorem scL_cut : FnScope ["_law_length_here", "_law_lines_here", "_law_start", "_law_row", "_law_at", "_law_free", "_law_k"] ["_law_length_here", "_law_lines_here", "_law_start"] (defScope sL_cut) := ⟨rfl, rfl, rfl, by decide +kernel, rfl, by decide +kernel, by decide +kernel⟩
theorem ok_cut {f : Addr} {fd : FuncData} (F : Fun K "_law_cut" "_law_cut" sL_cut f fd) (T : Txt K mg tp C) : FnOk P w K mg base CX0 1 f fd ["_law_length_here", "_law_lines_here", "_law_start"] spCut := by
  refine F.ok scL_cut (fun vs H Q E h => ?_) (fun cdv A outer s H vs Q E hr h => ?_)
  · obtain ⟨L, q, lv, ls, start, rfl, _⟩ := h
    rfl
  · obtain ⟨L, q, lv, ls, start, rfl, hq, hall, h1, hlen, k⟩ := h
    refine ⟨_, (pss_cons (ps_set (i := 3) scL_cut.nd rfl (.inl rfl) pe_int)
      (pss_cons (ps_for PassesOwn.never rfl (pi_range2 (by rfl) T.b_range (pa_cons (pe_op op_add (pv 2) pe_int) (pa_cons (pe_callB call_len_seq (by rfl) T.b_len PySem.boot_len (pa_cons (pv 1) pa_nil)) pa_nil))) (pg_name (i := 4) scL_cut.nd rfl (.inl rfl))
        (pss_cons (ps_set (i := 3) scL_cut.nd rfl (.inl rfl) (pe_op op_add (pe_op op_add (pv 3) (pe_ix ix_tup (pe_ix ix_list (pv 1) (pv 4) (fun _ _ => rfl)) pe_int (fun _ _ => rfl))) pe_int))
        (pss_cons (ps_if (pt_val (pe_ix ix_tup (pe_ix ix_list (pv 1) (pv 4) (fun _ _ => rfl)) pe_int (fun _ _ => rfl)))
          (pss_one (ps_ret (pv 4)))
          pss_nil)
        (pss_one (ps_if (pt_cmpR op_ge (pv 3) (pv 0) (nomark _))
          (pss_cons (ps_setLc (i := 5) (own := [("_law_k", 6)]) (g := gName 6) rfl scL_cut.nd rfl rfl (sw_true rfl rfl rfl (by decide +kernel)) (pi_range2 (by rfl) T.b_range (pa_cons (pe_op op_add (pv 2) pe_int) (pa_cons (pe_op op_add (pv 4) pe_int) pa_nil))) (blkOk_by (N := ["_law_length_here", "_law_lines_here", "_law_start", "_law_row", "_law_at", "_law_free", "_law_k"]) (sc := defScope sL_cut) (by decide +kernel)) (fun _ _ _ _ _ => (pg_name (i := 6) scL_cut.nd rfl (.inl rfl))) (fun _ _ _ _ _ => (pts_one (pt_not (pt_val (pe_ix (r := rIxT K) ix_tup (pe_ix (r := rIxL K) ix_list (pv 1) (pv 6) (fun _ _ => rfl)) pe_int (fun _ _ => rfl)))))) (fun _ _ _ _ _ => (pv 6)))
          (pss_one (ps_ret (pe_ifExp (pt_cmpR (op_neD hr.units) (pv 5) (pe_lst pa_nil) (nomark _)) (pe_ix ix_list (pv 5) (pe_un un_neg pe_int) (fun _ _ => rfl)) (pv 4)))))
          pss_nil)))))
      (pss_one (ps_ret (pe_callB call_len_seq (by rfl) T.b_len PySem.boot_len (pa_cons (pv 1) pa_nil)))))), ?_⟩
    unfold lawCut at k
    have hll : lv.length = ls.length := hall.len
    have hn : ((lv.length : Int) - ((start : Int) + 1)).toNat = ls.length - (start + 1) := by omega
    refine ⟨_, rfl, _, _, rfl, rfl, _, rfl, q, _, rfl, .inl (SqL.of hq), (start : Int) + 1, (lv.length : Int), rfl, ⟨by omega, by omega, by omega, by omega⟩, ?_⟩
    rw [hn]
    refine for_range (lo := (start : Int) + 1) (n := ls.length - (start + 1)) (fun i σ H' => ∃ (row : Int) (y4 : Option V), σ = [some (.int L), some (.ref q), some (.int (start : Int)), some (.int row), y4, none, none] ∧ Same H H' ∧ lcGo L ls start (ls.length - (start + 1) - i) (start + 1 + i) row = lcGo L ls start (ls.length - (start + 1)) (start + 1) 0)
      ⟨0, none, rfl, Same.refl H, rfl⟩ ?_ ?_
    · rintro i σ H' hi ⟨row, y4, rfl, s1, hgo⟩
      obtain ⟨m, hm⟩ : ∃ m, ls.length - (start + 1) - i = m + 1 := ⟨ls.length - (start + 1) - i - 1, by omega⟩
      have hat : start + 1 + i < ls.length := by omega
      have eat : (start : Int) + 1 + (i : Int) = ((start + 1 + i : Nat) : Int) := by omega
      rw [hm, lcGo] at hgo
      obtain ⟨t, ht, ht'⟩ := lnTo' s1 hall hat
      have hq1 := s1 _ _ hq
      show gName 4 _ _ _ _
      rw [eat]
      refine ⟨_, rfl, _, rfl, _, rfl, q, _, _, _, rfl, rfl, SqL.of hq1, atI_nat ht, t, _, _, _, rfl, rfl, SqT.of ht', atI_nat (j := 0) rfl, _, _, rfl, rfl, _, _, rfl, rfl, ?_⟩
      refine ⟨_, rfl, _, rfl, q, _, _, _, rfl, rfl, SqL.of hq1, atI_nat ht, t, _, _, _, rfl, rfl, SqT.of ht', atI_nat (j := 2) rfl, _, rfl, ite2 (fun g1 => ?_) (fun g1 => ?_)⟩
      · rw [if_pos g1] at hgo
        rw [← hgo] at k
        exact ⟨_, rfl, k H' s1⟩
      rw [if_neg g1] at hgo
      refine ⟨_, rfl, _, rfl, _, _, rfl, rfl, _, rfl, ite2 (fun g2 => ?_) (fun g2 => ?_)⟩
      · have g2' := of_decide_eq_true g2
        rw [if_pos g2'] at hgo
        rw [← hgo] at k
        refine ⟨_, rfl, _, _, rfl, rfl, _, rfl, _, _, rfl, rfl, (start : Int) + 1, ((start + 1 + i : Nat) : Int) + 1, rfl, ⟨by omega, by omega, by omega, by omega⟩, fun D hD => ?_⟩
        have en : (((start + 1 + i : Nat) : Int) + 1 - ((start : Int) + 1)).toNat = start + 1 + i + 1 - (start + 1) := by omega
        rw [en]
        refine lc_range (lo := (start : Int) + 1) (n := start + 1 + i + 1 - (start + 1)) (fun j H3 => Same H' H3 ∧ H3 D = some (.lst (fI ((List.range' (start + 1) j).filter fun z => !(ln ls z).br)))) ⟨same_new hD, upd_same⟩ ?_ ?_
        · rintro j H3 hj ⟨s3, h3⟩
          have hj2 : start + 1 + j < ls.length := by omega
          have ej : (start : Int) + 1 + (j : Int) = ((start + 1 + j : Nat) : Int) := by omega
          obtain ⟨tj, htj, htj'⟩ := lnTo' (s1.trans s3) hall hj2
          refine ⟨rfl, ?_⟩
          refine ⟨_, rfl, _, rfl, q, _, _, _, rfl, rfl, SqL.of (s3 _ _ hq1), (by rw [ej]; exact atI_nat htj), tj, _, _, _, rfl, rfl, SqT.of htj', atI_nat (j := 1) rfl, _, rfl, ?_⟩
          rcases twoB (ln ls (start + 1 + j)).br with hb | hb
          · refine iteQ (notT hb) ⟨s3, ?_⟩
            rw [freeL_succ, if_pos hb, List.append_nil]
            exact h3
          · refine iteP (notF hb) ⟨_, rfl, _, h3, ?_, fun u o e => ?_, ?_⟩
            · unfold fI
              rw [List.length_map]
              exact Nat.lt_of_le_of_lt (m := 200000) (Nat.le_trans (freeN_len _ _ _) (by omega)) (by decide)
            · rw [upd_ne (fun z => by rw [z, hD] at e; cases e)]
              exact s3 _ _ e
            · rw [upd_same, freeL_succ, if_neg (neT hb), ej]
              unfold fI
              rw [List.map_append]
              rfl
        · rintro H3 ⟨s3, h3⟩
          have e9 : ((List.range' (start + 1) (start + 1 + i + 1 - (start + 1))).filter fun z => !(ln ls z).br) = freeL ls (start + 1) (start + 1 + i + 1) := rfl
          rw [e9] at h3
          rw [lastFree_eq] at k
          refine ⟨_, rfl, (by show 0 ≤ sizeLine; decide), fun u hu => ?_⟩
          have s4 := same_new (o := .lst []) hu
          refine ⟨.list ((freeL ls (start + 1) (start + 1 + i + 1)).map dN), .list [], .lst (SqL.of (s4 _ _ h3)) (dpN _), .lst (SqL.of upd_same) .nil, shN _, shN [], ?_⟩
          rw [eqvN]
          refine ⟨_, rfl, ite2 (fun g3 => ?_) (fun g3 => ?_)⟩
          · cases hg : (freeL ls (start + 1) (start + 1 + i + 1)).getLast? with
            | none =>
              rw [List.getLast?_eq_none_iff.mp hg] at g3
              simp at g3
            | some e =>
              rw [hg, Option.getD_some] at k
              refine ⟨_, rfl, _, rfl, D, _, _, _, rfl, rfl, SqL.of (s4 _ _ h3), fI_last hg, ?_⟩
              exact k _ ((s1.trans s3).trans s4)
          · have e0 : freeL ls (start + 1) (start + 1 + i + 1) = [] := by
              by_cases h : freeL ls (start + 1) (start + 1 + i + 1) = []
              · exact h
              · rw [decide_eq_false h] at g3
                exact absurd rfl g3
            rw [e0] at k
            refine ⟨_, rfl, ?_⟩
            exact k _ ((s1.trans s3).trans s4)
      · rw [if_neg (fun z => g2 (decide_eq_true z))] at hgo
        refine ⟨_, _, rfl, s1, ?_⟩
        rw [← hgo]
        congr 1
        omega
    · rintro σ H' ⟨row, y4, rfl, s1, hgo⟩
      rw [Nat.sub_self, lcGo] at hgo
      refine ⟨_, rfl, q, _, rfl, .inl (SqL.of (s1 _ _ hq)), ?_⟩
      rw [← hgo] at k
      rw [hll]
      exact k H' s1
end
end Pa
set_option maxRecDepth 100000
set_option maxHeartbeats 4000000
namespace Pa
open PySem PySem.Spec PyProof.Rows L2
theorem take_snoc {α : Type} {xs : List α} {i : Nat} {y : α} (h : xs[i]? = some y) : xs.take (i + 1) = xs.take i ++ [y] := by
  rw [List.take_add_one, h]; rfl
section
variable {P : Program} {w : World} {K : PySem.W.Frag} {mg : Str → Option Value} {base : Heap} {tp C : Addr}
def spPages : Sp := fun vs H Q _ => ∃ (L : Int) (q : Addr) (lv : List V) (ls : List Ln), vs = [.int L, .ref q] ∧ H q = some (.lst lv) ∧ AllAt LnAt H lv ls ∧ 0 < L ∧ GoodLs ls ∧ ls.length ≤ 5000 ∧
  ∀ (p : Addr) (H' : Hp) (ys : List V), H p = none → Same H H' → H' p = some (.lst ys) → AllAt RwAt H' ys (rowsOf (runS L ls)) → Q (.ref p) H'
abbrev sL_pages : Stmt := topS 21
theorem scL_pages : FnScope ["_law_length_here", "_law_lines_here", "_law_rows", "_law_start", "_law_at"] ["_law_length_here", "_law_lines_here"] (defScope sL_pages) := ⟨rfl, rfl, rfl, by decide +kernel, rfl, by decide +kernel, by decide +kernel⟩
theorem ok_pages {f : Addr} {fd : FuncData} (F : Fun K "_law_pages" "_law_pages" sL_pages f fd) (T : Txt K mg tp C) (C__law_cut : CallOk P w K mg base 1 "_law_cut" ["_law_length_here", "_law_lines_here", "_law_start"] spCut) : FnOk P w K mg base CX0 2 f fd ["_law_length_here", "_law_lines_here"] spPages := by
  refine F.ok scL_pages (fun vs H Q E h => ?_) (fun cdv A outer s H vs Q E hr h => ?_)
  · obtain ⟨L, q, lv, ls, rfl, _⟩ := h
    rfl
  · obtain ⟨L, q, lv, ls, rfl, hq, hall, hL, g, hlen, k⟩ := h
    refine ⟨_, (pss_cons (ps_par (i := 2) (j := 3) (by rfl) scL_pages.nd rfl rfl (by decide) rfl rfl (pa_cons (pe_lst pa_nil) (pa_cons pe_int pa_nil)) (by rfl))
      (pss_cons (ps_for PassesOwn.never rfl (pi_range1 (by rfl) T.b_range (pa_cons (pe_callB call_len_seq (by rfl) T.b_len PySem.boot_len (pa_cons (pv 1) pa_nil)) pa_nil)) (pg_name (i := 4) scL_pages.nd rfl (.inl rfl))
        (pss_one (ps_if (pt_cmpR op_eq (pv 4) (pv 3) (nomark _))
          (pss_cons (ps_expr (pe_bm PySem.F.plainAttrs_list PySem.F.slot_list_append PySem.F.type_list_append mt_append (pv 2) (pa_cons (pe_tup (pa_cons pe_bl (pa_cons pe_int pa_nil))) pa_nil)))
          (pss_one (ps_set (i := 3) scL_pages.nd rfl (.inl rfl) (pe_cc C__law_cut (hr.mono (by decide)) (by rfl) (pa_cons (pv 0) (pa_cons (pv 1) (pa_cons (pv 4) pa_nil)))))))
          (pss_one (ps_expr (pe_bm PySem.F.plainAttrs_list PySem.F.slot_list_append PySem.F.type_list_append mt_append (pv 2) (pa_cons (pe_tup (pa_cons pe_bl (pa_cons (pe_op op_add (pe_op op_add (pe_ix ix_tup (pe_ix ix_list (pv 2) (pe_un un_neg pe_int) (fun _ _ => rfl)) pe_int (fun _ _ => rfl)) (pe_ix ix_tup (pe_ix ix_list (pv 1) (pv 4) (fun _ _ => rfl)) pe_int (fun _ _ => rfl))) pe_int) pa_nil))) pa_nil)))))))
      (pss_one (ps_ret (pv 2))))), ?_⟩
    obtain ⟨Ef, E0', hE⟩ := law_pages hL g
    have hRl : (rowsOf (runS L ls)).length = ls.length := (right_ok hL g).1
    generalize rowsOf (runS L ls) = R at k hE hRl
    have hll : lv.length = ls.length := hall.len
    refine ⟨Nat.zero_le _, fun p hp => ?_⟩
    refine ⟨_, _, rfl, ?_⟩
    have sp := same_new (o := .lst []) hp
    refine ⟨_, rfl, q, _, rfl, .inl (SqL.of (sp _ _ hq)), _, rfl, by omega, by omega, for_range (lo := 0) (n := ((lv.length : Nat) : Int).toNat) (fun i σ H' => ∃ (y4 : Option V) (ys : List V), σ = [some (.int L), some (.ref q), some (.ref p), some (.int (Ef i : Int)), y4] ∧ Same H H' ∧ H' p = some (.lst ys) ∧ AllAt RwAt H' ys (R.take i))
      ⟨none, [], by rw [E0']; rfl, sp, upd_same, trivial⟩ ?_ ?_⟩
    · rintro i σ H' hi ⟨y4, ys, rfl, s1, hys, hrw⟩
      have hi' : i < ls.length := by omega
      have hyl : ys.length ≤ 5000 := by
        rw [hrw.len, List.length_take]
        omega
      have hsz : ys.length < sizeLine := Nat.lt_of_le_of_lt hyl (by decide)
      show gName 4 _ _ _ _
      rw [Int.zero_add]
      rcases hE i hi' with ⟨e1, e2, e3⟩ | ⟨e1, e2, e3, r, e4, e5, e6⟩
      · refine ⟨_, rfl, _, rfl, rfl, _, rfl, iteP (decide_eq_true (by rw [e1])) ?_⟩
        refine ⟨_, rfl, .inl ⟨rfl, _, SqL.of hys⟩, (by show 2 ≤ sizeLine; decide), fun u hu => ?_⟩
        obtain ⟨p1, p2, p3, p4⟩ := all_push (f := fun r : Int => [.bl (decide (r = 0)), .int r]) (y := (0 : Int)) (tv := [.bl true, .int 0]) hys hrw hu rfl
        refine ⟨p, _, _, rfl, rfl, p3, hsz, ?_⟩
        have s2 : Same H (upd (upd H' u (.tup [.bl true, .int 0])) p (.lst (ys ++ [.ref u]))) := fun a o e => p4 a o (fun z => by rw [z, hp] at e; cases e) (s1 _ _ e)
        refine ⟨_, rfl, _, rfl, _, rfl, L, q, lv, ls, i, rfl, s2 _ _ hq, lnMono (Tups.of s2) hall, hi', by omega, fun H3 s3 => ?_⟩
        rw [e3]
        refine ⟨_, _, rfl, s2.trans s3, s3 _ _ p1, ?_⟩
        rw [take_snoc e2]
        exact rwMono (Tups.of s3) p2
      · refine ⟨_, rfl, _, rfl, rfl, _, rfl, iteQ (fun z => e1 (by have := V.int.inj (of_decide_eq_true z); omega)) ?_⟩
        have hpr : R.take i = R.take (i - 1) ++ [r] := by
          have := take_snoc e4
          rw [show i - 1 + 1 = i by omega] at this
          exact this
        obtain ⟨xs0, x, b0, exs, hx⟩ : ∃ xs0 x b0, ys = xs0 ++ [x] ∧ b0 = true ∧ RwAt H' x r := by
          obtain ⟨z, hz, hz'⟩ := hrw.to (i := i - 1) (y := r) (by rw [List.getElem?_take, if_pos (by omega)]; exact e4)
          have hl : ys.length = i := by rw [hrw.len, List.length_take]; omega
          refine ⟨ys.take (i - 1), z, true, ?_, rfl, hz'⟩
          have := take_snoc hz
          rw [show i - 1 + 1 = i by omega, List.take_of_length_le (by omega)] at this
          exact this
        obtain ⟨_, tx, rfl, htx⟩ := hx
        obtain ⟨tl, htl, htl'⟩ := lnTo' s1 hall hi'
        refine ⟨_, rfl, .inl ⟨rfl, _, SqL.of hys⟩, ?_⟩
        refine ⟨_, rfl, _, rfl, p, _, _, _, rfl, rfl, SqL.of hys, (by rw [exs]; exact atI_last _ _), tx, _, _, _, rfl, rfl, SqT.of htx, atI_nat (j := 1) rfl, ?_⟩
        refine ⟨_, rfl, _, rfl, q, _, _, _, rfl, rfl, SqL.of (s1 _ _ hq), atI_nat htl, tl, _, _, _, rfl, rfl, SqT.of htl', atI_nat (j := 0) rfl, _, _, rfl, rfl, _, _, rfl, rfl, (by show 2 ≤ sizeLine; decide), fun u hu => ?_⟩
        obtain ⟨p1, p2, p3, p4⟩ := all_push (f := fun r : Int => [.bl (decide (r = 0)), .int r]) (y := r + (ln ls i).sp + 1) (tv := [.bl false, .int (r + (ln ls i).sp + 1)]) hys hrw hu (by rw [decide_eq_false e6])
        refine ⟨p, _, _, rfl, rfl, p3, hsz, ?_⟩
        refine ⟨_, _, by rw [e3]; rfl, fun a o e => p4 a o (fun z => by rw [z, hp] at e; cases e) (s1 _ _ e), p1, ?_⟩
        rw [take_snoc e5]
        exact p2
    · rintro σ H' ⟨y4, ys, rfl, s1, hys, hrw⟩
      have e0 : ((lv.length : Nat) : Int).toNat = lv.length := Int.toNat_natCast _
      rw [e0, List.take_of_length_le (by omega)] at hrw
      exact ⟨_, rfl, k p H' ys hp s1 hys hrw⟩
end
end Pa
set_option maxRecDepth 100000
set_option maxHeartbeats 4000000
namespace Pa
open PySem PySem.Spec PyProof.Rows L2
theorem rwTo {H : Hp} {rv : List V} {R : List Int} {i : Nat} {r : Int} (h : AllAt RwAt H rv R) (e : R[i]? = some r) : ∃ t, rv[i]? = some (.ref t) ∧ H t = some (.tup [.bl (decide (r = 0)), .int r]) := by
  obtain ⟨x, hx, t, rfl, ht⟩ := h.to e
  exact ⟨t, hx, ht⟩
theorem rw_last {H : Hp} {rv : List V} {R : List Int} {n : Nat} {r : Int} (h : AllAt RwAt H rv R) (hn : R.length = n) (h0 : 0 < n) (e : R[n - 1]? = some r) : ∃ t, atI rv (-1) = some (.ref t) ∧ H t = some (.tup [.bl (decide (r = 0)), .int r]) := by
  obtain ⟨t, ht, ht'⟩ := rwTo h e
  refine ⟨t, ?_, ht'⟩
  have := take_snoc ht
  rw [show n - 1 + 1 = n by omega, List.take_of_length_le (by rw [h.len, hn]; exact Nat.le_refl _)] at this
  rw [this]
  exact atI_last _ _
/-- which lines begin a page -/
def zI (R : List Int) (j : Nat) : List Nat := (List.range j).filter fun k => decide (R[k]? = some 0)
theorem zI_succ (R : List Int) (j : Nat) : zI R (j + 1) = zI R j ++ (if R[j]? = some 0 then [j] else []) := by
  unfold zI
  rw [List.range_succ, List.filter_append]
  congr 1
  by_cases h : R[j]? = some 0 <;> simp [h]
theorem zI_len (R : List Int) (j : Nat) : (zI R j).length ≤ j := Nat.le_trans (List.length_filter_le _ _) (by rw [List.length_range]; exact Nat.le_refl _)
theorem fI_ints (l : List Nat) : fI l = (l.map fun k : Nat => (k : Int)).map V.int := by
  unfold fI
  rw [List.map_map]
  rfl
theorem freeL_len (ls : List Ln) (lo hi : Nat) : (freeL ls lo hi).length ≤ hi - lo := freeN_len ls lo (hi - lo)
def linesDue (bs : List Bl) : Bool := (linesOf bs).du
section
variable {P : Program} {w : World} {K : PySem.W.Frag} {mg : Str → Option Value} {base : Heap} {tp C : Addr}
/-- the standing that these blocks leave stands at p -/
def StIs (H : Hp) (p : Addr) (q : SB) : Prop := H p = some (.tup [.str (wordOf q.kd q.h), .int q.h, .int q.t])
def spStanding (K : PySem.W.Frag) : Sp := fun vs H Q _ => ∃ (L : Int) (a : Addr) (xs : List V) (bs : List Bl), vs = [.int L, .ref a] ∧ SqL K H a xs ∧ AllAt BlAt H xs bs ∧ Book bs ∧ 0 < L ∧
  ∀ (p : Addr) (H' : Hp), H p = none → Same H H' → StIs H' p (pageOf L bs) → Q (.ref p) H'
abbrev sL_standing : Stmt := topS 22
theorem scL_standing : FnScope ["_law_length_here", "_law_blocks", "_law_lines_here", "_law_barred", "_law_due", "_law_rows", "_law_first", "_law_k", "_law_high", "_law_free"] ["_law_length_here", "_law_blocks"] (defScope sL_standing) := ⟨rfl, rfl, rfl, by decide +kernel, rfl, by decide +kernel, by decide +kernel⟩
theorem ok_lstanding {f : Addr} {fd : FuncData} (F : Fun K "_law_standing" "_law_standing" sL_standing f fd) (T : Txt K mg tp C) (C__law_lines : CallOk P w K mg base 1 "_law_lines" ["_law_blocks"] (spLLines K))
    (C__law_pages : CallOk P w K mg base 2 "_law_pages" ["_law_length_here", "_law_lines_here"] spPages) : FnOk P w K mg base CX0 3 f fd ["_law_length_here", "_law_blocks"] (spStanding K) := by
  refine F.ok scL_standing (fun vs H Q E h => ?_) (fun cdv A outer s H vs Q E hr h => ?_)
  · obtain ⟨L, a, xs, bs, rfl, _⟩ := h
    rfl
  · obtain ⟨L, a, xs, bs, rfl, hS, hx, B, hL, k⟩ := h
    refine ⟨_, (pss_cons (ps_asg (pe_cc C__law_lines (hr.mono (by decide)) (by rfl) (pa_cons (pv 1) pa_nil)) (pg_tup rfl (pgs_cons (pg_name (i := 2) scL_standing.nd rfl (.inr rfl)) (pgs_cons (pg_name (i := 3) scL_standing.nd rfl (.inl rfl)) (pgs_cons (pg_name (i := 4) scL_standing.nd rfl (.inl rfl)) pgs_nil)))))
      (pss_cons (ps_if (pt_val (pv 4))
        (pss_one (ps_ret (pe_tup (pa_cons pe_str (pa_cons pe_int (pa_cons pe_int pa_nil))))))
        pss_nil)
      (pss_cons (ps_set (i := 5) scL_standing.nd rfl (.inr rfl) (pe_cc C__law_pages (hr.mono (by decide)) (by rfl) (pa_cons (pv 0) (pa_cons (pv 2) pa_nil))))
      (pss_cons (ps_set (i := 6) scL_standing.nd rfl (.inl rfl) (pe_callB (cr_max rfl) (by rfl) T.b_max (by decide +kernel) (pa_cons (pe_lc (own := [("_law_k", 7)]) (g := gName 7) rfl scL_standing.nd (pi_range1 (by rfl) T.b_range (pa_cons (pe_callB call_len_seq (by rfl) T.b_len PySem.boot_len (pa_cons (pv 5) pa_nil)) pa_nil)) (blkOk_by (N := ["_law_length_here", "_law_blocks", "_law_lines_here", "_law_barred", "_law_due", "_law_rows", "_law_first", "_law_k", "_law_high", "_law_free"]) (sc := defScope sL_standing) (by decide +kernel)) (fun _ _ _ _ _ => (pg_name (i := 7) scL_standing.nd rfl (.inl rfl))) (fun _ _ _ _ _ => (pts_one (pt_val (pe_ix (r := rIxT K) ix_tup (pe_ix (r := rIxL K) ix_list (pv 5) (pv 7) (fun _ _ => rfl)) pe_int (fun _ _ => rfl))))) (fun _ _ _ _ _ => (pv 7))) pa_nil)))
      (pss_cons (ps_set (i := 8) scL_standing.nd rfl (.inl rfl) (pe_pure (pe_op op_add (pe_ix ix_tup (pe_ix ix_list (pv 5) (pe_un un_neg pe_int) (fun _ _ => rfl)) pe_int (fun _ _ => rfl)) pe_int)))
      (pss_cons (ps_setLc (i := 9) (own := [("_law_k", 7)]) (g := gName 7) rfl scL_standing.nd rfl rfl (sw_true rfl rfl rfl (by decide +kernel)) (pi_range2 (by rfl) T.b_range (pa_cons (pe_op op_add (pv 6) pe_int) (pa_cons (pe_callB call_len_seq (by rfl) T.b_len PySem.boot_len (pa_cons (pv 5) pa_nil)) pa_nil))) (blkOk_by (N := ["_law_length_here", "_law_blocks", "_law_lines_here", "_law_barred", "_law_due", "_law_rows", "_law_first", "_law_k", "_law_high", "_law_free"]) (sc := defScope sL_standing) (by decide +kernel)) (fun _ _ _ _ _ => (pg_name (i := 7) scL_standing.nd rfl (.inl rfl))) (fun _ _ _ _ _ => (pts_one (pt_not (pt_val (pe_ix (r := rIxT K) ix_tup (pe_ix (r := rIxL K) ix_list (pv 2) (pv 7) (fun _ _ => rfl)) pe_int (fun _ _ => rfl)))))) (fun _ _ _ _ _ => (pv 7)))
      (pss_cons (ps_if (pt_by (PW.pt (pw_and (pt_cmpR op_eq (pv 8) (pv 0) (nomark _)) (pw_and1 (PW.pt (pw_or (pt_not (pt_val (pv 3))) (pw_or1 (pt_cmpR (op_eqD hr.units) (pv 9) (pe_lst pa_nil) (nomark _)))))))))
        (pss_one (ps_ret (pe_tup (pa_cons pe_str (pa_cons pe_int (pa_cons pe_int pa_nil))))))
        pss_nil)
      (pss_cons (ps_if (pt_not (pt_val (pv 3)))
        (pss_one (ps_ret (pe_tup (pa_cons pe_str (pa_cons (pv 8) (pa_cons pe_int pa_nil))))))
        pss_nil)
      (pss_one (ps_ret (pe_tup (pa_cons pe_str (pa_cons (pv 8) (pa_cons (pe_ifExp (pt_cmpR (op_neD hr.units) (pv 9) (pe_lst pa_nil) (nomark _)) (pe_op op_sub (pv 8) (pe_ix ix_tup (pe_ix ix_list (pv 5) (pe_ix ix_list (pv 9) (pe_un un_neg pe_int) (fun _ _ => rfl)) (fun _ _ => rfl)) pe_int (fun _ _ => rfl))) pe_int) pa_nil)))))))))))))), ?_⟩
    have hbs : ∀ b ∈ bs, 0 ≤ b.s := fun b hb => (B.small b hb).2
    have Rl := pageOf_rel hL bs hbs
    have Xl := pageOf_excl hL bs hbs
    have gl := (good_lines bs hbs).1
    have hlen := B.len
    generalize pageOf L bs = q0 at k Rl Xl
    refine ⟨_, rfl, a, xs, bs, rfl, hS, hx, B, fun p1 lq H1 lv hp1 s1 ht1 hlq hlv => ?_⟩
    refine ⟨p1, _, rfl, SqT.of ht1, rfl, _, _, rfl, _, _, rfl, _, _, rfl, rfl, ?_⟩
    generalize linesOf bs = t at Rl Xl gl hlen hlv
    refine ⟨_, rfl, _, rfl, ite2 (fun hd => ?_) (fun hd => ?_)⟩
    · obtain ⟨z1, z2, z3, _⟩ := Rl.due hd
      refine ⟨(by show 3 ≤ sizeLine; decide), fun p hp => ?_⟩
      refine k p _ (s1.free hp) (s1.trans (same_new hp)) ?_
      unfold StIs
      rw [upd_same, z1, z2, z3]
      rfl
    have hd : t.du = false := by simpa using hd
    obtain ⟨fst, hi, M⟩ := stand_ok hL gl Rl Xl hd
    refine ⟨_, rfl, _, rfl, L, lq, lv, t.ls, rfl, hlq, hlv, hL, gl, by omega, fun pr H2 rv hpr s2 hrv hrw => ?_⟩
    have S2 : Same H H2 := s1.trans s2
    have hlq2 := s2 _ _ hlq
    have hlv2 := lnMono (Tups.of s2) hlv
    generalize rowsOf (runS L t.ls) = R at M hrw
    have hrl : rv.length = t.ls.length := hrw.len.trans M.len
    -- the first line of the last page
    refine ⟨_, rfl, pr, _, rfl, .inl (SqL.of hrv), _, rfl, by omega, by omega, fun D hD => ?_⟩
    have e0 : ((rv.length : Nat) : Int).toNat = rv.length := Int.toNat_natCast _
    refine lc_range (lo := 0) (n := ((rv.length : Nat) : Int).toNat) (fun j H3 => Same H2 H3 ∧ H3 D = some (.lst (fI (zI R j)))) ⟨same_new hD, upd_same⟩ ?_ ?_
    · rintro j H3 hj ⟨s3, h3⟩
      have hj2 : j < R.length := by rw [M.len]; omega
      have ej : (0 : Int) + (j : Int) = ((j : Nat) : Int) := by omega
      obtain ⟨tj, htj, htj'⟩ := rwTo hrw (List.getElem?_eq_getElem hj2)
      refine ⟨rfl, ?_⟩
      refine ⟨_, rfl, _, rfl, pr, _, _, _, rfl, rfl, SqL.of (s3 _ _ hrv), (by rw [ej]; exact atI_nat htj), tj, _, _, _, rfl, rfl, SqT.of (s3 _ _ htj'), atI_nat (j := 0) rfl, _, rfl, ?_⟩
      by_cases hz : R[j] = 0
      · refine iteP (decide_eq_true hz) ⟨_, rfl, _, h3, ?_, fun u o e => ?_, ?_⟩
        · unfold fI
          rw [List.length_map]
          exact Nat.lt_of_le_of_lt (m := 200000) (Nat.le_trans (zI_len _ _) (by omega)) (by decide)
        · rw [upd_ne (fun z => by rw [z, hD] at e; cases e)]
          exact s3 _ _ e
        · rw [upd_same, zI_succ, if_pos (by rw [List.getElem?_eq_getElem hj2, hz]), ej]
          unfold fI
          rw [List.map_append]
          rfl
      · refine iteQ (fun z => hz (of_decide_eq_true z)) ⟨s3, ?_⟩
        rw [zI_succ, if_neg (by rw [List.getElem?_eq_getElem hj2]; exact fun z => hz (Option.some.inj z)), List.append_nil]
        exact h3
    rintro H3 ⟨s3, h3⟩
    rw [e0, hrl] at h3
    have hmem : fst ∈ zI R t.ls.length := List.mem_filter.mpr ⟨List.mem_range.mpr M.lt, decide_eq_true M.zero⟩
    have hmax : ∀ y ∈ zI R t.ls.length, y ≤ fst := fun y hy => by
      rcases Nat.lt_or_ge fst y with h | h
      · exact absurd (of_decide_eq_true (List.mem_filter.mp hy).2) (M.pos y h)
      · exact h
    rw [fI_ints] at h3
    refine ⟨D, _, rfl, SqL.of h3, by rw [List.length_map]; exact List.length_pos_of_mem hmem, fun m hm1 hm2 => ?_⟩
    have em : m = (fst : Int) := by
      obtain ⟨y, hy, e⟩ := List.mem_map.mp hm1
      have h1 := hmax y hy
      have h2 := hm2 _ (List.mem_map.mpr ⟨fst, hmem, rfl⟩)
      omega
    rw [em]
    -- high
    have hlast := M.last
    obtain ⟨tz, htz, htz'⟩ := rw_last hrw M.len (Nat.lt_of_le_of_lt (Nat.zero_le _) M.lt) hlast
    have eh : hi - 1 + 1 = hi := by omega
    refine ⟨.int hi, fun Q' hQ => ⟨_, rfl, _, rfl, pr, _, _, _, rfl, rfl, SqL.of (s3 _ _ hrv), htz, tz, _, _, _, rfl, rfl, SqT.of (s3 _ _ htz'), atI_nat (j := 1) rfl, _, _, rfl, rfl, ?_⟩, ?_⟩
    · show Q' (.int (hi - 1 + 1)) _
      rw [eh]
      exact hQ
    -- the free places
    have hfst := M.lt
    refine ⟨_, rfl, _, _, rfl, rfl, _, rfl, pr, _, rfl, .inl (SqL.of (s3 _ _ hrv)), (fst : Int) + 1, (rv.length : Int), rfl, ⟨by omega, by omega, by omega, by omega⟩, fun D2 hD2 => ?_⟩
    have en : ((rv.length : Int) - ((fst : Int) + 1)).toNat = t.ls.length - (fst + 1) := by omega
    rw [en]
    have S3 : Same H H3 := S2.trans s3
    have hlv3 := lnMono (Tups.of s3) hlv2
    refine lc_range (lo := (fst : Int) + 1) (n := t.ls.length - (fst + 1)) (fun j H4 => Same H3 H4 ∧ H4 D2 = some (.lst (fI ((List.range' (fst + 1) j).filter fun z => !(ln t.ls z).br)))) ⟨same_new hD2, upd_same⟩ ?_ ?_
    · rintro j H4 hj ⟨s4, h4⟩
      have hj2 : fst + 1 + j < t.ls.length := by omega
      have ej : (fst : Int) + 1 + (j : Int) = ((fst + 1 + j : Nat) : Int) := by omega
      obtain ⟨tj, htj, htj'⟩ := lnTo' s4 hlv3 hj2
      refine ⟨rfl, ?_⟩
      refine ⟨_, rfl, _, rfl, lq, _, _, _, rfl, rfl, SqL.of (s4 _ _ (s3 _ _ hlq2)), (by rw [ej]; exact atI_nat htj), tj, _, _, _, rfl, rfl, SqT.of htj', atI_nat (j := 1) rfl, _, rfl, ?_⟩
      rcases twoB (ln t.ls (fst + 1 + j)).br with hb | hb
      · refine iteQ (notT hb) ⟨s4, ?_⟩
        rw [freeL_succ, if_pos hb, List.append_nil]
        exact h4
      · refine iteP (notF hb) ⟨_, rfl, _, h4, ?_, fun u o e => ?_, ?_⟩
        · unfold fI
          rw [List.length_map]
          exact Nat.lt_of_le_of_lt (m := 200000) (Nat.le_trans (freeN_len _ _ _) (by omega)) (by decide)
        · rw [upd_ne (fun z => by rw [z, hD2] at e; cases e)]
          exact s4 _ _ e
        · rw [upd_same, freeL_succ, if_neg (neT hb), ej]
          unfold fI
          rw [List.map_append]
          rfl
    rintro H4 ⟨s4, h4⟩
    have e9 : ((List.range' (fst + 1) (t.ls.length - (fst + 1))).filter fun z => !(ln t.ls z).br) = freeL t.ls (fst + 1) t.ls.length := rfl
    rw [e9] at h4
    have S4 : Same H H4 := S3.trans s4
    have M1 := M.top
    have M2 := M.opn
    have M3 := M.kept
    have hi0 := M.hi0
    have hrw4 := rwMono (Tups.of (s3.trans s4)) hrw
    have hrv4 := (s3.trans s4) _ _ hrv
    generalize hfr : freeL t.ls (fst + 1) t.ls.length = fr at h4 M1 M2 M3
    clear M hrw hlv3 hlv2 hlv Rl Xl
    -- at the foot, and nothing can be taken over
    refine ⟨fun c H' => Same H4 H' ∧ c = decide (hi = L ∧ (t.kp = false ∨ fr = [])), fun Q' hQ => ?_, ?_⟩
    · refine ⟨_, rfl, _, rfl, rfl, _, rfl, ite2 (fun g1 => ?_) (fun g1 => ?_)⟩
      · have g1 : hi = L := V.int.inj (of_decide_eq_true g1)
        refine ⟨_, rfl, _, rfl, ?_⟩
        rcases twoB t.kp with hk | hk
        · refine iteQ (notT hk) ?_
          refine ⟨_, rfl, (by show 0 ≤ sizeLine; decide), fun u hu => ?_⟩
          have s5 := same_new (o := .lst []) hu
          refine ⟨.list (fr.map dN), .list [], .lst (SqL.of (s5 _ _ h4)) (dpN _), .lst (SqL.of upd_same) .nil, shN _, shN [], _, rfl, ?_⟩
          refine hQ _ _ ⟨s5, ?_⟩
          rw [eqvN]
          by_cases h : fr = []
          · rw [decide_eq_true h, decide_eq_true ⟨g1, .inr h⟩]
          · rw [decide_eq_false h, decide_eq_false (fun z => z.2.elim (fun z => by rw [hk] at z; cases z) h)]
        · refine iteP (notF hk) ?_
          exact hQ _ _ ⟨Same.refl _, (decide_eq_true ⟨g1, .inl hk⟩).symm⟩
      · have g1 : ¬ hi = L := fun z => g1 (decide_eq_true (by rw [z]))
        exact hQ _ _ ⟨Same.refl _, (decide_eq_false fun z => g1 z.1).symm⟩
    rintro c H5 ⟨s5, rfl⟩
    have S5 : Same H H5 := S4.trans s5
    refine ite2 (fun g1 => ?_) (fun g1 => ?_)
    · obtain ⟨z1, z2, z3⟩ := M1 (of_decide_eq_true g1)
      refine ⟨(by show 3 ≤ sizeLine; decide), fun p hp => ?_⟩
      refine k p _ (S5.free hp) (S5.trans (same_new hp)) ?_
      unfold StIs
      rw [upd_same, z1, z2, z3]
      rfl
    have g1 : ¬ (hi = L ∧ (t.kp = false ∨ fr = [])) := fun z => g1 (decide_eq_true z)
    refine ⟨_, rfl, _, rfl, ?_⟩
    rcases twoB t.kp with hk | hk
    · refine iteQ (notT hk) ?_
      obtain ⟨z1, z2, z3, z4⟩ := M3 g1 hk
      have fin : ∀ p H', H' p = none → Same H5 H' → Q (.ref p) (upd H' p (.tup [.str "kept", .int hi, .int q0.t])) := fun p H' hp s' => by
        refine k p _ ((S5.trans s').free hp) ((S5.trans s').trans (same_new hp)) ?_
        unfold StIs
        rw [upd_same, z1, z2]
        rfl
      refine ⟨_, rfl, _, rfl, (by show 0 ≤ sizeLine; decide), fun u hu => ?_⟩
      have s6 := same_new (o := .lst []) hu
      refine ⟨.list (fr.map dN), .list [], .lst (SqL.of (s6 _ _ (s5 _ _ h4))) (dpN _), .lst (SqL.of upd_same) .nil, shN _, shN [], ?_⟩
      rw [eqvN]
      refine ⟨_, rfl, ite2 (fun g3 => ?_) (fun g3 => ?_)⟩
      · cases hg : fr.getLast? with
        | none =>
          rw [List.getLast?_eq_none_iff.mp hg] at g3
          simp at g3
        | some e =>
          obtain ⟨r, hr', hq⟩ := z4 e hg
          obtain ⟨te, hte, hte'⟩ := rwTo hrw4 hr'
          refine ⟨_, rfl, _, rfl, _, rfl, _, rfl, D2, _, _, _, rfl, rfl, SqL.of (s6 _ _ (s5 _ _ h4)), fI_last hg, pr, _, _, _, rfl, rfl, SqL.of (s6 _ _ (s5 _ _ hrv4)), atI_nat hte, te, _, _, _, rfl, rfl, SqT.of (s6 _ _ (s5 _ _ hte')), atI_nat (j := 1) rfl, _, _, rfl, rfl, (by show 3 ≤ sizeLine; decide), fun p hp => ?_⟩
          have := fin p _ hp s6
          rw [hq] at this
          exact this
      · have e0 : fr = [] := by
          by_cases h : fr = []
          · exact h
          · rw [decide_eq_false h] at g3
            exact absurd rfl g3
        refine ⟨(by show 3 ≤ sizeLine; decide), fun p hp => ?_⟩
        have := fin p _ hp s6
        rw [z3 e0] at this
        exact this
    · refine iteP (notF hk) ?_
      obtain ⟨z1, z2, z3⟩ := M2 g1 hk
      refine ⟨_, rfl, (by show 3 ≤ sizeLine; decide), fun p hp => ?_⟩
      refine k p _ (S5.free hp) (S5.trans (same_new hp)) ?_
      unfold StIs
      rw [upd_same, z1, z2, z3]
      unfold wordOf
      rw [if_neg (by decide), if_neg (by omega)]
end
end Pa
set_option maxRecDepth 100000
set_option maxHeartbeats 4000000
namespace Pa
open PySem PySem.Spec PyProof.Rows L2 Builtin
/-! ### len(o) by an own __len__ -/
structure LenC (K : PySem.W.Frag) (C f : Addr) : Prop where
  at_ : PySem.W.findIn K (.ref C) "__len__" = some (some (.ref f))
  fn : PySem.W.isFn K (.ref f) = true
section
variable {prog : Program} {w : World} {A : Around} {E : Value → Shared → Prop} {K : PySem.W.Frag} {x C f : Addr} {ox : Obj} {od : Option Obj} {s : Shared}
theorem len_fn {Q : Value → Shared → Prop} (X : K.In s.heap) (I : PySem.W.InstAt s.heap x ox C od) (c : LenC K C f)
    (hcall : wpAny (model prog w) A.in1 (call (.ref f) [.ref x]) (fun r s' => ∃ n u, r = .int n u ∧ 0 ≤ n ∧ n < 2 ^ 63 ∧ Q (.int n s'.toks) { s' with toks := s'.toks + 1 }) E s) :
    wpAny (model prog w) A (call (.builtin "len") [.ref x]) Q E s := by
  refine Calls.call_function_entry kind_len plain_len entry_len (args_len1 _) ?_
  unfold Builtin.«len»
  refine wpAny_bind (m := oneArg "len" _) (wpAny_pure ?_)
  refine wpAny_bind (m := callSpecial? (.ref x) (Str.ofString "__len__")) (PySem.W.special_fn X I c.at_ (beq_iff_eq.mp c.fn) (wpAny_mono hcall (fun r s' hr => ?_) fun _ _ y => y))
  obtain ⟨n, u, rfl, h0, h1, hq⟩ := hr
  refine wpAny_bind (wpAny_holding (wpAny_pure ?_))
  refine wpAny_bind (wpAny_letGo ?_)
  show wpAny _ _ (if n < 0 then _ else _) _ _ _
  rw [if_neg (by omega)]
  show wpAny _ _ (if n ≥ 2 ^ 63 then _ else _) _ _ _
  rw [if_neg (by omega)]
  exact wpAny_bind (wpAny_mkInt (wpAny_pure ⟨_, rfl, hq⟩))
end
section
variable {X : Cx} {k : Nat} {C g : Addr} {fd : FuncData} {ps : List Str} {sp : Sp}
theorem call_lenOwn (hc : LenC X.K C g) (F : FnOk X.prog X.w X.K X.mg X.base CX0 k g fd ps sp) (hr : Room (k + 1) X.A) (hb : Binds X.K fd ps []) :
    CallR X (.builtin "len") (fun xs H Q => ∃ a dx fs, xs = [.ref a] ∧ H a = some (.ins C dx fs) ∧ sp [.ref a] H (fun v H' => ∃ n : Int, v = .int n ∧ 0 ≤ n ∧ n < 2 ^ 63 ∧ Q (.int n) H') E0) := by
  intro pins s σ H xs us Q I r h
  obtain ⟨a, dx, fs, rfl, ea, q⟩ := h
  obtain ⟨u, rfl, ru⟩ := vals1 r
  obtain rfl : u = Value.ref a := ru
  obtain ⟨mA, O, _, _, _, _⟩ := ins_get I.hok ea
  obtain ⟨od, J, _⟩ := O.look
  have hl : ([Value.ref a] ++ []).length = ps.length := F.len _ _ _ _ q
  refine len_fn I.kIn J hc (wpAny_call (codeAny_mono (F.run X.A.in1 X.stack s H ⟨[.ref a], []⟩ [.ref a] [.ref a] _ E0 hr.in1 I.env0.in1 (hb _ [.ref a] I.kIn hl) (.cons rfl .nil) q) fun r s' hq => ?_))
  cases r with
  | error er => exact pass0 pins σ H s er s' I hq
  | ok fl =>
    cases fl with
    | ret u =>
      obtain ⟨v, H', I3, rv, n, rfl, h0, h1, q3⟩ := I.after hq
      obtain ⟨tk, rfl⟩ := rv
      exact ⟨n, tk, rfl, h0, h1, .int n, H', I3.tok _, ⟨_, rfl⟩, q3⟩
    | next => exact False.elim hq
    | brk => exact False.elim hq
    | cont => exact False.elim hq
end
end Pa
set_option maxRecDepth 100000
set_option maxHeartbeats 4000000
namespace Pa
open PySem PySem.Spec PyProof.Rows L2
section
variable {P : Program} {w : World} {K : PySem.W.Frag} {mg : Str → Option Value} {base : Heap} {tp C : Addr}
/-! ### _law_pending -/
def spPending (K : PySem.W.Frag) : Sp := fun vs H Q _ => ∃ (L : Int) (a : Addr) (xs : List V) (bs : List Bl), vs = [.int L, .ref a] ∧ SqL K H a xs ∧ AllAt BlAt H xs bs ∧ Book bs ∧ 0 < L ∧
  ∀ (H' : Hp), Same H H' → Q (.int (pageOf L bs).lo) H'
abbrev sL_pending : Stmt := topS 28
theorem scL_pending : FnScope ["_law_length_here", "_law_blocks", "_law_standing_here", "_law_rows", "_law_count", "_law_starts", "_law_row"] ["_law_length_here", "_law_blocks"] (defScope sL_pending) := ⟨rfl, rfl, rfl, by decide +kernel, rfl, by decide +kernel, by decide +kernel⟩
theorem ok_lpending {f : Addr} {fd : FuncData} (F : Fun K "_law_pending" "_law_pending" sL_pending f fd) (T : Txt K mg tp C) (C__law_lines : CallOk P w K mg base 1 "_law_lines" ["_law_blocks"] (spLLines K))
    (C__law_pages : CallOk P w K mg base 2 "_law_pages" ["_law_length_here", "_law_lines_here"] spPages) (C__law_standing : CallOk P w K mg base 3 "_law_standing" ["_law_length_here", "_law_blocks"] (spStanding K)) : FnOk P w K mg base CX0 4 f fd ["_law_length_here", "_law_blocks"] (spPending K) := by
  refine F.ok scL_pending (fun vs H Q E h => ?_) (fun cdv A outer s H vs Q E hr h => ?_)
  · obtain ⟨L, a, xs, bs, rfl, _⟩ := h
    rfl
  · obtain ⟨L, a, xs, bs, rfl, hS, hx, B, hL, k⟩ := h
    refine ⟨_, (pss_cons (ps_set (i := 2) scL_pending.nd rfl (.inl rfl) (pe_cc C__law_standing (hr.mono (by decide)) (by rfl) (pa_cons (pv 0) (pa_cons (pv 1) pa_nil))))
      (pss_cons (ps_if (pt_cmpR op_eq (pe_ix ix_tup (pv 2) pe_int (fun _ _ => rfl)) pe_int (nomark _))
        (pss_one (ps_ret pe_int))
        pss_nil)
      (pss_cons (ps_par (i := 3) (j := 4) (by rfl) scL_pending.nd rfl rfl (by decide) rfl rfl (pa_cons (pe_cc C__law_pages (hr.mono (by decide)) (by rfl) (pa_cons (pv 0) (pa_cons (pe_ix ix_tup (pe_cc C__law_lines (hr.mono (by decide)) (by rfl) (pa_cons (pv 1) pa_nil)) pe_int (fun _ _ => rfl)) pa_nil))) (pa_cons pe_int pa_nil)) (by rfl))
      (pss_cons (ps_for PassesOwn.never rfl (pi_list (pe_revL (pv 3))) (pg_tup rfl (pgs_cons (pg_name (i := 5) scL_pending.nd rfl (.inl rfl)) (pgs_cons (pg_name (i := 6) scL_pending.nd rfl (.inl rfl)) pgs_nil)))
        (pss_cons (ps_if (pt_cmpR op_lt (pv 6) (pe_op op_sub (pe_ix ix_tup (pv 2) pe_int (fun _ _ => rfl)) (pe_ix ix_tup (pv 2) pe_int (fun _ _ => rfl))) (nomark _))
          (pss_one (ps_ret (pv 4)))
          pss_nil)
        (pss_one (ps_set (i := 4) scL_pending.nd rfl (.inl rfl) (pe_op op_add (pv 4) pe_int)))))
      (pss_one (ps_ret (pv 4))))))), ?_⟩
    have hbs : ∀ b ∈ bs, 0 ≤ b.s := fun b hb => (B.small b hb).2
    have gl := (good_lines bs hbs).1
    have hP := pend_ok hL gl (pageOf_rel hL bs hbs)
    have hRl : (rowsOf (runS L (linesOf bs).ls)).length = (linesOf bs).ls.length := (right_ok hL gl).1
    have hlen := B.len
    refine ⟨_, rfl, _, rfl, L, a, xs, bs, rfl, hS, hx, B, hL, fun p1 H1 hp1 s1 hst => ?_⟩
    unfold StIs at hst
    generalize pageOf L bs = q0 at k hP hst
    refine ⟨_, rfl, p1, _, _, _, rfl, rfl, SqT.of hst, atI_nat (j := 2) rfl, rfl, _, rfl, ite2 (fun h1 => ?_) (fun h1 => ?_)⟩
    · have h1 := V.int.inj (of_decide_eq_true h1)
      rw [hP.1 h1] at k
      exact k H1 s1
    have h1 : q0.t ≠ 0 := fun z => h1 (decide_eq_true (by rw [z]))
    obtain ⟨n, n1, n2, r0, n3, n4⟩ := hP.2 h1
    refine ⟨_, rfl, _, rfl, a, xs, bs, rfl, s1.seq hS, blMono (Tups.of s1) hx, B, fun p2 lq H2 lv hp2 s2 ht2 hlq hlv => ?_⟩
    refine ⟨p2, _, _, _, rfl, rfl, SqT.of ht2, atI_nat (j := 0) rfl, L, lq, lv, (linesOf bs).ls, rfl, hlq, hlv, hL, gl, by omega, fun pr H3 rv hpr s3 hrv hrw => ?_⟩
    generalize rowsOf (runS L (linesOf bs).ls) = R at n2 n3 hrw hRl
    refine ⟨_, _, rfl, ?_⟩
    have S3 : Same H H3 := (s1.trans s2).trans s3
    have hst3 := (s2.trans s3) _ _ hst
    refine ⟨_, rfl, pr, _, rfl, SqL.of hrv, fun u hu => ⟨u, rfl, ⟨_, SqL.of upd_same⟩, ?_⟩⟩
    have s4 := same_new (o := .lst rv.reverse) hu
    have S4 := S3.trans s4
    have hrw4 := (rwMono (Tups.of s4) hrw).rev
    have hst4 := s4 _ _ hst3
    have hu4 : (upd H3 u (.lst rv.reverse)) u = some (.lst rv.reverse) := upd_same
    generalize upd H3 u (.lst rv.reverse) = H4 at S4 hrw4 hst4 hu4 ⊢
    have hnl : n < R.reverse.length := (List.getElem?_eq_some_iff.mp n3).1
    refine for_list (K := K) (a := u) (xs := rv.reverse) (fun i σ H' => ∃ (y5 y6 : Option V), σ = [some (.int L), some (.ref a), some (.ref p1), some (.ref pr), some (.int (i : Int)), y5, y6] ∧ Same H4 H' ∧ i ≤ n)
      ⟨none, none, rfl, Same.refl _, Nat.zero_le _⟩ (fun i σ H' _ ⟨_, _, _, s5, _⟩ => SqL.of (s5 _ _ hu4)) ?_ ?_
    · rintro i x σ H' hxi ⟨y5, y6, rfl, s5, hin⟩
      obtain ⟨r, hr', tx, rfl, htx⟩ := hrw4.at hxi
      have htx := s5 _ _ htx
      have hst5 := s5 _ _ hst4
      refine ⟨tx, _, rfl, SqT.of htx, rfl, _, _, rfl, _, _, rfl, rfl, ?_⟩
      refine ⟨_, rfl, _, rfl, p1, _, _, _, rfl, rfl, SqT.of hst5, atI_nat (j := 1) rfl, _, rfl, p1, _, _, _, rfl, rfl, SqT.of hst5, atI_nat (j := 2) rfl, _, _, rfl, rfl, _, _, rfl, rfl, _, rfl, ite2 (fun g1 => ?_) (fun g1 => ?_)⟩
      · have g1 : r < q0.h - q0.t := of_decide_eq_true g1
        have ei : i = n := by
          rcases Nat.lt_or_ge i n with h | h
          · exact absurd g1 (n2 i h r hr')
          · omega
        rw [n1, ← ei] at k
        exact ⟨_, rfl, k H' (S4.trans s5)⟩
      · have g1 : ¬ r < q0.h - q0.t := fun z => g1 (decide_eq_true z)
        have ei : i ≠ n := fun z => by
          rw [z, n3] at hr'
          cases hr'
          exact g1 n4
        refine ⟨_, rfl, _, _, rfl, rfl, ?_⟩
        exact ⟨_, _, rfl, s5, by omega⟩
    · rintro σ H' ⟨y5, y6, rfl, s5, hin⟩
      rw [hrw4.len] at hin
      omega
end
end Pa
set_option maxRecDepth 100000
set_option maxHeartbeats 4000000
namespace Pa
open PySem PySem.Spec PyProof.Rows L2
theorem cutV_to {xs : List V} {n : Nat} (h : n ≤ xs.length) : cutV xs none (some (n : Int)) = xs.take n := by
  unfold cutV
  rw [HT.sIx_nat, HT.sIx_none, Nat.min_eq_left h]
  simp
structure PropOk (P : Program) (w : World) (K : PySem.W.Frag) (mg : Str → Option Value) (base : Heap) (C : Addr) (k : Nat) (m : Str) (sp : Sp) : Prop where
  ok : ∃ (p g : Addr) (fd : FuncData), PropOf K C m p g ∧ Binds K fd ["self"] [] ∧ FnOk P w K mg base CX0 k g fd ["self"] sp
structure LenOk (P : Program) (w : World) (K : PySem.W.Frag) (mg : Str → Option Value) (base : Heap) (C : Addr) (k : Nat) (sp : Sp) : Prop where
  ok : ∃ (g : Addr) (fd : FuncData), LenC K C g ∧ Binds K fd ["self"] [] ∧ FnOk P w K mg base CX0 k g fd ["self"] sp
/-- o.m(e) where the defaults fill up -/
structure MethDOk (P : Program) (w : World) (K : PySem.W.Frag) (mg : Str → Option Value) (base : Heap) (C : Addr) (k : Nat) (m : Str) (ps : List Str) (dvs : List V) (sp : Sp) : Prop where
  ok : ∃ (f : Addr) (fd : FuncData) (ds : List Value), Meth K C m f ∧ Vals dvs ds ∧ Binds K fd ps ds ∧ FnOk P w K mg base CX0 k f fd ps sp
def rLenO (C : Addr) (sp : Sp) : List V → Hp → VK → Prop := fun xs H Q => ∃ a dx fs, xs = [.ref a] ∧ H a = some (.ins C dx fs) ∧ sp [.ref a] H (fun v H' => ∃ n : Int, v = .int n ∧ 0 ≤ n ∧ n < 2 ^ 63 ∧ Q (.int n) H') E0
section
variable {X : Cx} {k : Nat} {C : Addr} {m : Str} {sp : Sp} {o e : Expr} {es : List Expr} {ta : TE} {t : TA} {pos p apos : Pos} {ps : List Str} {dvs : List V} {pl : Sem Bool}
theorem pe_pr (he : PE X o ta) (c : Cls X.K C) (M : PropOk X.prog X.w X.K X.mg X.base C k m sp) (hr : Room (k + 1) X.A)
    (hab : attributeBase o m X.env (eval o X.env) = eval o X.env := by rfl) : PE X (.Attribute o m pos) (tProp C sp [] E0 ta) := by
  obtain ⟨pp, g, fd, h1, h2, h3⟩ := M.ok
  exact pe_prop he c h1 h3 hr h2 .nil pass0 hab
theorem call_lenO (M : LenOk X.prog X.w X.K X.mg X.base C k sp) (hr : Room (k + 1) X.A) : CallR X (.builtin "len") (rLenO C sp) := by
  obtain ⟨g, fd, h1, h2, h3⟩ := M.ok
  exact call_lenOwn h1 h3 hr h2
theorem pe_mcd (he : PE X o ta) (c : Cls X.K C) (M : MethDOk X.prog X.w X.K X.mg X.base C k m ps dvs sp) (hr : Room k X.A) (ha : PA X (e :: es) t)
    (hst : starEach (e :: es) X.env = (false, eval e X.env) :: starEach es X.env := by rfl) (hpl : (backTo pos (starEach es X.env)).any (·.1) = false := by rfl)
    (ht : eval (.Call (.Attribute o m apos) (e :: es) [] pos) X.env = (do
      let z ← eval o X.env
      standAt apos.atName
      let (f, first) ← holding [z] (getMethod z m pl)
      callWith pos f first (backTo pos (starEach (e :: es) X.env)) (backToKw pos (keywordEach [] X.env))) := by rfl) :
    PE X (.Call (.Attribute o m apos) (e :: es) [] pos) (tMeth C m sp dvs E0 ta t) := by
  obtain ⟨f, fd, ds, h1, hd, h2, h3⟩ := M.ok
  exact pe_meth he c h1 h3 hr h2 hd pass0 ha hst hpl ht
end
section
variable {P : Program} {w : World} {K : PySem.W.Frag} {mg : Str → Option Value} {base : Heap} {tp C : Addr}
/-! ### what a Page tells -/
def spNow (C : Addr) : Sp := fun vs H Q _ => ∃ (x dx rl st : Addr) (L lo : Int) (ww : Option Bool) (rows : List Int), vs = [.ref x] ∧ PA' C L x dx rl st lo ww rows H ∧ Q (.ref st) H
def spPend (C : Addr) : Sp := fun vs H Q _ => ∃ (x dx rl st : Addr) (L lo : Int) (ww : Option Bool) (rows : List Int), vs = [.ref x] ∧ PA' C L x dx rl st lo ww rows H ∧ Q (.int lo) H
def spWent (C : Addr) : Sp := fun vs H Q _ => ∃ (x dx rl st : Addr) (L lo : Int) (ww : Option Bool) (rows : List Int), vs = [.ref x] ∧ PA' C L x dx rl st lo ww rows H ∧ Q (wv ww) H
def spLen (C : Addr) : Sp := fun vs H Q _ => ∃ (x dx rl st : Addr) (L lo : Int) (ww : Option Bool) (rows : List Int), vs = [.ref x] ∧ PA' C L x dx rl st lo ww rows H ∧ Q (.int (rows.length : Int)) H
def spSettled (C : Addr) : Sp := fun vs H Q _ => ∃ (x dx rl st : Addr) (L lo : Int) (ww : Option Bool) (rows : List Int), vs = [.ref x] ∧ PA' C L x dx rl st lo ww rows H ∧ 0 ≤ lo ∧ lo ≤ (rows.length : Int) ∧ rows.length ≤ 100000 ∧
  ∀ p H' ys, H p = none → Same H H' → H' p = some (.lst ys) → AllAt RwAt H' ys (preS rows lo) → Q (.ref p) H'
abbrev sPage_now : Stmt := inClass (topS 14) 7
abbrev sPage_pending : Stmt := inClass (topS 14) 8
abbrev sPage_went_over : Stmt := inClass (topS 14) 9
abbrev sPage_settled : Stmt := inClass (topS 14) 10
abbrev sPage___len__ : Stmt := inClass (topS 14) 12
theorem scPage_now : FnScope ["self"] ["self"] (defScope sPage_now) := ⟨rfl, rfl, rfl, by decide +kernel, rfl, by decide +kernel, by decide +kernel⟩
theorem scPage_pending : FnScope ["self"] ["self"] (defScope sPage_pending) := ⟨rfl, rfl, rfl, by decide +kernel, rfl, by decide +kernel, by decide +kernel⟩
theorem scPage_went_over : FnScope ["self"] ["self"] (defScope sPage_went_over) := ⟨rfl, rfl, rfl, by decide +kernel, rfl, by decide +kernel, by decide +kernel⟩
theorem scPage_settled : FnScope ["self"] ["self"] (defScope sPage_settled) := ⟨rfl, rfl, rfl, by decide +kernel, rfl, by decide +kernel, by decide +kernel⟩
theorem scPage___len__ : FnScope ["self"] ["self"] (defScope sPage___len__) := ⟨rfl, rfl, rfl, by decide +kernel, rfl, by decide +kernel, by decide +kernel⟩
theorem ok_now {f : Addr} {fd : FuncData} (F : Fun K "now" "Page.now" sPage_now f fd) (T : Txt K mg tp C) : FnOk P w K mg base CX0 1 f fd ["self"] (spNow C) := by
  refine F.ok scPage_now (fun vs H Q E h => ?_) (fun cdv A outer s H vs Q E hr h => ?_)
  · obtain ⟨x, dx, rl, st, L, lo, ww, rows, rfl, _⟩ := h
    rfl
  · obtain ⟨x, dx, rl, st, L, lo, ww, rows, rfl, pa, k⟩ := h
    refine ⟨_, (pss_one (ps_ret (pe_fld (pv 0) rfl))), ?_⟩
    exact ⟨_, rfl, x, C, dx, _, _, rfl, pa.ob, T.cl, T.nS, pf_standing _ _ _ _ _, k⟩
theorem ok_pend {f : Addr} {fd : FuncData} (F : Fun K "pending" "Page.pending" sPage_pending f fd) (T : Txt K mg tp C) : FnOk P w K mg base CX0 1 f fd ["self"] (spPend C) := by
  refine F.ok scPage_pending (fun vs H Q E h => ?_) (fun cdv A outer s H vs Q E hr h => ?_)
  · obtain ⟨x, dx, rl, st, L, lo, ww, rows, rfl, _⟩ := h
    rfl
  · obtain ⟨x, dx, rl, st, L, lo, ww, rows, rfl, pa, k⟩ := h
    refine ⟨_, (pss_one (ps_ret (pe_fld (pv 0) rfl))), ?_⟩
    exact ⟨_, rfl, x, C, dx, _, _, rfl, pa.ob, T.cl, T.nO, pf_loose _ _ _ _ _, k⟩
theorem ok_went {f : Addr} {fd : FuncData} (F : Fun K "went_over" "Page.went_over" sPage_went_over f fd) (T : Txt K mg tp C) : FnOk P w K mg base CX0 1 f fd ["self"] (spWent C) := by
  refine F.ok scPage_went_over (fun vs H Q E h => ?_) (fun cdv A outer s H vs Q E hr h => ?_)
  · obtain ⟨x, dx, rl, st, L, lo, ww, rows, rfl, _⟩ := h
    rfl
  · obtain ⟨x, dx, rl, st, L, lo, ww, rows, rfl, pa, k⟩ := h
    refine ⟨_, (pss_one (ps_ret (pe_fld (pv 0) rfl))), ?_⟩
    exact ⟨_, rfl, x, C, dx, _, _, rfl, pa.ob, T.cl, T.nW, pf_went _ _ _ _ _, k⟩
theorem ok_len {f : Addr} {fd : FuncData} (F : Fun K "__len__" "Page.__len__" sPage___len__ f fd) (T : Txt K mg tp C) : FnOk P w K mg base CX0 1 f fd ["self"] (spLen C) := by
  refine F.ok scPage___len__ (fun vs H Q E h => ?_) (fun cdv A outer s H vs Q E hr h => ?_)
  · obtain ⟨x, dx, rl, st, L, lo, ww, rows, rfl, _⟩ := h
    rfl
  · obtain ⟨x, dx, rl, st, L, lo, ww, rows, rfl, pa, k⟩ := h
    refine ⟨_, (pss_one (ps_ret (pe_pure (pe_callB call_len_seq (by rfl) T.b_len PySem.boot_len (pa_cons (pe_fld (pv 0) rfl) pa_nil))))), ?_⟩
    refine ⟨.int (rows.length : Int), fun Q' hQ => ⟨_, rfl, x, C, dx, _, _, rfl, pa.ob, T.cl, T.nR, pf_rows _ _ _ _ _, rl, _, rfl, .inl (SqL.of pa.rs), ?_⟩, k⟩
    rw [List.length_map]
    exact hQ
theorem ok_settled {f : Addr} {fd : FuncData} (F : Fun K "settled" "Page.settled" sPage_settled f fd) (T : Txt K mg tp C) (M_finish : MethOk P w K mg base C 1 "finish" ["self"] (spFinish C)) : FnOk P w K mg base CX0 2 f fd ["self"] (spSettled C) := by
  refine F.ok scPage_settled (fun vs H Q E h => ?_) (fun cdv A outer s H vs Q E hr h => ?_)
  · obtain ⟨x, dx, rl, st, L, lo, ww, rows, rfl, _⟩ := h
    rfl
  · obtain ⟨x, dx, rl, st, L, lo, ww, rows, rfl, pa, lo0, lo1, hlen, k⟩ := h
    refine ⟨_, (pss_one (ps_ret (pe_slice sl_list (pe_mc0 (pv 0) T.cl M_finish (hr.mono (by decide))) po_none (po_some (pe_pure (pe_op op_sub (pe_callB call_len_seq (by rfl) T.b_len PySem.boot_len (pa_cons (pe_fld (pv 0) rfl) pa_nil)) (pe_fld (pv 0) rfl))))))), ?_⟩
    refine ⟨_, rfl, x, dx, _, rfl, pa.ob, no_finish _ _ _ _ _, x, dx, rl, st, L, lo, ww, rows, rfl, pa, hlen, fun p H1 ys hp s1 hys hrw => ?_⟩
    have ea : ((rows.map V.int).length : Int) - lo = ((rows.length - lo.toNat : Nat) : Int) := by rw [List.length_map]; omega
    have pa1 := pa.same s1
    refine ⟨.int ((rows.length - lo.toNat : Nat) : Int), fun Q' hQ => ⟨_, rfl, x, C, dx, _, _, rfl, pa1.ob, T.cl, T.nR, pf_rows _ _ _ _ _, rl, _, rfl, .inl (SqL.of pa1.rs), _, rfl, x, C, dx, _, _, rfl, pa1.ob, T.cl, T.nO, pf_loose _ _ _ _ _, _, _, rfl, rfl, ?_⟩, ?_⟩
    · rw [← ea] at hQ
      exact hQ
    refine ⟨_, rfl, p, _, rfl, SqL.of hys, fun u hu => ?_⟩
    have sU := same_new (o := .lst (cutV ys none (some ((rows.length - lo.toNat : Nat) : Int)))) hu
    refine k u _ _ (s1.free hu) (s1.trans sU) upd_same ?_
    have ec := cutV_to (xs := ys) (n := rows.length - lo.toNat) (by rw [hrw.len]; omega)
    have z := (rwMono (Tups.of sU) hrw).take (rows.length - lo.toNat)
    rw [← ec] at z
    exact z
end
end Pa
set_option maxRecDepth 100000
set_option maxHeartbeats 4000000
namespace Pa
open PySem PySem.Spec PyProof.Rows L2 SrtO
/-! ### sorted: tuples of one of three words and two ints -/
def wordN (n : Int) : Str := if n = 0 then "kept" else if n = 1 then "open" else "top"
theorem word_eq {a b : Int} (ha : 0 ≤ a ∧ a ≤ 2) (hb : 0 ≤ b ∧ b ≤ 2) : decide (wordN a = wordN b) = decide (a = b) := by
  have h1 : a = 0 ∨ a = 1 ∨ a = 2 := by omega
  have h2 : b = 0 ∨ b = 1 ∨ b = 2 := by omega
  rcases h1 with rfl | rfl | rfl <;> rcases h2 with rfl | rfl | rfl <;> decide +kernel
theorem word_lt {a b : Int} (ha : 0 ≤ a ∧ a ≤ 2) (hb : 0 ≤ b ∧ b ≤ 2) : decide ((wordN a).cps.toList < (wordN b).cps.toList) = decide (a < b) := by
  have h1 : a = 0 ∨ a = 1 ∨ a = 2 := by omega
  have h2 : b = 0 ∨ b = 1 ∨ b = 2 := by omega
  rcases h1 with rfl | rfl | rfl <;> rcases h2 with rfl | rfl | rfl <;> decide +kernel
def lex3 (p q : Int × Int × Int) : Bool := decide (p.1 < q.1 ∨ (p.1 = q.1 ∧ (p.2.1 < q.2.1 ∨ (p.2.1 = q.2.1 ∧ p.2.2 < q.2.2))))
theorem lex3_iff {p q : Int × Int × Int} : lex3 p q = true ↔ (p.1 < q.1 ∨ (p.1 = q.1 ∧ (p.2.1 < q.2.1 ∨ (p.2.1 = q.2.1 ∧ p.2.2 < q.2.2)))) := decide_eq_true_iff
theorem lex3_no {p q : Int × Int × Int} : lex3 p q = false ↔ ¬ (p.1 < q.1 ∨ (p.1 = q.1 ∧ (p.2.1 < q.2.1 ∨ (p.2.1 = q.2.1 ∧ p.2.2 < q.2.2)))) := decide_eq_false_iff_not
theorem swo3 {α : Type} (k : α → Int × Int × Int) : Swo fun v u => lex3 (k v) (k u) := by
  refine ⟨fun x y h => ?_, fun x y z h1 h2 => ?_⟩
  · have a := lex3_iff.mp h
    exact lex3_no.mpr (by omega)
  · have a := lex3_no.mp h1
    have b := lex3_no.mp h2
    exact lex3_no.mpr (by omega)
def IsStd (h : Heap) (v : Value) (k : Int × Int × Int) : Prop := (0 ≤ k.1 ∧ k.1 ≤ 2) ∧ ∃ a o t u z n, v = .ref a ∧ h.get? a = some o ∧ o.cls = .type "tuple" ∧ o.data = .seq #[.str (wordN k.1) t, .int k.2.1 u, .int k.2.2 z] n
section
variable {prog : Program} {w : World} {A : Around} {E : Value → Shared → Prop} {s : Shared}
theorem std_cmp {vs : List Value} {k : Value → Int × Int × Int} (hp : ∀ v ∈ vs, IsStd s.heap v (k v)) : Cmp prog w A s (tuples' true) (fun p => p.1 ∈ vs) (lt2 fun v u => lex3 (k v) (k u)) := by
  intro p q hm hm'
  obtain ⟨r1, a, o, t, u, z, n, e, ho, hc, hd⟩ := hp _ hm
  obtain ⟨r2, a', o', t', u', z', n', e', ho', hc', hd'⟩ := hp _ hm'
  show wpAny (model prog w) A (keyLt' (tuples' true) p.1 q.1) (fun r s' => s' = s ∧ r = lex3 (k p.1) (k q.1)) (fun _ _ => False) s
  unfold lex3
  generalize k p.1 = x at r1 hd ⊢
  generalize k q.1 = y at r2 hd' ⊢
  obtain ⟨x1, x2, x3⟩ := x
  obtain ⟨y1, y2, y3⟩ := y
  dsimp only at r1 r2 hd hd' ⊢
  rw [e, e']
  refine PySem.W.kat_lt ho hd ho' hd' ?_
  show PySem.W.KatLex prog w A true (decide (3 < 3)) _ [(.str (wordN x1) t, .str (wordN y1) t'), (.int x2 u, .int y2 u'), (.int x3 z, .int y3 z')] 0 s
  refine PySem.W.kat_cons (wpAny_eqBool_str ?_)
  rw [word_eq r1 r2]
  refine PySem.W.kat_go (fun e1 => ?_) (fun e1 => ?_)
  · have h1 : x1 = y1 := of_decide_eq_true e1
    refine PySem.W.kat_yes (PySem.W.kat_cons (SeqAt.EqAt.int_int x2 u y2 u' prog w _ _ ?_))
    refine PySem.W.kat_go (fun e2 => ?_) (fun e2 => ?_)
    · have h2 : x2 = y2 := by simpa using e2
      refine PySem.W.kat_yes (PySem.W.kat_cons (SeqAt.EqAt.int_int x3 z y3 z' prog w _ _ ?_))
      refine PySem.W.kat_go (fun e3 => ?_) (fun e3 => ?_)
      · have h3 : x3 = y3 := by simpa using e3
        exact PySem.W.kat_yes (PySem.W.kat_nil ⟨rfl, (decide_eq_false (by omega)).symm⟩)
      · have h3 : ¬ x3 = y3 := by simpa using e3
        refine PySem.W.kat_no (oneLt_any_int ⟨rfl, decide_eq_decide.mpr (by omega)⟩)
    · have h2 : ¬ x2 = y2 := by simpa using e2
      refine PySem.W.kat_no (oneLt_any_int ⟨rfl, decide_eq_decide.mpr (by omega)⟩)
  · have h1 : ¬ x1 = y1 := of_decide_eq_false e1
    refine PySem.W.kat_no (oneLt_any_str ?_)
    rw [word_lt r1 r2]
    exact ⟨rfl, decide_eq_decide.mpr (by omega)⟩
theorem std_firsts {h : Heap} : ∀ {vs : List Value} {k : Value → Int × Int × Int}, (∀ v ∈ vs, IsStd h v (k v)) → ∃ fs, PySem.W.KatTups h vs fs ∧ fs.length = vs.length ∧ ∀ f ∈ fs, ∃ x t, f = Value.str x t
  | [], _, _ => ⟨[], .nil, rfl, fun f hf => by simp at hf⟩
  | v :: vs, k, hp => by
    obtain ⟨fs, h1, h2, h3⟩ := std_firsts (vs := vs) fun u hu => hp u (List.mem_cons_of_mem _ hu)
    obtain ⟨_, a, o, t, u, z, n, e, ho, hc, hd⟩ := hp v List.mem_cons_self
    subst e
    refine ⟨_ :: fs, .cons ho hc hd rfl h1, by simp [h2], fun f hf => ?_⟩
    rcases List.mem_cons.mp hf with rfl | hf
    · exact ⟨_, _, rfl⟩
    · exact h3 f hf
theorem std_sortable {a : Addr} {vs : List Value} {k : Value → Int × Int × Int} (h0 : 0 < vs.length) (hp : ∀ v ∈ vs, IsStd s.heap v (k v)) (ha : ∀ o, s.heap.get? a = some o → o.cls ≠ .type "tuple") : SortableO prog w A s a vs fun v u => lex3 (k v) (k u) := by
  intro h' keep
  have hp' : ∀ v ∈ vs, IsStd h' v (k v) := fun v hm => by
    obtain ⟨r, b, o, t, u, z, n, e, ho, hc, hd⟩ := hp v hm
    exact ⟨r, b, o, t, u, z, n, e, keep b o (fun q => by subst q; exact ha o ho hc) ho, hc, hd⟩
  obtain ⟨fs, h1, h2, h3⟩ := std_firsts hp'
  refine ⟨tuples' true, fun Q E hq => ?_, std_cmp hp'⟩
  have e : (Value.type "str" != Value.type "tuple") = true := by decide
  refine PySem.W.kat_kind (T := .type "str") h1 (by omega) (fun f hm => ?_) rfl (by rw [e]; exact hq)
  obtain ⟨x, t, rfl⟩ := h3 f hm
  exact PySem.W.Looks.of_pure rfl
end
/-- sorted(xs), tuples of such words and two ints -/
def rSortStd (K : PySem.W.Frag) : List V → Hp → VK → Prop := fun vs H Q => ∃ (a : Addr) (xs : List V) (k : V → Int × Int × Int), vs = [V.ref a] ∧ SqL K H a xs ∧ (∀ x ∈ xs, (0 ≤ (k x).1 ∧ (k x).1 ≤ 2) ∧ ∃ t, x = V.ref t ∧ SqT K H t [.str (wordN (k x).1), .int (k x).2.1, .int (k x).2.2]) ∧
  ∀ ys p, Srtd (fun v u => lex3 (k v) (k u)) ys → ys.Perm xs → H p = none → Q (.ref p) (upd H p (.lst ys))
theorem cr_sortStd {X : Cx} : CallR X (.builtin "sorted") (rSortStd X.K) := by
  intro pins s σ H vs us Q I r h
  obtain ⟨a, xs, k, rfl, hs, hx, q⟩ := h
  obtain ⟨its, rv, hl, hz⟩ := I.list hs
  obtain ⟨u, rfl, ru⟩ := vals1 r
  obtain rfl : u = Value.ref a := ru
  obtain ⟨e1, e2⟩ := refs_back rv fun x m => by
    obtain ⟨_, t, e, _⟩ := hx x m
    exact ⟨t, e⟩
  have hst : ∀ v ∈ its, IsStd s.heap v (k (backV v)) := fun v hv => by
    obtain ⟨t, rfl⟩ := e2 v hv
    have hm : V.ref t ∈ xs := by rw [e1]; exact List.mem_map.mpr ⟨_, hv, rfl⟩
    obtain ⟨r0, t', e, ht⟩ := hx _ hm
    cases e
    obtain ⟨its2, r2, ⟨o, ho, hc, n, hd⟩, _⟩ := I.tuple ht
    cases r2 with
    | @cons _ v1 _ _ ra r2 =>
      cases r2 with
      | @cons _ v2 _ _ rb r2 =>
        cases r2 with
        | @cons _ v3 _ _ rc r2 =>
          cases r2
          obtain ⟨t1, rfl⟩ := ra
          obtain ⟨t2, rfl⟩ := rb
          obtain ⟨t3, rfl⟩ := rc
          exact ⟨r0, t, o, t1, t2, t3, n, rfl, ho, hc, hd⟩
  refine sorted_ord (ltv := fun v u => lex3 (k (backV v)) (k (backV u))) (swo3 _) hl.isList (by rw [← rv.length]; exact hz) (fun h2 h₁ b hb kk => std_sortable (s := { s with heap := h₁ }) (by omega) (fun v hv => ?_) fun o e => ?_) fun out h1 h2 => ?_
  · obtain ⟨r0, t, o, t1, t2, t3, n, e, ho, hc, hd⟩ := hst v hv
    exact ⟨r0, t, o, t1, t2, t3, n, e, (kk t o ho).2, hc, hd⟩
  · have e' : some o = some (seqObj "list" its.toArray 0) := e.symm.trans hb
    cases e'
    intro c
    exact absurd (Value.type.inj c) (by decide)
  · have h3 : ∀ u ∈ out, ∃ a, u = Value.ref a := fun u hu => e2 u (h2.perm.mem_iff.mp hu)
    obtain ⟨n, hn⟩ := PyProof.Rows.sortedAll_at s.heap its out.toArray
    have hp : (out.map backV).Perm xs := by rw [e1]; exact h2.perm.map backV
    refine ⟨.ref _, upd H (s.heap.objs.size + 1) (.lst (out.map backV)), I.laid (t' := s.toks) (fun _ _ => PyProof.Rows.sortedAll_old) (Nat.le_succ _) ⟨?_, out, n, vals_back h3, hn⟩, rfl, q _ _ ?_ hp (I.hok.fresh (Nat.le_succ _))⟩
    · rw [hp.length_eq]; exact hz
    · exact List.pairwise_map.mpr h1
end Pa
set_option maxRecDepth 100000
set_option maxHeartbeats 4000000
namespace Pa
open PySem PySem.Spec PyProof.Rows L2 SrtO
/-! ### standings, as triples -/
abbrev Z3 := Int × Int × Int
def StdAt (K : PySem.W.Frag) (H : Hp) (x : V) (z : Z3) : Prop := (0 ≤ z.1 ∧ z.1 ≤ 2) ∧ ∃ t, x = V.ref t ∧ SqT K H t [.str (wordN z.1), .int z.2.1, .int z.2.2]
def ZAt (H : Hp) (x : V) (z : Z3) : Prop := TupAt H x [.str (wordN z.1), .int z.2.1, .int z.2.2]
theorem ZAt.std {K : PySem.W.Frag} {H : Hp} {x : V} {z : Z3} (r : 0 ≤ z.1 ∧ z.1 ≤ 2) (h : ZAt H x z) : StdAt K H x z := by
  obtain ⟨t, e, h⟩ := h
  exact ⟨r, t, e, SqT.of h⟩
theorem seqT_same {K : PySem.W.Frag} {H H' : Hp} {p : Addr} {xs : List V} (s : Same H H') (h : SqT K H p xs) : SqT K H' p xs := by
  rcases h with (h | ⟨o, h⟩) | h
  · exact .inl (.inl (s _ _ h))
  · exact .inl (.inr ⟨o, s _ _ h⟩)
  · exact .inr h
theorem StdAt.mono {K : PySem.W.Frag} {H H' : Hp} (s : Same H H') {x : V} {z : Z3} (h : StdAt K H x z) : StdAt K H' x z := by
  obtain ⟨r, t, e, h⟩ := h
  exact ⟨r, t, e, seqT_same s h⟩
theorem zMono {H H' : Hp} {xs : List V} {ys : List Z3} (a : Tups H H') (h : AllAt ZAt H xs ys) : AllAt ZAt H' xs ys := h.mono fun _ _ => TupAt.mono a
theorem zStd {K : PySem.W.Frag} {H : Hp} : ∀ {xs : List V} {ys : List Z3}, (∀ z ∈ ys, 0 ≤ z.1 ∧ z.1 ≤ 2) → AllAt ZAt H xs ys → AllAt (StdAt K) H xs ys
  | [], [], _, _ => trivial
  | [], _ :: _, _, h => h.elim
  | _ :: _, [], _, h => h.elim
  | _ :: _, _ :: _, r, h => ⟨h.1.std (r _ List.mem_cons_self), zStd (fun z hz => r z (List.mem_cons_of_mem _ hz)) h.2⟩
theorem stdMono {K : PySem.W.Frag} {H H' : Hp} {xs : List V} {ys : List Z3} (s : Same H H') (h : AllAt (StdAt K) H xs ys) : AllAt (StdAt K) H' xs ys := h.mono fun _ _ => StdAt.mono s
/-- sorted(xs), xs standings -/
def rSortZ (K : PySem.W.Frag) : List V → Hp → VK → Prop := fun vs H Q => ∃ (a : Addr) (xs : List V) (ks : List Z3), vs = [V.ref a] ∧ SqL K H a xs ∧ AllAt (StdAt K) H xs ks ∧
  ∀ ys ks' p, AllAt (StdAt K) H ys ks' → Srtd lex3 ks' → ks'.Perm ks → H p = none → Q (.ref p) (upd H p (.lst ys))
theorem all_map {K : PySem.W.Frag} {H : Hp} {k : V → Z3} : ∀ {xs : List V}, (∀ x ∈ xs, StdAt K H x (k x)) → AllAt (StdAt K) H xs (xs.map k)
  | [], _ => trivial
  | x :: xs, h => ⟨h x List.mem_cons_self, all_map fun y hy => h y (List.mem_cons_of_mem _ hy)⟩
open Classical in
theorem cr_sortZ {X : Cx} : CallR X (.builtin "sorted") (rSortZ X.K) := by
  intro pins s σ H vs us Q I r h
  obtain ⟨a, xs, ks, rfl, hs, hx, q⟩ := h
  have uni : ∀ {x : V} {y z : Z3}, StdAt X.K H x y → StdAt X.K H x z → y = z := fun {x y z} h1 h2 => by
    obtain ⟨r1, t, rfl, a1⟩ := h1
    obtain ⟨r2, t', e, a2⟩ := h2
    cases e
    have e := I.tuple_inj a1 a2
    obtain ⟨y1, y2, y3⟩ := y
    obtain ⟨z1, z2, z3⟩ := z
    simp only [List.cons.injEq, V.str.injEq, V.int.injEq, and_true] at e
    obtain ⟨e1, e2, e3⟩ := e
    dsimp only at r1 r2
    have w := word_eq r1 r2
    rw [decide_eq_true e1] at w
    have := of_decide_eq_true w.symm
    rw [this, e2, e3]
  let k : V → Z3 := fun x => if h : ∃ z, StdAt X.K H x z then choose h else (0, 0, 0)
  have hk : ∀ {x : V} {z : Z3}, StdAt X.K H x z → k x = z := fun {x z} h => by
    have e : ∃ z, StdAt X.K H x z := ⟨z, h⟩
    show (if h : ∃ z, StdAt X.K H x z then choose h else (0, 0, 0)) = z
    rw [dif_pos e]
    exact uni (choose_spec e) h
  have hall : ∀ {xs : List V} {ks : List Z3}, AllAt (StdAt X.K) H xs ks → xs.map k = ks ∧ ∀ x ∈ xs, StdAt X.K H x (k x) := by
    intro xs
    induction xs with
    | nil =>
      intro ks h
      cases ks with
      | nil => exact ⟨rfl, fun x hx => by cases hx⟩
      | cons _ _ => exact h.elim
    | cons x xs ih =>
      intro ks h
      cases ks with
      | nil => exact h.elim
      | cons z ks =>
        obtain ⟨h1, h2⟩ := h
        obtain ⟨i1, i2⟩ := ih h2
        refine ⟨by rw [List.map_cons, hk h1, i1], fun y hy => ?_⟩
        rcases List.mem_cons.mp hy with e | hy
        · rw [e, hk h1]; exact h1
        · exact i2 y hy
  obtain ⟨e1, e2⟩ := hall hx
  refine cr_sortStd pins s σ H [V.ref a] us Q I r ⟨a, xs, k, rfl, hs, e2, fun ys p h1 h2 hp => ?_⟩
  refine q ys (ys.map k) p (all_map fun y hy => e2 y (h2.mem_iff.mp hy)) (List.pairwise_map.mpr h1) ?_ hp
  rw [← e1]
  exact h2.map k
/-- all standings of a length, as the program lists them ahead of sorting -/
def barZ (L : Int) : List Z3 := (List.range (L - 1).toNat).map fun (i : Nat) => ((0, 1 + (i : Int), 0) : Z3)
def looseZ (L : Int) : List Z3 := ((List.range (L - 1).toNat).map fun (i : Nat) => (List.range (i + 1)).map fun (j : Nat) => ((0, 2 + (i : Int), 1 + (j : Int)) : Z3)).flatten
def openZ (L : Int) : List Z3 := (List.range (L - 1).toNat).map fun (i : Nat) => ((1, 1 + (i : Int), 0) : Z3)
def progZ (L : Int) : List Z3 := barZ L ++ looseZ L ++ openZ L ++ [(2, 0, 0)]
def StdZ (L : Int) (z : Z3) : Prop := (z.1 = 0 ∧ 1 ≤ z.2.1 ∧ z.2.1 ≤ L ∧ 0 ≤ z.2.2 ∧ z.2.2 < z.2.1 ∧ (z.2.1 < L ∨ 0 < z.2.2)) ∨ (z.1 = 1 ∧ 1 ≤ z.2.1 ∧ z.2.1 < L ∧ z.2.2 = 0) ∨ z = (2, 0, 0)
theorem mem_bar {L : Int} {z : Z3} : z ∈ barZ L ↔ z.1 = 0 ∧ 1 ≤ z.2.1 ∧ z.2.1 < L ∧ z.2.2 = 0 := by
  obtain ⟨a, b, c⟩ := z
  unfold barZ
  simp only [List.mem_map, List.mem_range, Prod.mk.injEq]
  constructor
  · rintro ⟨i, hi, h1, h2, h3⟩
    omega
  · rintro ⟨h1, h2, h3, h4⟩
    exact ⟨(b - 1).toNat, by omega, by omega, by omega, by omega⟩
theorem mem_open {L : Int} {z : Z3} : z ∈ openZ L ↔ z.1 = 1 ∧ 1 ≤ z.2.1 ∧ z.2.1 < L ∧ z.2.2 = 0 := by
  obtain ⟨a, b, c⟩ := z
  unfold openZ
  simp only [List.mem_map, List.mem_range, Prod.mk.injEq]
  constructor
  · rintro ⟨i, hi, h1, h2, h3⟩
    omega
  · rintro ⟨h1, h2, h3, h4⟩
    exact ⟨(b - 1).toNat, by omega, by omega, by omega, by omega⟩
theorem mem_loose {L : Int} {z : Z3} : z ∈ looseZ L ↔ z.1 = 0 ∧ 2 ≤ z.2.1 ∧ z.2.1 ≤ L ∧ 1 ≤ z.2.2 ∧ z.2.2 < z.2.1 := by
  obtain ⟨a, b, c⟩ := z
  unfold looseZ
  simp only [List.mem_flatten, List.mem_map, List.mem_range]
  constructor
  · rintro ⟨l, ⟨i, hi, rfl⟩, hl⟩
    simp only [List.mem_map, List.mem_range, Prod.mk.injEq] at hl
    obtain ⟨j, hj, h1, h2, h3⟩ := hl
    omega
  · rintro ⟨h1, h2, h3, h4, h5⟩
    refine ⟨_, ⟨(b - 2).toNat, by omega, rfl⟩, ?_⟩
    simp only [List.mem_map, List.mem_range, Prod.mk.injEq]
    exact ⟨(c - 1).toNat, by omega, by omega, by omega, by omega⟩
theorem mem_prog {L : Int} (hL : 1 ≤ L) {z : Z3} : z ∈ progZ L ↔ StdZ L z := by
  unfold progZ StdZ
  obtain ⟨a, b, c⟩ := z
  simp only [List.mem_append, mem_bar, mem_loose, mem_open, List.mem_singleton, Prod.mk.injEq]
  omega
theorem prog_word {L : Int} {z : Z3} (h : z ∈ progZ L) : 0 ≤ z.1 ∧ z.1 ≤ 2 := by
  unfold progZ at h
  simp only [List.mem_append, mem_bar, mem_loose, mem_open, List.mem_singleton] at h
  rcases h with ((h | h) | h) | h
  · omega
  · omega
  · omega
  · rw [h]; exact ⟨by decide, by decide⟩
end Pa
set_option maxRecDepth 100000
set_option maxHeartbeats 4000000
namespace Pa
open PySem PySem.Spec PyProof.Rows L2 SrtO
/-! ### two loops in one comprehension -/
section
variable {J : It} {n : Nat} {G : Hp → Prop} {Y : Nat → Hp → V → Hp → Prop}
theorem lc2_out (w : Walk J n G Y) {g : TG} {tt : TT} {Inner : L2.St → Hp → (Hp → Prop) → Prop} {vs : List Nat} {σ : L2.St} {H1 : Hp} {D : Addr} {Qd : Hp → Prop} (Pv : Nat → Hp → Prop) (h0 : Pv 0 (upd H1 D (.lst []))) (hG : ∀ i H, i ≤ n → Pv i H → G H)
    (hs : ∀ i x H H', i < n → Pv i H → Y i H x H' → g x (wipe σ vs) H' fun σ2 H2 => wipe σ2 vs = wipe σ vs ∧ tt σ2 H2 fun b H3 => if b = true then Inner σ2 H3 (Pv (i + 1)) else Pv (i + 1) H3) (hd : ∀ H, Pv n H → Qd H) :
    ∃ W : Nat → Nat → Hp → Prop, (∃ m, W 0 m (upd H1 D (.lst []))) ∧ ∀ i m H, W i m H →
      (J.stop i H ∧ Qd H) ∨ (J.go i H ∧ ∃ Nx : Hp → Prop, (∀ H', Nx H' → ∃ m', m' < m ∧ W (i + 1) m' H') ∧ ∀ x H', J.yld i H x H' → g x (wipe σ vs) H' fun σ2 H2 => wipe σ2 vs = wipe σ vs ∧ tt σ2 H2 fun b H3 =>
        if b = true then Inner σ2 H3 Nx else Nx H3) := by
  refine ⟨fun i m H => m = n - i ∧ i ≤ n ∧ Pv i H, ⟨n, by simp, Nat.zero_le _, h0⟩, ?_⟩
  rintro i m H ⟨rfl, hi, p⟩
  have q := hG i H hi p
  by_cases hlt : i < n
  · exact .inr ⟨w.goes i H hlt q, Pv (i + 1), fun H' p' => ⟨n - (i + 1), by omega, rfl, hlt, p'⟩, fun x H' y => hs i x H H' hlt p (w.yields i H x H' hlt q y)⟩
  · have e : i = n := by omega
    subst e
    exact .inl ⟨w.stops H q, hd H p⟩
theorem lc2_in (w : Walk J n G Y) {g : TG} {tt : TT} {te : TE} {vs : List Nat} {σ : L2.St} {H4 : Hp} {D : Addr} {Nx : Hp → Prop} (Pv : Nat → Hp → Prop) (h0 : Pv 0 H4) (hG : ∀ i H, i ≤ n → Pv i H → G H)
    (hs : ∀ i x H H', i < n → Pv i H → Y i H x H' → g x (wipe σ vs) H' fun σ2 H2 => wipe σ2 vs = wipe σ vs ∧ tt σ2 H2 fun b H3 =>
      if b = true then te σ2 H3 fun y H7 => ∃ acc, H7 D = some (.lst acc) ∧ acc.length < sizeLine ∧ Pv (i + 1) (upd H7 D (.lst (acc ++ [y]))) else Pv (i + 1) H3) (hd : ∀ H, Pv n H → Nx H) :
    ∃ W : Nat → Nat → Hp → Prop, (∃ m, W 0 m H4) ∧ ∀ j k H, W j k H →
      (J.stop j H ∧ Nx H) ∨ (J.go j H ∧ ∃ Nx1 : Hp → Prop, (∀ H', Nx1 H' → ∃ k', k' < k ∧ W (j + 1) k' H') ∧ ∀ x H', J.yld j H x H' → g x (wipe σ vs) H' fun σ2 H2 => wipe σ2 vs = wipe σ vs ∧ tt σ2 H2 fun b H3 =>
        if b = true then te σ2 H3 fun y H7 => ∃ acc, H7 D = some (.lst acc) ∧ acc.length < sizeLine ∧ Nx1 (upd H7 D (.lst (acc ++ [y]))) else Nx1 H3) := by
  refine ⟨fun i m H => m = n - i ∧ i ≤ n ∧ Pv i H, ⟨n, by simp, Nat.zero_le _, h0⟩, ?_⟩
  rintro i m H ⟨rfl, hi, p⟩
  have q := hG i H hi p
  by_cases hlt : i < n
  · exact .inr ⟨w.goes i H hlt q, Pv (i + 1), fun H' p' => ⟨n - (i + 1), by omega, rfl, hlt, p'⟩, fun x H' y => hs i x H H' hlt p (w.yields i H x H' hlt q y)⟩
  · have e : i = n := by omega
    subst e
    exact .inl ⟨w.stops H q, hd H p⟩
end
/-- more facts of the program's top -/
structure Txt2 (K : PySem.W.Frag) (mg : Str → Option Value) : Prop where
  b_sorted : mg "sorted" = none
  b_str : mg "str" = none
theorem zPush {H : Hp} {q p : Addr} {ls tv : List V} {ys : List Z3} {y : Z3} (hq : H q = some (.lst ls)) (ha : AllAt ZAt H ls ys) (hp : H p = none) (et : tv = [.str (wordN y.1), .int y.2.1, .int y.2.2]) :
    upd (upd H p (.tup tv)) q (.lst (ls ++ [.ref p])) q = some (.lst (ls ++ [.ref p])) ∧ AllAt ZAt (upd (upd H p (.tup tv)) q (.lst (ls ++ [.ref p]))) (ls ++ [.ref p]) (ys ++ [y]) ∧
      (upd H p (.tup tv)) q = some (.lst ls) ∧ ∀ a o, a ≠ q → H a = some o → upd (upd H p (.tup tv)) q (.lst (ls ++ [.ref p])) a = some o := all_push (f := fun y : Z3 => [.str (wordN y.1), .int y.2.1, .int y.2.2]) hq ha hp et
theorem len_loose (L : Int) (i : Nat) : ((((List.range i).map fun (i : Nat) => (List.range (i + 1)).map fun (j : Nat) => ((0, 2 + (i : Int), 1 + (j : Int)) : Z3)).flatten).length) ≤ i * (i + 1) := by
  induction i with
  | zero => simp
  | succ i ih =>
    rw [List.range_succ, List.map_append, List.flatten_append, List.length_append]
    simp only [List.map_cons, List.map_nil, List.flatten_cons, List.flatten_nil, List.append_nil, List.length_map, List.length_range]
    have : (i + 1) * (i + 1 + 1) = i * (i + 1) + 2 * (i + 1) := by rw [Nat.add_mul, Nat.mul_add, Nat.mul_add]; omega
    omega
section
variable {P : Program} {w : World} {K : PySem.W.Frag} {mg : Str → Option Value} {base : Heap} {tp C : Addr}
/-! ### standings -/
def spStandings (K : PySem.W.Frag) : Sp := fun vs H Q _ => ∃ L : Int, vs = [.int L] ∧ 2 ≤ L ∧ L ≤ 9 ∧ ∀ p H' ys ks, H p = none → Same H H' → H' p = some (.lst ys) → AllAt (StdAt K) H' ys ks → Srtd lex3 ks → ks.Perm (progZ L) → Q (.ref p) H'
abbrev sstandings : Stmt := topS 7
theorem scstandings : FnScope ["length", "all_barred", "height", "loose", "tail"] ["length"] (defScope sstandings) := ⟨rfl, rfl, rfl, by decide +kernel, rfl, by decide +kernel, by decide +kernel⟩
theorem ok_standings {f : Addr} {fd : FuncData} (F : Fun K "standings" "standings" sstandings f fd) (T : Txt K mg tp C) (T2 : Txt2 K mg) : FnOk P w K mg base CX0 1 f fd ["length"] (spStandings K) := by
  refine F.ok scstandings (fun vs H Q E h => ?_) (fun cdv A outer s H vs Q E hr h => ?_)
  · obtain ⟨L, rfl, _⟩ := h
    rfl
  · obtain ⟨L, rfl, hL2, hL9, k⟩ := h
    refine ⟨_, (pss_cons (ps_setLc (i := 1) (own := [("height", 2)]) (g := gName 2) (tt := tYes) rfl scstandings.nd rfl rfl (sw_true rfl rfl rfl (by decide +kernel)) (pi_range2 (by rfl) T.b_range (pa_cons pe_int (pa_cons (pv 0) pa_nil))) (blkOk_by (N := ["length", "all_barred", "height", "loose", "tail"]) (sc := defScope sstandings) (by decide +kernel)) (fun _ _ _ _ _ => (pg_name (i := 2) scstandings.nd rfl (.inl rfl))) (fun _ _ _ _ _ => pts_nil) (fun _ _ _ _ _ => (pe_tup (pa_cons pe_str (pa_cons (pv 2) (pa_cons pe_int pa_nil))))))
      (pss_cons (ps_setLc2 (i := 3) (own := [("height", 2), ("tail", 4)]) (vs1 := [4]) (wi1 := iRng2 (tCons (tC (.int 1)) (tCons (tVar 2) tNil))) (g := gName 2) (g1 := gName 4) rfl scstandings.nd rfl rfl (sw_true rfl rfl rfl (by decide +kernel)) (pi_range2 (by rfl) T.b_range (pa_cons pe_int (pa_cons (pe_op op_add (pv 0) pe_int) pa_nil))) (blkOk_by (N := ["length", "all_barred", "height", "loose", "tail"]) (sc := defScope sstandings) (by decide +kernel)) (by decide) (fun _ _ _ _ _ => (pg_name (i := 2) scstandings.nd rfl (.inl rfl))) (fun _ _ _ _ _ => pts_nil) (fun _ _ _ _ _ => (pi_range2 (by rfl) T.b_range (pa_cons pe_int (pa_cons (pv 2) pa_nil)))) (fun _ _ _ _ _ => (pg_name (i := 4) scstandings.nd rfl (.inl rfl))) (fun _ _ _ _ _ => pts_nil) (fun _ _ _ _ _ => (pe_tup (pa_cons pe_str (pa_cons (pv 2) (pa_cons (pv 4) pa_nil))))))
      (pss_one (ps_ret (pe_callB cr_sortZ (by rfl) T2.b_sorted (by decide +kernel) (pa_cons (pe_op op_cat (pe_op op_cat (pe_op op_cat (pv 1) (pv 3)) (pe_lc (own := [("height", 2)]) (g := gName 2) (tt := tYes) rfl scstandings.nd (pi_range2 (by rfl) T.b_range (pa_cons pe_int (pa_cons (pv 0) pa_nil))) (blkOk_by (N := ["length", "all_barred", "height", "loose", "tail"]) (sc := defScope sstandings) (by decide +kernel)) (fun _ _ _ _ _ => (pg_name (i := 2) scstandings.nd rfl (.inl rfl))) (fun _ _ _ _ _ => pts_nil) (fun _ _ _ _ _ => (pe_tup (pa_cons pe_str (pa_cons (pv 2) (pa_cons pe_int pa_nil))))))) (pe_lst (pa_cons (pe_glob (v := .ref tp) (by rfl) T.g_TOP rfl) pa_nil))) pa_nil)))))), ?_⟩
    have e1 : (L - 1).toNat ≤ 8 := by omega
    refine ⟨_, rfl, _, _, rfl, ⟨by omega, by omega, by omega, by omega⟩, fun D1 hD1 => ?_⟩
    refine lc_range (lo := 1) (n := (L - 1).toNat) (fun i H3 => Same H H3 ∧ ∃ acc, H3 D1 = some (.lst acc) ∧ AllAt ZAt H3 acc ((List.range i).map fun (i : Nat) => ((0, 1 + (i : Int), 0) : Z3))) ⟨same_new hD1, [], upd_same, trivial⟩ ?_ ?_
    · rintro i H3 hi ⟨s3, acc, hacc, hra⟩
      refine ⟨rfl, ?_⟩
      refine ⟨_, rfl, (by show 3 ≤ sizeLine; decide), fun p hp => ?_⟩
      obtain ⟨p1, p2, p3, p4⟩ := zPush (y := (0, 1 + (i : Int), 0)) (tv := [.str "kept", .int (1 + (i : Int)), .int 0]) hacc hra hp rfl
      refine ⟨acc, p3, ?_, fun q o e => p4 q o (fun r => by rw [r, hD1] at e; cases e) (s3 _ _ e), _, p1, ?_⟩
      · rw [hra.len, List.length_map, List.length_range]
        exact Nat.lt_of_le_of_lt (m := 1000) (by omega) (by decide)
      · rw [List.range_succ, List.map_append]
        exact p2
    rintro H1 ⟨s1, bs, hbs, hbr⟩
    have hbr : AllAt ZAt H1 bs (barZ L) := hbr
    refine ⟨_, rfl, _, _, rfl, rfl, _, _, rfl, ⟨by omega, by omega, by omega, by omega⟩, fun D2 hD2 => ?_⟩
    have e2 : (L + 1 - 2).toNat = (L - 1).toNat := by omega
    rw [e2]
    refine lc2_out (walk_range (lo := 2) (n := (L - 1).toNat)) (fun i H3 => Same H1 H3 ∧ ∃ acc, H3 D2 = some (.lst acc) ∧ AllAt ZAt H3 acc (((List.range i).map fun (i : Nat) => (List.range (i + 1)).map fun (j : Nat) => ((0, 2 + (i : Int), 1 + (j : Int)) : Z3)).flatten)) ⟨same_new hD2, [], upd_same, trivial⟩ (fun _ _ _ _ => trivial) ?_ ?_
    · rintro i x H3 H4 hi ⟨s3, acc, hacc, hra⟩ ⟨rfl, rfl⟩
      refine ⟨rfl, ?_⟩
      refine ⟨_, rfl, _, _, rfl, ⟨by omega, by omega, by omega, by omega⟩, ?_⟩
      have e3 : (2 + (i : Int) - 1).toNat = i + 1 := by omega
      rw [e3]
      refine lc2_in (walk_range (lo := 1) (n := i + 1)) (fun j H5 => Same H1 H5 ∧ ∃ acc, H5 D2 = some (.lst acc) ∧ AllAt ZAt H5 acc ((((List.range i).map fun (i : Nat) => (List.range (i + 1)).map fun (j : Nat) => ((0, 2 + (i : Int), 1 + (j : Int)) : Z3)).flatten) ++ (List.range j).map fun (j : Nat) => ((0, 2 + (i : Int), 1 + (j : Int)) : Z3))) ⟨s3, acc, hacc, by simpa using hra⟩ (fun _ _ _ _ => trivial) ?_ ?_
      · rintro j x H5 H6 hj ⟨s5, acc5, hacc5, hra5⟩ ⟨rfl, rfl⟩
        refine ⟨rfl, ?_⟩
        refine ⟨_, rfl, _, rfl, (by show 3 ≤ sizeLine; decide), fun p hp => ?_⟩
        obtain ⟨p1, p2, p3, p4⟩ := zPush (y := (0, 2 + (i : Int), 1 + (j : Int))) (tv := [.str "kept", .int (2 + (i : Int)), .int (1 + (j : Int))]) hacc5 hra5 hp rfl
        refine ⟨acc5, p3, ?_, fun q o e => p4 q o (fun r => by rw [r, hD2] at e; cases e) (s5 _ _ e), _, p1, ?_⟩
        · have l1 := len_loose L i
          have l2 := hra5.len
          rw [List.length_append, List.length_map, List.length_range] at l2
          have l3 : i * (i + 1) ≤ 8 * 9 := Nat.mul_le_mul (by omega) (by omega)
          exact Nat.lt_of_le_of_lt (m := 1000) (by omega) (by decide)
        · rw [List.range_succ, List.map_append, ← List.append_assoc]
          exact p2
      · rintro H5 ⟨s5, acc5, hacc5, hra5⟩
        refine ⟨s5, acc5, hacc5, ?_⟩
        rw [List.range_succ, List.map_append, List.flatten_append]
        simpa using hra5
    rintro H2 ⟨s2, ls, hls, hlr⟩
    have hlr : AllAt ZAt H2 ls (looseZ L) := hlr
    have hbs2 := s2 _ _ hbs
    have hbr2 := zMono (Tups.of s2) hbr
    have lb : bs.length ≤ 8 := by
      rw [hbr.len]
      unfold barZ
      rw [List.length_map, List.length_range]
      exact e1
    have ll : ls.length ≤ 100 := by
      rw [hlr.len]
      have := len_loose L (L - 1).toNat
      have l3 : (L - 1).toNat * ((L - 1).toNat + 1) ≤ 8 * 9 := Nat.mul_le_mul e1 (by omega)
      exact Nat.le_trans this (by omega)
    refine ⟨_, rfl, _, rfl, _, _, _, _, rfl, rfl, hbs2, hls, Nat.le_trans (m := 108) (by omega) (by decide), fun q1 hq1 => ?_⟩
    have t1 := same_new (o := .lst (bs ++ ls)) hq1
    have c1 : (upd H2 q1 (.lst (bs ++ ls))) q1 = some (.lst (bs ++ ls)) := upd_same
    have r1 : AllAt ZAt (upd H2 q1 (.lst (bs ++ ls))) (bs ++ ls) (barZ L ++ looseZ L) := zMono (Tups.of t1) (hbr2.app hlr)
    generalize upd H2 q1 (.lst (bs ++ ls)) = H3 at t1 c1 r1
    refine ⟨_, rfl, _, _, rfl, ⟨by omega, by omega, by omega, by omega⟩, fun D3 hD3 => ?_⟩
    refine lc_range (lo := 1) (n := (L - 1).toNat) (fun i H4 => Same H3 H4 ∧ ∃ acc, H4 D3 = some (.lst acc) ∧ AllAt ZAt H4 acc ((List.range i).map fun (i : Nat) => ((1, 1 + (i : Int), 0) : Z3))) ⟨same_new hD3, [], upd_same, trivial⟩ ?_ ?_
    · rintro i H4 hi ⟨s4, acc, hacc, hra⟩
      refine ⟨rfl, ?_⟩
      refine ⟨_, rfl, (by show 3 ≤ sizeLine; decide), fun p hp => ?_⟩
      obtain ⟨p1, p2, p3, p4⟩ := zPush (y := (1, 1 + (i : Int), 0)) (tv := [.str "open", .int (1 + (i : Int)), .int 0]) hacc hra hp rfl
      refine ⟨acc, p3, ?_, fun q o e => p4 q o (fun r => by rw [r, hD3] at e; cases e) (s4 _ _ e), _, p1, ?_⟩
      · rw [hra.len, List.length_map, List.length_range]
        exact Nat.lt_of_le_of_lt (m := 1000) (by omega) (by decide)
      · rw [List.range_succ, List.map_append]
        exact p2
    rintro H4 ⟨s4, os, hos, hor⟩
    have hor : AllAt ZAt H4 os (openZ L) := hor
    have lo : os.length ≤ 8 := by
      rw [hor.len]
      unfold openZ
      rw [List.length_map, List.length_range]
      exact e1
    refine ⟨_, _, _, _, rfl, rfl, s4 _ _ c1, hos, Nat.le_trans (m := 120) (by rw [List.length_append]; omega) (by decide), fun q2 hq2 => ?_⟩
    have t2 := same_new (o := .lst (bs ++ ls ++ os)) hq2
    have c2 : (upd H4 q2 (.lst (bs ++ ls ++ os))) q2 = some (.lst (bs ++ ls ++ os)) := upd_same
    have r2 : AllAt ZAt (upd H4 q2 (.lst (bs ++ ls ++ os))) (bs ++ ls ++ os) (barZ L ++ looseZ L ++ openZ L) := zMono (Tups.of t2) ((zMono (Tups.of s4) r1).app hor)
    generalize upd H4 q2 (.lst (bs ++ ls ++ os)) = H5 at t2 c2 r2
    refine ⟨(by show 1 ≤ sizeLine; decide), fun q3 hq3 => ?_⟩
    have t3 := same_new (o := .lst [V.ref tp]) hq3
    refine ⟨_, _, _, _, rfl, rfl, t3 _ _ c2, upd_same, Nat.le_trans (m := 150) (by simp only [List.length_append, List.length_cons, List.length_nil]; omega) (by decide), fun q4 hq4 => ?_⟩
    have t4 := same_new (o := .lst (bs ++ ls ++ os ++ [V.ref tp])) hq4
    have s5 : Same H5 (upd (upd H5 q3 (.lst [V.ref tp])) q4 (.lst (bs ++ ls ++ os ++ [V.ref tp]))) := t3.trans t4
    have c4 : (upd (upd H5 q3 (.lst [V.ref tp])) q4 (.lst (bs ++ ls ++ os ++ [V.ref tp]))) q4 = some (.lst (bs ++ ls ++ os ++ [V.ref tp])) := upd_same
    have r3 : AllAt (StdAt K) (upd (upd H5 q3 (.lst [V.ref tp])) q4 (.lst (bs ++ ls ++ os ++ [V.ref tp]))) (bs ++ ls ++ os ++ [V.ref tp]) (progZ L) := by
      refine (zStd (fun z hz => prog_word (List.mem_append_left _ hz)) (zMono (Tups.of s5) r2)).app ⟨⟨⟨by decide, by decide⟩, tp, rfl, ?_⟩, trivial⟩
      exact T.top _
    have sH : Same H (upd (upd H5 q3 (.lst [V.ref tp])) q4 (.lst (bs ++ ls ++ os ++ [V.ref tp]))) := ((((s1.trans s2).trans t1).trans s4).trans t2).trans s5
    generalize upd (upd H5 q3 (.lst [V.ref tp])) q4 (.lst (bs ++ ls ++ os ++ [V.ref tp])) = H6 at c4 r3 sH
    refine ⟨q4, _, _, rfl, SqL.of c4, r3, fun ys ks' p h1 h2 h3 hp => ?_⟩
    exact k p _ ys ks' (sH.free hp) (sH.trans (same_new hp)) upd_same (stdMono (same_new hp) h1) h2 h3
end
end Pa
set_option maxRecDepth 100000
set_option maxHeartbeats 4000000
namespace Pa
open PySem PySem.Spec PyProof.Rows L2
/-! ### super().__init__('..') in an own error's __init__ -/
theorem mw_init {X : Cx} {pins : List (Addr × Obj)} {σ : List (Option V)} {H : Hp} {s : Shared} {u a C : Addr} {us : List Value} {A : Around} {Q : Value → Shared → Prop} {E : Value → Shared → Prop}
    (T : OexC X.K C) (I : Inv X pins σ H s) (hu : s.heap.get? u = some (PySem.W.kxs_mw "ValueError.__init__" a)) (e : H a = some (exo a C none)) (hl : us.length ≤ sizeLine) (h : ∀ s', Inv X pins σ H s' → Q .none s') :
    wpAny (model X.prog X.w) A (call (.ref u) us) Q E s := by
  obtain ⟨_, _, _, _, _, _, _, _, _, _, _, _, _, _, _, hC, _⟩ := T.cls
  obtain ⟨t1, ho⟩ := exo_at I.hok e
  obtain ⟨hp, g, d, t, os⟩ := s
  apply wpAny_call
  apply codeAny_of_tree
  show wpAny _ A.in1 (callAny (.ref u) ⟨us, []⟩) _ _ _
  unfold callAny
  refine wpAny_bind (wpAny_load hu ?_)
  have c1 : (Value.type "method-wrapper" == Value.type "method" || Value.type "method-wrapper" == Value.type "builtin_function_or_method" || Value.type "method-wrapper" == Value.type "method-wrapper") = true := by decide
  simp only [PySem.W.kxs_mw, c1, if_true]
  refine PySem.W.KFB.if_so (by decide) ?_
  refine wpAny_bind (PySem.W.check_bound_init F.excBase_ValueError.toExcCallFacts (I.kIn _ _ hC) ho rfl (wpAny_bind (wpAny_pure (wpAny_pure ⟨plainId_quiet F.excBase_ValueError.init.plain _, codeAny_builtin F.excBase_ValueError.initEntry ?_⟩))))
  refine PySem.W.exc_init_tree (cls := .ref C) (t0 := t1) (dv := none) (c2 := .none) (c3 := .none) (b4 := .bool false) ho hl fun h' k hx _ => ?_
  have J := I.write (t' := t) (x := a) (e := a) (o := exo a C none) (by rw [e]; trivial) (.inl rfl) k ⟨_, hx⟩ (exo_ok hx)
  have eu : upd H a (exo a C none) = H := funext fun b => by
    by_cases hb : b = a
    · rw [hb, upd_same, e]
    · exact upd_ne hb
  rw [eu] at J
  exact h _ J
end Pa
set_option maxRecDepth 100000
set_option maxHeartbeats 4000000
namespace Pa
open PySem PySem.Spec PyProof.Rows L2
/-- the names of such an __init__, without those that are not its own -/
def supScope0 (fld : Str) : Scope := { kind := .function, names := [("self", .local), (fld, .local)], isGenerator := false, isCoroutine := false, more := [] }
def supScope (fld : Str) : Scope := { kind := .function, names := [("self", .local), (fld, .local), ("__class__", .free), ("super", .globalImplicit)], isGenerator := false, isCoroutine := false, more := [] }
/-- class X(..): def __init__(self, f): super().__init__('..'); self.f = f -/
def spSup (C : Addr) (fld : Str) : Sp := fun vs H Q _ => ∃ (a : Addr) (v : V), vs = [.ref a, v] ∧ H a = some (exo a C none) ∧
  ∀ dx, H dx = none → dx ≠ a → Q .non (upd (upd H dx (exd dx [(fld, v)])) a (exo a C (some dx)))
structure SupCls (P : Program) (K : PySem.W.Frag) (mg : Str → Option Value) (C : Addr) (fld : Str) : Prop where
  oex : OexC K C
  noF : PySem.W.findIn K (.ref C) fld = some none
  ve : PySem.W.subIn K (.ref C) (.type "ValueError") = some true
  own : PySem.W.mroIn K C (.ref C) = some true
  sup : PySem.W.ks_superIn K C C "__init__" = some (some (.builtin "ValueError.__init__"))
  third : PySem.W.nsIn K cStatics "thirdparty.any" = some none
  mgS : mg "super" = none
  top : (P.main.scope.names.lookup ("super" : Str)).isSome = false
theorem sup_go {X : Cx} {pins : List (Addr × Obj)} {σ : List (Option V)} {H : Hp} {s : Shared} {A : Around} {Q : Value → Shared → Prop} {E : Value → Shared → Prop} {C f cc cda a : Addr} {qual fld tx : Str} {params : Arguments} {body : List Stmt} {dV kV doc pm ct oc ccl cl : Value} {an od cdd cld : Option Addr} {osl ccs csl : Array (Option Value)}
    {vs0 : Array Value} {file : Str} {tf : Tok} {ar : Arg} {p0 p1 p3 p4 : Pos} {whole : Sem Value} {pl : Sem Bool} {bdy : List Stmt} (T : SupCls X.prog X.K X.mg C fld) (I : Inv X pins σ H s) (L : Addr)
    (lk : X.K.lookup f = some ⟨oc, od, .func (PySem.W.fnX "__init__" qual params body (supScope fld) [("__class__", cc)] dV kV doc pm an (.ref cda) ct), osl⟩)
    (hcode : X.K.lookup cda = some ⟨ccl, cdd, .fields vs0, ccs⟩) (hvs : vs0[2]? = some (.str file tf)) (hfile : ((X.prog.main.file : Str) == file) = true) (hcell : X.K.lookup cc = some ⟨cl, cld, .cell (some (.ref C)), csl⟩)
    (hp : (params.posonlyargs ++ params.args).head? = some ar) (har : ar.arg = ("self" : Str)) (hf1 : (("super" : Str) == fld) = false) (hf2 : (("__class__" : Str) == fld) = false) {m : Str → Option Value} (hns : s.heap.Ns L m) (hm : m "self" = some (.ref a)) (ha : H a = some (exo a C none)) (h : ∀ s', Inv X pins σ H s' → Q .none s') :
    PySem.wpAt (model X.prog X.w) A (.func bdy (PySem.W.ksEnv qual (supScope fld) L f (.ref cda) cc)) (attributeBase (.Call (.Name "super" p0) [] [] p1) "__init__" (PySem.W.ksEnv qual (supScope fld) L f (.ref cda) cc) whole)
      (fun ov s₁ => wpAny (model X.prog X.w) A (getMethod ov "__init__" pl) (fun fx s₂ => wpAny (model X.prog X.w) A (callWith p4 fx.1 fx.2 (backTo p4 (starEach [.Constant (.str tx) 0 p3] (PySem.W.ksEnv qual (supScope fld) L f (.ref cda) cc))) []) Q E s₂) E s₁) E s := by
  obtain ⟨nmC, qC, NC, bsC, bmC, snC, subC, abC, colC, ddC, k0, k1, k2, k3, k5, hC, hbm⟩ := T.oex.cls
  obtain ⟨t1, ho⟩ := exo_at I.hok ha
  have KI := I.kIn
  have hCi : PySem.W.clsIn X.K C = some { name := nmC, bases := bsC, mro := .ref C :: bmC, ns := NC, qualname := qC, hasDict := true, slotNames := snC, subclasses := subC, abstract := abC, collection := colC, hasDel := false } := by unfold PySem.W.clsIn; rw [hC] <;> rfl
  obtain ⟨mb, hmb, hmb2⟩ := I.mod.blt
  have hsup0 : (("super" : Str)) ≠ "__name__" := by decide
  refine PySem.ks_wpAt_super_base (env := PySem.W.ksEnv qual (supScope fld) L f (.ref cda) cc) (of := ⟨oc, od, .func (PySem.W.fnX "__init__" qual params body (supScope fld) [("__class__", cc)] dV kV doc pm an (.ref cda) ct), osl⟩) ?a1 ?a2 rfl rfl (KI _ _ lk) rfl hp rfl (KI _ _ hcode) rfl hvs hfile T.top ?_
  case a1 =>
    show List.lookup ("super" : Str) [(("self" : Str), NameKind.local), (fld, .local), ("__class__", .free), ("super", .globalImplicit)] = some .globalImplicit
    simp only [List.lookup_cons, hf1]
    rfl
  case a2 =>
    show List.lookup ("__class__" : Str) [(("self" : Str), NameKind.local), (fld, .local), ("__class__", .free), ("super", .globalImplicit)] = some .free
    simp only [List.lookup_cons, hf2]
    rfl
  have kS : (PySem.W.ksEnv qual (supScope fld) L f (.ref cda) cc).kindOf "super" = some .globalImplicit := by
    show List.lookup ("super" : Str) [(("self" : Str), NameKind.local), (fld, .local), ("__class__", .free), ("super", .globalImplicit)] = some .globalImplicit
    simp only [List.lookup_cons, hf1]
    rfl
  have kC : (PySem.W.ksEnv qual (supScope fld) L f (.ref cda) cc).kindOf "__class__" = some .free := by
    show List.lookup ("__class__" : Str) [(("self" : Str), NameKind.local), (fld, .local), ("__class__", .free), ("super", .globalImplicit)] = some .free
    simp only [List.lookup_cons, hf2]
    rfl
  have kL : (PySem.W.ksEnv qual (supScope fld) L f (.ref cda) cc).kindOf ar.arg = some .local := by rw [har]; rfl
  have hC2 := KI _ _ hC
  refine PySem.W.ks_loadName_global rfl kS (PySem.Calls.loadGlobal_builtin (env := PySem.W.ksEnv qual (supScope fld) L f (.ref cda) cc) (I.mod.glob.keeps I.bk) T.mgS (hmb.keeps I.bk) (hmb2 _ hsup0) ⟨rfl, ?_⟩)
  refine PySem.wpAny_loadName_free rfl kC rfl ⟨_, KI _ _ hcell, rfl⟩ ?_
  refine PySem.wpAny_loadName_local rfl kL hns (by rw [har]; exact hm) ?_
  obtain ⟨hp0, g, d, t, os⟩ := s
  refine PySem.ks_wpAny_isType_cls hC2 rfl ⟨rfl, ?_⟩
  refine PySem.ks_wpAny_call_super hC2 rfl ho rfl (fun c z => by cases z) (PySem.W.looks_mroIn KI T.own) (fun h2 hso k2 => ?_)
  have J0 : Inv X pins σ H ⟨h2, g, d, t, os⟩ := I.un (t' := t) (Un.kept k2) (I.hok.kept k2)
  have hne : a ≠ C := fun z => by
    have w := KI _ _ hC
    rw [← z] at w
    exact absurd (w.symm.trans ho) (fun y => by cases y)
  have ho2 := k2 _ _ ho
  have IA : PySem.W.InstAt h2 a { cls := .ref C, dict := none, data := .fields #[.ref t1, .none, .none, .none, .bool false, .none] } C none := ⟨ho2, rfl, rfl, trivial⟩
  have hsp := T.sup
  unfold PySem.W.ks_superIn at hsp
  rw [hCi] at hsp
  refine PySem.W.kxs_getMethod PySem.W.kxs_ValueError hso (PySem.W.looks_opaque J0.kIn T.third) (l₀ := Value.ref C :: bmC) ((PySem.W.looks_clsIn J0.kIn hCi).andThen .now) rfl J0.kIn hsp (IA.type.andThen (PySem.W.looks_subIn J0.kIn T.ve)) hne (by decide) ?_
  have k3 : ∀ (b : Addr) (o : Obj), h2.get? b = some o → (h2.push (PySem.W.kxs_mw "ValueError.__init__" a)).get? b = some o := fun b o e => Heap.get?_push_of_some _ e
  have J1 : Inv X pins σ H ⟨h2.push (PySem.W.kxs_mw "ValueError.__init__" a), g, d, t + 1, os⟩ := J0.un (t' := t + 1) (Un.kept k3) (J0.hok.kept k3)
  have hu : (h2.push (PySem.W.kxs_mw "ValueError.__init__" a)).get? h2.objs.size = some (PySem.W.kxs_mw "ValueError.__init__" a) := Heap.get?_push_size _ rfl
  refine PySem.W.kxs_callWith (i := "ValueError.__init__") (x := a) rfl (PySem.Calls.evalArgs_plain ?_)
  show wpAny _ _ (spliced ((false, eval (.Constant (.str tx) 0 p3) _) :: [])) _ _ _
  refine PySem.Calls.spliced_cons (PySem.wpAny_Constant_str (PySem.Calls.spliced_nil ⟨hu, ?_⟩))
  exact mw_init T.oex (J1.tok _) hu ha (by rw [sizeLine_eq]; show 1 ≤ 16777216; decide) h
theorem sup_fn {P : Program} {w : World} {K : PySem.W.Frag} {mg : Str → Option Value} {base : Heap} {CX : CXT} {k : Nat} {C f cc cda : Addr} {qual fld tx : Str} {params : Arguments} {body : List Stmt} {dV kV doc pm ct oc ccl cl : Value} {an od cdd cld : Option Addr} {osl ccs csl : Array (Option Value)}
    {vs0 : Array Value} {file : Str} {tf : Tok} {ar : Arg} {p0 p1 p2 p3 p4 p5 q1 q2 q3 q4 : Pos} (T : SupCls P K mg C fld)
    (lk : K.lookup f = some ⟨oc, od, .func (PySem.W.fnX "__init__" qual params body (supScope fld) [("__class__", cc)] dV kV doc pm an (.ref cda) ct), osl⟩) (hcd : PySem.W.codeIn K (.ref cda) qual = true)
    (hcode : K.lookup cda = some ⟨ccl, cdd, .fields vs0, ccs⟩) (hvs : vs0[2]? = some (.str file tf)) (hfile : ((P.main.file : Str) == file) = true) (hcell : K.lookup cc = some ⟨cl, cld, .cell (some (.ref C)), csl⟩)
    (hp : (params.posonlyargs ++ params.args).head? = some ar) (har : ar.arg = ("self" : Str)) (hb0 : body = [.Expr (.Call (.Attribute (.Call (.Name "super" p0) [] [] p1) "__init__" p2) [.Constant (.str tx) 0 p3] [] p4) p5, .Assign [.Attribute (.Name "self" q1) fld q2] (.Name fld q3) q4])
    {pl : Env → Sem Bool} (hmc : ∀ env, eval (.Call (.Attribute (.Call (.Name "super" p0) [] [] p1) "__init__" p2) [.Constant (.str tx) 0 p3] [] p4) env = (do
      let ov ← attributeBase (.Call (.Name "super" p0) [] [] p1) "__init__" env (eval (.Call (.Name "super" p0) [] [] p1) env)
      standAt p2.atName
      let (f, first) ← holding [ov] (getMethod ov "__init__" (pl env))
      callWith p4 f first (backTo p4 (starEach [.Constant (.str tx) 0 p3] env)) []))
    (hsw : ∀ env, swapsWith (.Name fld q3) (some (.Attribute (.Name "self" q1) fld q2)) q4.line env = pure false) (hf1 : (("super" : Str) == fld) = false) (hf2 : (("__class__" : Str) == fld) = false) (hne : fld ≠ ("self" : Str)) (hdb : (fld == ("__debug__" : Str)) = false) :
    FnOk P w K mg base CX (k + 1) f (PySem.W.fnX "__init__" qual params body (supScope fld) [("__class__", cc)] dV kV doc pm an (.ref cda) ct) ["self", fld] (spSup C fld) := by
  refine ⟨fun vs H Q E ⟨a, v, e, _⟩ => by rw [e]; rfl, fun A outer s H args us vs Q E hr e0 hb r hsp => ?_⟩
  obtain ⟨a, v, rfl, ha, q⟩ := hsp
  obtain ⟨u1, u2, rfl, ru1, ru2⟩ := vals2 r
  obtain rfl : u1 = Value.ref a := ru1
  have KX : K.In s.heap := e0.mod.kin.keeps fun b o e => (e0.bs b o e).1
  have lim : s.heap.NoLimit := e0.mod.nolimit.keeps fun b o e => (e0.bs b o e).1
  have hne' : ((fld : Str) == ("self" : Str)) = false := by simp [hne]
  refine PySem.ks_codeAny_call_defAt (body := body) (binds := [("self", .ref a), (fld, u2)]) hr.depth (KX _ _ lk) rfl lim (PySem.W.codeRec_of KX hcd) rfl hb ?_ ?_ (fun h₁ hns hk₁ => ?_) rfl rfl rfl
  · intro x hx
    simp only [PySem.W.fnX, supScope, List.mem_cons, List.not_mem_nil, or_false] at hx
    rcases hx with rfl | rfl | rfl | rfl <;> (intro z; cases z)
  · intro x hx
    simp only [List.mem_cons, List.not_mem_nil, or_false] at hx
    rcases hx with rfl | rfl
    · rfl
    · show List.lookup fld [(("self" : Str), NameKind.local), (fld, .local), ("__class__", .free), ("super", .globalImplicit)] = some .local
      simp [List.lookup_cons, hne']
  have eb : h₁.Ns s.heap.objs.size (bindL (envOfC qual (supScope0 fld) s.heap.objs.size f (.ref cda)).kindOf ([("self" : Str), fld].zip [Value.ref a, u2]) fun _ => none) := by
    have k1 : (envOfC qual (supScope0 fld) s.heap.objs.size f (.ref cda)).kindOf "self" = some .local := rfl
    have k2 : (envOfC qual (supScope0 fld) s.heap.objs.size f (.ref cda)).kindOf fld = some .local := by
      show List.lookup fld [(("self" : Str), NameKind.local), (fld, .local)] = some .local
      simp [List.lookup_cons, hne']
    have ef : (bindL (envOfC qual (supScope0 fld) s.heap.objs.size f (.ref cda)).kindOf ([("self" : Str), fld].zip [Value.ref a, u2]) fun _ => none) = fun x => List.lookup x ([(("self" : Str), Value.ref a), (fld, u2)].reverse) := by
      funext y
      show bindL _ [(("self" : Str), Value.ref a), (fld, u2)] _ y = List.lookup y [(fld, u2), (("self" : Str), Value.ref a)]
      simp only [bindL, k1, k2, if_true, List.lookup_cons, List.lookup_nil]
      by_cases h1 : y = fld
      · subst h1; simp
      · by_cases h2 : y = ("self" : Str)
        · subst h2
          rw [beq_eq_false_iff_ne.mpr h1]
          simp [h1]
        · rw [beq_eq_false_iff_ne.mpr h1, beq_eq_false_iff_ne.mpr h2]
          simp [h1, h2]
    rw [ef]
    exact hns
  have S0 : FnScope ["self", fld] ["self", fld] (supScope0 fld) := by
    refine ⟨rfl, rfl, rfl, ?_, rfl, fun x hx => ?_, fun y hy => ?_⟩
    · simp only [List.nodup_cons, List.mem_cons, List.not_mem_nil, or_false, not_false_eq_true, List.nodup_nil, and_true]
      exact fun z => hne z.symm
    · left
      simp only [List.mem_cons, List.not_mem_nil, or_false] at hx
      rcases hx with e | e
      · rw [e]; rfl
      · rw [e]
        show List.lookup fld [(("self" : Str), NameKind.local), (fld, .local)] = some .local
        simp [List.lookup_cons, hne']
    · simp only [supScope0, List.mem_cons, List.not_mem_nil, or_false] at hy
      rcases hy with rfl | rfl <;> (intro z; cases z)
  have ec : cellsFrom (s.heap.objs.size + 1) (supScope0 fld).names [] = [] := rfl
  have I : Inv (cxOf CX P w K mg base ["self", fld] qual (supScope0 fld) f (.ref cda) A outer s H E) [] (start ["self", fld] [.ref a, v]) H { s with heap := h₁, toks := s.toks + 2 } :=
    inv_start S0 hr.hd e0 rfl r ⟨⟨⟨h₁, _, rfl⟩, eb, hk₁, Nat.le_refl _⟩, (fun n c hc => by rw [ec] at hc; simp at hc), (by rw [ec]; exact List.Pairwise.nil), (fun n c hc => by rw [ec] at hc; simp at hc)⟩
  obtain ⟨oD, cdC, hC1, hC2, hCi⟩ : ∃ oD cdC, K.lookup C = some oD ∧ oD.data = .cls cdC ∧ PySem.W.clsIn K C = some cdC := by
    obtain ⟨_, _, _, _, _, _, _, _, _, _, _, _, _, _, _, hC, _⟩ := T.oex.cls
    exact ⟨_, _, hC, rfl, by unfold PySem.W.clsIn; rw [hC] <;> rfl⟩
  have henv : callEnv (PySem.W.fnX "__init__" qual params body (supScope fld) [("__class__", cc)] dV kV doc pm an (.ref cda) ct) s.heap.objs.size f = PySem.W.ksEnv qual (supScope fld) s.heap.objs.size f (.ref cda) cc := rfl
  rw [henv]
  generalize henv2 : PySem.W.ksEnv qual (supScope fld) s.heap.objs.size f (.ref cda) cc = env
  rw [hb0]
  refine PySem.ks_wpAt_execs_cons (PySem.ks_wpAt_Expr_any ?_ ?_ ?_)
  rotate_left
  · rw [← henv2]; rfl
  · rfl
  refine PySem.ks_wpAt_MethodCall (pl := pl env) ?_ (hmc env)
  rw [← henv2]
  have hself : (fun x => List.lookup x ([(("self" : Str), Value.ref a), (fld, u2)].reverse)) "self" = some (.ref a) := by
    show List.lookup ("self" : Str) [(fld, u2), (("self" : Str), Value.ref a)] = some (.ref a)
    have : (("self" : Str) == fld) = false := beq_eq_false_iff_ne.mpr fun z => hne z.symm
    simp only [List.lookup_cons, this]
    rfl
  refine sup_go (X := cxOf CX P w K mg base ["self", fld] qual (supScope0 fld) f (.ref cda) A outer s H E) T I s.heap.objs.size lk hcode hvs hfile hcell hp har hf1 hf2 hns hself ha (fun s' J => ?_)
  dsimp only
  obtain ⟨m', hns', hl'⟩ := J.loc
  obtain ⟨v1, rv1, lk1⟩ := hl' 0 "self" (.ref a) rfl rfl (.inl rfl)
  obtain rfl : v1 = Value.ref a := rv1
  have k2 : (envOfC qual (supScope0 fld) s.heap.objs.size f (.ref cda)).kindOf fld = some .local := by
    show List.lookup fld [(("self" : Str), NameKind.local), (fld, .local)] = some .local
    simp [List.lookup_cons, hne']
  obtain ⟨v2, rv2, lk2⟩ := hl' 1 fld v rfl rfl (.inl k2)
  have m1 : m' "self" = some (.ref a) := by
    rcases lk1 with ⟨_, z⟩ | ⟨z, _⟩
    · exact z
    · rcases z with z | z <;> cases z
  have m2 : m' fld = some v2 := by
    rcases lk2 with ⟨_, z⟩ | ⟨z, _⟩
    · exact z
    · rcases z with z | z <;> exact absurd (k2.symm.trans z) (fun y => by cases y)
  have e1 : (PySem.W.ksEnv qual (supScope fld) s.heap.objs.size f (.ref cda) cc).kindOf "self" = some .local := rfl
  have e2 : (PySem.W.ksEnv qual (supScope fld) s.heap.objs.size f (.ref cda) cc).kindOf fld = some .local := by
    show List.lookup fld [(("self" : Str), NameKind.local), (fld, .local), ("__class__", .free), ("super", .globalImplicit)] = some .local
    simp [List.lookup_cons, hne']
  refine PySem.ks_wpAt_execs_cons (PySem.wpAt_of_wpAny (plainObj_wpAny_Assign_Attribute ?_ (hsw _)))
  refine PySem.wpAny_Name (PySem.wpAny_loadName_local rfl e2 hns' m2 ?_) hdb
  refine PySem.wpAny_Name (PySem.wpAny_loadName_local rfl e1 hns' m1 ?_) (by decide)
  refine ost_new T.oex J ha T.noF rv2 (fun dx s'' hdx hdn J2 => ?_)
  refine PySem.wpAt_of_wpAny (wpAny_execs_nil ?_)
  exact ⟨.non, _, J2.os, J2.bare, J2.base, J2.hok, rfl, q dx hdx hdn⟩
end Pa
set_option maxRecDepth 100000
set_option maxHeartbeats 4000000
namespace Pa
open PySem PySem.Spec PyProof.Rows L2 SrtO
/-! ### data of any kind -/
def dKind : PyData → String
  | .none => "NoneType"
  | .bool _ => "bool"
  | .int _ => "int"
  | .str _ => "str"
  | .list _ => "list"
  | .tuple _ => "tuple"
  | .dict _ => "dict"
theorem dp_ty {K : PySem.W.Frag} {H : Hp} {v : V} {d : PyData} (h : Dp K H v d) : TyX K H v (.type (dKind d)) := by
  cases h with
  | non => exact .base .non
  | bl b => exact .base (.bl b)
  | int i => exact .base (.int i)
  | str x => exact .base (.str x)
  | lst hs _ =>
    rcases hs with (h | ⟨o, h⟩) | ⟨o, its, n, h1, h2, _⟩
    · exact .base (.lst h)
    · exact .base (.frz h)
    · exact .kList h1 h2
  | tup hs _ =>
    rcases hs with (h | ⟨o, h⟩) | ⟨o, its, n, h1, h2, _⟩
    · exact .base (.tup h)
    · exact .fTuple h
    · exact .kTuple h1 h2
/-- a kind that a value of Dp can have -/
def dNoD : PyData → Bool
  | .dict _ => false
  | _ => true
theorem dp_noD {K : PySem.W.Frag} {H : Hp} {v : V} {d : PyData} (h : Dp K H v d) : dNoD d = true := by cases h <;> rfl
def isB (s : String) (d : PyData) : Bool := match d with
  | .bool _ => s == "bool" || s == "int"
  | e => s == dKind e
theorem kit_d {K : PySem.W.Frag} {d : PyData} {s : String} (hs : s = "tuple" ∨ s = "str" ∨ s = "int" ∨ s = "bool") (hd : dNoD d = true) : PySem.W.kitOne K (.type (dKind d)) (.type s) = some (isB s d) := by
  rcases hs with rfl | rfl | rfl | rfl
  · cases d with
    | none => exact (kit_ty (a := "NoneType") (b := "tuple") (r := false) (by decide +kernel))
    | bool b => exact (kit_ty (a := "bool") (b := "tuple") (r := false) (by decide +kernel))
    | int i => exact (kit_ty (a := "int") (b := "tuple") (r := false) (by decide +kernel))
    | str x => exact (kit_ty (a := "str") (b := "tuple") (r := false) (by decide +kernel))
    | list l => exact (kit_ty (a := "list") (b := "tuple") (r := false) (by decide +kernel))
    | tuple l => exact (kit_ty (a := "tuple") (b := "tuple") (r := true) (by decide +kernel))
    | dict l => cases hd
  · cases d with
    | none => exact (kit_ty (a := "NoneType") (b := "str") (r := false) (by decide +kernel))
    | bool b => exact (kit_ty (a := "bool") (b := "str") (r := false) (by decide +kernel))
    | int i => exact (kit_ty (a := "int") (b := "str") (r := false) (by decide +kernel))
    | str x => exact (kit_ty (a := "str") (b := "str") (r := true) (by decide +kernel))
    | list l => exact (kit_ty (a := "list") (b := "str") (r := false) (by decide +kernel))
    | tuple l => exact (kit_ty (a := "tuple") (b := "str") (r := false) (by decide +kernel))
    | dict l => cases hd
  · cases d with
    | none => exact (kit_ty (a := "NoneType") (b := "int") (r := false) (by decide +kernel))
    | bool b => exact (kit_ty (a := "bool") (b := "int") (r := true) (by decide +kernel))
    | int i => exact (kit_ty (a := "int") (b := "int") (r := true) (by decide +kernel))
    | str x => exact (kit_ty (a := "str") (b := "int") (r := false) (by decide +kernel))
    | list l => exact (kit_ty (a := "list") (b := "int") (r := false) (by decide +kernel))
    | tuple l => exact (kit_ty (a := "tuple") (b := "int") (r := false) (by decide +kernel))
    | dict l => cases hd
  · cases d with
    | none => exact (kit_ty (a := "NoneType") (b := "bool") (r := false) (by decide +kernel))
    | bool b => exact (kit_ty (a := "bool") (b := "bool") (r := true) (by decide +kernel))
    | int i => exact (kit_ty (a := "int") (b := "bool") (r := false) (by decide +kernel))
    | str x => exact (kit_ty (a := "str") (b := "bool") (r := false) (by decide +kernel))
    | list l => exact (kit_ty (a := "list") (b := "bool") (r := false) (by decide +kernel))
    | tuple l => exact (kit_ty (a := "tuple") (b := "bool") (r := false) (by decide +kernel))
    | dict l => cases hd
def isInt : PyData → Bool
  | .int _ => true
  | _ => false
def isPart : PyData → Bool
  | .int _ => true
  | .str _ => true
  | _ => false
def zD (z : Z3) : PyData := .tuple [.str (wordN z.1), .int z.2.1, .int z.2.2]
def okD (L : Int) (d : PyData) : Prop := ∃ z, StdZ L z ∧ d = zD z
theorem e_tt (a b : List PyData) : PyData.eqv (.tuple a) (.tuple b) = PyData.eqvAll a b := by rw [PyData.eqv]
theorem e_cons (x y : PyData) (xs ys : List PyData) : PyData.eqvAll (x :: xs) (y :: ys) = (PyData.eqv x y && PyData.eqvAll xs ys) := by rw [PyData.eqvAll]
theorem e_nil : PyData.eqvAll [] [] = true := by rw [PyData.eqvAll]
theorem e_nc (y : PyData) (ys : List PyData) : PyData.eqvAll [] (y :: ys) = false := by rw [PyData.eqvAll]
theorem e_cn (x : PyData) (xs : List PyData) : PyData.eqvAll (x :: xs) [] = false := by rw [PyData.eqvAll]
theorem e_ss (x y : Str) : PyData.eqv (.str x) (.str y) = (x == y) := by rw [PyData.eqv]
theorem e_ii (x y : Int) : PyData.eqv (.int x) (.int y) = (x == y) := by rw [PyData.eqv]
theorem e_si (x : Str) (y : Int) : PyData.eqv (.str x) (.int y) = false := by rw [PyData.eqv]
theorem e_is (x : Int) (y : Str) : PyData.eqv (.int x) (.str y) = false := by rw [PyData.eqv]
theorem part_cases {d : PyData} (h : isPart d = true) : (∃ i, d = .int i) ∨ ∃ x, d = .str x := by
  cases d with
  | int i => exact .inl ⟨i, rfl⟩
  | str x => exact .inr ⟨x, rfl⟩
  | _ => cases h
theorem eqv_std {z : Z3} {ds : List PyData} (h : ds.all isPart = true) : PyData.eqv (zD z) (.tuple ds) = true ↔ PyData.tuple ds = zD z := by
  unfold zD
  rw [e_tt]
  match ds, h with
  | [], _ => rw [e_cn]; simp
  | [a], h => rw [e_cons, e_cn, Bool.and_false]; simp
  | [a, b], h => rw [e_cons, e_cons, e_cn, Bool.and_false, Bool.and_false]; simp
  | a :: b :: c :: e :: r, h => rw [e_cons, e_cons, e_cons, e_nc, Bool.and_false, Bool.and_false, Bool.and_false]; simp
  | [a, b, c], h =>
    simp only [List.all_cons, List.all_nil, Bool.and_true, Bool.and_eq_true] at h
    obtain ⟨h1, h2, h3⟩ := h
    rw [e_cons, e_cons, e_cons, e_nil, Bool.and_true]
    rcases part_cases h1 with ⟨x, rfl⟩ | ⟨x, rfl⟩
    · rw [show PyData.eqv (.str (wordN z.1)) (.int x) = false from e_si _ _, Bool.false_and]
      simp
    · rcases part_cases h2 with ⟨y, rfl⟩ | ⟨y, rfl⟩
      · rcases part_cases h3 with ⟨u, rfl⟩ | ⟨u, rfl⟩
        · rw [e_ss, e_ii, e_ii]
          simp only [Bool.and_eq_true, beq_iff_eq, PyData.tuple.injEq, List.cons.injEq, and_true, PyData.str.injEq, PyData.int.injEq]
          exact ⟨fun ⟨p, q, r⟩ => ⟨p.symm, q.symm, r.symm⟩, fun ⟨p, q, r⟩ => ⟨p.symm, q.symm, r.symm⟩⟩
        · rw [show PyData.eqv (.int z.2.2) (.str u) = false from e_is _ _, Bool.and_false, Bool.and_false]
          simp
      · rw [show PyData.eqv (.int z.2.1) (.str y) = false from e_is _ _, Bool.false_and, Bool.and_false]
        simp
section
variable {P : Program} {w : World} {K : PySem.W.Frag} {mg : Str → Option Value} {base : Heap} {tp C : Addr}
/-! ### is_integer -/
def spIsInt (K : PySem.W.Frag) : Sp := fun vs H Q _ => ∃ v d, vs = [v] ∧ Dp K H v d ∧ Q (.bl (isInt d)) H
abbrev sis_integer : Stmt := topS 1
theorem scis_integer : FnScope ["value"] ["value"] (defScope sis_integer) := ⟨rfl, rfl, rfl, by decide +kernel, rfl, by decide +kernel, by decide +kernel⟩
theorem ok_is_integer {f : Addr} {fd : FuncData} (F : Fun K "is_integer" "is_integer" sis_integer f fd) (T : Txt K mg tp C) : FnOk P w K mg base CX0 1 f fd ["value"] (spIsInt K) := by
  refine F.ok scis_integer (fun vs H Q E h => ?_) (fun cdv A outer s H vs Q E hr h => ?_)
  · obtain ⟨v, d, rfl, _⟩ := h
    rfl
  · obtain ⟨v, d, rfl, hd, k⟩ := h
    refine ⟨_, (pss_one (ps_ret (pe_and (pe_callB call_isi (by rfl) T.b_isinstance (by decide +kernel) (pa_cons (pv 0) (pa_cons (pe_bltn (v := .ty "int") (by rfl) T.b_int (by decide +kernel) rfl) pa_nil))) (pe_one (pe_not (pe_callB call_isi (by rfl) T.b_isinstance (by decide +kernel) (pa_cons (pv 0) (pa_cons (pe_bltn (v := .ty "bool") (by rfl) T.b_bool (by decide +kernel) rfl) pa_nil)))))))), ?_⟩
    have hn := dp_noD hd
    refine ⟨_, rfl, _, _, _, _, _, rfl, .ty _, dp_ty hd, kit_d (.inr (.inr (.inl rfl))) hn, _, rfl, ?_⟩
    cases hi : isB "int" d with
    | true =>
      refine iteT ⟨_, rfl, _, _, _, _, _, rfl, .ty _, dp_ty hd, kit_d (.inr (.inr (.inr rfl))) hn, _, rfl, ?_⟩
      have e : (!isB "bool" d) = isInt d := by cases d <;> first | rfl | (simp [isB, dKind] at hi)
      rw [e]
      exact k
    | false =>
      refine iteF ?_
      have e : isInt d = false := by cases d <;> first | rfl | (simp [isB, dKind] at hi)
      rw [e] at k
      exact k
end
end Pa
set_option maxRecDepth 100000
set_option maxHeartbeats 4000000
namespace Pa
open PySem PySem.Spec PyProof.Rows L2 SrtO
/-- an own error with one field, made by its own __init__ -/
structure ErrOk (P : Program) (w : World) (K : PySem.W.Frag) (mg : Str → Option Value) (base : Heap) (x fld : Str) (C : Addr) : Prop where
  oex : OexC K C
  gC : mg x = some (.ref C)
  ok : ∃ (fI : Addr) (fd : FuncData), PySem.W.findIn K (.ref C) "__init__" = some (some (.ref fI)) ∧ PySem.W.typeIn K (.ref fI) = some (.type "function") ∧ Binds K fd ["self", fld] [] ∧ FnOk P w K mg base CX0 1 fI fd ["self", fld] (spSup C fld)
theorem pmk_err {X : Cx} {x fld : Str} {C : Addr} {e : Expr} {ta : TA} {p pos : Pos} (T : ErrOk X.prog X.w X.K X.mg X.base x fld C) (hr : Room 2 X.A) (hg : Gl X x) (ha : PA X [e] ta)
    (hdb : (x == ("__debug__" : Str)) = false := by decide) (he : starEach [e] X.env = (false, eval e X.env) :: starEach [] X.env := by rfl) (hpl : (backTo pos (starEach [] X.env)).any (·.1) = false := by rfl) :
    PMk X (.Call (.Name x p) [e] [] pos) (tMkO C (spSup C fld) [] ta) := by
  obtain ⟨fI, fd, h1, h2, h3, h4⟩ := T.ok
  exact pmk_oex T.oex h1 h2 h4 hr h3 .nil pass0 hg T.gC ha hdb he hpl
/-- what a raised one leaves -/
theorem err_end {C a dx : Addr} {fld : Str} {v : V} {H : Hp} (ha : H a = none) (hne : dx ≠ a) : upd (del (upd (upd (upd H a (exo a C none)) dx (exd dx [(fld, v)])) a (exo a C (some dx))) a) dx (.xd [(fld, v)]) = upd H dx (.xd [(fld, v)]) := by
  funext b
  by_cases h1 : b = dx
  · subst h1
    rw [upd_same, upd_same]
  · rw [upd_ne h1, upd_ne h1]
    by_cases h2 : b = a
    · subst h2
      rw [del_same, ha]
    · rw [del_ne h2, upd_ne h2, upd_ne h1, upd_ne h2]
/-- the reading of raise X(v) -/
theorem err_read {C : Addr} {fld : Str} {v : V} {ta : TA} {σ : L2.St} {H : Hp} {Q : XK} (h : ∀ R : List V → Hp → Prop, R [v] H → ta σ H R) (q : ∀ dx, H dx = none → Q (.ref C) (some dx) (upd H dx (.xd [(fld, v)]))) : tMkO C (spSup C fld) [] ta σ H Q := by
  unfold tMkO
  refine h _ ⟨(by show 1 ≤ 1000; decide), fun a ha => ⟨a, v, rfl, upd_same, fun dx hdx hne => ⟨rfl, dx, [(fld, v)], upd_same, ?_, ?_, ?_⟩⟩⟩
  · rw [upd_ne hne, upd_same]
  · rw [upd_ne hne] at hdx
    exact hdx
  · rw [err_end ha hne]
    rw [upd_ne hne] at hdx
    exact q dx hdx
theorem dpAll_at {K : PySem.W.Frag} {H : Hp} : ∀ {xs : List V} {ds : List PyData} {i : Nat} {x : V}, DpAll K H xs ds → xs[i]? = some x → ∃ d, ds[i]? = some d ∧ Dp K H x d
  | x :: xs, d :: ds, 0, y, h, e => by
    cases h with
    | cons h1 h2 =>
      have : x = y := by simpa using e
      subst this
      exact ⟨d, rfl, h1⟩
  | x :: xs, d :: ds, i + 1, y, h, e => by
    cases h with
    | cons h1 h2 => exact dpAll_at (i := i) h2 (by simpa using e)
  | [], _, _, _, _, e => by simp at e
  | _ :: _, [], _, _, h, _ => by cases h
theorem dpAll_len {K : PySem.W.Frag} {H : Hp} : ∀ {xs : List V} {ds : List PyData}, DpAll K H xs ds → xs.length = ds.length
  | [], [], _ => rfl
  | _ :: _, _ :: _, h => by
    cases h with
    | cons h1 h2 => simp [dpAll_len h2]
  | [], _ :: _, h => by cases h
  | _ :: _, [], h => by cases h
theorem seqL_same {K : PySem.W.Frag} {H H' : Hp} {p : Addr} {xs : List V} (s : Same H H') (h : SqL K H p xs) : SqL K H' p xs := s.seq h
mutual
theorem dp_same {K : PySem.W.Frag} {H H' : Hp} (s : Same H H') : ∀ (d : PyData) (v : V), Dp K H v d → Dp K H' v d
  | .none, _, h => by cases h; exact .non
  | .bool b, _, h => by cases h; exact .bl b
  | .int i, _, h => by cases h; exact .int i
  | .str x, _, h => by cases h; exact .str x
  | .list ds, _, h => by
    cases h with
    | lst h1 h2 => exact .lst (s.seq h1) (dpAll_same s ds _ h2)
  | .tuple ds, _, h => by
    cases h with
    | tup h1 h2 => exact .tup (seqT_same s h1) (dpAll_same s ds _ h2)
  | .dict _, _, h => by cases h
theorem dpAll_same {K : PySem.W.Frag} {H H' : Hp} (s : Same H H') : ∀ (ds : List PyData) (vs : List V), DpAll K H vs ds → DpAll K H' vs ds
  | [], _, h => by cases h; exact .nil
  | d :: ds, _, h => by
    cases h with
    | cons h1 h2 => exact .cons (dp_same s d _ h1) (dpAll_same s ds _ h2)
end
theorem stdDp {K : PySem.W.Frag} {H : Hp} : ∀ {xs : List V} {ks : List Z3}, AllAt (StdAt K) H xs ks → DpAll K H xs (ks.map zD)
  | [], [], _ => .nil
  | _ :: _, _ :: _, ⟨⟨_, t, e, h⟩, h2⟩ => by
    subst e
    exact .cons (.tup h (.cons (.str _) (.cons (.int _) (.cons (.int _) .nil)))) (stdDp h2)
  | [], _ :: _, h => h.elim
  | _ :: _, [], h => h.elim
theorem strOk_word (n : Int) : PyData.strOk (wordN n) = true := by
  unfold wordN
  split
  · decide +kernel
  · split <;> decide +kernel
theorem shZ (ks : List Z3) : SeqAt.shaped (.list (ks.map zD)) = true := shaped_map (fun x => ⟨by simp [zD, PyData.canLay0, PyData.canLayAll0, strOk_word], by simp [zD, PyData.depth, PyData.depthAll]⟩) ks
theorem ok_any {L : Int} (hL : 1 ≤ L) {ks : List Z3} {ds : List PyData} (hp : ks.Perm (progZ L)) (h : ds.all isPart = true) : ((ks.map zD).any fun z => PyData.eqv z (.tuple ds)) = true ↔ okD L (.tuple ds) := by
  rw [List.any_map, List.any_eq_true]
  constructor
  · rintro ⟨z, hz, e⟩
    exact ⟨z, (mem_prog hL).mp (hp.mem_iff.mp hz), (eqv_std h).mp e⟩
  · rintro ⟨z, hz, e⟩
    exact ⟨z, hp.mem_iff.mpr ((mem_prog hL).mpr hz), (eqv_std h).mpr e⟩
theorem ok_parts {L : Int} {d : PyData} (h : okD L d) : ∃ ds, d = .tuple ds ∧ ds.all isPart = true := by
  obtain ⟨z, _, e⟩ := h
  exact ⟨_, e, rfl⟩
theorem isPart_eq (d : PyData) : (isB "str" d || isInt d) = isPart d := by cases d <;> rfl
section
variable {P : Program} {w : World} {K : PySem.W.Frag} {mg : Str → Option Value} {base : Heap} {tp C CS : Addr}
/-! ### checked_standing -/
def spChecked (K : PySem.W.Frag) (CS : Addr) : Sp := fun vs H Q E => ∃ (L : Int) (v : V) (d : PyData), vs = [.int L, v] ∧ 2 ≤ L ∧ L ≤ 9 ∧ Dp K H v d ∧ SeqAt.shaped d = true ∧ (∀ ds, d = .tuple ds → ds.length ≤ 100) ∧
  (okD L d → ∀ H', Same H H' → Q v H') ∧ (¬ okD L d → ∀ H' dx, Same H H' → H dx = none → H' dx = some (.xd [("standing", v)]) → E (.ref CS) (some dx) H')
abbrev schecked_standing : Stmt := topS 8
theorem scchecked_standing : FnScope ["length", "standing", "part"] ["length", "standing"] (defScope schecked_standing) := ⟨rfl, rfl, rfl, by decide +kernel, rfl, by decide +kernel, by decide +kernel⟩
theorem ok_checked {f : Addr} {fd : FuncData} (F : Fun K "checked_standing" "checked_standing" schecked_standing f fd) (T : Txt K mg tp C) (T2 : Txt2 K mg) (TE : ErrOk P w K mg base "BadStanding" "standing" CS)
    (C_is_integer : CallOk P w K mg base 1 "is_integer" ["value"] (spIsInt K)) (C_standings : CallOk P w K mg base 1 "standings" ["length"] (spStandings K)) : FnOk P w K mg base (L2.CX P w) 3 f fd ["length", "standing"] (spChecked K CS) := by
  refine F.okX scchecked_standing (fun vs H Q E h => ?_) (fun cdv A outer s H vs Q E hr h => ?_)
  · obtain ⟨L, v, d, rfl, _⟩ := h
    rfl
  · obtain ⟨L, v, d, rfl, hL2, hL9, hd, hsd, hlen, k1, k2⟩ := h
    have h65 : (A.deeper (envOfC "checked_standing" (defScope schecked_standing) s.heap.objs.size f cdv)).units + 65 < cLine := by have := hr.un; omega
    refine ⟨_, (pss_cons (ps_if (PW.pt (pw_or (pt_not (pt_val (pe_callB call_isi (by rfl) T.b_isinstance (by decide +kernel) (pa_cons (pv 1) (pa_cons (pe_bltn (v := .ty "tuple") (by rfl) T.b_tuple (by decide +kernel) rfl) pa_nil))))) (pw_or1 (pt_not (pt_val (pe_callB (cr_all rfl) (by rfl) T.b_all (by decide +kernel) (pa_cons (pe_lc (own := [("part", 2)]) (g := gName 2) (tt := tYes) rfl scchecked_standing.nd (pi_tup (pv 1)) (blkOk_by (N := ["length", "standing", "part"]) (sc := defScope schecked_standing) (by decide +kernel)) (fun _ _ _ _ _ => (pg_name (i := 2) scchecked_standing.nd rfl (.inl rfl))) (fun _ _ _ _ _ => pts_nil) (fun _ _ _ _ _ => (pe_or (pe_callB (r := rIsi K) (id := "isinstance") call_isi (by rfl) T.b_isinstance (by decide +kernel) (pa_cons (pv 2) (pa_cons (pe_bltn (v := .ty "str") (by rfl) T2.b_str (by decide +kernel) rfl) pa_nil))) (pe_one (pe_cc C_is_integer (hr.mono (by decide)) (by rfl) (pa_cons (pv 2) pa_nil)))))) pa_nil)))))))
        (pss_one (ps_raise rfl (takes_of rfl rfl rfl rfl) (pmk_err TE (hr.mono (by decide)) (by rfl) (pa_cons (pv 1) pa_nil))))
        pss_nil)
      (pss_cons (ps_if (pt_cmpR (op_notInD h65) (pv 1) (pe_cc C_standings (hr.mono (by decide)) (by rfl) (pa_cons (pv 0) pa_nil)) (by rfl))
        (pss_one (ps_raise rfl (takes_of rfl rfl rfl rfl) (pmk_err TE (hr.mono (by decide)) (by rfl) (pa_cons (pv 1) pa_nil))))
        pss_nil)
      (pss_one (ps_ret (pv 1))))), ?_⟩
    have hn := dp_noD hd
    have rz : ∀ H1, Same H H1 → ¬ okD L d → ∀ dx, H1 dx = none → E (.ref CS) (some dx) (upd H1 dx (.xd [("standing", v)])) := fun H1 s1 hno dx hdx => k2 hno _ dx (s1.trans (same_new hdx)) (s1.free hdx) upd_same
    refine ⟨_, rfl, _, _, _, _, _, rfl, .ty _, dp_ty hd, kit_d (.inl rfl) hn, _, rfl, ?_⟩
    cases ht : isB "tuple" d with
    | false =>
      have hno : ¬ okD L d := fun h => by
        obtain ⟨ds, e, _⟩ := ok_parts h
        rw [e] at ht
        cases ht
      refine iteT (iteT ?_)
      exact err_read (fun R r => ⟨_, rfl, r⟩) (rz H (Same.refl H) hno)
    | true =>
      refine iteF ?_
      obtain ⟨a, xs, ds, rfl, rfl, hxs, hds⟩ : ∃ a xs ds, v = V.ref a ∧ d = .tuple ds ∧ SqT K H a xs ∧ DpAll K H xs ds := by
        cases hd with
        | tup h1 h2 => exact ⟨_, _, _, rfl, rfl, h1, h2⟩
        | _ => cases ht
      have hl := hlen ds rfl
      refine ⟨_, rfl, a, rfl, ⟨_, hxs⟩, fun D hD => ?_⟩
      refine lc_tup (K := K) (a := a) (xs := xs) (fun i H3 => Same H H3 ∧ H3 D = some (.lst (((ds.map isPart).take i).map V.bl))) ⟨same_new hD, upd_same⟩ (fun i H3 _ q => seqT_same q.1 hxs) ?_ ?_
      · rintro i x H3 hi ⟨s3, h3⟩
        obtain ⟨e, he, hde⟩ := dpAll_at hds hi
        have hde3 := dp_same s3 e x hde
        have hil : i < ds.length := (List.getElem?_eq_some_iff.mp he).1
        refine ⟨rfl, ?_⟩
        have fin : ∀ b, b = isPart e → ∃ acc, H3 D = some (.lst acc) ∧ acc.length < sizeLine ∧ (Same H (upd H3 D (.lst (acc ++ [V.bl b]))) ∧ (upd H3 D (.lst (acc ++ [V.bl b]))) D = some (.lst (((ds.map isPart).take (i + 1)).map V.bl))) := fun b hb => by
          refine ⟨_, h3, ?_, fun q o e => ?_, ?_⟩
          · rw [List.length_map, List.length_take, List.length_map]
            exact Nat.lt_of_le_of_lt (m := 100) (by omega) (by decide)
          · rw [upd_ne (fun r => by rw [r, hD] at e; cases e)]
            exact s3 _ _ e
          · rw [upd_same, List.take_add_one, List.getElem?_map, he, hb, List.map_append]
            rfl
        refine ⟨_, rfl, _, _, _, _, _, rfl, .ty _, dp_ty hde3, kit_d (.inr (.inl rfl)) (dp_noD hde3), _, rfl, ?_⟩
        cases hs : isB "str" e with
        | true => exact iteT (fin true (by rw [← isPart_eq, hs]; rfl))
        | false => exact iteF ⟨_, rfl, _, _, rfl, hde3, fin (isInt e) (by rw [← isPart_eq, hs]; rfl)⟩
      · rintro H3 ⟨s3, h3⟩
        have hx : xs.length = ds.length := dpAll_len hds
        rw [hx, List.take_of_length_le (by rw [List.length_map]; exact Nat.le_refl _)] at h3
        refine ⟨D, _, rfl, SqL.of h3, _, rfl, ?_⟩
        cases hp : (ds.map isPart).all id with
        | false =>
          have hno : ¬ okD L (.tuple ds) := fun h => by
            obtain ⟨ds', e, hp'⟩ := ok_parts h
            cases e
            rw [List.all_map] at hp
            rw [show ds.all isPart = ds.all (id ∘ isPart) from rfl] at hp'
            rw [hp] at hp'
            cases hp'
          refine iteT ?_
          exact err_read (fun R r => ⟨_, rfl, r⟩) (rz H3 s3 hno)
        | true =>
          have hp2 : ds.all isPart = true := by rw [List.all_map] at hp; exact hp
          refine iteF ?_
          refine ⟨_, rfl, _, rfl, L, rfl, hL2, hL9, fun p H4 ys ks hp4 s4 hys hall hsrt hperm => ?_⟩
          have s5 := s3.trans s4
          refine ⟨.tuple ds, ks.map zD, dp_same s5 _ _ hd, .lst (SqL.of hys) (stdDp hall), hsd, shZ ks, ?_⟩
          have ha := ok_any (L := L) (by omega) hperm hp2
          cases hb : ((ks.map zD).any fun z => PyData.eqv z (.tuple ds)) with
          | true =>
            refine ⟨_, rfl, iteF ⟨_, rfl, k1 (ha.mp hb) _ s5⟩⟩
          | false =>
            have hno : ¬ okD L (.tuple ds) := fun h => by
              rw [ha.mpr h] at hb
              cases hb
            refine ⟨_, rfl, iteT ?_⟩
            exact err_read (fun R r => ⟨_, rfl, r⟩) (rz H4 s5 hno)
end
end Pa
set_option maxRecDepth 100000
set_option maxHeartbeats 4000000
namespace Pa
open PySem PySem.Spec PyProof.Rows L2 SrtO
/-- the module's name x holds a def that may raise -/
structure CallOkX (P : Program) (w : World) (K : PySem.W.Frag) (mg : Str → Option Value) (base : Heap) (k : Nat) (x : Str) (ps : List Str) (sp : Sp) : Prop where
  ok : ∃ (f : Addr) (fd : FuncData), mg x = some (.ref f) ∧ PySem.W.keepIn K (.ref f) = true ∧ Binds K fd ps [] ∧ FnOk P w K mg base (L2.CX P w) k f fd ps sp
theorem pe_ccx {X : Cx} {W : WX} {k : Nat} {ps : List Str} {sp : Sp} {x : Str} {p pos : Pos} {e : Expr} {es : List Expr} {t : TA} (C : CallOkX X.prog X.w X.K X.mg X.base k x ps sp) (hr : Room k X.A) (hg : Gl X x) (tk : Takes X W) (ha : PA X (e :: es) t)
    (hdb : (x == ("__debug__" : Str)) = false := by decide) (he : starEach (e :: es) X.env = (false, eval e X.env) :: starEach es X.env := by rfl) (hpl : (backTo pos (starEach es X.env)).any (·.1) = false := by rfl) :
    PE X (.Call (.Name x p) (e :: es) [] pos) (tCallS sp (fun σ => WE W σ) t) := by
  obtain ⟨f, fd, h1, h2, h3, h4⟩ := C.ok
  exact pe_callS h4 hr hg h1 h2 h3 (fun σ => passAt tk σ) ha hdb he hpl
def zKd (z : Z3) : Bool := decide (z.1 = 0)
/-- the standing behind a block that is set from one -/
def zDue (z : Z3) (g : Bool) : Bool × Int × Int := if g = true then (false, 0, 0) else (zKd z, z.2.1, z.2.2)
def zAft (L : Int) (y : Bool × Int × Int) (b : Bl) : Bool × Int × Int := if b.c = 0 then y else endK L (runHT L b.c b.s y.1 (y.2.1, y.2.2) b.c).1 (runHT L b.c b.s y.1 (y.2.1, y.2.2) b.c).2 b.k
theorem std_word {L : Int} {z : Z3} (h : StdZ L z) : wordN z.1 = wordOf (zKd z) z.2.1 := by
  unfold StdZ at h
  unfold wordN wordOf zKd
  rcases h with ⟨h, _⟩ | ⟨h, h1, _⟩ | h
  · rw [h]; rfl
  · rw [h, if_neg (by decide), if_pos rfl, if_neg (by decide), if_neg (by omega)]
  · rw [h]; rfl
theorem wdec (z : Z3) : decide (V.str (wordN z.1) = V.str "kept") = zKd z := by
  unfold wordN zKd
  by_cases h0 : z.1 = 0
  · rw [if_pos h0, decide_eq_true h0]
    decide +kernel
  · rw [if_neg h0, decide_eq_false h0]
    split <;> decide +kernel
theorem std_at {K : PySem.W.Frag} {H : Hp} {L : Int} {z : Z3} {v : V} (h : StdZ L z) (hd : Dp K H v (zD z)) : ∃ a, v = V.ref a ∧ StAt K H a (zKd z) z.2.1 z.2.2 := by
  unfold zD at hd
  cases hd with
  | tup h1 h2 =>
    cases h2 with
    | cons a1 h2 =>
      cases h2 with
      | cons a2 h2 =>
        cases h2 with
        | cons a3 h2 =>
          cases h2
          cases a1
          cases a2
          cases a3
          exact ⟨_, rfl, _, h1, wdec z, std_word h⟩
theorem runHT_h {L : Int} {s : Int} (h0 : 0 ≤ s) (c : Nat) (kd : Bool) (x : Int × Int) (hx : 0 ≤ x.2) : ∀ n, 0 ≤ (runHT L c s kd x n).2 ∧ (n ≠ 0 → 1 ≤ (runHT L c s kd x n).1)
  | 0 => ⟨hx, fun h => absurd rfl h⟩
  | n + 1 => by
    obtain ⟨h1, _⟩ := runHT_h (L := L) h0 c kd x hx n
    have hs : 0 ≤ (if n = 0 then s else 0) := by split <;> omega
    unfold runHT stepHT
    dsimp only
    generalize (if n = 0 then s else 0) = s' at hs ⊢
    generalize (if n = 0 then kd else decide ((n : Int) = 1 ∨ (n : Int) = (c : Int) - 1)) = b
    generalize runHT L c s kd x n = y at h1 ⊢
    refine ⟨?_, fun _ => ?_⟩
    · unfold nextLine lng
      repeat' split
      all_goals (try (dsimp only at *))
      all_goals (try omega)
    · unfold nextLine lng
      repeat' split
      all_goals (try (dsimp only at *))
      all_goals (try omega)
theorem StAt.same {K : PySem.W.Frag} {H H' : Hp} {p : Addr} {kd : Bool} {h t : Int} (s : Same H H') (x : StAt K H p kd h t) : StAt K H' p kd h t := by
  obtain ⟨w, s1, s2⟩ := x
  exact ⟨w, seqT_same s s1, s2⟩
/-! ### the standing that blocks leave, as a triple -/
def zY (z : Z3) : Bool × Int × Int := (zKd z, z.2.1, z.2.2)
def yOf (q : SB) : Bool × Int × Int := (q.kd, q.h, q.t)
theorem y_end (L : Int) (p : PS') (k : Bool) : yOf (endP L p k) = endK L p.h p.t k := by
  unfold yOf endP endK
  by_cases h : p.h = L ∧ (k = false ∨ p.t = 0)
  · rw [if_pos h, if_pos h]
  · rw [if_neg h, if_neg h]
    by_cases h2 : k = true
    · rw [if_pos h2, if_pos h2]
    · rw [if_neg h2, if_neg h2]
theorem y_block (L : Int) (q : SB) (b : Bl) : yOf (blockP L q b) = zAft L (if b.g = true then (false, 0, 0) else yOf q) b := by
  have hd : yOf (due0 q b.g) = if b.g = true then (false, 0, 0) else yOf q := by
    unfold due0 yOf
    cases b.g <;> rfl
  rw [← hd]
  unfold blockP zAft
  dsimp only
  generalize due0 q b.g = q0
  by_cases hc : b.c = 0
  · rw [if_pos hc, if_pos hc]
  · rw [if_neg hc, if_neg hc, y_end]
    have e := runP_ht L b.c b.s q0.kd ⟨q0.h, q0.t, q0.lo, q0.rows⟩ b.c
    have e1 := congrArg Prod.fst e
    have e2 := congrArg Prod.snd e
    dsimp only at e1 e2
    rw [e1, e2]
    rfl
theorem due_y (z : Z3) (g : Bool) : zDue z g = if g = true then (false, 0, 0) else zY z := rfl
theorem y_next {L : Int} {bs : List Bl} {z : Z3} (h : yOf (pageOf L bs) = zY z) (b : Bl) : yOf (pageOf L (bs ++ [b])) = zAft L (zDue z b.g) b := by
  rw [pageOf_snoc, y_block, h, due_y]
/-- height and tail -/
def HTok (L : Int) (x : Int × Int) : Prop := 0 ≤ x.2 ∧ x.1 ≤ L ∧ (x.2 < x.1 ∨ (x.1 = 0 ∧ x.2 = 0))
theorem step_ok {L : Int} (hL : 1 ≤ L) {x : Int × Int} {s : Int} {b : Bool} (hs : 0 ≤ s) (h : HTok L x) : HTok L (stepHT L x s b) ∧ 1 ≤ (stepHT L x s b).1 := by
  obtain ⟨a, t⟩ := x
  unfold HTok at h
  dsimp only at h
  unfold stepHT nextLine lng HTok
  dsimp only
  repeat' split
  all_goals (dsimp only at *)
  all_goals omega
theorem run_ok' {L : Int} (hL : 1 ≤ L) {c : Nat} {s : Int} (hs : 0 ≤ s) (kd : Bool) {x : Int × Int} (h : HTok L x) : ∀ n, HTok L (runHT L c s kd x n) ∧ (n ≠ 0 → 1 ≤ (runHT L c s kd x n).1)
  | 0 => ⟨h, fun q => absurd rfl q⟩
  | n + 1 => by
    have k := step_ok (s := if n = 0 then s else 0) (b := if n = 0 then kd else decide ((n : Int) = 1 ∨ (n : Int) = (c : Int) - 1)) hL (by split <;> omega) (run_ok' hL (c := c) hs kd h n).1
    exact ⟨k.1, fun _ => k.2⟩
theorem std_ht {L : Int} {z : Z3} (hL : 1 ≤ L) (h : StdZ L z) : HTok L (z.2.1, z.2.2) := by
  unfold StdZ at h
  unfold HTok
  dsimp only
  rcases h with h | h | h
  · omega
  · omega
  · rw [h]
    dsimp only
    omega
theorem std_end {L : Int} {h t : Int} (k : Bool) (x : HTok L (h, t)) (h1 : 1 ≤ h) : ∃ z, StdZ L z ∧ endK L h t k = zY z := by
  unfold HTok at x
  dsimp only at x
  unfold endK
  by_cases h0 : h = L ∧ (k = false ∨ t = 0)
  · rw [if_pos h0]
    exact ⟨(2, 0, 0), .inr (.inr rfl), rfl⟩
  · rw [if_neg h0]
    cases k with
    | true =>
      rw [if_pos rfl]
      refine ⟨(0, h, t), .inl ⟨rfl, h1, by dsimp only; omega, by dsimp only; omega, by dsimp only; omega, ?_⟩, rfl⟩
      dsimp only
      simp only [Bool.true_eq_false, false_or] at h0
      omega
    | false =>
      rw [if_neg (by decide)]
      refine ⟨(1, h, 0), .inr (.inl ⟨rfl, h1, ?_, rfl⟩), rfl⟩
      dsimp only
      simp only [true_or, and_true] at h0
      omega
theorem std_aft {L : Int} (hL : 1 ≤ L) {z : Z3} (hz : StdZ L z) {b : Bl} (hs : 0 ≤ b.s) : ∃ z', StdZ L z' ∧ zAft L (zDue z b.g) b = zY z' := by
  have hd : ∃ z0, StdZ L z0 ∧ zDue z b.g = zY z0 := by
    rw [due_y]
    cases b.g with
    | true => exact ⟨(2, 0, 0), .inr (.inr rfl), rfl⟩
    | false => exact ⟨z, hz, rfl⟩
  obtain ⟨z0, h0, e0⟩ := hd
  rw [e0]
  unfold zAft
  by_cases hc : b.c = 0
  · rw [if_pos hc]
    exact ⟨z0, h0, rfl⟩
  · rw [if_neg hc]
    obtain ⟨k1, k2⟩ := run_ok' hL (c := b.c) hs (zY z0).1 (std_ht hL h0) b.c
    exact std_end b.k k1 (k2 hc)
/-! ### standings in the heap -/
theorem shZ1 (z : Z3) : SeqAt.shaped (zD z) = true := by
  simp [SeqAt.shaped, zD, PyData.canLay0, PyData.canLayAll0, PyData.depth, PyData.depthAll, strOk_word]
theorem dp_z {K : PySem.W.Frag} {H : Hp} {p : Addr} {z : Z3} (h : SqT K H p [.str (wordN z.1), .int z.2.1, .int z.2.2]) : Dp K H (.ref p) (zD z) := .tup h (.cons (.str _) (.cons (.int _) (.cons (.int _) .nil)))
theorem seq_of_std {K : PySem.W.Frag} {H : Hp} {L : Int} {p : Addr} {z : Z3} {y : Bool × Int × Int} (hz : StdZ L z) (e : y = zY z) (h : StAt K H p y.1 y.2.1 y.2.2) : SqT K H p [.str (wordN z.1), .int z.2.1, .int z.2.2] := by
  subst e
  obtain ⟨w, h1, _, h3⟩ := h
  rw [std_word hz]
  rw [h3] at h1
  exact h1
end Pa
set_option maxRecDepth 100000
set_option maxHeartbeats 4000000
namespace Pa
open PySem PySem.Spec PyProof.Rows L2 SrtO
/-! ### the law's list of standings -/
def rowZ (L : Int) (i : Nat) (n : Nat) : List Z3 := ((List.range n).filter fun (j : Nat) => decide (1 + (i : Int) < L ∨ 0 < j)).map fun (j : Nat) => ((0, 1 + (i : Int), (j : Int)) : Z3)
def keptZ (L : Int) (n : Nat) : List Z3 := ((List.range n).map fun (i : Nat) => rowZ L i (i + 1)).flatten
def lawZ (L : Int) : List Z3 := keptZ L L.toNat ++ openZ L ++ [(2, 0, 0)]
theorem lex3_anti {x y : Z3} (h1 : lex3 y x = false) (h2 : lex3 x y = false) : x = y := by
  have a := lex3_no.mp h1
  have b := lex3_no.mp h2
  obtain ⟨x1, x2, x3⟩ := x
  obtain ⟨y1, y2, y3⟩ := y
  dsimp only at a b
  have e1 : x1 = y1 := by omega
  have e2 : x2 = y2 := by omega
  have e3 : x3 = y3 := by omega
  rw [e1, e2, e3]
theorem uniq3 : ∀ {l m : List Z3}, Srtd lex3 l → Srtd lex3 m → l.Perm m → l = m
  | [], m, _, _, h => (List.Perm.eq_nil h.symm).symm
  | x :: l, [], _, _, h => absurd h.length_eq (by simp)
  | x :: l, y :: m, hl, hm, h => by
    have e : x = y := by
      have hx : x ∈ y :: m := h.mem_iff.mp List.mem_cons_self
      have hy : y ∈ x :: l := h.mem_iff.mpr List.mem_cons_self
      rcases List.mem_cons.mp hx with e | hx
      · exact e
      · rcases List.mem_cons.mp hy with e | hy
        · exact e.symm
        · exact lex3_anti ((List.pairwise_cons.mp hl).1 y hy) ((List.pairwise_cons.mp hm).1 x hx)
    subst e
    rw [uniq3 (List.pairwise_cons.mp hl).2 (List.pairwise_cons.mp hm).2 h.cons_inv]
theorem law_perm {L : Int} (h2 : 2 ≤ L) (h9 : L ≤ 9) : (progZ L).Perm (lawZ L) ∧ Srtd lex3 (lawZ L) := by
  have h : L = 2 ∨ L = 3 ∨ L = 4 ∨ L = 5 ∨ L = 6 ∨ L = 7 ∨ L = 8 ∨ L = 9 := by omega
  rcases h with rfl | rfl | rfl | rfl | rfl | rfl | rfl | rfl <;> exact ⟨by decide +kernel, by decide +kernel⟩
theorem prog_law {L : Int} (h2 : 2 ≤ L) (h9 : L ≤ 9) {ks : List Z3} (hp : ks.Perm (progZ L)) (hs : Srtd lex3 ks) : ks = lawZ L :=
  uniq3 hs (law_perm h2 h9).2 (hp.trans (law_perm h2 h9).1)
theorem law_word {L : Int} (h2 : 2 ≤ L) (h9 : L ≤ 9) {z : Z3} (h : z ∈ lawZ L) : StdZ L z := (mem_prog (by omega)).mp ((law_perm h2 h9).1.mem_iff.mpr h)
end Pa
set_option maxRecDepth 100000
set_option maxHeartbeats 4000000
namespace Pa
open PySem PySem.Spec PyProof.Rows L2 SrtO
section
variable {P : Program} {w : World} {K : PySem.W.Frag} {mg : Str → Option Value} {base : Heap} {tp C CS : Addr}
/-! ### _law_standings -/
def spLawZ : Sp := fun vs H Q _ => ∃ L : Int, vs = [.int L] ∧ 2 ≤ L ∧ L ≤ 9 ∧ ∀ p H' ys, H p = none → Same H H' → H' p = some (.lst ys) → AllAt ZAt H' ys (lawZ L) → Q (.ref p) H'
abbrev sL_standings : Stmt := topS 23
theorem scL_standings : FnScope ["_law_length_here", "_law_found", "_law_high", "_law_back"] ["_law_length_here"] (defScope sL_standings) := ⟨rfl, rfl, rfl, by decide +kernel, rfl, by decide +kernel, by decide +kernel⟩
theorem ok_lawZ {f : Addr} {fd : FuncData} (F : Fun K "_law_standings" "_law_standings" sL_standings f fd) (T : Txt K mg tp C) : FnOk P w K mg base CX0 1 f fd ["_law_length_here"] spLawZ := by
  refine F.ok scL_standings (fun vs H Q E h => ?_) (fun cdv A outer s H vs Q E hr h => ?_)
  · obtain ⟨L, rfl, _⟩ := h
    rfl
  · obtain ⟨L, rfl, hL2, hL9, k⟩ := h
    refine ⟨_, (pss_cons (ps_set (i := 1) scL_standings.nd rfl (.inl rfl) (pe_lst pa_nil))
      (pss_cons (ps_for PassesOwn.never rfl (pi_range2 (by rfl) T.b_range (pa_cons pe_int (pa_cons (pe_op op_add (pv 0) pe_int) pa_nil))) (pg_name (i := 2) scL_standings.nd rfl (.inr rfl))
        (pss_one (ps_set (i := 1) scL_standings.nd rfl (.inl rfl) (pe_op op_cat (pv 1) (pe_lc (own := [("_law_back", 3)]) (g := gName 3) rfl scL_standings.nd (pi_range1 (by rfl) T.b_range (pa_cons (pv 2) pa_nil)) (blkOk_by (N := ["_law_length_here", "_law_found", "_law_high", "_law_back"]) (sc := defScope sL_standings) (by decide +kernel)) (fun _ _ _ _ _ => (pg_name (i := 3) scL_standings.nd rfl (.inl rfl))) (fun _ _ _ _ _ => (pts_one (PW.pt (pw_or (pt_cmpR op_lt (pv 2) (pv 0) (nomark _)) (pw_or1 (pt_cmpR op_gt (pv 3) pe_int (nomark _))))))) (fun _ _ _ _ _ => (pe_tup (pa_cons pe_str (pa_cons (pv 2) (pa_cons (pv 3) pa_nil))))))))))
      (pss_one (ps_ret (pe_op op_cat (pe_op op_cat (pv 1) (pe_lc (own := [("_law_high", 2)]) (g := gName 2) (tt := tYes) rfl scL_standings.nd (pi_range2 (by rfl) T.b_range (pa_cons pe_int (pa_cons (pv 0) pa_nil))) (blkOk_by (N := ["_law_length_here", "_law_found", "_law_high", "_law_back"]) (sc := defScope sL_standings) (by decide +kernel)) (fun _ _ _ _ _ => (pg_name (i := 2) scL_standings.nd rfl (.inl rfl))) (fun _ _ _ _ _ => pts_nil) (fun _ _ _ _ _ => (pe_tup (pa_cons pe_str (pa_cons (pv 2) (pa_cons pe_int pa_nil))))))) (pe_lst (pa_cons (pe_tup (pa_cons pe_str (pa_cons pe_int (pa_cons pe_int pa_nil)))) pa_nil))))))), ?_⟩
    have e1 : (L + 1 - 1).toNat = L.toNat := by omega
    refine ⟨(by show 0 ≤ sizeLine; decide), fun q0 hq0 => ?_⟩
    refine ⟨_, rfl, _, _, rfl, rfl, _, _, rfl, ⟨by omega, by omega, by omega, by omega⟩, ?_⟩
    rw [e1]
    refine for_range (lo := 1) (n := L.toNat) (fun i σ H3 => ∃ (y2 y3 : Option V) (q : Addr) (ys : List V), σ = [some (.int L), some (.ref q), y2, y3] ∧ Same H H3 ∧ H q = none ∧ H3 q = some (.lst ys) ∧ AllAt ZAt H3 ys (keptZ L i)) ⟨none, none, q0, [], rfl, same_new hq0, hq0, upd_same, trivial⟩ ?_ ?_
    · rintro i σ H3 hi ⟨y2, y3, q, ys, rfl, s3, hq, hys, hall⟩
      have hil : i < 9 := by omega
      have hkl : (keptZ L i).length ≤ i * 10 := by
        unfold keptZ
        have : ∀ n, n ≤ 9 → (((List.range n).map fun (i : Nat) => rowZ L i (i + 1)).flatten).length ≤ n * 10 := by
          intro n
          induction n with
          | zero => intro _; simp
          | succ n ih =>
            intro hn
            rw [List.range_succ, List.map_append, List.flatten_append, List.length_append]
            have h1 := ih (by omega)
            have h2 : (([n].map fun (i : Nat) => rowZ L i (i + 1)).flatten).length ≤ 10 := by
              simp only [List.map_cons, List.map_nil, List.flatten_cons, List.flatten_nil, List.append_nil]
              unfold rowZ
              rw [List.length_map]
              have := List.length_filter_le (fun (j : Nat) => decide (1 + (n : Int) < L ∨ 0 < j)) (List.range (n + 1))
              rw [List.length_range] at this
              omega
            omega
        exact this i (by omega)
      refine ⟨_, rfl, _, rfl, _, rfl, by omega, by omega, fun D hD => ?_⟩
      have e2 : (1 + (i : Int)).toNat = i + 1 := by omega
      rw [e2]
      refine lc_range (lo := 0) (n := i + 1) (fun j H4 => Same H3 H4 ∧ ∃ acc, H4 D = some (.lst acc) ∧ AllAt ZAt H4 acc (rowZ L i j)) ⟨same_new hD, [], upd_same, trivial⟩ ?_ ?_
      · rintro j H4 hj ⟨s4, acc, hacc, hra⟩
        have hra0 := hra.len
        refine ⟨rfl, ?_⟩
        have put : decide (1 + (i : Int) < L ∨ 0 < j) = true → ∀ p, H4 p = none → ∃ acc, (upd H4 p (.tup [.str "kept", .int (1 + (i : Int)), .int (0 + (j : Int))])) D = some (.lst acc) ∧ acc.length < sizeLine ∧ (Same H3 (upd (upd H4 p (.tup [.str "kept", .int (1 + (i : Int)), .int (0 + (j : Int))])) D (.lst (acc ++ [V.ref p]))) ∧
            ∃ acc', (upd (upd H4 p (.tup [.str "kept", .int (1 + (i : Int)), .int (0 + (j : Int))])) D (.lst (acc ++ [V.ref p]))) D = some (.lst acc') ∧ AllAt ZAt (upd (upd H4 p (.tup [.str "kept", .int (1 + (i : Int)), .int (0 + (j : Int))])) D (.lst (acc ++ [V.ref p]))) acc' (rowZ L i (j + 1))) := fun hc p hp => by
          obtain ⟨p1, p2, p3, p4⟩ := zPush (y := (0, 1 + (i : Int), (j : Int))) (tv := [.str "kept", .int (1 + (i : Int)), .int (0 + (j : Int))]) hacc hra hp (by rw [Int.zero_add]; rfl)
          refine ⟨acc, p3, ?_, fun q o e => p4 q o (fun r => by rw [r, hD] at e; cases e) (s4 _ _ e), _, p1, ?_⟩
          · unfold rowZ at hra0
            rw [List.length_map] at hra0
            have := List.length_filter_le (fun (j : Nat) => decide (1 + (i : Int) < L ∨ 0 < j)) (List.range j)
            rw [List.length_range] at this
            exact Nat.lt_of_le_of_lt (m := 100) (by omega) (by decide)
          · have e : rowZ L i (j + 1) = rowZ L i j ++ [(0, 1 + (i : Int), (j : Int))] := by
              unfold rowZ
              rw [List.range_succ, List.filter_append, List.map_append, List.filter_cons, if_pos hc, List.filter_nil]
              rfl
            rw [e]
            exact p2
        refine ⟨_, rfl, _, rfl, _, _, rfl, rfl, _, rfl, ?_⟩
        by_cases h1 : 1 + (i : Int) < L
        · refine iteP (decide_eq_true h1) (iteT ?_)
          refine ⟨_, rfl, _, rfl, (by show 3 ≤ sizeLine; decide), fun p hp => ?_⟩
          exact put (decide_eq_true (.inl h1)) p hp
        · refine iteQ (fun z => h1 (of_decide_eq_true z)) ?_
          refine ⟨_, rfl, _, _, rfl, rfl, _, rfl, ?_⟩
          by_cases h2 : 0 < j
          · refine iteP (decide_eq_true (by omega)) ?_
            refine ⟨_, rfl, _, rfl, (by show 3 ≤ sizeLine; decide), fun p hp => ?_⟩
            exact put (decide_eq_true (.inr h2)) p hp
          · refine iteQ (fun z => h2 (by have := of_decide_eq_true z; omega)) ⟨s4, acc, hacc, ?_⟩
            have e : rowZ L i (j + 1) = rowZ L i j := by
              unfold rowZ
              rw [List.range_succ, List.filter_append, List.filter_cons, if_neg (by rw [decide_eq_true_iff]; rintro (z | z); exact h1 z; exact h2 z), List.filter_nil, List.append_nil]
            rw [e]
            exact hra
      · rintro H4 ⟨s4, acc, hacc, hra⟩
        have hlr : acc.length ≤ 10 := by
          rw [hra.len]
          unfold rowZ
          rw [List.length_map]
          have := List.length_filter_le (fun (j : Nat) => decide (1 + (i : Int) < L ∨ 0 < j)) (List.range (i + 1))
          rw [List.length_range] at this
          omega
        have hly := hall.len
        refine ⟨_, _, _, _, rfl, rfl, s4 _ _ hys, hacc, Nat.le_trans (m := 200) (by omega) (by decide), fun p hp => ?_⟩
        have s5 := same_new (o := .lst (ys ++ acc)) hp
        refine ⟨_, _, p, _, rfl, (s3.trans s4).trans s5, (s3.trans s4).free hp, upd_same, ?_⟩
        have e : keptZ L (i + 1) = keptZ L i ++ rowZ L i (i + 1) := by
          unfold keptZ
          rw [List.range_succ, List.map_append, List.flatten_append]
          simp
        rw [e]
        exact (zMono (Tups.of (s4.trans s5)) hall).app (zMono (Tups.of s5) hra)
    · rintro σ H3 ⟨y2, y3, q, ys, rfl, s3, hq, hys, hall⟩
      have hly : ys.length ≤ 100 := by
        have h1 := (law_perm hL2 hL9).1.length_eq
        have h2 : (lawZ L).length = ys.length + (openZ L).length + 1 := by
          unfold lawZ
          rw [List.length_append, List.length_append, ← hall.len]
          rfl
        have h3 : (progZ L).length ≤ 100 := by
          have h : L = 2 ∨ L = 3 ∨ L = 4 ∨ L = 5 ∨ L = 6 ∨ L = 7 ∨ L = 8 ∨ L = 9 := by omega
          rcases h with rfl | rfl | rfl | rfl | rfl | rfl | rfl | rfl <;> decide +kernel
        omega
      refine ⟨_, rfl, _, rfl, _, _, rfl, ⟨by omega, by omega, by omega, by omega⟩, fun D hD => ?_⟩
      refine lc_range (lo := 1) (n := (L - 1).toNat) (fun i H4 => Same H3 H4 ∧ ∃ acc, H4 D = some (.lst acc) ∧ AllAt ZAt H4 acc ((List.range i).map fun (i : Nat) => ((1, 1 + (i : Int), 0) : Z3))) ⟨same_new hD, [], upd_same, trivial⟩ ?_ ?_
      · rintro i H4 hi ⟨s4, acc, hacc, hra⟩
        refine ⟨rfl, ?_⟩
        refine ⟨_, rfl, (by show 3 ≤ sizeLine; decide), fun p hp => ?_⟩
        obtain ⟨p1, p2, p3, p4⟩ := zPush (y := (1, 1 + (i : Int), 0)) (tv := [.str "open", .int (1 + (i : Int)), .int 0]) hacc hra hp rfl
        refine ⟨acc, p3, ?_, fun q o e => p4 q o (fun r => by rw [r, hD] at e; cases e) (s4 _ _ e), _, p1, ?_⟩
        · rw [hra.len, List.length_map, List.length_range]
          exact Nat.lt_of_le_of_lt (m := 1000) (by omega) (by decide)
        · rw [List.range_succ, List.map_append]
          exact p2
      · rintro H4 ⟨s4, os, hos, hor⟩
        have hor : AllAt ZAt H4 os (openZ L) := hor
        have lo : os.length ≤ 8 := by
          rw [hor.len]
          unfold openZ
          rw [List.length_map, List.length_range]
          omega
        refine ⟨_, _, _, _, rfl, rfl, s4 _ _ hys, hos, Nat.le_trans (m := 108) (by omega) (by decide), fun q2 hq2 => ?_⟩
        have t2 := same_new (o := .lst (ys ++ os)) hq2
        have c2 : (upd H4 q2 (.lst (ys ++ os))) q2 = some (.lst (ys ++ os)) := upd_same
        have r2 : AllAt ZAt (upd H4 q2 (.lst (ys ++ os))) (ys ++ os) (keptZ L L.toNat ++ openZ L) := zMono (Tups.of t2) ((zMono (Tups.of s4) hall).app hor)
        have sA := (s3.trans s4).trans t2
        generalize upd H4 q2 (.lst (ys ++ os)) = H5 at t2 c2 r2 sA
        refine ⟨(by show 3 ≤ sizeLine; decide), fun u hu => ?_⟩
        have t3 := same_new (o := .tup [.str "top", .int 0, .int 0]) hu
        have c3 : (upd H5 u (.tup [.str "top", .int 0, .int 0])) u = some (.tup [.str "top", .int 0, .int 0]) := upd_same
        generalize upd H5 u (.tup [.str "top", .int 0, .int 0]) = H6 at t3 c3
        refine ⟨(by show 1 ≤ sizeLine; decide), fun q3 hq3 => ?_⟩
        have t4 := same_new (o := .lst [V.ref u]) hq3
        refine ⟨_, _, _, _, rfl, rfl, t4 _ _ (t3 _ _ c2), upd_same, Nat.le_trans (m := 150) (by simp only [List.length_append, List.length_cons, List.length_nil]; omega) (by decide), fun q4 hq4 => ?_⟩
        have t5 := same_new (o := .lst (ys ++ os ++ [V.ref u])) hq4
        have sB := (t3.trans t4).trans t5
        refine k q4 _ _ ((sA.trans (t3.trans t4)).free hq4) (sA.trans sB) upd_same ?_
        exact (zMono (Tups.of sB) r2).app ⟨⟨u, rfl, (t4.trans t5) _ _ c3⟩, trivial⟩
/-! ### _law_lead -/
def leadZ (z : Z3) : List Bl := leadB (zKd z) z.2.1.toNat z.2.2.toNat
theorem flat_rep {α : Type} (x : α) : ∀ n, (List.replicate n [x]).flatten = List.replicate n x
  | 0 => rfl
  | n + 1 => by rw [List.replicate_succ, List.replicate_succ, List.flatten_cons, flat_rep x n]; rfl
theorem all_rep {α : Type} {R : Hp → V → α → Prop} {H : Hp} {x : V} {y : α} (h : R H x y) : ∀ n, AllAt R H (List.replicate n x) (List.replicate n y)
  | 0 => trivial
  | n + 1 => ⟨h, all_rep h n⟩
def spLead (K : PySem.W.Frag) : Sp := fun vs H Q _ => ∃ (a : Addr) (L : Int) (z : Z3), vs = [.ref a] ∧ StdZ L z ∧ L ≤ 9 ∧ SqT K H a [.str (wordN z.1), .int z.2.1, .int z.2.2] ∧ ∀ p H' ys, H p = none → Same H H' → H' p = some (.lst ys) → AllAt BlAt H' ys (leadZ z) → Q (.ref p) H'
abbrev sL_lead : Stmt := topS 24
theorem scL_lead : FnScope ["_law_standing_here", "_law_word", "_law_high", "_law_back"] ["_law_standing_here"] (defScope sL_lead) := ⟨rfl, rfl, rfl, by decide +kernel, rfl, by decide +kernel, by decide +kernel⟩
theorem ok_lead {f : Addr} {fd : FuncData} (F : Fun K "_law_lead" "_law_lead" sL_lead f fd) (T : Txt K mg tp C) : FnOk P w K mg base CX0 1 f fd ["_law_standing_here"] (spLead K) := by
  refine F.ok scL_lead (fun vs H Q E h => ?_) (fun cdv A outer s H vs Q E hr h => ?_)
  · obtain ⟨a, L, z, rfl, _⟩ := h
    rfl
  · obtain ⟨a, L, z, rfl, hz, hL, ha, k⟩ := h
    refine ⟨_, (pss_cons (ps_asg (pv 0) (pg_tup rfl (pgs_cons (pg_name (i := 1) scL_lead.nd rfl (.inl rfl)) (pgs_cons (pg_name (i := 2) scL_lead.nd rfl (.inl rfl)) (pgs_cons (pg_name (i := 3) scL_lead.nd rfl (.inl rfl)) pgs_nil)))))
      (pss_cons (ps_if (pt_cmpR op_ne (pv 1) pe_str (nomark _))
        (pss_one (ps_ret (pe_op op_rep (pe_lst (pa_cons (pe_tup (pa_cons pe_int (pa_cons pe_int (pa_cons pe_bl (pa_cons pe_bl pa_nil))))) pa_nil)) (pv 2))))
        pss_nil)
      (pss_cons (ps_if (pt_cmpR op_eq (pv 3) pe_int (nomark _))
        (pss_one (ps_ret (pe_op op_rep (pe_lst (pa_cons (pe_tup (pa_cons pe_int (pa_cons pe_int (pa_cons pe_bl (pa_cons pe_bl pa_nil))))) pa_nil)) (pv 2))))
        pss_nil)
      (pss_one (ps_ret (pe_op op_cat (pe_op op_rep (pe_lst (pa_cons (pe_tup (pa_cons pe_int (pa_cons pe_int (pa_cons pe_bl (pa_cons pe_bl pa_nil))))) pa_nil)) (pe_op op_sub (pv 2) (pv 3))) (pe_op op_rep (pe_lst (pa_cons (pe_tup (pa_cons pe_int (pa_cons pe_int (pa_cons pe_bl (pa_cons pe_bl pa_nil))))) pa_nil)) (pv 3)))))))), ?_⟩
    have hb : 0 ≤ z.2.1 ∧ z.2.1 ≤ 9 ∧ 0 ≤ z.2.2 ∧ z.2.2 ≤ z.2.1 := by
      unfold StdZ at hz
      rcases hz with h | h | h
      · omega
      · omega
      · rw [h]; exact ⟨by decide, by decide, by decide, by decide⟩
    refine ⟨_, rfl, a, _, rfl, ha, rfl, _, _, rfl, _, _, rfl, _, _, rfl, rfl, ?_⟩
    have one : ∀ (b : Bool) (n : Int) (H1 : Hp) (t l : Addr), 0 ≤ n → n ≤ 9 → H1 t = none → (upd H1 t (.tup [.int 1, .int 0, .bl b, .bl false])) l = none → ∀ (R : V → Hp → Prop), (∀ q H2, H1 q = none → Same H1 H2 → H2 q = some (.lst (List.replicate n.toNat (V.ref t))) → AllAt BlAt H2 (List.replicate n.toNat (V.ref t)) (List.replicate n.toNat (oB b)) → R (.ref q) H2) →
        rRep (V.ref l) (V.int n) (upd (upd H1 t (.tup [.int 1, .int 0, .bl b, .bl false])) l (.lst [V.ref t])) R := by
      intro b n H1 t l h0 h9 ht hl R h
      refine ⟨l, n, _, rfl, rfl, upd_same, by omega, by omega, Nat.le_trans (m := 9) (by simp only [List.length_cons, List.length_nil]; omega) (by decide), fun p hp => ?_⟩
      have t1 := same_new (o := .tup [.int 1, .int 0, .bl b, .bl false]) ht
      have t2 := same_new (o := .lst [V.ref t]) hl
      have t3 := same_new (o := .lst (List.replicate n.toNat [V.ref t]).flatten) hp
      refine h p _ ((t1.trans t2).free hp) ((t1.trans t2).trans t3) ?_ ?_
      · rw [upd_same, flat_rep]
      · exact all_rep (R := BlAt) (y := oB b) ⟨t, rfl, (t2.trans t3) _ _ upd_same⟩ _
    have s4 : ([V.int 1, .int 0, .bl false, .bl false] : List V).length ≤ sizeLine := by show 4 ≤ sizeLine; decide
    have s1 : ∀ t, ([V.ref t] : List V).length ≤ sizeLine := fun t => by show 1 ≤ sizeLine; decide
    refine ⟨_, rfl, rfl, _, rfl, ?_⟩
    rw [wdec]
    unfold leadZ leadB at k
    cases hk : zKd z with
    | false =>
      rw [hk, if_pos rfl] at k
      refine iteT ?_
      refine ⟨s4, fun t ht => ⟨s1 t, fun l hl => ⟨_, rfl, one false z.2.1 H t l (by omega) (by omega) ht hl _ fun q H2 h1 h2 h3 h4 => k q H2 _ h1 h2 h3 h4⟩⟩⟩
    | true =>
      rw [hk, if_neg (by decide)] at k
      refine iteF ?_
      refine ⟨_, rfl, rfl, _, rfl, ite2 (fun h1 => ?_) (fun h1 => ?_)⟩
      · have ht0 : z.2.2 = 0 := V.int.inj (of_decide_eq_true h1)
        rw [if_pos (by omega)] at k
        refine ⟨s4, fun t ht => ⟨s1 t, fun l hl => ⟨_, rfl, one true z.2.1 H t l (by omega) (by omega) ht hl _ fun q H2 h1 h2 h3 h4 => k q H2 _ h1 h2 h3 h4⟩⟩⟩
      · have ht0 : ¬ z.2.2 = 0 := fun r => h1 (decide_eq_true (by rw [r]))
        rw [if_neg (by omega)] at k
        refine ⟨s4, fun t ht => ⟨s1 t, fun l hl => ⟨_, rfl, _, rfl, _, _, rfl, rfl, (show rRep (V.ref l) (V.int (z.2.1 - z.2.2)) _ _ from one false (z.2.1 - z.2.2) H t l (by omega) (by omega) ht hl _ fun q H2 g1 g2 g3 g4 => ?_)⟩⟩⟩
        refine ⟨s4, fun t' ht' => ⟨s1 t', fun l' hl' => ⟨_, rfl, one true z.2.2 H2 t' l' (by omega) (by omega) ht' hl' _ fun q' H3 g1' g2' g3' g4' => ?_⟩⟩⟩
        refine ⟨_, _, _, _, rfl, rfl, g2' _ _ g3, g3', Nat.le_trans (m := 18) (by rw [List.length_replicate, List.length_replicate]; omega) (by decide), fun p hp => ?_⟩
        have t5 := same_new (o := .lst (List.replicate (z.2.1 - z.2.2).toNat (V.ref t) ++ List.replicate z.2.2.toNat (V.ref t'))) hp
        refine k p _ _ ((g2.trans g2').free hp) ((g2.trans g2').trans t5) upd_same ?_
        have e : (z.2.1 - z.2.2).toNat = z.2.1.toNat - z.2.2.toNat := by omega
        rw [← e]
        exact (blMono (Tups.of (g2'.trans t5)) g4).app (blMono (Tups.of t5) g4')
end
end Pa
set_option maxRecDepth 100000
set_option maxHeartbeats 4000000
namespace Pa
open PySem PySem.Spec PyProof.Rows L2 SrtO
/-! ### readings that give data -/
theorem bk_of {b : Addr} {H H1 : Hp} (s : Same H H1) (hb : IsBag H b) : Bk b H H1 := by
  obtain ⟨g, x, c, e⟩ := hb
  exact ⟨⟨g, x, c, s _ _ e⟩, fun q o _ e => s q o e⟩
theorem bk_rf {b : Addr} {H : Hp} (hb : IsBag H b) : Bk b H H := ⟨hb, fun q o _ e => e⟩
/-- the datum stands, also when the source at b has changed -/
def Dq (K : PySem.W.Frag) (b : Addr) (H : Hp) (v : V) (d : PyData) : Prop := ∀ H', Bk b H H' → Dp K H' v d
def DqAll (K : PySem.W.Frag) (b : Addr) (H : Hp) (vs : List V) (ds : List PyData) : Prop := ∀ H', Bk b H H' → DpAll K H' vs ds
def GE (K : PySem.W.Frag) (b : Addr) (σ : L2.St) (te : TE) (d : PyData) : Prop := ∀ (H : Hp) (R : V → Hp → Prop), IsBag H b → (∀ x H1, Same H H1 → Dq K b H1 x d → R x H1) → te σ H R
def GA (K : PySem.W.Frag) (b : Addr) (σ : L2.St) (ta : TA) (ds : List PyData) : Prop := ∀ (H : Hp) (R : List V → Hp → Prop), IsBag H b → (∀ xs H1, Same H H1 → DqAll K b H1 xs ds → R xs H1) → ta σ H R
section
variable {K : PySem.W.Frag} {σ : L2.St} {b : Addr}
theorem dq_bk {H H1 : Hp} {v : V} {d : PyData} (k : Bk b H H1) (h : Dq K b H v d) : Dq K b H1 v d := fun H' k' => h H' (k.trans k')
theorem dqAll_bk {H H1 : Hp} {v : List V} {d : List PyData} (k : Bk b H H1) (h : DqAll K b H v d) : DqAll K b H1 v d := fun H' k' => h H' (k.trans k')
theorem dqAll_len {H : Hp} {vs : List V} {ds : List PyData} (hb : IsBag H b) (h : DqAll K b H vs ds) : vs.length = ds.length := dpAll_len (h H (bk_rf hb))
theorem bag_same {H H1 : Hp} (s : Same H H1) (hb : IsBag H b) : IsBag H1 b := (bk_of s hb).bag
theorem ga_nil : GA K b σ tNil [] := fun H R _ h => h [] H (Same.refl H) fun _ _ => .nil
theorem ga_cons {te : TE} {ta : TA} {d : PyData} {ds : List PyData} (h1 : GE K b σ te d) (h2 : GA K b σ ta ds) : GA K b σ (tCons te ta) (d :: ds) := fun H R hb h =>
  h1 H _ hb fun x H1 s1 hx => h2 H1 _ (bag_same s1 hb) fun xs H2 s2 hxs => h (x :: xs) H2 (s1.trans s2) fun H' k => .cons (hx H' ((bk_of s2 (bag_same s1 hb)).trans k)) (hxs H' k)
theorem ge_int (i : Int) : GE K b σ (tC (.int i)) (.int i) := fun H R _ h => h _ H (Same.refl H) fun _ _ => .int i
theorem ge_str (x : Str) : GE K b σ (tC (.str x)) (.str x) := fun H R _ h => h _ H (Same.refl H) fun _ _ => .str x
theorem ge_bl (c : Bool) : GE K b σ (tC (.bl c)) (.bool c) := fun H R _ h => h _ H (Same.refl H) fun _ _ => .bl c
theorem ge_non : GE K b σ (tC .non) .none := fun H R _ h => h _ H (Same.refl H) fun _ _ => .non
theorem ne_bag {H : Hp} {p : Addr} (hb : IsBag H b) (hp : H p = none) : p ≠ b := by
  rintro rfl
  obtain ⟨_, _, _, e⟩ := hb
  rw [hp] at e
  cases e
theorem dq_tup {H : Hp} {p : Addr} {xs : List V} {ds : List PyData} (hb : IsBag H b) (hp : H p = none) (h : DqAll K b H xs ds) : Dq K b (upd H p (.tup xs)) (.ref p) (.tuple ds) := fun H' k =>
  .tup (k.seqT (SqT.of upd_same) (ne_bag hb hp)) (h H' ((bk_of (same_new hp) hb).trans k))
theorem dq_lst {H : Hp} {p : Addr} {xs : List V} {ds : List PyData} (hb : IsBag H b) (hp : H p = none) (h : DqAll K b H xs ds) : Dq K b (upd H p (.lst xs)) (.ref p) (.list ds) := fun H' k =>
  .lst (k.seqL (SqL.of upd_same) (ne_bag hb hp)) (h H' ((bk_of (same_new hp) hb).trans k))
theorem ge_tup {ta : TA} {ds : List PyData} (h1 : GA K b σ ta ds) (hl : ds.length ≤ 100) : GE K b σ (tTup ta) (.tuple ds) := fun H R hb h => h1 H _ hb fun xs H1 s1 hx =>
  ⟨Nat.le_trans (m := 100) (by rw [dqAll_len (bag_same s1 hb) hx]; exact hl) (by decide), fun p hp => h _ _ (s1.trans (same_new hp)) (dq_tup (bag_same s1 hb) hp hx)⟩
theorem ge_lst {ta : TA} {ds : List PyData} (h1 : GA K b σ ta ds) (hl : ds.length ≤ 100) : GE K b σ (tLst ta) (.list ds) := fun H R hb h => h1 H _ hb fun xs H1 s1 hx =>
  ⟨Nat.le_trans (m := 100) (by rw [dqAll_len (bag_same s1 hb) hx]; exact hl) (by decide), fun p hp => h _ _ (s1.trans (same_new hp)) (dq_lst (bag_same s1 hb) hp hx)⟩
theorem dpAll_app {H : Hp} : ∀ {xs ys : List V} {ds es : List PyData}, DpAll K H xs ds → DpAll K H ys es → DpAll K H (xs ++ ys) (ds ++ es)
  | _, _, _, _, .nil, h => h
  | _, _, _, _, .cons a c, h => .cons a (dpAll_app c h)
theorem ge_var {i : Nat} {n : Int} (h : σ[i]? = some (some (V.int n))) : GE K b σ (tVar i) (.int n) := fun H R _ k => ⟨_, h, k _ H (Same.refl H) fun _ _ => .int n⟩
theorem rd_lst {ta : TA} {ds : List PyData} {H : Hp} {Q : V → Hp → Prop} (hb : IsBag H b) (g : GA K b σ ta ds) (hl : ds.length ≤ 100) (h : ∀ xs q H1, Same H H1 → H q = none → H1 q = some (.lst xs) → DqAll K b H1 xs ds → Q (.ref q) H1) : tLst ta σ H Q :=
  g H _ hb fun xs H1 s1 hx => ⟨Nat.le_trans (m := 100) (by rw [dqAll_len (bag_same s1 hb) hx]; exact hl) (by decide), fun p hp => h xs p _ (s1.trans (same_new hp)) (s1.free hp) upd_same (dqAll_bk (bk_of (same_new hp) (bag_same s1 hb)) hx)⟩
theorem rd_cat {i : Nat} {ta : TA} {ds es : List PyData} {p : Addr} {ys : List V} {H : Hp} {Q : V → Hp → Prop} (hb : IsBag H b) (hi : σ[i]? = some (some (V.ref p))) (hp : H p = some (.lst ys)) (hy : DqAll K b H ys es) (g : GA K b σ ta ds) (hl : ds.length ≤ 100) (hl2 : es.length ≤ 100)
    (h : ∀ xs q H1, Same H H1 → H q = none → H1 q = some (.lst xs) → DqAll K b H1 xs (es ++ ds) → Q (.ref q) H1) : tOp rCat (tVar i) (tLst ta) σ H Q := by
  refine ⟨_, hi, rd_lst hb g hl fun xs q H1 s1 hq hx hd => ⟨p, q, ys, xs, rfl, rfl, s1 _ _ hp, hx, Nat.le_trans (m := 200) ?_ (by decide), fun u hu => ?_⟩⟩
  · rw [dqAll_len (bag_same s1 hb) hd, dqAll_len hb hy]; omega
  · have k2 := bk_of (same_new (o := .lst (ys ++ xs)) hu) (bag_same s1 hb)
    exact h _ u _ (s1.trans (same_new hu)) (s1.free hu) upd_same fun H' k => dpAll_app (hy H' ((bk_of s1 hb).trans (k2.trans k))) (hd H' (k2.trans k))
end
/-- data that is no standing -/
structure OddD (L : Int) (d : PyData) : Prop where
  no : ¬ okD L d
  sh : SeqAt.shaped d = true
  sh1 : SeqAt.shaped (.tuple [d]) = true
  ln : ∀ ds, d = .tuple ds → ds.length ≤ 100
theorem ok3 {L : Int} {x : Str} {h t : Int} (k : okD L (.tuple [.str x, .int h, .int t])) : (x = "kept" ∧ 1 ≤ h ∧ h ≤ L ∧ 0 ≤ t ∧ t < h ∧ (h < L ∨ 0 < t)) ∨ (x = "open" ∧ 1 ≤ h ∧ h < L ∧ t = 0) ∨ (x = "top" ∧ h = 0 ∧ t = 0) := by
  obtain ⟨z, hz, e⟩ := k
  unfold zD at e
  simp only [PyData.tuple.injEq, List.cons.injEq, PyData.str.injEq, PyData.int.injEq, and_true] at e
  obtain ⟨e1, e2, e3⟩ := e
  unfold StdZ at hz
  rcases hz with h1 | h1 | h1
  · refine .inl ⟨?_, by omega, by omega, by omega, by omega, by omega⟩
    rw [e1, h1.1]; rfl
  · refine .inr (.inl ⟨?_, by omega, by omega, by omega⟩)
    rw [e1, h1.1]; rfl
  · rw [h1] at e1 e2 e3
    exact .inr (.inr ⟨e1, e2, e3⟩)
theorem odd3 {L : Int} {x : Str} {h t : Int} (hs : PyData.strOk x = true) (n : ¬ ((x = "kept" ∧ 1 ≤ h ∧ h ≤ L ∧ 0 ≤ t ∧ t < h ∧ (h < L ∨ 0 < t)) ∨ (x = "open" ∧ 1 ≤ h ∧ h < L ∧ t = 0) ∨ (x = "top" ∧ h = 0 ∧ t = 0))) : OddD L (.tuple [.str x, .int h, .int t]) := by
  refine ⟨fun k => n (ok3 k), ?_, ?_, fun ds e => ?_⟩
  · simp [SeqAt.shaped, PyData.canLay0, PyData.canLayAll0, PyData.depth, PyData.depthAll, hs]
  · simp [SeqAt.shaped, PyData.canLay0, PyData.canLayAll0, PyData.depth, PyData.depthAll, hs]
  · cases e; show 3 ≤ 100; decide
theorem oddX {L : Int} {d : PyData} (h : ∀ a b c, d ≠ .tuple [.str a, .int b, .int c]) (sh : SeqAt.shaped d = true) (sh1 : SeqAt.shaped (.tuple [d]) = true) (ln : ∀ ds, d = .tuple ds → ds.length ≤ 100) : OddD L d :=
  ⟨fun ⟨z, _, e⟩ => h _ _ _ e, sh, sh1, ln⟩
theorem hd_name {i : Nat} {v : V} {σ : L2.St} {H : Hp} {A B : TS} {D : Ends} (h : A { D with nx := B D } (σ.set i (some v)) H) : gName i v σ H (tSeq A B D) := h
theorem hd_last {i : Nat} {v : V} {σ : L2.St} {H : Hp} {te : TE} {D : Ends} (h : te (σ.set i (some v)) H D.rt) : gName i v σ H (tRet te D) := h
theorem as_rd {te : TE} {g : TG} {D : Ends} {σ : L2.St} {H : Hp} (h : te σ H (fun x H1 => g x σ H1 D.nx)) : tAsg te g D σ H := h
theorem stp {i : Nat} {v : V} {σ : L2.St} {H : Hp} {te : TE} {g : TG} {B : TS} {D : Ends} (h : te (σ.set i (some v)) H (fun x H1 => g x (σ.set i (some v)) H1 (B D))) : gName i v σ H (tSeq (tAsg te g) B D) := h
theorem stp0 {i : Nat} {v : V} {σ : L2.St} {H : Hp} {te : TE} {g : TG} {B : TS} {D : Ends} {r : V → Hp → Prop} (h : te (σ.set i (some v)) H (fun x H1 => g x (σ.set i (some v)) H1 (B D))) : gName i v σ H (Ends.nx { nx := tSeq (tAsg te g) B D, rt := r }) := h
def oddL1 (L n : Int) : List PyData := [.none, .int 0, .str "top", .tuple [], .tuple [.str "top"], .tuple [.str "top", .int 0], .tuple [.str "top", .int 0, .int 0, .int 0], .list [.str "top", .int 0, .int 0], .list [.str "open", .int 1, .int 0], .tuple [.str "top", .int 0, .int 1]]
def oddL2 (L n : Int) : List PyData := [.tuple [.str "top", .bool false, .int 0], .tuple [.str "top", .int 0, .bool false], .tuple [.str "open", .bool true, .int 0], .tuple [.str "open", .int 1, .bool false], .tuple [.str "kept", .bool true, .int 0]]
def oddL3 (L n : Int) : List PyData := [.tuple [.str "open", .int 0, .int 0], .tuple [.str "open", .int 1, .int 1], .tuple [.str "open", .int L, .int 0], .tuple [.str "kept", .int L, .int 0], .tuple [.str "kept", .int 0, .int 0]]
def oddL4 (L n : Int) : List PyData := [.tuple [.str "kept", .int 1, .int 1], .tuple [.str "kept", .int 1, .int (-1)], .tuple [.str "kept", .int L, .int L], .tuple [.str "kept", .int (L + n), .int 1]]
def oddL5 (L n : Int) : List PyData := [.tuple [.str "open", .int (L + n), .int 0], .tuple [.str "open", .int (-n), .int 0], .tuple [.str "Open", .int 1, .int 0], .tuple [.str "", .int 1, .int 0], .tuple [.int 0, .int 1, .int 0]]
def oddL6 (L n : Int) : List PyData := [.tuple [.str "kept", .str "1", .int 0], .tuple [.str "kept", .int 1, .none], .tuple [.tuple [.str "top", .int 0, .int 0]], .tuple [.str "kept", .tuple [.int 1, .int 0]], .tuple [.str "top", .int 1, .int 0]]
theorem shL : ∀ {d : PyData}, d.canLay0 = true → d.depth ≤ 64 → SeqAt.shaped d = true := fun h1 h2 => by
  unfold SeqAt.shaped
  rw [h1, Bool.true_and]
  exact decide_eq_true h2
theorem odd_all {L n : Int} (hL : 2 ≤ L) (hL9 : L ≤ 9) (hn : 1 ≤ n) : ∀ d ∈ (oddL1 L n ++ oddL2 L n ++ oddL3 L n ++ oddL4 L n ++ oddL5 L n ++ oddL6 L n), OddD L d := by
  have k3 : PyData.strOk "top" = true := by decide +kernel
  have k4 : PyData.strOk "open" = true := by decide +kernel
  have k5 : PyData.strOk "kept" = true := by decide +kernel
  have k6 : PyData.strOk "Open" = true := by decide +kernel
  have k7 : PyData.strOk "" = true := by decide +kernel
  have k8 : PyData.strOk "1" = true := by decide +kernel
  have n1 : ¬ (("top" : Str) = "kept") := by decide +kernel
  have n2 : ¬ (("top" : Str) = "open") := by decide +kernel
  have n3 : ¬ (("open" : Str) = "kept") := by decide +kernel
  have n4 : ¬ (("open" : Str) = "top") := by decide +kernel
  have n5 : ¬ (("kept" : Str) = "open") := by decide +kernel
  have n6 : ¬ (("kept" : Str) = "top") := by decide +kernel
  have n7 : ¬ (("Open" : Str) = "kept") := by decide +kernel
  have n8 : ¬ (("Open" : Str) = "open") := by decide +kernel
  have n9 : ¬ (("Open" : Str) = "top") := by decide +kernel
  have m7 : ¬ (("" : Str) = "kept") := by decide +kernel
  have m8 : ¬ (("" : Str) = "open") := by decide +kernel
  have m9 : ¬ (("" : Str) = "top") := by decide +kernel
  intro d hd
  simp only [List.mem_append, oddL1, oddL2, oddL3, oddL4, oddL5, oddL6, List.mem_cons, List.not_mem_nil, or_false, or_assoc] at hd
  rcases hd with rfl | rfl | rfl | rfl | rfl | rfl | rfl | rfl | rfl | rfl | rfl | rfl | rfl | rfl | rfl | rfl | rfl | rfl | rfl | rfl | rfl | rfl | rfl | rfl | rfl | rfl | rfl | rfl | rfl | rfl | rfl | rfl | rfl | rfl
  · exact oddX (fun _ _ _ e => by cases e) (shL (by simp [PyData.canLay0, PyData.canLayAll0, k3, k4, k5, k8]) (by simp [PyData.depth, PyData.depthAll])) (shL (by simp [PyData.canLay0, PyData.canLayAll0, k3, k4, k5, k8]) (by simp [PyData.depth, PyData.depthAll])) (fun ds e => by cases e <;> (first | (show 0 ≤ 100; decide) | (show 1 ≤ 100; decide) | (show 2 ≤ 100; decide) | (show 3 ≤ 100; decide) | (show 4 ≤ 100; decide)))
  · exact oddX (fun _ _ _ e => by cases e) (shL (by simp [PyData.canLay0, PyData.canLayAll0, k3, k4, k5, k8]) (by simp [PyData.depth, PyData.depthAll])) (shL (by simp [PyData.canLay0, PyData.canLayAll0, k3, k4, k5, k8]) (by simp [PyData.depth, PyData.depthAll])) (fun ds e => by cases e <;> (first | (show 0 ≤ 100; decide) | (show 1 ≤ 100; decide) | (show 2 ≤ 100; decide) | (show 3 ≤ 100; decide) | (show 4 ≤ 100; decide)))
  · exact oddX (fun _ _ _ e => by cases e) (shL (by simp [PyData.canLay0, PyData.canLayAll0, k3, k4, k5, k8]) (by simp [PyData.depth, PyData.depthAll])) (shL (by simp [PyData.canLay0, PyData.canLayAll0, k3, k4, k5, k8]) (by simp [PyData.depth, PyData.depthAll])) (fun ds e => by cases e <;> (first | (show 0 ≤ 100; decide) | (show 1 ≤ 100; decide) | (show 2 ≤ 100; decide) | (show 3 ≤ 100; decide) | (show 4 ≤ 100; decide)))
  · exact oddX (fun _ _ _ e => by cases e) (shL (by simp [PyData.canLay0, PyData.canLayAll0, k3, k4, k5, k8]) (by simp [PyData.depth, PyData.depthAll])) (shL (by simp [PyData.canLay0, PyData.canLayAll0, k3, k4, k5, k8]) (by simp [PyData.depth, PyData.depthAll])) (fun ds e => by cases e <;> (first | (show 0 ≤ 100; decide) | (show 1 ≤ 100; decide) | (show 2 ≤ 100; decide) | (show 3 ≤ 100; decide) | (show 4 ≤ 100; decide)))
  · exact oddX (fun _ _ _ e => by cases e) (shL (by simp [PyData.canLay0, PyData.canLayAll0, k3, k4, k5, k8]) (by simp [PyData.depth, PyData.depthAll])) (shL (by simp [PyData.canLay0, PyData.canLayAll0, k3, k4, k5, k8]) (by simp [PyData.depth, PyData.depthAll])) (fun ds e => by cases e <;> (first | (show 0 ≤ 100; decide) | (show 1 ≤ 100; decide) | (show 2 ≤ 100; decide) | (show 3 ≤ 100; decide) | (show 4 ≤ 100; decide)))
  · exact oddX (fun _ _ _ e => by cases e) (shL (by simp [PyData.canLay0, PyData.canLayAll0, k3, k4, k5, k8]) (by simp [PyData.depth, PyData.depthAll])) (shL (by simp [PyData.canLay0, PyData.canLayAll0, k3, k4, k5, k8]) (by simp [PyData.depth, PyData.depthAll])) (fun ds e => by cases e <;> (first | (show 0 ≤ 100; decide) | (show 1 ≤ 100; decide) | (show 2 ≤ 100; decide) | (show 3 ≤ 100; decide) | (show 4 ≤ 100; decide)))
  · exact oddX (fun _ _ _ e => by cases e) (shL (by simp [PyData.canLay0, PyData.canLayAll0, k3, k4, k5, k8]) (by simp [PyData.depth, PyData.depthAll])) (shL (by simp [PyData.canLay0, PyData.canLayAll0, k3, k4, k5, k8]) (by simp [PyData.depth, PyData.depthAll])) (fun ds e => by cases e <;> (first | (show 0 ≤ 100; decide) | (show 1 ≤ 100; decide) | (show 2 ≤ 100; decide) | (show 3 ≤ 100; decide) | (show 4 ≤ 100; decide)))
  · exact oddX (fun _ _ _ e => by cases e) (shL (by simp [PyData.canLay0, PyData.canLayAll0, k3, k4, k5, k8]) (by simp [PyData.depth, PyData.depthAll])) (shL (by simp [PyData.canLay0, PyData.canLayAll0, k3, k4, k5, k8]) (by simp [PyData.depth, PyData.depthAll])) (fun ds e => by cases e <;> (first | (show 0 ≤ 100; decide) | (show 1 ≤ 100; decide) | (show 2 ≤ 100; decide) | (show 3 ≤ 100; decide) | (show 4 ≤ 100; decide)))
  · exact oddX (fun _ _ _ e => by cases e) (shL (by simp [PyData.canLay0, PyData.canLayAll0, k3, k4, k5, k8]) (by simp [PyData.depth, PyData.depthAll])) (shL (by simp [PyData.canLay0, PyData.canLayAll0, k3, k4, k5, k8]) (by simp [PyData.depth, PyData.depthAll])) (fun ds e => by cases e <;> (first | (show 0 ≤ 100; decide) | (show 1 ≤ 100; decide) | (show 2 ≤ 100; decide) | (show 3 ≤ 100; decide) | (show 4 ≤ 100; decide)))
  · exact odd3 k3 (fun h => by
      rcases h with ⟨e, _⟩ | ⟨e, _⟩ | ⟨e, _⟩ <;> first | (exfalso; revert e; assumption) | omega)
  · exact oddX (fun _ _ _ e => by cases e) (shL (by simp [PyData.canLay0, PyData.canLayAll0, k3, k4, k5, k8]) (by simp [PyData.depth, PyData.depthAll])) (shL (by simp [PyData.canLay0, PyData.canLayAll0, k3, k4, k5, k8]) (by simp [PyData.depth, PyData.depthAll])) (fun ds e => by cases e <;> (first | (show 0 ≤ 100; decide) | (show 1 ≤ 100; decide) | (show 2 ≤ 100; decide) | (show 3 ≤ 100; decide) | (show 4 ≤ 100; decide)))
  · exact oddX (fun _ _ _ e => by cases e) (shL (by simp [PyData.canLay0, PyData.canLayAll0, k3, k4, k5, k8]) (by simp [PyData.depth, PyData.depthAll])) (shL (by simp [PyData.canLay0, PyData.canLayAll0, k3, k4, k5, k8]) (by simp [PyData.depth, PyData.depthAll])) (fun ds e => by cases e <;> (first | (show 0 ≤ 100; decide) | (show 1 ≤ 100; decide) | (show 2 ≤ 100; decide) | (show 3 ≤ 100; decide) | (show 4 ≤ 100; decide)))
  · exact oddX (fun _ _ _ e => by cases e) (shL (by simp [PyData.canLay0, PyData.canLayAll0, k3, k4, k5, k8]) (by simp [PyData.depth, PyData.depthAll])) (shL (by simp [PyData.canLay0, PyData.canLayAll0, k3, k4, k5, k8]) (by simp [PyData.depth, PyData.depthAll])) (fun ds e => by cases e <;> (first | (show 0 ≤ 100; decide) | (show 1 ≤ 100; decide) | (show 2 ≤ 100; decide) | (show 3 ≤ 100; decide) | (show 4 ≤ 100; decide)))
  · exact oddX (fun _ _ _ e => by cases e) (shL (by simp [PyData.canLay0, PyData.canLayAll0, k3, k4, k5, k8]) (by simp [PyData.depth, PyData.depthAll])) (shL (by simp [PyData.canLay0, PyData.canLayAll0, k3, k4, k5, k8]) (by simp [PyData.depth, PyData.depthAll])) (fun ds e => by cases e <;> (first | (show 0 ≤ 100; decide) | (show 1 ≤ 100; decide) | (show 2 ≤ 100; decide) | (show 3 ≤ 100; decide) | (show 4 ≤ 100; decide)))
  · exact oddX (fun _ _ _ e => by cases e) (shL (by simp [PyData.canLay0, PyData.canLayAll0, k3, k4, k5, k8]) (by simp [PyData.depth, PyData.depthAll])) (shL (by simp [PyData.canLay0, PyData.canLayAll0, k3, k4, k5, k8]) (by simp [PyData.depth, PyData.depthAll])) (fun ds e => by cases e <;> (first | (show 0 ≤ 100; decide) | (show 1 ≤ 100; decide) | (show 2 ≤ 100; decide) | (show 3 ≤ 100; decide) | (show 4 ≤ 100; decide)))
  · exact odd3 k4 (fun h => by
      rcases h with ⟨e, _⟩ | ⟨e, _⟩ | ⟨e, _⟩ <;> first | (exfalso; revert e; assumption) | omega)
  · exact odd3 k4 (fun h => by
      rcases h with ⟨e, _⟩ | ⟨e, _⟩ | ⟨e, _⟩ <;> first | (exfalso; revert e; assumption) | omega)
  · exact odd3 k4 (fun h => by
      rcases h with ⟨e, _⟩ | ⟨e, _⟩ | ⟨e, _⟩ <;> first | (exfalso; revert e; assumption) | omega)
  · exact odd3 k5 (fun h => by
      rcases h with ⟨e, _⟩ | ⟨e, _⟩ | ⟨e, _⟩ <;> first | (exfalso; revert e; assumption) | omega)
  · exact odd3 k5 (fun h => by
      rcases h with ⟨e, _⟩ | ⟨e, _⟩ | ⟨e, _⟩ <;> first | (exfalso; revert e; assumption) | omega)
  · exact odd3 k5 (fun h => by
      rcases h with ⟨e, _⟩ | ⟨e, _⟩ | ⟨e, _⟩ <;> first | (exfalso; revert e; assumption) | omega)
  · exact odd3 k5 (fun h => by
      rcases h with ⟨e, _⟩ | ⟨e, _⟩ | ⟨e, _⟩ <;> first | (exfalso; revert e; assumption) | omega)
  · exact odd3 k5 (fun h => by
      rcases h with ⟨e, _⟩ | ⟨e, _⟩ | ⟨e, _⟩ <;> first | (exfalso; revert e; assumption) | omega)
  · exact odd3 k5 (fun h => by
      rcases h with ⟨e, _⟩ | ⟨e, _⟩ | ⟨e, _⟩ <;> first | (exfalso; revert e; assumption) | omega)
  · exact odd3 k4 (fun h => by
      rcases h with ⟨e, _⟩ | ⟨e, _⟩ | ⟨e, _⟩ <;> first | (exfalso; revert e; assumption) | omega)
  · exact odd3 k4 (fun h => by
      rcases h with ⟨e, _⟩ | ⟨e, _⟩ | ⟨e, _⟩ <;> first | (exfalso; revert e; assumption) | omega)
  · exact odd3 k6 (fun h => by
      rcases h with ⟨e, _⟩ | ⟨e, _⟩ | ⟨e, _⟩ <;> first | (exfalso; revert e; assumption) | omega)
  · exact odd3 k7 (fun h => by
      rcases h with ⟨e, _⟩ | ⟨e, _⟩ | ⟨e, _⟩ <;> first | (exfalso; revert e; assumption) | omega)
  · exact oddX (fun _ _ _ e => by cases e) (shL (by simp [PyData.canLay0, PyData.canLayAll0, k3, k4, k5, k8]) (by simp [PyData.depth, PyData.depthAll])) (shL (by simp [PyData.canLay0, PyData.canLayAll0, k3, k4, k5, k8]) (by simp [PyData.depth, PyData.depthAll])) (fun ds e => by cases e <;> (first | (show 0 ≤ 100; decide) | (show 1 ≤ 100; decide) | (show 2 ≤ 100; decide) | (show 3 ≤ 100; decide) | (show 4 ≤ 100; decide)))
  · exact oddX (fun _ _ _ e => by cases e) (shL (by simp [PyData.canLay0, PyData.canLayAll0, k3, k4, k5, k8]) (by simp [PyData.depth, PyData.depthAll])) (shL (by simp [PyData.canLay0, PyData.canLayAll0, k3, k4, k5, k8]) (by simp [PyData.depth, PyData.depthAll])) (fun ds e => by cases e <;> (first | (show 0 ≤ 100; decide) | (show 1 ≤ 100; decide) | (show 2 ≤ 100; decide) | (show 3 ≤ 100; decide) | (show 4 ≤ 100; decide)))
  · exact oddX (fun _ _ _ e => by cases e) (shL (by simp [PyData.canLay0, PyData.canLayAll0, k3, k4, k5, k8]) (by simp [PyData.depth, PyData.depthAll])) (shL (by simp [PyData.canLay0, PyData.canLayAll0, k3, k4, k5, k8]) (by simp [PyData.depth, PyData.depthAll])) (fun ds e => by cases e <;> (first | (show 0 ≤ 100; decide) | (show 1 ≤ 100; decide) | (show 2 ≤ 100; decide) | (show 3 ≤ 100; decide) | (show 4 ≤ 100; decide)))
  · exact oddX (fun _ _ _ e => by cases e) (shL (by simp [PyData.canLay0, PyData.canLayAll0, k3, k4, k5, k8]) (by simp [PyData.depth, PyData.depthAll])) (shL (by simp [PyData.canLay0, PyData.canLayAll0, k3, k4, k5, k8]) (by simp [PyData.depth, PyData.depthAll])) (fun ds e => by cases e <;> (first | (show 0 ≤ 100; decide) | (show 1 ≤ 100; decide) | (show 2 ≤ 100; decide) | (show 3 ≤ 100; decide) | (show 4 ≤ 100; decide)))
  · exact oddX (fun _ _ _ e => by cases e) (shL (by simp [PyData.canLay0, PyData.canLayAll0, k3, k4, k5, k8]) (by simp [PyData.depth, PyData.depthAll])) (shL (by simp [PyData.canLay0, PyData.canLayAll0, k3, k4, k5, k8]) (by simp [PyData.depth, PyData.depthAll])) (fun ds e => by cases e <;> (first | (show 0 ≤ 100; decide) | (show 1 ≤ 100; decide) | (show 2 ≤ 100; decide) | (show 3 ≤ 100; decide) | (show 4 ≤ 100; decide)))
  · exact odd3 k3 (fun h => by
      rcases h with ⟨e, _⟩ | ⟨e, _⟩ | ⟨e, _⟩ <;> first | (exfalso; revert e; assumption) | omega)
section
variable {P : Program} {w : World} {K : PySem.W.Frag} {mg : Str → Option Value} {base : Heap} {tp C CS : Addr}
theorem gaL1 {K : PySem.W.Frag} {b : Addr} {σ : L2.St} {L n : Int} (h1 : σ[1]? = some (some (V.int L))) (h2 : σ[2]? = some (some (V.int n))) : GA K b σ (tCons (tC .non) (tCons (tC (.int 0)) (tCons (tC (.str "top")) (tCons (tTup (tNil)) (tCons (tTup (tCons (tC (.str "top")) (tNil))) (tCons (tTup (tCons (tC (.str "top")) (tCons (tC (.int 0)) (tNil)))) (tCons (tTup (tCons (tC (.str "top")) (tCons (tC (.int 0)) (tCons (tC (.int 0)) (tCons (tC (.int 0)) (tNil)))))) (tCons (tLst (tCons (tC (.str "top")) (tCons (tC (.int 0)) (tCons (tC (.int 0)) (tNil))))) (tCons (tLst (tCons (tC (.str "open")) (tCons (tC (.int 1)) (tCons (tC (.int 0)) (tNil))))) (tCons (tTup (tCons (tC (.str "top")) (tCons (tC (.int 0)) (tCons (tC (.int 1)) (tNil))))) (tNil))))))))))) (oddL1 L n) := (ga_cons ge_non (ga_cons (ge_int _) (ga_cons (ge_str _) (ga_cons (ge_tup ga_nil (by show 0 ≤ 100; decide)) (ga_cons (ge_tup (ga_cons (ge_str _) ga_nil) (by show 1 ≤ 100; decide)) (ga_cons (ge_tup (ga_cons (ge_str _) (ga_cons (ge_int _) ga_nil)) (by show 2 ≤ 100; decide)) (ga_cons (ge_tup (ga_cons (ge_str _) (ga_cons (ge_int _) (ga_cons (ge_int _) (ga_cons (ge_int _) ga_nil)))) (by show 4 ≤ 100; decide)) (ga_cons (ge_lst (ga_cons (ge_str _) (ga_cons (ge_int _) (ga_cons (ge_int _) ga_nil))) (by show 3 ≤ 100; decide)) (ga_cons (ge_lst (ga_cons (ge_str _) (ga_cons (ge_int _) (ga_cons (ge_int _) ga_nil))) (by show 3 ≤ 100; decide)) (ga_cons (ge_tup (ga_cons (ge_str _) (ga_cons (ge_int _) (ga_cons (ge_int _) ga_nil))) (by show 3 ≤ 100; decide)) ga_nil))))))))))
theorem gaL2 {K : PySem.W.Frag} {b : Addr} {σ : L2.St} {L n : Int} (h1 : σ[1]? = some (some (V.int L))) (h2 : σ[2]? = some (some (V.int n))) : GA K b σ (tCons (tTup (tCons (tC (.str "top")) (tCons (tC (.bl false)) (tCons (tC (.int 0)) (tNil))))) (tCons (tTup (tCons (tC (.str "top")) (tCons (tC (.int 0)) (tCons (tC (.bl false)) (tNil))))) (tCons (tTup (tCons (tC (.str "open")) (tCons (tC (.bl true)) (tCons (tC (.int 0)) (tNil))))) (tCons (tTup (tCons (tC (.str "open")) (tCons (tC (.int 1)) (tCons (tC (.bl false)) (tNil))))) (tCons (tTup (tCons (tC (.str "kept")) (tCons (tC (.bl true)) (tCons (tC (.int 0)) (tNil))))) (tNil)))))) (oddL2 L n) := (ga_cons (ge_tup (ga_cons (ge_str _) (ga_cons (ge_bl _) (ga_cons (ge_int _) ga_nil))) (by show 3 ≤ 100; decide)) (ga_cons (ge_tup (ga_cons (ge_str _) (ga_cons (ge_int _) (ga_cons (ge_bl _) ga_nil))) (by show 3 ≤ 100; decide)) (ga_cons (ge_tup (ga_cons (ge_str _) (ga_cons (ge_bl _) (ga_cons (ge_int _) ga_nil))) (by show 3 ≤ 100; decide)) (ga_cons (ge_tup (ga_cons (ge_str _) (ga_cons (ge_int _) (ga_cons (ge_bl _) ga_nil))) (by show 3 ≤ 100; decide)) (ga_cons (ge_tup (ga_cons (ge_str _) (ga_cons (ge_bl _) (ga_cons (ge_int _) ga_nil))) (by show 3 ≤ 100; decide)) ga_nil)))))
theorem gaL3 {K : PySem.W.Frag} {b : Addr} {σ : L2.St} {L n : Int} (h1 : σ[1]? = some (some (V.int L))) (h2 : σ[2]? = some (some (V.int n))) : GA K b σ (tCons (tTup (tCons (tC (.str "open")) (tCons (tC (.int 0)) (tCons (tC (.int 0)) (tNil))))) (tCons (tTup (tCons (tC (.str "open")) (tCons (tC (.int 1)) (tCons (tC (.int 1)) (tNil))))) (tCons (tTup (tCons (tC (.str "open")) (tCons (tVar 1) (tCons (tC (.int 0)) (tNil))))) (tCons (tTup (tCons (tC (.str "kept")) (tCons (tVar 1) (tCons (tC (.int 0)) (tNil))))) (tCons (tTup (tCons (tC (.str "kept")) (tCons (tC (.int 0)) (tCons (tC (.int 0)) (tNil))))) (tNil)))))) (oddL3 L n) := (ga_cons (ge_tup (ga_cons (ge_str _) (ga_cons (ge_int _) (ga_cons (ge_int _) ga_nil))) (by show 3 ≤ 100; decide)) (ga_cons (ge_tup (ga_cons (ge_str _) (ga_cons (ge_int _) (ga_cons (ge_int _) ga_nil))) (by show 3 ≤ 100; decide)) (ga_cons (ge_tup (ga_cons (ge_str _) (ga_cons (ge_var h1) (ga_cons (ge_int _) ga_nil))) (by show 3 ≤ 100; decide)) (ga_cons (ge_tup (ga_cons (ge_str _) (ga_cons (ge_var h1) (ga_cons (ge_int _) ga_nil))) (by show 3 ≤ 100; decide)) (ga_cons (ge_tup (ga_cons (ge_str _) (ga_cons (ge_int _) (ga_cons (ge_int _) ga_nil))) (by show 3 ≤ 100; decide)) ga_nil)))))
theorem gaL4 {K : PySem.W.Frag} {b : Addr} {σ : L2.St} {L n : Int} (h1 : σ[1]? = some (some (V.int L))) (h2 : σ[2]? = some (some (V.int n))) : GA K b σ (tCons (tTup (tCons (tC (.str "kept")) (tCons (tC (.int 1)) (tCons (tC (.int 1)) (tNil))))) (tCons (tTup (tCons (tC (.str "kept")) (tCons (tC (.int 1)) (tCons (tUn (rU fun i => V.int (-i)) (tC (.int 1))) (tNil))))) (tCons (tTup (tCons (tC (.str "kept")) (tCons (tVar 1) (tCons (tVar 1) (tNil))))) (tCons (tTup (tCons (tC (.str "kept")) (tCons (tOp (rI0 fun i j => V.int (i + j)) (tVar 1) (tVar 2)) (tCons (tC (.int 1)) (tNil))))) (tNil))))) (oddL4 L n) := (ga_cons (ge_tup (ga_cons (ge_str _) (ga_cons (ge_int _) (ga_cons (ge_int _) ga_nil))) (by show 3 ≤ 100; decide)) (ga_cons (ge_tup (ga_cons (ge_str _) (ga_cons (ge_int _) (ga_cons (fun H R _ h => ⟨_, rfl, h _ H (Same.refl H) fun _ _ => .int _⟩) ga_nil))) (by show 3 ≤ 100; decide)) (ga_cons (ge_tup (ga_cons (ge_str _) (ga_cons (ge_var h1) (ga_cons (ge_var h1) ga_nil))) (by show 3 ≤ 100; decide)) (ga_cons (ge_tup (ga_cons (ge_str _) (ga_cons (fun H R _ h => ⟨_, h1, _, h2, _, _, rfl, rfl, h _ H (Same.refl H) fun _ _ => .int _⟩) (ga_cons (ge_int _) ga_nil))) (by show 3 ≤ 100; decide)) ga_nil))))
theorem gaL5 {K : PySem.W.Frag} {b : Addr} {σ : L2.St} {L n : Int} (h1 : σ[1]? = some (some (V.int L))) (h2 : σ[2]? = some (some (V.int n))) : GA K b σ (tCons (tTup (tCons (tC (.str "open")) (tCons (tOp (rI0 fun i j => V.int (i + j)) (tVar 1) (tVar 2)) (tCons (tC (.int 0)) (tNil))))) (tCons (tTup (tCons (tC (.str "open")) (tCons (tUn (rU fun i => V.int (-i)) (tVar 2)) (tCons (tC (.int 0)) (tNil))))) (tCons (tTup (tCons (tC (.str "Open")) (tCons (tC (.int 1)) (tCons (tC (.int 0)) (tNil))))) (tCons (tTup (tCons (tC (.str "")) (tCons (tC (.int 1)) (tCons (tC (.int 0)) (tNil))))) (tCons (tTup (tCons (tC (.int 0)) (tCons (tC (.int 1)) (tCons (tC (.int 0)) (tNil))))) (tNil)))))) (oddL5 L n) := (ga_cons (ge_tup (ga_cons (ge_str _) (ga_cons (fun H R _ h => ⟨_, h1, _, h2, _, _, rfl, rfl, h _ H (Same.refl H) fun _ _ => .int _⟩) (ga_cons (ge_int _) ga_nil))) (by show 3 ≤ 100; decide)) (ga_cons (ge_tup (ga_cons (ge_str _) (ga_cons (fun H R _ h => ⟨_, h2, _, rfl, h _ H (Same.refl H) fun _ _ => .int _⟩) (ga_cons (ge_int _) ga_nil))) (by show 3 ≤ 100; decide)) (ga_cons (ge_tup (ga_cons (ge_str _) (ga_cons (ge_int _) (ga_cons (ge_int _) ga_nil))) (by show 3 ≤ 100; decide)) (ga_cons (ge_tup (ga_cons (ge_str _) (ga_cons (ge_int _) (ga_cons (ge_int _) ga_nil))) (by show 3 ≤ 100; decide)) (ga_cons (ge_tup (ga_cons (ge_int _) (ga_cons (ge_int _) (ga_cons (ge_int _) ga_nil))) (by show 3 ≤ 100; decide)) ga_nil)))))
theorem gaL6 {K : PySem.W.Frag} {b : Addr} {σ : L2.St} {L n : Int} (h1 : σ[1]? = some (some (V.int L))) (h2 : σ[2]? = some (some (V.int n))) : GA K b σ (tCons (tTup (tCons (tC (.str "kept")) (tCons (tC (.str "1")) (tCons (tC (.int 0)) (tNil))))) (tCons (tTup (tCons (tC (.str "kept")) (tCons (tC (.int 1)) (tCons (tC .non) (tNil))))) (tCons (tTup (tCons (tTup (tCons (tC (.str "top")) (tCons (tC (.int 0)) (tCons (tC (.int 0)) (tNil))))) (tNil))) (tCons (tTup (tCons (tC (.str "kept")) (tCons (tTup (tCons (tC (.int 1)) (tCons (tC (.int 0)) (tNil)))) (tNil)))) (tCons (tTup (tCons (tC (.str "top")) (tCons (tC (.int 1)) (tCons (tC (.int 0)) (tNil))))) (tNil)))))) (oddL6 L n) := (ga_cons (ge_tup (ga_cons (ge_str _) (ga_cons (ge_str _) (ga_cons (ge_int _) ga_nil))) (by show 3 ≤ 100; decide)) (ga_cons (ge_tup (ga_cons (ge_str _) (ga_cons (ge_int _) (ga_cons ge_non ga_nil))) (by show 3 ≤ 100; decide)) (ga_cons (ge_tup (ga_cons (ge_tup (ga_cons (ge_str _) (ga_cons (ge_int _) (ga_cons (ge_int _) ga_nil))) (by show 3 ≤ 100; decide)) ga_nil) (by show 1 ≤ 100; decide)) (ga_cons (ge_tup (ga_cons (ge_str _) (ga_cons (ge_tup (ga_cons (ge_int _) (ga_cons (ge_int _) ga_nil)) (by show 2 ≤ 100; decide)) ga_nil)) (by show 2 ≤ 100; decide)) (ga_cons (ge_tup (ga_cons (ge_str _) (ga_cons (ge_int _) (ga_cons (ge_int _) ga_nil))) (by show 3 ≤ 100; decide)) ga_nil)))))
/-! ### _law_odd -/
def spOdd (K : PySem.W.Frag) : Sp := fun vs H Q _ => ∃ (b : Addr) (L : Int), vs = [.ref b, .int L] ∧ 2 ≤ L ∧ L ≤ 9 ∧ IsBag H b ∧ ∀ v d H', Bk b H H' → Dq K b H' v d → OddD L d → Q v H'
abbrev sL_odd : Stmt := topS 27
theorem scL_odd : FnScope ["_law_bag_here", "_law_length_here", "_law_number_here", "_law_odd_here"] ["_law_bag_here", "_law_length_here"] (defScope sL_odd) := ⟨rfl, rfl, rfl, by decide +kernel, rfl, by decide +kernel, by decide +kernel⟩
theorem ok_odd {f : Addr} {fd : FuncData} (F : Fun K "_law_odd" "_law_odd" sL_odd f fd) (T : Txt K mg tp C) (C__law_draw : CallOk P w K mg base 1 "_law_draw" ["_law_bag_here", "_law_many"] spDraw) : FnOk P w K mg base CX0 2 f fd ["_law_bag_here", "_law_length_here"] (spOdd K) := by
  refine F.ok scL_odd (fun vs H Q E h => ?_) (fun cdv A outer s H vs Q E hr h => ?_)
  · obtain ⟨b, L, rfl, _⟩ := h
    rfl
  · obtain ⟨b, L, rfl, hL2, hL9, hb, k⟩ := h
    refine ⟨_, (pss_cons (ps_set (i := 2) scL_odd.nd rfl (.inl rfl) (pe_op op_add pe_int (pe_cc C__law_draw (hr.mono (by decide)) (by rfl) (pa_cons (pv 0) (pa_cons (pe_op op_pow pe_int pe_int) pa_nil)))))
      (pss_cons (ps_set (i := 3) scL_odd.nd rfl (.inl rfl) (pe_lst (pa_cons pe_non (pa_cons pe_int (pa_cons pe_str (pa_cons (pe_tup pa_nil) (pa_cons (pe_tup (pa_cons pe_str pa_nil)) (pa_cons (pe_tup (pa_cons pe_str (pa_cons pe_int pa_nil))) (pa_cons (pe_tup (pa_cons pe_str (pa_cons pe_int (pa_cons pe_int (pa_cons pe_int pa_nil))))) (pa_cons (pe_lst (pa_cons pe_str (pa_cons pe_int (pa_cons pe_int pa_nil)))) (pa_cons (pe_lst (pa_cons pe_str (pa_cons pe_int (pa_cons pe_int pa_nil)))) (pa_cons (pe_tup (pa_cons pe_str (pa_cons pe_int (pa_cons pe_int pa_nil)))) pa_nil))))))))))))
      (pss_cons (ps_set (i := 3) scL_odd.nd rfl (.inl rfl) (pe_op op_cat (pv 3) (pe_lst (pa_cons (pe_tup (pa_cons pe_str (pa_cons pe_bl (pa_cons pe_int pa_nil)))) (pa_cons (pe_tup (pa_cons pe_str (pa_cons pe_int (pa_cons pe_bl pa_nil)))) (pa_cons (pe_tup (pa_cons pe_str (pa_cons pe_bl (pa_cons pe_int pa_nil)))) (pa_cons (pe_tup (pa_cons pe_str (pa_cons pe_int (pa_cons pe_bl pa_nil)))) (pa_cons (pe_tup (pa_cons pe_str (pa_cons pe_bl (pa_cons pe_int pa_nil)))) pa_nil))))))))
      (pss_cons (ps_set (i := 3) scL_odd.nd rfl (.inl rfl) (pe_op op_cat (pv 3) (pe_lst (pa_cons (pe_tup (pa_cons pe_str (pa_cons pe_int (pa_cons pe_int pa_nil)))) (pa_cons (pe_tup (pa_cons pe_str (pa_cons pe_int (pa_cons pe_int pa_nil)))) (pa_cons (pe_tup (pa_cons pe_str (pa_cons (pv 1) (pa_cons pe_int pa_nil)))) (pa_cons (pe_tup (pa_cons pe_str (pa_cons (pv 1) (pa_cons pe_int pa_nil)))) (pa_cons (pe_tup (pa_cons pe_str (pa_cons pe_int (pa_cons pe_int pa_nil)))) pa_nil))))))))
      (pss_cons (ps_set (i := 3) scL_odd.nd rfl (.inl rfl) (pe_op op_cat (pv 3) (pe_lst (pa_cons (pe_tup (pa_cons pe_str (pa_cons pe_int (pa_cons pe_int pa_nil)))) (pa_cons (pe_tup (pa_cons pe_str (pa_cons pe_int (pa_cons (pe_un un_neg pe_int) pa_nil)))) (pa_cons (pe_tup (pa_cons pe_str (pa_cons (pv 1) (pa_cons (pv 1) pa_nil)))) (pa_cons (pe_tup (pa_cons pe_str (pa_cons (pe_op op_add (pv 1) (pv 2)) (pa_cons pe_int pa_nil)))) pa_nil)))))))
      (pss_cons (ps_set (i := 3) scL_odd.nd rfl (.inl rfl) (pe_op op_cat (pv 3) (pe_lst (pa_cons (pe_tup (pa_cons pe_str (pa_cons (pe_op op_add (pv 1) (pv 2)) (pa_cons pe_int pa_nil)))) (pa_cons (pe_tup (pa_cons pe_str (pa_cons (pe_un un_neg (pv 2)) (pa_cons pe_int pa_nil)))) (pa_cons (pe_tup (pa_cons pe_str (pa_cons pe_int (pa_cons pe_int pa_nil)))) (pa_cons (pe_tup (pa_cons pe_str (pa_cons pe_int (pa_cons pe_int pa_nil)))) (pa_cons (pe_tup (pa_cons pe_int (pa_cons pe_int (pa_cons pe_int pa_nil)))) pa_nil))))))))
      (pss_cons (ps_set (i := 3) scL_odd.nd rfl (.inl rfl) (pe_op op_cat (pv 3) (pe_lst (pa_cons (pe_tup (pa_cons pe_str (pa_cons pe_str (pa_cons pe_int pa_nil)))) (pa_cons (pe_tup (pa_cons pe_str (pa_cons pe_int (pa_cons pe_non pa_nil)))) (pa_cons (pe_tup (pa_cons (pe_tup (pa_cons pe_str (pa_cons pe_int (pa_cons pe_int pa_nil)))) pa_nil)) (pa_cons (pe_tup (pa_cons pe_str (pa_cons (pe_tup (pa_cons pe_int (pa_cons pe_int pa_nil))) pa_nil))) (pa_cons (pe_tup (pa_cons pe_str (pa_cons pe_int (pa_cons pe_int pa_nil)))) pa_nil))))))))
      (pss_one (ps_ret (pe_ix ix_list (pv 3) (pe_cc C__law_draw (hr.mono (by decide)) (by rfl) (pa_cons (pv 0) (pa_cons (pe_callB call_len_seq (by rfl) T.b_len PySem.boot_len (pa_cons (pv 3) pa_nil)) pa_nil))) (fun _ _ => rfl))))))))))), ?_⟩
    have hp : (10 : Int) ^ (20 : Int).toNat = 100000000000000000000 := by decide +kernel
    refine ⟨_, rfl, 10, 20, rfl, rfl, ⟨by decide, by decide, by decide⟩, b, (10 : Int) ^ (20 : Int).toNat, rfl, hb, (by rw [hp]; omega), (by rw [hp]; omega), fun dn H1 h0 _ bk1 => ⟨1, dn, rfl, rfl, ?_⟩⟩
    have hn : (1 : Int) ≤ 1 + dn := by omega
    show gName 2 (V.int (1 + dn)) [some (.ref b), some (.int L), none, none] H1 _
    generalize (1 : Int) + dn = n at hn
    refine stp0 ?_
    have hb1 := bk1.bag
    refine rd_lst (K := K) (σ := [some (.ref b), some (.int L), some (.int n), none]) hb1 (gaL1 rfl rfl) (by show 10 ≤ 100; decide) fun xs1 q1 H2 s2 hq1 h2 d2 => ?_
    refine stp ?_
    have hb2 := bag_same s2 hb1
    refine rd_cat (K := K) (σ := [some (.ref b), some (.int L), some (.int n), some (.ref q1)]) hb2 rfl h2 d2 (gaL2 rfl rfl) (by show 5 ≤ 100; decide) (by show 10 ≤ 100; decide) fun xs2 q2 H3 s3 hq2 h3 d3 => ?_
    refine stp ?_
    have hb3 := bag_same s3 hb2
    refine rd_cat (K := K) (σ := [some (.ref b), some (.int L), some (.int n), some (.ref q2)]) hb3 rfl h3 d3 (gaL3 rfl rfl) (by show 5 ≤ 100; decide) (by show 15 ≤ 100; decide) fun xs3 q3 H4 s4 hq3 h4 d4 => ?_
    refine stp ?_
    have hb4 := bag_same s4 hb3
    refine rd_cat (K := K) (σ := [some (.ref b), some (.int L), some (.int n), some (.ref q3)]) hb4 rfl h4 d4 (gaL4 rfl rfl) (by show 4 ≤ 100; decide) (by show 20 ≤ 100; decide) fun xs4 q4 H5 s5 hq4 h5 d5 => ?_
    refine stp ?_
    have hb5 := bag_same s5 hb4
    refine rd_cat (K := K) (σ := [some (.ref b), some (.int L), some (.int n), some (.ref q4)]) hb5 rfl h5 d5 (gaL5 rfl rfl) (by show 5 ≤ 100; decide) (by show 24 ≤ 100; decide) fun xs5 q5 H6 s6 hq5 h6 d6 => ?_
    refine stp ?_
    have hb6 := bag_same s6 hb5
    refine rd_cat (K := K) (σ := [some (.ref b), some (.int L), some (.int n), some (.ref q5)]) hb6 rfl h6 d6 (gaL6 rfl rfl) (by show 5 ≤ 100; decide) (by show 29 ≤ 100; decide) fun xs6 q6 H7 s7 hq6 h7 d7 => ?_
    refine hd_last ?_
    have hb7 := bag_same s7 hb6
    have hl34 : xs6.length = 34 := by rw [dqAll_len hb7 d7]; rfl
    have bT : Bk b H H7 := bk1.trans (bk_of (((((s2.trans s3).trans s4).trans s5).trans s6).trans s7) hb1)
    refine ⟨_, rfl, _, rfl, _, rfl, q6, xs6, rfl, .inl (SqL.of h7), b, _, rfl, hb7, by rw [hl34]; decide, by rw [hl34]; decide, fun dd H8 g0 g1 bk2 => ?_⟩
    obtain ⟨i, rfl⟩ : ∃ i : Nat, dd = (i : Int) := ⟨dd.toNat, by omega⟩
    have hi : i < xs6.length := by omega
    obtain ⟨d, hd, hD⟩ := dpAll_at (i := i) (d7 H8 bk2) (List.getElem?_eq_getElem hi)
    refine ⟨q6, xs6, (i : Int), _, rfl, rfl, bk2.seqL (SqL.of h7) (ne_bag hb6 hq6), atI_nat (j := i) (List.getElem?_eq_getElem hi), ?_⟩
    refine k _ d H8 (bT.trans bk2) (fun H' kk => ?_) (odd_all hL2 hL9 hn d (List.mem_of_getElem? hd))
    obtain ⟨d', hd', hD'⟩ := dpAll_at (i := i) (d7 H' (bk2.trans kk)) (List.getElem?_eq_getElem hi)
    rw [hd] at hd'
    cases hd'
    exact hD'
end
end Pa
set_option maxRecDepth 100000
set_option maxHeartbeats 4000000
namespace Pa
open PySem PySem.Spec PyProof.Rows L2 SrtO
theorem y_lead {L : Int} {z : Z3} (hz : StdZ L z) : yOf (pageOf L (leadZ z)) = zY z := by
  obtain ⟨a, h, t⟩ := z
  unfold StdZ at hz
  dsimp only at hz
  unfold leadZ leadB zY zKd
  dsimp only
  rcases hz with ⟨rfl, h1, h2, h3, h4, h5⟩ | ⟨rfl, h1, h2, h3⟩ | h0
  · rw [if_neg (by simp)]
    by_cases ht : t = 0
    · subst ht
      rw [if_pos (show Int.toNat 0 = 0 from rfl)]
      obtain ⟨rows, e⟩ := lead_kept0 (L := L) h.toNat (by omega) (by omega)
      rw [e]
      unfold yOf
      ext1
      · rfl
      · ext1
        · show ((h.toNat : Nat) : Int) = h
          omega
        · rfl
    · rw [if_neg (by omega)]
      obtain ⟨rows, e⟩ := lead_kept (L := L) (h.toNat - t.toNat) t.toNat (by omega) (by omega) (by omega)
      rw [e]
      unfold yOf
      ext1
      · rfl
      · ext1
        · show ((h.toNat - t.toNat + t.toNat : Nat) : Int) = h
          omega
        · show ((t.toNat : Nat) : Int) = t
          omega
  · rw [if_pos (by simp)]
    obtain ⟨rows, e⟩ := lead_open (L := L) h.toNat (by omega)
    rw [e]
    unfold yOf
    ext1
    · rfl
    · ext1
      · show ((h.toNat : Nat) : Int) = h
        omega
      · show (0 : Int) = t
        omega
  · simp only [Prod.mk.injEq] at h0
    obtain ⟨rfl, rfl, rfl⟩ := h0
    rfl
theorem seq_of_is {K : PySem.W.Frag} {H : Hp} {L : Int} {p : Addr} {z : Z3} {q : SB} (hz : StdZ L z) (e : yOf q = zY z) (h : StIs H p q) : SqT K H p [.str (wordN z.1), .int z.2.1, .int z.2.2] := by
  have e1 := congrArg Prod.fst e
  have e2 := congrArg (fun x => x.2.1) e
  have e3 := congrArg (fun x => x.2.2) e
  unfold yOf zY at e1 e2 e3
  dsimp only at e1 e2 e3
  unfold StIs at h
  rw [e1, e2, e3, ← std_word hz] at h
  exact SqT.of h
end Pa
set_option maxRecDepth 100000
set_option maxHeartbeats 4000000
namespace Pa
open PySem PySem.Spec PyProof.Rows L2 SrtO
/-- o.m(e, .., k = v, ..): n values and the keywords' values, put into the parameters' order by gV -/
def tMethK (C : Addr) (m : Str) (n j : Nat) (sp : Sp) (gV : List V → List V → List V) (ta : TE) (t tk : TA) : TE :=
  fun σ H Q => ta σ H fun x H1 => ∃ a dx fs, x = .ref a ∧ H1 a = some (.ins C dx fs) ∧ fs.lookup m = none ∧
    t σ H1 fun vs H2 => tk σ H2 fun zs H3 => vs.length = n ∧ zs.length = j ∧ sp (gV (x :: vs) zs) H3 Q E0
section
variable {X : Cx} {k n : Nat} {f C : Addr} {fd : FuncData} {ps ks : List Str} {sp : Sp}
variable {m : Str} {apos pos : Pos} {o e : Expr} {es : List Expr} {kws : List Keyword} {ta : TE} {t tk : TA}
variable {g : List Value → List Value → List Value} {gV : List V → List V → List V}
theorem pe_methK {pl : Sem Bool} (he : PE X o ta) (c : Cls X.K C) (hm : Meth X.K C m f)
    (F : FnOk X.prog X.w X.K X.mg X.base CX0 k f fd ps sp) (hr : Room k X.A)
    (hb : KBn X.K fd ps (n + 1) ks g gV) (ha : PA X (e :: es) t) (hkw : PK X kws tk)
    (hall : (backToKw pos (keywordEach kws X.env)).all (·.1.isSome) = true := by rfl)
    (hks : (backToKw pos (keywordEach kws X.env)).filterMap (·.1) = ks := by rfl)
    (hst : starEach (e :: es) X.env = (false, eval e X.env) :: starEach es X.env := by rfl)
    (hpl : ((backTo pos (starEach (e :: es) X.env)).any (·.1) ||
      (backToKw pos (keywordEach kws X.env)).any (·.1.isNone)) = false := by rfl)
    (ht : eval (.Call (.Attribute o m apos) (e :: es) kws pos) X.env = (do
      let z ← eval o X.env
      standAt apos.atName
      let (f, first) ← holding [z] (getMethod z m pl)
      callWith pos f first (backTo pos (starEach (e :: es) X.env))
        (backToKw pos (keywordEach kws X.env))) := by rfl) :
    PE X (.Call (.Attribute o m apos) (e :: es) kws pos) (tMethK C m n ks.length sp gV ta t tk) := by
  constructor
  intro pins s σ H Q I h
  refine PySem.W.methodCall_KW (pl := pl) (thn (he.run pins s σ H _ I h) ?_) ht
  rintro u s1 ⟨x, H1, I1, rx, a, dx, fs, ex, ea, l, q⟩
  subst ex
  cases (show u = Value.ref a from rx)
  refine getmeth_ok I1 ea c hm l ?_
  refine PySem.W.callWith_KW (first := [.ref a]) (h₀ := X.base) I.ok.mod.kin hm.kp hall ?_ hpl hst
  refine thn (ha.run pos pins s1 σ H1 _ I1 q) ?_
  rintro us s2 ⟨vs, H2, I2, r, q2⟩
  refine thn (hkw.run pos pins s2 σ H2 _ I2 q2) ?_
  rintro ws s3 ⟨zs, H3, I3, rz, l1, l2, q3⟩
  refine ⟨I3.kIn, ?_⟩
  rw [hks]
  have rr : Vals (.ref a :: vs) (.ref a :: us) := .cons rfl r
  exact run_fnN (us := .ref a :: us) (vs := .ref a :: vs) F hr hb pass0 I3 rr rz (congrArg (· + 1) l1) l2 q3
end

theorem mk_facts {C x dx rl : Addr} {H : Hp} {H1 : Hp} (nx : H x = none) (ndx : H dx = none) (ka : ∀ a o, a ≠ x → (upd (upd H dx (.own x)) x (.ins C dx [])) a = some o → H1 a = some o) (hr : (upd (upd H dx (.own x)) x (.ins C dx [])) rl = none) : Same H H1 ∧ H rl = none := by
  refine ⟨fun q o e => ka q o (fun r => by rw [r, nx] at e; cases e) (by
    rw [upd_ne (ne_of_none e nx), upd_ne (ne_of_none e ndx)]
    exact e), ?_⟩
  cases e : H rl with
  | none => rfl
  | some o =>
    have nr : rl ≠ x := fun r => by rw [r, nx] at e; cases e
    have nd : rl ≠ dx := fun r => by rw [r, ndx] at e; cases e
    rw [upd_ne nr, upd_ne nd, e] at hr
    cases hr

/-! ### C.m(..), m a staticmethod -/
structure SMet (K : PySem.W.Frag) (C : Addr) (mc : Value) (m : Str) (p g : Addr) : Prop where
  at_ : PySem.W.findCls K (.ref C) mc m = some (.get (.builtin "staticmethod.__get__") (.ref p) .none (.ref C))
  rc : ∃ rest, PySem.W.recIn K p "staticmethod" = some (.ref g :: rest)
  kp : PySem.W.keepIn K (.ref g) = true
def tSMeth (C : Addr) (sp : Sp) (E : XK) (ta : TE) (t : TA) : TE := fun σ H Q => ta σ H fun x H1 => x = .ref C ∧ t σ H1 fun vs H2 => sp vs H2 Q E
section
variable {X : Cx} {CX : CXT} {k : Nat} {C p g : Addr} {mc : Value} {fd : FuncData} {ps : List Str} {sp : Sp} {E : XK} {m : Str} {apos pos : Pos} {o e : Expr} {es : List Expr} {ta : TE} {t : TA}
theorem pe_sm {pl : Sem Bool} (he : PE X o ta) (r : ClX.CRead X.K C mc) (c : SMet X.K C mc m p g) (F : FnOk X.prog X.w X.K X.mg X.base CX k g fd ps sp) (hr : Room k X.A) (hb : Binds X.K fd ps []) (hx : Passes CX X E) (ha : PA X (e :: es) t)
    (hst : starEach (e :: es) X.env = (false, eval e X.env) :: starEach es X.env := by rfl) (hpl : (backTo pos (starEach es X.env)).any (·.1) = false := by rfl)
    (ht : eval (.Call (.Attribute o m apos) (e :: es) [] pos) X.env = (do
      let ov ← eval o X.env
      standAt apos.atName
      let (f, first) ← holding [ov] (getMethod ov m pl)
      callWith pos f first (backTo pos (starEach (e :: es) X.env)) (backToKw pos (keywordEach [] X.env))) := by rfl) :
    PE X (.Call (.Attribute o m apos) (e :: es) [] pos) (tSMeth C sp E ta t) := by
  refine ⟨fun pins s σ H Q I h => ?_⟩
  refine PySem.W.methodCall_KW (pl := pl) (thn (he.run pins s σ H _ I h) fun u s1 ⟨x, H1, I1, rx, ex, q⟩ => ?_) ht
  subst ex
  obtain rfl : u = Value.ref C := rx
  obtain ⟨rest, hp⟩ := c.rc
  refine PySem.W.method_cls I1.kIn r.ga (PySem.W.cls_bind I1.kIn r.rd c.at_ (wpAny_call (PySem.W.sm_get (s := { s1 with toks := s1.toks + 1 }) I1.kIn hp (PySem.W.handed_on rfl ?_))))
  have I2 : Inv X pins σ H1 { s1 with toks := s1.toks + 1 } := I1.tok _
  refine PySem.W.callWith_K (first := []) (h₀ := X.base) I2.ok.mod.kin c.kp (thn (ha.run pos pins _ σ H1 _ I2 q) fun us s3 ⟨vs, H2, I3, rv, q2⟩ => ⟨I3.kIn, ?_⟩) hst hpl
  have q3 : sp (vs ++ []) H2 Q E := by rw [List.append_nil]; exact q2
  exact run_fn (us := us) (vs := vs) F hr hb .nil hx I3 rv q3
end
end Pa
set_option maxRecDepth 100000
set_option maxHeartbeats 4000000
namespace Pa
open PySem PySem.Spec PyProof.Rows L2 SrtO
/-! ### the rows that a Page sets that goes on behind a standing -/
def behZ (L : Int) (z : Z3) (bs : List Bl) : List Int := (pageR L (res0 (zKd z) z.2.1 z.2.2) bs).rows
theorem lines_rep (k : Bool) : ∀ n, (linesOf (List.replicate n (oB k))).ls.length = n
  | 0 => rfl
  | n + 1 => by
    rw [List.replicate_succ', linesOf_snoc]
    unfold stepB
    rw [List.length_append, lines_rep k n]
    rfl
theorem lines_len (bs : List Bl) (r : List Bl) : ∀ t : LS, (r.foldl stepB t).ls.length = t.ls.length + (r.map (·.c)).sum := by
  induction r with
  | nil => intro t; simp
  | cons b r ih =>
    intro t
    rw [List.foldl_cons, ih]
    unfold stepB
    dsimp only
    rw [List.length_append, List.map_cons, List.sum_cons]
    have : (blLines b.c b.s t.kp (t.du || b.g) b.c).length = b.c := by unfold blLines; simp
    omega
theorem lines_sum (bs : List Bl) : (linesOf bs).ls.length = (bs.map (·.c)).sum := by
  unfold linesOf
  rw [lines_len bs]
  simp
theorem sum_one : ∀ {bs : List Bl}, (∀ b ∈ bs, b.c = 1) → (bs.map (·.c)).sum = bs.length
  | [], _ => rfl
  | b :: bs, h => by
    rw [List.map_cons, List.sum_cons, sum_one fun x hx => h x (List.mem_cons_of_mem _ hx), h b List.mem_cons_self, List.length_cons]
    omega
theorem std_b {L : Int} {z : Z3} (hz : StdZ L z) : 0 ≤ z.2.1 ∧ z.2.1 ≤ L ∨ z = (2, 0, 0) := by
  unfold StdZ at hz
  rcases hz with h | h | h
  · exact .inl (by omega)
  · exact .inl (by omega)
  · exact .inr h
theorem std_n {L : Int} {z : Z3} (hz : StdZ L z) : 0 ≤ z.2.1 ∧ 0 ≤ z.2.2 ∧ (z.2.2 < z.2.1 ∨ z.2.2 = 0) := by
  unfold StdZ at hz
  rcases hz with h | h | h
  · omega
  · omega
  · rw [h]; decide
theorem lead_page {L : Int} {z : Z3} (hz : StdZ L z) : ∃ rows, pageOf L (leadZ z) = ⟨zKd z, z.2.1, z.2.2, z.2.2, rows⟩ ∧ (leadZ z).length = z.2.1.toNat ∧ ∀ b ∈ leadZ z, b.c = 1 ∧ b.s = 0 := by
  obtain ⟨a, h, t⟩ := z
  unfold StdZ at hz
  dsimp only at hz
  unfold leadZ leadB zKd
  dsimp only
  have hmem : ∀ k n, ∀ b ∈ List.replicate n (oB k), b.c = 1 ∧ b.s = 0 := fun k n b hb => by rw [(List.mem_replicate.mp hb).2]; exact ⟨rfl, rfl⟩
  rcases hz with ⟨rfl, h1, h2, h3, h4, h5⟩ | ⟨rfl, h1, h2, h3⟩ | h0
  · rw [if_neg (by simp)]
    by_cases ht : t = 0
    · subst ht
      rw [if_pos (show Int.toNat 0 = 0 from rfl)]
      obtain ⟨rows, e⟩ := lead_kept0 (L := L) h.toNat (by omega) (by omega)
      refine ⟨rows, ?_, List.length_replicate, hmem _ _⟩
      rw [e]
      have : ((h.toNat : Nat) : Int) = h := by omega
      rw [this]
      rfl
    · rw [if_neg (by omega)]
      obtain ⟨rows, e⟩ := lead_kept (L := L) (h.toNat - t.toNat) t.toNat (by omega) (by omega) (by omega)
      refine ⟨rows, ?_, ?_, fun b hb => ?_⟩
      · rw [e]
        have e1 : ((h.toNat - t.toNat + t.toNat : Nat) : Int) = h := by omega
        have e2 : ((t.toNat : Nat) : Int) = t := by omega
        rw [e1, e2]
        rfl
      · rw [List.length_append, List.length_replicate, List.length_replicate]
        omega
      · rcases List.mem_append.mp hb with q | q
        · exact hmem _ _ b q
        · exact hmem _ _ b q
  · rw [if_pos (by simp)]
    obtain ⟨rows, e⟩ := lead_open (L := L) h.toNat (by omega)
    refine ⟨rows, ?_, List.length_replicate, hmem _ _⟩
    rw [e, h3]
    have : ((h.toNat : Nat) : Int) = h := by omega
    rw [this]
    rfl
  · simp only [Prod.mk.injEq] at h0
    obtain ⟨rfl, rfl, rfl⟩ := h0
    exact ⟨[], rfl, rfl, fun b hb => by cases hb⟩
theorem beh_law {L : Int} (hL : 2 ≤ L) {z : Z3} (hz : StdZ L z) (bs : List Bl) (h : ∀ b ∈ bs, 0 ≤ b.s) :
    (rowsOf (runS L (linesOf (leadZ z ++ bs)).ls)).drop (linesOf (leadZ z)).ls.length = behZ L z bs := by
  have hL0 : (0 : Int) < L := by omega
  obtain ⟨A, e, hlen, hmem⟩ := lead_page hz
  obtain ⟨n1, n2, n3⟩ := std_n hz
  have hs : ∀ b ∈ leadZ z, 0 ≤ b.s := fun b hb => by rw [(hmem b hb).2]; decide
  have hsa : ∀ b ∈ leadZ z ++ bs, 0 ≤ b.s := fun b hb => by
    rcases List.mem_append.mp hb with q | q
    · exact hs b q
    · exact h b q
  have hA : A.length = (linesOf (leadZ z)).ls.length := by
    have r := rows_same hL0 (leadZ z) hs
    rw [e] at r
    dsimp only at r
    rw [r, (right_ok hL0 (good_lines (leadZ z) hs).1).1]
  have hl : (linesOf (leadZ z)).ls.length = z.2.1.toNat := by rw [lines_sum, sum_one fun b hb => (hmem b hb).1, hlen]
  have et : ((z.2.2.toNat : Nat) : Int) = z.2.2 := by omega
  have S0 : SimB A z.2.2.toNat (z.2.1 - (z.2.2.toNat : Nat)) (pageOf L (leadZ z)) (res0 (zKd z) z.2.1 z.2.2) := by
    rw [e]
    have q := sim0 (kd := zKd z) (h := z.2.1) (t := z.2.2.toNat) (A := A)
    rw [et] at q ⊢
    exact q
  have hc : z.2.2.toNat ≤ A.length := by rw [hA, hl]; omega
  have S1 := sim_page (L := L) hc S0 bs h
  have R := res_ok hc (fun q => by omega) S1 fun q => pageR_w (by
    show (if z.2.2 > 0 then none else some false) = some false
    rw [if_neg (by omega)]) bs
  rw [← rows_same hL0 _ hsa, ← hA]
  exact R.rows
/-! ### twins -/
structure EqW (p r : RP) : Prop where
  h : p.h = r.h
  t : p.t = r.t
  lo : p.lo = r.lo
  rows : p.rows = r.rows
theorem eqw_line {L : Int} {p r : RP} (E : EqW p r) (s : Int) (b : Bool) : EqW (lineR L p s b) (lineR L r s b) := by
  unfold lineR
  rw [E.h, E.t, E.lo, E.rows]
  exact ⟨rfl, rfl, rfl, rfl⟩
theorem eqw_run {L : Int} {c : Nat} {s : Int} {kd : Bool} {p r : RP} (n0 : Nat) (E : EqW (runR L c s kd p n0) (runR L c s kd r n0)) : ∀ n, n0 ≤ n → EqW (runR L c s kd p n) (runR L c s kd r n)
  | 0, h => by have : n0 = 0 := by omega
               subst this; exact E
  | n + 1, h => by
    by_cases q : n0 = n + 1
    · subst q; exact E
    · exact eqw_line (eqw_run n0 E n (by omega)) _ _
structure EqB (p r : RB) : Prop where
  kd : p.kd = r.kd
  e : EqW ⟨p.h, p.t, p.lo, p.rows, p.w⟩ ⟨r.h, r.t, r.lo, r.rows, r.w⟩
theorem eqb_end {L : Int} {p r : RP} (E : EqW p r) (k : Bool) : EqB (endR L p k) (endR L r k) := by
  unfold endR
  rw [E.h, E.t, E.lo, E.rows]
  split
  · exact ⟨rfl, rfl, rfl, rfl, rfl⟩
  · split
    · exact ⟨rfl, rfl, rfl, rfl, rfl⟩
    · exact ⟨rfl, rfl, rfl, rfl, rfl⟩
def Tw (L k : Int) (p r : RB) : Prop := EqB p r ∨ (p.kd = true ∧ r.kd = true ∧ p.h = L ∧ p.t = k ∧ r.h = k ∧ r.t = 0 ∧ p.lo = 0 ∧ r.lo = 0 ∧ p.rows = [] ∧ r.rows = [])
theorem eqb_block {L : Int} {p r : RB} (E : EqB p r) (b : Bl) : EqB (blockR L p b) (blockR L r b) := by
  unfold blockR
  have hd : EqB (dueR p b.g) (dueR r b.g) := by
    unfold dueR
    split
    · exact ⟨rfl, rfl, rfl, rfl, E.e.rows⟩
    · exact E
  dsimp only
  generalize dueR p b.g = p' at hd
  generalize dueR r b.g = r' at hd
  split
  · exact hd
  · refine eqb_end ?_ _
    rw [hd.kd]
    exact eqw_run 0 hd.e _ (Nat.zero_le _)
theorem tw_block {L k : Int} (h1 : 1 ≤ k) (h2 : k < L) {p r : RB} (T : Tw L k p r) {b : Bl} (hs : 0 ≤ b.s) : Tw L k (blockR L p b) (blockR L r b) := by
  rcases T with E | ⟨k1, k2, a1, a2, a3, a4, a5, a6, a7, a8⟩
  · exact .inl (eqb_block E b)
  · unfold blockR
    dsimp only
    cases hg : b.g with
    | true =>
      left
      have hd : EqB (dueR p true) (dueR r true) := by
        unfold dueR
        rw [if_pos rfl, if_pos rfl]
        exact ⟨rfl, rfl, rfl, rfl, by show p.rows = r.rows; rw [a7, a8]⟩
      generalize dueR p true = p' at hd
      generalize dueR r true = r' at hd
      split
      · exact hd
      · refine eqb_end ?_ _
        rw [hd.kd]
        exact eqw_run 0 hd.e _ (Nat.zero_le _)
    | false =>
      have e1 : dueR p false = p := by unfold dueR; rw [if_neg (by decide)]
      have e2 : dueR r false = r := by unfold dueR; rw [if_neg (by decide)]
      rw [e1, e2]
      by_cases hc : b.c = 0
      · rw [if_pos hc, if_pos hc]
        exact .inr ⟨k1, k2, a1, a2, a3, a4, a5, a6, a7, a8⟩
      · rw [if_neg hc, if_neg hc, k1, k2, a1, a2, a3, a4, a5, a6, a7, a8]
        left
        refine eqb_end (eqw_run 1 ?_ _ (by omega)) _
        show EqW (lineR L ⟨L, k, 0, [], p.w⟩ b.s true) (lineR L ⟨k, 0, 0, [], r.w⟩ b.s true)
        have n1 : nextLine L L k b.s true = ⟨if k + b.s + 1 ≤ L then k + b.s + 1 else 1, 0, true⟩ := by
          unfold nextLine lng
          have hg : k > 0 := by omega
          rw [if_neg (by omega), if_neg (by rintro (q | q); cases q; omega), if_pos hg]
        have n2 : nextLine L k 0 b.s true = ⟨if k + b.s + 1 ≤ L then k + b.s + 1 else 1, 0, false⟩ := by
          unfold nextLine lng
          by_cases q : k + b.s + 1 ≤ L
          · rw [if_pos ⟨by omega, q⟩, if_neg (by simp), if_neg (by decide), if_pos q]
          · rw [if_neg (fun r => q r.2), if_pos (.inr rfl), if_neg q]
        unfold lineR
        dsimp only
        rw [n1, n2]
        refine ⟨rfl, rfl, rfl, ?_⟩
        dsimp only
        simp [overR]
theorem beh_twin {L k : Int} (h1 : 1 ≤ k) (h2 : k < L) (bs : List Bl) (h : ∀ b ∈ bs, 0 ≤ b.s) : behZ L (0, L, k) bs = behZ L (0, k, 0) bs := by
  have T : ∀ (bs : List Bl) (p r : RB), Tw L k p r → (∀ b ∈ bs, 0 ≤ b.s) → Tw L k (pageR L p bs) (pageR L r bs) := by
    intro bs
    induction bs with
    | nil => intro p r T _; exact T
    | cons b bs ih => exact fun p r T h => ih _ _ (tw_block h1 h2 T (h b List.mem_cons_self)) fun x hx => h x (List.mem_cons_of_mem _ hx)
  have t := T bs (res0 (zKd (0, L, k)) L k) (res0 (zKd (0, k, 0)) k 0) (.inr ⟨rfl, rfl, rfl, rfl, rfl, rfl, rfl, rfl, rfl, rfl⟩) h
  rcases t with E | ⟨_, _, _, _, _, _, _, _, a7, a8⟩
  · exact E.e.rows
  · unfold behZ
    rw [a7, a8]
/-! ### parting -/
def blk (m k : Nat) : List Bl := (List.range m).map fun at_ => ⟨1, 0, decide (at_ < k), false⟩
def sgK (L h t : Nat) : Bool := if 2 ≤ L ∧ 1 ≤ h ∧ h ≤ L ∧ t < h ∧ (h < L ∨ 0 < t) then
    decide (behZ (L : Int) (0, (h : Int), (t : Int)) (blk 1 0) = [if h < L then (h : Int) else (t : Int)]) &&
    decide ((behZ (L : Int) (0, (h : Int), (t : Int)) (blk (L - (if h < L then h else t) + 1) (L - (if h < L then h else t) + 1))).head? = some (if t = 0 then (h : Int) else (t : Int))) else true
def sgO (L h : Nat) : Bool := if 2 ≤ L ∧ 1 ≤ h ∧ h < L then
    decide (behZ (L : Int) (1, (h : Int), 0) (blk 1 0) = [(h : Int)]) && decide ((behZ (L : Int) (1, (h : Int), 0) (blk (L - h + 1) (L - h + 1))).head? = some 0) else true
theorem sg_all : ((List.range 10).all fun L => (List.range 10).all fun h => sgO L h && (List.range 10).all fun t => sgK L h t) = true := by decide +kernel
theorem sig_kept (L : Nat) (hL : L < 10) (hL2 : 2 ≤ L) (h : Nat) (h1 : 1 ≤ h) (hh : h ≤ L) (t : Nat) (ht : t < h) (hx : h < L ∨ 0 < t) :
    behZ (L : Int) (0, (h : Int), (t : Int)) (blk 1 0) = [if h < L then (h : Int) else (t : Int)] ∧
    (behZ (L : Int) (0, (h : Int), (t : Int)) (blk (L - (if h < L then h else t) + 1) (L - (if h < L then h else t) + 1))).head? = some (if t = 0 then (h : Int) else (t : Int)) := by
  have a := List.all_eq_true.mp sg_all L (List.mem_range.mpr hL)
  have b := List.all_eq_true.mp a h (List.mem_range.mpr (by omega))
  rw [Bool.and_eq_true] at b
  have c := List.all_eq_true.mp b.2 t (List.mem_range.mpr (by omega))
  unfold sgK at c
  rw [if_pos ⟨hL2, h1, hh, ht, hx⟩, Bool.and_eq_true] at c
  exact ⟨of_decide_eq_true c.1, of_decide_eq_true c.2⟩
theorem sig_open (L : Nat) (hL : L < 10) (hL2 : 2 ≤ L) (h : Nat) (h1 : 1 ≤ h) (hh : h < L) :
    behZ (L : Int) (1, (h : Int), 0) (blk 1 0) = [(h : Int)] ∧ (behZ (L : Int) (1, (h : Int), 0) (blk (L - h + 1) (L - h + 1))).head? = some 0 := by
  have a := List.all_eq_true.mp sg_all L (List.mem_range.mpr hL)
  have b := List.all_eq_true.mp a h (List.mem_range.mpr (by omega))
  rw [Bool.and_eq_true] at b
  have c := b.1
  unfold sgO at c
  rw [if_pos ⟨hL2, h1, hh⟩, Bool.and_eq_true] at c
  exact ⟨of_decide_eq_true c.1, of_decide_eq_true c.2⟩
theorem sig_top : ∀ (L : Nat), L < 10 → 2 ≤ L → behZ (L : Int) (2, 0, 0) (blk 1 0) = [0] := by decide +kernel
/-- two standings that no blocks part -/
def TwinZ (L : Int) (z1 z2 : Z3) : Prop := z1 = z2 ∨ ∃ k : Int, 1 ≤ k ∧ k < L ∧ ((z1 = (0, L, k) ∧ z2 = (0, k, 0)) ∨ (z1 = (0, k, 0) ∧ z2 = (0, L, k)))
theorem twin_beh {L : Int} {z1 z2 : Z3} (T : TwinZ L z1 z2) (bs : List Bl) (h : ∀ b ∈ bs, 0 ≤ b.s) : behZ L z1 bs = behZ L z2 bs := by
  rcases T with rfl | ⟨k, h1, h2, ⟨rfl, rfl⟩ | ⟨rfl, rfl⟩⟩
  · rfl
  · exact beh_twin h1 h2 bs h
  · exact (beh_twin h1 h2 bs h).symm
/-- what is seen of a standing: the first row, and the first row behind lines that are kept together -/
theorem sig_std {L : Nat} (hL : L < 10) (hL2 : 2 ≤ L) {z : Z3} (hz : StdZ (L : Int) z) : ∃ r : Nat, r < L ∧ behZ (L : Int) z (blk 1 0) = [(r : Int)] ∧
    ((r = 0 ∧ z = (2, 0, 0)) ∨ (1 ≤ r ∧ ∃ y : Int, (behZ (L : Int) z (blk (L - r + 1) (L - r + 1))).head? = some y ∧
      ((y = 0 ∧ z = (1, (r : Int), 0)) ∨ (y = (r : Int) ∧ (z = (0, (r : Int), 0) ∨ z = (0, (L : Int), (r : Int)))) ∨ (1 ≤ y ∧ y < (r : Int) ∧ z = (0, (r : Int), y))))) := by
  obtain ⟨a, h, t⟩ := z
  unfold StdZ at hz
  dsimp only at hz
  rcases hz with ⟨rfl, h1, h2, h3, h4, h5⟩ | ⟨rfl, h1, h2, h3⟩ | h0
  · obtain ⟨h, rfl⟩ : ∃ n : Nat, h = (n : Int) := ⟨h.toNat, by omega⟩
    obtain ⟨t, rfl⟩ : ∃ n : Nat, t = (n : Int) := ⟨t.toNat, by omega⟩
    obtain ⟨e1, e2⟩ := sig_kept L hL hL2 h (by omega) (by omega) t (by omega) (by omega)
    by_cases hh : h < L
    · rw [if_pos hh] at e1 e2
      refine ⟨h, hh, e1, .inr ⟨by omega, _, e2, ?_⟩⟩
      by_cases ht : t = 0
      · rw [if_pos ht]
        refine .inr (.inl ⟨rfl, .inl ?_⟩)
        rw [ht]; rfl
      · rw [if_neg ht]
        exact .inr (.inr ⟨by omega, by omega, rfl⟩)
    · have : h = L := by omega
      subst this
      rw [if_neg hh] at e1 e2
      have ht : ¬ t = 0 := by omega
      rw [if_neg ht] at e2
      exact ⟨t, by omega, e1, .inr ⟨by omega, _, e2, .inr (.inl ⟨rfl, .inr rfl⟩)⟩⟩
  · obtain ⟨h, rfl⟩ : ∃ n : Nat, h = (n : Int) := ⟨h.toNat, by omega⟩
    obtain ⟨e1, e2⟩ := sig_open L hL hL2 h (by omega) (by omega)
    refine ⟨h, by omega, ?_, .inr ⟨by omega, 0, ?_, .inl ⟨rfl, by rw [h3]⟩⟩⟩
    · rw [h3]; exact e1
    · rw [h3]; exact e2
  · rw [h0]
    exact ⟨0, by omega, sig_top L hL hL2, .inl ⟨rfl, rfl⟩⟩
theorem part_ex {L : Nat} (hL : L < 10) (hL2 : 2 ≤ L) {z1 z2 : Z3} (h1 : StdZ (L : Int) z1) (h2 : StdZ (L : Int) z2)
    (h : ∀ m k, 1 ≤ m → m ≤ L + 1 → k ≤ m → behZ (L : Int) z1 (blk m k) = behZ (L : Int) z2 (blk m k)) : TwinZ (L : Int) z1 z2 := by
  obtain ⟨r1, b1, e1, c1⟩ := sig_std hL hL2 h1
  obtain ⟨r2, b2, e2, c2⟩ := sig_std hL hL2 h2
  have er : r1 = r2 := by
    have := h 1 0 (by omega) (by omega) (by omega)
    rw [e1, e2] at this
    have := List.head_eq_of_cons_eq this
    omega
  subst er
  rcases c1 with ⟨q1, z1e⟩ | ⟨q1, y1, f1, g1⟩
  · rcases c2 with ⟨q2, z2e⟩ | ⟨q2, _⟩
    · exact .inl (z1e.trans z2e.symm)
    · omega
  · rcases c2 with ⟨q2, z2e⟩ | ⟨q2, y2, f2, g2⟩
    · omega
    · have ey : y1 = y2 := by
        have := h (L - r1 + 1) (L - r1 + 1) (by omega) (by omega) (by omega)
        rw [this, f2] at f1
        exact (Option.some.inj f1).symm
      subst ey
      rcases g1 with ⟨p1, z1e⟩ | ⟨p1, z1e⟩ | ⟨p1, p1', z1e⟩ <;> rcases g2 with ⟨p2, z2e⟩ | ⟨p2, z2e⟩ | ⟨p2, p2', z2e⟩ <;> try omega
      · exact .inl (z1e.trans z2e.symm)
      · rcases z1e with z1e | z1e <;> rcases z2e with z2e | z2e
        · exact .inl (z1e.trans z2e.symm)
        · exact .inr ⟨r1, by omega, by omega, .inr ⟨z1e, z2e⟩⟩
        · exact .inr ⟨r1, by omega, by omega, .inl ⟨z1e, z2e⟩⟩
        · exact .inl (z1e.trans z2e.symm)
      · exact .inl (z1e.trans z2e.symm)
end Pa
set_option maxRecDepth 100000
set_option maxHeartbeats 4000000
namespace Pa
open PySem PySem.Spec PyProof.Rows L2 SrtO
structure MakeOk (P : Program) (w : World) (K : PySem.W.Frag) (mg : Str → Option Value) (base : Heap) (C : Addr) (k : Nat) (x : Str) (ps : List Str) (sp : Sp) : Prop where
  ok : ∃ (f : Addr) (fd : FuncData), Mk K C f ∧ mg x = some (.ref C) ∧ Binds K fd ps [] ∧ FnOk P w K mg base CX0 k f fd ps sp
section
variable {X : Cx} {k n : Nat} {C : Addr} {ps ks : List Str} {sp : Sp} {m x : Str} {p apos pos : Pos} {o e : Expr} {es : List Expr} {kws : List Keyword} {ta : TE} {t tk : TA}
theorem pe_mk (M : MakeOk X.prog X.w X.K X.mg X.base C k x ps sp) (hr : Room (k + 1) X.A) (hg : Gl X x) (ha : PA X (e :: es) t)
    (hdb : (x == ("__debug__" : Str)) = false := by decide) (he : starEach (e :: es) X.env = (false, eval e X.env) :: starEach es X.env := by rfl) (hpl : (backTo pos (starEach es X.env)).any (·.1) = false := by rfl) :
    PE X (.Call (.Name x p) (e :: es) [] pos) (tMake C sp [] E0 t) := by
  obtain ⟨f, fd, h1, h2, h3, h4⟩ := M.ok
  exact pe_make h1 h4 hr hg h2 h3 .nil pass0 ha hdb he hpl
end
def wZ (z : Z3) : Option Bool := if z.2.2 > 0 then none else some false
section
variable {P : Program} {w : World} {K : PySem.W.Frag} {mg : Str → Option Value} {base : Heap} {tp C CS : Addr}
/-! ### Page.resumed, of a standing or of anything else -/
def spResX (K : PySem.W.Frag) (C CS : Addr) : Sp := fun vs H Q E => ∃ (L : Int) (v : V) (d : PyData), vs = [.int L, v] ∧ 2 ≤ L ∧ L ≤ 9 ∧ Dp K H v d ∧ SeqAt.shaped d = true ∧ (∀ ds, d = .tuple ds → ds.length ≤ 100) ∧
  (∀ z, StdZ L z → d = zD z → ∀ x dx rl st H', H x = none → H rl = none → Same H H' → PA' C L x dx rl st 0 (wZ z) [] H' → StAt K H' st (zKd z) z.2.1 z.2.2 → Q (.ref x) H') ∧
  (¬ okD L d → ∀ H' e, Same H H' → H e = none → H' e = some (.xd [("standing", v)]) → E (.ref CS) (some e) H')
abbrev sPage_resumed : Stmt := inClass (topS 14) 1
theorem scPage_resumed : FnScope ["length", "standing", "page"] ["length", "standing"] (defScope sPage_resumed) := ⟨rfl, rfl, rfl, by decide +kernel, rfl, by decide +kernel, by decide +kernel⟩
theorem ok_resX {f : Addr} {fd : FuncData} (F : Fun K "resumed" "Page.resumed" sPage_resumed f fd) (T : Txt K mg tp C) (C_checked : CallOkX P w K mg base 3 "checked_standing" ["length", "standing"] (spChecked K CS)) (M_Page : MakeOk P w K mg base C 1 "Page" ["self", "length"] (spInit C tp)) :
    FnOk P w K mg base (L2.CX P w) 4 f fd ["length", "standing"] (spResX K C CS) := by
  refine F.okX scPage_resumed (fun vs H Q E h => ?_) (fun cdv A outer s H vs Q E hr h => ?_)
  · obtain ⟨L, v, d, rfl, _⟩ := h
    rfl
  · obtain ⟨L, v, d, rfl, hL2, hL9, hd, hsd, hln, k, kE⟩ := h
    refine ⟨_, (pss_cons (ps_set (i := 2) scPage_resumed.nd rfl (.inl rfl) (pe_mk M_Page (hr.mono (by decide)) (by rfl) (pa_cons (pv 0) pa_nil)))
      (pss_cons (ps_fld (pv 2) (pe_ccx C_checked hr (by rfl) (takes_of rfl rfl rfl rfl) (pa_cons (pv 0) (pa_cons (pv 1) pa_nil))) rfl)
      (pss_cons (ps_fld (pv 2) (pe_ifExp (pt_cmpR op_gt (pe_ix ix_tup (pv 1) pe_int (fun _ _ => rfl)) pe_int (nomark _)) pe_non pe_bl) rfl)
      (pss_one (ps_ret (pv 2)))))), ?_⟩
    refine ⟨_, rfl, fun x dx nx ndx ne => ⟨x, dx, L, rfl, upd_same, fun H1 rl hrl pa1 ka1 => ⟨rfl, ?_⟩⟩⟩
    obtain ⟨s1, hrl0⟩ := mk_facts nx ndx ka1 hrl
    refine ⟨_, rfl, _, rfl, L, v, d, rfl, hL2, hL9, dp_same s1 _ _ hd, hsd, hln, fun hok H2 s2 => ?_, fun no H2 e s2 he h2 => kE no H2 e (s1.trans s2) (s1.free he) h2⟩
    obtain ⟨z, hz, rfl⟩ := hok
    obtain ⟨st, rfl, hst⟩ := std_at hz hd
    have pa2 := pa1.same s2
    have hst2 := (hst.same s1).same s2
    obtain ⟨p3, k3⟩ := pa2.put st 0 (some false)
    have hst3 : StAt K _ st (zKd z) z.2.1 z.2.2 := StAt.keep k3 pa2 hst2
    refine ⟨_, rfl, x, C, dx, _, rfl, pa2.ob, T.cl, T.nS, (by show 5 < 1000; decide), ?_⟩
    rw [put_standing]
    obtain ⟨wd, hsq, _, _⟩ := id hst3
    obtain ⟨p4, k4⟩ := p3.put st 0 (wZ z)
    have hst4 : StAt K _ st (zKd z) z.2.1 z.2.2 := StAt.keep k4 p3 hst3
    have sF : Same H (upd (upd H2 x (.ins C dx (pf L st rl 0 (some false)))) x (.ins C dx (pf L st rl 0 (wZ z)))) := fun q o e => k4 q o (fun r => by rw [r, nx] at e; cases e) (fun r => by rw [r, hrl0] at e; cases e) (k3 q o (fun r => by rw [r, nx] at e; cases e) (fun r => by rw [r, hrl0] at e; cases e) (s2 _ _ (s1 _ _ e)))
    have k := k z hz rfl
    refine ⟨_, rfl, st, _, _, _, rfl, rfl, hsq, atI_nat (j := 2) rfl, _, _, rfl, rfl, _, rfl, ite2 (fun ht => ?_) (fun ht => ?_)⟩
    · have ht := of_decide_eq_true ht
      have e : wZ z = none := if_pos ht
      rw [e] at p4 sF hst4
      refine ⟨_, rfl, x, C, dx, _, rfl, p3.ob, T.cl, T.nW, (by show 5 < 1000; decide), ?_⟩
      rw [show V.non = wv none from rfl, put_went]
      exact ⟨_, rfl, k x dx rl st _ nx hrl0 sF (by rw [e]; exact p4) hst4⟩
    · have ht : ¬ z.2.2 > 0 := fun q => ht (decide_eq_true q)
      have e : wZ z = some false := if_neg ht
      rw [e] at p4 sF hst4
      refine ⟨_, rfl, x, C, dx, _, rfl, p3.ob, T.cl, T.nW, (by show 5 < 1000; decide), ?_⟩
      rw [show V.bl false = wv (some false) from rfl, put_went]
      exact ⟨_, rfl, k x dx rl st _ nx hrl0 sF (by rw [e]; exact p4) hst4⟩
end
structure ResX (P : Program) (w : World) (K : PySem.W.Frag) (mg : Str → Option Value) (base : Heap) (C CS : Addr) : Prop where
  ok : ∃ (mc : Value) (p g : Addr) (fd : FuncData), ClX.CRead K C mc ∧ SMet K C mc "resumed" p g ∧ Binds K fd ["length", "standing"] [] ∧ FnOk P w K mg base (L2.CX P w) 4 g fd ["length", "standing"] (spResX K C CS)
theorem pe_resX {X : Cx} {C CS : Addr} {E : XK} {o e : Expr} {es : List Expr} {ta : TE} {t : TA} {apos pos : Pos} {pl : Sem Bool} (he : PE X o ta) (M : ResX X.prog X.w X.K X.mg X.base C CS) (hr : Room 4 X.A) (hx : Passes (L2.CX X.prog X.w) X E) (ha : PA X (e :: es) t)
    (hst : starEach (e :: es) X.env = (false, eval e X.env) :: starEach es X.env := by rfl) (hpl : (backTo pos (starEach es X.env)).any (·.1) = false := by rfl)
    (ht : eval (.Call (.Attribute o "resumed" apos) (e :: es) [] pos) X.env = (do
      let ov ← eval o X.env
      standAt apos.atName
      let (f, first) ← holding [ov] (getMethod ov "resumed" pl)
      callWith pos f first (backTo pos (starEach (e :: es) X.env)) (backToKw pos (keywordEach [] X.env))) := by rfl) :
    PE X (.Call (.Attribute o "resumed" apos) (e :: es) [] pos) (tSMeth C (spResX X.K C CS) E ta t) := by
  obtain ⟨mc, p, g, fd, h1, h2, h3, h4⟩ := M.ok
  exact pe_sm he h1 h2 h4 hr h3 hx ha hst hpl ht
/-! ### page.block with all keywords -/
structure Blk3Ok (P : Program) (w : World) (K : PySem.W.Frag) (mg : Str → Option Value) (base : Heap) (C : Addr) : Prop where
  ok : ∃ (f : Addr) (fd : FuncData), Meth K C "block" f ∧ KBn K fd ["self", "count", "space", "kept", "page"] 2 ["space", "kept", "page"] (fun us ws => us ++ ws) (fun vs zs => vs ++ zs) ∧ FnOk P w K mg base CX0 3 f fd ["self", "count", "space", "kept", "page"] (spBlock K C)
theorem pe_blk3 {X : Cx} {C : Addr} {o e : Expr} {es : List Expr} {kws : List Keyword} {ta : TE} {t tk : TA} {apos pos : Pos} {pl : Sem Bool} (he : PE X o ta) (c : Cls X.K C) (M : Blk3Ok X.prog X.w X.K X.mg X.base C) (hr : Room 3 X.A) (ha : PA X (e :: es) t) (hkw : PK X kws tk)
    (hall : (backToKw pos (keywordEach kws X.env)).all (·.1.isSome) = true := by rfl)
    (hks : (backToKw pos (keywordEach kws X.env)).filterMap (·.1) = (["space", "kept", "page"] : List Str) := by rfl)
    (hst : starEach (e :: es) X.env = (false, eval e X.env) :: starEach es X.env := by rfl)
    (hpl : ((backTo pos (starEach (e :: es) X.env)).any (·.1) || (backToKw pos (keywordEach kws X.env)).any (·.1.isNone)) = false := by rfl)
    (ht : eval (.Call (.Attribute o "block" apos) (e :: es) kws pos) X.env = (do
      let z ← eval o X.env
      standAt apos.atName
      let (f, first) ← holding [z] (getMethod z "block" pl)
      callWith pos f first (backTo pos (starEach (e :: es) X.env)) (backToKw pos (keywordEach kws X.env))) := by rfl) :
    PE X (.Call (.Attribute o "block" apos) (e :: es) kws pos) (tMethK C "block" 1 3 (spBlock X.K C) (fun vs zs => vs ++ zs) ta t tk) := by
  obtain ⟨f, fd, h1, h2, h3⟩ := M.ok
  exact pe_methK (n := 1) he c h1 h3 hr h2 ha hkw hall hks hst hpl ht
end Pa
set_option maxRecDepth 100000
set_option maxHeartbeats 4000000
namespace HotY
open PySem PySem.Spec PyProof.Rows HotX
section
variable {prog : Program} {w : World} {A : Around} {E : Value → Shared → Prop} {s : Shared}
/-- a list's iterator comes to its end while an exception is handled -/
theorem list_end_hot {it l x1 : Addr} {i : Nat} {items : Array Value} {Q : Option Value → Shared → Prop} (hot : HotAt A x1 s.heap) (hne : x1 ≠ it) (hit : s.heap.IsListIter it l i) (hl : s.heap.IsList l items) (hx : items[i]? = none)
    (hQ : ∀ h', Heap.ExtBut it s.heap h' → Q none { s with heap := h' }) : wpAny (model prog w) A (pyNext (.ref it)) Q E s := by
  obtain ⟨hh, o1, vs1, h1, d1, c1⟩ := hot
  obtain ⟨o, ho, hc, hd⟩ := id hit
  obtain ⟨ol, hol, _, nl, hdl⟩ := hl
  unfold pyNext
  refine wpAny_bind (wpAny_attempt (wpAny_callSpecial?_slot (name := Str.ofString "__next__") hit.typeIs slot_listiter_next
    (wpAny_call_entry slot_listiter_next hit.typeIs entry_listiter_next ?_ (args_listiter_next _))))
  show wpAny _ _ (field (.ref it) 0 >>= _) _ _ s
  refine wpAny_bind (wpAny_field ho hd (x := .ref l) rfl ?_)
  show wpAny _ _ (if (Value.ref l == Value.none) = true then _ else _) _ _ s
  rw [if_neg (show ¬ ((Value.ref l == Value.none) = true) from Bool.false_ne_true)]
  show wpAny _ _ (field (.ref it) 1 >>= _) _ _ s
  refine wpAny_bind (wpAny_field ho hd (x := .int i 0) rfl ?_)
  show wpAny _ _ (seqItems? (.ref l) >>= _) _ _ s
  refine wpAny_bind (wpAny_seqItems hol hdl ?_)
  simp only [Int.toNat_natCast, hx]
  refine wpAny_bind (wpAny_rule (wpAny_bind (wpAny_setField ho hd (by simp) ?_)))
  show wpAny _ _ (newExc (.type "StopIteration") [] >>= _) _ _ _
  have sb : Heap.SameBut it s.heap (s.heap.update it (Obj.mapFields (·.setIfInBounds 0 .none))) := Heap.SameBut.update ..
  have h1' : (s.heap.update it (Obj.mapFields (·.setIfInBounds 0 .none))).get? x1 = some o1 := (sb.2 x1 hne).trans h1
  refine wpAny_bind ?_
  simp only [newExc, newTuple]
  refine wpAny_bind (wpAny_newObj_type ?_ (by size_fits))
  refine wpAny_bind (m := firstArgMember _ _) (wpAny_of_eq (a := Value.none) (by first | rfl | (simp only [firstArgMember]; rfl)) ?_)
  refine wpAny_newObj_type ?_ (by size_fits)
  refine raiseNew_hot ⟨hh, o1, vs1, Heap.get?_push_of_some _ (Heap.get?_push_of_some _ h1'), d1, c1⟩ (Nat.ne_of_lt (Heap.lt_size (Heap.get?_push_of_some _ h1'))) (Heap.get?_push_size _ rfl) rfl (by first | (simp; done) | (simp; omega) | (simp only [Array.size_append]; simp; omega)) ?_
  refine wpAny_bind (wpAny_isInstance (T := "StopIteration") (b := true) ⟨_, Heap.get?_update_self _ (Heap.get?_push_size _ rfl) rfl, rfl⟩ isSubtype_stop ?_)
  refine wpAny_pure (hQ _ fun b o hb e => ?_)
  have e' : (s.heap.update it (Obj.mapFields (·.setIfInBounds 0 .none))).get? b = some o := (sb.2 b hb).trans e
  rw [Heap.get?_update_other _ _ (Nat.ne_of_gt (Heap.lt_size (Heap.get?_push_of_some _ e')))]
  exact Heap.get?_push_of_some _ (Heap.get?_push_of_some _ e')
theorem walks_list_hot {x1 : Addr} {o1 : Obj} {vs1 : Array Value} (hh : A.handled = some (.ref x1)) (d1 : o1.data = .fields vs1) (c1 : vs1[2]? = some .none) (I ax : Addr) (hne : ax ≠ I) (hx : x1 ≠ I) (items : Array Value) :
    Walks prog w A I [I, ax, x1] [I] items.size (fun i v => items[i]? = some v) (fun i h => (h.IsListIter I ax i ∧ h.IsList ax items) ∧ h.get? x1 = some o1) where
  sub := fun b hb => by simp at hb; simp [hb]
  frame := fun _ _ _ st hk => ⟨⟨st.1.1.at fun o e => hk I (by simp) o e, st.1.2.at fun o e => hk ax (by simp) o e⟩, hk x1 (by simp) _ st.2⟩
  item := fun i s Q E hi st hQ => by
    refine wpAny_pyNext_list_item st.1.1 st.1.2 (x := items[i]) (by simp [hi]) fun h' hit' hs' => ?_
    exact hQ _ h' s.toks (by simp [hi]) ⟨⟨hit', st.1.2.extBut hs'.extBut hne⟩, (hs'.2 x1 hx).trans st.2⟩ fun b o hb e => hs'.extBut b o (fun h => hb (by simp [h])) e
  done := fun s Q E st hQ => list_end_hot ⟨hh, o1, vs1, st.2, d1, c1⟩ hx st.1.1 st.1.2 (by simp) fun h' he' => hQ h' s.toks fun b o hb e => he' b o (fun h => hb (by simp [h])) e
  self := fun _ _ _ _ st hQ => wpAny_pyIter_listiter st.1.1 hQ
theorem max_intList_hot {x1 l : Addr} {xs : Array (Int × Tok)} {Q : Value → Shared → Prop} (hot : HotAt A x1 s.heap) (hl : s.heap.IsList l (intItems xs)) (hne : 0 < xs.size)
    (h : ∀ v h' tk, (intItems xs)[argBest (fun i j => decide (numAt xs i > numAt xs j)) (xs.size - 1)]? = some v → (∀ b o, s.heap.get? b = some o → h'.get? b = some o) → Q v { s with heap := h', toks := tk }) :
    wpAny (model prog w) A (call (.builtin "max") [.ref l]) Q E s := by
  obtain ⟨hh, o1, vs1, h1, d1, c1⟩ := hot
  refine call_max_walk (iter_intList hl fun s₂ e st hfp hlI => ?_)
  subst e
  have hx : x1 ≠ s.heap.objs.size := Nat.ne_of_lt (Heap.lt_size h1)
  refine ⟨_, _, _, _, _, _, _, rfl, walks_list_hot (A := A.in1) (x1 := x1) (o1 := o1) (vs1 := vs1) hh d1 c1 _ l hlI hx (intItems xs), ⟨st, Heap.get?_push_of_some _ h1⟩, fun b hb => ?_, by simpa [intItems] using hne, CmpOf.ints_gt (numAt xs) (fun _ _ => intItems_at), fun v h' tk hP hk => ?_⟩
  · simp only [List.mem_cons, List.not_mem_nil, or_false] at hb
    rcases hb with rfl | rfl | rfl
    · exact hfp _ (by simp)
    · exact hfp _ (by simp)
    · exact Heap.lt_size (Heap.get?_push_of_some _ h1)
  · exact h v h' tk (by simpa [intItems] using hP) (old_kept hk)
end
end HotY
set_option maxRecDepth 100000
set_option maxHeartbeats 4000000
namespace Pa
open PySem PySem.Spec PyProof.Rows L2 L2H HotX HotY
/-! ### walks while an exception is handled -/
/-- the handled exception stands at h, apart from fp -/
def HotE (X : Cx) (fp : List Addr) (h : Heap) : Prop := ∃ x1, HotAt X.A x1 h ∧ ∀ b ∈ fp, x1 ≠ b
theorem hotE_of {X : Cx} {pins : List (Addr × Obj)} {σ : L2.St} {H : Hp} {s : Shared} {fp : List Addr} (c : HotC X) (I : Inv X pins σ H s) (hf : ∀ b ∈ fp, FpOk X pins H b) : HotE X fp s.heap := by
  obtain ⟨p, ⟨hh, v1, e1, c1⟩, hp⟩ := c
  exact ⟨p.1, ⟨hh, p.2, v1, (I.pin p (List.mem_append_left _ hp)).1, e1, c1⟩, fun b hb => (hf b hb).2.2.2.2.2 p (List.mem_append_left _ hp)⟩
abbrev ItemY (P : Program) (w : World) (K : PySem.W.Frag) (tg : Expr) (J : It) (fp : List Addr) (it : Addr) (tn : Nat → Heap → Prop) (X : Cx) (i : Nat) (pins : List (Addr × Obj)) (s : Shared) (σ : L2.St) (H : Hp) (E : Value → Shared → Prop) : Prop :=
  wpAny (model P w) X.A (pyNext (.ref it)) (fun r s1 => ∃ u, r = some u ∧ wpAny (model P w) X.A (letOwnedTupleGo tg (.ref it) u) (fun _ s2 => ∃ x H', Inv X pins σ H' s2 ∧ RelV x u ∧ J.yld i H x H' ∧ tn (i + 1) s2.heap ∧ ∀ b ∈ fp, H' b = none) E s1) E s
/-- what an iterator does turn by turn, and at its end, there -/
structure TurnE (P : Program) (w : World) (K : PySem.W.Frag) (tg : Expr) (J : It) (fp : List Addr) (it : Addr) (tn : Nat → Heap → Prop) : Prop where
  obj : ∀ i h, tn i h → ∀ b ∈ fp, ∃ o, h.get? b = some o ∧ ∀ v, o.data ≠ .cell v
  keep : ∀ i h h', tn i h → (∀ b ∈ fp, ∀ o, h.get? b = some o → h'.get? b = some o) → tn i h'
  item : ∀ (X : Cx), X.prog = P ∧ X.w = w ∧ X.K = K → ∀ i pins s σ H E, Inv X pins σ H s → (∀ b ∈ fp, FpOk X pins H b) → tn i s.heap → J.go i H → ItemY P w K tg J fp it tn X i pins s σ H E
  done : ∀ (X : Cx), X.prog = P ∧ X.w = w ∧ X.K = K → ∀ i pins s σ H (E : Value → Shared → Prop), HotE X fp s.heap → Inv X pins σ H s → (∀ b ∈ fp, FpOk X pins H b) → tn i s.heap → J.stop i H → wpAny (model P w) X.A (pyNext (.ref it)) (fun r s1 => r = none ∧ Inv X pins σ H s1) E s
  self : ∀ (A : Around) i (s : Shared) (Q : Value → Shared → Prop) (E : Value → Shared → Prop), tn i s.heap → Q (.ref it) s → wpAny (model P w) A (pyIter (.ref it)) Q E s
theorem turnE_list {P : Program} {w : World} {K : PySem.W.Frag} {tg : Expr} (a it : Addr) : TurnE P w K tg (Itl K a) [it] it (fun i h => h.IsListIter it a i) where
  obj := (turn_list (P := P) (w := w) (K := K) (tg := tg) a it).obj
  keep := (turn_list (P := P) (w := w) (K := K) (tg := tg) a it).keep
  item := by
    rintro X ⟨rfl, rfl, rfl⟩ i pins s σ H E I hf st ⟨xs, x, hq, hx⟩
    obtain ⟨its, rv, p, hz⟩ := I.list hq
    obtain ⟨u, hu, ru⟩ := rv.get hx
    obtain ⟨f0, f1, f2, f3, f4, f5⟩ := hf it (by simp)
    refine wpAny_pyNext_list_item st p.isList (x := u) (by simpa using hu) fun h' st' sb => ⟨u, rfl, ?_⟩
    obtain ⟨o, e, c, d⟩ := id st'
    exact go_of (s := { s with heap := h' }) e c d (by decide) ⟨x, H, I.turned (t' := s.toks) (fun b o hb e => (sb.2 b hb).trans e) f0 f1 f3 f4 f5, ru, ⟨rfl, fun ys hy => by rw [I.list_inj hy hq]; exact hx⟩, st', fun b hb => (hf b hb).1⟩
  done := by
    rintro X ⟨rfl, rfl, rfl⟩ i pins s σ H E ⟨x1, hot, hne⟩ I hf st ⟨xs, hq, hx⟩
    obtain ⟨its, rv, p, hz⟩ := I.list hq
    obtain ⟨f0, f1, f2, f3, f4, f5⟩ := hf it (by simp)
    have hl := rv.length
    exact list_end_hot hot (hne it (by simp)) st p.isList (by simp; omega) fun h' eb => ⟨rfl, I.turned (t' := s.toks) (fun b o hb e => eb b o hb e) f0 f1 f3 f4 f5⟩
  self := fun _ _ _ _ _ st h => wpAny_pyIter_listiter st h
theorem turnE_range {P : Program} {w : World} {K : PySem.W.Frag} {tg : Expr} (it : Addr) (lo : Int) (n : Nat) : TurnE P w K tg (Itr lo n) [it] it (fun i h => IsRangeIter h it (lo + (i : Nat) * 1) ((n : Int) - (i : Nat)) 1) where
  obj := (turn_rangeH (P := P) (w := w) (K := K) (tg := tg) it lo n).obj
  keep := (turn_rangeH (P := P) (w := w) (K := K) (tg := tg) it lo n).keep
  item := by
    rintro X ⟨rfl, rfl, rfl⟩ i pins s σ H E I hf st hg
    obtain ⟨f0, f1, f2, f3, f4, f5⟩ := hf it (by simp)
    have hlt : i < n := hg
    refine wpAny_pyNext_range_item st (by omega) fun h' st' sb => ⟨_, rfl, ?_⟩
    have st2 : IsRangeIter h' it (lo + ((i + 1 : Nat) : Int) * 1) ((n : Int) - ((i + 1 : Nat) : Int)) 1 := by
      rw [show lo + ((i + 1 : Nat) : Int) * 1 = lo + ((i : Nat) : Int) * 1 + 1 by omega, show (n : Int) - ((i + 1 : Nat) : Int) = (n : Int) - ((i : Nat) : Int) - 1 by omega]
      exact st'
    have I1 : Inv X pins σ H { s with heap := h', toks := s.toks + 1 } := I.turned (fun b o hb e => (sb.2 b hb).trans e) f0 f1 f3 f4 f5
    exact go_of (s := { s with heap := h', toks := s.toks + 1 }) (n := "range_iterator") st2 rfl rfl (by decide) ⟨.int (lo + i), H, I1, ⟨s.toks, by rw [Int.mul_one]⟩, ⟨rfl, rfl⟩, st2, fun b hb => (hf b hb).1⟩
  done := by
    rintro X ⟨rfl, rfl, rfl⟩ i pins s σ H E ⟨x1, hot, hne⟩ I hf st hg
    obtain ⟨f0, f1, f2, f3, f4, f5⟩ := hf it (by simp)
    exact pyNext_range_end_hot hot st (by have : n ≤ i := hg; omega) fun h' eb => ⟨rfl, I.turned (t' := s.toks) (fun b o _ e => eb b o e) f0 f1 f3 f4 f5⟩
  self := fun _ _ _ _ _ st h => wpAny_pyIter_rangeiter st h
def PIEY (X : Cx) (pins : List (Addr × Obj)) (σ : L2.St) (tg : Expr) (R : It → Hp → Prop) (itv : Value) (s2 : Shared) : Prop :=
  ∃ (it : Addr) (fp : List Addr) (tn : Nat → Heap → Prop) (J : It) (H' : Hp), itv = .ref it ∧ Inv X pins σ H' s2 ∧ TurnE X.prog X.w X.K tg J fp it tn ∧ tn 0 s2.heap ∧ (∀ b ∈ fp, FpOk X pins H' b) ∧ R J H'
/-- an iterable there -/
structure PIY (X : Cx) (tg iter : Expr) (wi : TI) : Prop where
  run : ∀ (pins : List (Addr × Obj)) (s : Shared) (σ : L2.St) (H : Hp) (R : It → Hp → Prop), Inv X pins σ H s → wi σ H R → wpAny (model X.prog X.w) X.A (eval iter X.env) (fun v s1 => wpAny (model X.prog X.w) X.A (pyIter v) (PIEY X pins σ tg R) X.xe s1) X.xe s
section
variable {X : Cx} {tg : Expr}
theorem pi_listY {l : Expr} {tl : TE} (hl : PE X l tl) : PIY X tg l (iList X.K tl) := by
  refine ⟨fun pins s σ H R I h => thn (hl.run pins s σ H _ I h) fun v s1 ⟨x, H1, I1, r1, a, e, ⟨xs, hq⟩, q⟩ => ?_⟩
  subst e
  cases r1
  obtain ⟨its, rv, p, hz⟩ := I1.list hq
  refine wpAny_pyIter_list p.isList ⟨s1.heap.objs.size, [s1.heap.objs.size], _, _, H1, rfl, I1.kept (t' := s1.toks) fun b o e => Heap.get?_push_of_some _ e, turnE_list a _, ⟨_, Heap.get?_push_size _ rfl, rfl, rfl⟩, fun b hb => ?_, q⟩
  rw [show b = s1.heap.objs.size by simpa using hb]
  exact I1.fpOk (Nat.le_refl _) (I1.hok.fresh (Nat.le_refl _))
theorem range_itY {pins : List (Addr × Obj)} {σ : L2.St} {H : Hp} {s : Shared} {R : It → Hp → Prop} {E : Value → Shared → Prop} {lo hi : Int} {t u v : Tok} {tk : Nat} (I : Inv X pins σ H s) (hb : (-(2 ^ 62) ≤ lo ∧ lo < 2 ^ 62) ∧ -(2 ^ 62) ≤ hi ∧ hi < 2 ^ 62)
    (q : R (Itr lo (hi - lo).toNat) H) : wpAny (model X.prog X.w) X.A (pyIter (.ref s.heap.objs.size)) (PIEY X pins σ tg R) E { s with heap := s.heap.push { cls := .type "range", data := .fields #[.int lo t, .int hi u, .int 1 v] }, toks := tk } := by
  refine wpAny_pyIter_range (IsRange.new ..) (small_one hb.1.1 hb.1.2 hb.2.1 hb.2.2) ?_
  have I1 : Inv X pins σ H { s with heap := s.heap.push { cls := .type "range", data := .fields #[.int lo t, .int hi u, .int 1 v] }, toks := tk } := I.kept fun b o e => Heap.get?_push_of_some _ e
  refine ⟨_, [(s.heap.push { cls := .type "range", data := .fields #[.int lo t, .int hi u, .int 1 v] }).objs.size], _, _, H, rfl, I1.kept (t' := tk) fun b o e => Heap.get?_push_of_some _ e, turnE_range _ lo (hi - lo).toNat, ?_, fun b hb => ?_, q⟩
  · show IsRangeIter _ _ (lo + ((0 : Nat) : Int) * 1) ((((hi - lo).toNat : Nat) : Int) - ((0 : Nat) : Int)) 1
    rw [show lo + ((0 : Nat) : Int) * 1 = lo by simp, show (((hi - lo).toNat : Nat) : Int) - ((0 : Nat) : Int) = Builtin.Range.rangeSize lo hi 1 by rw [rangeSize_one]; split <;> omega]
    exact Heap.get?_push_size _ rfl
  · obtain rfl : b = (s.heap.push { cls := .type "range", data := .fields #[.int lo t, .int hi u, .int 1 v] }).objs.size := by simpa using hb
    exact I1.fpOk (Nat.le_refl _) (I1.hok.fresh (Nat.le_refl _))
theorem pi_range1Y {a : Expr} {ta : TA} {p pos : Pos} (hg : Gl X "range") (hm : X.mg "range" = none) (ha : PA X [a] ta) (hs : starEach [a] X.env = [(false, eval a X.env)] := by rfl) : PIY X tg (.Call (.Name "range" p) [a] [] pos) (iRng1 ta) := by
  refine ⟨fun pins s σ H R I h => Call_ (ld_blt I hg hm boot_range (PyProof.Rows.callWith_type1 (thn (ha.run pos pins s σ H _ I h) fun us s1 ⟨vs, H1, I1, r1, j, e, q1, q2, q⟩ => ?_) hs rfl))⟩
  subst e
  cases r1 with
  | cons r rr =>
    cases rr
    obtain ⟨t, rfl⟩ := r
    exact call_range_1 (range_itY I1 ⟨⟨by omega, by omega⟩, q1, q2⟩ (by simpa using q))
theorem pi_range2Y {a b : Expr} {ta : TA} {p pos : Pos} (hg : Gl X "range") (hm : X.mg "range" = none) (ha : PA X [a, b] ta) (hs : starEach [a, b] X.env = [(false, eval a X.env), (false, eval b X.env)] := by rfl) (hs2 : starEach [b] X.env = [(false, eval b X.env)] := by rfl) :
    PIY X tg (.Call (.Name "range" p) [a, b] [] pos) (iRng2 ta) := by
  refine ⟨fun pins s σ H R I h => Call_ (ld_blt I hg hm boot_range (PyProof.Rows.callWith_type1 (thn (ha.run pos pins s σ H _ I h) fun us s1 ⟨vs, H1, I1, r1, i, j, e, ⟨q1, q2, q3, q4⟩, q⟩ => ?_) (by rw [hs, hs2]) (by rw [hs2]; rfl)))⟩
  subst e
  cases r1 with
  | cons r rr =>
    cases rr with
    | cons r' rr =>
      cases rr
      obtain ⟨t, rfl⟩ := r
      obtain ⟨t', rfl⟩ := r'
      exact call_range_2 (range_itY I1 ⟨⟨q1, q2⟩, q3, q4⟩ q)
/-- for, there -/
theorem ps_forY {iter : Expr} {body : List Stmt} {wi : TI} {g : TG} {tb : TS} {pos : Pos} (hc : HotC X) (hp : PassesOwn (model X.prog X.w) X.A X.env X.xe) (hi : PIY X tg iter wi) (hg : PG X tg g) (hb : PSs X body tb)
    (hs : ∀ x, foldedSetIterable iter X.env x = pure x := by intro _; rfl) : PS X (.For tg iter body [] pos) (tFor wi g tb) := by
  refine ⟨fun pins s σ H D I h => wpAny_For (thn (hi.run pins s σ H _ I h) fun v s1 h1 => thn h1 fun itv s2 h2 => ?_) hs⟩
  obtain ⟨it, fp, tn, J, H2, e, I2, T, st2, f2, W, ⟨m0, w0⟩, turn⟩ := h2
  subst e
  have stat : ∀ {H' : Hp}, (∀ b ∈ fp, H' b = none) → ∀ b ∈ fp, FpOk X pins H' b := fun hn b hb => ⟨hn b hb, (f2 b hb).2⟩
  refine codeAny_forLoop_any (fun n s' => ∃ i σ' H', Inv X pins σ' H' s' ∧ tn i s'.heap ∧ (∀ b ∈ fp, H' b = none) ∧ W i n σ' H') ?_ m0 ⟨0, σ, H2, I2, st2, fun b hb => (f2 b hb).1, w0⟩
  rintro n s3 ⟨i, σ3, H3, I3, st3, fr3, w3⟩
  rcases turn i n σ3 H3 w3 with ⟨stop, qn⟩ | ⟨go, N, hN, step⟩
  · refine wpAny_passesOwn hp (thn (T.done X ⟨rfl, rfl, rfl⟩ i pins s3 σ3 H3 X.xe (hotE_of hc I3 (stat fr3)) I3 (stat fr3) st3 stop) fun r s4 ⟨hr, I4⟩ => ?_)
    subst hr
    exact wpAny_execs_nil ⟨σ3, H3, I4, qn⟩
  · refine wpAny_passesOwn hp (thn (T.item X ⟨rfl, rfl, rfl⟩ i pins s3 σ3 H3 X.xe I3 (stat fr3) st3 go) fun r s4 ⟨u, hr, h4⟩ => ?_)
    subst hr
    refine wpAny_passesOwn hp (thn h4 fun _ s5 ⟨x, H5, I5, r5, y5, st5, fr5⟩ => wpAny_passesOwn hp (thn (hg.run _ s5 σ3 H5 x u _ (I5.pinned (stat fr5) (T.obj _ _ st5)) r5 (step x H5 y5)) fun _ s6 ⟨σ6, H6, I6, q6⟩ => wpAny_passesOwn hp (thn (hb.run _ s6 σ6 H6 _ I6 q6) fun f s7 q7 => ?_)))
    have again : ∀ {σ7 : L2.St} {H7 : Hp}, Inv X (pins ++ pinsAt fp s5.heap) σ7 H7 s7 → N σ7 H7 → ∃ m, m < n ∧ ∃ i σ' H', Inv X pins σ' H' s7 ∧ tn i s7.heap ∧ (∀ b ∈ fp, H' b = none) ∧ W i m σ' H' := fun {σ7 H7} I7 n7 => by
      obtain ⟨m', hm, w7⟩ := hN σ7 H7 n7
      have pin7 : ∀ b ∈ fp, ∀ o, s5.heap.get? b = some o → s7.heap.get? b = some o ∧ H7 b = none := fun b hb o e =>
        let z := I7.pin (b, o) (List.mem_append_right _ (List.mem_append_right _ (mem_pinsAt hb e)))
        ⟨z.1, z.2.1⟩
      refine ⟨m', hm, i + 1, σ7, H7, I7.unpinned, T.keep _ _ _ st5 fun b hb o e => (pin7 b hb o e).1, fun b hb => ?_, w7⟩
      obtain ⟨o, e, d⟩ := T.obj _ _ st5 b hb
      exact (pin7 b hb o e).2
    cases f with
    | next => obtain ⟨σ7, H7, I7, n7⟩ := q7; exact again I7 n7
    | cont => obtain ⟨σ7, H7, I7, n7⟩ := q7; exact again I7 n7
    | brk => obtain ⟨σ7, H7, I7, q7⟩ := q7; exact ⟨σ7, H7, I7.unpinned, q7⟩
    | ret v => obtain ⟨x7, σ7, H7, I7, r7, q7⟩ := q7; exact ⟨x7, σ7, H7, I7.unpinned, r7, q7⟩
theorem call_maxY (hc : HotC X) : CallR X (.builtin "max") (rMax X.K) := by
  intro pins s σ H vs us Q I r ⟨a, ns, hv, hs, hne, q⟩
  subst hv
  obtain ⟨its, rv, hl, _⟩ := I.list hs
  obtain ⟨x1, hot⟩ := hc.at I
  have hi := rv.ints
  obtain ⟨xs, e⟩ := hi.allInts.items
  have hn : numsOf (intItems xs).toList = ns := by rw [← e]; exact hi.numsOf
  rw [nums_intItems] at hn
  subst hn
  have hl' := hl.isList
  rw [e] at hl'
  rw [Vals.ref1 r]
  have hsz : 0 < xs.size := by simpa using hne
  refine max_intList_hot hot hl' hsz fun v h' tk hv hk => ?_
  obtain ⟨t, rfl⟩ := intItems_at hv
  obtain ⟨h1, h2⟩ := argBest_gt (numAt xs) (xs.size - 1)
  refine ⟨.int _, H, I.kept hk, ⟨_, rfl⟩, q _ ?_ fun a ha => ?_⟩
  · rw [numAt_eq]
    exact PySem.getD_mem (by rw [List.length_map, Array.length_toList]; omega)
  · obtain ⟨j, hj, rfl⟩ := mem_getD ha
    rw [List.length_map, Array.length_toList] at hj
    rw [← numAt_eq]
    exact h2 j (by omega)
end
end Pa
set_option maxRecDepth 100000
set_option maxHeartbeats 4000000
namespace Pa
open PySem PySem.Spec PyProof.Rows L2 L2H HotX HotY
section
variable {X : Cx}
/-- a list comprehension, there -/
theorem lcY_core {pins : List (Addr × Obj)} {s : Shared} {σ : L2.St} {H : Hp} {Q : VK} {use : Option (Value → Sem Unit)} {Qf : Value → Shared → Prop} {elt tg iter : Expr} {ifs : List Expr} {scope : Scope} {own : List (Str × Nat)} {pos pos' : Pos} {wi : TI} {g : TG} {tt : TT} {te : TE} (hc : HotC X) (hN : X.N.Nodup) (I : Inv X pins σ H s) (hi : PIY X tg iter wi) (ok : BlkOk X.N X.env.scope scope own)
    (hg : ∀ (s : Shared) (H : Hp) (C : Addr) (cl : List (Str × Addr)) (fp : List Addr), PG (X.blk s H scope (compEnvC scope cl C X.env) fp) tg g) (ht : ∀ (s : Shared) (H : Hp) (C : Addr) (cl : List (Str × Addr)) (fp : List Addr), PTs (X.blk s H scope (compEnvC scope cl C X.env) fp) ifs tt)
    (he : ∀ (s : Shared) (H : Hp) (C : Addr) (cl : List (Str × Addr)) (fp : List Addr), PE (X.blk s H scope (compEnvC scope cl C X.env) fp) elt te) (hs : ∀ x, foldedSetIterable iter X.env x = pure x) (h : tLc wi g tt te (own.map (·.2)) σ H Q)
    (hend : ∀ D C s' m H', Inv X pins σ H' s' → Q (.ref D) H' → s'.heap.Ns C m → FpOk X pins H' C → compPost (model X.prog X.w) X.A X.xe use Qf (.ref D) C (.ok .next) s') :
    wpAny (model X.prog X.w) X.A (comprehension (.ListComp elt [⟨tg, iter, ifs, 0⟩] scope pos) scope X.env pos' (newList []) false (eval iter X.env) use) Qf X.xe s := by
  have hfree : ∀ y ∈ scope.names, y.2 = .free → ∃ c, X.env.cells.lookup y.1 = some c := fun y hy e => (ok.free y hy e).elim (fun k => I.ok.has _ (.inl k)) fun k => I.ok.has _ (.inr k)
  refine wpAny_comprehension_free (use := use) rfl hs (closure_ok hfree) ok.kind (fun y hy e => by rw [ok.uniq y hy, e]) (thn (hi.run pins s σ H _ I h) fun xv s1 hx => thn hx fun itv s2 h2 => ?_)
  obtain ⟨it, fp, tn, J, H2, e, I2, T, st2, f2, q⟩ := h2
  subst e
  refine wpAny_newObj_type (newEnv_comp ?_) (by show 0 ≤ sizeLine; decide)
  generalize hD : s2.heap.objs.size = D
  have hDn : H2 D = none := I2.hok.fresh (Nat.le_of_eq hD)
  obtain ⟨W, ⟨m0, w0⟩, turn⟩ := q D hDn
  generalize hs3 : ({ s2 with heap := s2.heap.push { cls := .type "list", data := .seq ([] : List Value).toArray } } : Shared) = s3
  have h3 : s3.heap = s2.heap.push { cls := .type "list", data := .seq ([] : List Value).toArray } := by rw [← hs3]
  have I3 : Inv X pins σ (upd H2 D (.lst [])) s3 := by
    rw [← hs3]
    refine I2.laid (t' := s2.toks) (fun b o e => Heap.get?_push_of_some _ e) (Nat.le_of_eq hD) ⟨Nat.zero_le _, [], 0, .nil, ?_⟩
    rw [← hD]
    exact Heap.get?_push_size _ rfl
  have f3 : ∀ b ∈ fp, FpOk X pins (upd H2 D (.lst [])) b ∧ b < s3.heap.objs.size := fun b hb => by
    obtain ⟨o, eo, _⟩ := T.obj _ _ st2 b hb
    have hlt := Heap.lt_size eo
    refine ⟨⟨?_, (f2 b hb).2⟩, by rw [h3, Heap.size_push]; exact Nat.lt_succ_of_lt hlt⟩
    rw [upd_ne (by rw [← hD]; exact Nat.ne_of_lt hlt)]
    exact (f2 b hb).1
  have st3 : tn 0 s3.heap := T.keep _ _ _ st2 fun b _ o e => by rw [h3]; exact Heap.get?_push_of_some _ e
  have I4 := block_start I3 ok hN f3
  -- the handled exception, through the block
  obtain ⟨p, ⟨hh, v1, e1, c1⟩, hp⟩ := id hc
  have P3 := I3.pin p (List.mem_append_left _ hp)
  have pfs : p.1 ∉ frs X.stack := fun hm => (List.mem_cons.mp (I3.stkSub p.1 hm)).elim P3.2.2.1 P3.2.2.2.1
  have pfp : p.1 ∉ fp := fun hm => (f2 _ hm).2.2.2.2.2 p (List.mem_append_left _ hp) rfl
  have pg := hg s3 (upd H2 D (.lst [])) s3.heap.objs.size (cellsFrom (s3.heap.objs.size + 1) scope.names (cloFrom X.env.cells scope.names [])) fp
  have pt := ht s3 (upd H2 D (.lst [])) s3.heap.objs.size (cellsFrom (s3.heap.objs.size + 1) scope.names (cloFrom X.env.cells scope.names [])) fp
  have pe := he s3 (upd H2 D (.lst [])) s3.heap.objs.size (cellsFrom (s3.heap.objs.size + 1) scope.names (cloFrom X.env.cells scope.names [])) fp
  have nfp : ∀ b ∈ fp, (upd H2 D (.lst [])) b = none := fun b hb => (f3 b hb).1.1
  have n3 : (upd H2 D (.lst [])) p.1 = none := P3.2.1
  generalize hH3 : upd H2 D (.lst []) = H3 at I3 I4 pg pt pe w0 nfp f3 n3
  generalize hs4 : ({ s3 with heap := pushCells (s3.heap.push { cls := .type "dict", data := .dict #[] }) scope.names } : Shared) = s4 at I4
  have st4 : tn 0 s4.heap := T.keep _ _ _ st3 fun b _ o e => by rw [← hs4]; exact pushCells_keeps _ _ _ _ (Heap.get?_push_of_some _ e)
  generalize hce : compEnvC scope (cellsFrom (s3.heap.objs.size + 1) scope.names (cloFrom X.env.cells scope.names [])) s3.heap.objs.size X.env = ce at I4 pg pt pe
  have cL : ce.locals = s3.heap.objs.size := by subst hce; rfl
  have hotb : ∀ {σ' : L2.St} {H' : Hp} {s' : Shared}, Inv (X.blk s3 H3 scope ce fp) [] σ' H' s' → HotE (X.blk s3 H3 scope ce fp) fp s'.heap := fun {σ' H' s'} I' =>
    ⟨p.1, ⟨hh, p.2, v1, I'.base.keep p.1 p.2 P3.1 n3 pfs pfp, e1, c1⟩, fun b hb z => pfp (by rw [z]; exact hb)⟩
  have stat : ∀ {σ' : L2.St} {H' : Hp} {s' : Shared}, Inv (X.blk s3 H3 scope ce fp) [] σ' H' s' → (∀ b ∈ fp, H' b = none) → ∀ b ∈ fp, FpOk (X.blk s3 H3 scope ce fp) [] H' b := fun {σ' H' s'} I' hn b hb =>
    ⟨hn b hb, (I'.ok.exf b hb).1, I'.ok.exfs b hb, .inl hb, fun x c e => (I'.ok.exf b hb).2 x c e, fun p hp => absurd (show p ∈ ([] : List (Addr × Obj)) ++ [] from hp) (by simp)⟩
  have loop : codeAny (model X.prog X.w) X.A (.compLoop (.ListComp elt [⟨tg, iter, ifs, 0⟩] scope pos) 0 (.ref it) (.ref D) ce) (compPost (model X.prog X.w) X.A X.xe use Qf (.ref D) s3.heap.objs.size) s4 := by
    refine compLoop_any (fun n s' => ∃ i H', Inv (X.blk s3 H3 scope ce fp) [] (wipe σ (own.map (·.2))) H' s' ∧ tn i s'.heap ∧ (∀ b ∈ fp, H' b = none) ∧ W i n H') ?_ m0 ⟨0, H3, I4, st4, nfp, w0⟩
    rintro n s5 ⟨i, H5, I5, st5, n5, w5⟩
    rcases turn i n H5 w5 with ⟨stop, qq⟩ | ⟨go, Nx, hNx, step⟩
    · refine thnF (T.done (X.blk s3 H3 scope ce fp) ⟨rfl, rfl, rfl⟩ i [] s5 _ H5 (fun _ _ => False) (hotb I5) I5 (stat I5 n5) st5 stop) fun r s6 ⟨hr, I6⟩ => ?_
      subst hr
      have I7 : Inv X pins σ H5 s6 := I3.call' (ch := fp) I6.os I6.base I6.hok I6.bare fun b hb => ⟨(f3 b hb).1.2.2.2.1, (f3 b hb).1.2.1, (f3 b hb).1.2.2.2.2.1, (f3 b hb).1.2.2.2.2.2⟩
      have nC : H5 s3.heap.objs.size = none := by
        have z : H5 ce.locals = none := I6.free
        rwa [cL] at z
      obtain ⟨m, hn, _⟩ := I6.loc
      have hn : s6.heap.Ns ce.locals m := hn
      rw [cL] at hn
      exact hend D s3.heap.objs.size s6 m H5 I7 qq hn (I3.fpOk (Nat.le_refl _) nC)
    · refine thnF (T.item (X.blk s3 H3 scope ce fp) ⟨rfl, rfl, rfl⟩ i [] s5 _ H5 (fun _ _ => False) I5 (stat I5 n5) st5 go) fun r s6 ⟨u, hr, h6⟩ => ?_
      subst hr
      refine thnF h6 fun _ s7 ⟨x, H7, I7, r7, y7, st7, n7⟩ => ?_
      refine thnF (pg.run _ s7 _ H7 x u _ (I7.pinned (stat I7 n7) (T.obj _ _ st7)) r7 (step x H7 y7)) fun _ s8 ⟨σ8, H8, I8, hw8, q8⟩ => ?_
      refine thnF (pt.run _ s8 σ8 H8 _ I8 q8) fun b s9 ⟨H9, I9, q9⟩ => ?_
      have fin : ∀ {s' : Shared} {H' : Hp}, Inv (X.blk s3 H3 scope ce fp) ([] ++ pinsAt fp s7.heap) σ8 H' s' → Nx H' → ∃ m, m < n ∧ ∃ i H', Inv (X.blk s3 H3 scope ce fp) [] (wipe σ (own.map (·.2))) H' s' ∧ tn i s'.heap ∧ (∀ b ∈ fp, H' b = none) ∧ W i m H' := fun {s' H'} I' nx => by
        obtain ⟨m', hm, w'⟩ := hNx H' nx
        have pin' : ∀ b ∈ fp, ∀ o, s7.heap.get? b = some o → s'.heap.get? b = some o ∧ H' b = none := fun b hb o e =>
          let z := I'.pin (b, o) (List.mem_append_right _ (List.mem_append_right _ (mem_pinsAt hb e)))
          ⟨z.1, z.2.1⟩
        have hl : (wipe σ (own.map (·.2))).length = σ8.length := by rw [← hw8, wipe_length]
        refine ⟨m', hm, i + 1, H', (I'.unpinned (pins := [])).weak hl (fun j v e => ?_), T.keep _ _ _ st7 fun b hb o e => (pin' b hb o e).1, fun b hb => ?_, w'⟩
        · rw [← hw8] at e
          exact (wipe_some e).1
        · obtain ⟨o, e, _⟩ := T.obj _ _ st7 b hb
          exact (pin' b hb o e).2
      cases b with
      | false =>
        simp only [Bool.false_eq_true, if_false] at q9 ⊢
        exact fin I9 q9
      | true =>
        simp only [if_true] at q9 ⊢
        refine thnF (pe.run _ s9 σ8 H9 _ I9 q9) fun z s10 ⟨yv, H10, I10, r10, acc, hD10, hz10, nx⟩ => ?_
        exact app_ok (X := X.blk s3 H3 scope ce fp) I10 hD10 hz10 r10 fun s11 I11 => fin I11 nx
  have start := codeAny_compStart_list loop (T.self X.A 0 _ _ _ st4 loop)
  rw [← hce] at start
  exact start
theorem pe_lcY {elt tg iter : Expr} {ifs : List Expr} {scope : Scope} {own : List (Str × Nat)} {pos : Pos} {wi : TI} {g : TG} {tt : TT} {te : TE} (hc : HotC X) (hN : X.N.Nodup) (hi : PIY X tg iter wi) (ok : BlkOk X.N X.env.scope scope own)
    (hg : ∀ (s : Shared) (H : Hp) (C : Addr) (cl : List (Str × Addr)) (fp : List Addr), PG (X.blk s H scope (compEnvC scope cl C X.env) fp) tg g) (ht : ∀ (s : Shared) (H : Hp) (C : Addr) (cl : List (Str × Addr)) (fp : List Addr), PTs (X.blk s H scope (compEnvC scope cl C X.env) fp) ifs tt)
    (he : ∀ (s : Shared) (H : Hp) (C : Addr) (cl : List (Str × Addr)) (fp : List Addr), PE (X.blk s H scope (compEnvC scope cl C X.env) fp) elt te) (hs : ∀ x, foldedSetIterable iter X.env x = pure x := by intro _; rfl) :
    PE X (.ListComp elt [⟨tg, iter, ifs, 0⟩] scope pos) (tLc wi g tt te (own.map (·.2))) := by
  refine ⟨fun pins s σ H Q I h => ?_⟩
  rw [eval_ListComp]
  refine lcY_core hc hN I hi ok hg ht he hs h fun D C s' m H' I' q hn ⟨g0, g1, g2, g3, g4, g5⟩ => ⟨m, hn, fun h'' sb => ?_⟩
  exact ⟨.ref D, H', I'.turned (t' := s'.toks) (fun b o hb e => (sb.2 b hb).trans e) g0 g1 g3 g4 g5, rfl, q⟩
/-- x = [..], there -/
theorem ps_setLcY {i : Nat} {y : Str} {py : Pos} {elt tg iter : Expr} {ifs : List Expr} {scope : Scope} {own : List (Str × Nat)} {pos spos : Pos} {wi : TI} {g : TG} {tt : TT} {te : TE} (hc : HotC X) (hN : X.N.Nodup) (hy : X.N[i]? = some y) (hyl : X.env.scope.names.lookup y = some .local)
    (hsw : swapsWith (.ListComp elt [⟨tg, iter, ifs, 0⟩] scope pos) (some (.Name y py)) spos.line X.env = pure true) (hi : PIY X tg iter wi) (ok : BlkOk X.N X.env.scope scope own)
    (hg : ∀ (s : Shared) (H : Hp) (C : Addr) (cl : List (Str × Addr)) (fp : List Addr), PG (X.blk s H scope (compEnvC scope cl C X.env) fp) tg g) (ht : ∀ (s : Shared) (H : Hp) (C : Addr) (cl : List (Str × Addr)) (fp : List Addr), PTs (X.blk s H scope (compEnvC scope cl C X.env) fp) ifs tt)
    (he : ∀ (s : Shared) (H : Hp) (C : Addr) (cl : List (Str × Addr)) (fp : List Addr), PE (X.blk s H scope (compEnvC scope cl C X.env) fp) elt te) (hs : ∀ x, foldedSetIterable iter X.env x = pure x := by intro _; rfl) :
    PS X (.Assign [.Name y py] (.ListComp elt [⟨tg, iter, ifs, 0⟩] scope pos) spos) (tAsg (tLc wi g tt te (own.map (·.2))) (gName i)) := by
  refine ⟨fun pins s σ H D I h => ?_⟩
  rw [exec_Assign_Name_used _ _ _ _ hsw]
  refine wpAny_bind (wpAny_standAt (wpAny_bind ?_))
  show wpAny _ X.A (do let _ ← comprehension (.ListComp elt [⟨tg, iter, ifs, 0⟩] scope pos) scope X.env (firstIterPos [⟨tg, iter, ifs, 0⟩] pos) (newList []) false (eval iter X.env) (some (assign (.Name y py) X.env))) _ _ s
  have h : tLc wi g tt te (own.map (·.2)) σ H (fun x H1 => gName i x σ H1 D.nx) := h
  refine wpAny_bind (thn (lcY_core (Qf := fun _ s' => SP X pins D .next s') hc hN I hi ok hg ht he hs h fun L C s' m H' I' q hn ⟨g0, g1, g2, g3, g4, g5⟩ => ?_) fun _ s' hq => wpAny_pure (wpAny_pure hq))
  show wpAny _ _ (assign (.Name y py) X.env (.ref L)) _ _ _
  refine wpAny_assign_Name (store_ok2 (v := V.ref L) I' hN hy (.inl hyl) rfl (fun s2 I2 ⟨a, sb, ha⟩ => ?_) (.inr hyl))
  have haC : C ≠ a := ha.elim (fun z => by rw [z]; exact g1) fun z e => g4 y a z e.symm
  exact ⟨m, hn.sameBut sb haC, fun h3 sb3 => ⟨_, H', I2.turned (t' := s2.toks) (fun b o hb e => (sb3.2 b hb).trans e) g0 g1 g3 g4 g5, q⟩⟩
end
end Pa
set_option maxRecDepth 100000
set_option maxHeartbeats 4000000
namespace Pa
open PySem PySem.Spec PyProof.Rows L2 L2H HotX HotY
/-! ### defs that are called while an exception is handled -/
theorem fun_okY {P : Program} {w : World} {K : PySem.W.Frag} {mg : Str → Option Value} {base : Heap} {x qual : Str} {st : Stmt} {f : Addr} {fd : FuncData} {N ps : List Str} {k : Nat} {sp : Sp} (F : Fun K x qual st f fd) (S : FnScope N ps (defScope st)) (len : ∀ vs H Q E, sp vs H Q E → vs.length = ps.length)
    (hbody : ∀ (cdv : Value) (A : Around) (outer : List Env) (s : Shared) (H : Hp) (vs : List V) (Q : VK) (E : XK) (p : Addr × Obj), HotC (cxH CX0 P w K mg base N qual (defScope st) f cdv A outer s H E p).nox → RoomH k (A.deeper (envOfC qual (defScope st) s.heap.objs.size f cdv)) → sp vs H Q E →
      ∃ t, PSs (cxH CX0 P w K mg base N qual (defScope st) f cdv A outer s H E p).nox (defBody st) t ∧ t { nx := fun _ H' => Q .non H', rt := Q } (start N vs) H) : FnH P w K mg base CX0 (k + 1) f fd ps sp := by
  obtain ⟨oc, od, kV, doc, pm, an, cdv, ct, osl, rfl, lk, hcd⟩ := F.ex
  refine fn_ofH lk hcd S len fun A outer s H vs Q E p hot hr hsp => ?_
  obtain ⟨t, h, q⟩ := hbody cdv A outer s H vs Q E p ⟨p, hot, List.mem_singleton.mpr rfl⟩ hr hsp
  exact ⟨t, h.nox, q⟩
theorem fnH_mono {P : Program} {w : World} {K : PySem.W.Frag} {mg : Str → Option Value} {base : Heap} {CX : CXT} {j k : Nat} {f : Addr} {fd : FuncData} {ps : List Str} {sp : Sp} (F : FnH P w K mg base CX j f fd ps sp) (h : j ≤ k) : FnH P w K mg base CX k f fd ps sp :=
  ⟨F.len, fun A outer s H args us vs Q E p hr => F.run A outer s H args us vs Q E p (hr.mono h)⟩
structure CallOkY (P : Program) (w : World) (K : PySem.W.Frag) (mg : Str → Option Value) (base : Heap) (k : Nat) (x : Str) (ps : List Str) (sp : Sp) : Prop where
  ok : ∃ (f : Addr) (fd : FuncData), mg x = some (.ref f) ∧ PySem.W.keepIn K (.ref f) = true ∧ Binds K fd ps [] ∧ FnH P w K mg base CX0 k f fd ps sp
structure MethOkY (P : Program) (w : World) (K : PySem.W.Frag) (mg : Str → Option Value) (base : Heap) (C : Addr) (k : Nat) (m : Str) (ps : List Str) (sp : Sp) : Prop where
  ok : ∃ (f : Addr) (fd : FuncData), Meth K C m f ∧ Binds K fd ps [] ∧ FnH P w K mg base CX0 k f fd ps sp
structure PropOkY (P : Program) (w : World) (K : PySem.W.Frag) (mg : Str → Option Value) (base : Heap) (C : Addr) (k : Nat) (m : Str) (sp : Sp) : Prop where
  ok : ∃ (p g : Addr) (fd : FuncData), PropOf K C m p g ∧ Binds K fd ["self"] [] ∧ FnH P w K mg base CX0 k g fd ["self"] sp
structure LenOkY (P : Program) (w : World) (K : PySem.W.Frag) (mg : Str → Option Value) (base : Heap) (C : Addr) (k : Nat) (sp : Sp) : Prop where
  ok : ∃ (g : Addr) (fd : FuncData), LenC K C g ∧ Binds K fd ["self"] [] ∧ FnH P w K mg base CX0 k g fd ["self"] sp
section
variable {X : Cx} {k : Nat} {ps : List Str} {sp : Sp} {x m : Str} {C : Addr} {p apos pos : Pos} {o e : Expr} {es : List Expr} {t : TA} {ta : TE} {pl : Sem Bool}
theorem passAt0 {X : Cx} {σ : L2.St} : PassesAt CX0 X σ E0 := fun _ _ _ _ _ _ h => h.elim
theorem pe_ccY (hc : HotC X) (M : CallOkY X.prog X.w X.K X.mg X.base k x ps sp) (hr : RoomH k X.A) (hg : Gl X x) (ha : PA X (e :: es) t) (hdb : (x == ("__debug__" : Str)) = false := by decide)
    (he : starEach (e :: es) X.env = (false, eval e X.env) :: starEach es X.env := by rfl) (hpl : (backTo pos (starEach es X.env)).any (·.1) = false := by rfl) : PE X (.Call (.Name x p) (e :: es) [] pos) (tCall sp [] E0 t) := by
  obtain ⟨f, fd, h1, h2, h3, h4⟩ := M.ok
  have q := pe_callH (E := fun _ => E0) h4 hr hc hg h1 h2 h3 (fun _ => passAt0) ha hdb he hpl (q := p)
  have et : tCall sp [] E0 t = tCallS sp (fun _ => E0) t := by
    funext σ H Q
    show t σ H (fun vs H1 => sp (vs ++ []) H1 Q E0) = t σ H (fun vs H1 => sp vs H1 Q E0)
    simp only [List.append_nil]
  rw [et]
  exact q
theorem pe_mc0Y (hc : HotC X) (he : PE X o ta) (c : Cls X.K C) (M : MethOkY X.prog X.w X.K X.mg X.base C k m ps sp) (hr : RoomH k X.A)
    (ht : eval (.Call (.Attribute o m apos) [] [] pos) X.env = (do
      let z ← eval o X.env
      standAt apos.atName
      let (f, first) ← holding [z] (getMethod z m pl)
      callWith pos f first (backTo pos (starEach [] X.env)) (backToKw pos (keywordEach [] X.env))) := by rfl) :
    PE X (.Call (.Attribute o m apos) [] [] pos) (tMeth C m sp [] E0 ta tNil) := by
  obtain ⟨f, fd, hm, hb, F⟩ := M.ok
  refine ⟨fun pins s σ H Q I h => PySem.W.methodCall_KW (pl := pl) (thn (he.run pins s σ H _ I h) fun u s1 ⟨y, H1, I1, rx, a, dx, fs, ex, ea, l, q⟩ => ?_) ht⟩
  subst ex
  obtain rfl : u = Value.ref a := rx
  exact getmeth_ok I1 ea c hm l (PySem.W.callWith_K0 (first := [.ref a]) I1.kIn hm.kp (run_fnH (E := fun _ => E0) (us := [.ref a]) (vs := [.ref a]) F hr hc hb passAt0 I1 (.cons rfl .nil) q))
/-- the exception that is handled, one level deeper -/
theorem hot1_in1 {A : Around} {p : Addr × Obj} (h : Hot1 A p) : Hot1 A.in1 p := h
theorem roomH_in1 {A : Around} (r : RoomH (k + 1) A) : RoomH k A.in1 := ⟨by have := r.dp; show A.depth + 3 * k + 5 < _; omega, by have := r.un; show A.units + 1 + 16 * k + 200 < _; omega⟩
theorem pinY {pins : List (Addr × Obj)} {σ : L2.St} {H : Hp} {s : Shared} (hc : HotC X) (I : Inv X pins σ H s) : ∃ p : Addr × Obj, Hot1 X.A p ∧ PinOk X.stack H s p := by
  obtain ⟨p, hot, hp⟩ := hc
  have P1 := I.pin p (List.mem_append_left _ hp)
  exact ⟨p, hot, P1.1, P1.2.1, fun hm => (List.mem_cons.mp (I.stkSub p.1 hm)).elim P1.2.2.1 P1.2.2.2.1, P1.2.2.2.2⟩
theorem pe_prY (hc : HotC X) (he : PE X o ta) (c : Cls X.K C) (M : PropOkY X.prog X.w X.K X.mg X.base C k m sp) (hr : RoomH (k + 1) X.A)
    (hab : attributeBase o m X.env (eval o X.env) = eval o X.env := by rfl) : PE X (.Attribute o m pos) (tProp C sp [] E0 ta) := by
  obtain ⟨pp, g, fd, hp, hb, F⟩ := M.ok
  refine ⟨fun pins s σ H Q I h => attr_of hab (thn (he.run pins s σ H _ I h) fun u s1 ⟨y, H1, I1, rx, a, dx, fs, ex, ea, q⟩ => ?_)⟩
  subst ex
  obtain rfl : u = Value.ref a := rx
  obtain ⟨mA, O, _, _, _, _⟩ := ins_get I1.hok ea
  obtain ⟨od, J, _⟩ := O.look
  obtain ⟨rest, hrec⟩ := hp.rec_
  have I2 := I1.tok (s1.toks + 1)
  obtain ⟨p0, hot, hpin⟩ := pinY hc I2
  have hcl : (PySem.W.clsIn X.K C).isSome = true := by
    obtain ⟨cd, hcd, _⟩ := PySem.W.any_some c.hd
    rw [hcd]
    rfl
  refine PySem.W.get_bind I1.kIn J (PySem.W.plainGet_of (c.get m)).1 (PySem.W.findObj_data hcl hp.at_ hp.get hp.tak) (PySem.W.plainGet_of (c.get m)).2 (wpAny_call (PySem.W.prop_get (s := { s1 with toks := s1.toks + 1 }) I1.kIn hrec (codeAny_mono (F.run X.A.in1 X.stack { s1 with toks := s1.toks + 1 } H1 ⟨[.ref a], []⟩ [.ref a] [.ref a] Q E0 p0 (roomH_in1 hr) (hot1_in1 hot) hpin I2.env0.in1 (hb _ [.ref a] I2.kIn rfl) (.cons rfl .nil) q) fun r s' hq => ?_)))
  cases r with
  | error er => exact hq.elim
  | ok fl =>
    cases fl with
    | ret u =>
      obtain ⟨v, H', I3, rv, q3⟩ := I2.after hq
      show wpAny _ _ (handedOut u) _ _ _
      rw [PySem.W.handedOut_of (handed_of rv)]
      exact wpAny_pure ⟨v, H', I3, rv, q3⟩
    | next => exact False.elim hq
    | brk => exact False.elim hq
    | cont => exact False.elim hq
theorem call_lenY (hc : HotC X) (M : LenOkY X.prog X.w X.K X.mg X.base C k sp) (hr : RoomH (k + 1) X.A) : CallR X (.builtin "len") (rLenO C sp) := by
  obtain ⟨g, fd, hl, hb, F⟩ := M.ok
  intro pins s σ H xs us Q I r h
  obtain ⟨a, dx, fs, rfl, ea, q⟩ := h
  obtain ⟨u, rfl, ru⟩ := vals1 r
  obtain rfl : u = Value.ref a := ru
  obtain ⟨mA, O, _, _, _, _⟩ := ins_get I.hok ea
  obtain ⟨od, J, _⟩ := O.look
  obtain ⟨p0, hot, hpin⟩ := pinY hc I
  refine len_fn I.kIn J hl (wpAny_call (codeAny_mono (F.run X.A.in1 X.stack s H ⟨[.ref a], []⟩ [.ref a] [.ref a] _ E0 p0 (roomH_in1 hr) (hot1_in1 hot) hpin I.env0.in1 (hb _ [.ref a] I.kIn rfl) (.cons rfl .nil) q) fun r s' hq => ?_))
  cases r with
  | error er => exact hq.elim
  | ok fl =>
    cases fl with
    | ret u =>
      obtain ⟨v, H', I3, rv, n, rfl, h0, h1, q3⟩ := I.after hq
      obtain ⟨tk, rfl⟩ := rv
      exact ⟨n, tk, rfl, h0, h1, .int n, H', I3.tok _, ⟨_, rfl⟩, q3⟩
    | next => exact False.elim hq
    | brk => exact False.elim hq
    | cont => exact False.elim hq
end
end Pa
set_option maxRecDepth 100000
set_option maxHeartbeats 4000000
namespace HotY
open PySem PySem.Spec PyProof.Rows HotX
section
variable {prog : Program} {w : World} {A : Around} {E : Value → Shared → Prop} {s : Shared}
/-- a tuple's iterator comes to its end while an exception is handled -/
theorem tup_end_hot {it t x1 : Addr} {i : Nat} {items : Array Value} {Q : Option Value → Shared → Prop} (hot : HotAt A x1 s.heap) (hne : x1 ≠ it) (hit : IsTupIter s.heap it t i) (ht : IsTup s.heap t items) (hx : items[i]? = none)
    (hQ : ∀ h', Heap.ExtBut it s.heap h' → Q none { s with heap := h' }) : wpAny (model prog w) A (pyNext (.ref it)) Q E s := by
  obtain ⟨hh, o1, vs1, h1, d1, c1⟩ := hot
  obtain ⟨o, ho, hc, hd⟩ := id hit
  obtain ⟨ol, hol, _, nl, hdl⟩ := ht
  unfold pyNext
  refine wpAny_bind (wpAny_attempt (wpAny_callSpecial?_slot (name := Str.ofString "__next__") hit.typeIs slot_tupleiter_next
    (wpAny_call_entry slot_tupleiter_next hit.typeIs entry_tupleiter_next ?_ (args_tupleiter_next _))))
  show wpAny _ _ (field (.ref it) 0 >>= _) _ _ s
  refine wpAny_bind (wpAny_field ho hd (x := .ref t) rfl ?_)
  show wpAny _ _ (if (Value.ref t == Value.none) = true then _ else _) _ _ s
  rw [if_neg (show ¬ ((Value.ref t == Value.none) = true) from Bool.false_ne_true)]
  show wpAny _ _ (field (.ref it) 1 >>= _) _ _ s
  refine wpAny_bind (wpAny_field ho hd (x := .int i 0) rfl ?_)
  show wpAny _ _ (seqItems? (.ref t) >>= _) _ _ s
  refine wpAny_bind (wpAny_seqItems hol hdl ?_)
  simp only [Int.toNat_natCast, hx]
  refine wpAny_bind (wpAny_rule (wpAny_bind (wpAny_setField ho hd (by simp) ?_)))
  show wpAny _ _ (newExc (.type "StopIteration") [] >>= _) _ _ _
  have sb : Heap.SameBut it s.heap (s.heap.update it (Obj.mapFields (·.setIfInBounds 0 .none))) := Heap.SameBut.update ..
  have h1' : (s.heap.update it (Obj.mapFields (·.setIfInBounds 0 .none))).get? x1 = some o1 := (sb.2 x1 hne).trans h1
  refine wpAny_bind ?_
  simp only [newExc, newTuple]
  refine wpAny_bind (wpAny_newObj_type ?_ (by size_fits))
  refine wpAny_bind (m := firstArgMember _ _) (wpAny_of_eq (a := Value.none) (by first | rfl | (simp only [firstArgMember]; rfl)) ?_)
  refine wpAny_newObj_type ?_ (by size_fits)
  refine raiseNew_hot ⟨hh, o1, vs1, Heap.get?_push_of_some _ (Heap.get?_push_of_some _ h1'), d1, c1⟩ (Nat.ne_of_lt (Heap.lt_size (Heap.get?_push_of_some _ h1'))) (Heap.get?_push_size _ rfl) rfl (by first | (simp; done) | (simp; omega) | (simp only [Array.size_append]; simp; omega)) ?_
  refine wpAny_bind (wpAny_isInstance (T := "StopIteration") (b := true) ⟨_, Heap.get?_update_self _ (Heap.get?_push_size _ rfl) rfl, rfl⟩ isSubtype_stop ?_)
  refine wpAny_pure (hQ _ fun b o hb e => ?_)
  have e' : (s.heap.update it (Obj.mapFields (·.setIfInBounds 0 .none))).get? b = some o := (sb.2 b hb).trans e
  rw [Heap.get?_update_other _ _ (Nat.ne_of_gt (Heap.lt_size (Heap.get?_push_of_some _ e')))]
  exact Heap.get?_push_of_some _ (Heap.get?_push_of_some _ e')
theorem unpack_items_hot {t x1 : Addr} {items : Array Value} {Q : List Value → Shared → Prop} (hot : HotAt A x1 s.heap) (ht : IsTup s.heap t items)
    (hQ : ∀ h', Heap.ExtBut s.heap.objs.size s.heap h' → Q items.toList { s with heap := h' }) : wpAny (model prog w) A (unpackItems (.ref t) items.size none) Q E s := by
  obtain ⟨hh, o1, vs1, h1, d1, c1⟩ := hot
  have hlt : t ≠ s.heap.objs.size := by obtain ⟨o, ho, _⟩ := ht; exact Nat.ne_of_lt (Heap.lt_size ho)
  have hx : x1 ≠ s.heap.objs.size := Nat.ne_of_lt (Heap.lt_size h1)
  unfold unpackItems
  refine wpAny_bind ?_
  unfold notIterableAtAll
  refine wpAny_bind (wpAny_specialOf ht.typeIs slot_tuple_iter.lookup (wpAny_pure ?_))
  simp only [Bool.false_eq_true, if_false]
  refine wpAny_bind (wpAny_holding (iter_tuple ht (wpAny_bind (wpAny_holding (draw_tuple hlt items.size 0 _ _ ⟨_, Heap.get?_push_size _ rfl, rfl, rfl⟩ (ht.push _) (by omega) fun ha hita hsa => ?_)))))
  rw [show List.take items.size (List.drop 0 items.toList) = items.toList by rw [List.drop_zero]; exact List.take_of_length_le (by simp), if_neg (by simp)]
  refine wpAny_bind (wpAny_holding (tup_end_hot ⟨hh, o1, vs1, (hsa.2 x1 hx).trans (Heap.get?_push_of_some _ h1), d1, c1⟩ hx hita ((ht.push _).extBut hsa.extBut hlt) (by simp) fun hb heb => ?_))
  simp only [Option.isSome_none, Bool.false_eq_true, if_false]
  exact wpAny_pure (hQ hb fun b o hb e => heb b o hb (hsa.extBut b o hb (Heap.get?_push_of_some _ e)))
end
end HotY
namespace L2H
open PySem
theorem RoomH.units {k : Nat} {A : Around} (r : RoomH k A) : A.units + 64 < cLine := by have := r.un; omega
end L2H
namespace Pa
open PySem PySem.Spec PyProof.Rows L2 L2H HotX HotY
section
variable {X : Cx}
theorem pg_tupY {es : List Expr} {k : Nat} {t : TGs} {n : Nat} {pos : Pos} (hc : HotC X) (h : PGs X es t)
    (hn : (assignEach es X.env).length = n := by rfl) (hst : (assignEach es X.env).findIdx? (·.1) = none := by rfl) : PG X (.Tuple es k pos) (gTup X.K n t) := by
  refine ⟨fun pins s σ H v u Q I r ⟨a, xs, e1, hq, hl, hw⟩ => ?_⟩
  subst e1
  cases r
  obtain ⟨its, rv, ht, hz⟩ := I.tuple hq
  obtain ⟨x1, hot⟩ := hc.at I
  rw [assign_Tuple]
  refine wpAny_bind (wpAny_standAt ?_)
  unfold unpack
  rw [show (assignEach es X.env).length = its.toArray.size by simp [hn, ← hl, rv.length], hst]
  refine wpAny_bind (wpAny_holding (unpack_items_hot hot ht fun h' hx => ?_))
  have I1 : Inv X pins σ H { s with heap := h' } := I.kept (t' := s.toks) fun b o e => hx b o (Nat.ne_of_lt (Heap.lt_size e)) e
  exact h.run pins _ σ H xs _ Q I1 (by simpa using rv) hw
theorem ps_parY {i j : Nat} {x y : Str} {a b : Expr} {ta : TA} {px py pt pos : Pos} {kt k2 pt2} (hc : HotC X) (hN : X.N.Nodup) (hi : X.N[i]? = some x) (hj : X.N[j]? = some y) (hij : i ≠ j)
    (hx : X.env.scope.names.lookup x = some .local) (hy : X.env.scope.names.lookup y = some .local) (ha : PA X [a, b] ta)
    (hw : swappedStores [.Tuple [.Name x px, .Name y py] kt pt] (.Tuple [a, b] k2 pt2) X.env = pure (some [x, y]))
    (hs : swapsWithSole [.Tuple [.Name x px, .Name y py] kt pt] (.Tuple [a, b] k2 pt2) pos.line X.env = pure false := by rfl) :
    PS X (.Assign [.Tuple [.Name x px, .Name y py] kt pt] (.Tuple [a, b] k2 pt2) pos) (tPar i j ta) := by
  refine ⟨fun pins s σ H D I h => ?_⟩
  rw [exec_Assign_arm]
  refine wpAny_bind (wpAny_standAt ?_)
  rw [hs]
  refine wpAny_bind (wpAny_pure ?_)
  rw [if_neg (by decide)]
  refine wpAny_bind (Tuple_ (thn (ha.run _ pins s σ H _ I h) fun us s1 ⟨vs, H1, I1, r1, v, w, e1, q1⟩ => ?_))
  subst e1
  obtain ⟨u1, u2, rfl, rv, rw'⟩ : ∃ u1 u2, us = [u1, u2] ∧ RelV v u1 ∧ RelV w u2 := by
    cases r1 with
    | cons p q =>
      cases q with
      | cons p' q' =>
        cases q'
        exact ⟨_, _, rfl, p, p'⟩
  refine wpAny_newObj_type ?_ (by show 2 ≤ sizeLine; decide)
  have I2 : Inv X pins σ H1 { s1 with heap := s1.heap.push { cls := .type "tuple", data := .seq [u1, u2].toArray } } := I1.kept (t' := s1.toks) fun b o e => Heap.get?_push_of_some _ e
  obtain ⟨x1, hot⟩ := hc.at I2
  rw [hw]
  refine wpAny_bind (wpAny_pure ?_)
  show wpAny (model X.prog X.w) X.A (do rule "assign.swapped-stores"; let items ← unpackItems (.ref s1.heap.objs.size) 2 none; assignInOrder [fun v => bindName X.env y v, fun v => bindName X.env x v] items.reverse; pure Flow.next) _ _ _
  refine wpAny_bind (wpAny_rule (wpAny_bind (unpack_items_hot (items := #[u1, u2]) hot (IsTup.new s1.heap _) fun h' hx' => ?_)))
  have I3 := I2.kept (h' := h') (t' := s1.toks) fun b o e => hx' b o (Nat.ne_of_lt (Heap.lt_size e)) e
  show wpAny _ _ (assignInOrder [fun v => bindName X.env y v, fun v => bindName X.env x v] [u2, u1] >>= fun _ => pure Flow.next) _ _ _
  refine wpAny_bind (assignInOrder_cons (wpAny_bindName (store_ok I3 hN hj (.inl hy) rw' (fun s2 I4 => ?_) (.inr hy))))
  refine assignInOrder_cons (wpAny_bindName (store_ok I4 hN hi (.inl hx) rv (fun s3 I5 => assignInOrder_nil (wpAny_pure ?_)) (.inr hx)))
  rw [List.set_comm _ _ (Ne.symm hij)] at I5
  exact ⟨_, H1, I5, q1⟩
theorem ps_par3Y {i j l : Nat} {x y z : Str} {a b c : Expr} {ta : TA} {px py pz pt pos : Pos} {kt k2 pt2} (hc : HotC X) (hN : X.N.Nodup) (hi : X.N[i]? = some x) (hj : X.N[j]? = some y) (hl : X.N[l]? = some z) (hij : i ≠ j) (hil : i ≠ l) (hjl : j ≠ l)
    (hx : X.env.scope.names.lookup x = some .local) (hy : X.env.scope.names.lookup y = some .local) (hz : X.env.scope.names.lookup z = some .local) (ha : PA X [a, b, c] ta)
    (hw : swappedStores [.Tuple [.Name x px, .Name y py, .Name z pz] kt pt] (.Tuple [a, b, c] k2 pt2) X.env = pure (some [x, y, z]))
    (hs : swapsWithSole [.Tuple [.Name x px, .Name y py, .Name z pz] kt pt] (.Tuple [a, b, c] k2 pt2) pos.line X.env = pure false := by rfl) :
    PS X (.Assign [.Tuple [.Name x px, .Name y py, .Name z pz] kt pt] (.Tuple [a, b, c] k2 pt2) pos) (tPar3 i j l ta) := by
  refine ⟨fun pins s σ H D I h => ?_⟩
  rw [exec_Assign_arm]
  refine wpAny_bind (wpAny_standAt ?_)
  rw [hs]
  refine wpAny_bind (wpAny_pure ?_)
  rw [if_neg (by decide)]
  refine wpAny_bind (Tuple_ (thn (ha.run _ pins s σ H _ I h) fun us s1 ⟨vs, H1, I1, r1, v1, v2, v3, e1, q1⟩ => ?_))
  subst e1
  obtain ⟨u1, u2, u3, rfl, r1', r2', r3'⟩ : ∃ u1 u2 u3, us = [u1, u2, u3] ∧ RelV v1 u1 ∧ RelV v2 u2 ∧ RelV v3 u3 := by
    cases r1 with
    | cons p q =>
      cases q with
      | cons p' q' =>
        cases q' with
        | cons p'' q'' =>
          cases q''
          exact ⟨_, _, _, rfl, p, p', p''⟩
  refine wpAny_newObj_type ?_ (by show 3 ≤ sizeLine; decide)
  have I2 : Inv X pins σ H1 { s1 with heap := s1.heap.push { cls := .type "tuple", data := .seq [u1, u2, u3].toArray } } := I1.kept (t' := s1.toks) fun b o e => Heap.get?_push_of_some _ e
  obtain ⟨x1, hot⟩ := hc.at I2
  rw [hw]
  refine wpAny_bind (wpAny_pure ?_)
  show wpAny (model X.prog X.w) X.A (do rule "assign.swapped-stores"; let items ← unpackItems (.ref s1.heap.objs.size) 3 none; assignInOrder [fun v => bindName X.env z v, fun v => bindName X.env y v, fun v => bindName X.env x v] items.reverse; pure Flow.next) _ _ _
  refine wpAny_bind (wpAny_rule (wpAny_bind (unpack_items_hot (items := #[u1, u2, u3]) hot (IsTup.new s1.heap _) fun h' hx' => ?_)))
  have I3 := I2.kept (h' := h') (t' := s1.toks) fun b o e => hx' b o (Nat.ne_of_lt (Heap.lt_size e)) e
  show wpAny _ _ (assignInOrder [fun v => bindName X.env z v, fun v => bindName X.env y v, fun v => bindName X.env x v] [u3, u2, u1] >>= fun _ => pure Flow.next) _ _ _
  refine wpAny_bind (assignInOrder_cons (wpAny_bindName (store_ok I3 hN hl (.inl hz) r3' (fun s2 I4 => ?_) (.inr hz))))
  refine assignInOrder_cons (wpAny_bindName (store_ok I4 hN hj (.inl hy) r2' (fun s3 I5 => ?_) (.inr hy)))
  refine assignInOrder_cons (wpAny_bindName (store_ok I5 hN hi (.inl hx) r1' (fun s4 I6 => assignInOrder_nil (wpAny_pure ?_)) (.inr hx)))
  rw [List.set_comm _ _ (Ne.symm hjl), List.set_comm _ _ (Ne.symm hil), List.set_comm _ _ (Ne.symm hij)] at I6
  exact ⟨_, H1, I6, q1⟩
end
end Pa
set_option maxRecDepth 100000
set_option maxHeartbeats 4000000
namespace Pa
open PySem PySem.Spec PyProof.Rows L2 L2H HotX HotY
/-! ### the law's defs and the Page's, called while an exception is handled -/
section
variable {P : Program} {w : World} {K : PySem.W.Frag} {mg : Str → Option Value} {base : Heap} {C tp : Addr}
theorem ok_numberY {f : Addr} {fd : FuncData} (F : Fun K "_law_number" "_law_number" sL_number f fd) (T : Txt K mg tp C) : FnH P w K mg base CX0 1 f fd ["_law_thing"] spNum := by
  refine fun_okY F scL_number (fun vs H Q E h => ?_) (fun cdv A outer s H vs Q E pY hcY hr h => ?_)
  · obtain ⟨i, rfl, _⟩ := h
    rfl
  · obtain ⟨i, rfl, k⟩ := h
    refine ⟨_, (pss_one (ps_ret (pe_and (pe_callB call_isi (by rfl) T.b_isinstance (by decide +kernel) (pa_cons (pv 0) (pa_cons (pe_bltn (v := .ty "int") (by rfl) T.b_int (by decide +kernel) rfl) pa_nil))) (pe_one (pe_not (pe_callB call_isi (by rfl) T.b_isinstance (by decide +kernel) (pa_cons (pv 0) (pa_cons (pe_bltn (v := .ty "bool") (by rfl) T.b_bool (by decide +kernel) rfl) pa_nil)))))))), ?_⟩
    refine ⟨_, rfl, _, _, _, _, true, rfl, .ty _, .base (.int _), kit_ty (by decide +kernel), _, rfl, iteT ?_⟩
    exact ⟨_, rfl, _, _, _, _, false, rfl, .ty _, .base (.int _), kit_ty (by decide +kernel), _, rfl, k⟩
theorem ok_llinesY {f : Addr} {fd : FuncData} (F : Fun K "_law_lines" "_law_lines" sL_lines f fd) (T : Txt K mg tp C) : FnH P w K mg base CX0 1 f fd ["_law_blocks"] (spLLines K) := by
  refine fun_okY F scL_lines (fun vs H Q E h => ?_) (fun cdv A outer s H vs Q E pY hcY hr h => ?_)
  · obtain ⟨a, xs, bs, rfl, _⟩ := h
    rfl
  · obtain ⟨a, xs, bs, rfl, hS, hx, B, k⟩ := h
    refine ⟨_, (pss_cons (ps_par3Y (i := 1) (j := 2) (l := 3) hcY scL_lines.nd rfl rfl rfl (by decide) (by decide) (by decide) rfl rfl rfl (pa_cons (pe_lst pa_nil) (pa_cons pe_bl (pa_cons pe_bl pa_nil))) (by rfl))
      (pss_cons (ps_forY hcY PassesOwn.never (pi_listY (pv 0)) (pg_tupY hcY (pgs_cons (pg_name (i := 4) scL_lines.nd rfl (.inl rfl)) (pgs_cons (pg_name (i := 5) scL_lines.nd rfl (.inl rfl)) (pgs_cons (pg_name (i := 6) scL_lines.nd rfl (.inl rfl)) (pgs_cons (pg_name (i := 7) scL_lines.nd rfl (.inl rfl)) pgs_nil)))))
        (pss_cons (ps_set (i := 3) scL_lines.nd rfl (.inl rfl) (pe_pure (pe_or (pv 3) (pe_one (pv 7)))))
        (pss_cons (ps_forY hcY PassesOwn.never (pi_range1Y (by rfl) T.b_range (pa_cons (pv 4) pa_nil)) (pg_name (i := 8) scL_lines.nd rfl (.inl rfl))
          (pss_one (ps_expr (pe_bm PySem.F.plainAttrs_list PySem.F.slot_list_append PySem.F.type_list_append mt_append (pv 1) (pa_cons (pe_ifExp (pt_cmpR op_eq (pv 8) pe_int (nomark _)) (pe_tup (pa_cons (pv 5) (pa_cons (pv 2) (pa_cons (pv 3) pa_nil)))) (pe_tup (pa_cons pe_int (pa_cons (pe_cmpR op_in_seq (pv 8) (pe_tup (pa_cons pe_int (pa_cons (pe_op op_sub (pv 4) pe_int) pa_nil))) (by rfl)) (pa_cons pe_bl pa_nil))))) pa_nil)))))
        (pss_cons (ps_set (i := 3) scL_lines.nd rfl (.inl rfl) (pe_pure (pe_and (pv 3) (pe_one (pe_cmpR op_eq (pv 4) pe_int (nomark _))))))
        (pss_one (ps_set (i := 2) scL_lines.nd rfl (.inl rfl) (pe_pure (pe_ifExp (pt_cmpR op_gt (pv 4) pe_int (nomark _)) (pv 6) (pv 2)))))))))
      (pss_one (ps_ret (pe_tup (pa_cons (pv 1) (pa_cons (pv 2) (pa_cons (pv 3) pa_nil)))))))), ?_⟩
    refine ⟨Nat.zero_le _, fun q hq => ?_⟩
    refine ⟨_, _, _, rfl, ?_⟩
    have sq : Same H (upd H q (.lst [])) := same_new hq
    have hlen : xs.length = bs.length := hx.len
    refine ⟨_, rfl, a, rfl, ⟨_, sq.seq hS⟩, for_list (K := K) (a := a) (xs := xs) (fun i σ H' => ∃ (y4 y5 y6 y7 y8 : Option V) (ls : List V), σ = [some (.ref a), some (.ref q), some (.bl (linesOf (bs.take i)).kp), some (.bl (linesOf (bs.take i)).du), y4, y5, y6, y7, y8] ∧ Same H H' ∧ H' q = some (.lst ls) ∧ AllAt LnAt H' ls (linesOf (bs.take i)).ls)
      ⟨none, none, none, none, none, [], rfl, sq, upd_same, trivial⟩ (fun i σ H' _ ⟨_, _, _, _, _, _, _, s1, _⟩ => s1.seq hS) ?_ ?_⟩
    · rintro i x σ H' hxi ⟨y4, y5, y6, y7, y8, ls, rfl, s1, hls, hall⟩
      obtain ⟨b, hb, t, rfl, ht⟩ := hx.at hxi
      have eb : bs.take (i + 1) = bs.take i ++ [b] := by rw [List.take_add_one, hb]; rfl
      have hbs := B.small b (List.mem_of_getElem? hb)
      have hlens : (linesOf (bs.take i)).ls.length ≤ 2000 := by
        have h1 := linesOf_len (bs.take i) 100 fun z hz => (B.small z (List.mem_of_mem_take hz)).1
        have h2 := B.few
        rw [List.length_take] at h1
        omega
      refine ⟨t, _, rfl, SqT.of (s1 _ _ ht), rfl, _, _, rfl, _, _, rfl, _, _, rfl, _, _, rfl, rfl, ?_⟩
      rw [eb, linesOf_snoc]
      generalize linesOf (bs.take i) = tt at hls hall hlens ⊢
      refine ⟨.bl (tt.du || b.g), fun Q' hQ => ⟨_, rfl, tt.du, rfl, ite2 (fun h1 => ?_) (fun h1 => ⟨_, rfl, ?_⟩)⟩, ?_⟩
      · rw [h1] at hQ; exact hQ
      · have : tt.du = false := by simpa using h1
        rw [this] at hQ; exact hQ
      generalize hdu : (tt.du || b.g) = du
      refine ⟨_, rfl, _, rfl, by omega, by omega, for_range (lo := 0) (n := ((b.c : Nat) : Int).toNat) (fun j σ H2 => ∃ (y8 : Option V) (ls' : List V), σ = [some (.ref a), some (.ref q), some (.bl tt.kp), some (.bl du), some (.int (b.c : Int)), some (.int b.s), some (.bl b.k), some (.bl b.g), y8] ∧ Same H H2 ∧ H2 q = some (.lst ls') ∧ AllAt LnAt H2 ls' (tt.ls ++ blLines b.c b.s tt.kp du j))
        ⟨_, ls, rfl, s1, hls, by rw [show blLines b.c b.s tt.kp du 0 = [] from rfl, List.append_nil]; exact hall⟩ ?_ ?_⟩
      · rintro j σ H2 hj ⟨y8', ls', rfl, s2, hls2, hall2⟩
        have hj' : j < b.c := by omega
        have hln : (blLines b.c b.s tt.kp du j).length = j := by unfold blLines; simp
        have hsz : ls'.length < sizeLine := by
          rw [hall2.len, List.length_append, hln]
          exact Nat.lt_of_le_of_lt (m := 5000) (by omega) (by decide)
        have z0 : (0 : Int) + (j : Int) = (j : Int) := Int.zero_add _
        rw [blLines_succ, ← List.append_assoc]
        refine ⟨_, rfl, .inl ⟨rfl, _, SqL.of hls2⟩, _, rfl, rfl, _, rfl, ite2 (fun h1 => ?_) (fun h1 => ?_)⟩
        · have hj0 : j = 0 := by
            have := V.int.inj (of_decide_eq_true h1)
            omega
          refine ⟨_, rfl, _, rfl, _, rfl, (by show 3 ≤ sizeLine; decide), fun p hp => ?_⟩
          obtain ⟨p1, p2, p3, p4⟩ := all_push (f := fun l : Ln => [.int l.sp, .bl l.br, .bl l.du]) (y := blLn b.c b.s tt.kp du j) (tv := [.int b.s, .bl tt.kp, .bl du]) hls2 hall2 hp (by rw [hj0]; rfl)
          exact ⟨q, _, _, rfl, rfl, p3, hsz, _, _, rfl, fun u o e => p4 u o (fun r => by rw [r, hq] at e; cases e) (s2 _ _ e), p1, p2⟩
        · have hj0 : ¬ j = 0 := fun r => h1 (decide_eq_true (by rw [r]; rfl))
          refine ⟨_, rfl, _, rfl, _, _, rfl, rfl, (by show 2 ≤ sizeLine; decide), fun u hu => ⟨u, _, rfl, .inr (SqT.of upd_same), rfl, rfl, (by show 3 ≤ sizeLine; decide), fun p hp => ?_⟩⟩
          have nuq : q ≠ u := fun r => by rw [← r, hls2] at hu; cases hu
          have hls3 : (upd H2 u (.tup [V.int 1, V.int ((b.c : Int) - 1)])) q = some (.lst ls') := (upd_ne nuq).trans hls2
          have hall3 := lnMono (Tups.new (o := .tup [V.int 1, V.int ((b.c : Int) - 1)]) hu) hall2
          have eb2 : blLn b.c b.s tt.kp du j = ⟨0, decide ((j : Int) = 1 ∨ (j : Int) = (b.c : Int) - 1), false⟩ := by unfold blLn; rw [if_neg hj0]
          obtain ⟨p1, p2, p3, p4⟩ := all_push (f := fun l : Ln => [.int l.sp, .bl l.br, .bl l.du]) (y := blLn b.c b.s tt.kp du j) (tv := [.int 0, .bl (inV (.int (0 + (j : Int))) [V.int 1, V.int ((b.c : Int) - 1)]), .bl false]) hls3 hall3 hp (by rw [eb2, in_two, z0])
          exact ⟨q, _, _, rfl, rfl, p3, hsz, _, _, rfl, fun v o e => p4 v o (fun r => by rw [r, hq] at e; cases e) (same_new hu _ _ (s2 _ _ e)), p1, p2⟩
      · rintro σ H2 ⟨y8', ls', rfl, s2, hls2, hall2⟩
        have e0 : ((b.c : Nat) : Int).toNat = b.c := Int.toNat_natCast _
        rw [e0] at hall2
        have ec : decide (V.int (b.c : Int) = V.int 0) = decide (b.c = 0) := by
          rw [dec_int]
          by_cases h : b.c = 0
          · rw [h]; rfl
          · rw [decide_eq_false h, decide_eq_false (by omega)]
        refine ⟨.bl (if b.c = 0 then du else false), fun Q' hQ => ⟨_, rfl, du, rfl, ite2 (fun h1 => ⟨_, rfl, rfl, ?_⟩) (fun h1 => ?_)⟩, ?_⟩
        · rw [ec]
          by_cases h : b.c = 0
          · rw [if_pos h, h1] at hQ; rw [decide_eq_true h]; exact hQ
          · rw [if_neg h] at hQ; rw [decide_eq_false h]; exact hQ
        · have : du = false := by simpa using h1
          rw [this, ite_self] at hQ
          exact hQ
        refine ⟨.bl (if b.c = 0 then tt.kp else b.k), fun Q' hQ => ⟨_, rfl, _, _, rfl, rfl, _, rfl, ite2 (fun h1 => ⟨_, rfl, ?_⟩) (fun h1 => ⟨_, rfl, ?_⟩)⟩, ?_⟩
        · have hc : ¬ b.c = 0 := by
            have := of_decide_eq_true h1
            omega
          rw [if_neg hc] at hQ
          exact hQ
        · have hc : b.c = 0 := by
            have : ¬ (b.c : Int) > 0 := fun r => h1 (decide_eq_true r)
            omega
          rw [if_pos hc] at hQ
          exact hQ
        refine ⟨some (.int (b.c : Int)), some (.int b.s), some (.bl b.k), some (.bl b.g), y8', ls', ?_, s2, hls2, ?_⟩
        · unfold stepB
          rw [hdu]
          rfl
        · unfold stepB
          rw [hdu]
          exact hall2
    · rintro σ H' ⟨y4, y5, y6, y7, y8, ls, rfl, s1, hls, hall⟩
      have et : bs.take xs.length = bs := by rw [hlen]; exact List.take_of_length_le (Nat.le_refl _)
      rw [et] at hall ⊢
      refine ⟨_, rfl, _, rfl, _, rfl, (by show 3 ≤ sizeLine; decide), fun p hp => ?_⟩
      have sp := same_new (o := .tup [.ref q, .bl (linesOf bs).kp, .bl (linesOf bs).du]) hp
      exact k p q _ ls (s1.free hp) (s1.trans sp) upd_same (sp _ _ hls) (lnMono (Tups.of sp) hall)
theorem ok_cutY {f : Addr} {fd : FuncData} (F : Fun K "_law_cut" "_law_cut" sL_cut f fd) (T : Txt K mg tp C) : FnH P w K mg base CX0 1 f fd ["_law_length_here", "_law_lines_here", "_law_start"] spCut := by
  refine fun_okY F scL_cut (fun vs H Q E h => ?_) (fun cdv A outer s H vs Q E pY hcY hr h => ?_)
  · obtain ⟨L, q, lv, ls, start, rfl, _⟩ := h
    rfl
  · obtain ⟨L, q, lv, ls, start, rfl, hq, hall, h1, hlen, k⟩ := h
    refine ⟨_, (pss_cons (ps_set (i := 3) scL_cut.nd rfl (.inl rfl) pe_int)
      (pss_cons (ps_forY hcY PassesOwn.never (pi_range2Y (by rfl) T.b_range (pa_cons (pe_op op_add (pv 2) pe_int) (pa_cons (pe_callB call_len_seq (by rfl) T.b_len PySem.boot_len (pa_cons (pv 1) pa_nil)) pa_nil))) (pg_name (i := 4) scL_cut.nd rfl (.inl rfl))
        (pss_cons (ps_set (i := 3) scL_cut.nd rfl (.inl rfl) (pe_op op_add (pe_op op_add (pv 3) (pe_ix ix_tup (pe_ix ix_list (pv 1) (pv 4) (fun _ _ => rfl)) pe_int (fun _ _ => rfl))) pe_int))
        (pss_cons (ps_if (pt_val (pe_ix ix_tup (pe_ix ix_list (pv 1) (pv 4) (fun _ _ => rfl)) pe_int (fun _ _ => rfl)))
          (pss_one (ps_ret (pv 4)))
          pss_nil)
        (pss_one (ps_if (pt_cmpR op_ge (pv 3) (pv 0) (nomark _))
          (pss_cons (ps_setLcY (i := 5) (own := [("_law_k", 6)]) (g := gName 6) hcY scL_cut.nd rfl rfl (sw_true rfl rfl rfl (by decide +kernel)) (pi_range2Y (by rfl) T.b_range (pa_cons (pe_op op_add (pv 2) pe_int) (pa_cons (pe_op op_add (pv 4) pe_int) pa_nil))) (blkOk_by (N := ["_law_length_here", "_law_lines_here", "_law_start", "_law_row", "_law_at", "_law_free", "_law_k"]) (sc := defScope sL_cut) (by decide +kernel)) (fun _ _ _ _ _ => (pg_name (i := 6) scL_cut.nd rfl (.inl rfl))) (fun _ _ _ _ _ => (pts_one (pt_not (pt_val (pe_ix (r := rIxT K) ix_tup (pe_ix (r := rIxL K) ix_list (pv 1) (pv 6) (fun _ _ => rfl)) pe_int (fun _ _ => rfl)))))) (fun _ _ _ _ _ => (pv 6)))
          (pss_one (ps_ret (pe_ifExp (pt_cmpR (op_neD hr.units) (pv 5) (pe_lst pa_nil) (nomark _)) (pe_ix ix_list (pv 5) (pe_un un_neg pe_int) (fun _ _ => rfl)) (pv 4)))))
          pss_nil)))))
      (pss_one (ps_ret (pe_callB call_len_seq (by rfl) T.b_len PySem.boot_len (pa_cons (pv 1) pa_nil)))))), ?_⟩
    unfold lawCut at k
    have hll : lv.length = ls.length := hall.len
    have hn : ((lv.length : Int) - ((start : Int) + 1)).toNat = ls.length - (start + 1) := by omega
    refine ⟨_, rfl, _, _, rfl, rfl, _, rfl, q, _, rfl, .inl (SqL.of hq), (start : Int) + 1, (lv.length : Int), rfl, ⟨by omega, by omega, by omega, by omega⟩, ?_⟩
    rw [hn]
    refine for_range (lo := (start : Int) + 1) (n := ls.length - (start + 1)) (fun i σ H' => ∃ (row : Int) (y4 : Option V), σ = [some (.int L), some (.ref q), some (.int (start : Int)), some (.int row), y4, none, none] ∧ Same H H' ∧ lcGo L ls start (ls.length - (start + 1) - i) (start + 1 + i) row = lcGo L ls start (ls.length - (start + 1)) (start + 1) 0)
      ⟨0, none, rfl, Same.refl H, rfl⟩ ?_ ?_
    · rintro i σ H' hi ⟨row, y4, rfl, s1, hgo⟩
      obtain ⟨m, hm⟩ : ∃ m, ls.length - (start + 1) - i = m + 1 := ⟨ls.length - (start + 1) - i - 1, by omega⟩
      have hat : start + 1 + i < ls.length := by omega
      have eat : (start : Int) + 1 + (i : Int) = ((start + 1 + i : Nat) : Int) := by omega
      rw [hm, lcGo] at hgo
      obtain ⟨t, ht, ht'⟩ := lnTo' s1 hall hat
      have hq1 := s1 _ _ hq
      show gName 4 _ _ _ _
      rw [eat]
      refine ⟨_, rfl, _, rfl, _, rfl, q, _, _, _, rfl, rfl, SqL.of hq1, atI_nat ht, t, _, _, _, rfl, rfl, SqT.of ht', atI_nat (j := 0) rfl, _, _, rfl, rfl, _, _, rfl, rfl, ?_⟩
      refine ⟨_, rfl, _, rfl, q, _, _, _, rfl, rfl, SqL.of hq1, atI_nat ht, t, _, _, _, rfl, rfl, SqT.of ht', atI_nat (j := 2) rfl, _, rfl, ite2 (fun g1 => ?_) (fun g1 => ?_)⟩
      · rw [if_pos g1] at hgo
        rw [← hgo] at k
        exact ⟨_, rfl, k H' s1⟩
      rw [if_neg g1] at hgo
      refine ⟨_, rfl, _, rfl, _, _, rfl, rfl, _, rfl, ite2 (fun g2 => ?_) (fun g2 => ?_)⟩
      · have g2' := of_decide_eq_true g2
        rw [if_pos g2'] at hgo
        rw [← hgo] at k
        refine ⟨_, rfl, _, _, rfl, rfl, _, rfl, _, _, rfl, rfl, (start : Int) + 1, ((start + 1 + i : Nat) : Int) + 1, rfl, ⟨by omega, by omega, by omega, by omega⟩, fun D hD => ?_⟩
        have en : (((start + 1 + i : Nat) : Int) + 1 - ((start : Int) + 1)).toNat = start + 1 + i + 1 - (start + 1) := by omega
        rw [en]
        refine lc_range (lo := (start : Int) + 1) (n := start + 1 + i + 1 - (start + 1)) (fun j H3 => Same H' H3 ∧ H3 D = some (.lst (fI ((List.range' (start + 1) j).filter fun z => !(ln ls z).br)))) ⟨same_new hD, upd_same⟩ ?_ ?_
        · rintro j H3 hj ⟨s3, h3⟩
          have hj2 : start + 1 + j < ls.length := by omega
          have ej : (start : Int) + 1 + (j : Int) = ((start + 1 + j : Nat) : Int) := by omega
          obtain ⟨tj, htj, htj'⟩ := lnTo' (s1.trans s3) hall hj2
          refine ⟨rfl, ?_⟩
          refine ⟨_, rfl, _, rfl, q, _, _, _, rfl, rfl, SqL.of (s3 _ _ hq1), (by rw [ej]; exact atI_nat htj), tj, _, _, _, rfl, rfl, SqT.of htj', atI_nat (j := 1) rfl, _, rfl, ?_⟩
          rcases twoB (ln ls (start + 1 + j)).br with hb | hb
          · refine iteQ (notT hb) ⟨s3, ?_⟩
            rw [freeL_succ, if_pos hb, List.append_nil]
            exact h3
          · refine iteP (notF hb) ⟨_, rfl, _, h3, ?_, fun u o e => ?_, ?_⟩
            · unfold fI
              rw [List.length_map]
              exact Nat.lt_of_le_of_lt (m := 200000) (Nat.le_trans (freeN_len _ _ _) (by omega)) (by decide)
            · rw [upd_ne (fun z => by rw [z, hD] at e; cases e)]
              exact s3 _ _ e
            · rw [upd_same, freeL_succ, if_neg (neT hb), ej]
              unfold fI
              rw [List.map_append]
              rfl
        · rintro H3 ⟨s3, h3⟩
          have e9 : ((List.range' (start + 1) (start + 1 + i + 1 - (start + 1))).filter fun z => !(ln ls z).br) = freeL ls (start + 1) (start + 1 + i + 1) := rfl
          rw [e9] at h3
          rw [lastFree_eq] at k
          refine ⟨_, rfl, (by show 0 ≤ sizeLine; decide), fun u hu => ?_⟩
          have s4 := same_new (o := .lst []) hu
          refine ⟨.list ((freeL ls (start + 1) (start + 1 + i + 1)).map dN), .list [], .lst (SqL.of (s4 _ _ h3)) (dpN _), .lst (SqL.of upd_same) .nil, shN _, shN [], ?_⟩
          rw [eqvN]
          refine ⟨_, rfl, ite2 (fun g3 => ?_) (fun g3 => ?_)⟩
          · cases hg : (freeL ls (start + 1) (start + 1 + i + 1)).getLast? with
            | none =>
              rw [List.getLast?_eq_none_iff.mp hg] at g3
              simp at g3
            | some e =>
              rw [hg, Option.getD_some] at k
              refine ⟨_, rfl, _, rfl, D, _, _, _, rfl, rfl, SqL.of (s4 _ _ h3), fI_last hg, ?_⟩
              exact k _ ((s1.trans s3).trans s4)
          · have e0 : freeL ls (start + 1) (start + 1 + i + 1) = [] := by
              by_cases h : freeL ls (start + 1) (start + 1 + i + 1) = []
              · exact h
              · rw [decide_eq_false h] at g3
                exact absurd rfl g3
            rw [e0] at k
            refine ⟨_, rfl, ?_⟩
            exact k _ ((s1.trans s3).trans s4)
      · rw [if_neg (fun z => g2 (decide_eq_true z))] at hgo
        refine ⟨_, _, rfl, s1, ?_⟩
        rw [← hgo]
        congr 1
        omega
    · rintro σ H' ⟨row, y4, rfl, s1, hgo⟩
      rw [Nat.sub_self, lcGo] at hgo
      refine ⟨_, rfl, q, _, rfl, .inl (SqL.of (s1 _ _ hq)), ?_⟩
      rw [← hgo] at k
      rw [hll]
      exact k H' s1
theorem ok_pagesY {f : Addr} {fd : FuncData} (F : Fun K "_law_pages" "_law_pages" sL_pages f fd) (T : Txt K mg tp C) (C__law_cut : CallOkY P w K mg base 1 "_law_cut" ["_law_length_here", "_law_lines_here", "_law_start"] spCut) : FnH P w K mg base CX0 2 f fd ["_law_length_here", "_law_lines_here"] spPages := by
  refine fun_okY F scL_pages (fun vs H Q E h => ?_) (fun cdv A outer s H vs Q E pY hcY hr h => ?_)
  · obtain ⟨L, q, lv, ls, rfl, _⟩ := h
    rfl
  · obtain ⟨L, q, lv, ls, rfl, hq, hall, hL, g, hlen, k⟩ := h
    refine ⟨_, (pss_cons (ps_parY (i := 2) (j := 3) hcY scL_pages.nd rfl rfl (by decide) rfl rfl (pa_cons (pe_lst pa_nil) (pa_cons pe_int pa_nil)) (by rfl))
      (pss_cons (ps_forY hcY PassesOwn.never (pi_range1Y (by rfl) T.b_range (pa_cons (pe_callB call_len_seq (by rfl) T.b_len PySem.boot_len (pa_cons (pv 1) pa_nil)) pa_nil)) (pg_name (i := 4) scL_pages.nd rfl (.inl rfl))
        (pss_one (ps_if (pt_cmpR op_eq (pv 4) (pv 3) (nomark _))
          (pss_cons (ps_expr (pe_bm PySem.F.plainAttrs_list PySem.F.slot_list_append PySem.F.type_list_append mt_append (pv 2) (pa_cons (pe_tup (pa_cons pe_bl (pa_cons pe_int pa_nil))) pa_nil)))
          (pss_one (ps_set (i := 3) scL_pages.nd rfl (.inl rfl) (pe_ccY hcY C__law_cut (hr.mono (by decide)) (by rfl) (pa_cons (pv 0) (pa_cons (pv 1) (pa_cons (pv 4) pa_nil)))))))
          (pss_one (ps_expr (pe_bm PySem.F.plainAttrs_list PySem.F.slot_list_append PySem.F.type_list_append mt_append (pv 2) (pa_cons (pe_tup (pa_cons pe_bl (pa_cons (pe_op op_add (pe_op op_add (pe_ix ix_tup (pe_ix ix_list (pv 2) (pe_un un_neg pe_int) (fun _ _ => rfl)) pe_int (fun _ _ => rfl)) (pe_ix ix_tup (pe_ix ix_list (pv 1) (pv 4) (fun _ _ => rfl)) pe_int (fun _ _ => rfl))) pe_int) pa_nil))) pa_nil)))))))
      (pss_one (ps_ret (pv 2))))), ?_⟩
    obtain ⟨Ef, E0', hE⟩ := law_pages hL g
    have hRl : (rowsOf (runS L ls)).length = ls.length := (right_ok hL g).1
    generalize rowsOf (runS L ls) = R at k hE hRl
    have hll : lv.length = ls.length := hall.len
    refine ⟨Nat.zero_le _, fun p hp => ?_⟩
    refine ⟨_, _, rfl, ?_⟩
    have sp := same_new (o := .lst []) hp
    refine ⟨_, rfl, q, _, rfl, .inl (SqL.of (sp _ _ hq)), _, rfl, by omega, by omega, for_range (lo := 0) (n := ((lv.length : Nat) : Int).toNat) (fun i σ H' => ∃ (y4 : Option V) (ys : List V), σ = [some (.int L), some (.ref q), some (.ref p), some (.int (Ef i : Int)), y4] ∧ Same H H' ∧ H' p = some (.lst ys) ∧ AllAt RwAt H' ys (R.take i))
      ⟨none, [], by rw [E0']; rfl, sp, upd_same, trivial⟩ ?_ ?_⟩
    · rintro i σ H' hi ⟨y4, ys, rfl, s1, hys, hrw⟩
      have hi' : i < ls.length := by omega
      have hyl : ys.length ≤ 5000 := by
        rw [hrw.len, List.length_take]
        omega
      have hsz : ys.length < sizeLine := Nat.lt_of_le_of_lt hyl (by decide)
      show gName 4 _ _ _ _
      rw [Int.zero_add]
      rcases hE i hi' with ⟨e1, e2, e3⟩ | ⟨e1, e2, e3, r, e4, e5, e6⟩
      · refine ⟨_, rfl, _, rfl, rfl, _, rfl, iteP (decide_eq_true (by rw [e1])) ?_⟩
        refine ⟨_, rfl, .inl ⟨rfl, _, SqL.of hys⟩, (by show 2 ≤ sizeLine; decide), fun u hu => ?_⟩
        obtain ⟨p1, p2, p3, p4⟩ := all_push (f := fun r : Int => [.bl (decide (r = 0)), .int r]) (y := (0 : Int)) (tv := [.bl true, .int 0]) hys hrw hu rfl
        refine ⟨p, _, _, rfl, rfl, p3, hsz, ?_⟩
        have s2 : Same H (upd (upd H' u (.tup [.bl true, .int 0])) p (.lst (ys ++ [.ref u]))) := fun a o e => p4 a o (fun z => by rw [z, hp] at e; cases e) (s1 _ _ e)
        refine ⟨_, rfl, _, rfl, _, rfl, L, q, lv, ls, i, rfl, s2 _ _ hq, lnMono (Tups.of s2) hall, hi', by omega, fun H3 s3 => ?_⟩
        rw [e3]
        refine ⟨_, _, rfl, s2.trans s3, s3 _ _ p1, ?_⟩
        rw [take_snoc e2]
        exact rwMono (Tups.of s3) p2
      · refine ⟨_, rfl, _, rfl, rfl, _, rfl, iteQ (fun z => e1 (by have := V.int.inj (of_decide_eq_true z); omega)) ?_⟩
        have hpr : R.take i = R.take (i - 1) ++ [r] := by
          have := take_snoc e4
          rw [show i - 1 + 1 = i by omega] at this
          exact this
        obtain ⟨xs0, x, b0, exs, hx⟩ : ∃ xs0 x b0, ys = xs0 ++ [x] ∧ b0 = true ∧ RwAt H' x r := by
          obtain ⟨z, hz, hz'⟩ := hrw.to (i := i - 1) (y := r) (by rw [List.getElem?_take, if_pos (by omega)]; exact e4)
          have hl : ys.length = i := by rw [hrw.len, List.length_take]; omega
          refine ⟨ys.take (i - 1), z, true, ?_, rfl, hz'⟩
          have := take_snoc hz
          rw [show i - 1 + 1 = i by omega, List.take_of_length_le (by omega)] at this
          exact this
        obtain ⟨_, tx, rfl, htx⟩ := hx
        obtain ⟨tl, htl, htl'⟩ := lnTo' s1 hall hi'
        refine ⟨_, rfl, .inl ⟨rfl, _, SqL.of hys⟩, ?_⟩
        refine ⟨_, rfl, _, rfl, p, _, _, _, rfl, rfl, SqL.of hys, (by rw [exs]; exact atI_last _ _), tx, _, _, _, rfl, rfl, SqT.of htx, atI_nat (j := 1) rfl, ?_⟩
        refine ⟨_, rfl, _, rfl, q, _, _, _, rfl, rfl, SqL.of (s1 _ _ hq), atI_nat htl, tl, _, _, _, rfl, rfl, SqT.of htl', atI_nat (j := 0) rfl, _, _, rfl, rfl, _, _, rfl, rfl, (by show 2 ≤ sizeLine; decide), fun u hu => ?_⟩
        obtain ⟨p1, p2, p3, p4⟩ := all_push (f := fun r : Int => [.bl (decide (r = 0)), .int r]) (y := r + (ln ls i).sp + 1) (tv := [.bl false, .int (r + (ln ls i).sp + 1)]) hys hrw hu (by rw [decide_eq_false e6])
        refine ⟨p, _, _, rfl, rfl, p3, hsz, ?_⟩
        refine ⟨_, _, by rw [e3]; rfl, fun a o e => p4 a o (fun z => by rw [z, hp] at e; cases e) (s1 _ _ e), p1, ?_⟩
        rw [take_snoc e5]
        exact p2
    · rintro σ H' ⟨y4, ys, rfl, s1, hys, hrw⟩
      have e0 : ((lv.length : Nat) : Int).toNat = lv.length := Int.toNat_natCast _
      rw [e0, List.take_of_length_le (by omega)] at hrw
      exact ⟨_, rfl, k p H' ys hp s1 hys hrw⟩
theorem ok_lstandingY {f : Addr} {fd : FuncData} (F : Fun K "_law_standing" "_law_standing" sL_standing f fd) (T : Txt K mg tp C) (C__law_lines : CallOkY P w K mg base 1 "_law_lines" ["_law_blocks"] (spLLines K))
    (C__law_pages : CallOkY P w K mg base 2 "_law_pages" ["_law_length_here", "_law_lines_here"] spPages) : FnH P w K mg base CX0 3 f fd ["_law_length_here", "_law_blocks"] (spStanding K) := by
  refine fun_okY F scL_standing (fun vs H Q E h => ?_) (fun cdv A outer s H vs Q E pY hcY hr h => ?_)
  · obtain ⟨L, a, xs, bs, rfl, _⟩ := h
    rfl
  · obtain ⟨L, a, xs, bs, rfl, hS, hx, B, hL, k⟩ := h
    refine ⟨_, (pss_cons (ps_asg (pe_ccY hcY C__law_lines (hr.mono (by decide)) (by rfl) (pa_cons (pv 1) pa_nil)) (pg_tupY hcY (pgs_cons (pg_name (i := 2) scL_standing.nd rfl (.inr rfl)) (pgs_cons (pg_name (i := 3) scL_standing.nd rfl (.inl rfl)) (pgs_cons (pg_name (i := 4) scL_standing.nd rfl (.inl rfl)) pgs_nil)))))
      (pss_cons (ps_if (pt_val (pv 4))
        (pss_one (ps_ret (pe_tup (pa_cons pe_str (pa_cons pe_int (pa_cons pe_int pa_nil))))))
        pss_nil)
      (pss_cons (ps_set (i := 5) scL_standing.nd rfl (.inr rfl) (pe_ccY hcY C__law_pages (hr.mono (by decide)) (by rfl) (pa_cons (pv 0) (pa_cons (pv 2) pa_nil))))
      (pss_cons (ps_set (i := 6) scL_standing.nd rfl (.inl rfl) (pe_callB (call_maxY hcY) (by rfl) T.b_max (by decide +kernel) (pa_cons (pe_lcY (own := [("_law_k", 7)]) (g := gName 7) hcY scL_standing.nd (pi_range1Y (by rfl) T.b_range (pa_cons (pe_callB call_len_seq (by rfl) T.b_len PySem.boot_len (pa_cons (pv 5) pa_nil)) pa_nil)) (blkOk_by (N := ["_law_length_here", "_law_blocks", "_law_lines_here", "_law_barred", "_law_due", "_law_rows", "_law_first", "_law_k", "_law_high", "_law_free"]) (sc := defScope sL_standing) (by decide +kernel)) (fun _ _ _ _ _ => (pg_name (i := 7) scL_standing.nd rfl (.inl rfl))) (fun _ _ _ _ _ => (pts_one (pt_val (pe_ix (r := rIxT K) ix_tup (pe_ix (r := rIxL K) ix_list (pv 5) (pv 7) (fun _ _ => rfl)) pe_int (fun _ _ => rfl))))) (fun _ _ _ _ _ => (pv 7))) pa_nil)))
      (pss_cons (ps_set (i := 8) scL_standing.nd rfl (.inl rfl) (pe_pure (pe_op op_add (pe_ix ix_tup (pe_ix ix_list (pv 5) (pe_un un_neg pe_int) (fun _ _ => rfl)) pe_int (fun _ _ => rfl)) pe_int)))
      (pss_cons (ps_setLcY (i := 9) (own := [("_law_k", 7)]) (g := gName 7) hcY scL_standing.nd rfl rfl (sw_true rfl rfl rfl (by decide +kernel)) (pi_range2Y (by rfl) T.b_range (pa_cons (pe_op op_add (pv 6) pe_int) (pa_cons (pe_callB call_len_seq (by rfl) T.b_len PySem.boot_len (pa_cons (pv 5) pa_nil)) pa_nil))) (blkOk_by (N := ["_law_length_here", "_law_blocks", "_law_lines_here", "_law_barred", "_law_due", "_law_rows", "_law_first", "_law_k", "_law_high", "_law_free"]) (sc := defScope sL_standing) (by decide +kernel)) (fun _ _ _ _ _ => (pg_name (i := 7) scL_standing.nd rfl (.inl rfl))) (fun _ _ _ _ _ => (pts_one (pt_not (pt_val (pe_ix (r := rIxT K) ix_tup (pe_ix (r := rIxL K) ix_list (pv 2) (pv 7) (fun _ _ => rfl)) pe_int (fun _ _ => rfl)))))) (fun _ _ _ _ _ => (pv 7)))
      (pss_cons (ps_if (pt_by (PW.pt (pw_and (pt_cmpR op_eq (pv 8) (pv 0) (nomark _)) (pw_and1 (PW.pt (pw_or (pt_not (pt_val (pv 3))) (pw_or1 (pt_cmpR (op_eqD hr.units) (pv 9) (pe_lst pa_nil) (nomark _)))))))))
        (pss_one (ps_ret (pe_tup (pa_cons pe_str (pa_cons pe_int (pa_cons pe_int pa_nil))))))
        pss_nil)
      (pss_cons (ps_if (pt_not (pt_val (pv 3)))
        (pss_one (ps_ret (pe_tup (pa_cons pe_str (pa_cons (pv 8) (pa_cons pe_int pa_nil))))))
        pss_nil)
      (pss_one (ps_ret (pe_tup (pa_cons pe_str (pa_cons (pv 8) (pa_cons (pe_ifExp (pt_cmpR (op_neD hr.units) (pv 9) (pe_lst pa_nil) (nomark _)) (pe_op op_sub (pv 8) (pe_ix ix_tup (pe_ix ix_list (pv 5) (pe_ix ix_list (pv 9) (pe_un un_neg pe_int) (fun _ _ => rfl)) (fun _ _ => rfl)) pe_int (fun _ _ => rfl))) pe_int) pa_nil)))))))))))))), ?_⟩
    have hbs : ∀ b ∈ bs, 0 ≤ b.s := fun b hb => (B.small b hb).2
    have Rl := pageOf_rel hL bs hbs
    have Xl := pageOf_excl hL bs hbs
    have gl := (good_lines bs hbs).1
    have hlen := B.len
    generalize pageOf L bs = q0 at k Rl Xl
    refine ⟨_, rfl, a, xs, bs, rfl, hS, hx, B, fun p1 lq H1 lv hp1 s1 ht1 hlq hlv => ?_⟩
    refine ⟨p1, _, rfl, SqT.of ht1, rfl, _, _, rfl, _, _, rfl, _, _, rfl, rfl, ?_⟩
    generalize linesOf bs = t at Rl Xl gl hlen hlv
    refine ⟨_, rfl, _, rfl, ite2 (fun hd => ?_) (fun hd => ?_)⟩
    · obtain ⟨z1, z2, z3, _⟩ := Rl.due hd
      refine ⟨(by show 3 ≤ sizeLine; decide), fun p hp => ?_⟩
      refine k p _ (s1.free hp) (s1.trans (same_new hp)) ?_
      unfold StIs
      rw [upd_same, z1, z2, z3]
      rfl
    have hd : t.du = false := by simpa using hd
    obtain ⟨fst, hi, M⟩ := stand_ok hL gl Rl Xl hd
    refine ⟨_, rfl, _, rfl, L, lq, lv, t.ls, rfl, hlq, hlv, hL, gl, by omega, fun pr H2 rv hpr s2 hrv hrw => ?_⟩
    have S2 : Same H H2 := s1.trans s2
    have hlq2 := s2 _ _ hlq
    have hlv2 := lnMono (Tups.of s2) hlv
    generalize rowsOf (runS L t.ls) = R at M hrw
    have hrl : rv.length = t.ls.length := hrw.len.trans M.len
    -- the first line of the last page
    refine ⟨_, rfl, pr, _, rfl, .inl (SqL.of hrv), _, rfl, by omega, by omega, fun D hD => ?_⟩
    have e0 : ((rv.length : Nat) : Int).toNat = rv.length := Int.toNat_natCast _
    refine lc_range (lo := 0) (n := ((rv.length : Nat) : Int).toNat) (fun j H3 => Same H2 H3 ∧ H3 D = some (.lst (fI (zI R j)))) ⟨same_new hD, upd_same⟩ ?_ ?_
    · rintro j H3 hj ⟨s3, h3⟩
      have hj2 : j < R.length := by rw [M.len]; omega
      have ej : (0 : Int) + (j : Int) = ((j : Nat) : Int) := by omega
      obtain ⟨tj, htj, htj'⟩ := rwTo hrw (List.getElem?_eq_getElem hj2)
      refine ⟨rfl, ?_⟩
      refine ⟨_, rfl, _, rfl, pr, _, _, _, rfl, rfl, SqL.of (s3 _ _ hrv), (by rw [ej]; exact atI_nat htj), tj, _, _, _, rfl, rfl, SqT.of (s3 _ _ htj'), atI_nat (j := 0) rfl, _, rfl, ?_⟩
      by_cases hz : R[j] = 0
      · refine iteP (decide_eq_true hz) ⟨_, rfl, _, h3, ?_, fun u o e => ?_, ?_⟩
        · unfold fI
          rw [List.length_map]
          exact Nat.lt_of_le_of_lt (m := 200000) (Nat.le_trans (zI_len _ _) (by omega)) (by decide)
        · rw [upd_ne (fun z => by rw [z, hD] at e; cases e)]
          exact s3 _ _ e
        · rw [upd_same, zI_succ, if_pos (by rw [List.getElem?_eq_getElem hj2, hz]), ej]
          unfold fI
          rw [List.map_append]
          rfl
      · refine iteQ (fun z => hz (of_decide_eq_true z)) ⟨s3, ?_⟩
        rw [zI_succ, if_neg (by rw [List.getElem?_eq_getElem hj2]; exact fun z => hz (Option.some.inj z)), List.append_nil]
        exact h3
    rintro H3 ⟨s3, h3⟩
    rw [e0, hrl] at h3
    have hmem : fst ∈ zI R t.ls.length := List.mem_filter.mpr ⟨List.mem_range.mpr M.lt, decide_eq_true M.zero⟩
    have hmax : ∀ y ∈ zI R t.ls.length, y ≤ fst := fun y hy => by
      rcases Nat.lt_or_ge fst y with h | h
      · exact absurd (of_decide_eq_true (List.mem_filter.mp hy).2) (M.pos y h)
      · exact h
    rw [fI_ints] at h3
    refine ⟨D, _, rfl, SqL.of h3, by rw [List.length_map]; exact List.length_pos_of_mem hmem, fun m hm1 hm2 => ?_⟩
    have em : m = (fst : Int) := by
      obtain ⟨y, hy, e⟩ := List.mem_map.mp hm1
      have h1 := hmax y hy
      have h2 := hm2 _ (List.mem_map.mpr ⟨fst, hmem, rfl⟩)
      omega
    rw [em]
    -- high
    have hlast := M.last
    obtain ⟨tz, htz, htz'⟩ := rw_last hrw M.len (Nat.lt_of_le_of_lt (Nat.zero_le _) M.lt) hlast
    have eh : hi - 1 + 1 = hi := by omega
    refine ⟨.int hi, fun Q' hQ => ⟨_, rfl, _, rfl, pr, _, _, _, rfl, rfl, SqL.of (s3 _ _ hrv), htz, tz, _, _, _, rfl, rfl, SqT.of (s3 _ _ htz'), atI_nat (j := 1) rfl, _, _, rfl, rfl, ?_⟩, ?_⟩
    · show Q' (.int (hi - 1 + 1)) _
      rw [eh]
      exact hQ
    -- the free places
    have hfst := M.lt
    refine ⟨_, rfl, _, _, rfl, rfl, _, rfl, pr, _, rfl, .inl (SqL.of (s3 _ _ hrv)), (fst : Int) + 1, (rv.length : Int), rfl, ⟨by omega, by omega, by omega, by omega⟩, fun D2 hD2 => ?_⟩
    have en : ((rv.length : Int) - ((fst : Int) + 1)).toNat = t.ls.length - (fst + 1) := by omega
    rw [en]
    have S3 : Same H H3 := S2.trans s3
    have hlv3 := lnMono (Tups.of s3) hlv2
    refine lc_range (lo := (fst : Int) + 1) (n := t.ls.length - (fst + 1)) (fun j H4 => Same H3 H4 ∧ H4 D2 = some (.lst (fI ((List.range' (fst + 1) j).filter fun z => !(ln t.ls z).br)))) ⟨same_new hD2, upd_same⟩ ?_ ?_
    · rintro j H4 hj ⟨s4, h4⟩
      have hj2 : fst + 1 + j < t.ls.length := by omega
      have ej : (fst : Int) + 1 + (j : Int) = ((fst + 1 + j : Nat) : Int) := by omega
      obtain ⟨tj, htj, htj'⟩ := lnTo' s4 hlv3 hj2
      refine ⟨rfl, ?_⟩
      refine ⟨_, rfl, _, rfl, lq, _, _, _, rfl, rfl, SqL.of (s4 _ _ (s3 _ _ hlq2)), (by rw [ej]; exact atI_nat htj), tj, _, _, _, rfl, rfl, SqT.of htj', atI_nat (j := 1) rfl, _, rfl, ?_⟩
      rcases twoB (ln t.ls (fst + 1 + j)).br with hb | hb
      · refine iteQ (notT hb) ⟨s4, ?_⟩
        rw [freeL_succ, if_pos hb, List.append_nil]
        exact h4
      · refine iteP (notF hb) ⟨_, rfl, _, h4, ?_, fun u o e => ?_, ?_⟩
        · unfold fI
          rw [List.length_map]
          exact Nat.lt_of_le_of_lt (m := 200000) (Nat.le_trans (freeN_len _ _ _) (by omega)) (by decide)
        · rw [upd_ne (fun z => by rw [z, hD2] at e; cases e)]
          exact s4 _ _ e
        · rw [upd_same, freeL_succ, if_neg (neT hb), ej]
          unfold fI
          rw [List.map_append]
          rfl
    rintro H4 ⟨s4, h4⟩
    have e9 : ((List.range' (fst + 1) (t.ls.length - (fst + 1))).filter fun z => !(ln t.ls z).br) = freeL t.ls (fst + 1) t.ls.length := rfl
    rw [e9] at h4
    have S4 : Same H H4 := S3.trans s4
    have M1 := M.top
    have M2 := M.opn
    have M3 := M.kept
    have hi0 := M.hi0
    have hrw4 := rwMono (Tups.of (s3.trans s4)) hrw
    have hrv4 := (s3.trans s4) _ _ hrv
    generalize hfr : freeL t.ls (fst + 1) t.ls.length = fr at h4 M1 M2 M3
    clear M hrw hlv3 hlv2 hlv Rl Xl
    -- at the foot, and nothing can be taken over
    refine ⟨fun c H' => Same H4 H' ∧ c = decide (hi = L ∧ (t.kp = false ∨ fr = [])), fun Q' hQ => ?_, ?_⟩
    · refine ⟨_, rfl, _, rfl, rfl, _, rfl, ite2 (fun g1 => ?_) (fun g1 => ?_)⟩
      · have g1 : hi = L := V.int.inj (of_decide_eq_true g1)
        refine ⟨_, rfl, _, rfl, ?_⟩
        rcases twoB t.kp with hk | hk
        · refine iteQ (notT hk) ?_
          refine ⟨_, rfl, (by show 0 ≤ sizeLine; decide), fun u hu => ?_⟩
          have s5 := same_new (o := .lst []) hu
          refine ⟨.list (fr.map dN), .list [], .lst (SqL.of (s5 _ _ h4)) (dpN _), .lst (SqL.of upd_same) .nil, shN _, shN [], _, rfl, ?_⟩
          refine hQ _ _ ⟨s5, ?_⟩
          rw [eqvN]
          by_cases h : fr = []
          · rw [decide_eq_true h, decide_eq_true ⟨g1, .inr h⟩]
          · rw [decide_eq_false h, decide_eq_false (fun z => z.2.elim (fun z => by rw [hk] at z; cases z) h)]
        · refine iteP (notF hk) ?_
          exact hQ _ _ ⟨Same.refl _, (decide_eq_true ⟨g1, .inl hk⟩).symm⟩
      · have g1 : ¬ hi = L := fun z => g1 (decide_eq_true (by rw [z]))
        exact hQ _ _ ⟨Same.refl _, (decide_eq_false fun z => g1 z.1).symm⟩
    rintro c H5 ⟨s5, rfl⟩
    have S5 : Same H H5 := S4.trans s5
    refine ite2 (fun g1 => ?_) (fun g1 => ?_)
    · obtain ⟨z1, z2, z3⟩ := M1 (of_decide_eq_true g1)
      refine ⟨(by show 3 ≤ sizeLine; decide), fun p hp => ?_⟩
      refine k p _ (S5.free hp) (S5.trans (same_new hp)) ?_
      unfold StIs
      rw [upd_same, z1, z2, z3]
      rfl
    have g1 : ¬ (hi = L ∧ (t.kp = false ∨ fr = [])) := fun z => g1 (decide_eq_true z)
    refine ⟨_, rfl, _, rfl, ?_⟩
    rcases twoB t.kp with hk | hk
    · refine iteQ (notT hk) ?_
      obtain ⟨z1, z2, z3, z4⟩ := M3 g1 hk
      have fin : ∀ p H', H' p = none → Same H5 H' → Q (.ref p) (upd H' p (.tup [.str "kept", .int hi, .int q0.t])) := fun p H' hp s' => by
        refine k p _ ((S5.trans s').free hp) ((S5.trans s').trans (same_new hp)) ?_
        unfold StIs
        rw [upd_same, z1, z2]
        rfl
      refine ⟨_, rfl, _, rfl, (by show 0 ≤ sizeLine; decide), fun u hu => ?_⟩
      have s6 := same_new (o := .lst []) hu
      refine ⟨.list (fr.map dN), .list [], .lst (SqL.of (s6 _ _ (s5 _ _ h4))) (dpN _), .lst (SqL.of upd_same) .nil, shN _, shN [], ?_⟩
      rw [eqvN]
      refine ⟨_, rfl, ite2 (fun g3 => ?_) (fun g3 => ?_)⟩
      · cases hg : fr.getLast? with
        | none =>
          rw [List.getLast?_eq_none_iff.mp hg] at g3
          simp at g3
        | some e =>
          obtain ⟨r, hr', hq⟩ := z4 e hg
          obtain ⟨te, hte, hte'⟩ := rwTo hrw4 hr'
          refine ⟨_, rfl, _, rfl, _, rfl, _, rfl, D2, _, _, _, rfl, rfl, SqL.of (s6 _ _ (s5 _ _ h4)), fI_last hg, pr, _, _, _, rfl, rfl, SqL.of (s6 _ _ (s5 _ _ hrv4)), atI_nat hte, te, _, _, _, rfl, rfl, SqT.of (s6 _ _ (s5 _ _ hte')), atI_nat (j := 1) rfl, _, _, rfl, rfl, (by show 3 ≤ sizeLine; decide), fun p hp => ?_⟩
          have := fin p _ hp s6
          rw [hq] at this
          exact this
      · have e0 : fr = [] := by
          by_cases h : fr = []
          · exact h
          · rw [decide_eq_false h] at g3
            exact absurd rfl g3
        refine ⟨(by show 3 ≤ sizeLine; decide), fun p hp => ?_⟩
        have := fin p _ hp s6
        rw [z3 e0] at this
        exact this
    · refine iteP (notF hk) ?_
      obtain ⟨z1, z2, z3⟩ := M2 g1 hk
      refine ⟨_, rfl, (by show 3 ≤ sizeLine; decide), fun p hp => ?_⟩
      refine k p _ (S5.free hp) (S5.trans (same_new hp)) ?_
      unfold StIs
      rw [upd_same, z1, z2, z3]
      unfold wordOf
      rw [if_neg (by decide), if_neg (by omega)]
theorem ok_lpendingY {f : Addr} {fd : FuncData} (F : Fun K "_law_pending" "_law_pending" sL_pending f fd) (T : Txt K mg tp C) (C__law_lines : CallOkY P w K mg base 1 "_law_lines" ["_law_blocks"] (spLLines K))
    (C__law_pages : CallOkY P w K mg base 2 "_law_pages" ["_law_length_here", "_law_lines_here"] spPages) (C__law_standing : CallOkY P w K mg base 3 "_law_standing" ["_law_length_here", "_law_blocks"] (spStanding K)) : FnH P w K mg base CX0 4 f fd ["_law_length_here", "_law_blocks"] (spPending K) := by
  refine fun_okY F scL_pending (fun vs H Q E h => ?_) (fun cdv A outer s H vs Q E pY hcY hr h => ?_)
  · obtain ⟨L, a, xs, bs, rfl, _⟩ := h
    rfl
  · obtain ⟨L, a, xs, bs, rfl, hS, hx, B, hL, k⟩ := h
    refine ⟨_, (pss_cons (ps_set (i := 2) scL_pending.nd rfl (.inl rfl) (pe_ccY hcY C__law_standing (hr.mono (by decide)) (by rfl) (pa_cons (pv 0) (pa_cons (pv 1) pa_nil))))
      (pss_cons (ps_if (pt_cmpR op_eq (pe_ix ix_tup (pv 2) pe_int (fun _ _ => rfl)) pe_int (nomark _))
        (pss_one (ps_ret pe_int))
        pss_nil)
      (pss_cons (ps_parY (i := 3) (j := 4) hcY scL_pending.nd rfl rfl (by decide) rfl rfl (pa_cons (pe_ccY hcY C__law_pages (hr.mono (by decide)) (by rfl) (pa_cons (pv 0) (pa_cons (pe_ix ix_tup (pe_ccY hcY C__law_lines (hr.mono (by decide)) (by rfl) (pa_cons (pv 1) pa_nil)) pe_int (fun _ _ => rfl)) pa_nil))) (pa_cons pe_int pa_nil)) (by rfl))
      (pss_cons (ps_forY hcY PassesOwn.never (pi_listY (pe_revL (pv 3))) (pg_tupY hcY (pgs_cons (pg_name (i := 5) scL_pending.nd rfl (.inl rfl)) (pgs_cons (pg_name (i := 6) scL_pending.nd rfl (.inl rfl)) pgs_nil)))
        (pss_cons (ps_if (pt_cmpR op_lt (pv 6) (pe_op op_sub (pe_ix ix_tup (pv 2) pe_int (fun _ _ => rfl)) (pe_ix ix_tup (pv 2) pe_int (fun _ _ => rfl))) (nomark _))
          (pss_one (ps_ret (pv 4)))
          pss_nil)
        (pss_one (ps_set (i := 4) scL_pending.nd rfl (.inl rfl) (pe_op op_add (pv 4) pe_int)))))
      (pss_one (ps_ret (pv 4))))))), ?_⟩
    have hbs : ∀ b ∈ bs, 0 ≤ b.s := fun b hb => (B.small b hb).2
    have gl := (good_lines bs hbs).1
    have hP := pend_ok hL gl (pageOf_rel hL bs hbs)
    have hRl : (rowsOf (runS L (linesOf bs).ls)).length = (linesOf bs).ls.length := (right_ok hL gl).1
    have hlen := B.len
    refine ⟨_, rfl, _, rfl, L, a, xs, bs, rfl, hS, hx, B, hL, fun p1 H1 hp1 s1 hst => ?_⟩
    unfold StIs at hst
    generalize pageOf L bs = q0 at k hP hst
    refine ⟨_, rfl, p1, _, _, _, rfl, rfl, SqT.of hst, atI_nat (j := 2) rfl, rfl, _, rfl, ite2 (fun h1 => ?_) (fun h1 => ?_)⟩
    · have h1 := V.int.inj (of_decide_eq_true h1)
      rw [hP.1 h1] at k
      exact k H1 s1
    have h1 : q0.t ≠ 0 := fun z => h1 (decide_eq_true (by rw [z]))
    obtain ⟨n, n1, n2, r0, n3, n4⟩ := hP.2 h1
    refine ⟨_, rfl, _, rfl, a, xs, bs, rfl, s1.seq hS, blMono (Tups.of s1) hx, B, fun p2 lq H2 lv hp2 s2 ht2 hlq hlv => ?_⟩
    refine ⟨p2, _, _, _, rfl, rfl, SqT.of ht2, atI_nat (j := 0) rfl, L, lq, lv, (linesOf bs).ls, rfl, hlq, hlv, hL, gl, by omega, fun pr H3 rv hpr s3 hrv hrw => ?_⟩
    generalize rowsOf (runS L (linesOf bs).ls) = R at n2 n3 hrw hRl
    refine ⟨_, _, rfl, ?_⟩
    have S3 : Same H H3 := (s1.trans s2).trans s3
    have hst3 := (s2.trans s3) _ _ hst
    refine ⟨_, rfl, pr, _, rfl, SqL.of hrv, fun u hu => ⟨u, rfl, ⟨_, SqL.of upd_same⟩, ?_⟩⟩
    have s4 := same_new (o := .lst rv.reverse) hu
    have S4 := S3.trans s4
    have hrw4 := (rwMono (Tups.of s4) hrw).rev
    have hst4 := s4 _ _ hst3
    have hu4 : (upd H3 u (.lst rv.reverse)) u = some (.lst rv.reverse) := upd_same
    generalize upd H3 u (.lst rv.reverse) = H4 at S4 hrw4 hst4 hu4 ⊢
    have hnl : n < R.reverse.length := (List.getElem?_eq_some_iff.mp n3).1
    refine for_list (K := K) (a := u) (xs := rv.reverse) (fun i σ H' => ∃ (y5 y6 : Option V), σ = [some (.int L), some (.ref a), some (.ref p1), some (.ref pr), some (.int (i : Int)), y5, y6] ∧ Same H4 H' ∧ i ≤ n)
      ⟨none, none, rfl, Same.refl _, Nat.zero_le _⟩ (fun i σ H' _ ⟨_, _, _, s5, _⟩ => SqL.of (s5 _ _ hu4)) ?_ ?_
    · rintro i x σ H' hxi ⟨y5, y6, rfl, s5, hin⟩
      obtain ⟨r, hr', tx, rfl, htx⟩ := hrw4.at hxi
      have htx := s5 _ _ htx
      have hst5 := s5 _ _ hst4
      refine ⟨tx, _, rfl, SqT.of htx, rfl, _, _, rfl, _, _, rfl, rfl, ?_⟩
      refine ⟨_, rfl, _, rfl, p1, _, _, _, rfl, rfl, SqT.of hst5, atI_nat (j := 1) rfl, _, rfl, p1, _, _, _, rfl, rfl, SqT.of hst5, atI_nat (j := 2) rfl, _, _, rfl, rfl, _, _, rfl, rfl, _, rfl, ite2 (fun g1 => ?_) (fun g1 => ?_)⟩
      · have g1 : r < q0.h - q0.t := of_decide_eq_true g1
        have ei : i = n := by
          rcases Nat.lt_or_ge i n with h | h
          · exact absurd g1 (n2 i h r hr')
          · omega
        rw [n1, ← ei] at k
        exact ⟨_, rfl, k H' (S4.trans s5)⟩
      · have g1 : ¬ r < q0.h - q0.t := fun z => g1 (decide_eq_true z)
        have ei : i ≠ n := fun z => by
          rw [z, n3] at hr'
          cases hr'
          exact g1 n4
        refine ⟨_, rfl, _, _, rfl, rfl, ?_⟩
        exact ⟨_, _, rfl, s5, by omega⟩
    · rintro σ H' ⟨y5, y6, rfl, s5, hin⟩
      rw [hrw4.len] at hin
      omega
theorem ok_finishY {f : Addr} {fd : FuncData} (F : Fun K "finish" "Page.finish" sPage_finish f fd) (T : Txt K mg tp C) : FnH P w K mg base CX0 1 f fd ["self"] (spFinish C) := by
  refine fun_okY F scPage_finish (fun vs H Q E h => ?_) (fun cdv A outer s H vs Q E pY hcY hr h => ?_)
  · obtain ⟨x, dx, rl, st, L, lo, ww, rows, rfl, _⟩ := h
    rfl
  · obtain ⟨x, dx, rl, st, L, lo, ww, rows, rfl, pa, hlen, k⟩ := h
    refine ⟨_, (pss_one (ps_ret (pe_lcY (own := [("row", 1)]) (g := gName 1) (tt := tYes) hcY scPage_finish.nd (pi_listY (pe_fld (pv 0) rfl)) (blkOk_by (N := ["self", "row"]) (sc := defScope sPage_finish) (by decide +kernel)) (fun _ _ _ _ _ => (pg_name (i := 1) scPage_finish.nd rfl (.inl rfl))) (fun _ _ _ _ _ => pts_nil) (fun _ _ _ _ _ => (pe_tup (pa_cons (pe_cmpR op_eq (pv 1) pe_int (nomark _)) (pa_cons (pv 1) pa_nil))))))), ?_⟩
    refine ⟨_, rfl, x, C, dx, _, _, rfl, pa.ob, T.cl, T.nR, pf_rows _ _ _ _ _, rl, rfl, ⟨_, SqL.of pa.rs⟩, fun D hD => ?_⟩
    refine lc_list (K := K) (a := rl) (xs := rows.map V.int) (fun i H3 => Same H H3 ∧ ∃ acc, H3 D = some (.lst acc) ∧ AllAt RwAt H3 acc (rows.take i)) ⟨same_new hD, [], upd_same, trivial⟩ (fun i H3 _ q => SqL.of (q.1 _ _ pa.rs)) ?_ ?_
    · rintro i y H3 hi ⟨s3, acc, hacc, hra⟩
      rw [List.getElem?_map] at hi
      obtain ⟨r, hr, rfl⟩ := Option.map_eq_some_iff.mp hi
      refine ⟨rfl, ?_⟩
      refine ⟨_, rfl, rfl, _, rfl, (by show 2 ≤ sizeLine; decide), fun p hp => ?_⟩
      obtain ⟨p1, p2, p3, p4⟩ := all_push (f := fun r : Int => [.bl (decide (r = 0)), .int r]) (y := r) (tv := [.bl (decide (V.int r = V.int 0)), .int r]) hacc hra hp (by rw [dec_int])
      refine ⟨acc, p3, ?_, fun q o e => p4 q o (fun r => by rw [r, hD] at e; cases e) (s3 _ _ e), _, p1, ?_⟩
      · rw [hra.len, List.length_take]
        exact Nat.lt_of_le_of_lt (m := 100000) (by omega) (by decide)
      · rw [List.take_add_one, hr]
        exact p2
    · rintro H3 ⟨s3, acc, hacc, hra⟩
      rw [List.length_map, List.take_of_length_le (Nat.le_refl _)] at hra
      exact k D H3 acc hD s3 hacc hra
theorem ok_nowY {f : Addr} {fd : FuncData} (F : Fun K "now" "Page.now" sPage_now f fd) (T : Txt K mg tp C) : FnH P w K mg base CX0 1 f fd ["self"] (spNow C) := by
  refine fun_okY F scPage_now (fun vs H Q E h => ?_) (fun cdv A outer s H vs Q E pY hcY hr h => ?_)
  · obtain ⟨x, dx, rl, st, L, lo, ww, rows, rfl, _⟩ := h
    rfl
  · obtain ⟨x, dx, rl, st, L, lo, ww, rows, rfl, pa, k⟩ := h
    refine ⟨_, (pss_one (ps_ret (pe_fld (pv 0) rfl))), ?_⟩
    exact ⟨_, rfl, x, C, dx, _, _, rfl, pa.ob, T.cl, T.nS, pf_standing _ _ _ _ _, k⟩
theorem ok_pendY {f : Addr} {fd : FuncData} (F : Fun K "pending" "Page.pending" sPage_pending f fd) (T : Txt K mg tp C) : FnH P w K mg base CX0 1 f fd ["self"] (spPend C) := by
  refine fun_okY F scPage_pending (fun vs H Q E h => ?_) (fun cdv A outer s H vs Q E pY hcY hr h => ?_)
  · obtain ⟨x, dx, rl, st, L, lo, ww, rows, rfl, _⟩ := h
    rfl
  · obtain ⟨x, dx, rl, st, L, lo, ww, rows, rfl, pa, k⟩ := h
    refine ⟨_, (pss_one (ps_ret (pe_fld (pv 0) rfl))), ?_⟩
    exact ⟨_, rfl, x, C, dx, _, _, rfl, pa.ob, T.cl, T.nO, pf_loose _ _ _ _ _, k⟩
theorem ok_wentY {f : Addr} {fd : FuncData} (F : Fun K "went_over" "Page.went_over" sPage_went_over f fd) (T : Txt K mg tp C) : FnH P w K mg base CX0 1 f fd ["self"] (spWent C) := by
  refine fun_okY F scPage_went_over (fun vs H Q E h => ?_) (fun cdv A outer s H vs Q E pY hcY hr h => ?_)
  · obtain ⟨x, dx, rl, st, L, lo, ww, rows, rfl, _⟩ := h
    rfl
  · obtain ⟨x, dx, rl, st, L, lo, ww, rows, rfl, pa, k⟩ := h
    refine ⟨_, (pss_one (ps_ret (pe_fld (pv 0) rfl))), ?_⟩
    exact ⟨_, rfl, x, C, dx, _, _, rfl, pa.ob, T.cl, T.nW, pf_went _ _ _ _ _, k⟩
theorem ok_lenY {f : Addr} {fd : FuncData} (F : Fun K "__len__" "Page.__len__" sPage___len__ f fd) (T : Txt K mg tp C) : FnH P w K mg base CX0 1 f fd ["self"] (spLen C) := by
  refine fun_okY F scPage___len__ (fun vs H Q E h => ?_) (fun cdv A outer s H vs Q E pY hcY hr h => ?_)
  · obtain ⟨x, dx, rl, st, L, lo, ww, rows, rfl, _⟩ := h
    rfl
  · obtain ⟨x, dx, rl, st, L, lo, ww, rows, rfl, pa, k⟩ := h
    refine ⟨_, (pss_one (ps_ret (pe_pure (pe_callB call_len_seq (by rfl) T.b_len PySem.boot_len (pa_cons (pe_fld (pv 0) rfl) pa_nil))))), ?_⟩
    refine ⟨.int (rows.length : Int), fun Q' hQ => ⟨_, rfl, x, C, dx, _, _, rfl, pa.ob, T.cl, T.nR, pf_rows _ _ _ _ _, rl, _, rfl, .inl (SqL.of pa.rs), ?_⟩, k⟩
    rw [List.length_map]
    exact hQ
theorem ok_settledY {f : Addr} {fd : FuncData} (F : Fun K "settled" "Page.settled" sPage_settled f fd) (T : Txt K mg tp C) (M_finish : MethOkY P w K mg base C 1 "finish" ["self"] (spFinish C)) : FnH P w K mg base CX0 2 f fd ["self"] (spSettled C) := by
  refine fun_okY F scPage_settled (fun vs H Q E h => ?_) (fun cdv A outer s H vs Q E pY hcY hr h => ?_)
  · obtain ⟨x, dx, rl, st, L, lo, ww, rows, rfl, _⟩ := h
    rfl
  · obtain ⟨x, dx, rl, st, L, lo, ww, rows, rfl, pa, lo0, lo1, hlen, k⟩ := h
    refine ⟨_, (pss_one (ps_ret (pe_slice sl_list (pe_mc0Y hcY (pv 0) T.cl M_finish (hr.mono (by decide))) po_none (po_some (pe_pure (pe_op op_sub (pe_callB call_len_seq (by rfl) T.b_len PySem.boot_len (pa_cons (pe_fld (pv 0) rfl) pa_nil)) (pe_fld (pv 0) rfl))))))), ?_⟩
    refine ⟨_, rfl, x, dx, _, rfl, pa.ob, no_finish _ _ _ _ _, x, dx, rl, st, L, lo, ww, rows, rfl, pa, hlen, fun p H1 ys hp s1 hys hrw => ?_⟩
    have ea : ((rows.map V.int).length : Int) - lo = ((rows.length - lo.toNat : Nat) : Int) := by rw [List.length_map]; omega
    have pa1 := pa.same s1
    refine ⟨.int ((rows.length - lo.toNat : Nat) : Int), fun Q' hQ => ⟨_, rfl, x, C, dx, _, _, rfl, pa1.ob, T.cl, T.nR, pf_rows _ _ _ _ _, rl, _, rfl, .inl (SqL.of pa1.rs), _, rfl, x, C, dx, _, _, rfl, pa1.ob, T.cl, T.nO, pf_loose _ _ _ _ _, _, _, rfl, rfl, ?_⟩, ?_⟩
    · rw [← ea] at hQ
      exact hQ
    refine ⟨_, rfl, p, _, rfl, SqL.of hys, fun u hu => ?_⟩
    have sU := same_new (o := .lst (cutV ys none (some ((rows.length - lo.toNat : Nat) : Int)))) hu
    refine k u _ _ (s1.free hu) (s1.trans sU) upd_same ?_
    have ec := cutV_to (xs := ys) (n := rows.length - lo.toNat) (by rw [hrw.len]; omega)
    have z := (rwMono (Tups.of sU) hrw).take (rows.length - lo.toNat)
    rw [← ec] at z
    exact z
end
end Pa
set_option maxRecDepth 100000
set_option maxHeartbeats 4000000
namespace Pa
open PySem PySem.Spec PyProof.Rows L2 SrtO
/-! ### a Page that goes on behind the lead of a standing -/
theorem e_bb (x y : Bool) : PyData.eqv (.bool x) (.bool y) = (x == y) := by rw [PyData.eqv]
theorem e_ll (a b : List PyData) : PyData.eqv (.list a) (.list b) = PyData.eqvAll a b := by rw [PyData.eqv]
theorem eqv_rw1 (x y : Int) : PyData.eqv (dRw x) (dRw y) = decide (x = y) := by
  unfold dRw
  rw [e_tt, e_cons, e_cons, e_nil, e_bb, e_ii, Bool.and_true]
  by_cases h : x = y
  · subst h; simp
  · rw [decide_eq_false h]
    have : (x == y) = false := by simpa using h
    rw [this, Bool.and_false]
theorem eqv_rws : ∀ (r s : List Int), PyData.eqvAll (r.map dRw) (s.map dRw) = decide (r = s)
  | [], [] => by rw [List.map_nil, e_nil]; simp
  | [], y :: ys => by rw [List.map_nil, List.map_cons, e_nc]; simp
  | x :: xs, [] => by rw [List.map_nil, List.map_cons, e_cn]; simp
  | x :: xs, y :: ys => by
    rw [List.map_cons, List.map_cons, e_cons, eqv_rw1, eqv_rws xs ys]
    by_cases h : x = y
    · by_cases h2 : xs = ys
      · subst h h2; simp
      · simp [h, h2]
    · simp [h]
theorem eqv_rwl (r s : List Int) : PyData.eqv (.list (r.map dRw)) (.list (s.map dRw)) = decide (r = s) := by rw [e_ll, eqv_rws]
structure Rsm (L : Int) (lead rest : List Bl) (r : RB) (c : Nat) : Prop where
  m : ResM (pageOf L lead).rows c (pageOf L (lead ++ rest)) r
  lo : (pageOf L lead).lo = (c : Int)
  le : c ≤ (pageOf L lead).rows.length
  b1 : Book lead
  b2 : Book (lead ++ rest)
  bd : 0 ≤ r.lo ∧ r.lo ≤ (r.rows.length : Int)
theorem rsm_lead {L : Int} (hL : 2 ≤ L) {z : Z3} (hz : StdZ L z) (bs : List Bl) (B1 : Book (leadZ z)) (B2 : Book (leadZ z ++ bs)) : Rsm L (leadZ z) bs (pageR L (res0 (zKd z) z.2.1 z.2.2) bs) z.2.2.toNat := by
  have hL0 : (0 : Int) < L := by omega
  obtain ⟨A, e, hlen, hmem⟩ := lead_page hz
  obtain ⟨n1, n2, n3⟩ := std_n hz
  have hs : ∀ b ∈ leadZ z, 0 ≤ b.s := fun b hb => (B1.small b hb).2
  have h : ∀ b ∈ bs, 0 ≤ b.s := fun b hb => (B2.small b (List.mem_append_right _ hb)).2
  have hA : A.length = (linesOf (leadZ z)).ls.length := by
    have r := rows_same hL0 (leadZ z) hs
    rw [e] at r
    dsimp only at r
    rw [r, (right_ok hL0 (good_lines (leadZ z) hs).1).1]
  have hl : (linesOf (leadZ z)).ls.length = z.2.1.toNat := by rw [lines_sum, sum_one fun b hb => (hmem b hb).1, hlen]
  have et : ((z.2.2.toNat : Nat) : Int) = z.2.2 := by omega
  have S0 : SimB A z.2.2.toNat (z.2.1 - (z.2.2.toNat : Nat)) (pageOf L (leadZ z)) (res0 (zKd z) z.2.1 z.2.2) := by
    rw [e]
    have q := sim0 (kd := zKd z) (h := z.2.1) (t := z.2.2.toNat) (A := A)
    rw [et] at q ⊢
    exact q
  have hc : z.2.2.toNat ≤ A.length := by rw [hA, hl]; omega
  have S1 := sim_page (L := L) hc S0 bs h
  have R := res_ok hc (fun q => by omega) S1 fun q => pageR_w (by
    show (if z.2.2 > 0 then none else some false) = some false
    rw [if_neg (by omega)]) bs
  have ea : (pageOf L (leadZ z)).rows = A := by rw [e]
  exact ⟨by rw [ea]; exact R, by rw [e]; exact et.symm, by rw [ea]; exact hc, B1, B2, S1.sim.lo⟩
theorem atI_sub {xs : List V} {a c : Nat} {v : V} (h : c ≤ a) (e : xs[a - c]? = some v) : atI xs ((a : Int) - (c : Int)) = some v := by
  rw [show (a : Int) - (c : Int) = ((a - c : Nat) : Int) by omega]
  exact atI_nat e
theorem dp_rw {K : PySem.W.Frag} {H : Hp} {x : V} {r : Int} (h : RwAt H x r) : Dp K H x (dRw r) := by
  obtain ⟨t, rfl, ht⟩ := h
  exact .tup (SqT.of ht) (.cons (.bl _) (.cons (.int _) .nil))
theorem sh_rw (r : Int) : SeqAt.shaped (dRw r) = true := by simp [SeqAt.shaped, dRw, PyData.canLay0, PyData.canLayAll0, PyData.depth, PyData.depthAll]
end Pa
set_option maxRecDepth 100000
set_option maxHeartbeats 4000000
namespace Pa
open PySem PySem.Spec PyProof.Rows L2 SrtO
section
variable {P : Program} {w : World} {K : PySem.W.Frag} {mg : Str → Option Value} {base : Heap} {C tp : Addr}
/-! ### _law_went -/
def spWentL (K : PySem.W.Frag) : Sp := fun vs H Q _ => ∃ (L : Int) (la ra : Addr) (lxs rxs : List V) (lead rest : List Bl) (r : RB) (c : Nat), vs = [.int L, .ref la, .ref ra] ∧ 0 < L ∧ H la = some (.lst lxs) ∧ AllAt BlAt H lxs lead ∧ H ra = some (.lst rxs) ∧ AllAt BlAt H rxs rest ∧ Rsm L lead rest r c ∧
  ∀ H', Same H H' → Q (wv r.w) H'
abbrev sL_went : Stmt := topS 29
theorem scL_went : FnScope ["_law_length_here", "_law_lead_here", "_law_rest", "_law_before", "_law_count", "_law_after"] ["_law_length_here", "_law_lead_here", "_law_rest"] (defScope sL_went) := ⟨rfl, rfl, rfl, by decide +kernel, rfl, by decide +kernel, by decide +kernel⟩
theorem ok_lwent {f : Addr} {fd : FuncData} (F : Fun K "_law_went" "_law_went" sL_went f fd) (T : Txt K mg tp C) (C__law_lines : CallOk P w K mg base 1 "_law_lines" ["_law_blocks"] (spLLines K)) (C__law_pages : CallOk P w K mg base 2 "_law_pages" ["_law_length_here", "_law_lines_here"] spPages)
    (C__law_pending : CallOk P w K mg base 4 "_law_pending" ["_law_length_here", "_law_blocks"] (spPending K)) : FnOk P w K mg base CX0 5 f fd ["_law_length_here", "_law_lead_here", "_law_rest"] (spWentL K) := by
  refine F.ok scL_went (fun vs H Q E h => ?_) (fun cdv A outer s H vs Q E hr h => ?_)
  · obtain ⟨L, la, ra, lxs, rxs, lead, rest, r, c, rfl, _⟩ := h
    rfl
  · obtain ⟨L, la, ra, lxs, rxs, lead, rest, r, c, rfl, hL, hla, hlx, hra, hrx, R, k⟩ := h
    refine ⟨_, (pss_cons (ps_par (i := 3) (j := 4) (by rfl) scL_went.nd rfl rfl (by decide) rfl rfl (pa_cons (pe_cc C__law_pages (hr.mono (by decide)) (by rfl) (pa_cons (pv 0) (pa_cons (pe_ix ix_tup (pe_cc C__law_lines (hr.mono (by decide)) (by rfl) (pa_cons (pv 1) pa_nil)) pe_int (fun _ _ => rfl)) pa_nil))) (pa_cons (pe_cc C__law_pending (hr.mono (by decide)) (by rfl) (pa_cons (pv 0) (pa_cons (pv 1) pa_nil))) pa_nil)) (by rfl))
      (pss_cons (ps_set (i := 5) scL_went.nd rfl (.inl rfl) (pe_cc C__law_pages (hr.mono (by decide)) (by rfl) (pa_cons (pv 0) (pa_cons (pe_ix ix_tup (pe_cc C__law_lines (hr.mono (by decide)) (by rfl) (pa_cons (pe_op op_cat (pv 1) (pv 2)) pa_nil)) pe_int (fun _ _ => rfl)) pa_nil))))
      (pss_cons (ps_if (pt_cmpR op_eq (pv 4) pe_int (nomark _))
        (pss_one (ps_ret pe_bl))
        pss_nil)
      (pss_cons (ps_if (pt_cmpR (op_neD hr.units) (pe_ix ix_list (pv 5) (pe_op op_sub (pe_callB call_len_seq (by rfl) T.b_len PySem.boot_len (pa_cons (pv 3) pa_nil)) (pv 4)) (fun _ _ => rfl)) (pe_ix ix_list (pv 3) (pe_op op_sub (pe_callB call_len_seq (by rfl) T.b_len PySem.boot_len (pa_cons (pv 3) pa_nil)) (pv 4)) (fun _ _ => rfl)) (nomark _))
        (pss_one (ps_ret pe_bl))
        pss_nil)
      (pss_one (ps_ret (pe_ifExp (pt_cmpR op_ge (pe_cc C__law_pending (hr.mono (by decide)) (by rfl) (pa_cons (pv 0) (pa_cons (pe_op op_cat (pv 1) (pv 2)) pa_nil))) (pe_op op_sub (pe_op op_add (pv 4) (pe_callB call_len_seq (by rfl) T.b_len PySem.boot_len (pa_cons (pv 5) pa_nil))) (pe_callB call_len_seq (by rfl) T.b_len PySem.boot_len (pa_cons (pv 3) pa_nil))) (nomark _)) pe_non pe_bl))))))), ?_⟩
    have h1 : ∀ b ∈ lead, 0 ≤ b.s := fun b hb => (R.b1.small b hb).2
    have h2 : ∀ b ∈ lead ++ rest, 0 ≤ b.s := fun b hb => (R.b2.small b hb).2
    have g1 := (good_lines lead h1).1
    have g2 := (good_lines (lead ++ rest) h2).1
    have hl1 := R.b1.len
    have hl2 := R.b2.len
    -- before, count
    refine ⟨_, rfl, _, rfl, la, lxs, lead, rfl, SqL.of hla, hlx, R.b1, fun p1 q1 H1 lv1 hp1 s1 ht1 hq1 hlv1 => ?_⟩
    refine ⟨p1, _, _, _, rfl, rfl, SqT.of ht1, atI_nat (j := 0) rfl, L, q1, lv1, (linesOf lead).ls, rfl, hq1, hlv1, hL, g1, by omega, fun pb H2 bv hpb s2 hbv hbw => ?_⟩
    rw [← rows_same hL lead h1] at hbw
    have S2 := s1.trans s2
    refine ⟨_, rfl, _, rfl, L, la, lxs, lead, rfl, SqL.of (S2 _ _ hla), blMono (Tups.of S2) hlx, R.b1, hL, fun H3 s3 => ?_⟩
    rw [R.lo]
    refine ⟨_, _, rfl, ?_⟩
    have S3 := S2.trans s3
    have hbv3 := s3 _ _ hbv
    have hbw3 := rwMono (Tups.of s3) hbw
    have few : lxs.length + rxs.length ≤ 20 := by
      have := R.b2.few
      rw [List.length_append] at this
      rw [hlx.len, hrx.len]
      exact this
    -- after
    refine ⟨_, rfl, _, rfl, _, rfl, la, ra, lxs, rxs, rfl, rfl, S3 _ _ hla, S3 _ _ hra, Nat.le_trans (m := 20) few (by decide), fun u hu => ?_⟩
    have su := same_new (o := .lst (lxs ++ rxs)) hu
    have hu4 : (upd H3 u (.lst (lxs ++ rxs))) u = some (.lst (lxs ++ rxs)) := upd_same
    have hall4 := AllAt.app (blMono (Tups.of (S3.trans su)) hlx) (blMono (Tups.of (S3.trans su)) hrx)
    generalize upd H3 u (.lst (lxs ++ rxs)) = H4 at su hu4 hall4 ⊢
    have S4 := S3.trans su
    refine ⟨u, _, lead ++ rest, rfl, SqL.of hu4, hall4, R.b2, fun p5 q5 H5 lv5 hp5 s5 ht5 hq5 hlv5 => ?_⟩
    refine ⟨p5, _, _, _, rfl, rfl, SqT.of ht5, atI_nat (j := 0) rfl, L, q5, lv5, (linesOf (lead ++ rest)).ls, rfl, hq5, hlv5, hL, g2, by omega, fun pa H6 av hpa s6 hav haw => ?_⟩
    rw [← rows_same hL (lead ++ rest) h2] at haw
    have s36 := (su.trans s5).trans s6
    have S6 := S3.trans s36
    have hbv6 := s36 _ _ hbv3
    have hbw6 := rwMono (Tups.of s36) hbw3
    have M := R.m
    have hcl := R.le
    have hbl := hbw6.len
    have hal := haw.len
    refine ⟨_, rfl, rfl, _, rfl, ite2 (fun hz => ?_) (fun hz => ?_)⟩
    · have hc0 : c = 0 := by have := V.int.inj (of_decide_eq_true hz); omega
      have hw := M.zero hc0
      rw [hw] at k
      exact k H6 S6
    have hc0 : c ≠ 0 := fun z => hz (decide_eq_true (by rw [z]; rfl))
    obtain ⟨x, hx⟩ : ∃ x, (pageOf L lead).rows[(pageOf L lead).rows.length - c]? = some x := ⟨_, List.getElem?_eq_getElem (by omega)⟩
    have hlenP := M.len
    obtain ⟨y, hy⟩ : ∃ y, (pageOf L (lead ++ rest)).rows[(pageOf L lead).rows.length - c]? = some y := ⟨_, List.getElem?_eq_getElem (by omega)⟩
    obtain ⟨vx, hvx, rx⟩ := hbw6.to hx
    obtain ⟨vy, hvy, ry⟩ := haw.to hy
    rw [← hbl] at hvx hvy
    refine ⟨_, rfl, _, rfl, pb, _, rfl, .inl (SqL.of hbv6), _, rfl, _, _, rfl, rfl, pa, _, _, _, rfl, rfl, SqL.of hav, atI_sub (by omega) hvy, ?_⟩
    refine ⟨_, rfl, _, rfl, pb, _, rfl, .inl (SqL.of hbv6), _, rfl, _, _, rfl, rfl, pb, _, _, _, rfl, rfl, SqL.of hbv6, atI_sub (by omega) hvx, ?_⟩
    refine ⟨_, _, dp_rw ry, dp_rw rx, sh_rw y, sh_rw x, _, rfl, ?_⟩
    rw [eqv_rw1]
    by_cases hxy : y = x
    · rw [decide_eq_true hxy]
      refine iteF ?_
      have hnt : r.w ≠ some true := fun z => by
        obtain ⟨x', y', e1, e2, ne⟩ := M.over hc0 z
        rw [hx] at e1
        rw [hy] at e2
        cases e1
        cases e2
        exact ne hxy.symm
      obtain ⟨_, hn⟩ := M.same hc0 hnt
      refine ⟨_, rfl, _, rfl, _, rfl, la, ra, lxs, rxs, rfl, rfl, S6 _ _ hla, S6 _ _ hra, Nat.le_trans (m := 20) few (by decide), fun u2 hu2 => ?_⟩
      have su2 := same_new (o := .lst (lxs ++ rxs)) hu2
      have hu7 : (upd H6 u2 (.lst (lxs ++ rxs))) u2 = some (.lst (lxs ++ rxs)) := upd_same
      have hall7 := AllAt.app (blMono (Tups.of (S6.trans su2)) hlx) (blMono (Tups.of (S6.trans su2)) hrx)
      generalize upd H6 u2 (.lst (lxs ++ rxs)) = H7 at su2 hu7 hall7 ⊢
      refine ⟨L, u2, _, lead ++ rest, rfl, SqL.of hu7, hall7, R.b2, hL, fun H8 s8 => ?_⟩
      have s68 := su2.trans s8
      refine ⟨_, rfl, _, rfl, pa, _, rfl, .inl (SqL.of (s68 _ _ hav)), _, _, rfl, rfl, _, rfl, pb, _, rfl, .inl (SqL.of (s68 _ _ hbv6)), _, _, rfl, rfl, _, _, rfl, rfl, _, rfl, ite2 (fun hg => ?_) (fun hg => ?_)⟩
      · have hg := of_decide_eq_true hg
        have hw := hn.mpr (by rw [hal, hbl] at hg; omega)
        rw [hw] at k
        exact k H8 (S6.trans s68)
      · have hw : r.w = some false := by
          cases hw : r.w with
          | none => exact absurd (decide_eq_true (by have := hn.mp hw; rw [hal, hbl]; omega)) hg
          | some v =>
            cases v with
            | false => rfl
            | true => exact absurd hw hnt
        rw [hw] at k
        exact k H8 (S6.trans s68)
    · rw [decide_eq_false hxy]
      refine iteT ?_
      have hw : r.w = some true := by
        by_cases z : r.w = some true
        · exact z
        · obtain ⟨e, _⟩ := M.same hc0 z
          rw [hx, hy] at e
          exact absurd (Option.some.inj e) hxy
      rw [hw] at k
      exact k H6 S6
end
end Pa
set_option maxRecDepth 100000
set_option maxHeartbeats 4000000
namespace HotY
open PySem PySem.Spec PyProof.Rows HotX
section
variable {prog : Program} {w : World} {A : Around} {E : Value → Shared → Prop} {s : Shared}
theorem walks_tup_hot {x1 : Addr} {o1 : Obj} {vs1 : Array Value} (hh : A.handled = some (.ref x1)) (d1 : o1.data = .fields vs1) (c1 : vs1[2]? = some .none) (I ax : Addr) (hne : ax ≠ I) (hx : x1 ≠ I) (items : Array Value) :
    Walks prog w A I [I, ax, x1] [I] items.size (fun i v => items[i]? = some v) (fun i h => (h.IsTupleIter I ax i ∧ h.IsTuple ax items) ∧ h.get? x1 = some o1) where
  sub := fun b hb => by simp at hb; simp [hb]
  frame := fun _ _ _ st hk => ⟨⟨st.1.1.at fun o e => hk I (by simp) o e, st.1.2.at fun o e => hk ax (by simp) o e⟩, hk x1 (by simp) _ st.2⟩
  item := fun i s Q E hi st hQ => by
    refine wpAny_pyNext_tuple_item st.1.1 st.1.2 (x := items[i]) (by simp [hi]) fun h' hit' hs' => ?_
    exact hQ _ h' s.toks (by simp [hi]) ⟨⟨hit', st.1.2.extBut hs'.extBut hne⟩, (hs'.2 x1 hx).trans st.2⟩ fun b o hb e => hs'.extBut b o (fun h => hb (by simp [h])) e
  done := fun s Q E st hQ => tup_end_hot ⟨hh, o1, vs1, st.2, d1, c1⟩ hx (show IsTupIter s.heap I ax items.size from st.1.1) (show IsTup s.heap ax items from st.1.2) (by simp) fun h' he' => hQ h' s.toks fun b o hb e => he' b o (fun h => hb (by simp [h])) e
  self := fun _ _ _ _ st hQ => wpAny_pyIter_tupleiter st.1.1 hQ
theorem min_two_hot {x1 : Addr} {a b : Int} {t u : Tok} {Q : Value → Shared → Prop} (hot : HotAt A x1 s.heap)
    (h : ∀ h' tk, (∀ c o, s.heap.get? c = some o → h'.get? c = some o) → Q (if b < a then .int b u else .int a t) { s with heap := h', toks := tk }) :
    wpAny (model prog w) A (call (.builtin "min") [.int a t, .int b u]) Q E s := by
  obtain ⟨hh, o1, vs1, h1, d1, c1⟩ := hot
  have hT : (s.heap.push { cls := .type "tuple", data := .seq #[.int a t, .int b u] }).IsTuple s.heap.objs.size (intItems #[(a, t), (b, u)]) := ⟨_, Heap.get?_push_size _ rfl, rfl, 0, by simp [intItems]⟩
  refine call_min_two (wpAny_pyIter_tuple hT ?_)
  have hsz : (s.heap.push { cls := .type "tuple", data := .seq #[.int a t, .int b u] }).objs.size = s.heap.objs.size + 1 := Heap.size_push ..
  have hlt := Heap.lt_size h1
  refine ⟨_, [_, s.heap.objs.size, x1], [_], _, _, _, _, rfl, walks_tup_hot (A := A.in1) (x1 := x1) (o1 := o1) (vs1 := vs1) hh d1 c1 _ s.heap.objs.size (by rw [hsz]; exact Nat.ne_of_lt (Nat.lt_succ_self _)) (by rw [hsz]; exact Nat.ne_of_lt (Nat.lt_succ_of_lt hlt)) (intItems #[(a, t), (b, u)]),
    ⟨⟨⟨_, Heap.get?_push_size _ rfl, rfl, rfl⟩, hT.push _⟩, Heap.get?_push_of_some _ (Heap.get?_push_of_some _ h1)⟩, fun c hc => ?_, by simp [intItems], CmpOf.ints_lt (numAt #[(a, t), (b, u)]) (fun _ _ => intItems_at), fun v h' tk hP hk => ?_⟩
  · show c < ((s.heap.push _).push _).objs.size
    rw [Heap.size_push, hsz]
    simp only [List.mem_cons, List.not_mem_nil, or_false] at hc
    rcases hc with rfl | rfl | rfl
    · rw [hsz]; exact Nat.lt_succ_self _
    · exact Nat.lt_succ_of_lt (Nat.lt_succ_self _)
    · exact Nat.lt_succ_of_lt (Nat.lt_succ_of_lt hlt)
  · have hold : ∀ c o, s.heap.get? c = some o → h'.get? c = some o := fun c o e => by
      refine hk c o (fun hm => ?_) (Heap.get?_push_of_some _ (Heap.get?_push_of_some _ e))
      rw [List.mem_singleton] at hm
      have l := Heap.lt_size e
      rw [hm, hsz] at l
      exact Nat.lt_irrefl _ (Nat.lt_of_succ_lt l)
    have hq := h h' tk hold
    have hP' : (intItems #[(a, t), (b, u)])[argBest (fun i j => decide (numAt #[(a, t), (b, u)] i < numAt #[(a, t), (b, u)] j)) 1]? = some v := by
      rw [show (1 : Nat) = (intItems #[(a, t), (b, u)]).size - 1 by simp [intItems]]
      exact hP
    by_cases hb : b < a
    · rw [show argBest (fun i j => decide (numAt #[(a, t), (b, u)] i < numAt #[(a, t), (b, u)] j)) 1 = 1 by simp [argBest, numAt, hb]] at hP'
      rw [if_pos hb] at hq
      rw [show v = .int b u by simpa [intItems] using hP'.symm]
      exact hq
    · rw [show argBest (fun i j => decide (numAt #[(a, t), (b, u)] i < numAt #[(a, t), (b, u)] j)) 1 = 0 by simp [argBest, numAt, hb]] at hP'
      rw [if_neg hb] at hq
      rw [show v = .int a t by simpa [intItems] using hP'.symm]
      exact hq
end
end HotY
namespace Pa
open PySem PySem.Spec PyProof.Rows L2 L2H HotX HotY
theorem call_min2Y {X : Cx} (hc : HotC X) : CallR X (.builtin "min") (fun xs H Q => ∃ i j, xs = [.int i, .int j] ∧ Q (.int (if j < i then j else i)) H) := by
  intro pins s σ H xs us Q I r h
  obtain ⟨i, j, rfl, q⟩ := h
  obtain ⟨u, w', rfl, ⟨t, rfl⟩, ⟨t', rfl⟩⟩ := vals2 r
  obtain ⟨x1, hot⟩ := hc.at I
  refine min_two_hot hot fun h' tk k => ⟨_, H, I.kept k, ?_, q⟩
  by_cases hj : j < i
  · rw [if_pos hj, if_pos hj]; exact ⟨_, rfl⟩
  · rw [if_neg hj, if_neg hj]; exact ⟨_, rfl⟩
end Pa
set_option maxRecDepth 100000
set_option maxHeartbeats 4000000
namespace Pa
open PySem PySem.Spec PyProof.Rows L2 SrtO
def dSt (w : Str) (h t : Int) : PyData := .tuple [.str w, .int h, .int t]
theorem strOk_wordOf (kd : Bool) (h : Int) : PyData.strOk (wordOf kd h) = true := by
  unfold wordOf
  split
  · decide +kernel
  · split
    · decide +kernel
    · decide +kernel
theorem shSt (kd : Bool) (h t h' : Int) : SeqAt.shaped (dSt (wordOf kd h) h' t) = true := by
  unfold SeqAt.shaped dSt
  rw [PyData.canLay0, PyData.depth]
  simp only [PyData.canLayAll0, PyData.canLay0, PyData.depthAll, PyData.depth]
  rw [strOk_wordOf]
  rfl
theorem dpSt {K : PySem.W.Frag} {H : Hp} {p : Addr} {w : Str} {h t : Int} (e : SqT K H p [.str w, .int h, .int t]) : Dp K H (.ref p) (dSt w h t) := .tup e (.cons (.str _) (.cons (.int _) (.cons (.int _) .nil)))
section
variable {P : Program} {w : World} {K : PySem.W.Frag} {mg : Str → Option Value} {base : Heap} {C tp : Addr}
/-! ### _law_shown -/
def spShownL (K : PySem.W.Frag) (C : Addr) : Sp := fun vs H Q _ => ∃ (x dx rl st : Addr) (L : Int) (la ra : Addr) (lxs rxs : List V) (lead rest : List Bl) (r : RB) (c : Nat), vs = [.ref x, .int L, .ref la, .ref ra] ∧ 0 < L ∧ PA' C L x dx rl st r.lo r.w r.rows H ∧ StAt K H st r.kd r.h r.t ∧
  H la = some (.lst lxs) ∧ AllAt BlAt H lxs lead ∧ H ra = some (.lst rxs) ∧ AllAt BlAt H rxs rest ∧ Rsm L lead rest r c ∧ ∀ H', Same H H' → Q (.bl true) H'
abbrev sL_shown : Stmt := topS 30
theorem scL_shown : FnScope ["_law_page", "_law_length_here", "_law_lead_here", "_law_rest", "_law_due", "_law_count", "_law_went_here"] ["_law_page", "_law_length_here", "_law_lead_here", "_law_rest"] (defScope sL_shown) := ⟨rfl, rfl, rfl, by decide +kernel, rfl, by decide +kernel, by decide +kernel⟩
theorem ok_lshown {f : Addr} {fd : FuncData} (F : Fun K "_law_shown" "_law_shown" sL_shown f fd) (T : Txt K mg tp C) (C__law_number : CallOk P w K mg base 1 "_law_number" ["_law_thing"] spNum) (C__law_lines : CallOk P w K mg base 1 "_law_lines" ["_law_blocks"] (spLLines K))
    (C__law_pages : CallOk P w K mg base 2 "_law_pages" ["_law_length_here", "_law_lines_here"] spPages) (C__law_standing : CallOk P w K mg base 3 "_law_standing" ["_law_length_here", "_law_blocks"] (spStanding K))
    (C__law_pending : CallOk P w K mg base 4 "_law_pending" ["_law_length_here", "_law_blocks"] (spPending K)) (C__law_went : CallOk P w K mg base 5 "_law_went" ["_law_length_here", "_law_lead_here", "_law_rest"] (spWentL K))
    (M_finish : MethOk P w K mg base C 1 "finish" ["self"] (spFinish C)) (M_settled : MethOk P w K mg base C 2 "settled" ["self"] (spSettled C)) (P_now : PropOk P w K mg base C 1 "now" (spNow C)) (P_pending : PropOk P w K mg base C 1 "pending" (spPend C))
    (P_went_over : PropOk P w K mg base C 1 "went_over" (spWent C)) (M_len : LenOk P w K mg base C 1 (spLen C)) : FnOk P w K mg base CX0 6 f fd ["_law_page", "_law_length_here", "_law_lead_here", "_law_rest"] (spShownL K C) := by
  refine F.ok scL_shown (fun vs H Q E h => ?_) (fun cdv A outer s H vs Q E hr h => ?_)
  · obtain ⟨x, dx, rl, st, L, la, ra, lxs, rxs, lead, rest, r, c, rfl, _⟩ := h
    rfl
  · obtain ⟨x, dx, rl, st, L, la, ra, lxs, rxs, lead, rest, r, c, rfl, hL, pa, sa, hla, hlx, hra, hrx, R, k⟩ := h
    refine ⟨_, (pss_cons (ps_set (i := 4) scL_shown.nd rfl (.inl rfl) (pe_slice sl_list (pe_cc C__law_pages (hr.mono (by decide)) (by rfl) (pa_cons (pv 1) (pa_cons (pe_ix ix_tup (pe_cc C__law_lines (hr.mono (by decide)) (by rfl) (pa_cons (pe_op op_cat (pv 2) (pv 3)) pa_nil)) pe_int (fun _ _ => rfl)) pa_nil))) (po_some (pe_callB call_len_seq (by rfl) T.b_len PySem.boot_len (pa_cons (pe_ix ix_tup (pe_cc C__law_lines (hr.mono (by decide)) (by rfl) (pa_cons (pv 2) pa_nil)) pe_int (fun _ _ => rfl)) pa_nil))) po_none))
      (pss_cons (ps_par (i := 5) (j := 6) (by rfl) scL_shown.nd rfl rfl (by decide) rfl rfl (pa_cons (pe_by (pe_callB (call_min2 rfl) (by rfl) T.b_min (by decide +kernel) (pa_cons (pe_callB call_len_seq (by rfl) T.b_len PySem.boot_len (pa_cons (pv 4) pa_nil)) (pa_cons (pe_cc C__law_pending (hr.mono (by decide)) (by rfl) (pa_cons (pv 1) (pa_cons (pe_op op_cat (pv 2) (pv 3)) pa_nil))) pa_nil)))) (pa_cons (pe_cc C__law_went (hr.mono (by decide)) (by rfl) (pa_cons (pv 1) (pa_cons (pv 2) (pa_cons (pv 3) pa_nil)))) pa_nil)) (by rfl))
      (pss_cons (ps_if (PW.pt (pw_or (pt_cmpR (op_neD hr.units) (pe_pr (pv 0) T.cl P_now (hr.mono (by decide))) (pe_cc C__law_standing (hr.mono (by decide)) (by rfl) (pa_cons (pv 1) (pa_cons (pe_op op_cat (pv 2) (pv 3)) pa_nil))) (nomark _)) (pw_or (pt_cmpR (op_neD hr.units) (pe_mc0 (pv 0) T.cl M_finish (hr.mono (by decide))) (pv 4) (nomark _)) (pw_or1 (pt_cmpR op_ne (pe_callB (call_lenO M_len (hr.mono (by decide))) (by rfl) T.b_len PySem.boot_len (pa_cons (pv 0) pa_nil)) (pe_callB call_len_seq (by rfl) T.b_len PySem.boot_len (pa_cons (pv 4) pa_nil)) (nomark _))))))
        (pss_one (ps_ret pe_bl))
        pss_nil)
      (pss_cons (ps_if (PW.pt (pw_or (pt_not (pt_val (pe_cc C__law_number (hr.mono (by decide)) (by rfl) (pa_cons (pe_pr (pv 0) T.cl P_pending (hr.mono (by decide))) pa_nil)))) (pw_or (pt_cmpR op_ne (pe_pr (pv 0) T.cl P_pending (hr.mono (by decide))) (pv 5) (nomark _)) (pw_or1 (pt_cmpR (op_neD hr.units) (pe_mc0 (pv 0) T.cl M_settled (hr.mono (by decide))) (pe_slice sl_list (pv 4) po_none (po_some (pe_pure (pe_op op_sub (pe_callB call_len_seq (by rfl) T.b_len PySem.boot_len (pa_cons (pv 4) pa_nil)) (pv 5))))) (nomark _))))))
        (pss_one (ps_ret pe_bl))
        pss_nil)
      (pss_one (ps_ret (pe_ifExp (pt_cmpR op_isN (pv 6) pe_non (nomark _)) (pe_cmpR op_isN (pe_pr (pv 0) T.cl P_went_over (hr.mono (by decide))) pe_non (nomark _)) (pe_and (pe_callB call_isi (by rfl) T.b_isinstance (by decide +kernel) (pa_cons (pe_pr (pv 0) T.cl P_went_over (hr.mono (by decide))) (pa_cons (pe_bltn (v := .ty "bool") (by rfl) T.b_bool (by decide +kernel) rfl) pa_nil))) (pe_one (pe_cmpR op_eq (pe_pr (pv 0) T.cl P_went_over (hr.mono (by decide))) (pv 6) (nomark _))))))))))), ?_⟩
    have h1 : ∀ b ∈ lead, 0 ≤ b.s := fun b hb => (R.b1.small b hb).2
    have h2 : ∀ b ∈ lead ++ rest, 0 ≤ b.s := fun b hb => (R.b2.small b hb).2
    have g1 := (good_lines lead h1).1
    have g2 := (good_lines (lead ++ rest) h2).1
    have hl1 := R.b1.len
    have hl2 := R.b2.len
    have M := R.m
    have hlo := R.bd
    have few : lxs.length + rxs.length ≤ 20 := by
      have := R.b2.few
      rw [List.length_append] at this
      rw [hlx.len, hrx.len]
      exact this
    have cat : ∀ {H1 : Hp} {Z : VK}, Same H H1 → (∀ u, H1 u = none → ∀ H2, Same H1 H2 → H2 u = some (.lst (lxs ++ rxs)) → AllAt BlAt H2 (lxs ++ rxs) (lead ++ rest) → Z (.ref u) H2) → rCat (.ref la) (.ref ra) H1 Z := fun {H1 Z} s h => by
      refine ⟨la, ra, lxs, rxs, rfl, rfl, s _ _ hla, s _ _ hra, Nat.le_trans (m := 20) few (by decide), fun u hu => ?_⟩
      have su := same_new (o := .lst (lxs ++ rxs)) hu
      exact h u hu _ su upd_same (AllAt.app (blMono (Tups.of (s.trans su)) hlx) (blMono (Tups.of (s.trans su)) hrx))
    have hrP : (pageOf L (lead ++ rest)).rows.length = (linesOf (lead ++ rest)).ls.length := by rw [rows_same hL (lead ++ rest) h2, (right_ok hL g2).1]
    have hrA : (pageOf L lead).rows.length = (linesOf lead).ls.length := by rw [rows_same hL lead h1, (right_ok hL g1).1]
    have hlen := M.len
    have hrl : r.rows.length ≤ 2000 := by omega
    -- due
    refine ⟨_, rfl, _, rfl, _, rfl, cat (Same.refl H) fun u hu H1 s1 hu1 hall1 => ?_⟩
    refine ⟨u, _, lead ++ rest, rfl, SqL.of hu1, hall1, R.b2, fun p2 q2 H2 lv2 hp2 s2 ht2 hq2 hlv2 => ?_⟩
    refine ⟨p2, _, _, _, rfl, rfl, SqT.of ht2, atI_nat (j := 0) rfl, L, q2, lv2, (linesOf (lead ++ rest)).ls, rfl, hq2, hlv2, hL, g2, by omega, fun p3 H3 rv hp3 s3 hrv hrw => ?_⟩
    rw [← rows_same hL (lead ++ rest) h2] at hrw
    have S3 := (s1.trans s2).trans s3
    refine ⟨_, rfl, la, lxs, lead, rfl, SqL.of (S3 _ _ hla), blMono (Tups.of S3) hlx, R.b1, fun p4 q4 H4 lv4 hp4 s4 ht4 hq4 hlv4 => ?_⟩
    refine ⟨p4, _, _, _, rfl, rfl, SqT.of ht4, atI_nat (j := 0) rfl, q4, _, rfl, .inl (SqL.of hq4), ?_⟩
    refine ⟨_, rfl, p3, rv, rfl, SqL.of (s4 _ _ hrv), fun pd hpd => ?_⟩
    have sd := same_new (o := .lst (cutV rv (some ((lv4.length : Nat) : Int)) none)) hpd
    have e4 : lv4.length = (pageOf L lead).rows.length := by rw [hlv4.len, hrA]
    have hdue : (upd H4 pd (.lst (cutV rv (some ((lv4.length : Nat) : Int)) none))) pd = some (.lst (rv.drop lv4.length)) := by
      rw [upd_same, cutV_from (by rw [hrw.len, e4]; omega)]
    have hdw := AllAt.drop lv4.length (rwMono (Tups.of (s4.trans sd)) hrw)
    have S5 := (S3.trans s4).trans sd
    generalize upd H4 pd (.lst (cutV rv (some ((lv4.length : Nat) : Int)) none)) = H5 at S5 hdue hdw ⊢
    rw [e4, M.rows] at hdw
    rw [e4] at hdue
    generalize rv.drop (pageOf L lead).rows.length = dv at hdue hdw
    have hdl := hdw.len
    clear s1 hu1 hall1 s2 ht2 hq2 hlv2 hrv hrw s3 S3 s4 ht4 hq4 hlv4 sd
    -- count, went
    refine ⟨fun v H' => v = .int r.lo ∧ Same H5 H', fun Q' hQ => ?_, ?_⟩
    · refine ⟨_, rfl, pd, _, rfl, .inl (SqL.of hdue), _, rfl, _, rfl, _, rfl, cat S5 fun u hu H6 s6 hu6 hall6 => ?_⟩
      refine ⟨L, u, _, lead ++ rest, rfl, SqL.of hu6, hall6, R.b2, hL, fun H7 s7 => ⟨_, _, rfl, ?_⟩⟩
      refine hQ _ _ ⟨congrArg V.int ?_, s6.trans s7⟩
      have := M.lo
      rw [hdl]
      by_cases hz : (pageOf L (lead ++ rest)).lo < ((r.rows.length : Nat) : Int)
      · rw [if_pos hz]; omega
      · rw [if_neg hz]; omega
    rintro v H6 ⟨rfl, s6⟩
    have S6 := S5.trans s6
    refine ⟨_, rfl, _, rfl, _, rfl, L, la, ra, lxs, rxs, lead, rest, r, c, rfl, hL, S6 _ _ hla, blMono (Tups.of S6) hlx, S6 _ _ hra, blMono (Tups.of S6) hrx, R, fun H7 s7 => ?_⟩
    refine ⟨_, _, rfl, ?_⟩
    have S7 := S6.trans s7
    have hd7 := (s6.trans s7) _ _ hdue
    have hw7 := rwMono (Tups.of (s6.trans s7)) hdw
    have pa7 := pa.same S7
    clear s6 s7 S6 S5 hdue hdw
    -- now, finish, len
    refine ⟨_, rfl, x, dx, _, rfl, pa7.ob, x, dx, rl, st, L, _, _, _, rfl, pa7, ?_⟩
    refine ⟨_, rfl, _, rfl, _, rfl, cat S7 fun u hu H8 s8 hu8 hall8 => ?_⟩
    refine ⟨L, u, _, lead ++ rest, rfl, SqL.of hu8, hall8, R.b2, hL, fun p9 H9 hp9 s9 hst9 => ?_⟩
    unfold StIs at hst9
    rw [← M.kd, ← M.h, ← M.t] at hst9
    have s79 := s8.trans s9
    obtain ⟨wd, e1, e2, e3⟩ := StAt.same (S7.trans s79) sa
    subst e3
    refine ⟨_, _, dpSt e1, dpSt (SqT.of hst9), shSt _ _ _ _, shSt _ _ _ _, _, rfl, ?_⟩
    rw [eqv_self (shSt _ _ _ _)]
    refine iteF ?_
    have pa9 := pa7.same s79
    refine ⟨_, rfl, x, dx, _, rfl, pa9.ob, rfl, x, dx, rl, st, L, _, _, _, rfl, pa9, by omega, fun pf9 H10 ys10 hpf s10 hys10 hrw10 => ?_⟩
    have s70 := s79.trans s10
    refine ⟨_, rfl, .list (r.rows.map dRw), .list (r.rows.map dRw), .lst (SqL.of hys10) (dpRw hrw10), .lst (SqL.of (s70 _ _ hd7)) (dpRw (rwMono (Tups.of s70) hw7)), shRw _, shRw _, _, rfl, ?_⟩
    rw [eqv_self (shRw _)]
    refine iteF ?_
    have pa10 := pa7.same s70
    have hd10 := s70 _ _ hd7
    have hw10 := rwMono (Tups.of s70) hw7
    refine ⟨_, rfl, x, dx, _, rfl, pa10.ob, x, dx, rl, st, L, _, _, _, rfl, pa10, _, rfl, by omega, by omega, ?_⟩
    refine ⟨_, rfl, pd, _, rfl, .inl (SqL.of hd10), rfl, _, rfl, iteQ (by rw [hdl, decide_eq_true rfl]; decide) ?_⟩
    -- pending, settled
    refine ⟨_, rfl, x, dx, _, rfl, pa10.ob, x, dx, rl, st, L, _, _, _, rfl, pa10, _, rfl, _, rfl, iteQ (by decide) ?_⟩
    refine ⟨_, rfl, x, dx, _, rfl, pa10.ob, x, dx, rl, st, L, _, _, _, rfl, pa10, _, rfl, rfl, _, rfl, iteQ (by rw [decide_eq_true rfl]; decide) ?_⟩
    refine ⟨_, rfl, x, dx, _, rfl, pa10.ob, rfl, x, dx, rl, st, L, _, _, _, rfl, pa10, hlo.1, hlo.2, by omega, fun ps H11 zs hps s11 hzs hzw => ?_⟩
    have hd11 := s11 _ _ hd10
    have hw11 := rwMono (Tups.of s11) hw10
    have ea : ((dv.length : Nat) : Int) - r.lo = ((r.rows.length - r.lo.toNat : Nat) : Int) := by rw [hdl]; omega
    refine ⟨_, rfl, .int ((r.rows.length - r.lo.toNat : Nat) : Int), fun Q'' hQ' => ⟨_, rfl, pd, _, rfl, .inl (SqL.of hd11), _, rfl, _, _, rfl, rfl, ?_⟩, ?_⟩
    · rw [← ea] at hQ'
      exact hQ'
    refine ⟨_, rfl, pd, _, rfl, SqL.of hd11, fun u hu => ?_⟩
    have sU := same_new (o := .lst (cutV dv none (some ((r.rows.length - r.lo.toNat : Nat) : Int)))) hu
    have ec := cutV_to (xs := dv) (n := r.rows.length - r.lo.toNat) (by rw [hdl]; omega)
    have zz := (rwMono (Tups.of sU) hw11).take (r.rows.length - r.lo.toNat)
    rw [← ec] at zz
    refine ⟨.list ((preS r.rows r.lo).map dRw), .list ((r.rows.take (r.rows.length - r.lo.toNat)).map dRw), .lst (SqL.of (sU _ _ hzs)) (dpRw (rwMono (Tups.of sU) hzw)), .lst (SqL.of upd_same) (dpRw zz), shRw _, shRw _, _, rfl, ?_⟩
    unfold preS
    rw [eqv_self (shRw _)]
    refine iteF ?_
    have S12 := ((S7.trans s70).trans s11).trans sU
    have pa12 := pa.same S12
    have k12 := k _ S12
    clear sU zz hzs hzw hd11 hw11 k
    generalize upd H11 u (.lst (cutV dv none (some ((r.rows.length - r.lo.toNat : Nat) : Int)))) = H12 at S12 pa12 k12 ⊢
    -- went over
    cases hw : r.w with
    | none =>
      rw [hw] at pa12
      refine ⟨_, rfl, rfl, _, rfl, iteP (decide_eq_true rfl) ?_⟩
      refine ⟨_, rfl, x, dx, _, rfl, pa12.ob, x, dx, rl, st, L, _, _, _, rfl, pa12, rfl, ?_⟩
      exact k12
    | some v =>
      rw [hw] at pa12
      refine ⟨_, rfl, rfl, _, rfl, iteQ (by cases v <;> decide) ?_⟩
      refine ⟨_, rfl, x, dx, _, rfl, pa12.ob, x, dx, rl, st, L, _, _, _, rfl, pa12, _, _, _, _, true, rfl, .ty _, .base (.bl _), kit_ty (by decide +kernel), _, rfl, iteT ?_⟩
      refine ⟨_, rfl, x, dx, _, rfl, pa12.ob, x, dx, rl, st, L, _, _, _, rfl, pa12, _, rfl, rfl, ?_⟩
      rw [decide_eq_true rfl]
      exact k12
end
end Pa
set_option maxRecDepth 100000
set_option maxHeartbeats 4000000
namespace Pa
open PySem PySem.Spec PyProof.Rows L2 L2H HotX HotY SrtO
section
variable {P : Program} {w : World} {K : PySem.W.Frag} {mg : Str → Option Value} {base : Heap} {C tp : Addr}
theorem ok_lwentY {f : Addr} {fd : FuncData} (F : Fun K "_law_went" "_law_went" sL_went f fd) (T : Txt K mg tp C) (C__law_lines : CallOkY P w K mg base 1 "_law_lines" ["_law_blocks"] (spLLines K)) (C__law_pages : CallOkY P w K mg base 2 "_law_pages" ["_law_length_here", "_law_lines_here"] spPages)
    (C__law_pending : CallOkY P w K mg base 4 "_law_pending" ["_law_length_here", "_law_blocks"] (spPending K)) : FnH P w K mg base CX0 5 f fd ["_law_length_here", "_law_lead_here", "_law_rest"] (spWentL K) := by
  refine fun_okY F scL_went (fun vs H Q E h => ?_) (fun cdv A outer s H vs Q E pY hcY hr h => ?_)
  · obtain ⟨L, la, ra, lxs, rxs, lead, rest, r, c, rfl, _⟩ := h
    rfl
  · obtain ⟨L, la, ra, lxs, rxs, lead, rest, r, c, rfl, hL, hla, hlx, hra, hrx, R, k⟩ := h
    refine ⟨_, (pss_cons (ps_parY (i := 3) (j := 4) hcY scL_went.nd rfl rfl (by decide) rfl rfl (pa_cons (pe_ccY hcY C__law_pages (hr.mono (by decide)) (by rfl) (pa_cons (pv 0) (pa_cons (pe_ix ix_tup (pe_ccY hcY C__law_lines (hr.mono (by decide)) (by rfl) (pa_cons (pv 1) pa_nil)) pe_int (fun _ _ => rfl)) pa_nil))) (pa_cons (pe_ccY hcY C__law_pending (hr.mono (by decide)) (by rfl) (pa_cons (pv 0) (pa_cons (pv 1) pa_nil))) pa_nil)) (by rfl))
      (pss_cons (ps_set (i := 5) scL_went.nd rfl (.inl rfl) (pe_ccY hcY C__law_pages (hr.mono (by decide)) (by rfl) (pa_cons (pv 0) (pa_cons (pe_ix ix_tup (pe_ccY hcY C__law_lines (hr.mono (by decide)) (by rfl) (pa_cons (pe_op op_cat (pv 1) (pv 2)) pa_nil)) pe_int (fun _ _ => rfl)) pa_nil))))
      (pss_cons (ps_if (pt_cmpR op_eq (pv 4) pe_int (nomark _))
        (pss_one (ps_ret pe_bl))
        pss_nil)
      (pss_cons (ps_if (pt_cmpR (op_neD hr.units) (pe_ix ix_list (pv 5) (pe_op op_sub (pe_callB call_len_seq (by rfl) T.b_len PySem.boot_len (pa_cons (pv 3) pa_nil)) (pv 4)) (fun _ _ => rfl)) (pe_ix ix_list (pv 3) (pe_op op_sub (pe_callB call_len_seq (by rfl) T.b_len PySem.boot_len (pa_cons (pv 3) pa_nil)) (pv 4)) (fun _ _ => rfl)) (nomark _))
        (pss_one (ps_ret pe_bl))
        pss_nil)
      (pss_one (ps_ret (pe_ifExp (pt_cmpR op_ge (pe_ccY hcY C__law_pending (hr.mono (by decide)) (by rfl) (pa_cons (pv 0) (pa_cons (pe_op op_cat (pv 1) (pv 2)) pa_nil))) (pe_op op_sub (pe_op op_add (pv 4) (pe_callB call_len_seq (by rfl) T.b_len PySem.boot_len (pa_cons (pv 5) pa_nil))) (pe_callB call_len_seq (by rfl) T.b_len PySem.boot_len (pa_cons (pv 3) pa_nil))) (nomark _)) pe_non pe_bl))))))), ?_⟩
    have h1 : ∀ b ∈ lead, 0 ≤ b.s := fun b hb => (R.b1.small b hb).2
    have h2 : ∀ b ∈ lead ++ rest, 0 ≤ b.s := fun b hb => (R.b2.small b hb).2
    have g1 := (good_lines lead h1).1
    have g2 := (good_lines (lead ++ rest) h2).1
    have hl1 := R.b1.len
    have hl2 := R.b2.len
    -- before, count
    refine ⟨_, rfl, _, rfl, la, lxs, lead, rfl, SqL.of hla, hlx, R.b1, fun p1 q1 H1 lv1 hp1 s1 ht1 hq1 hlv1 => ?_⟩
    refine ⟨p1, _, _, _, rfl, rfl, SqT.of ht1, atI_nat (j := 0) rfl, L, q1, lv1, (linesOf lead).ls, rfl, hq1, hlv1, hL, g1, by omega, fun pb H2 bv hpb s2 hbv hbw => ?_⟩
    rw [← rows_same hL lead h1] at hbw
    have S2 := s1.trans s2
    refine ⟨_, rfl, _, rfl, L, la, lxs, lead, rfl, SqL.of (S2 _ _ hla), blMono (Tups.of S2) hlx, R.b1, hL, fun H3 s3 => ?_⟩
    rw [R.lo]
    refine ⟨_, _, rfl, ?_⟩
    have S3 := S2.trans s3
    have hbv3 := s3 _ _ hbv
    have hbw3 := rwMono (Tups.of s3) hbw
    have few : lxs.length + rxs.length ≤ 20 := by
      have := R.b2.few
      rw [List.length_append] at this
      rw [hlx.len, hrx.len]
      exact this
    -- after
    refine ⟨_, rfl, _, rfl, _, rfl, la, ra, lxs, rxs, rfl, rfl, S3 _ _ hla, S3 _ _ hra, Nat.le_trans (m := 20) few (by decide), fun u hu => ?_⟩
    have su := same_new (o := .lst (lxs ++ rxs)) hu
    have hu4 : (upd H3 u (.lst (lxs ++ rxs))) u = some (.lst (lxs ++ rxs)) := upd_same
    have hall4 := AllAt.app (blMono (Tups.of (S3.trans su)) hlx) (blMono (Tups.of (S3.trans su)) hrx)
    generalize upd H3 u (.lst (lxs ++ rxs)) = H4 at su hu4 hall4 ⊢
    have S4 := S3.trans su
    refine ⟨u, _, lead ++ rest, rfl, SqL.of hu4, hall4, R.b2, fun p5 q5 H5 lv5 hp5 s5 ht5 hq5 hlv5 => ?_⟩
    refine ⟨p5, _, _, _, rfl, rfl, SqT.of ht5, atI_nat (j := 0) rfl, L, q5, lv5, (linesOf (lead ++ rest)).ls, rfl, hq5, hlv5, hL, g2, by omega, fun pa H6 av hpa s6 hav haw => ?_⟩
    rw [← rows_same hL (lead ++ rest) h2] at haw
    have s36 := (su.trans s5).trans s6
    have S6 := S3.trans s36
    have hbv6 := s36 _ _ hbv3
    have hbw6 := rwMono (Tups.of s36) hbw3
    have M := R.m
    have hcl := R.le
    have hbl := hbw6.len
    have hal := haw.len
    refine ⟨_, rfl, rfl, _, rfl, ite2 (fun hz => ?_) (fun hz => ?_)⟩
    · have hc0 : c = 0 := by have := V.int.inj (of_decide_eq_true hz); omega
      have hw := M.zero hc0
      rw [hw] at k
      exact k H6 S6
    have hc0 : c ≠ 0 := fun z => hz (decide_eq_true (by rw [z]; rfl))
    obtain ⟨x, hx⟩ : ∃ x, (pageOf L lead).rows[(pageOf L lead).rows.length - c]? = some x := ⟨_, List.getElem?_eq_getElem (by omega)⟩
    have hlenP := M.len
    obtain ⟨y, hy⟩ : ∃ y, (pageOf L (lead ++ rest)).rows[(pageOf L lead).rows.length - c]? = some y := ⟨_, List.getElem?_eq_getElem (by omega)⟩
    obtain ⟨vx, hvx, rx⟩ := hbw6.to hx
    obtain ⟨vy, hvy, ry⟩ := haw.to hy
    rw [← hbl] at hvx hvy
    refine ⟨_, rfl, _, rfl, pb, _, rfl, .inl (SqL.of hbv6), _, rfl, _, _, rfl, rfl, pa, _, _, _, rfl, rfl, SqL.of hav, atI_sub (by omega) hvy, ?_⟩
    refine ⟨_, rfl, _, rfl, pb, _, rfl, .inl (SqL.of hbv6), _, rfl, _, _, rfl, rfl, pb, _, _, _, rfl, rfl, SqL.of hbv6, atI_sub (by omega) hvx, ?_⟩
    refine ⟨_, _, dp_rw ry, dp_rw rx, sh_rw y, sh_rw x, _, rfl, ?_⟩
    rw [eqv_rw1]
    by_cases hxy : y = x
    · rw [decide_eq_true hxy]
      refine iteF ?_
      have hnt : r.w ≠ some true := fun z => by
        obtain ⟨x', y', e1, e2, ne⟩ := M.over hc0 z
        rw [hx] at e1
        rw [hy] at e2
        cases e1
        cases e2
        exact ne hxy.symm
      obtain ⟨_, hn⟩ := M.same hc0 hnt
      refine ⟨_, rfl, _, rfl, _, rfl, la, ra, lxs, rxs, rfl, rfl, S6 _ _ hla, S6 _ _ hra, Nat.le_trans (m := 20) few (by decide), fun u2 hu2 => ?_⟩
      have su2 := same_new (o := .lst (lxs ++ rxs)) hu2
      have hu7 : (upd H6 u2 (.lst (lxs ++ rxs))) u2 = some (.lst (lxs ++ rxs)) := upd_same
      have hall7 := AllAt.app (blMono (Tups.of (S6.trans su2)) hlx) (blMono (Tups.of (S6.trans su2)) hrx)
      generalize upd H6 u2 (.lst (lxs ++ rxs)) = H7 at su2 hu7 hall7 ⊢
      refine ⟨L, u2, _, lead ++ rest, rfl, SqL.of hu7, hall7, R.b2, hL, fun H8 s8 => ?_⟩
      have s68 := su2.trans s8
      refine ⟨_, rfl, _, rfl, pa, _, rfl, .inl (SqL.of (s68 _ _ hav)), _, _, rfl, rfl, _, rfl, pb, _, rfl, .inl (SqL.of (s68 _ _ hbv6)), _, _, rfl, rfl, _, _, rfl, rfl, _, rfl, ite2 (fun hg => ?_) (fun hg => ?_)⟩
      · have hg := of_decide_eq_true hg
        have hw := hn.mpr (by rw [hal, hbl] at hg; omega)
        rw [hw] at k
        exact k H8 (S6.trans s68)
      · have hw : r.w = some false := by
          cases hw : r.w with
          | none => exact absurd (decide_eq_true (by have := hn.mp hw; rw [hal, hbl]; omega)) hg
          | some v =>
            cases v with
            | false => rfl
            | true => exact absurd hw hnt
        rw [hw] at k
        exact k H8 (S6.trans s68)
    · rw [decide_eq_false hxy]
      refine iteT ?_
      have hw : r.w = some true := by
        by_cases z : r.w = some true
        · exact z
        · obtain ⟨e, _⟩ := M.same hc0 z
          rw [hx, hy] at e
          exact absurd (Option.some.inj e) hxy
      rw [hw] at k
      exact k H6 S6
theorem ok_lshownY {f : Addr} {fd : FuncData} (F : Fun K "_law_shown" "_law_shown" sL_shown f fd) (T : Txt K mg tp C) (C__law_number : CallOkY P w K mg base 1 "_law_number" ["_law_thing"] spNum) (C__law_lines : CallOkY P w K mg base 1 "_law_lines" ["_law_blocks"] (spLLines K))
    (C__law_pages : CallOkY P w K mg base 2 "_law_pages" ["_law_length_here", "_law_lines_here"] spPages) (C__law_standing : CallOkY P w K mg base 3 "_law_standing" ["_law_length_here", "_law_blocks"] (spStanding K))
    (C__law_pending : CallOkY P w K mg base 4 "_law_pending" ["_law_length_here", "_law_blocks"] (spPending K)) (C__law_went : CallOkY P w K mg base 5 "_law_went" ["_law_length_here", "_law_lead_here", "_law_rest"] (spWentL K))
    (M_finish : MethOkY P w K mg base C 1 "finish" ["self"] (spFinish C)) (M_settled : MethOkY P w K mg base C 2 "settled" ["self"] (spSettled C)) (P_now : PropOkY P w K mg base C 1 "now" (spNow C)) (P_pending : PropOkY P w K mg base C 1 "pending" (spPend C))
    (P_went_over : PropOkY P w K mg base C 1 "went_over" (spWent C)) (M_len : LenOkY P w K mg base C 1 (spLen C)) : FnH P w K mg base CX0 6 f fd ["_law_page", "_law_length_here", "_law_lead_here", "_law_rest"] (spShownL K C) := by
  refine fun_okY F scL_shown (fun vs H Q E h => ?_) (fun cdv A outer s H vs Q E pY hcY hr h => ?_)
  · obtain ⟨x, dx, rl, st, L, la, ra, lxs, rxs, lead, rest, r, c, rfl, _⟩ := h
    rfl
  · obtain ⟨x, dx, rl, st, L, la, ra, lxs, rxs, lead, rest, r, c, rfl, hL, pa, sa, hla, hlx, hra, hrx, R, k⟩ := h
    refine ⟨_, (pss_cons (ps_set (i := 4) scL_shown.nd rfl (.inl rfl) (pe_slice sl_list (pe_ccY hcY C__law_pages (hr.mono (by decide)) (by rfl) (pa_cons (pv 1) (pa_cons (pe_ix ix_tup (pe_ccY hcY C__law_lines (hr.mono (by decide)) (by rfl) (pa_cons (pe_op op_cat (pv 2) (pv 3)) pa_nil)) pe_int (fun _ _ => rfl)) pa_nil))) (po_some (pe_callB call_len_seq (by rfl) T.b_len PySem.boot_len (pa_cons (pe_ix ix_tup (pe_ccY hcY C__law_lines (hr.mono (by decide)) (by rfl) (pa_cons (pv 2) pa_nil)) pe_int (fun _ _ => rfl)) pa_nil))) po_none))
      (pss_cons (ps_parY (i := 5) (j := 6) hcY scL_shown.nd rfl rfl (by decide) rfl rfl (pa_cons (pe_by (pe_callB (call_min2Y hcY) (by rfl) T.b_min (by decide +kernel) (pa_cons (pe_callB call_len_seq (by rfl) T.b_len PySem.boot_len (pa_cons (pv 4) pa_nil)) (pa_cons (pe_ccY hcY C__law_pending (hr.mono (by decide)) (by rfl) (pa_cons (pv 1) (pa_cons (pe_op op_cat (pv 2) (pv 3)) pa_nil))) pa_nil)))) (pa_cons (pe_ccY hcY C__law_went (hr.mono (by decide)) (by rfl) (pa_cons (pv 1) (pa_cons (pv 2) (pa_cons (pv 3) pa_nil)))) pa_nil)) (by rfl))
      (pss_cons (ps_if (PW.pt (pw_or (pt_cmpR (op_neD hr.units) (pe_prY hcY (pv 0) T.cl P_now (hr.mono (by decide))) (pe_ccY hcY C__law_standing (hr.mono (by decide)) (by rfl) (pa_cons (pv 1) (pa_cons (pe_op op_cat (pv 2) (pv 3)) pa_nil))) (nomark _)) (pw_or (pt_cmpR (op_neD hr.units) (pe_mc0Y hcY (pv 0) T.cl M_finish (hr.mono (by decide))) (pv 4) (nomark _)) (pw_or1 (pt_cmpR op_ne (pe_callB (call_lenY hcY M_len (hr.mono (by decide))) (by rfl) T.b_len PySem.boot_len (pa_cons (pv 0) pa_nil)) (pe_callB call_len_seq (by rfl) T.b_len PySem.boot_len (pa_cons (pv 4) pa_nil)) (nomark _))))))
        (pss_one (ps_ret pe_bl))
        pss_nil)
      (pss_cons (ps_if (PW.pt (pw_or (pt_not (pt_val (pe_ccY hcY C__law_number (hr.mono (by decide)) (by rfl) (pa_cons (pe_prY hcY (pv 0) T.cl P_pending (hr.mono (by decide))) pa_nil)))) (pw_or (pt_cmpR op_ne (pe_prY hcY (pv 0) T.cl P_pending (hr.mono (by decide))) (pv 5) (nomark _)) (pw_or1 (pt_cmpR (op_neD hr.units) (pe_mc0Y hcY (pv 0) T.cl M_settled (hr.mono (by decide))) (pe_slice sl_list (pv 4) po_none (po_some (pe_pure (pe_op op_sub (pe_callB call_len_seq (by rfl) T.b_len PySem.boot_len (pa_cons (pv 4) pa_nil)) (pv 5))))) (nomark _))))))
        (pss_one (ps_ret pe_bl))
        pss_nil)
      (pss_one (ps_ret (pe_ifExp (pt_cmpR op_isN (pv 6) pe_non (nomark _)) (pe_cmpR op_isN (pe_prY hcY (pv 0) T.cl P_went_over (hr.mono (by decide))) pe_non (nomark _)) (pe_and (pe_callB call_isi (by rfl) T.b_isinstance (by decide +kernel) (pa_cons (pe_prY hcY (pv 0) T.cl P_went_over (hr.mono (by decide))) (pa_cons (pe_bltn (v := .ty "bool") (by rfl) T.b_bool (by decide +kernel) rfl) pa_nil))) (pe_one (pe_cmpR op_eq (pe_prY hcY (pv 0) T.cl P_went_over (hr.mono (by decide))) (pv 6) (nomark _))))))))))), ?_⟩
    have h1 : ∀ b ∈ lead, 0 ≤ b.s := fun b hb => (R.b1.small b hb).2
    have h2 : ∀ b ∈ lead ++ rest, 0 ≤ b.s := fun b hb => (R.b2.small b hb).2
    have g1 := (good_lines lead h1).1
    have g2 := (good_lines (lead ++ rest) h2).1
    have hl1 := R.b1.len
    have hl2 := R.b2.len
    have M := R.m
    have hlo := R.bd
    have few : lxs.length + rxs.length ≤ 20 := by
      have := R.b2.few
      rw [List.length_append] at this
      rw [hlx.len, hrx.len]
      exact this
    have cat : ∀ {H1 : Hp} {Z : VK}, Same H H1 → (∀ u, H1 u = none → ∀ H2, Same H1 H2 → H2 u = some (.lst (lxs ++ rxs)) → AllAt BlAt H2 (lxs ++ rxs) (lead ++ rest) → Z (.ref u) H2) → rCat (.ref la) (.ref ra) H1 Z := fun {H1 Z} s h => by
      refine ⟨la, ra, lxs, rxs, rfl, rfl, s _ _ hla, s _ _ hra, Nat.le_trans (m := 20) few (by decide), fun u hu => ?_⟩
      have su := same_new (o := .lst (lxs ++ rxs)) hu
      exact h u hu _ su upd_same (AllAt.app (blMono (Tups.of (s.trans su)) hlx) (blMono (Tups.of (s.trans su)) hrx))
    have hrP : (pageOf L (lead ++ rest)).rows.length = (linesOf (lead ++ rest)).ls.length := by rw [rows_same hL (lead ++ rest) h2, (right_ok hL g2).1]
    have hrA : (pageOf L lead).rows.length = (linesOf lead).ls.length := by rw [rows_same hL lead h1, (right_ok hL g1).1]
    have hlen := M.len
    have hrl : r.rows.length ≤ 2000 := by omega
    -- due
    refine ⟨_, rfl, _, rfl, _, rfl, cat (Same.refl H) fun u hu H1 s1 hu1 hall1 => ?_⟩
    refine ⟨u, _, lead ++ rest, rfl, SqL.of hu1, hall1, R.b2, fun p2 q2 H2 lv2 hp2 s2 ht2 hq2 hlv2 => ?_⟩
    refine ⟨p2, _, _, _, rfl, rfl, SqT.of ht2, atI_nat (j := 0) rfl, L, q2, lv2, (linesOf (lead ++ rest)).ls, rfl, hq2, hlv2, hL, g2, by omega, fun p3 H3 rv hp3 s3 hrv hrw => ?_⟩
    rw [← rows_same hL (lead ++ rest) h2] at hrw
    have S3 := (s1.trans s2).trans s3
    refine ⟨_, rfl, la, lxs, lead, rfl, SqL.of (S3 _ _ hla), blMono (Tups.of S3) hlx, R.b1, fun p4 q4 H4 lv4 hp4 s4 ht4 hq4 hlv4 => ?_⟩
    refine ⟨p4, _, _, _, rfl, rfl, SqT.of ht4, atI_nat (j := 0) rfl, q4, _, rfl, .inl (SqL.of hq4), ?_⟩
    refine ⟨_, rfl, p3, rv, rfl, SqL.of (s4 _ _ hrv), fun pd hpd => ?_⟩
    have sd := same_new (o := .lst (cutV rv (some ((lv4.length : Nat) : Int)) none)) hpd
    have e4 : lv4.length = (pageOf L lead).rows.length := by rw [hlv4.len, hrA]
    have hdue : (upd H4 pd (.lst (cutV rv (some ((lv4.length : Nat) : Int)) none))) pd = some (.lst (rv.drop lv4.length)) := by
      rw [upd_same, cutV_from (by rw [hrw.len, e4]; omega)]
    have hdw := AllAt.drop lv4.length (rwMono (Tups.of (s4.trans sd)) hrw)
    have S5 := (S3.trans s4).trans sd
    generalize upd H4 pd (.lst (cutV rv (some ((lv4.length : Nat) : Int)) none)) = H5 at S5 hdue hdw ⊢
    rw [e4, M.rows] at hdw
    rw [e4] at hdue
    generalize rv.drop (pageOf L lead).rows.length = dv at hdue hdw
    have hdl := hdw.len
    clear s1 hu1 hall1 s2 ht2 hq2 hlv2 hrv hrw s3 S3 s4 ht4 hq4 hlv4 sd
    -- count, went
    refine ⟨fun v H' => v = .int r.lo ∧ Same H5 H', fun Q' hQ => ?_, ?_⟩
    · refine ⟨_, rfl, pd, _, rfl, .inl (SqL.of hdue), _, rfl, _, rfl, _, rfl, cat S5 fun u hu H6 s6 hu6 hall6 => ?_⟩
      refine ⟨L, u, _, lead ++ rest, rfl, SqL.of hu6, hall6, R.b2, hL, fun H7 s7 => ⟨_, _, rfl, ?_⟩⟩
      refine hQ _ _ ⟨congrArg V.int ?_, s6.trans s7⟩
      have := M.lo
      rw [hdl]
      by_cases hz : (pageOf L (lead ++ rest)).lo < ((r.rows.length : Nat) : Int)
      · rw [if_pos hz]; omega
      · rw [if_neg hz]; omega
    rintro v H6 ⟨rfl, s6⟩
    have S6 := S5.trans s6
    refine ⟨_, rfl, _, rfl, _, rfl, L, la, ra, lxs, rxs, lead, rest, r, c, rfl, hL, S6 _ _ hla, blMono (Tups.of S6) hlx, S6 _ _ hra, blMono (Tups.of S6) hrx, R, fun H7 s7 => ?_⟩
    refine ⟨_, _, rfl, ?_⟩
    have S7 := S6.trans s7
    have hd7 := (s6.trans s7) _ _ hdue
    have hw7 := rwMono (Tups.of (s6.trans s7)) hdw
    have pa7 := pa.same S7
    clear s6 s7 S6 S5 hdue hdw
    -- now, finish, len
    refine ⟨_, rfl, x, dx, _, rfl, pa7.ob, x, dx, rl, st, L, _, _, _, rfl, pa7, ?_⟩
    refine ⟨_, rfl, _, rfl, _, rfl, cat S7 fun u hu H8 s8 hu8 hall8 => ?_⟩
    refine ⟨L, u, _, lead ++ rest, rfl, SqL.of hu8, hall8, R.b2, hL, fun p9 H9 hp9 s9 hst9 => ?_⟩
    unfold StIs at hst9
    rw [← M.kd, ← M.h, ← M.t] at hst9
    have s79 := s8.trans s9
    obtain ⟨wd, e1, e2, e3⟩ := StAt.same (S7.trans s79) sa
    subst e3
    refine ⟨_, _, dpSt e1, dpSt (SqT.of hst9), shSt _ _ _ _, shSt _ _ _ _, _, rfl, ?_⟩
    rw [eqv_self (shSt _ _ _ _)]
    refine iteF ?_
    have pa9 := pa7.same s79
    refine ⟨_, rfl, x, dx, _, rfl, pa9.ob, rfl, x, dx, rl, st, L, _, _, _, rfl, pa9, by omega, fun pf9 H10 ys10 hpf s10 hys10 hrw10 => ?_⟩
    have s70 := s79.trans s10
    refine ⟨_, rfl, .list (r.rows.map dRw), .list (r.rows.map dRw), .lst (SqL.of hys10) (dpRw hrw10), .lst (SqL.of (s70 _ _ hd7)) (dpRw (rwMono (Tups.of s70) hw7)), shRw _, shRw _, _, rfl, ?_⟩
    rw [eqv_self (shRw _)]
    refine iteF ?_
    have pa10 := pa7.same s70
    have hd10 := s70 _ _ hd7
    have hw10 := rwMono (Tups.of s70) hw7
    refine ⟨_, rfl, x, dx, _, rfl, pa10.ob, x, dx, rl, st, L, _, _, _, rfl, pa10, _, rfl, by omega, by omega, ?_⟩
    refine ⟨_, rfl, pd, _, rfl, .inl (SqL.of hd10), rfl, _, rfl, iteQ (by rw [hdl, decide_eq_true rfl]; decide) ?_⟩
    -- pending, settled
    refine ⟨_, rfl, x, dx, _, rfl, pa10.ob, x, dx, rl, st, L, _, _, _, rfl, pa10, _, rfl, _, rfl, iteQ (by decide) ?_⟩
    refine ⟨_, rfl, x, dx, _, rfl, pa10.ob, x, dx, rl, st, L, _, _, _, rfl, pa10, _, rfl, rfl, _, rfl, iteQ (by rw [decide_eq_true rfl]; decide) ?_⟩
    refine ⟨_, rfl, x, dx, _, rfl, pa10.ob, rfl, x, dx, rl, st, L, _, _, _, rfl, pa10, hlo.1, hlo.2, by omega, fun ps H11 zs hps s11 hzs hzw => ?_⟩
    have hd11 := s11 _ _ hd10
    have hw11 := rwMono (Tups.of s11) hw10
    have ea : ((dv.length : Nat) : Int) - r.lo = ((r.rows.length - r.lo.toNat : Nat) : Int) := by rw [hdl]; omega
    refine ⟨_, rfl, .int ((r.rows.length - r.lo.toNat : Nat) : Int), fun Q'' hQ' => ⟨_, rfl, pd, _, rfl, .inl (SqL.of hd11), _, rfl, _, _, rfl, rfl, ?_⟩, ?_⟩
    · rw [← ea] at hQ'
      exact hQ'
    refine ⟨_, rfl, pd, _, rfl, SqL.of hd11, fun u hu => ?_⟩
    have sU := same_new (o := .lst (cutV dv none (some ((r.rows.length - r.lo.toNat : Nat) : Int)))) hu
    have ec := cutV_to (xs := dv) (n := r.rows.length - r.lo.toNat) (by rw [hdl]; omega)
    have zz := (rwMono (Tups.of sU) hw11).take (r.rows.length - r.lo.toNat)
    rw [← ec] at zz
    refine ⟨.list ((preS r.rows r.lo).map dRw), .list ((r.rows.take (r.rows.length - r.lo.toNat)).map dRw), .lst (SqL.of (sU _ _ hzs)) (dpRw (rwMono (Tups.of sU) hzw)), .lst (SqL.of upd_same) (dpRw zz), shRw _, shRw _, _, rfl, ?_⟩
    unfold preS
    rw [eqv_self (shRw _)]
    refine iteF ?_
    have S12 := ((S7.trans s70).trans s11).trans sU
    have pa12 := pa.same S12
    have k12 := k _ S12
    clear sU zz hzs hzw hd11 hw11 k
    generalize upd H11 u (.lst (cutV dv none (some ((r.rows.length - r.lo.toNat : Nat) : Int)))) = H12 at S12 pa12 k12 ⊢
    -- went over
    cases hw : r.w with
    | none =>
      rw [hw] at pa12
      refine ⟨_, rfl, rfl, _, rfl, iteP (decide_eq_true rfl) ?_⟩
      refine ⟨_, rfl, x, dx, _, rfl, pa12.ob, x, dx, rl, st, L, _, _, _, rfl, pa12, rfl, ?_⟩
      exact k12
    | some v =>
      rw [hw] at pa12
      refine ⟨_, rfl, rfl, _, rfl, iteQ (by cases v <;> decide) ?_⟩
      refine ⟨_, rfl, x, dx, _, rfl, pa12.ob, x, dx, rl, st, L, _, _, _, rfl, pa12, _, _, _, _, true, rfl, .ty _, .base (.bl _), kit_ty (by decide +kernel), _, rfl, iteT ?_⟩
      refine ⟨_, rfl, x, dx, _, rfl, pa12.ob, x, dx, rl, st, L, _, _, _, rfl, pa12, _, rfl, rfl, ?_⟩
      rw [decide_eq_true rfl]
      exact k12
end
end Pa
set_option maxRecDepth 100000
set_option maxHeartbeats 4000000
namespace Pa
open PySem PySem.Spec PyProof.Rows L2 SrtO
/-! ### an own error that is made where nothing is handled: its context is None -/
section
variable {X : Cx} {e : Expr} {es : List Expr} {ta : TA} {p pos : Pos}
theorem pmk_oexN {CX : CXT} {x : Str} {C fI : Addr} {k : Nat} {fd : FuncData} {ps : List Str} {sp : Sp} {ds : List Value} {dvs : List V} (T : OexC X.K C) (iC : PySem.W.findIn X.K (.ref C) "__init__" = some (some (.ref fI))) (tI : PySem.W.typeIn X.K (.ref fI) = some (.type "function"))
    (F1 : FnOk X.prog X.w X.K X.mg X.base CX k fI fd ps sp) (hr : Room (k + 1) X.A) (hb : Binds X.K fd ps ds) (hd : Vals dvs ds) (hx : Passes CX X (fun _ _ _ => False)) (hg : Gl X x) (hm : X.mg x = some (.ref C)) (ha : PA X (e :: es) ta)
    (hdb : (x == ("__debug__" : Str)) = false := by decide) (he : starEach (e :: es) X.env = (false, eval e X.env) :: starEach es X.env := by rfl) (hpl : (backTo pos (starEach es X.env)).any (·.1) = false := by rfl) :
    L2N.PMk X (.Call (.Name x p) (e :: es) [] pos) (tMkO C sp dvs ta) := by
  intro pins s σ H Q I h
  obtain ⟨nm, q, N, bs, bm, sn, sub, ab, col, dd, k0, k1, k2, k3, k5, hC, hbm⟩ := T.cls
  refine wpAny_Call_Name_kw (ld_glob I hg hm (PySem.W.callWith_K (h₀ := X.base) I.ok.mod.kin T.kC (thn (ha.run pos pins s σ H _ I h) fun us s1 ⟨vs, H1, I1, r1, hz, q1⟩ => ⟨I1.kIn, ?_⟩) he hpl) hdb)
  show wpAny _ _ (call (.ref C) us) _ _ _
  obtain ⟨hp, g, dr, tk, os⟩ := s1
  have hsz : hp.objs.size ≤ hp.objs.size + 1 := Nat.le_succ _
  have hq := q1 (hp.objs.size + 1) (I1.hok.fresh hsz)
  have kk : ∀ b o, hp.get? b = some o → ((hp.push (PySem.W.kdv_tup us)).push (PySem.HandSPX.excO C hp.objs.size)).get? b = some o := fun b o e => Heap.get?_push_of_some _ (Heap.get?_push_of_some _ e)
  have hget : ((hp.push (PySem.W.kdv_tup us)).push (PySem.HandSPX.excO C hp.objs.size)).get? (hp.objs.size + 1) = some (PySem.HandSPX.excO C hp.objs.size) := by heap_get
  have I2 : Inv X pins σ (upd H1 (hp.objs.size + 1) (exo (hp.objs.size + 1) C none)) ⟨(hp.push (PySem.W.kdv_tup us)).push (PySem.HandSPX.excO C hp.objs.size), g, dr, tk, os⟩ := I1.laid (t' := tk) kk hsz (exo_ok hget)
  have r2 : Vals (V.ref (hp.objs.size + 1) :: (vs ++ dvs)) (Value.ref (hp.objs.size + 1) :: (us ++ ds)) := .cons rfl (r1.append hd)
  have hl : (Value.ref (hp.objs.size + 1) :: us ++ ds).length = ps.length := by
    have e := r2.length
    rw [F1.len _ _ _ _ hq] at e
    exact e.symm
  have hus : us.length ≤ sizeLine := by
    rw [← Paired.length r1, sizeLine_eq]
    omega
  refine wpAny_call (PySem.HandSPX.call_own F.excBase_ValueError (fun Y => PySem.HandSPX.refsVE_contains Y bm hbm) (I1.kIn _ _ hC) (PySem.W.looks_findIn I1.kIn iC) (fun self => PySem.W.bind_fn I1.kIn self tI) hus
    (codeAny_mono (F1.run _ X.stack _ _ ⟨Value.ref (hp.objs.size + 1) :: us, []⟩ (Value.ref (hp.objs.size + 1) :: (us ++ ds)) _ _ (fun _ _ _ => False) (hr.make C us []) (I2.env0.make C us []) (hb _ (Value.ref (hp.objs.size + 1) :: us) I2.kIn hl) r2 hq) fun r s' hq' => ?_))
  cases r with
  | error er => exact hx pins σ _ _ er s' I2 hq'
  | ok fl =>
    cases fl with
    | ret u =>
      obtain ⟨v, H2, os2, bare2, un2, hok2, rv, ev, d, fs, ea, ed, hd1, q2⟩ := hq'
      subst ev
      obtain ⟨h2, g2, d2, t2, os'⟩ := s'
      obtain ⟨t0, G, J, kG, ge, hoe, na⟩ := mk_end0 (d2 := d2) (t2 := t2) I1 hsz kk un2 hok2 os2 bare2 ea ed hd1
      exact ⟨rv, _, _, _, ⟨G, g2, d2, t2, os'⟩, _, .ref C, some d, rfl, J, kG, ge, hoe, ⟨rfl, rfl, fun vs e => by cases e; rfl⟩, rfl, rfl, na, rfl, bare2, raises_own T.exC T.tyC, q2⟩
    | next => exact False.elim hq'
    | brk => exact False.elim hq'
    | cont => exact False.elim hq'
theorem pmk_errN {x fld : Str} {C : Addr} (T : ErrOk X.prog X.w X.K X.mg X.base x fld C) (hr : Room 2 X.A) (hg : Gl X x) (ha : PA X [e] ta)
    (hdb : (x == ("__debug__" : Str)) = false := by decide) (he : starEach [e] X.env = (false, eval e X.env) :: starEach [] X.env := by rfl) (hpl : (backTo pos (starEach [] X.env)).any (·.1) = false := by rfl) :
    L2N.PMk X (.Call (.Name x p) [e] [] pos) (tMkO C (spSup C fld) [] ta) := by
  obtain ⟨fI, fd, h1, h2, h3, h4⟩ := T.ok
  exact pmk_oexN T.oex h1 h2 h4 hr h3 .nil pass0 hg T.gC ha hdb he hpl
end
theorem fun_okN {P : Program} {w : World} {K : PySem.W.Frag} {mg : Str → Option Value} {base : Heap} {x qual : Str} {st : Stmt} {f : Addr} {fd : FuncData} {N ps : List Str} {k : Nat} {sp : Sp} (F : Fun K x qual st f fd) (S : FnScope N ps (defScope st)) (len : ∀ vs H Q E, sp vs H Q E → vs.length = ps.length)
    (hbody : ∀ (cdv : Value) (A : Around) (outer : List Env) (s : Shared) (H : Hp) (vs : List V) (Q : VK) (E : XK), Room k (A.deeper (envOfC qual (defScope st) s.heap.objs.size f cdv)) → sp vs H Q E →
      ∃ t, PSs (cxOf (L2N.CX P w) P w K mg base N qual (defScope st) f cdv A outer s H E) (defBody st) t ∧ t { nx := fun _ H' => Q .non H', rt := Q } (start N vs) H) : FnOk P w K mg base (L2N.CX P w) (k + 1) f fd ps sp := by
  obtain ⟨oc, od, kV, doc, pm, an, cdv, ct, osl, rfl, lk, hcd⟩ := F.ex
  exact fn_of lk hcd S len fun A outer s H vs Q E hr hsp => hbody cdv A outer s H vs Q E hr hsp
structure CallOkN (P : Program) (w : World) (K : PySem.W.Frag) (mg : Str → Option Value) (base : Heap) (k : Nat) (x : Str) (ps : List Str) (sp : Sp) : Prop where
  ok : ∃ (f : Addr) (fd : FuncData), mg x = some (.ref f) ∧ PySem.W.keepIn K (.ref f) = true ∧ Binds K fd ps [] ∧ FnOk P w K mg base (L2N.CX P w) k f fd ps sp
theorem pe_ccN {X : Cx} {W : WX} {k : Nat} {ps : List Str} {sp : Sp} {x : Str} {p pos : Pos} {e : Expr} {es : List Expr} {t : TA} (M : CallOkN X.prog X.w X.K X.mg X.base k x ps sp) (hr : Room k X.A) (hg : Gl X x) (tk : L2N.Takes X W) (ha : PA X (e :: es) t)
    (hdb : (x == ("__debug__" : Str)) = false := by decide) (he : starEach (e :: es) X.env = (false, eval e X.env) :: starEach es X.env := by rfl) (hpl : (backTo pos (starEach es X.env)).any (·.1) = false := by rfl) :
    PE X (.Call (.Name x p) (e :: es) [] pos) (tCallS sp (fun σ => WE W σ) t) := by
  obtain ⟨f, fd, h1, h2, h3, h4⟩ := M.ok
  exact pe_callS h4 hr hg h1 h2 h3 (fun σ => L2N.passAt tk σ) ha hdb he hpl
structure ResN (P : Program) (w : World) (K : PySem.W.Frag) (mg : Str → Option Value) (base : Heap) (C CS : Addr) : Prop where
  ok : ∃ (mc : Value) (p g : Addr) (fd : FuncData), ClX.CRead K C mc ∧ SMet K C mc "resumed" p g ∧ Binds K fd ["length", "standing"] [] ∧ FnOk P w K mg base (L2N.CX P w) 4 g fd ["length", "standing"] (spResX K C CS)
theorem pe_resN {X : Cx} {C CS : Addr} {E : XK} {o e : Expr} {es : List Expr} {ta : TE} {t : TA} {apos pos : Pos} {pl : Sem Bool} (he : PE X o ta) (M : ResN X.prog X.w X.K X.mg X.base C CS) (hr : Room 4 X.A) (hx : Passes (L2N.CX X.prog X.w) X E) (ha : PA X (e :: es) t)
    (hst : starEach (e :: es) X.env = (false, eval e X.env) :: starEach es X.env := by rfl) (hpl : (backTo pos (starEach es X.env)).any (·.1) = false := by rfl)
    (ht : eval (.Call (.Attribute o "resumed" apos) (e :: es) [] pos) X.env = (do
      let ov ← eval o X.env
      standAt apos.atName
      let (f, first) ← holding [ov] (getMethod ov "resumed" pl)
      callWith pos f first (backTo pos (starEach (e :: es) X.env)) (backToKw pos (keywordEach [] X.env))) := by rfl) :
    PE X (.Call (.Attribute o "resumed" apos) (e :: es) [] pos) (tSMeth C (spResX X.K C CS) E ta t) := by
  obtain ⟨mc, p, g, fd, h1, h2, h3, h4⟩ := M.ok
  exact pe_sm he h1 h2 h4 hr h3 hx ha hst hpl ht
theorem passN0 {X : Cx} : Passes (L2N.CX X.prog X.w) X E0 := fun _ _ _ _ _ _ _ ⟨_, _, _, _, _, _, _, _, _, _, _, _, h⟩ => h.elim
section
variable {P : Program} {w : World} {K : PySem.W.Frag} {mg : Str → Option Value} {base : Heap} {tp C CS : Addr}
theorem ok_checkedN {f : Addr} {fd : FuncData} (F : Fun K "checked_standing" "checked_standing" schecked_standing f fd) (T : Txt K mg tp C) (T2 : Txt2 K mg) (TE : ErrOk P w K mg base "BadStanding" "standing" CS)
    (C_is_integer : CallOk P w K mg base 1 "is_integer" ["value"] (spIsInt K)) (C_standings : CallOk P w K mg base 1 "standings" ["length"] (spStandings K)) : FnOk P w K mg base (L2N.CX P w) 3 f fd ["length", "standing"] (spChecked K CS) := by
  refine fun_okN F scchecked_standing (fun vs H Q E h => ?_) (fun cdv A outer s H vs Q E hr h => ?_)
  · obtain ⟨L, v, d, rfl, _⟩ := h
    rfl
  · obtain ⟨L, v, d, rfl, hL2, hL9, hd, hsd, hlen, k1, k2⟩ := h
    have h65 : (A.deeper (envOfC "checked_standing" (defScope schecked_standing) s.heap.objs.size f cdv)).units + 65 < cLine := by have := hr.un; omega
    refine ⟨_, (pss_cons (ps_if (PW.pt (pw_or (pt_not (pt_val (pe_callB call_isi (by rfl) T.b_isinstance (by decide +kernel) (pa_cons (pv 1) (pa_cons (pe_bltn (v := .ty "tuple") (by rfl) T.b_tuple (by decide +kernel) rfl) pa_nil))))) (pw_or1 (pt_not (pt_val (pe_callB (cr_all rfl) (by rfl) T.b_all (by decide +kernel) (pa_cons (pe_lc (own := [("part", 2)]) (g := gName 2) (tt := tYes) rfl scchecked_standing.nd (pi_tup (pv 1)) (blkOk_by (N := ["length", "standing", "part"]) (sc := defScope schecked_standing) (by decide +kernel)) (fun _ _ _ _ _ => (pg_name (i := 2) scchecked_standing.nd rfl (.inl rfl))) (fun _ _ _ _ _ => pts_nil) (fun _ _ _ _ _ => (pe_or (pe_callB (r := rIsi K) (id := "isinstance") call_isi (by rfl) T.b_isinstance (by decide +kernel) (pa_cons (pv 2) (pa_cons (pe_bltn (v := .ty "str") (by rfl) T2.b_str (by decide +kernel) rfl) pa_nil))) (pe_one (pe_cc C_is_integer (hr.mono (by decide)) (by rfl) (pa_cons (pv 2) pa_nil)))))) pa_nil)))))))
        (pss_one (L2N.ps_raise rfl (L2N.takes_of rfl rfl rfl rfl) (pmk_errN TE (hr.mono (by decide)) (by rfl) (pa_cons (pv 1) pa_nil))))
        pss_nil)
      (pss_cons (ps_if (pt_cmpR (op_notInD h65) (pv 1) (pe_cc C_standings (hr.mono (by decide)) (by rfl) (pa_cons (pv 0) pa_nil)) (by rfl))
        (pss_one (L2N.ps_raise rfl (L2N.takes_of rfl rfl rfl rfl) (pmk_errN TE (hr.mono (by decide)) (by rfl) (pa_cons (pv 1) pa_nil))))
        pss_nil)
      (pss_one (ps_ret (pv 1))))), ?_⟩
    have hn := dp_noD hd
    have rz : ∀ H1, Same H H1 → ¬ okD L d → ∀ dx, H1 dx = none → E (.ref CS) (some dx) (upd H1 dx (.xd [("standing", v)])) := fun H1 s1 hno dx hdx => k2 hno _ dx (s1.trans (same_new hdx)) (s1.free hdx) upd_same
    refine ⟨_, rfl, _, _, _, _, _, rfl, .ty _, dp_ty hd, kit_d (.inl rfl) hn, _, rfl, ?_⟩
    cases ht : isB "tuple" d with
    | false =>
      have hno : ¬ okD L d := fun h => by
        obtain ⟨ds, e, _⟩ := ok_parts h
        rw [e] at ht
        cases ht
      refine iteT (iteT ?_)
      exact err_read (fun R r => ⟨_, rfl, r⟩) (rz H (Same.refl H) hno)
    | true =>
      refine iteF ?_
      obtain ⟨a, xs, ds, rfl, rfl, hxs, hds⟩ : ∃ a xs ds, v = V.ref a ∧ d = .tuple ds ∧ SqT K H a xs ∧ DpAll K H xs ds := by
        cases hd with
        | tup h1 h2 => exact ⟨_, _, _, rfl, rfl, h1, h2⟩
        | _ => cases ht
      have hl := hlen ds rfl
      refine ⟨_, rfl, a, rfl, ⟨_, hxs⟩, fun D hD => ?_⟩
      refine lc_tup (K := K) (a := a) (xs := xs) (fun i H3 => Same H H3 ∧ H3 D = some (.lst (((ds.map isPart).take i).map V.bl))) ⟨same_new hD, upd_same⟩ (fun i H3 _ q => seqT_same q.1 hxs) ?_ ?_
      · rintro i x H3 hi ⟨s3, h3⟩
        obtain ⟨e, he, hde⟩ := dpAll_at hds hi
        have hde3 := dp_same s3 e x hde
        have hil : i < ds.length := (List.getElem?_eq_some_iff.mp he).1
        refine ⟨rfl, ?_⟩
        have fin : ∀ b, b = isPart e → ∃ acc, H3 D = some (.lst acc) ∧ acc.length < sizeLine ∧ (Same H (upd H3 D (.lst (acc ++ [V.bl b]))) ∧ (upd H3 D (.lst (acc ++ [V.bl b]))) D = some (.lst (((ds.map isPart).take (i + 1)).map V.bl))) := fun b hb => by
          refine ⟨_, h3, ?_, fun q o e => ?_, ?_⟩
          · rw [List.length_map, List.length_take, List.length_map]
            exact Nat.lt_of_le_of_lt (m := 100) (by omega) (by decide)
          · rw [upd_ne (fun r => by rw [r, hD] at e; cases e)]
            exact s3 _ _ e
          · rw [upd_same, List.take_add_one, List.getElem?_map, he, hb, List.map_append]
            rfl
        refine ⟨_, rfl, _, _, _, _, _, rfl, .ty _, dp_ty hde3, kit_d (.inr (.inl rfl)) (dp_noD hde3), _, rfl, ?_⟩
        cases hs : isB "str" e with
        | true => exact iteT (fin true (by rw [← isPart_eq, hs]; rfl))
        | false => exact iteF ⟨_, rfl, _, _, rfl, hde3, fin (isInt e) (by rw [← isPart_eq, hs]; rfl)⟩
      · rintro H3 ⟨s3, h3⟩
        have hx : xs.length = ds.length := dpAll_len hds
        rw [hx, List.take_of_length_le (by rw [List.length_map]; exact Nat.le_refl _)] at h3
        refine ⟨D, _, rfl, SqL.of h3, _, rfl, ?_⟩
        cases hp : (ds.map isPart).all id with
        | false =>
          have hno : ¬ okD L (.tuple ds) := fun h => by
            obtain ⟨ds', e, hp'⟩ := ok_parts h
            cases e
            rw [List.all_map] at hp
            rw [show ds.all isPart = ds.all (id ∘ isPart) from rfl] at hp'
            rw [hp] at hp'
            cases hp'
          refine iteT ?_
          exact err_read (fun R r => ⟨_, rfl, r⟩) (rz H3 s3 hno)
        | true =>
          have hp2 : ds.all isPart = true := by rw [List.all_map] at hp; exact hp
          refine iteF ?_
          refine ⟨_, rfl, _, rfl, L, rfl, hL2, hL9, fun p H4 ys ks hp4 s4 hys hall hsrt hperm => ?_⟩
          have s5 := s3.trans s4
          refine ⟨.tuple ds, ks.map zD, dp_same s5 _ _ hd, .lst (SqL.of hys) (stdDp hall), hsd, shZ ks, ?_⟩
          have ha := ok_any (L := L) (by omega) hperm hp2
          cases hb : ((ks.map zD).any fun z => PyData.eqv z (.tuple ds)) with
          | true =>
            refine ⟨_, rfl, iteF ⟨_, rfl, k1 (ha.mp hb) _ s5⟩⟩
          | false =>
            have hno : ¬ okD L (.tuple ds) := fun h => by
              rw [ha.mpr h] at hb
              cases hb
            refine ⟨_, rfl, iteT ?_⟩
            exact err_read (fun R r => ⟨_, rfl, r⟩) (rz H4 s5 hno)
theorem ok_resXN {f : Addr} {fd : FuncData} (F : Fun K "resumed" "Page.resumed" sPage_resumed f fd) (T : Txt K mg tp C) (C_checked : CallOkN P w K mg base 3 "checked_standing" ["length", "standing"] (spChecked K CS)) (M_Page : MakeOk P w K mg base C 1 "Page" ["self", "length"] (spInit C tp)) :
    FnOk P w K mg base (L2N.CX P w) 4 f fd ["length", "standing"] (spResX K C CS) := by
  refine fun_okN F scPage_resumed (fun vs H Q E h => ?_) (fun cdv A outer s H vs Q E hr h => ?_)
  · obtain ⟨L, v, d, rfl, _⟩ := h
    rfl
  · obtain ⟨L, v, d, rfl, hL2, hL9, hd, hsd, hln, k, kE⟩ := h
    refine ⟨_, (pss_cons (ps_set (i := 2) scPage_resumed.nd rfl (.inl rfl) (pe_mk M_Page (hr.mono (by decide)) (by rfl) (pa_cons (pv 0) pa_nil)))
      (pss_cons (ps_fld (pv 2) (pe_ccN C_checked hr (by rfl) (L2N.takes_of rfl rfl rfl rfl) (pa_cons (pv 0) (pa_cons (pv 1) pa_nil))) rfl)
      (pss_cons (ps_fld (pv 2) (pe_ifExp (pt_cmpR op_gt (pe_ix ix_tup (pv 1) pe_int (fun _ _ => rfl)) pe_int (nomark _)) pe_non pe_bl) rfl)
      (pss_one (ps_ret (pv 2)))))), ?_⟩
    refine ⟨_, rfl, fun x dx nx ndx ne => ⟨x, dx, L, rfl, upd_same, fun H1 rl hrl pa1 ka1 => ⟨rfl, ?_⟩⟩⟩
    obtain ⟨s1, hrl0⟩ := mk_facts nx ndx ka1 hrl
    refine ⟨_, rfl, _, rfl, L, v, d, rfl, hL2, hL9, dp_same s1 _ _ hd, hsd, hln, fun hok H2 s2 => ?_, fun no H2 e s2 he h2 => kE no H2 e (s1.trans s2) (s1.free he) h2⟩
    obtain ⟨z, hz, rfl⟩ := hok
    obtain ⟨st, rfl, hst⟩ := std_at hz hd
    have pa2 := pa1.same s2
    have hst2 := (hst.same s1).same s2
    obtain ⟨p3, k3⟩ := pa2.put st 0 (some false)
    have hst3 : StAt K _ st (zKd z) z.2.1 z.2.2 := StAt.keep k3 pa2 hst2
    refine ⟨_, rfl, x, C, dx, _, rfl, pa2.ob, T.cl, T.nS, (by show 5 < 1000; decide), ?_⟩
    rw [put_standing]
    obtain ⟨wd, hsq, _, _⟩ := id hst3
    obtain ⟨p4, k4⟩ := p3.put st 0 (wZ z)
    have hst4 : StAt K _ st (zKd z) z.2.1 z.2.2 := StAt.keep k4 p3 hst3
    have sF : Same H (upd (upd H2 x (.ins C dx (pf L st rl 0 (some false)))) x (.ins C dx (pf L st rl 0 (wZ z)))) := fun q o e => k4 q o (fun r => by rw [r, nx] at e; cases e) (fun r => by rw [r, hrl0] at e; cases e) (k3 q o (fun r => by rw [r, nx] at e; cases e) (fun r => by rw [r, hrl0] at e; cases e) (s2 _ _ (s1 _ _ e)))
    have k := k z hz rfl
    refine ⟨_, rfl, st, _, _, _, rfl, rfl, hsq, atI_nat (j := 2) rfl, _, _, rfl, rfl, _, rfl, ite2 (fun ht => ?_) (fun ht => ?_)⟩
    · have ht := of_decide_eq_true ht
      have e : wZ z = none := if_pos ht
      rw [e] at p4 sF hst4
      refine ⟨_, rfl, x, C, dx, _, rfl, p3.ob, T.cl, T.nW, (by show 5 < 1000; decide), ?_⟩
      rw [show V.non = wv none from rfl, put_went]
      exact ⟨_, rfl, k x dx rl st _ nx hrl0 sF (by rw [e]; exact p4) hst4⟩
    · have ht : ¬ z.2.2 > 0 := fun q => ht (decide_eq_true q)
      have e : wZ z = some false := if_neg ht
      rw [e] at p4 sF hst4
      refine ⟨_, rfl, x, C, dx, _, rfl, p3.ob, T.cl, T.nW, (by show 5 < 1000; decide), ?_⟩
      rw [show V.bl false = wv (some false) from rfl, put_went]
      exact ⟨_, rfl, k x dx rl st _ nx hrl0 sF (by rw [e]; exact p4) hst4⟩
end
end Pa
set_option maxRecDepth 100000
set_option maxHeartbeats 4000000
namespace Pa
open PySem PySem.Spec PyProof.Rows L2 L2H HotX HotY SrtO
section
variable {X : Cx} {k : Nat} {C CS : Addr} {o e : Expr} {es : List Expr} {ta : TE} {t : TA} {apos pos : Pos}
/-- Page.resumed(..) that may raise, what it leaves told by the slots -/
def tSMethS (K : PySem.W.Frag) (C CS : Addr) (E : L2.St → XK) (ta : TE) (t : TA) : TE := fun σ H Q => ta σ H fun x H1 => x = .ref C ∧ t σ H1 fun vs H2 => spResX K C CS vs H2 Q (E σ)
theorem pe_resS {E : L2.St → XK} {pl : Sem Bool} (he : PE X o ta) (M : ResN X.prog X.w X.K X.mg X.base C CS) (hr : Room 4 X.A) (hx : ∀ σ, PassesAt (L2N.CX X.prog X.w) X σ (E σ)) (ha : PA X (e :: es) t)
    (hst : starEach (e :: es) X.env = (false, eval e X.env) :: starEach es X.env := by rfl) (hpl : (backTo pos (starEach es X.env)).any (·.1) = false := by rfl)
    (ht : eval (.Call (.Attribute o "resumed" apos) (e :: es) [] pos) X.env = (do
      let ov ← eval o X.env
      standAt apos.atName
      let (f, first) ← holding [ov] (getMethod ov "resumed" pl)
      callWith pos f first (backTo pos (starEach (e :: es) X.env)) (backToKw pos (keywordEach [] X.env))) := by rfl) :
    PE X (.Call (.Attribute o "resumed" apos) (e :: es) [] pos) (tSMethS X.K C CS E ta t) := by
  obtain ⟨mc, p, g, fd, r, c, hb, F⟩ := M.ok
  refine ⟨fun pins s σ H Q I h => PySem.W.methodCall_KW (pl := pl) (thn (he.run pins s σ H _ I h) fun u s1 ⟨x, H1, I1, rx, ex, q⟩ => ?_) ht⟩
  subst ex
  obtain rfl : u = Value.ref C := rx
  obtain ⟨rest, hp⟩ := c.rc
  refine PySem.W.method_cls I1.kIn r.ga (PySem.W.cls_bind I1.kIn r.rd c.at_ (wpAny_call (PySem.W.sm_get (s := { s1 with toks := s1.toks + 1 }) I1.kIn hp (PySem.W.handed_on rfl ?_))))
  have I2 : Inv X pins σ H1 { s1 with toks := s1.toks + 1 } := I1.tok _
  refine PySem.W.callWith_K (first := []) (h₀ := X.base) I2.ok.mod.kin c.kp (thn (ha.run pos pins _ σ H1 _ I2 q) fun us s3 ⟨vs, H2, I3, rv, q2⟩ => ⟨I3.kIn, ?_⟩) hst hpl
  exact L2.run_fnSD (us := us) (vs := vs) F hr hb .nil (hx σ) I3 rv (by rw [List.append_nil]; exact q2)
theorem op_eqDS {a : Addr} {pn : List (Addr × Obj)} (hu : X.A.units + 64 < cLine) : OpR (X.suite a pn) (compareOp .Eq) (rEqD X.K) := op_eqD (X := X.suite a pn) hu
theorem takesN0 : L2N.Takes X (fun _ _ _ _ => False) := fun _ _ ⟨_, _, _, _, _, _, _, _, _, _, _, _, _, _, _, _, z⟩ => z.elim
end
theorem beh_sim {L : Int} (hL : 2 ≤ L) {z : Z3} (hz : StdZ L z) (bs : List Bl) (h : ∀ b ∈ bs, 0 ≤ b.s) : ∃ A c d q, SimB A c d q (pageR L (res0 (zKd z) z.2.1 z.2.2) bs) ∧ c ≤ A.length := by
  have hL0 : (0 : Int) < L := by omega
  obtain ⟨A, e, hlen, hmem⟩ := lead_page hz
  obtain ⟨n1, n2, n3⟩ := std_n hz
  have hs : ∀ b ∈ leadZ z, 0 ≤ b.s := fun b hb => by rw [(hmem b hb).2]; decide
  have hA : A.length = (linesOf (leadZ z)).ls.length := by
    have r := rows_same hL0 (leadZ z) hs
    rw [e] at r
    dsimp only at r
    rw [r, (right_ok hL0 (good_lines (leadZ z) hs).1).1]
  have hl : (linesOf (leadZ z)).ls.length = z.2.1.toNat := by rw [lines_sum, sum_one fun b hb => (hmem b hb).1, hlen]
  have et : ((z.2.2.toNat : Nat) : Int) = z.2.2 := by omega
  have S0 : SimB A z.2.2.toNat (z.2.1 - (z.2.2.toNat : Nat)) (pageOf L (leadZ z)) (res0 (zKd z) z.2.1 z.2.2) := by
    rw [e]
    have q := sim0 (kd := zKd z) (h := z.2.1) (t := z.2.2.toNat) (A := A)
    rw [et] at q ⊢
    exact q
  have hc : z.2.2.toNat ≤ A.length := by rw [hA, hl]; omega
  exact ⟨A, _, _, _, sim_page (L := L) hc S0 bs h, hc⟩
theorem blockR_len (L : Int) (q : RB) (b : Bl) : (blockR L q b).rows.length = q.rows.length + b.c := by
  have hd : (dueR q b.g).rows = q.rows := by unfold dueR; split <;> rfl
  unfold blockR
  dsimp only
  split
  · rename_i h; rw [hd, h]; rfl
  · have e : ∀ p k, (endR L p k).rows = p.rows := fun p k => by
      unfold endR
      split
      · rfl
      · split <;> rfl
    rw [e, runR_len, hd]
theorem pageR_len (L : Int) (r0 : RB) (bs : List Bl) : (pageR L r0 bs).rows.length = r0.rows.length + (bs.map (·.c)).sum := by
  unfold pageR
  induction bs generalizing r0 with
  | nil => simp
  | cons b bs ih =>
    rw [List.foldl_cons, ih, blockR_len, List.map_cons, List.sum_cons]
    omega
theorem sum_le : ∀ {bs : List Bl}, (∀ b ∈ bs, b.c ≤ 100) → (bs.map (·.c)).sum ≤ bs.length * 100
  | [], _ => Nat.le_refl _
  | b :: bs, h => by
    have h1 := h b List.mem_cons_self
    have h2 := sum_le fun x hx => h x (List.mem_cons_of_mem _ hx)
    rw [List.map_cons, List.sum_cons, List.length_cons]
    omega
theorem beh_len (L : Int) (z : Z3) {bs : List Bl} (B : Book bs) (n : Nat) : (pageR L (res0 (zKd z) z.2.1 z.2.2) (bs.take n)).rows.length ≤ 2000 := by
  rw [pageR_len]
  have h1 := sum_le (bs := bs.take n) fun b hb => (B.small b (List.mem_of_mem_take hb)).1
  have h2 := B.few
  have h3 : (bs.take n).length ≤ bs.length := by rw [List.length_take]; omega
  show 0 + _ ≤ _
  omega
theorem zD_inj {L : Int} {z z1 : Z3} (hz : StdZ L z) (hz1 : StdZ L z1) (e : zD z = zD z1) : z1 = z := by
  unfold zD at e
  simp only [PyData.tuple.injEq, List.cons.injEq, PyData.str.injEq, PyData.int.injEq, and_true] at e
  obtain ⟨a, c, d⟩ := z
  obtain ⟨a1, c1, d1⟩ := z1
  dsimp only at e
  obtain ⟨e1, e2, e3⟩ := e
  subst e2 e3
  have ea : a1 = a := by
    unfold StdZ at hz hz1
    dsimp only at hz hz1 e1
    have f : ∀ x y : Int, (x = 0 ∨ x = 1 ∨ x = 2) → (y = 0 ∨ y = 1 ∨ y = 2) → wordN x = wordN y → x = y := fun x y hx hy e => by
      rcases hx with rfl | rfl | rfl <;> rcases hy with rfl | rfl | rfl <;> first | rfl | (exfalso; revert e; decide +kernel)
    refine f _ _ ?_ ?_ e1.symm
    · rcases hz1 with h | h | h
      · exact .inl h.1
      · exact .inr (.inl h.1)
      · simp only [Prod.mk.injEq] at h; exact .inr (.inr h.1)
    · rcases hz with h | h | h
      · exact .inl h.1
      · exact .inr (.inl h.1)
      · simp only [Prod.mk.injEq] at h; exact .inr (.inr h.1)
  rw [ea]
structure BadS (K : PySem.W.Frag) (mg : Str → Option Value) (CS : Addr) : Prop where
  xf : XfC K CS
  no : PySem.W.findIn K (.ref CS) "standing" = some none
  gS : mg "BadStanding" = some (.ref CS)
  ex : PySem.W.exmOne K (.ref CS) (.ref CS) = some true
theorem PA'.kept {C : Addr} {L' : Int} {x rl y dy ry sy : Addr} {lo' : Int} {ww' : Option Bool} {rows' : List Int} {H H' : Hp} (k : Keep x rl H H') (n1 : y ≠ x) (n2 : y ≠ rl) (n3 : ry ≠ x) (n4 : ry ≠ rl) (h : PA' C L' y dy ry sy lo' ww' rows' H) : PA' C L' y dy ry sy lo' ww' rows' H' :=
  ⟨k _ _ n1 n2 h.ob, k _ _ n3 n4 h.rs⟩
section
variable {P : Program} {w : World} {K : PySem.W.Frag} {mg : Str → Option Value} {base : Heap} {C CS tp : Addr}
/-! ### _law_right -/
def spRightL (K : PySem.W.Frag) : Sp := fun vs H Q _ => ∃ (L : Int) (z : Z3) (sa a : Addr) (v : V) (d : PyData) (xs : List V) (bs : List Bl), vs = [.int L, .ref sa, .ref a, v] ∧ 2 ≤ L ∧ L ≤ 9 ∧ StdZ L z ∧ SqT K H sa [.str (wordN z.1), .int z.2.1, .int z.2.2] ∧ H a = some (.lst xs) ∧ AllAt BlAt H xs bs ∧ Book bs ∧ bs.length ≤ 10 ∧
  Dp K H v d ∧ OddD L d ∧ ∀ H', Same H H' → Q (.bl true) H'
abbrev sL_right : Stmt := topS 31
theorem scL_right : FnScope ["_law_length_here", "_law_standing_here", "_law_blocks", "_law_odd_here", "_law_lead_here", "_law_page", "_law_other", "_law_k", "_law_block_here", "_law_count", "_law_space", "_law_kept", "_law_is_new", "e"] ["_law_length_here", "_law_standing_here", "_law_blocks", "_law_odd_here"] (defScope sL_right) := ⟨rfl, rfl, rfl, by decide +kernel, rfl, by decide +kernel, by decide +kernel⟩
theorem ok_lright {f : Addr} {fd : FuncData} (F : Fun K "_law_right" "_law_right" sL_right f fd) (T : Txt K mg tp C) (B : BadS K mg CS) (C__law_lead : CallOk P w K mg base 1 "_law_lead" ["_law_standing_here"] (spLead K))
    (C__law_shown : CallOk P w K mg base 6 "_law_shown" ["_law_page", "_law_length_here", "_law_lead_here", "_law_rest"] (spShownL K C)) (Y__law_shown : CallOkY P w K mg base 6 "_law_shown" ["_law_page", "_law_length_here", "_law_lead_here", "_law_rest"] (spShownL K C))
    (M_resumed : ResN P w K mg base C CS) (M_block : Blk3Ok P w K mg base C) : FnOk P w K mg base CX0 7 f fd ["_law_length_here", "_law_standing_here", "_law_blocks", "_law_odd_here"] (spRightL K) := by
  refine F.ok scL_right (fun vs H Q E h => ?_) (fun cdv A outer s H vs Q E hr h => ?_)
  · obtain ⟨L, z, sa, a, v, d, xs, bs, rfl, _⟩ := h
    rfl
  · obtain ⟨L, z, sa, a, v, d, xs, bs, rfl, hL2, hL9, hz, hsa, ha, hx, B0, hb10, hd, ho, k⟩ := h
    refine ⟨_, (pss_cons (ps_set (i := 4) scL_right.nd rfl (.inl rfl) (pe_cc C__law_lead (hr.mono (by decide)) (by rfl) (pa_cons (pv 1) pa_nil)))
      (pss_cons (ps_par (i := 5) (j := 6) (by rfl) scL_right.nd rfl rfl (by decide) rfl rfl (pa_cons (pe_resN (E := E0) (pe_glob (v := .ref C) (by rfl) T.g_Page rfl) M_resumed (hr.mono (by decide)) passN0 (pa_cons (pv 0) (pa_cons (pv 1) pa_nil))) (pa_cons (pe_resN (E := E0) (pe_glob (v := .ref C) (by rfl) T.g_Page rfl) M_resumed (hr.mono (by decide)) passN0 (pa_cons (pv 0) (pa_cons (pv 1) pa_nil))) pa_nil)) (by rfl))
      (pss_cons (ps_if (pt_not (pt_val (pe_cc C__law_shown (hr.mono (by decide)) (by rfl) (pa_cons (pv 5) (pa_cons (pv 0) (pa_cons (pv 4) (pa_cons (pe_lst pa_nil) pa_nil)))))))
        (pss_one (ps_ret pe_bl))
        pss_nil)
      (pss_cons (ps_for PassesOwn.never rfl (pi_enum (by rfl) T.b_enumerate (pa_cons (pv 2) pa_nil)) (pg_tup rfl (pgs_cons (pg_name (i := 7) scL_right.nd rfl (.inl rfl)) (pgs_cons (pg_name (i := 8) scL_right.nd rfl (.inl rfl)) pgs_nil)))
        (pss_cons (ps_asg (pv 8) (pg_tup rfl (pgs_cons (pg_name (i := 9) scL_right.nd rfl (.inl rfl)) (pgs_cons (pg_name (i := 10) scL_right.nd rfl (.inl rfl)) (pgs_cons (pg_name (i := 11) scL_right.nd rfl (.inl rfl)) (pgs_cons (pg_name (i := 12) scL_right.nd rfl (.inl rfl)) pgs_nil))))))
        (pss_cons (ps_if (pt_cmpR op_notN (pe_blk3 (pv 5) T.cl M_block (hr.mono (by decide)) (pa_cons (pv 9) pa_nil) (pk_cons (pv 10) (pk_cons (pv 11) (pk_cons (pv 12) pk_nil)))) pe_non (nomark _))
          (pss_one (ps_ret pe_bl))
          pss_nil)
        (pss_one (ps_if (pt_not (pt_val (pe_cc C__law_shown (hr.mono (by decide)) (by rfl) (pa_cons (pv 5) (pa_cons (pv 0) (pa_cons (pv 4) (pa_cons (pe_slice sl_list (pv 2) po_none (po_some (pe_pure (pe_op op_add (pv 7) pe_int)))) pa_nil)))))))
          (pss_one (ps_ret pe_bl))
          pss_nil)))))
      (pss_cons (L2N.ps_try_as (X := (cxOf CX0 P w K mg base ["_law_length_here", "_law_standing_here", "_law_blocks", "_law_odd_here", "_law_lead_here", "_law_page", "_law_other", "_law_k", "_law_block_here", "_law_count", "_law_space", "_law_kept", "_law_is_new", "e"] "_law_right" (defScope sL_right) f cdv A outer s H E).nox) (c := .ref CS) (n := "e") (i := 13)
        (tb := fun W => tDrop (tSMethS K C CS (fun σ => WE W σ) (tC (.ref C)) (tCons (tVar 0) (tCons (tVar 3) tNil))))
        rfl rfl scL_right.nd rfl rfl ⟨(by rfl), (by decide), .inl B.gS⟩ takesN0
        (fun W pn xe tk _ => pss_one (ps_expr (pe_resS (E := fun σ => WE W σ) (pe_glob (v := .ref C) (by rfl) T.g_Page rfl) M_resumed (hr.mono (by decide)) (fun σ => L2N.passAt tk σ) (pa_cons (pv 0) (pa_cons (pv 3) pa_nil)))))
        (fun ax oe cls dx pn hz hf => pss_one (ps_ret (pe_and (pe_cmpR (op_eqDS hr.units) (pe_xf B.xf B.no hz.zc hf (pv 13)) (pv 3) (nomark _))
          (pe_one (pe_ccY (by obtain ⟨vs, hvs⟩ := hf; exact ⟨(ax, oe), ⟨rfl, vs, hvs, hz.2.2 vs hvs⟩, List.mem_cons_self⟩) Y__law_shown (RoomH.mono (j := 6) (k := 6) ⟨hr.dp, hr.un⟩ (by decide)) (by rfl) (pa_cons (pv 6) (pa_cons (pv 0) (pa_cons (pv 4) (pa_cons (pe_lst pa_nil) pa_nil))))))))))
      (pss_one (ps_ret pe_bl))))))), ?_⟩
    have hL0 : 0 < L := by omega
    obtain ⟨_, _, hll, hlm⟩ := lead_page hz
    have hz9 : z.2.1.toNat ≤ 9 := by
      rcases std_b hz with h | h
      · omega
      · rw [h]; decide
    have Bl : Book (leadZ z) := ⟨by omega, fun b hb => by rw [(hlm b hb).1, (hlm b hb).2]; exact ⟨by decide, by decide⟩⟩
    have Ba : ∀ n, Book (leadZ z ++ bs.take n) := fun n => ⟨by rw [List.length_append, List.length_take]; omega, fun b hb => by
      rcases List.mem_append.mp hb with h | h
      · exact Bl.small b h
      · exact B0.small b (List.mem_of_mem_take h)⟩
    have hln3 : ∀ ds, zD z = .tuple ds → ds.length ≤ 100 := fun ds e => by cases e; show 3 ≤ 100; decide
    refine ⟨_, rfl, sa, L, z, rfl, hz, hL9, hsa, fun q H1 lb hq s1 hlb hall1 => ?_⟩
    have hsa1 := seqT_same s1 hsa
    -- two Pages
    refine ⟨rfl, _, rfl, _, rfl, L, .ref sa, zD z, rfl, hL2, hL9, dp_z hsa1, shZ1 z, hln3, fun z1 hz1 ez x dx rl st H2 nx nrl s2 pa2 hst2 => ?_, fun no => absurd ⟨z, hz, rfl⟩ no⟩
    cases zD_inj hz hz1 ez
    refine ⟨rfl, _, rfl, _, rfl, L, .ref sa, zD z, rfl, hL2, hL9, dp_z (seqT_same s2 hsa1), shZ1 z, hln3, fun z1 hz2 ez2 y dy ry sy H3 ny nry s3 pb3 hsy3 => ?_, fun no => absurd ⟨z, hz, rfl⟩ no⟩
    cases zD_inj hz hz2 ez2
    have pa3 := pa2.same s3
    have hst3 := StAt.same s3 hst2
    have n1 : y ≠ x := fun r => by rw [r, pa2.ob] at ny; cases ny
    have n2 : y ≠ rl := fun r => by rw [r, pa2.rs] at ny; cases ny
    have n3 : ry ≠ x := fun r => by rw [r, pa2.ob] at nry; cases nry
    have n4 : ry ≠ rl := fun r => by rw [r, pa2.rs] at nry; cases nry
    have S13 := s2.trans s3
    have sm : ∀ {H' H''}, Same H1 H' → Keep x rl H' H'' → Same H1 H'' := fun s kk o u e => kk o u (fun r => by rw [r, nx] at e; cases e) (fun r => by rw [r, nrl] at e; cases e) (s _ _ e)
    refine ⟨_, _, rfl, ?_⟩
    -- shown, nothing set
    refine ⟨_, rfl, _, rfl, _, rfl, Nat.zero_le _, fun u hu => ?_⟩
    have su := same_new (o := .lst []) hu
    have S14 := S13.trans su
    refine ⟨x, dx, rl, st, L, q, u, lb, [], leadZ z, [], pageR L (res0 (zKd z) z.2.1 z.2.2) [], z.2.2.toNat, rfl, hL0, pa3.same su, StAt.same su hst3, S14 _ _ hlb, blMono (Tups.of S14) hall1, upd_same, trivial, rsm_lead hL2 hz [] Bl (Ba 0), fun H5 s5 => ⟨_, rfl, iteQ (by decide) ?_⟩⟩
    have s35 := su.trans s5
    have pa5 := pa3.same s35
    have hst5 := StAt.same s35 hst3
    have pb5 := pb3.same s35
    have hsy5 := StAt.same s35 hsy3
    have S15 := S13.trans s35
    clear su S14 s5 s35 hu pa3 hst3 pb3 hsy3 S13 pa2 hst2
    have hxH : ∀ {H'}, Same H1 H' → H' a = some (.lst xs) := fun s => s _ _ (s1 _ _ ha)
    -- the blocks
    refine ⟨_, rfl, a, xs, rfl, SqL.of (hxH S15), for_it (walk_enum (K := K) (a := a) (xs := xs)) (fun i σ H' => ∃ (y7 y8 y9 y10 y11 y12 : Option V) (st' : Addr), σ = [some (.int L), some (.ref sa), some (.ref a), some v, some (.ref q), some (.ref x), some (.ref y), y7, y8, y9, y10, y11, y12, none] ∧ Same H1 H' ∧
        PA' C L x dx rl st' (pageR L (res0 (zKd z) z.2.1 z.2.2) (bs.take i)).lo (pageR L (res0 (zKd z) z.2.1 z.2.2) (bs.take i)).w (pageR L (res0 (zKd z) z.2.1 z.2.2) (bs.take i)).rows H' ∧ StAt K H' st' (pageR L (res0 (zKd z) z.2.1 z.2.2) (bs.take i)).kd (pageR L (res0 (zKd z) z.2.1 z.2.2) (bs.take i)).h (pageR L (res0 (zKd z) z.2.1 z.2.2) (bs.take i)).t ∧
        PA' C L y dy ry sy 0 (wZ z) [] H' ∧ StAt K H' sy (zKd z) z.2.1 z.2.2)
      ⟨none, none, none, none, none, none, st, rfl, S15, pa5, hst5, pb5, hsy5⟩ (fun i σ H' _ ⟨_, _, _, _, _, _, _, _, s, _⟩ => SqL.of (hxH s)) ?_ ?_⟩
    · rintro i x' σ H6 H7 hi ⟨y7, y8, y9, y10, y11, y12, st', rfl, S6, pa6, hst6, pb6, hsy6⟩ ⟨T', w1, w2, rfl, nT, rfl, e1, e2⟩
      cases e1
      have sT := same_new (o := .tup [.int (i : Nat), w2]) nT
      have hT : (upd H6 T' (.tup [.int (i : Nat), w2])) T' = some (.tup [.int (i : Nat), w2]) := upd_same
      have S7 := S6.trans sT
      have pa7 := pa6.same sT
      have hst7 := StAt.same sT hst6
      have pb7 := pb6.same sT
      have hsy7 := StAt.same sT hsy6
      generalize upd H6 T' (.tup [.int (i : Nat), w2]) = H7 at hT S7 pa7 hst7 pb7 hsy7 ⊢
      clear sT pa6 hst6 pb6 hsy6 S6 nT
      refine ⟨T', _, rfl, SqT.of hT, rfl, _, _, rfl, _, _, rfl, rfl, ?_⟩
      obtain ⟨b, hb, t, rfl, ht⟩ := hx.at e2
      have ht7 := S7 _ _ (s1 _ _ ht)
      have eb : bs.take (i + 1) = bs.take i ++ [b] := by rw [List.take_add_one, hb]; rfl
      have hbs := B0.small b (List.mem_of_getElem? hb)
      obtain ⟨A', c', d', q', Sb, hc1⟩ := beh_sim hL2 hz (bs.take i) fun y hy => (B0.small y (List.mem_of_mem_take hy)).2
      have hl := beh_len L z B0 i
      have hil : i < bs.length := (List.getElem?_eq_some_iff.mp hb).1
      have hR := rsm_lead hL2 hz (bs.take (i + 1)) Bl (Ba (i + 1))
      rw [show pageR L (res0 (zKd z) z.2.1 z.2.2) (bs.take (i + 1)) = blockR L (pageR L (res0 (zKd z) z.2.1 z.2.2) (bs.take i)) b by rw [eb, pageR_snoc]] at hR ⊢
      generalize pageR L (res0 (zKd z) z.2.1 z.2.2) (bs.take i) = r0 at pa7 hst7 Sb hl hR ⊢
      refine ⟨_, rfl, t, _, rfl, SqT.of ht7, rfl, _, _, rfl, _, _, rfl, _, _, rfl, _, _, rfl, rfl, ?_⟩
      refine ⟨_, rfl, x, dx, _, rfl, pa7.ob, rfl, _, rfl, _, rfl, _, rfl, _, rfl, rfl, rfl, x, dx, rl, st', L, r0, b, q', A', c', d', rfl, pa7, hst7, hL2, Sb, hc1, hbs.2, hbs.1, by omega, fun H8 st8 pa8 hst8 k8 => ?_⟩
      refine ⟨rfl, _, rfl, iteQ (by decide) ?_⟩
      have S8 := sm S7 k8
      have pb8 := PA'.kept k8 n1 n2 n3 n4 pb7
      have hsy8 := StAt.keep k8 pa7 hsy7
      have ei : (i : Int) + 1 = ((i + 1 : Nat) : Int) := by omega
      refine ⟨_, rfl, _, rfl, _, rfl, _, rfl, .int ((i + 1 : Nat) : Int), fun Q'' hQ' => ⟨_, rfl, _, _, rfl, rfl, ?_⟩, _, rfl, a, _, rfl, SqL.of (hxH S8), fun u hu => ?_⟩
      · rw [← ei] at hQ'
        exact hQ'
      have su := same_new (o := .lst (cutV xs none (some ((i + 1 : Nat) : Int)))) hu
      have ec := cutV_to (xs := xs) (n := i + 1) (by rw [hx.len]; omega)
      have S9 := S8.trans su
      have zz := (blMono (Tups.of (s1.trans S9)) hx).take (i + 1)
      rw [← ec] at zz
      refine ⟨x, dx, rl, st8, L, q, u, lb, _, leadZ z, bs.take (i + 1), blockR L r0 b, z.2.2.toNat, rfl, hL0, pa8.same su, StAt.same su hst8, S9 _ _ hlb, blMono (Tups.of S9) hall1, upd_same, zz, hR, fun H10 s10 => ⟨_, rfl, iteQ (by decide) ?_⟩⟩
      have s810 := su.trans s10
      exact ⟨_, _, _, _, _, _, st8, rfl, S8.trans s810, pa8.same s810, StAt.same s810 hst8, pb8.same s810, StAt.same s810 hsy8⟩
    · rintro σ H6 ⟨y7, y8, y9, y10, y11, y12, st', rfl, S6, pa6, hst6, pb6, hsy6⟩
      -- what is no standing
      refine ⟨rfl, _, rfl, _, rfl, L, v, d, rfl, hL2, hL9, dp_same (s1.trans S6) _ _ hd, ho.sh, ho.ln, fun z1 hz1 ez => absurd ⟨z1, hz1, ez⟩ ho.no, fun _ H7 e7 s7 he7 hx7 => ?_⟩
      refine ⟨true, B.ex, fun _ ax hax => ?_, fun z => nomatch z⟩
      have S7 := s1.trans (S6.trans s7)
      have hd7 := dp_same S7 _ _ hd
      refine ⟨_, rfl, rfl, rfl, e7, _, v, rfl, hx7, rfl, _, rfl, d, d, hd7, hd7, ho.sh, ho.sh, ?_⟩
      rw [eqv_self ho.sh]
      refine ⟨_, rfl, iteT ?_⟩
      refine ⟨_, rfl, _, rfl, _, rfl, Nat.zero_le _, fun u hu => ?_⟩
      have su := same_new (o := .lst []) hu
      have S8 := (S6.trans s7).trans su
      refine ⟨y, dy, ry, sy, L, q, u, lb, [], leadZ z, [], pageR L (res0 (zKd z) z.2.1 z.2.2) [], z.2.2.toNat, rfl, hL0, pb6.same (s7.trans su), StAt.same (s7.trans su) hsy6, S8 _ _ hlb, blMono (Tups.of S8) hall1, upd_same, trivial, rsm_lead hL2 hz [] Bl (Ba 0), fun H9 s9 => ?_⟩
      exact k H9 ((s1.trans S8).trans s9)
end
end Pa
set_option maxRecDepth 100000
set_option maxHeartbeats 4000000
namespace Pa
open PySem PySem.Spec PyProof.Rows L2 SrtO
theorem bk_tups {b : Addr} {H H1 : Hp} (hb : IsBag H b) (x : Bk b H H1) : Tups H H1 := fun t vs h => x.keep _ _ (fun r => by
  obtain ⟨_, _, _, e⟩ := hb
  rw [r, e] at h
  cases h) h
theorem law_len {L : Int} (h2 : 2 ≤ L) (h9 : L ≤ 9) : 1 ≤ (lawZ L).length ∧ (lawZ L).length ≤ 200 := by
  have h : L = 2 ∨ L = 3 ∨ L = 4 ∨ L = 5 ∨ L = 6 ∨ L = 7 ∨ L = 8 ∨ L = 9 := by omega
  rcases h with rfl | rfl | rfl | rfl | rfl | rfl | rfl | rfl <;> decide +kernel
theorem pick_z {H : Hp} {L : Int} (h2 : 2 ≤ L) (h9 : L ≤ 9) {ys : List V} {d : Int} (hall : AllAt ZAt H ys (lawZ L)) (d0 : 0 ≤ d) (d1 : d < (ys.length : Int)) : ∃ t z, atI ys d = some (.ref t) ∧ StdZ L z ∧ H t = some (.tup [.str (wordN z.1), .int z.2.1, .int z.2.2]) := by
  obtain ⟨n, rfl⟩ : ∃ n : Nat, d = (n : Int) := ⟨d.toNat, by omega⟩
  have hn : n < ys.length := by omega
  have hx : ys[n]? = some ys[n] := List.getElem?_eq_getElem hn
  obtain ⟨z, hz, t, et, ht⟩ := hall.at hx
  exact ⟨t, z, (atI_nat hx).trans (by rw [et]), law_word h2 h9 (List.mem_of_getElem? hz), ht⟩
theorem one_to {ns : Nat} (h : ns ≤ 63) : ∃ J : Nat, J ≤ 64 ∧ (if (if (6 : Int) < (ns : Int) then 6 else (ns : Int)) > 1 then (if (6 : Int) < (ns : Int) then 6 else (ns : Int)) else 1) = (J : Int) := by
  by_cases h1 : (6 : Int) < (ns : Int)
  · rw [if_pos h1, if_pos (by decide)]
    exact ⟨6, by omega, rfl⟩
  · rw [if_neg h1]
    by_cases h2 : (ns : Int) > 1
    · rw [if_pos h2]
      exact ⟨ns, by omega, rfl⟩
    · rw [if_neg h2]
      exact ⟨1, by omega, rfl⟩
section
variable {P : Program} {w : World} {K : PySem.W.Frag} {mg : Str → Option Value} {base : Heap} {C CS tp : Addr}
def spLBlock20 : Sp := fun vs H Q _ => ∃ (b : Addr), vs = [.ref b, .int 20] ∧ IsBag H b ∧ ∀ (p : Addr) (H' : Hp) (c : Nat) (s : Int) (k g : Bool), H p = none → Bk b H H' → H' p = some (.tup [.int (c : Int), .int s, .bl k, .bl g]) → c ≤ 30 → 0 ≤ s → Q (.ref p) H'
theorem ok_lblock20 {f : Addr} {fd : FuncData} (F : Fun K "_law_block" "_law_block" sL_block f fd) (C__law_draw : CallOk P w K mg base 1 "_law_draw" ["_law_bag_here", "_law_many"] spDraw) : FnOk P w K mg base CX0 2 f fd ["_law_bag_here", "_law_most"] spLBlock20 := by
  refine F.ok scL_block (fun vs H Q E h => ?_) (fun cdv A outer s H vs Q E hr h => ?_)
  · obtain ⟨b, rfl, _⟩ := h
    rfl
  · obtain ⟨b, rfl, hb, k⟩ := h
    refine ⟨_, (pss_cons (ps_set (i := 2) scL_block.nd rfl (.inl rfl) (pe_by (pe_ifExp (pt_cmpR op_eq (pe_cc C__law_draw (hr.mono (by decide)) (by rfl) (pa_cons (pv 0) (pa_cons pe_int pa_nil))) pe_int (nomark _)) (pe_cc C__law_draw (hr.mono (by decide)) (by rfl) (pa_cons (pv 0) (pa_cons (pe_op op_add (pv 1) pe_int) pa_nil))) (pe_cc C__law_draw (hr.mono (by decide)) (by rfl) (pa_cons (pv 0) (pa_cons pe_int pa_nil))))))
      (pss_one (ps_ret (pe_tup (pa_cons (pv 2) (pa_cons (pe_cc C__law_draw (hr.mono (by decide)) (by rfl) (pa_cons (pv 0) (pa_cons pe_int pa_nil))) (pa_cons (pe_cmpR op_eq (pe_cc C__law_draw (hr.mono (by decide)) (by rfl) (pa_cons (pv 0) (pa_cons pe_int pa_nil))) pe_int (nomark _)) (pa_cons (pe_cmpR op_eq (pe_cc C__law_draw (hr.mono (by decide)) (by rfl) (pa_cons (pv 0) (pa_cons pe_int pa_nil))) pe_int (nomark _)) pa_nil)))))))), ?_⟩
    refine ⟨fun v H' => ∃ c : Int, v = .int c ∧ 0 ≤ c ∧ c ≤ 30 ∧ Bk b H H', fun Q' hQ => ?_, ?_⟩
    · refine ⟨_, rfl, b, _, rfl, hb, by decide, by decide, fun d H1 d0 d1 B1 => ⟨rfl, _, rfl, ite2 (fun h1 => ?_) (fun h1 => ?_)⟩⟩
      · refine ⟨_, rfl, _, rfl, _, _, rfl, rfl, b, _, rfl, B1.bag, by decide, by decide, fun e H2 e0 e1 B2 => ?_⟩
        exact hQ _ _ ⟨e, rfl, e0, by omega, B1.trans B2⟩
      · refine ⟨_, rfl, b, _, rfl, B1.bag, by decide, by decide, fun e H2 e0 e1 B2 => ?_⟩
        exact hQ _ _ ⟨e, rfl, e0, by omega, B1.trans B2⟩
    · rintro v H1 ⟨c, rfl, c0, c1, B1⟩
      refine ⟨_, rfl, _, rfl, b, _, rfl, B1.bag, by decide, by decide, fun e H2 e0 e1 B2 => ?_⟩
      refine ⟨_, rfl, b, _, rfl, B2.bag, by decide, by decide, fun e' H3 e0' e1' B3 => ⟨rfl, ?_⟩⟩
      refine ⟨_, rfl, b, _, rfl, B3.bag, by decide, by decide, fun e'' H4 e0'' e1'' B4 => ⟨rfl, (by show 4 ≤ sizeLine; decide), fun p hp => ?_⟩⟩
      have BB := ((B1.trans B2).trans B3).trans B4
      have hc : ((c.toNat : Nat) : Int) = c := Int.toNat_of_nonneg c0
      refine k p _ c.toNat e (decide (V.int e' = V.int 1)) (decide (V.int e'' = V.int 7)) (BB.free hb hp) (BB.fresh hp) ?_ (by omega) e0
      rw [upd_same, hc]

/-! ### the law -/
def spLaw (K : PySem.W.Frag) : Sp := fun vs H Q _ => ∃ (a : Addr) (ns : List Int), vs = [.ref a] ∧ SqL K H a (ns.map V.int) ∧ ns.length ≤ 63 ∧ ∀ H', Q (.bl true) H'
abbrev slaw : Stmt := topS 32
theorem sclaw : FnScope ["_law_script", "_law_at", "_law_bag_here", "_law_length_here", "_law_some", "_law_standing_here", "_law_blocks", "_law_turn"] ["_law_script"] (defScope slaw) := ⟨rfl, rfl, rfl, by decide +kernel, rfl, by decide +kernel, by decide +kernel⟩
theorem ok_law {f : Addr} {fd : FuncData} (F : Fun K "law" "law" slaw f fd) (T : Txt K mg tp C) (C__law_bag : CallOk P w K mg base 1 "_law_bag" ["_law_script", "_law_at"] (spBag K)) (C__law_draw : CallOk P w K mg base 1 "_law_draw" ["_law_bag_here", "_law_many"] spDraw)
    (C__law_standings : CallOk P w K mg base 1 "_law_standings" ["_law_length_here"] spLawZ) (C__law_length : CallOk P w K mg base 2 "_law_length" ["_law_bag_here"] spLLength) (C__law_block : CallOk P w K mg base 2 "_law_block" ["_law_bag_here", "_law_most"] spLBlock20)
    (C__law_odd : CallOk P w K mg base 2 "_law_odd" ["_law_bag_here", "_law_length_here"] (spOdd K)) (C__law_right : CallOk P w K mg base 7 "_law_right" ["_law_length_here", "_law_standing_here", "_law_blocks", "_law_odd_here"] (spRightL K)) :
    FnOk P w K mg base CX0 8 f fd ["_law_script"] (spLaw K) := by
  refine F.ok sclaw (fun vs H Q E h => ?_) (fun cdv A outer s H vs Q E hr h => ?_)
  · obtain ⟨a, ns, rfl, _⟩ := h
    rfl
  · obtain ⟨a, ns, rfl, hS, hns, k⟩ := h
    refine ⟨_, (pss_cons (ps_for PassesOwn.never rfl (pi_range1 (by rfl) T.b_range (pa_cons (pe_pure (pe_callB (call_max2 rfl) (by rfl) T.b_max (by decide +kernel) (pa_cons pe_int (pa_cons (pe_callB (call_min2 rfl) (by rfl) T.b_min (by decide +kernel) (pa_cons (pe_callB call_len_seq (by rfl) T.b_len PySem.boot_len (pa_cons (pv 0) pa_nil)) (pa_cons pe_int pa_nil))) pa_nil)))) pa_nil)) (pg_name (i := 1) sclaw.nd rfl (.inl rfl))
        (pss_cons (ps_set (i := 2) sclaw.nd rfl (.inr rfl) (pe_cc C__law_bag (hr.mono (by decide)) (by rfl) (pa_cons (pv 0) (pa_cons (pv 1) pa_nil))))
        (pss_cons (ps_set (i := 3) sclaw.nd rfl (.inl rfl) (pe_cc C__law_length (hr.mono (by decide)) (by rfl) (pa_cons (pv 2) pa_nil)))
        (pss_cons (ps_set (i := 4) sclaw.nd rfl (.inl rfl) (pe_cc C__law_standings (hr.mono (by decide)) (by rfl) (pa_cons (pv 3) pa_nil)))
        (pss_cons (ps_set (i := 5) sclaw.nd rfl (.inl rfl) (pe_ix ix_list (pv 4) (pe_cc C__law_draw (hr.mono (by decide)) (by rfl) (pa_cons (pv 2) (pa_cons (pe_callB call_len_seq (by rfl) T.b_len PySem.boot_len (pa_cons (pv 4) pa_nil)) pa_nil))) (fun _ _ => rfl)))
        (pss_cons (ps_setLc (i := 6) (own := [("_law_turn", 7)]) (g := gName 7) (tt := tYes) rfl sclaw.nd rfl rfl (sw_true rfl rfl rfl (by decide +kernel)) (pi_range1 (by rfl) T.b_range (pa_cons (pe_cc C__law_draw (hr.mono (by decide)) (by rfl) (pa_cons (pv 2) (pa_cons pe_int pa_nil))) pa_nil)) (blkOk_by (N := ["_law_script", "_law_at", "_law_bag_here", "_law_length_here", "_law_some", "_law_standing_here", "_law_blocks", "_law_turn"]) (sc := defScope slaw) (by decide +kernel)) (fun _ _ _ _ _ => (pg_name (i := 7) sclaw.nd rfl (.inl rfl))) (fun _ _ _ _ _ => pts_nil) (fun _ _ _ _ _ => (pe_cc C__law_block (hr.mono (by decide)) (by rfl) (pa_cons (pv 2) (pa_cons pe_int pa_nil)))))
        (pss_one (ps_if (pt_not (pt_val (pe_cc C__law_right (hr.mono (by decide)) (by rfl) (pa_cons (pv 3) (pa_cons (pv 5) (pa_cons (pv 6) (pa_cons (pe_cc C__law_odd (hr.mono (by decide)) (by rfl) (pa_cons (pv 2) (pa_cons (pv 3) pa_nil))) pa_nil)))))))
          (pss_one (ps_ret pe_bl))
          pss_nil))))))))
      (pss_one (ps_ret pe_bl))), ?_⟩
    have hll : (ns.map V.int).length = ns.length := List.length_map ..
    refine ⟨.int (if (if (6 : Int) < ((ns.map V.int).length : Int) then 6 else ((ns.map V.int).length : Int)) > 1 then (if (6 : Int) < ((ns.map V.int).length : Int) then 6 else ((ns.map V.int).length : Int)) else 1), fun Q' hQ => ⟨_, rfl, a, _, rfl, .inl hS, _, _, rfl, _, _, rfl, hQ⟩, ?_⟩
    obtain ⟨J, hJ1, hJ2⟩ := one_to (ns := (ns.map V.int).length) (by omega)
    rw [hJ2]
    refine ⟨_, rfl, by omega, by omega, for_range (lo := 0) (n := ((J : Nat) : Int).toNat) (fun i σ H' => ∃ (y1 y2 y3 y4 y5 y6 : Option V), σ = [some (.ref a), y1, y2, y3, y4, y5, y6, none] ∧ Same H H')
      ⟨none, none, none, none, none, none, rfl, Same.refl H⟩ ?_ ?_⟩
    · rintro i σ H1 hi ⟨y1, y2, y3, y4, y5, y6, rfl, s1⟩
      have hi' : i < 64 := by omega
      show gName 1 _ _ _ _
      rw [Int.zero_add]
      refine ⟨_, rfl, _, rfl, a, (i : Int), ns, rfl, s1.seq hS, by omega, by omega, fun b H2 nb hb2 kb => ?_⟩
      have s2 : Same H1 H2 := fun q o e => kb q o (fun r => by rw [r] at e; rw [e] at nb; cases nb) e
      refine ⟨_, rfl, b, rfl, hb2, fun L H3 hL hL9 B3 => ?_⟩
      refine ⟨_, rfl, L, rfl, hL, hL9, fun p H4 ys hp s4 hys hall => ?_⟩
      have B4 := B3.trans (bk_of s4 B3.bag)
      have npb : p ≠ b := fun r => by
        obtain ⟨_, _, _, e⟩ := B3.bag
        rw [← r, hp] at e; cases e
      obtain ⟨ll1, ll2⟩ := law_len hL hL9
      have hyl : ys.length = (lawZ L).length := hall.len
      refine ⟨_, rfl, _, rfl, _, rfl, p, _, rfl, .inl (SqL.of hys), b, _, rfl, B4.bag, by omega, Int.lt_of_le_of_lt (b := 200) (by omega) (by decide), fun d1 H5 d10 d11 B45 => ?_⟩
      have B5 := B4.trans B45
      have hys5 := B45.keep _ _ npb hys
      have hall5 := zMono (bk_tups B4.bag B45) hall
      obtain ⟨t1, z, ea, hz, ht⟩ := pick_z hL hL9 hall5 d10 d11
      refine ⟨p, _, _, _, rfl, rfl, SqL.of hys5, ea, ?_⟩
      -- blocks
      refine ⟨_, rfl, b, _, rfl, B5.bag, by decide, by decide, fun m HC m0 m1 BC => ⟨m, rfl, by omega, by omega, fun D hD => ?_⟩⟩
      have B6 := B5.trans BC
      have htC := (bk_tups B5.bag BC) _ _ ht
      have nDb : D ≠ b := fun r => by
        obtain ⟨g, x, c, e⟩ := BC.bag
        rw [← r, hD] at e; cases e
      refine lc_range (lo := 0) (n := m.toNat) (fun j H5 => ∃ (xs : List V) (bs : List Bl), Bk b HC H5 ∧ H5 D = some (.lst xs) ∧ AllAt BlAt H5 xs bs ∧ bs.length = j ∧ (∀ z ∈ bs, z.c ≤ 100 ∧ 0 ≤ z.s))
        ⟨[], [], bk_of (same_new hD) BC.bag, upd_same, trivial, rfl, (fun z hz => by cases hz)⟩ ?_ ?_
      · rintro j H5 hj ⟨xs, bs, B5, hD5, hall5, hbl, hsm⟩
        refine ⟨rfl, ?_⟩
        refine ⟨_, rfl, b, rfl, B5.bag, fun p H6 c sp kp g hp B6 htup hc hsp => ?_⟩
        have hD6 := B6.keep _ _ nDb hD5
        have hall6 := blMono (bk_tups B5.bag B6) hall5
        have tD : Tups H6 (upd H6 D (.lst (xs ++ [.ref p]))) := Tups.lst hD6
        refine ⟨xs, hD6, ?_, xs ++ [.ref p], bs ++ [⟨c, sp, kp, g⟩], ⟨?_, fun q o hq e => (upd_ne (fun r => by rw [r, hD] at e; cases e)).trans (B6.keep q o hq (B5.keep q o hq e))⟩, upd_same, (blMono tD hall6).snoc ⟨p, rfl, tD _ _ htup⟩, ?_, ?_⟩
        · rw [hall6.len, hbl]
          exact Nat.lt_of_le_of_lt (m := 100) (by omega) (by decide)
        · obtain ⟨g', x, c', e⟩ := B6.bag
          exact ⟨g', x, c', (upd_ne nDb.symm).trans e⟩
        · rw [List.length_append, hbl]; rfl
        · intro z hz
          rcases List.mem_append.mp hz with h | h
          · exact hsm z h
          · rw [List.mem_singleton.mp h]
            exact ⟨by show c ≤ 100; omega, hsp⟩
      rintro HD ⟨xs, bs, BD, hxs, hallD, hbl, hsm⟩
      have B7 := B6.trans BD
      have htD := (bk_tups BC.bag BD) _ _ htC
      -- right
      refine ⟨_, rfl, _, rfl, _, rfl, _, rfl, _, rfl, b, L, rfl, hL, hL9, BD.bag, fun v d HE BE hd ho => ?_⟩
      have B8 := B7.trans BE
      refine ⟨L, z, t1, D, v, d, xs, bs, rfl, hL, hL9, hz, SqT.of ((bk_tups BD.bag BE) _ _ htD), BE.keep _ _ nDb hxs, blMono (bk_tups BD.bag BE) hallD, ⟨by omega, hsm⟩, by omega, hd HE ⟨BE.bag, fun _ _ _ e => e⟩, ho, fun HF sF => ?_⟩
      refine ⟨_, rfl, iteQ (by decide) ?_⟩
      exact ⟨_, _, _, _, _, _, rfl, fun q o e => sF _ _ (B8.keep q o (fun r => by rw [r, s1.free nb] at e; cases e) (s2 q o (s1 q o e)))⟩
    · rintro σ H1 ⟨y1, y2, y3, y4, y5, y6, rfl, s1⟩
      exact k H1
end
end Pa
set_option maxRecDepth 100000
set_option maxHeartbeats 4000000
namespace Pa
open PySem PySem.Spec PyProof.Rows L2 SrtO
abbrev sBad_init : Stmt := inClass (topS 4) 0
section
variable {P : Program} {w : World} {K : PySem.W.Frag} {mg : Str → Option Value} {base : Heap} {C f cc cda : Addr} {dV kV doc pm ct oc ccl cl : Value} {an od cdd cld : Option Addr} {osl ccs csl : Array (Option Value)} {vs0 : Array Value} {file : Str} {tf : Tok}
theorem ok_badinit (T : SupCls P K mg C "standing")
    (lk : K.lookup f = some ⟨oc, od, .func (PySem.W.fnX "__init__" "BadStanding.__init__" (defArgs sBad_init) (defBody sBad_init) (supScope "standing") [("__class__", cc)] dV kV doc pm an (.ref cda) ct), osl⟩) (hcd : PySem.W.codeIn K (.ref cda) "BadStanding.__init__" = true)
    (hcode : K.lookup cda = some ⟨ccl, cdd, .fields vs0, ccs⟩) (hvs : vs0[2]? = some (.str file tf)) (hfile : ((P.main.file : Str) == file) = true) (hcell : K.lookup cc = some ⟨cl, cld, .cell (some (.ref C)), csl⟩) :
    FnOk P w K mg base CX0 1 f (PySem.W.fnX "__init__" "BadStanding.__init__" (defArgs sBad_init) (defBody sBad_init) (supScope "standing") [("__class__", cc)] dV kV doc pm an (.ref cda) ct) ["self", "standing"] (spSup C "standing") :=
  sup_fn T lk hcd hcode hvs hfile hcell rfl rfl rfl (fun env => rfl) (fun env => rfl) (by decide) (by decide) (by decide) (by decide)
theorem bad_binds : Binds K (PySem.W.fnX "__init__" "BadStanding.__init__" (defArgs sBad_init) (defBody sBad_init) (supScope "standing") [("__class__", cc)] .none kV doc pm an (.ref cda) ct) ["self", "standing"] [] := .all fun us hl => by
  match us, hl with
  | [a, b], _ => exact rfl
end
end Pa
set_option maxRecDepth 100000
set_option maxHeartbeats 4000000
namespace Pa
open PySem PySem.Spec PyProof.Rows L2 SrtO
/-! ### what the top has written -/
theorem all_mk {l : PySem.W.OpenLaw} {w : World} {K : PySem.W.Frag} {h : Heap} {mg : Str → Option Value} {fa C CS tp fI cc cda pR f0 f1 f2 f3 f4 f5 f6 f7 f8 f9 f10 f11 f12 f13 f14 f15 f16 f17 f18 f19 f20 f21 f22 f23 f24 f25 f26 f27 f28 f29 f30 f31 f32 f33 f34 f35 f36 pp33 pp34 pp35 : Addr} {mcC : Value} (X : K.In h) (G : h.Ns mainGlobals mg) (hfa : mg "law" = some (.ref fa))
    {od0 an0 od1 an1 od2 an2 od3 an3 od4 an4 od5 an5 od6 an6 od7 an7 od8 an8 od9 an9 od10 an10 od11 an11 od12 an12 od13 an13 od14 an14 od15 an15 od16 an16 od17 an17 od18 an18 od19 an19 od20 an20 od21 an21 od22 an22 od23 an23 od24 an24 od25 an25 od26 an26 od27 an27 od28 an28 od29 an29 od30 an30 od31 an31 od32 an32 od33 an33 od34 an34 od35 an35 od36 an36 : Option Addr} {sl0 sl1 sl2 sl3 sl4 sl5 sl6 sl7 sl8 sl9 sl10 sl11 sl12 sl13 sl14 sl15 sl16 sl17 sl18 sl19 sl20 sl21 sl22 sl23 sl24 sl25 sl26 sl27 sl28 sl29 sl30 sl31 sl32 sl33 sl34 sl35 sl36 : Array (Option Value)} {oc0 kV0 dc0 pm0 cd0 ct0 oc1 kV1 dc1 pm1 cd1 ct1 oc2 kV2 dc2 pm2 cd2 ct2 oc3 kV3 dc3 pm3 cd3 ct3 oc4 kV4 dc4 pm4 cd4 ct4 oc5 kV5 dc5 pm5 cd5 ct5 oc6 kV6 dc6 pm6 cd6 ct6 oc7 kV7 dc7 pm7 cd7 ct7 oc8 kV8 dc8 pm8 cd8 ct8 oc9 kV9 dc9 pm9 cd9 ct9 oc10 kV10 dc10 pm10 cd10 ct10 oc11 kV11 dc11 pm11 cd11 ct11 oc12 kV12 dc12 pm12 cd12 ct12 oc13 kV13 dc13 pm13 cd13 ct13 oc14 kV14 dc14 pm14 cd14 ct14 oc15 kV15 dc15 pm15 cd15 ct15 oc16 kV16 dc16 pm16 cd16 ct16 oc17 kV17 dc17 pm17 cd17 ct17 oc18 kV18 dc18 pm18 cd18 ct18 oc19 kV19 dc19 pm19 cd19 ct19 oc20 kV20 dc20 pm20 cd20 ct20 oc21 kV21 dc21 pm21 cd21 ct21 oc22 kV22 dc22 pm22 cd22 ct22 oc23 kV23 dc23 pm23 cd23 ct23 oc24 kV24 dc24 pm24 cd24 ct24 oc25 kV25 dc25 pm25 cd25 ct25 oc26 kV26 dc26 pm26 cd26 ct26 oc27 kV27 dc27 pm27 cd27 ct27 oc28 kV28 dc28 pm28 cd28 ct28 oc29 kV29 dc29 pm29 cd29 ct29 oc30 kV30 dc30 pm30 cd30 ct30 oc31 kV31 dc31 pm31 cd31 ct31 oc32 kV32 dc32 pm32 cd32 ct32 oc33 kV33 dc33 pm33 cd33 ct33 oc34 kV34 dc34 pm34 cd34 ct34 oc35 kV35 dc35 pm35 cd35 ct35 oc36 kV36 dc36 pm36 cd36 ct36 : Value}
    {odI anI cdd cld : Option Addr} {slI ccs csl : Array (Option Value)} {ocI kVI dcI pmI ctI ccl cl : Value} {vs0 : Array Value} {file : Str} {tf : Tok} {rsR rs33 rs34 rs35 : List Value}
    {tn : Nat} {tk0 tk1 tk2 : Tok}
    {nmC : _} {qC : _} {NC : _} {bsC : _} {bmC : _} {snC : _} {subC : _} {abC : _} {colC : _} {ddC : _} {e0C : _} {e1C : _} {e2C : _} {e3C : _} {e5C : _}
    (aC : PySem.W.nsIn K mainGlobals "Page" = some (some (.ref C))) (aS : PySem.W.nsIn K mainGlobals "BadStanding" = some (some (.ref CS))) (aT : PySem.W.nsIn K mainGlobals "TOP" = some (some (.ref tp)))
    (a0 : PySem.W.nsIn K mainGlobals "is_integer" = some (some (.ref f0)))
    (l0 : K.lookup f0 = some ⟨oc0, od0, .func (PySem.W.fnOf "is_integer" "is_integer" (defArgs sis_integer) (defBody sis_integer) (defScope sis_integer) .none kV0 dc0 pm0 an0 cd0 ct0), sl0⟩) (c0 : PySem.W.codeIn K cd0 "is_integer" = true) (k0 : PySem.W.keepIn K (.ref f0) = true)
    (a1 : PySem.W.nsIn K mainGlobals "standings" = some (some (.ref f1)))
    (l1 : K.lookup f1 = some ⟨oc1, od1, .func (PySem.W.fnOf "standings" "standings" (defArgs sstandings) (defBody sstandings) (defScope sstandings) .none kV1 dc1 pm1 an1 cd1 ct1), sl1⟩) (c1 : PySem.W.codeIn K cd1 "standings" = true) (k1 : PySem.W.keepIn K (.ref f1) = true)
    (a2 : PySem.W.nsIn K mainGlobals "checked_standing" = some (some (.ref f2)))
    (l2 : K.lookup f2 = some ⟨oc2, od2, .func (PySem.W.fnOf "checked_standing" "checked_standing" (defArgs schecked_standing) (defBody schecked_standing) (defScope schecked_standing) .none kV2 dc2 pm2 an2 cd2 ct2), sl2⟩) (c2 : PySem.W.codeIn K cd2 "checked_standing" = true) (k2 : PySem.W.keepIn K (.ref f2) = true)
    (a3 : PySem.W.nsIn K mainGlobals "_longer" = some (some (.ref f3)))
    (l3 : K.lookup f3 = some ⟨oc3, od3, .func (PySem.W.fnOf "_longer" "_longer" (defArgs s_longer) (defBody s_longer) (defScope s_longer) .none kV3 dc3 pm3 an3 cd3 ct3), sl3⟩) (c3 : PySem.W.codeIn K cd3 "_longer" = true) (k3 : PySem.W.keepIn K (.ref f3) = true)
    (a4 : PySem.W.nsIn K mainGlobals "next_line" = some (some (.ref f4)))
    (l4 : K.lookup f4 = some ⟨oc4, od4, .func (PySem.W.fnOf "next_line" "next_line" (defArgs snext_line) (defBody snext_line) (defScope snext_line) .none kV4 dc4 pm4 an4 cd4 ct4), sl4⟩) (c4 : PySem.W.codeIn K cd4 "next_line" = true) (k4 : PySem.W.keepIn K (.ref f4) = true)
    (a5 : PySem.W.nsIn K mainGlobals "line_place" = some (some (.ref f5)))
    (l5 : K.lookup f5 = some ⟨oc5, od5, .func (PySem.W.fnOf "line_place" "line_place" (defArgs sline_place) (defBody sline_place) (defScope sline_place) .none kV5 dc5 pm5 an5 cd5 ct5), sl5⟩) (c5 : PySem.W.codeIn K cd5 "line_place" = true) (k5 : PySem.W.keepIn K (.ref f5) = true)
    (a6 : PySem.W.nsIn K mainGlobals "standing_of" = some (some (.ref f6)))
    (l6 : K.lookup f6 = some ⟨oc6, od6, .func (PySem.W.fnOf "standing_of" "standing_of" (defArgs sstanding_of) (defBody sstanding_of) (defScope sstanding_of) .none kV6 dc6 pm6 an6 cd6 ct6), sl6⟩) (c6 : PySem.W.codeIn K cd6 "standing_of" = true) (k6 : PySem.W.keepIn K (.ref f6) = true)
    (a7 : PySem.W.nsIn K mainGlobals "_law_bag" = some (some (.ref f7)))
    (l7 : K.lookup f7 = some ⟨oc7, od7, .func (PySem.W.fnOf "_law_bag" "_law_bag" (defArgs sBag) (defBody sBag) (defScope sBag) .none kV7 dc7 pm7 an7 cd7 ct7), sl7⟩) (c7 : PySem.W.codeIn K cd7 "_law_bag" = true) (k7 : PySem.W.keepIn K (.ref f7) = true)
    (a8 : PySem.W.nsIn K mainGlobals "_law_draw" = some (some (.ref f8)))
    (l8 : K.lookup f8 = some ⟨oc8, od8, .func (PySem.W.fnOf "_law_draw" "_law_draw" (defArgs sDraw) (defBody sDraw) (defScope sDraw) .none kV8 dc8 pm8 an8 cd8 ct8), sl8⟩) (c8 : PySem.W.codeIn K cd8 "_law_draw" = true) (k8 : PySem.W.keepIn K (.ref f8) = true)
    (a9 : PySem.W.nsIn K mainGlobals "_law_number" = some (some (.ref f9)))
    (l9 : K.lookup f9 = some ⟨oc9, od9, .func (PySem.W.fnOf "_law_number" "_law_number" (defArgs sL_number) (defBody sL_number) (defScope sL_number) .none kV9 dc9 pm9 an9 cd9 ct9), sl9⟩) (c9 : PySem.W.codeIn K cd9 "_law_number" = true) (k9 : PySem.W.keepIn K (.ref f9) = true)
    (a10 : PySem.W.nsIn K mainGlobals "_law_lines" = some (some (.ref f10)))
    (l10 : K.lookup f10 = some ⟨oc10, od10, .func (PySem.W.fnOf "_law_lines" "_law_lines" (defArgs sL_lines) (defBody sL_lines) (defScope sL_lines) .none kV10 dc10 pm10 an10 cd10 ct10), sl10⟩) (c10 : PySem.W.codeIn K cd10 "_law_lines" = true) (k10 : PySem.W.keepIn K (.ref f10) = true)
    (a11 : PySem.W.nsIn K mainGlobals "_law_cut" = some (some (.ref f11)))
    (l11 : K.lookup f11 = some ⟨oc11, od11, .func (PySem.W.fnOf "_law_cut" "_law_cut" (defArgs sL_cut) (defBody sL_cut) (defScope sL_cut) .none kV11 dc11 pm11 an11 cd11 ct11), sl11⟩) (c11 : PySem.W.codeIn K cd11 "_law_cut" = true) (k11 : PySem.W.keepIn K (.ref f11) = true)
    (a12 : PySem.W.nsIn K mainGlobals "_law_pages" = some (some (.ref f12)))
    (l12 : K.lookup f12 = some ⟨oc12, od12, .func (PySem.W.fnOf "_law_pages" "_law_pages" (defArgs sL_pages) (defBody sL_pages) (defScope sL_pages) .none kV12 dc12 pm12 an12 cd12 ct12), sl12⟩) (c12 : PySem.W.codeIn K cd12 "_law_pages" = true) (k12 : PySem.W.keepIn K (.ref f12) = true)
    (a13 : PySem.W.nsIn K mainGlobals "_law_standing" = some (some (.ref f13)))
    (l13 : K.lookup f13 = some ⟨oc13, od13, .func (PySem.W.fnOf "_law_standing" "_law_standing" (defArgs sL_standing) (defBody sL_standing) (defScope sL_standing) .none kV13 dc13 pm13 an13 cd13 ct13), sl13⟩) (c13 : PySem.W.codeIn K cd13 "_law_standing" = true) (k13 : PySem.W.keepIn K (.ref f13) = true)
    (a14 : PySem.W.nsIn K mainGlobals "_law_standings" = some (some (.ref f14)))
    (l14 : K.lookup f14 = some ⟨oc14, od14, .func (PySem.W.fnOf "_law_standings" "_law_standings" (defArgs sL_standings) (defBody sL_standings) (defScope sL_standings) .none kV14 dc14 pm14 an14 cd14 ct14), sl14⟩) (c14 : PySem.W.codeIn K cd14 "_law_standings" = true) (k14 : PySem.W.keepIn K (.ref f14) = true)
    (a15 : PySem.W.nsIn K mainGlobals "_law_lead" = some (some (.ref f15)))
    (l15 : K.lookup f15 = some ⟨oc15, od15, .func (PySem.W.fnOf "_law_lead" "_law_lead" (defArgs sL_lead) (defBody sL_lead) (defScope sL_lead) .none kV15 dc15 pm15 an15 cd15 ct15), sl15⟩) (c15 : PySem.W.codeIn K cd15 "_law_lead" = true) (k15 : PySem.W.keepIn K (.ref f15) = true)
    (a16 : PySem.W.nsIn K mainGlobals "_law_block" = some (some (.ref f16)))
    (l16 : K.lookup f16 = some ⟨oc16, od16, .func (PySem.W.fnOf "_law_block" "_law_block" (defArgs sL_block) (defBody sL_block) (defScope sL_block) .none kV16 dc16 pm16 an16 cd16 ct16), sl16⟩) (c16 : PySem.W.codeIn K cd16 "_law_block" = true) (k16 : PySem.W.keepIn K (.ref f16) = true)
    (a17 : PySem.W.nsIn K mainGlobals "_law_length" = some (some (.ref f17)))
    (l17 : K.lookup f17 = some ⟨oc17, od17, .func (PySem.W.fnOf "_law_length" "_law_length" (defArgs sL_length) (defBody sL_length) (defScope sL_length) .none kV17 dc17 pm17 an17 cd17 ct17), sl17⟩) (c17 : PySem.W.codeIn K cd17 "_law_length" = true) (k17 : PySem.W.keepIn K (.ref f17) = true)
    (a18 : PySem.W.nsIn K mainGlobals "_law_odd" = some (some (.ref f18)))
    (l18 : K.lookup f18 = some ⟨oc18, od18, .func (PySem.W.fnOf "_law_odd" "_law_odd" (defArgs sL_odd) (defBody sL_odd) (defScope sL_odd) .none kV18 dc18 pm18 an18 cd18 ct18), sl18⟩) (c18 : PySem.W.codeIn K cd18 "_law_odd" = true) (k18 : PySem.W.keepIn K (.ref f18) = true)
    (a19 : PySem.W.nsIn K mainGlobals "_law_pending" = some (some (.ref f19)))
    (l19 : K.lookup f19 = some ⟨oc19, od19, .func (PySem.W.fnOf "_law_pending" "_law_pending" (defArgs sL_pending) (defBody sL_pending) (defScope sL_pending) .none kV19 dc19 pm19 an19 cd19 ct19), sl19⟩) (c19 : PySem.W.codeIn K cd19 "_law_pending" = true) (k19 : PySem.W.keepIn K (.ref f19) = true)
    (a20 : PySem.W.nsIn K mainGlobals "_law_went" = some (some (.ref f20)))
    (l20 : K.lookup f20 = some ⟨oc20, od20, .func (PySem.W.fnOf "_law_went" "_law_went" (defArgs sL_went) (defBody sL_went) (defScope sL_went) .none kV20 dc20 pm20 an20 cd20 ct20), sl20⟩) (c20 : PySem.W.codeIn K cd20 "_law_went" = true) (k20 : PySem.W.keepIn K (.ref f20) = true)
    (a21 : PySem.W.nsIn K mainGlobals "_law_shown" = some (some (.ref f21)))
    (l21 : K.lookup f21 = some ⟨oc21, od21, .func (PySem.W.fnOf "_law_shown" "_law_shown" (defArgs sL_shown) (defBody sL_shown) (defScope sL_shown) .none kV21 dc21 pm21 an21 cd21 ct21), sl21⟩) (c21 : PySem.W.codeIn K cd21 "_law_shown" = true) (k21 : PySem.W.keepIn K (.ref f21) = true)
    (a22 : PySem.W.nsIn K mainGlobals "_law_right" = some (some (.ref f22)))
    (l22 : K.lookup f22 = some ⟨oc22, od22, .func (PySem.W.fnOf "_law_right" "_law_right" (defArgs sL_right) (defBody sL_right) (defScope sL_right) .none kV22 dc22 pm22 an22 cd22 ct22), sl22⟩) (c22 : PySem.W.codeIn K cd22 "_law_right" = true) (k22 : PySem.W.keepIn K (.ref f22) = true)
    (a23 : PySem.W.nsIn K mainGlobals "law" = some (some (.ref f23)))
    (l23 : K.lookup f23 = some ⟨oc23, od23, .func (PySem.W.fnOf "law" "law" (defArgs slaw) (defBody slaw) (defScope slaw) .none kV23 dc23 pm23 an23 cd23 ct23), sl23⟩) (c23 : PySem.W.codeIn K cd23 "law" = true) (k23 : PySem.W.keepIn K (.ref f23) = true)
    (a24 : PySem.W.findIn K (.ref C) "__init__" = some (some (.ref f24))) (i24 : PySem.W.isFn K (.ref f24) = true)
    (l24 : K.lookup f24 = some ⟨oc24, od24, .func (PySem.W.fnOf "__init__" "Page.__init__" (defArgs sPage___init__) (defBody sPage___init__) (defScope sPage___init__) .none kV24 dc24 pm24 an24 cd24 ct24), sl24⟩) (c24 : PySem.W.codeIn K cd24 "Page.__init__" = true) (k24 : PySem.W.keepIn K (.ref f24) = true)
    (a25 : PySem.W.findIn K (.ref C) "begin" = some (some (.ref f25))) (i25 : PySem.W.isFn K (.ref f25) = true)
    (l25 : K.lookup f25 = some ⟨oc25, od25, .func (PySem.W.fnOf "begin" "Page.begin" (defArgs sPage_begin) (defBody sPage_begin) (defScope sPage_begin) .none kV25 dc25 pm25 an25 cd25 ct25), sl25⟩) (c25 : PySem.W.codeIn K cd25 "Page.begin" = true) (k25 : PySem.W.keepIn K (.ref f25) = true)
    (a26 : PySem.W.findIn K (.ref C) "block" = some (some (.ref f26))) (i26 : PySem.W.isFn K (.ref f26) = true)
    (l26 : K.lookup f26 = some ⟨oc26, od26, .func (PySem.W.fnOf "block" "Page.block" (defArgs sPage_block) (defBody sPage_block) (defScope sPage_block) .none kV26 dc26 pm26 an26 cd26 ct26), sl26⟩) (c26 : PySem.W.codeIn K cd26 "Page.block" = true) (k26 : PySem.W.keepIn K (.ref f26) = true)
    (a27 : PySem.W.findIn K (.ref C) "_put" = some (some (.ref f27))) (i27 : PySem.W.isFn K (.ref f27) = true)
    (l27 : K.lookup f27 = some ⟨oc27, od27, .func (PySem.W.fnOf "_put" "Page._put" (defArgs sPage__put) (defBody sPage__put) (defScope sPage__put) .none kV27 dc27 pm27 an27 cd27 ct27), sl27⟩) (c27 : PySem.W.codeIn K cd27 "Page._put" = true) (k27 : PySem.W.keepIn K (.ref f27) = true)
    (a28 : PySem.W.findIn K (.ref C) "_go_over" = some (some (.ref f28))) (i28 : PySem.W.isFn K (.ref f28) = true)
    (l28 : K.lookup f28 = some ⟨oc28, od28, .func (PySem.W.fnOf "_go_over" "Page._go_over" (defArgs sPage__go_over) (defBody sPage__go_over) (defScope sPage__go_over) .none kV28 dc28 pm28 an28 cd28 ct28), sl28⟩) (c28 : PySem.W.codeIn K cd28 "Page._go_over" = true) (k28 : PySem.W.keepIn K (.ref f28) = true)
    (a29 : PySem.W.findIn K (.ref C) "_settle" = some (some (.ref f29))) (i29 : PySem.W.isFn K (.ref f29) = true)
    (l29 : K.lookup f29 = some ⟨oc29, od29, .func (PySem.W.fnOf "_settle" "Page._settle" (defArgs sPage__settle) (defBody sPage__settle) (defScope sPage__settle) .none kV29 dc29 pm29 an29 cd29 ct29), sl29⟩) (c29 : PySem.W.codeIn K cd29 "Page._settle" = true) (k29 : PySem.W.keepIn K (.ref f29) = true)
    (a30 : PySem.W.findIn K (.ref C) "settled" = some (some (.ref f30))) (i30 : PySem.W.isFn K (.ref f30) = true)
    (l30 : K.lookup f30 = some ⟨oc30, od30, .func (PySem.W.fnOf "settled" "Page.settled" (defArgs sPage_settled) (defBody sPage_settled) (defScope sPage_settled) .none kV30 dc30 pm30 an30 cd30 ct30), sl30⟩) (c30 : PySem.W.codeIn K cd30 "Page.settled" = true) (k30 : PySem.W.keepIn K (.ref f30) = true)
    (a31 : PySem.W.findIn K (.ref C) "finish" = some (some (.ref f31))) (i31 : PySem.W.isFn K (.ref f31) = true)
    (l31 : K.lookup f31 = some ⟨oc31, od31, .func (PySem.W.fnOf "finish" "Page.finish" (defArgs sPage_finish) (defBody sPage_finish) (defScope sPage_finish) .none kV31 dc31 pm31 an31 cd31 ct31), sl31⟩) (c31 : PySem.W.codeIn K cd31 "Page.finish" = true) (k31 : PySem.W.keepIn K (.ref f31) = true)
    (a32 : PySem.W.findIn K (.ref C) "__len__" = some (some (.ref f32))) (i32 : PySem.W.isFn K (.ref f32) = true)
    (l32 : K.lookup f32 = some ⟨oc32, od32, .func (PySem.W.fnOf "__len__" "Page.__len__" (defArgs sPage___len__) (defBody sPage___len__) (defScope sPage___len__) .none kV32 dc32 pm32 an32 cd32 ct32), sl32⟩) (c32 : PySem.W.codeIn K cd32 "Page.__len__" = true) (k32 : PySem.W.keepIn K (.ref f32) = true)
    (a33 : PySem.W.findIn K (.ref C) "now" = some (some (.ref pp33))) (g33 : PySem.W.specialIn K (.ref pp33) "__get__" = some (some (.builtin "property.__get__"))) (t33 : PySem.W.takesIn K (.ref pp33) = some true) (r33 : PySem.W.recIn K pp33 "property" = some (.ref f33 :: rs33))
    (l33 : K.lookup f33 = some ⟨oc33, od33, .func (PySem.W.fnOf "now" "Page.now" (defArgs sPage_now) (defBody sPage_now) (defScope sPage_now) .none kV33 dc33 pm33 an33 cd33 ct33), sl33⟩) (c33 : PySem.W.codeIn K cd33 "Page.now" = true) (k33 : PySem.W.keepIn K (.ref f33) = true)
    (a34 : PySem.W.findIn K (.ref C) "pending" = some (some (.ref pp34))) (g34 : PySem.W.specialIn K (.ref pp34) "__get__" = some (some (.builtin "property.__get__"))) (t34 : PySem.W.takesIn K (.ref pp34) = some true) (r34 : PySem.W.recIn K pp34 "property" = some (.ref f34 :: rs34))
    (l34 : K.lookup f34 = some ⟨oc34, od34, .func (PySem.W.fnOf "pending" "Page.pending" (defArgs sPage_pending) (defBody sPage_pending) (defScope sPage_pending) .none kV34 dc34 pm34 an34 cd34 ct34), sl34⟩) (c34 : PySem.W.codeIn K cd34 "Page.pending" = true) (k34 : PySem.W.keepIn K (.ref f34) = true)
    (a35 : PySem.W.findIn K (.ref C) "went_over" = some (some (.ref pp35))) (g35 : PySem.W.specialIn K (.ref pp35) "__get__" = some (some (.builtin "property.__get__"))) (t35 : PySem.W.takesIn K (.ref pp35) = some true) (r35 : PySem.W.recIn K pp35 "property" = some (.ref f35 :: rs35))
    (l35 : K.lookup f35 = some ⟨oc35, od35, .func (PySem.W.fnOf "went_over" "Page.went_over" (defArgs sPage_went_over) (defBody sPage_went_over) (defScope sPage_went_over) .none kV35 dc35 pm35 an35 cd35 ct35), sl35⟩) (c35 : PySem.W.codeIn K cd35 "Page.went_over" = true) (k35 : PySem.W.keepIn K (.ref f35) = true)
    (mcT : PySem.W.typeIn K (.ref C) = some mcC) (a36 : PySem.W.findCls K (.ref C) mcC "resumed" = some (.get (.builtin "staticmethod.__get__") (.ref pR) .none (.ref C))) (r36 : PySem.W.recIn K pR "staticmethod" = some (.ref f36 :: rsR)) (crd : PySem.W.readsIn K C mcC = true) (cga : PySem.W.specialIn K (.ref C) "__getattribute__" = some (some (.builtin "type.__getattribute__")))
    (l36 : K.lookup f36 = some ⟨oc36, od36, .func (PySem.W.fnOf "resumed" "Page.resumed" (defArgs sPage_resumed) (defBody sPage_resumed) (defScope sPage_resumed) .none kV36 dc36 pm36 an36 cd36 ct36), sl36⟩) (c36 : PySem.W.codeIn K cd36 "Page.resumed" = true) (k36 : PySem.W.keepIn K (.ref f36) = true)
    (lT : K.lookup tp = some ⟨.type "tuple", none, .seq #[.str (Str.ofString "top") tk0, .int 0 tk1, .int 0 tk2] tn, #[]⟩)
    (pg : PySem.W.plainGet K C Str.empty = true) (hd : PySem.W.hasDictIn K C = true) (po : PySem.W.plainOver K C = true) (sa : PySem.W.findIn K (.ref C) "__setattr__" = some (some (.builtin "object.__setattr__"))) (mk : PySem.W.makesIn K C = true) (kc : PySem.W.keepIn K (.ref C) = true)
    (nL : PySem.W.findIn K (.ref C) "length" = some none)
    (nS : PySem.W.findIn K (.ref C) "_standing" = some none)
    (nR : PySem.W.findIn K (.ref C) "_rows" = some none)
    (nO : PySem.W.findIn K (.ref C) "_loose" = some none)
    (nW : PySem.W.findIn K (.ref C) "_went_over" = some none)
    (z_len : PySem.W.nsIn K mainGlobals "len" = some none)
    (z_range : PySem.W.nsIn K mainGlobals "range" = some none)
    (z_int : PySem.W.nsIn K mainGlobals "int" = some none)
    (z_abs : PySem.W.nsIn K mainGlobals "abs" = some none)
    (z_enumerate : PySem.W.nsIn K mainGlobals "enumerate" = some none)
    (z_isinstance : PySem.W.nsIn K mainGlobals "isinstance" = some none)
    (z_bool : PySem.W.nsIn K mainGlobals "bool" = some none)
    (z_list : PySem.W.nsIn K mainGlobals "list" = some none)
    (z_tuple : PySem.W.nsIn K mainGlobals "tuple" = some none)
    (z_max : PySem.W.nsIn K mainGlobals "max" = some none)
    (z_min : PySem.W.nsIn K mainGlobals "min" = some none)
    (z_all : PySem.W.nsIn K mainGlobals "all" = some none)
    (z_sorted : PySem.W.nsIn K mainGlobals "sorted" = some none)
    (z_str : PySem.W.nsIn K mainGlobals "str" = some none)
    (z_super : PySem.W.nsIn K mainGlobals "super" = some none)
    (iI : PySem.W.findIn K (.ref CS) "__init__" = some (some (.ref fI))) (lI : K.lookup fI = some ⟨ocI, odI, .func (PySem.W.fnX "__init__" "BadStanding.__init__" (defArgs sBad_init) (defBody sBad_init) (supScope "standing") [("__class__", cc)] .none kVI dcI pmI anI (.ref cda) ctI), slI⟩)
    (tI : PySem.W.typeIn K (.ref fI) = some (.type "function")) (cI : PySem.W.codeIn K (.ref cda) "BadStanding.__init__" = true) (lcda : K.lookup cda = some ⟨ccl, cdd, .fields vs0, ccs⟩) (lcc : K.lookup cc = some ⟨cl, cld, .cell (some (.ref CS)), csl⟩)
    (lC : K.lookup CS = some (excClassObj nmC qC CS NC bsC bmC true snC subC abC colC ddC e0C e1C e2C e3C e5C "ValueError.__new__"))
    (x1 : PySem.W.findIn K (.ref CS) "__setattr__" = some (some (.builtin "object.__setattr__"))) (x2 : PySem.W.subIn K (.ref CS) (.type "BaseException") = some true) (x3 : PySem.W.typeIn K (.ref CS) = some (.type "type")) (x4 : PySem.W.keepIn K (.ref CS) = true)
    (x5 : PySem.W.findIn K (.ref CS) "standing" = some none) (x6 : PySem.W.subIn K (.ref CS) (.type "ValueError") = some true) (x7 : PySem.W.mroIn K CS (.ref CS) = some true) (x10 : PySem.W.findIn K (.ref CS) "__getattribute__" = some (some (.builtin "BaseException.__getattribute__")))
    (x11 : PySem.W.findIn K (.ref CS) "__getattr__" = some none) (x12 : PySem.W.hasDictIn K CS = true)
    (y1 : PySem.HandSPX.refsVE bmC = true) (y2 : PySem.W.ks_superIn K CS CS "__init__" = some (some (.builtin "ValueError.__init__"))) (y3 : PySem.W.nsIn K cStatics "thirdparty.any" = some none) (y4 : (l.prog.main.scope.names.lookup ("super" : Str)).isSome = false)
    (y5 : vs0[2]? = some (.str file tf)) (y6 : ((l.prog.main.file : Str) == file) = true) (y10 : PySem.W.exmOne K (.ref CS) (.ref CS) = some true)
    : ∃ fd : FuncData, (∀ (s : Shared) (v : Value), BindsTo s fd ⟨[v], []⟩ [("_law_script", v)]) ∧ ∀ base : Heap, K.In base → base.Ns mainGlobals mg → FnOk l.prog w K mg base CX0 8 fa fd ["_law_script"] (spLaw K) := by
  have e := hfa.symm.trans (PySem.W.mg_of X G a23)
  cases e
  have T : Txt K mg tp C := ⟨(PySem.W.mg_none_of X G z_len), (PySem.W.mg_none_of X G z_range), (PySem.W.mg_none_of X G z_int), (PySem.W.mg_none_of X G z_abs), (PySem.W.mg_none_of X G z_enumerate), (PySem.W.mg_none_of X G z_isinstance), (PySem.W.mg_none_of X G z_bool), (PySem.W.mg_none_of X G z_list), (PySem.W.mg_none_of X G z_tuple), (PySem.W.mg_none_of X G z_max), (PySem.W.mg_none_of X G z_min), (PySem.W.mg_none_of X G z_all), PySem.W.mg_of X G aT, fun H => .inr ⟨_, _, _, lT, rfl, rfl, (by show 3 ≤ sizeLine; decide), .cons ⟨_, rfl⟩ (.cons ⟨_, rfl⟩ (.cons ⟨_, rfl⟩ .nil))⟩, ⟨pg, hd, po, sa⟩, PySem.W.mg_of X G aC, nL, nS, nR, nO, nW⟩
  have T2 : Txt2 K mg := ⟨(PySem.W.mg_none_of X G z_sorted), (PySem.W.mg_none_of X G z_str)⟩
  have OX : OexC K CS := ⟨⟨_, _, _, _, _, _, _, _, _, _, _, _, _, _, _, lC, y1⟩, x1, x2, x3, x4⟩
  have SC : SupCls l.prog K mg CS "standing" := ⟨OX, x5, x6, x7, y2, y3, (PySem.W.mg_none_of X G z_super), y4⟩
  have BS : BadS K mg CS := ⟨⟨x10, x11, x2, x12⟩, x5, PySem.W.mg_of X G aS, y10⟩
  have F0 := fun_mk (st := sis_integer) l0 c0 k0
  have b0 := F0.binds (ps := ["value"]) fun _ _ _ _ _ _ us hl => match us, hl with | [_], _ => rfl
  have F1 := fun_mk (st := sstandings) l1 c1 k1
  have b1 := F1.binds (ps := ["length"]) fun _ _ _ _ _ _ us hl => match us, hl with | [_], _ => rfl
  have F2 := fun_mk (st := schecked_standing) l2 c2 k2
  have b2 := F2.binds (ps := ["length", "standing"]) fun _ _ _ _ _ _ us hl => match us, hl with | [_, _], _ => rfl
  have F3 := fun_mk (st := s_longer) l3 c3 k3
  have b3 := F3.binds (ps := ["tail", "space"]) fun _ _ _ _ _ _ us hl => match us, hl with | [_, _], _ => rfl
  have F4 := fun_mk (st := snext_line) l4 c4 k4
  have b4 := F4.binds (ps := ["length", "height", "tail", "space", "barred"]) fun _ _ _ _ _ _ us hl => match us, hl with | [_, _, _, _, _], _ => rfl
  have F5 := fun_mk (st := sline_place) l5 c5 k5
  have b5 := F5.binds (ps := ["standing", "at", "count", "space"]) fun _ _ _ _ _ _ us hl => match us, hl with | [_, _, _, _], _ => rfl
  have F6 := fun_mk (st := sstanding_of) l6 c6 k6
  have b6 := F6.binds (ps := ["length", "height", "tail", "kept"]) fun _ _ _ _ _ _ us hl => match us, hl with | [_, _, _, _], _ => rfl
  have F7 := fun_mk (st := sBag) l7 c7 k7
  have b7 := F7.binds (ps := ["_law_script", "_law_at"]) fun _ _ _ _ _ _ us hl => match us, hl with | [_, _], _ => rfl
  have F8 := fun_mk (st := sDraw) l8 c8 k8
  have b8 := F8.binds (ps := ["_law_bag_here", "_law_many"]) fun _ _ _ _ _ _ us hl => match us, hl with | [_, _], _ => rfl
  have F9 := fun_mk (st := sL_number) l9 c9 k9
  have b9 := F9.binds (ps := ["_law_thing"]) fun _ _ _ _ _ _ us hl => match us, hl with | [_], _ => rfl
  have F10 := fun_mk (st := sL_lines) l10 c10 k10
  have b10 := F10.binds (ps := ["_law_blocks"]) fun _ _ _ _ _ _ us hl => match us, hl with | [_], _ => rfl
  have F11 := fun_mk (st := sL_cut) l11 c11 k11
  have b11 := F11.binds (ps := ["_law_length_here", "_law_lines_here", "_law_start"]) fun _ _ _ _ _ _ us hl => match us, hl with | [_, _, _], _ => rfl
  have F12 := fun_mk (st := sL_pages) l12 c12 k12
  have b12 := F12.binds (ps := ["_law_length_here", "_law_lines_here"]) fun _ _ _ _ _ _ us hl => match us, hl with | [_, _], _ => rfl
  have F13 := fun_mk (st := sL_standing) l13 c13 k13
  have b13 := F13.binds (ps := ["_law_length_here", "_law_blocks"]) fun _ _ _ _ _ _ us hl => match us, hl with | [_, _], _ => rfl
  have F14 := fun_mk (st := sL_standings) l14 c14 k14
  have b14 := F14.binds (ps := ["_law_length_here"]) fun _ _ _ _ _ _ us hl => match us, hl with | [_], _ => rfl
  have F15 := fun_mk (st := sL_lead) l15 c15 k15
  have b15 := F15.binds (ps := ["_law_standing_here"]) fun _ _ _ _ _ _ us hl => match us, hl with | [_], _ => rfl
  have F16 := fun_mk (st := sL_block) l16 c16 k16
  have b16 := F16.binds (ps := ["_law_bag_here", "_law_most"]) fun _ _ _ _ _ _ us hl => match us, hl with | [_, _], _ => rfl
  have F17 := fun_mk (st := sL_length) l17 c17 k17
  have b17 := F17.binds (ps := ["_law_bag_here"]) fun _ _ _ _ _ _ us hl => match us, hl with | [_], _ => rfl
  have F18 := fun_mk (st := sL_odd) l18 c18 k18
  have b18 := F18.binds (ps := ["_law_bag_here", "_law_length_here"]) fun _ _ _ _ _ _ us hl => match us, hl with | [_, _], _ => rfl
  have F19 := fun_mk (st := sL_pending) l19 c19 k19
  have b19 := F19.binds (ps := ["_law_length_here", "_law_blocks"]) fun _ _ _ _ _ _ us hl => match us, hl with | [_, _], _ => rfl
  have F20 := fun_mk (st := sL_went) l20 c20 k20
  have b20 := F20.binds (ps := ["_law_length_here", "_law_lead_here", "_law_rest"]) fun _ _ _ _ _ _ us hl => match us, hl with | [_, _, _], _ => rfl
  have F21 := fun_mk (st := sL_shown) l21 c21 k21
  have b21 := F21.binds (ps := ["_law_page", "_law_length_here", "_law_lead_here", "_law_rest"]) fun _ _ _ _ _ _ us hl => match us, hl with | [_, _, _, _], _ => rfl
  have F22 := fun_mk (st := sL_right) l22 c22 k22
  have b22 := F22.binds (ps := ["_law_length_here", "_law_standing_here", "_law_blocks", "_law_odd_here"]) fun _ _ _ _ _ _ us hl => match us, hl with | [_, _, _, _], _ => rfl
  have F23 := fun_mk (st := slaw) l23 c23 k23
  have b23 := F23.binds (ps := ["_law_script"]) fun _ _ _ _ _ _ us hl => match us, hl with | [_], _ => rfl
  have F24 := fun_mk (st := sPage___init__) l24 c24 k24
  have b24 := F24.binds (ps := ["self", "length"]) fun _ _ _ _ _ _ us hl => match us, hl with | [_, _], _ => rfl
  have F25 := fun_mk (st := sPage_begin) l25 c25 k25
  have b25 := F25.binds (ps := ["self"]) fun _ _ _ _ _ _ us hl => match us, hl with | [_], _ => rfl
  have F26 := fun_mk (st := sPage_block) l26 c26 k26
  have F27 := fun_mk (st := sPage__put) l27 c27 k27
  have b27 := F27.binds (ps := ["self", "height", "tail"]) fun _ _ _ _ _ _ us hl => match us, hl with | [_, _, _], _ => rfl
  have F28 := fun_mk (st := sPage__go_over) l28 c28 k28
  have b28 := F28.binds (ps := ["self", "rows"]) fun _ _ _ _ _ _ us hl => match us, hl with | [_, _], _ => rfl
  have F29 := fun_mk (st := sPage__settle) l29 c29 k29
  have b29 := F29.binds (ps := ["self"]) fun _ _ _ _ _ _ us hl => match us, hl with | [_], _ => rfl
  have F30 := fun_mk (st := sPage_settled) l30 c30 k30
  have b30 := F30.binds (ps := ["self"]) fun _ _ _ _ _ _ us hl => match us, hl with | [_], _ => rfl
  have F31 := fun_mk (st := sPage_finish) l31 c31 k31
  have b31 := F31.binds (ps := ["self"]) fun _ _ _ _ _ _ us hl => match us, hl with | [_], _ => rfl
  have F32 := fun_mk (st := sPage___len__) l32 c32 k32
  have b32 := F32.binds (ps := ["self"]) fun _ _ _ _ _ _ us hl => match us, hl with | [_], _ => rfl
  have F33 := fun_mk (st := sPage_now) l33 c33 k33
  have b33 := F33.binds (ps := ["self"]) fun _ _ _ _ _ _ us hl => match us, hl with | [_], _ => rfl
  have F34 := fun_mk (st := sPage_pending) l34 c34 k34
  have b34 := F34.binds (ps := ["self"]) fun _ _ _ _ _ _ us hl => match us, hl with | [_], _ => rfl
  have F35 := fun_mk (st := sPage_went_over) l35 c35 k35
  have b35 := F35.binds (ps := ["self"]) fun _ _ _ _ _ _ us hl => match us, hl with | [_], _ => rfl
  have F36 := fun_mk (st := sPage_resumed) l36 c36 k36
  have b36 := F36.binds (ps := ["length", "standing"]) fun _ _ _ _ _ _ us hl => match us, hl with | [_, _], _ => rfl
  refine ⟨PySem.W.fnOf "law" "law" (defArgs slaw) (defBody slaw) (defScope slaw) .none kV23 dc23 pm23 an23 cd23 ct23, fun s v => .of_eq rfl, fun base _ _ => ?_⟩
  have TE : ErrOk l.prog w K mg base "BadStanding" "standing" CS := ⟨OX, PySem.W.mg_of X G aS, fI, _, iI, tI, bad_binds, ok_badinit SC lI cI lcda y5 y6 lcc⟩
  have C_is_integer : CallOk l.prog w K mg base 1 "is_integer" ["value"] (spIsInt K) := call_ok (PySem.W.mg_of X G a0) k0 b0 (ok_is_integer F0 T)
  have C_standings : CallOk l.prog w K mg base 1 "standings" ["length"] (spStandings K) := call_ok (PySem.W.mg_of X G a1) k1 b1 (ok_standings F1 T T2)
  have C_checked_standing : CallOkN l.prog w K mg base 3 "checked_standing" ["length", "standing"] (spChecked K CS) := ⟨f2, _, PySem.W.mg_of X G a2, k2, b2, ok_checkedN F2 T T2 TE C_is_integer C_standings⟩
  have C__longer : CallOk l.prog w K mg base 1 "_longer" ["tail", "space"] spLng := call_ok (PySem.W.mg_of X G a3) k3 b3 (ok_longer F3)
  have C_next_line : CallOk l.prog w K mg base 2 "next_line" ["length", "height", "tail", "space", "barred"] spNext := call_ok (PySem.W.mg_of X G a4) k4 b4 (ok_next F4 C__longer)
  have C_line_place : CallOk l.prog w K mg base 1 "line_place" ["standing", "at", "count", "space"] (spPlace K) := call_ok (PySem.W.mg_of X G a5) k5 b5 (ok_place F5)
  have C_standing_of : CallOk l.prog w K mg base 1 "standing_of" ["length", "height", "tail", "kept"] (spStand K) := call_ok (PySem.W.mg_of X G a6) k6 b6 (ok_stand F6 T)
  have M__settle : MethOk l.prog w K mg base C 1 "_settle" ["self"] (spSettle C) := ⟨f29, _, ⟨a29, i29, k29⟩, b29, ok_settle F29 T⟩
  have M_begin : MethOk l.prog w K mg base C 2 "begin" ["self"] (spBegin C tp) := ⟨f25, _, ⟨a25, i25, k25⟩, b25, ok_begin F25 T M__settle⟩
  have M__put : MethOk l.prog w K mg base C 2 "_put" ["self", "height", "tail"] (spPut C) := ⟨f27, _, ⟨a27, i27, k27⟩, b27, ok_put F27 T M__settle⟩
  have M__go_over : MethOk l.prog w K mg base C 1 "_go_over" ["self", "rows"] (spOver C) := ⟨f28, _, ⟨a28, i28, k28⟩, b28, ok_over F28 T⟩
  have M_finish : MethOk l.prog w K mg base C 1 "finish" ["self"] (spFinish C) := ⟨f31, _, ⟨a31, i31, k31⟩, b31, ok_finish F31 T⟩
  have M_settled : MethOk l.prog w K mg base C 2 "settled" ["self"] (spSettled C) := ⟨f30, _, ⟨a30, i30, k30⟩, b30, ok_settled F30 T M_finish⟩
  have N_finish : MethOkY l.prog w K mg base C 1 "finish" ["self"] (spFinish C) := ⟨f31, _, ⟨a31, i31, k31⟩, b31, ok_finishY F31 T⟩
  have N_settled : MethOkY l.prog w K mg base C 2 "settled" ["self"] (spSettled C) := ⟨f30, _, ⟨a30, i30, k30⟩, b30, ok_settledY F30 T N_finish⟩
  have M_Page : MakeOk l.prog w K mg base C 1 "Page" ["self", "length"] (spInit C tp) := ⟨f24, _, ⟨mk, a24, i24, kc⟩, PySem.W.mg_of X G aC, b24, ok_init F24 T⟩
  have M_block : Blk3Ok l.prog w K mg base C := ⟨f26, _, ⟨a26, i26, k26⟩, ⟨fun s us ws _ h1 h2 => match us, ws, h1, h2 with | [_, _], [_, _, _], _, _ => .of_eq rfl, fun r1 r2 => Vals.append r1 r2⟩, ok_block F26 T M__settle M_begin M__put M__go_over C_line_place C_next_line C_standing_of⟩
  have M_resumed : ResN l.prog w K mg base C CS := ⟨mcC, pR, f36, _, ⟨crd, cga⟩, ⟨a36, ⟨_, r36⟩, k36⟩, b36, ok_resXN F36 T C_checked_standing M_Page⟩
  have M_len : LenOk l.prog w K mg base C 1 (spLen C) := ⟨f32, _, ⟨a32, i32⟩, b32, ok_len F32 T⟩
  have N_len : LenOkY l.prog w K mg base C 1 (spLen C) := ⟨f32, _, ⟨a32, i32⟩, b32, ok_lenY F32 T⟩
  have P_now : PropOk l.prog w K mg base C 1 "now" (spNow C) := ⟨pp33, f33, _, ⟨a33, g33, t33, ⟨_, r33⟩⟩, b33, ok_now F33 T⟩
  have Q_now : PropOkY l.prog w K mg base C 1 "now" (spNow C) := ⟨pp33, f33, _, ⟨a33, g33, t33, ⟨_, r33⟩⟩, b33, ok_nowY F33 T⟩
  have P_pending : PropOk l.prog w K mg base C 1 "pending" (spPend C) := ⟨pp34, f34, _, ⟨a34, g34, t34, ⟨_, r34⟩⟩, b34, ok_pend F34 T⟩
  have Q_pending : PropOkY l.prog w K mg base C 1 "pending" (spPend C) := ⟨pp34, f34, _, ⟨a34, g34, t34, ⟨_, r34⟩⟩, b34, ok_pendY F34 T⟩
  have P_went_over : PropOk l.prog w K mg base C 1 "went_over" (spWent C) := ⟨pp35, f35, _, ⟨a35, g35, t35, ⟨_, r35⟩⟩, b35, ok_went F35 T⟩
  have Q_went_over : PropOkY l.prog w K mg base C 1 "went_over" (spWent C) := ⟨pp35, f35, _, ⟨a35, g35, t35, ⟨_, r35⟩⟩, b35, ok_wentY F35 T⟩
  have C__law_bag : CallOk l.prog w K mg base 1 "_law_bag" ["_law_script", "_law_at"] (spBag K) := call_ok (PySem.W.mg_of X G a7) k7 b7 (ok_bag F7 (PySem.W.mg_none_of X G z_int) (PySem.W.mg_none_of X G z_abs) (PySem.W.mg_none_of X G z_len) (PySem.W.mg_none_of X G z_enumerate))
  have C__law_draw : CallOk l.prog w K mg base 1 "_law_draw" ["_law_bag_here", "_law_many"] spDraw := call_ok (PySem.W.mg_of X G a8) k8 b8 (ok_draw F8 (PySem.W.mg_none_of X G z_int))
  have C__law_number : CallOk l.prog w K mg base 1 "_law_number" ["_law_thing"] spNum := call_ok (PySem.W.mg_of X G a9) k9 b9 (ok_number F9 T)
  have Y__law_number : CallOkY l.prog w K mg base 1 "_law_number" ["_law_thing"] spNum := ⟨f9, _, PySem.W.mg_of X G a9, k9, b9, ok_numberY F9 T⟩
  have C__law_lines : CallOk l.prog w K mg base 1 "_law_lines" ["_law_blocks"] (spLLines K) := call_ok (PySem.W.mg_of X G a10) k10 b10 (ok_llines F10 T)
  have Y__law_lines : CallOkY l.prog w K mg base 1 "_law_lines" ["_law_blocks"] (spLLines K) := ⟨f10, _, PySem.W.mg_of X G a10, k10, b10, ok_llinesY F10 T⟩
  have C__law_cut : CallOk l.prog w K mg base 1 "_law_cut" ["_law_length_here", "_law_lines_here", "_law_start"] spCut := call_ok (PySem.W.mg_of X G a11) k11 b11 (ok_cut F11 T)
  have Y__law_cut : CallOkY l.prog w K mg base 1 "_law_cut" ["_law_length_here", "_law_lines_here", "_law_start"] spCut := ⟨f11, _, PySem.W.mg_of X G a11, k11, b11, ok_cutY F11 T⟩
  have C__law_pages : CallOk l.prog w K mg base 2 "_law_pages" ["_law_length_here", "_law_lines_here"] spPages := call_ok (PySem.W.mg_of X G a12) k12 b12 (ok_pages F12 T C__law_cut)
  have Y__law_pages : CallOkY l.prog w K mg base 2 "_law_pages" ["_law_length_here", "_law_lines_here"] spPages := ⟨f12, _, PySem.W.mg_of X G a12, k12, b12, ok_pagesY F12 T Y__law_cut⟩
  have C__law_standing : CallOk l.prog w K mg base 3 "_law_standing" ["_law_length_here", "_law_blocks"] (spStanding K) := call_ok (PySem.W.mg_of X G a13) k13 b13 (ok_lstanding F13 T C__law_lines C__law_pages)
  have Y__law_standing : CallOkY l.prog w K mg base 3 "_law_standing" ["_law_length_here", "_law_blocks"] (spStanding K) := ⟨f13, _, PySem.W.mg_of X G a13, k13, b13, ok_lstandingY F13 T Y__law_lines Y__law_pages⟩
  have C__law_pending : CallOk l.prog w K mg base 4 "_law_pending" ["_law_length_here", "_law_blocks"] (spPending K) := call_ok (PySem.W.mg_of X G a19) k19 b19 (ok_lpending F19 T C__law_lines C__law_pages C__law_standing)
  have Y__law_pending : CallOkY l.prog w K mg base 4 "_law_pending" ["_law_length_here", "_law_blocks"] (spPending K) := ⟨f19, _, PySem.W.mg_of X G a19, k19, b19, ok_lpendingY F19 T Y__law_lines Y__law_pages Y__law_standing⟩
  have C__law_went : CallOk l.prog w K mg base 5 "_law_went" ["_law_length_here", "_law_lead_here", "_law_rest"] (spWentL K) := call_ok (PySem.W.mg_of X G a20) k20 b20 (ok_lwent F20 T C__law_lines C__law_pages C__law_pending)
  have Y__law_went : CallOkY l.prog w K mg base 5 "_law_went" ["_law_length_here", "_law_lead_here", "_law_rest"] (spWentL K) := ⟨f20, _, PySem.W.mg_of X G a20, k20, b20, ok_lwentY F20 T Y__law_lines Y__law_pages Y__law_pending⟩
  have C__law_shown : CallOk l.prog w K mg base 6 "_law_shown" ["_law_page", "_law_length_here", "_law_lead_here", "_law_rest"] (spShownL K C) := call_ok (PySem.W.mg_of X G a21) k21 b21 (ok_lshown F21 T C__law_number C__law_lines C__law_pages C__law_standing C__law_pending C__law_went M_finish M_settled P_now P_pending P_went_over M_len)
  have Y__law_shown : CallOkY l.prog w K mg base 6 "_law_shown" ["_law_page", "_law_length_here", "_law_lead_here", "_law_rest"] (spShownL K C) := ⟨f21, _, PySem.W.mg_of X G a21, k21, b21, ok_lshownY F21 T Y__law_number Y__law_lines Y__law_pages Y__law_standing Y__law_pending Y__law_went N_finish N_settled Q_now Q_pending Q_went_over N_len⟩
  have C__law_standings : CallOk l.prog w K mg base 1 "_law_standings" ["_law_length_here"] spLawZ := call_ok (PySem.W.mg_of X G a14) k14 b14 (ok_lawZ F14 T)
  have C__law_lead : CallOk l.prog w K mg base 1 "_law_lead" ["_law_standing_here"] (spLead K) := call_ok (PySem.W.mg_of X G a15) k15 b15 (ok_lead F15 T)
  have C__law_block : CallOk l.prog w K mg base 2 "_law_block" ["_law_bag_here", "_law_most"] spLBlock20 := call_ok (PySem.W.mg_of X G a16) k16 b16 (ok_lblock20 F16 C__law_draw)
  have C__law_length : CallOk l.prog w K mg base 2 "_law_length" ["_law_bag_here"] spLLength := call_ok (PySem.W.mg_of X G a17) k17 b17 (ok_llength F17 C__law_draw)
  have C__law_odd : CallOk l.prog w K mg base 2 "_law_odd" ["_law_bag_here", "_law_length_here"] (spOdd K) := call_ok (PySem.W.mg_of X G a18) k18 b18 (ok_odd F18 T C__law_draw)
  have C__law_right : CallOk l.prog w K mg base 7 "_law_right" ["_law_length_here", "_law_standing_here", "_law_blocks", "_law_odd_here"] (spRightL K) := call_ok (PySem.W.mg_of X G a22) k22 b22 (ok_lright F22 T BS C__law_lead C__law_shown Y__law_shown M_resumed M_block)
  exact ok_law F23 T C__law_bag C__law_draw C__law_standings C__law_length C__law_block C__law_odd C__law_right
theorem walk_law {l : PySem.W.OpenLaw} {q : Program} {loose : List Str} {XP : (Str → Option Value) → Heap → Prop} {YP : World → Heap → Prop} {d : DefRec} {K : Params → PySem.W.Frag} (hmost : l.most = some 63) (hdf : d.params.defaults = [])
    (hin : ∀ (w : World) (h : Heap), YP w h → (K w.params).In h)
    (all : ∀ (w : World) (mg : Str → Option Value) (fa : Addr) (h : Heap), (K w.params).In h → h.Ns mainGlobals mg → mg d.name = some (.ref fa) →
      ∃ fd : FuncData, (∀ (s : Shared) (u : Value), BindsTo s fd ⟨[u], []⟩ [("_law_script", u)]) ∧ ∀ base : Heap, (K w.params).In base → base.Ns mainGlobals mg → FnOk l.prog w (K w.params) mg base CX0 8 fa fd ["_law_script"] (spLaw (K w.params))) :
    PySem.W.WalkO q loose XP YP l.row.toRowW d [] (fun f vs => PySem.call f vs) :=
  L2.walk_of (n := 63) (k := 8) (x := "_law_script") (CX := fun _ => CX0) (sp := fun w => spLaw (K w.params)) hmost (by decide) hdf ⟨rfl, by decide, by decide⟩ hin all (fun _ _ a ns hl _ hS => ⟨a, ns, rfl, hS, hl, fun _ => rfl⟩) fun _ _ _ _ _ z => z
end Pa
open PySem PySem.W PyProof.Rows in
set_option maxRecDepth 100000 in
set_option maxHeartbeats 0 in
theorem PySem.Challenge.cw_pressalike_k29_pages_resumed_holds : PySem.Challenge.rw_pressalike_k29_pages_resumed.Holds := by
  w_on; o_law; k_head; (case hw => w_witness2)
  k_fill
  refine Pa.walk_law (l := PySem.Challenge.rw_pressalike_k29_pages_resumed) rfl rfl (fun w h Y => PySem.W.kIn_of Y) ?F
  case F =>
    intro w mg fa h KX G hmg
    refine' Pa.all_mk KX G hmg ?aC ?aS ?aT ?a0 ?l0 ?c0 ?k0 ?a1 ?l1 ?c1 ?k1 ?a2 ?l2 ?c2 ?k2 ?a3 ?l3 ?c3 ?k3 ?a4 ?l4 ?c4 ?k4 ?a5 ?l5 ?c5 ?k5 ?a6 ?l6 ?c6 ?k6 ?a7 ?l7 ?c7 ?k7 ?a8 ?l8 ?c8 ?k8 ?a9 ?l9 ?c9 ?k9 ?a10 ?l10 ?c10 ?k10 ?a11 ?l11 ?c11 ?k11 ?a12 ?l12 ?c12 ?k12 ?a13 ?l13 ?c13 ?k13 ?a14 ?l14 ?c14 ?k14 ?a15 ?l15 ?c15 ?k15 ?a16 ?l16 ?c16 ?k16 ?a17 ?l17 ?c17 ?k17 ?a18 ?l18 ?c18 ?k18 ?a19 ?l19 ?c19 ?k19 ?a20 ?l20 ?c20 ?k20 ?a21 ?l21 ?c21 ?k21 ?a22 ?l22 ?c22 ?k22 ?a23 ?l23 ?c23 ?k23 ?a24 ?i24 ?l24 ?c24 ?k24 ?a25 ?i25 ?l25 ?c25 ?k25 ?a26 ?i26 ?l26 ?c26 ?k26 ?a27 ?i27 ?l27 ?c27 ?k27 ?a28 ?i28 ?l28 ?c28 ?k28 ?a29 ?i29 ?l29 ?c29 ?k29 ?a30 ?i30 ?l30 ?c30 ?k30 ?a31 ?i31 ?l31 ?c31 ?k31 ?a32 ?i32 ?l32 ?c32 ?k32 ?a33 ?g33 ?t33 ?r33 ?l33 ?c33 ?k33 ?a34 ?g34 ?t34 ?r34 ?l34 ?c34 ?k34 ?a35 ?g35 ?t35 ?r35 ?l35 ?c35 ?k35 ?mcT ?a36 ?r36 ?crd ?cga ?l36 ?c36 ?k36 ?lT ?pg ?hd ?po ?sa ?mk ?kc ?nL ?nS ?nR ?nO ?nW ?z_len ?z_range ?z_int ?z_abs ?z_enumerate ?z_isinstance ?z_bool ?z_list ?z_tuple ?z_max ?z_min ?z_all ?z_sorted ?z_str ?z_super ?iI ?lI ?tI ?cI ?lcda ?lcc ?lC ?x1 ?x2 ?x3 ?x4 ?x5 ?x6 ?x7 ?x10 ?x11 ?x12 ?y1 ?y2 ?y3 ?y4 ?y5 ?y6 ?y10
    (case aC => k_is)
    (case aS => k_is)
    (case aT => k_is)
    (case a0 => k_is)
    (case l0 => k_is)
    (case c0 => k_is)
    (case k0 => k_is)
    (case a1 => k_is)
    (case l1 => k_is)
    (case c1 => k_is)
    (case k1 => k_is)
    (case a2 => k_is)
    (case l2 => k_is)
    (case c2 => k_is)
    (case k2 => k_is)
    (case a3 => k_is)
    (case l3 => k_is)
    (case c3 => k_is)
    (case k3 => k_is)
    (case a4 => k_is)
    (case l4 => k_is)
    (case c4 => k_is)
    (case k4 => k_is)
    (case a5 => k_is)
    (case l5 => k_is)
    (case c5 => k_is)
    (case k5 => k_is)
    (case a6 => k_is)
    (case l6 => k_is)
    (case c6 => k_is)
    (case k6 => k_is)
    (case a7 => k_is)
    (case l7 => k_is)
    (case c7 => k_is)
    (case k7 => k_is)
    (case a8 => k_is)
    (case l8 => k_is)
    (case c8 => k_is)
    (case k8 => k_is)
    (case a9 => k_is)
    (case l9 => k_is)
    (case c9 => k_is)
    (case k9 => k_is)
    (case a10 => k_is)
    (case l10 => k_is)
    (case c10 => k_is)
    (case k10 => k_is)
    (case a11 => k_is)
    (case l11 => k_is)
    (case c11 => k_is)
    (case k11 => k_is)
    (case a12 => k_is)
    (case l12 => k_is)
    (case c12 => k_is)
    (case k12 => k_is)
    (case a13 => k_is)
    (case l13 => k_is)
    (case c13 => k_is)
    (case k13 => k_is)
    (case a14 => k_is)
    (case l14 => k_is)
    (case c14 => k_is)
    (case k14 => k_is)
    (case a15 => k_is)
    (case l15 => k_is)
    (case c15 => k_is)
    (case k15 => k_is)
    (case a16 => k_is)
    (case l16 => k_is)
    (case c16 => k_is)
    (case k16 => k_is)
    (case a17 => k_is)
    (case l17 => k_is)
    (case c17 => k_is)
    (case k17 => k_is)
    (case a18 => k_is)
    (case l18 => k_is)
    (case c18 => k_is)
    (case k18 => k_is)
    (case a19 => k_is)
    (case l19 => k_is)
    (case c19 => k_is)
    (case k19 => k_is)
    (case a20 => k_is)
    (case l20 => k_is)
    (case c20 => k_is)
    (case k20 => k_is)
    (case a21 => k_is)
    (case l21 => k_is)
    (case c21 => k_is)
    (case k21 => k_is)
    (case a22 => k_is)
    (case l22 => k_is)
    (case c22 => k_is)
    (case k22 => k_is)
    (case a23 => k_is)
    (case l23 => k_is)
    (case c23 => k_is)
    (case k23 => k_is)
    (case a24 => k_is)
    (case i24 => k_is)
    (case l24 => k_is)
    (case c24 => k_is)
    (case k24 => k_is)
    (case a25 => k_is)
    (case i25 => k_is)
    (case l25 => k_is)
    (case c25 => k_is)
    (case k25 => k_is)
    (case a26 => k_is)
    (case i26 => k_is)
    (case l26 => k_is)
    (case c26 => k_is)
    (case k26 => k_is)
    (case a27 => k_is)
    (case i27 => k_is)
    (case l27 => k_is)
    (case c27 => k_is)
    (case k27 => k_is)
    (case a28 => k_is)
    (case i28 => k_is)
    (case l28 => k_is)
    (case c28 => k_is)
    (case k28 => k_is)
    (case a29 => k_is)
    (case i29 => k_is)
    (case l29 => k_is)
    (case c29 => k_is)
    (case k29 => k_is)
    (case a30 => k_is)
    (case i30 => k_is)
    (case l30 => k_is)
    (case c30 => k_is)
    (case k30 => k_is)
    (case a31 => k_is)
    (case i31 => k_is)
    (case l31 => k_is)
    (case c31 => k_is)
    (case k31 => k_is)
    (case a32 => k_is)
    (case i32 => k_is)
    (case l32 => k_is)
    (case c32 => k_is)
    (case k32 => k_is)
    (case a33 => k_is)
    (case g33 => k_is)
    (case t33 => k_is)
    (case r33 => k_is)
    (case l33 => k_is)
    (case c33 => k_is)
    (case k33 => k_is)
    (case a34 => k_is)
    (case g34 => k_is)
    (case t34 => k_is)
    (case r34 => k_is)
    (case l34 => k_is)
    (case c34 => k_is)
    (case k34 => k_is)
    (case a35 => k_is)
    (case g35 => k_is)
    (case t35 => k_is)
    (case r35 => k_is)
    (case l35 => k_is)
    (case c35 => k_is)
    (case k35 => k_is)
    (case mcT => k_is)
    (case a36 => k_is)
    (case r36 => k_is)
    (case crd => k_is)
    (case cga => k_is)
    (case l36 => k_is)
    (case c36 => k_is)
    (case k36 => k_is)
    (case lT => k_is)
    (case pg => k_is)
    (case hd => k_is)
    (case po => k_is)
    (case sa => k_is)
    (case mk => k_is)
    (case kc => k_is)
    (case nL => k_is)
    (case nS => k_is)
    (case nR => k_is)
    (case nO => k_is)
    (case nW => k_is)
    (case z_len => k_is)
    (case z_range => k_is)
    (case z_int => k_is)
    (case z_abs => k_is)
    (case z_enumerate => k_is)
    (case z_isinstance => k_is)
    (case z_bool => k_is)
    (case z_list => k_is)
    (case z_tuple => k_is)
    (case z_max => k_is)
    (case z_min => k_is)
    (case z_all => k_is)
    (case z_sorted => k_is)
    (case z_str => k_is)
    (case z_super => k_is)
    (case iI => k_is)
    (case lI => k_is)
    (case tI => k_is)
    (case cI => k_is)
    (case lcda => k_is)
    (case lcc => k_is)
    (case lC => k_is)
    (case x1 => k_is)
    (case x2 => k_is)
    (case x3 => k_is)
    (case x4 => k_is)
    (case x5 => k_is)
    (case x6 => k_is)
    (case x7 => k_is)
    (case x10 => k_is)
    (case x11 => k_is)
    (case x12 => k_is)
    (case y1 => kernel_rfl)
    (case y2 => kernel_rfl)
    (case y3 => kernel_rfl)
    (case y4 => kernel_rfl)
    (case y5 => exact rfl)
    (case y6 => kernel_rfl)
    (case y10 => kernel_rfl)
