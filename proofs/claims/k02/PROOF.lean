import PyProof.Rows.All
import Wide.All
import OpenK.AllK
import Wide.FinOn
import PyProof.Runs
import PyProof.GenQ
import HandS.ForMost
import HandS.GenList
import PyProof.ListNew
import HandS.Wide
import HandS.Walk
import HandS.TupAny
import HandS.IsInst
import HandS.StrMore
import HandS.Text
import HandS.Style
import PySem.Challenge.RW_pressalike_k02_inks_by_rows
set_option Elab.async false
set_option linter.all false
set_option maxRecDepth 100000
set_option maxHeartbeats 2000000
/-! a suspended generator that is not woken stays as it is, whatever runs -/
namespace GenF
open PySem
open Sem (wp)
def coldK : Resume → Sem PySem.Fin := fun _ => .unsupported ""
/-- the same to look at, never to be woken -/
def ice : GenState → GenState
  | .suspended _ l c p fs cl => .suspended coldK l c p fs cl
  | x => x
def back (x : Option GenState) (y : GenState) : GenState := match x with
  | some (.suspended k l c p fs cl) => .suspended k l c p fs cl
  | _ => y
/-- put back where G has a suspended one -/
def melt (G gs : Array GenState) : Array GenState := gs.mapIdx fun i y => back G[i]? y
def meltS (G : Array GenState) (a : Shared) : Shared := { a with gens := melt G a.gens }
def iceS (s : Shared) : Shared := { s with gens := s.gens.map ice }
def Susp (x : Option GenState) : Prop := ∃ k l c p fs cl, x = some (.suspended k l c p fs cl)
set_option autoImplicit false
theorem back_no {x : Option GenState} {y : GenState} (h : ¬ Susp x) : back x y = y := by
  unfold back
  split
  · rename_i k l c p fs cl
    exact absurd ⟨k, l, c, p, fs, cl, rfl⟩ h
  · rfl
structure J (G : Array GenState) (a : Shared) : Prop where
  size : G.size ≤ a.gens.size
  cold : ∀ (i : Nat) k l c p fs cl, G[i]? = some (GenState.suspended k l c p fs cl) → a.gens[i]? = some (GenState.suspended coldK l c p fs cl)
  flat : ∀ (i : Nat) k l c p fs cl, a.gens[i]? = some (GenState.suspended k l c p fs cl) → Susp G[i]? ∨ splitAtGen fs = none
def flatE : End → Prop
  | .susp _ _ _ _ _ _ fs => splitAtGen fs = none
  | .ret _ => True
theorem melt_get (G gs : Array GenState) (i : Nat) : (melt G gs)[i]? = gs[i]?.map (back G[i]?) := by
  unfold melt
  rw [Array.getElem?_mapIdx]
theorem no_cold {M : Model} {Γ : Ctx} {p : Pos} {w : String} {fs : List Frame} {s s' : Shared} {e : End} : ¬ Runs M Γ p (.unsupported w) fs s e s' := by
  intro h
  generalize ht : (Sem.unsupported w : Sem PySem.Fin) = t at h
  induction h with
  | segRet _ _ ih _ => exact ih ht
  | segGen _ _ ih _ => exact ih ht
  | segSuspOut _ _ ih => exact ih ht
  | segSuspGen _ _ _ _ ih _ => exact ih ht
  | _ => cases ht
theorem split_app {xs ys : List Frame} (h1 : splitAtGen xs = none) (h2 : splitAtGen ys = none) : splitAtGen (xs ++ ys) = none := by
  induction xs with
  | nil => exact h2
  | cons f xs ih =>
    cases f with
    | ret k h g l c p kp =>
      have e : splitAtGen (Frame.ret k h g l c p kp :: xs) = (splitAtGen xs).map fun (fs, b, r) => (Frame.ret k h g l c p kp :: fs, b, r) := rfl
      rw [e] at h1
      have e2 : splitAtGen (Frame.ret k h g l c p kp :: (xs ++ ys)) = (splitAtGen (xs ++ ys)).map fun (fs, b, r) => (Frame.ret k h g l c p kp :: fs, b, r) := rfl
      show splitAtGen (Frame.ret k h g l c p kp :: (xs ++ ys)) = none
      rw [e2, ih (by cases q : splitAtGen xs with | none => rfl | some _ => rw [q] at h1; cases h1)]
      rfl
    | gen g k l c p => cases h1
theorem split_ret {k h g l c p kp} {xs : List Frame} (h1 : splitAtGen (Frame.ret k h g l c p kp :: xs) = none) : splitAtGen xs = none := by
  have e : splitAtGen (Frame.ret k h g l c p kp :: xs) = (splitAtGen xs).map fun (fs, b, r) => (Frame.ret k h g l c p kp :: fs, b, r) := rfl
  rw [e] at h1
  cases q : splitAtGen xs with
  | none => rfl
  | some _ => rw [q] at h1; cases h1
section
variable {G : Array GenState} {a : Shared} {g : Nat}
theorem J.not {x : GenState} (j : J G a) (h : a.gens[g]? = some x) (hx : ∀ k l c p fs cl, x ≠ .suspended k l c p fs cl) : ¬ Susp G[g]? := by
  rintro ⟨k, l, c, p, fs, cl, e⟩
  have q := j.cold g k l c p fs cl e
  rw [h] at q
  exact hx _ _ _ _ _ _ (Option.some.inj q)
theorem J.of {b : Shared} (j : J G a) (h : b.gens = a.gens) : J G b := ⟨by rw [h]; exact j.size, by rw [h]; exact j.cold, by rw [h]; exact j.flat⟩
theorem melt_at {x : GenState} (hn : ¬ Susp G[g]?) (h : a.gens[g]? = some x) : (meltS G a).gens[g]? = some x := by
  show (melt G a.gens)[g]? = some x
  rw [melt_get, h]
  show some (back G[g]? x) = some x
  rw [back_no hn]
theorem melt_set (hn : ¬ Susp G[g]?) (x : GenState) : meltS G (a.setGen g x) = (meltS G a).setGen g x := by
  have e : melt G (a.gens.setIfInBounds g x) = (melt G a.gens).setIfInBounds g x := by
    apply Array.ext_getElem?
    intro i
    rw [melt_get, Array.getElem?_setIfInBounds, Array.getElem?_setIfInBounds, melt_get]
    have hs : (melt G a.gens).size = a.gens.size := by unfold melt; rw [Array.size_mapIdx]
    rw [hs]
    by_cases hi : g = i
    · subst hi
      rw [if_pos rfl, if_pos rfl]
      by_cases hl : g < a.gens.size
      · rw [if_pos hl]
        show some (back G[g]? x) = some x
        rw [back_no hn]
      · rw [if_neg hl]; rfl
    · rw [if_neg hi, if_neg hi]
  show ({ a with gens := melt G (a.gens.setIfInBounds g x) } : Shared) = { a with gens := (melt G a.gens).setIfInBounds g x }
  rw [e]
theorem J.set (j : J G a) (hn : ¬ Susp G[g]?) (x : GenState) (hx : ∀ k l c p fs cl, x = .suspended k l c p fs cl → splitAtGen fs = none) : J G (a.setGen g x) where
  size := by
    show G.size ≤ (a.gens.setIfInBounds g x).size
    rw [Array.size_setIfInBounds]; exact j.size
  cold := fun i k l c p fs cl e => by
    have hi : g ≠ i := fun q => by subst q; exact hn ⟨_, _, _, _, _, _, e⟩
    show (a.gens.setIfInBounds g x)[i]? = _
    rw [Array.getElem?_setIfInBounds_ne hi]
    exact j.cold i k l c p fs cl e
  flat := fun i k l c p fs cl e => by
    have e' : (a.gens.setIfInBounds g x)[i]? = some (.suspended k l c p fs cl) := e
    by_cases hi : g = i
    · subst hi
      by_cases hl : g < a.gens.size
      · rw [Array.getElem?_setIfInBounds_self_of_lt hl] at e'
        exact .inr (hx _ _ _ _ _ _ (Option.some.inj e'))
      · rw [Array.getElem?_eq_none (by rw [Array.size_setIfInBounds]; omega)] at e'
        cases e'
    · rw [Array.getElem?_setIfInBounds_ne hi] at e'
      exact j.flat i k l c p fs cl e'
theorem J.push (j : J G a) (c : Code) : J G { a with gens := a.gens.push (.fresh c) } where
  size := by
    show G.size ≤ (a.gens.push (.fresh c)).size
    rw [Array.size_push]; have := j.size; omega
  cold := fun i k l c' p fs cl e => by
    have q := j.cold i k l c' p fs cl e
    have hl := (Array.getElem?_eq_some_iff.mp q).1
    show (a.gens.push (.fresh c))[i]? = _
    rw [Array.getElem?_push, if_neg (by omega)]
    exact q
  flat := fun i k l c' p fs cl e => by
    have e' : (a.gens.push (.fresh c))[i]? = some (.suspended k l c' p fs cl) := e
    rw [Array.getElem?_push] at e'
    split at e'
    · cases e'
    · exact j.flat i k l c' p fs cl e'
theorem melt_push (j : J G a) (c : Code) : meltS G { a with gens := a.gens.push (.fresh c) } = { meltS G a with gens := (meltS G a).gens.push (.fresh c) } := by
  have e : melt G (a.gens.push (.fresh c)) = (melt G a.gens).push (.fresh c) := by
    apply Array.ext_getElem?
    intro i
    have hs : (melt G a.gens).size = a.gens.size := by unfold melt; rw [Array.size_mapIdx]
    rw [melt_get, Array.getElem?_push, Array.getElem?_push, hs, melt_get]
    by_cases hi : i = a.gens.size
    · rw [if_pos hi, if_pos hi]
      show some (back G[i]? (.fresh c)) = _
      rw [back_no]
      rintro ⟨k, l, c', p, fs, cl, q⟩
      have := (Array.getElem?_eq_some_iff.mp q).1
      have := j.size
      omega
    · rw [if_neg hi, if_neg hi]
  show ({ a with gens := melt G (a.gens.push (.fresh c)) } : Shared) = { a with gens := (melt G a.gens).push (.fresh c) }
  rw [e]
theorem melt_size : (meltS G a).gens.size = a.gens.size := by
  show (melt G a.gens).size = _
  unfold melt; rw [Array.size_mapIdx]
theorem melt_seen {st : GenState} (j : J G a) (h : a.gens[g]? = some st) : ∃ st', (meltS G a).gens[g]? = some st' ∧ st'.seen = st.seen := by
  by_cases hs : Susp G[g]?
  · obtain ⟨k, l, c, p, fs, cl, e⟩ := hs
    have q := j.cold g k l c p fs cl e
    rw [h] at q
    cases q
    refine ⟨.suspended k l c p fs cl, ?_, rfl⟩
    show (melt G a.gens)[g]? = _
    rw [melt_get, h, e]
    rfl
  · exact ⟨st, melt_at hs h, rfl⟩
end
theorem flat_state {e : End} (h : flatE e) : ∀ k l c p fs cl, e.genState = .suspended k l c p fs cl → splitAtGen fs = none := by
  intro k l c p fs cl q
  cases e with
  | ret r => cases q
  | susp v g l' k' c' p' fs' => cases q; exact h
theorem melt_runs {M : Model} {G : Array GenState} {Γ : Ctx} {p : Pos} {t : Sem PySem.Fin} {fs : List Frame} {a a' : Shared} {e : End} (h : Runs M Γ p t fs a e a') :
    splitAtGen fs = none → J G a → J G a' ∧ flatE e ∧ Runs M Γ p t fs (meltS G a) e (meltS G a') := by
  induction h with
  | done => exact fun _ j => ⟨j, trivial, .done⟩
  | raise => exact fun _ j => ⟨j, trivial, .raise⟩
  | again hq _ ih => exact fun hf j => let ⟨j1, f1, r1⟩ := ih rfl j; ⟨j1, f1, .again hq r1⟩
  | rule _ ih => exact fun hf j => let ⟨j1, f1, r1⟩ := ih rfl j; ⟨j1, f1, .rule r1⟩
  | «at» _ ih => exact fun hf j => let ⟨j1, f1, r1⟩ := ih rfl j; ⟨j1, f1, .at r1⟩
  | load ho _ ih => exact fun hf j => let ⟨j1, f1, r1⟩ := ih rfl j; ⟨j1, f1, .load ho r1⟩
  | update ho _ ih => exact fun hf j => let ⟨j1, f1, r1⟩ := ih rfl ⟨j.size, j.cold, j.flat⟩; ⟨j1, f1, .update ho r1⟩
  | loadIfAlive _ ih => exact fun hf j => let ⟨j1, f1, r1⟩ := ih rfl j; ⟨j1, f1, .loadIfAlive r1⟩
  | point _ ih => exact fun hf j => let ⟨j1, f1, r1⟩ := ih rfl j; ⟨j1, f1, .point r1⟩
  | alloc _ ih => exact fun hf j => let ⟨j1, f1, r1⟩ := ih rfl ⟨j.size, j.cold, j.flat⟩; ⟨j1, f1, .alloc r1⟩
  | fresh _ ih => exact fun hf j => let ⟨j1, f1, r1⟩ := ih rfl ⟨j.size, j.cold, j.flat⟩; ⟨j1, f1, .fresh r1⟩
  | ask _ ih => exact fun hf j => let ⟨j1, f1, r1⟩ := ih rfl j; ⟨j1, f1, .ask r1⟩
  | choose hn _ ih => exact fun hf j => let ⟨j1, f1, r1⟩ := ih rfl ⟨j.size, j.cold, j.flat⟩; ⟨j1, f1, .choose hn r1⟩
  | os _ ih => exact fun hf j => let ⟨j1, f1, r1⟩ := ih rfl ⟨j.size, j.cold, j.flat⟩; ⟨j1, f1, .os r1⟩
  | handled _ ih => exact fun hf j => let ⟨j1, f1, r1⟩ := ih rfl j; ⟨j1, f1, .handled r1⟩
  | genState hg _ ih =>
    intro hf j
    obtain ⟨j1, f1, r1⟩ := ih rfl j
    obtain ⟨st', e1, e2⟩ := melt_seen j hg
    exact ⟨j1, f1, .genState e1 (by rw [e2]; exact r1)⟩
  | stack _ ih => exact fun hf j => let ⟨j1, f1, r1⟩ := ih rfl j; ⟨j1, f1, .stack r1⟩
  | thread _ ih => exact fun hf j => let ⟨j1, f1, r1⟩ := ih rfl j; ⟨j1, f1, .thread r1⟩
  | newGen _ ih =>
    intro hf j
    obtain ⟨j1, f1, r1⟩ := ih rfl (j.push _)
    rw [melt_push j] at r1
    exact ⟨j1, f1, .newGen (by rw [melt_size]; exact r1)⟩
  | call _ _ ih1 ih2 =>
    intro hf j
    obtain ⟨j1, _, r1⟩ := ih1 rfl j
    obtain ⟨j2, f2, r2⟩ := ih2 rfl j1
    exact ⟨j2, f2, .call r1 r2⟩
  | callSusp _ ih =>
    intro hf j
    obtain ⟨j1, f1, r1⟩ := ih rfl j
    exact ⟨j1, split_app f1 rfl, .callSusp r1⟩
  | yield => exact fun _ j => ⟨j, rfl, .yield⟩
  | resumeFresh hg _ hq _ ih1 ih2 =>
    intro hf j
    have hn := j.not hg (fun _ _ _ _ _ _ q => by cases q)
    obtain ⟨j1, f1, r1⟩ := ih1 rfl (j.set hn .running fun _ _ _ _ _ _ q => by cases q)
    obtain ⟨j2, f2, r2⟩ := ih2 rfl (j1.set hn _ (flat_state f1))
    rw [melt_set hn] at r1 r2
    exact ⟨j2, f2, .resumeFresh (melt_at hn hg) r1 hq r2⟩
  | @resumeSuspended Γ p g r l k s k₀ l₀ c₀ p₀ fs cl e₁ s₁ e s' hg hr hq _ ih1 ih2 =>
    intro hf j
    by_cases hn : Susp (G[g]?)
    · obtain ⟨k, l, c, p, fs, cl, q⟩ := hn
      have z := j.cold _ k l c p fs cl q
      rw [hg] at z
      cases z
      exact absurd hr no_cold
    · have hfl := (j.flat _ _ _ _ _ _ _ hg).resolve_left hn
      obtain ⟨j1, f1, r1⟩ := ih1 hfl (j.set hn .running fun _ _ _ _ _ _ q => by cases q)
      obtain ⟨j2, f2, r2⟩ := ih2 rfl (j1.set hn _ (flat_state f1))
      rw [melt_set hn] at r1 r2
      exact ⟨j2, f2, .resumeSuspended (melt_at hn hg) r1 hq r2⟩
  | resumeJustStarted hg hv _ ih =>
    intro hf j
    obtain ⟨j1, f1, r1⟩ := ih rfl j
    exact ⟨j1, f1, .resumeJustStarted (melt_at (j.not hg fun _ _ _ _ _ _ q => by cases q) hg) hv r1⟩
  | resumeThrowFresh hg _ ih =>
    intro hf j
    have hn := j.not hg (fun _ _ _ _ _ _ q => by cases q)
    obtain ⟨j1, f1, r1⟩ := ih rfl (j.set hn .finished fun _ _ _ _ _ _ q => by cases q)
    rw [melt_set hn] at r1
    exact ⟨j1, f1, .resumeThrowFresh (melt_at hn hg) r1⟩
  | resumeRunning hg _ ih =>
    intro hf j
    obtain ⟨j1, f1, r1⟩ := ih rfl j
    exact ⟨j1, f1, .resumeRunning (melt_at (j.not hg fun _ _ _ _ _ _ q => by cases q) hg) r1⟩
  | resumeFinished hg _ ih =>
    intro hf j
    obtain ⟨j1, f1, r1⟩ := ih rfl j
    exact ⟨j1, f1, .resumeFinished (melt_at (j.not hg fun _ _ _ _ _ _ q => by cases q) hg) r1⟩
  | segRet _ _ ih1 ih2 =>
    intro hf j
    obtain ⟨j1, _, r1⟩ := ih1 rfl j
    obtain ⟨j2, f2, r2⟩ := ih2 (split_ret hf) j1
    exact ⟨j2, f2, .segRet r1 r2⟩
  | segGen _ _ _ _ => intro hf; cases hf
  | segSuspOut hs _ ih =>
    intro hf j
    obtain ⟨j1, f1, r1⟩ := ih rfl j
    exact ⟨j1, split_app f1 hs, .segSuspOut hs r1⟩
  | segSuspGen hs _ _ _ _ _ => intro hf; rw [hs] at hf; cases hf

theorem melt_wp {α : Type} {M : Model} {Γ : Ctx} {G : Array GenState} (t : Sem α) : ∀ (Q : α → Pos → Shared → Prop) (E : Value → Pos → Shared → Prop) (p : Pos) (a : Shared), J G a → wp M Γ t Q E p a →
    wp M Γ t (fun v p' b => ∃ a', b = meltS G a' ∧ J G a' ∧ Q v p' a') (fun e p' b => ∃ a', b = meltS G a' ∧ J G a' ∧ E e p' a') p (meltS G a) := by
  induction t with
  | pure v => intro Q E p a j h; exact ⟨a, rfl, j, h⟩
  | raise e => intro Q E p a j h; exact ⟨a, rfl, j, h⟩
  | unsupported _ => intro Q E p a j h; exact h
  | finish _ => intro Q E p a j h; exact h
  | rule _ k ih => intro Q E p a j h; exact ih () Q E p a j h
  | «at» p' k ih => intro Q E p a j h; exact ih () Q E p' a j h
  | load b _ k ih => intro Q E p a j h; obtain ⟨o, ho, h⟩ := h; exact ⟨o, ho, ih o Q E p a j h⟩
  | update b _ f k ih => intro Q E p a j h; exact ⟨h.1, ih () Q E p { a with heap := a.heap.update b f } (j.of rfl) h.2⟩
  | loadIfAlive b k ih => intro Q E p a j h; exact ih _ Q E p a j h
  | point _ k ih => intro Q E p a j h; exact ih () Q E p a j h
  | register _ _ => intro Q E p a _ h; exact h
  | alloc o k ih => intro Q E p a j h; exact ih _ Q E p { a with heap := a.heap.push o } (j.of rfl) h
  | fresh k ih => intro Q E p a j h; exact ih _ Q E p { a with toks := a.toks + 1 } (j.of rfl) h
  | ask k ih => intro Q E p a j h; exact ih _ Q E p a j h
  | choose src m k ih => intro Q E p a j h; exact ⟨h.1, ih _ Q E p { a with drawn := a.drawn.bump src } (j.of rfl) h.2⟩
  | os q _ k ih => intro Q E p a j h; exact ih _ Q E p { a with os := (Os.step a.os q).1 } (j.of rfl) h
  | call c hd _ _ k ih =>
    intro Q E p a j h
    obtain ⟨r, s', hr, h⟩ := h
    obtain ⟨j1, _, r1⟩ := melt_runs hr rfl j
    exact ⟨r, _, r1, ih r Q E p s' j1 h⟩
  | handled own k ih => intro Q E p a j h; exact ih _ Q E p a j h
  | genState g k ih =>
    intro Q E p a j h
    obtain ⟨st, hs, h⟩ := h
    obtain ⟨st', e1, e2⟩ := melt_seen j hs
    refine ⟨st', e1, ?_⟩
    rw [e2]
    exact ih _ Q E p a j h
  | newGen c k ih =>
    intro Q E p a j h
    have q := ih _ Q E p _ (j.push c) h
    rw [melt_push j] at q
    rw [Sem.wp, melt_size]
    exact q
  | resume g r _ k ih =>
    intro Q E p a j h
    obtain ⟨res, s', hw, h⟩ := h
    have key : J G s' ∧ Wakes M Γ p g r (meltS G a) res (meltS G s') := by
      unfold Wakes at hw ⊢
      cases hg : a.gens[g]? with
      | none => rw [hg] at hw; exact hw.elim
      | some st =>
        rw [hg] at hw
        cases st with
        | fresh c =>
          have hn := j.not hg (fun _ _ _ _ _ _ q => by cases q)
          rw [melt_at hn hg]
          cases r with
          | throw x =>
            obtain ⟨h1, h2⟩ := hw
            subst h2
            exact ⟨j.set hn _ (fun _ _ _ _ _ _ q => by cases q), h1, melt_set hn _⟩
          | send v =>
            cases v with
            | none =>
              obtain ⟨e₁, s₁, hr, hq, h1, h2⟩ := hw
              obtain ⟨j1, f1, r1⟩ := melt_runs hr rfl (j.set hn .running fun _ _ _ _ _ _ q => by cases q)
              rw [melt_set hn] at r1
              subst h2
              exact ⟨j1.set hn _ (flat_state f1), e₁, _, r1, hq, h1, melt_set hn _⟩
            | _ =>
              obtain ⟨h1, h2⟩ := hw
              subst h2
              exact ⟨j, h1, rfl⟩
        | suspended k₀ l₀ c₀ p₀ fs cl =>
          obtain ⟨e₁, s₁, hr, hq, h1, h2⟩ := hw
          by_cases hn : Susp (G[g]?)
          · obtain ⟨k, l, c, p, fs, cl, q⟩ := hn
            have z := j.cold _ k l c p fs cl q
            rw [hg] at z
            cases z
            exact absurd hr no_cold
          · have hfl := (j.flat _ _ _ _ _ _ _ hg).resolve_left hn
            rw [melt_at hn hg]
            obtain ⟨j1, f1, r1⟩ := melt_runs hr hfl (j.set hn .running fun _ _ _ _ _ _ q => by cases q)
            rw [melt_set hn] at r1
            subst h2
            exact ⟨j1.set hn _ (flat_state f1), e₁, _, r1, hq, h1, melt_set hn _⟩
        | running =>
          obtain ⟨h1, h2⟩ := hw
          subst h2
          rw [melt_at (j.not hg fun _ _ _ _ _ _ q => by cases q) hg]
          exact ⟨j, h1, rfl⟩
        | finished =>
          obtain ⟨h1, h2⟩ := hw
          subst h2
          rw [melt_at (j.not hg fun _ _ _ _ _ _ q => by cases q) hg]
          exact ⟨j, h1, rfl⟩
    exact ⟨res, _, key.2, ih res Q E p s' key.1 h⟩
  | yield _ _ _ _ => intro Q E p a _ h; exact h
  | stack k ih => intro Q E p a j h; exact ih _ Q E p a j h
  | fork _ _ => intro Q E p a _ h; exact h
  | thread k ih => intro Q E p a j h; exact ih _ Q E p a j h
  | await _ _ _ _ _ => intro Q E p a _ h; exact h

theorem ice_back (x : GenState) : back (some x) (ice x) = x := by cases x <;> rfl
theorem melt_ice (s : Shared) : meltS s.gens (iceS s) = s := by
  have e : melt s.gens (s.gens.map ice) = s.gens := by
    apply Array.ext_getElem?
    intro i
    rw [melt_get, Array.getElem?_map]
    cases q : s.gens[i]? with
    | none => rfl
    | some x => exact congrArg some (ice_back x)
  show ({ s with gens := melt s.gens (s.gens.map ice) } : Shared) = s
  rw [e]
theorem J_ice (s : Shared) : J s.gens (iceS s) where
  size := by
    show s.gens.size ≤ (s.gens.map ice).size
    rw [Array.size_map]; exact Nat.le_refl _
  cold := fun i k l c p fs cl e => by
    show (s.gens.map ice)[i]? = _
    rw [Array.getElem?_map, e]
    rfl
  flat := fun i k l c p fs cl e => by
    have e' : (s.gens.map ice)[i]? = some (.suspended k l c p fs cl) := e
    rw [Array.getElem?_map] at e'
    cases q : s.gens[i]? with
    | none => rw [q] at e'; cases e'
    | some x =>
      cases x with
      | suspended k' l' c' p' fs' cl' => exact .inl ⟨_, _, _, _, _, _, rfl⟩
      | _ => rw [q] at e'; cases e'
/-- a run from the state where all that sleeps is frozen is one from the state itself, and what sleeps stays as it is -/
theorem wpAny_melt {α : Type} {M : Model} {A : Around} {t : Sem α} {Q : α → Shared → Prop} {E : Value → Shared → Prop} {s : Shared} (h : wpAny M A t Q E (iceS s)) :
    wpAny M A t (fun v b => ∃ a, b = meltS s.gens a ∧ J s.gens a ∧ Q v a) (fun e b => ∃ a, b = meltS s.gens a ∧ J s.gens a ∧ E e a) s := by
  intro Γ p hΓ
  have q := melt_wp (G := s.gens) t _ _ p (iceS s) (J_ice s) (h Γ p hΓ)
  rw [melt_ice] at q
  exact q
theorem melt_sleeps {G : Array GenState} {a : Shared} {g : Nat} {x : GenState} (j : J G a) (h : G[g]? = some x) (hx : Susp (some x)) : (meltS G a).gens[g]? = some x := by
  obtain ⟨k, l, c, p, fs, cl, e⟩ := hx
  cases e
  show (melt G a.gens)[g]? = _
  rw [melt_get, j.cold _ _ _ _ _ _ _ h, h]
  rfl
open PyProof.Rows in
theorem bare_ice {s : Shared} (h : AllBare s.gens) : AllBare (iceS s).gens := fun y hy => by
  obtain ⟨x, hx, e⟩ := Array.mem_map.mp (show y ∈ s.gens.map ice from hy)
  have := h x hx
  rw [← e]
  cases x <;> exact this
open PyProof.Rows in
theorem bare_melt {G : Array GenState} {a : Shared} (hG : AllBare G) (h : AllBare a.gens) : AllBare (meltS G a).gens := fun y hy => by
  obtain ⟨i, hi, e⟩ := Array.mem_iff_getElem.mp (show y ∈ melt G a.gens from hy)
  have e2 : (melt G a.gens)[i]? = some y := by rw [Array.getElem?_eq_getElem hi, e]
  rw [melt_get] at e2
  cases q : a.gens[i]? with
  | none => rw [q] at e2; cases e2
  | some x =>
    rw [q] at e2
    have e3 : back G[i]? x = y := Option.some.inj e2
    by_cases hs : Susp (G[i]?)
    · obtain ⟨k, l, c, p, fs, cl, z⟩ := hs
      rw [z] at e3
      rw [← e3]
      exact hG _ (Array.mem_of_getElem? z)
    · rw [back_no hs] at e3
      rw [← e3]
      exact h x (Array.mem_of_getElem? q)
end GenF
set_option maxRecDepth 100000
set_option maxHeartbeats 2000000
/-! a stretch of a generator's code, its end told with the place where it stands -/
namespace GenF
open PySem PyProof.Rows
open Sem (wp)
abbrev Ph := End → Shared → Prop
def Stre (M : Model) (A : Around) (Φ : Ph) (c : Code) (t : Sem PySem.Fin) (fs : List Frame) (s : Shared) : Prop :=
  ∀ Γ p, Γ.code = c → Γ.Woken A → ∃ e s', Runs M Γ p t fs s e s' ∧ Φ e s'
section
variable {M : Model} {A : Around} {Φ : Ph} {c : Code} {fs : List Frame} {s : Shared}
theorem st_wrap {α : Type} {m : Sem α} {K : α → Sem PySem.Fin} {H : Value → Sem PySem.Fin} {gd : Bool → Bool} {lv : List Value → List Value}
    (h : wpAny M (A.over c fs) m (fun a s' => Stre M A Φ c (K a) fs s') (fun _ _ => False) s) : Stre M A Φ c (m.wrap K H gd lv) fs s := by
  rintro Γ p rfl hΓ
  exact runs_wrap_of_wp K H gd lv m (h (Γ.over fs) p (hΓ.over fs)) (fun a p' s' h' => h' Γ p' rfl hΓ) fun x p' s' h' => h'.elim
theorem st_bw {α β : Type} {m : Sem α} {K : α → Sem β} {K' : β → Sem PySem.Fin} {H' : Value → Sem PySem.Fin} {gd : Bool → Bool} {lv : List Value → List Value}
    (h : wpAny M (A.over c fs) m (fun a s' => Stre M A Φ c ((K a).wrap K' H' gd lv) fs s') (fun _ _ => False) s) : Stre M A Φ c ((m >>= K).wrap K' H' gd lv) fs s := by
  rw [Sem.bind_eq_wrap', Sem.wrap_wrap]
  exact st_wrap h
theorem st_bind {α : Type} {m : Sem α} {K : α → Sem PySem.Fin} (h : wpAny M (A.over c fs) m (fun a s' => Stre M A Φ c (K a) fs s') (fun _ _ => False) s) : Stre M A Φ c (m >>= K) fs s := by
  rw [Sem.bind_eq_wrap']
  exact st_wrap h
theorem st_at {p' : Pos} {k : Unit → Sem PySem.Fin} (h : Stre M A Φ c (k ()) fs s) : Stre M A Φ c (.at p' k) fs s :=
  st_wrap (m := standAt p') (K := k) (H := .raise) (gd := id) (lv := id) (wpAny_standAt h)
theorem st_point {l : List Value} {k : Unit → Sem PySem.Fin} (h : Stre M A Φ c (k ()) fs s) : Stre M A Φ c (.point l k) fs s :=
  st_wrap (m := point) (K := k) (H := .raise) (gd := id) (lv := fun _ => l) (wpAny_point h)
theorem st_call {c' : Code} {h : Option Value} {g : Bool} {l : List Value} {k : Result → Sem PySem.Fin} (hc : ∀ p, Stre M A Φ c' (M.den c') (.ret k h g l c p [] :: fs) s) : Stre M A Φ c (.call c' h g l k) fs s := by
  rintro Γ p rfl hΓ
  obtain ⟨e, s', hr, he⟩ := hc p (Γ.goto c') p rfl (hΓ.goto c')
  exact ⟨e, s', runs_call_seg hr, he⟩
theorem st_leaf {k : Result → Sem PySem.Fin} {h : Option Value} {g : Bool} {l kp : List Value} {c₁ : Code} {p₁ : Pos} (r : Result) (hk : Stre M A Φ c₁ (k r) fs s) : Stre M A Φ c (leafOf r) (.ret k h g l c₁ p₁ kp :: fs) s := by
  rintro Γ p rfl hΓ
  obtain ⟨e, s', hr, he⟩ := hk (Γ.goto c₁) p₁ rfl (hΓ.goto c₁)
  exact ⟨e, s', Runs.pop r hr, he⟩
theorem st_again {c' : Code} (hq : c'.quiet = true) (hc : Stre M A Φ c' (M.den c') fs s) : Stre M A Φ c (.pure (.again c')) fs s := by
  rintro Γ p rfl hΓ
  obtain ⟨e, s', hr, he⟩ := hc (Γ.goto c') p rfl (hΓ.goto c')
  exact ⟨e, s', Runs.head (c₁ := c') (fun _ _ x => .again hq x) hr, he⟩
theorem st_end (r : Result) (h : Φ (.ret r) s) : Stre M A Φ c (leafOf r) [] s := by
  rintro Γ p rfl _
  exact ⟨.ret r, s, Runs.leaf r, h⟩
theorem st_yield {v : Value} {l : List Value} {k : Resume → Sem PySem.Fin} (hfs : splitAtGen fs = none) (h : ∀ p, Φ (.susp v false l k c p fs) s) : Stre M A Φ c (.yield v false l k) fs s := by
  rintro Γ p rfl _
  exact ⟨_, s, Runs.yield' fs hfs, h p⟩
end
/-- a generator that is woken with None -/
def Wake (M : Model) (A : Around) (gs : GenState) (s : Shared) (Φ : Ph) : Prop := match gs with
  | .fresh c => Stre M A Φ c (M.den c) [] s
  | .suspended k _ c _ fs _ => Stre M A Φ c (k (.send .none)) fs s
  | _ => False
theorem wpAny_wake {M : Model} {A : Around} {E : Value → Shared → Prop} {s : Shared} {g : Nat} {gs : GenState} {l : List Value} {α : Type} {k : GenResult → Sem α} {Q : α → Shared → Prop} {Φ : Ph} (hg : s.gens[g]? = some gs)
    (hw : Wake M A gs (s.setGen g .running) Φ) (h : ∀ e s₁, Φ e s₁ → e.quiet = true ∧ wpAny M A (k e.result) Q E (s₁.setGen g e.genState)) : wpAny M A (.resume g (.send .none) l k) Q E s := by
  intro Γ p hΓ
  rw [Sem.wp_resume]
  have hB : ∀ c, (Γ.wake c p).Woken A := fun c => hΓ.wake c p
  cases gs with
  | fresh c =>
    obtain ⟨e₁, s₁, hr, he⟩ := hw (Γ.wake c p) p rfl (hB c)
    obtain ⟨h1, h2⟩ := h e₁ s₁ he
    exact ⟨_, _, by unfold Wakes; rw [hg]; exact ⟨e₁, s₁, hr, h1, rfl, rfl⟩, h2 Γ p hΓ⟩
  | suspended k₀ l₀ c₀ p₀ fs₀ cl =>
    obtain ⟨e₁, s₁, hr, he⟩ := hw (Γ.wake c₀ p) p₀ rfl (hB c₀)
    obtain ⟨h1, h2⟩ := h e₁ s₁ he
    exact ⟨_, _, by unfold Wakes; rw [hg]; exact ⟨e₁, s₁, hr, h1, rfl, rfl⟩, h2 Γ p hΓ⟩
  | running => exact hw.elim
  | finished => exact hw.elim
/-- what a stretch ends with: an item at a place where it sleeps, or the generator's end -/
def PhY (Y : Value → GenState → Shared → Prop) (Z : Shared → Prop) : Ph := fun e s₁ =>
  (∃ v g l k c p fs, e = .susp v g l k c p fs ∧ e.quiet = true ∧ Y v e.genState s₁) ∨ ∃ r, e = .ret r ∧ (r = .ok (.ret .none) ∨ r = .ok .next) ∧ Z s₁
section
variable {P : Program} {w : World} {A : Around} {E : Value → Shared → Prop} {s : Shared}
theorem next_gen {a : Addr} {g : Nat} {gs : GenState} {Y : Value → GenState → Shared → Prop} {Z : Shared → Prop} {Q : Option Value → Shared → Prop} (hh : A.handled = none)
    (hl : s.heap.NoLimit) (hroom : A.depth < recursionLimit) (hg : s.heap.IsGen a g) (hgs : s.gens[g]? = some gs) (hw : Wake (model P w) A.in1 gs (s.setGen g .running) (PhY Y Z))
    (hY : ∀ v gs' s₁, Susp (some gs') → gs'.bare = true → Y v gs' s₁ → Q (some v) (s₁.setGen g gs'))
    (hZ : ∀ s₁, Z s₁ → ∀ h', (∀ b o, s₁.heap.get? b = some o → h'.get? b = some o) → Q none { s₁.setGen g .finished with heap := h' }) :
    wpAny (model P w) A (pyNext (.ref a)) Q E s := by
  unfold pyNext
  refine wpAny_bind (wpAny_attempt (wpAny_callSpecial?_slot (name := Str.ofString "__next__") hg.typeIs slot_gen_next
    (wpAny_call_entry slot_gen_next hg.typeIs entry_gen_next ?_ (args_gen_next _))))
  show wpAny _ A.in1 (Builtin.Generator.genWake (.ref a) (.send .none)) _ _ s
  unfold Builtin.Generator.genWake
  refine wpAny_bind (wpAny_holding (wpAny_genNumber hg (wpAny_bind (wpAny_genState hgs ?_))))
  have fin : ∀ (e : End) (s₁ : Shared), PhY Y Z e s₁ → e.quiet = true := fun e s₁ h => by
    rcases h with ⟨v, g', l, k, c, p, fs, rfl, hq, _⟩ | ⟨r, rfl, _, _⟩
    · exact hq
    · rfl
  cases gs with
  | running => exact hw.elim
  | finished => exact hw.elim
  | _ =>
    refine wpAny_bind (wpAny_roomToWake hl hroom ?_)
    show wpAny _ A.in1 (.resume g (.send .none) [] _) _ _ s
    refine wpAny_wake hgs hw fun e s₁ he => ⟨fin e s₁ he, ?_⟩
    rcases he with ⟨v, g', l, k, c, p, fs, rfl, hq, hy⟩ | ⟨r, rfl, hr, hz⟩
    · exact wpAny_pure ⟨v, rfl, wpAny_pure (hY v _ s₁ ⟨_, _, _, _, _, _, rfl⟩ (End.bare_of_quiet hq) hy)⟩
    · have hres : End.result (.ret r) = .returned .none := by
        rcases hr with hr | hr <;> rw [hr] <;> rfl
      first | rw [hres] | simp only [hres]
      show wpAny _ A.in1 (newExc (.type "StopIteration") [] >>= _) _ _ _
      refine wpAny_bind ?_
      simp only [newExc, newTuple]
      refine wpAny_bind (wpAny_newObj_type ?_ (by size_fits))
      refine wpAny_bind (m := firstArgMember _ _) (wpAny_of_eq (a := Value.none) (by first | rfl | (simp only [firstArgMember]; rfl)) ?_)
      refine wpAny_newObj_type ?_ (by size_fits)
      simp only [raiseNew]
      refine wpAny_bind (wpAny_bind (wpAny_handled ?_))
      first | rw [show A.in1.handled = none from hh] | rw [hh]
      refine wpAny_throw ?_
      refine wpAny_bind (wpAny_isInstance (T := "StopIteration") (b := true) ⟨_, Heap.get?_push_size _ rfl, rfl⟩ isSubtype_stop ?_)
      exact wpAny_pure (hZ s₁ hz _ fun b o hb => Heap.get?_push_of_some _ (Heap.get?_push_of_some _ hb))
end

/-! ### a for in a generator's body -/
section
variable {M : Model} {A : Around} {Φ : Ph} {c : Code} {fs : List Frame} {s : Shared} {env : Env} {K : Flow → Sem PySem.Fin} {J : Value → Sem PySem.Fin} {gd : Bool → Bool} {lv : List Value → List Value} {target iter : Expr} {body : List Stmt} {pos : Pos}
/-- what a loop's end goes on with -/
def backK (env : Env) (K : Flow → Sem PySem.Fin) (J : Value → Sem PySem.Fin) (gd : Bool → Bool) (lv : List Value → List Value) : Result → Sem PySem.Fin :=
  fun r => ((match r with | .ok f => (.pure f : Sem Flow) | .error e => .raise e).onRaise fun (x : Value) => do
    if (← field x 1) == Value.none then unsupported "frame.own-activation:exception-without-traceback"
    setFlight x env.frame).wrap K J gd lv
theorem st_For (hs : ∀ x, foldedSetIterable iter env x = pure x)
    (h : wpAny M (A.over c fs) (eval iter env) (fun x s1 => wpAny M (A.over c fs) (pyIter x) (fun it s2 => ∀ p, Stre M A Φ (.forLoop target it body [] env) (M.den (.forLoop target it body [] env)) (.ret (backK env K J gd lv) none (gd false) (lv []) c p [] :: fs) s2)
      (fun _ _ => False) s1) (fun _ _ => False) s) : Stre M A Φ c ((exec (.For target iter body [] pos) env).wrap K J gd lv) fs s := by
  rw [exec_For]
  refine st_bw (wpAny_standAt ?_)
  refine st_bw (wpAny_mono h (fun x s1 h1 => ?_) fun _ _ z => z)
  refine st_bw (wpAny_of_eq (hs x) ?_)
  refine st_bw (wpAny_standAt ?_)
  refine st_bw (wpAny_holding (wpAny_mono h1 (fun it s2 h2 => ?_) fun _ _ z => z))
  exact st_call h2
end
section
variable {P : Program} {w : World} {A : Around} {Φ : Ph} {fs : List Frame} {s : Shared} {env : Env} {target : Expr} {it : Value} {body : List Stmt}
def turnK (target : Expr) (it : Value) (body : List Stmt) (env : Env) : Flow → Sem PySem.Fin
  | .next | .cont => .pure (.again (.forLoop target it body [] env))
  | .brk => .pure (.done .next)
  | .ret v => .pure (.done (.ret v))
def turnH (env : Env) : Value → Sem PySem.Fin := fun e => (do noteFrame e env; theTreesLotGoes e : Sem Unit).wrap (fun _ => .raise e) .raise id id
theorem st_forLoop
    (h : wpAny (model P w) (A.over (.forLoop target it body [] env) fs) (pyNext it) (fun r s1 => match r with
      | none => Stre (model P w) A Φ (.block [] env) ((model P w).den (.block [] env)) fs s1
      | some v => wpAny (model P w) (A.over (.forLoop target it body [] env) fs) (letOwnedTupleGo target it v) (fun _ s2 => wpAny (model P w) (A.over (.forLoop target it body [] env) fs) (assign target env v) (fun _ s3 =>
          Stre (model P w) A Φ (.forLoop target it body [] env) ((execs body env).wrap (turnK target it body env) (turnH env) id id) fs s3) (fun _ _ => False) s2) (fun _ _ => False) s1) (fun _ _ => False) s) :
    Stre (model P w) A Φ (.forLoop target it body [] env) ((model P w).den (.forLoop target it body [] env)) fs s := by
  show Stre _ A Φ _ ((forTurn target it body [] env).onRaise (fun x => do noteFrame x env; theTreesLotGoes x)) fs s
  unfold forTurn
  rw [Sem.onRaise_eq_wrap]
  refine st_bw (wpAny_standAt ?_)
  refine st_bw (wpAny_onRaise (wpAny_mono h (fun r s1 h1 => ?_) fun _ _ z => z.elim))
  cases r with
  | none => exact st_again rfl h1
  | some v =>
    refine st_bw (wpAny_mono h1 (fun _ s2 h2 => ?_) fun _ _ z => z)
    refine st_bw (wpAny_mono h2 (fun _ s3 h3 => ?_) fun _ _ z => z)
    rw [Sem.bind_eq_wrap', Sem.wrap_wrap]
    have e : (fun f => Sem.wrap (fun a => (.pure a : Sem PySem.Fin)) (fun e => ((do noteFrame e env; theTreesLotGoes e : Sem Unit).bind fun _ => (.raise e : Sem PySem.Fin))) id id (match f with
        | .next | .cont => again (.forLoop target it body [] env)
        | .brk => pure (.done .next)
        | .ret v => pure (.done (.ret v)))) = turnK target it body env := by
      funext f
      cases f <;> rfl
    have e2 : (fun e => Sem.wrap (fun a => (.pure a : Sem PySem.Fin)) (fun e => ((do noteFrame e env; theTreesLotGoes e : Sem Unit).bind fun _ => (.raise e : Sem PySem.Fin))) id id (Sem.raise e : Sem PySem.Fin)) = turnH env := by
      funext e
      unfold turnH
      rw [← Sem.bind_eq_wrap]
      rfl
    first
      | exact (show Stre _ A Φ _ ((execs body env).wrap _ _ id id) fs s3 from by
          rw [← e, ← e2] at h3
          exact h3)
      | (rw [← e, ← e2] at h3; exact h3)
theorem st_block0 {k : Result → Sem PySem.Fin} {h : Option Value} {g : Bool} {l kp : List Value} {c₁ : Code} {p₁ : Pos} (hk : Stre (model P w) A Φ c₁ (k (.ok .next)) fs s) :
    Stre (model P w) A Φ (.block [] env) ((model P w).den (.block [] env)) (.ret k h g l c₁ p₁ kp :: fs) s := by
  show Stre _ A Φ _ (do return Fin.done (← (execs [] env).onRaise (fun x => do noteFrame x env; theTreesLotGoes x))) _ s
  exact st_leaf (.ok .next) hk
end
end GenF
set_option maxRecDepth 100000
set_option maxHeartbeats 2000000
namespace L2
open PySem PySem.Spec PyProof.Rows GenW GenF
/-- lists and tuples alone -/
def DataHp (D : Hp) : Prop := ∀ b o, D b = some o → (∃ xs, o = HO.tup xs) ∨ ∃ xs, o = HO.lst xs
def ExtH (D H : Hp) : Prop := ∀ b o, D b = some o → H b = some o
open Classical in
/-- the data, and all other things as they are -/
noncomputable def fullH (base : Heap) (fs own : List Addr) (D : Hp) (h : Heap) : Hp := fun b => match D b with
  | some o => some o
  | none => if b ∈ own ∨ b ∈ fs ∨ (base.get? b).isSome = true then none else (h.get? b).map fun o => HO.ext fun h' => h'.get? b = some o
section
variable {base : Heap} {fs own : List Addr} {D : Hp} {h : Heap} {b : Addr} {P : Program} {w : World}
theorem full_data {o : HO} (e : D b = some o) : fullH base fs own D h b = some o := by unfold fullH; rw [e]
theorem full_ext (e : D b = none) (h1 : b ∉ own) (h2 : b ∉ fs) (h3 : base.get? b = none) {o : Obj} (ho : h.get? b = some o) : fullH base fs own D h b = some (.ext fun h' => h'.get? b = some o) := by
  unfold fullH
  rw [e]
  dsimp only
  rw [if_neg (by rintro (z | z | z); exact h1 z; exact h2 z; rw [h3] at z; cases z), ho]
  rfl
theorem full_none (e : D b = none) (h1 : b ∈ own ∨ b ∈ fs ∨ (base.get? b).isSome = true ∨ h.get? b = none) : fullH base fs own D h b = none := by
  unfold fullH
  rw [e]
  dsimp only
  split
  · rfl
  · rename_i hn
    rcases h1 with z | z | z | z
    · exact absurd (.inl z) hn
    · exact absurd (.inr (.inl z)) hn
    · exact absurd (.inr (.inr z)) hn
    · rw [z]; rfl
theorem full_cases {o : HO} (e : fullH base fs own D h b = some o) : D b = some o ∨ (D b = none ∧ b ∉ own ∧ b ∉ fs ∧ base.get? b = none ∧ ∃ u, h.get? b = some u ∧ o = .ext fun h' => h'.get? b = some u) := by
  unfold fullH at e
  cases q : D b with
  | some o' => rw [q] at e; exact .inl e
  | none =>
    rw [q] at e
    dsimp only at e
    split at e
    · cases e
    · rename_i hn
      cases r : h.get? b with
      | none => rw [r] at e; cases e
      | some u =>
        rw [r] at e
        refine .inr ⟨rfl, fun z => hn (.inl z), fun z => hn (.inr (.inl z)), ?_, u, rfl, (Option.some.inj e).symm⟩
        cases z : base.get? b with
        | none => rfl
        | some _ => exact absurd (.inr (.inr (by rw [z]; rfl))) hn
theorem full_sub {own' : List Addr} (hs : ∀ x ∈ own, x ∈ own') : Same (fullH base fs own' D h) (fullH base fs own D h) := fun c o e => by
  rcases full_cases e with z | ⟨z1, z2, z3, z4, u, z5, rfl⟩
  · exact full_data z
  · exact full_ext z1 (fun m => z2 (hs c m)) z3 z4 z5
theorem obj_flat {H H' : Hp} {o : HO} (ho : (∃ xs, o = HO.tup xs) ∨ ∃ xs, o = HO.lst xs) (x : ObjOk P w H h b o) : ObjOk P w H' h b o := by
  rcases ho with ⟨xs, rfl⟩ | ⟨xs, rfl⟩ <;> exact x
theorem full_hok (hD : DataHp D) (hd : HOk P w D h) : HOk P w (fullH base fs own D h) h := fun c o e => by
  rcases full_cases e with z | ⟨z1, z2, z3, z4, u, z5, rfl⟩
  · exact obj_flat (hD c o z) (hd c o z)
  · exact ⟨z5, ⟨u, z5⟩, fun h1 h2 p k => k u p⟩
end
/-- what a walk of a generator is told of: the data that it reads, how many items, what they are -/
structure GPar where
  P : Program
  w : World
  base : Heap
  fs : List Addr
  D : Hp
  sc : Shared
  N : Nat
  item : Nat → V → Hp → Prop
structure WkOk (G : GPar) (ow : List (Addr × Obj)) (s : Shared) : Prop where
  os : s.os = G.sc.os
  bare : AllBare s.gens
  base : ∀ b o, G.base.get? b = some o → s.heap.get? b = some o
  slot : ∀ b o, b ∈ G.fs → G.sc.heap.get? b = some o → ∃ sl, s.heap.get? b = some { o with slots := sl }
  data : HOk G.P G.w G.D s.heap
  own : ∀ p ∈ ow, s.heap.get? p.1 = some p.2
structure Kp (G : GPar) (ow ow' : List (Addr × Obj)) (s s' : Shared) : Prop where
  os : s'.os = G.sc.os
  bare : AllBare s'.gens
  keep : ∀ b o, s.heap.get? b = some o → (∀ p ∈ ow, p.1 ≠ b) → b ∉ G.fs → G.D b = none → s'.heap.get? b = some o
  slot : ∀ b o, b ∈ G.fs → s.heap.get? b = some o → ∃ sl, s'.heap.get? b = some { o with slots := sl }
  data : HOk G.P G.w G.D s'.heap
  own : ∀ p ∈ ow', s'.heap.get? p.1 = some p.2 ∧ G.sc.heap.objs.size ≤ p.1 ∧ (∀ v, p.2.data ≠ .cell v) ∧ ((∃ q ∈ ow, q.1 = p.1) ∨ s.heap.get? p.1 = none)
/-- what is new: tuples -/
def NewIn (s : Shared) (Hn H : Hp) : Prop := ∀ b xs, s.heap.get? b = none → Hn b = some (.tup xs) → H b = some (.tup xs)
structure Gave (G : GPar) (j : Nat) (ow' : List (Addr × Obj)) (s : Shared) (v : Value) (s' : Shared) (Hn : Hp) (y : V) : Prop where
  rel : RelV y v
  new : ∀ b xs, s.heap.get? b = none → Hn b = some (.tup xs) → ObjOk G.P G.w Hn s'.heap b (.tup xs) ∧ ∀ p ∈ ow', p.1 ≠ b
  item : ∀ H, ExtH G.D H → NewIn s Hn H → G.item j y H
/-- it sleeps at gs, its own things are ow, m items are to come -/
def Live (A : Around) (G : GPar) : Nat → List (Addr × Obj) → GenState → Prop
  | 0, ow, gs => ∀ s, WkOk G ow s → Wake (model G.P G.w) A gs s (PhY (fun _ _ _ => False) fun s' => Kp G ow [] s s')
  | m + 1, ow, gs => ∀ s, WkOk G ow s → Wake (model G.P G.w) A gs s (PhY (fun v gs' s' => ∃ ow' y Hn, Kp G ow ow' s s' ∧ Gave G (G.N - (m + 1)) ow' s v s' Hn y ∧ Live A G m ow' gs') fun _ => False)
def PhOf (A : Around) (G : GPar) (m : Nat) (ow : List (Addr × Obj)) (s : Shared) : Ph := match m with
  | 0 => PhY (fun _ _ _ => False) fun s' => Kp G ow [] s s'
  | m + 1 => PhY (fun v gs' s' => ∃ ow' y Hn, Kp G ow ow' s s' ∧ Gave G (G.N - (m + 1)) ow' s v s' Hn y ∧ Live A G m ow' gs') fun _ => False
theorem live_iff {A : Around} {G : GPar} {m : Nat} {ow : List (Addr × Obj)} {gs : GenState} : Live A G m ow gs ↔ ∀ s, WkOk G ow s → Wake (model G.P G.w) A gs s (PhOf A G m ow s) := by
  cases m <;> exact Iff.rfl

/-- the context of a generator's body, of which G tells -/
structure GCx (X : Cx) (G : GPar) : Prop where
  ok : X.Ok
  eP : X.prog = G.P
  ew : X.w = G.w
  eb : X.base = G.base
  ef : X.fs = G.fs
  es : X.s_0 = G.sc
  h0 : X.H_0 = fun _ => none
  ex : ∀ b o, X.s_0.heap.get? b = some o → b ∉ X.fs → b ∉ X.ex → X.base.get? b = some o
  nc : X.env.cells = []
  pn : X.pn = []
  xe : X.xe = fun _ _ => False
  calm : X.calm = true
  dat : DataHp G.D
  dok : HOk G.P G.w G.D G.sc.heap
  dfs : ∀ b ∈ X.fs, G.D b = none
  dba : ∀ b, (X.base.get? b).isSome = true → G.D b = none
theorem GCx.dyoung {X : Cx} {G : GPar} (g : GCx X G) {b : Addr} (h : G.sc.heap.objs.size ≤ b) : G.D b = none := by
  cases e : G.D b with
  | none => rfl
  | some o => exact absurd (Nat.lt_of_lt_of_le (g.dok b o e).lt h) (Nat.lt_irrefl _)
theorem inv_woken {X : Cx} {G : GPar} (g : GCx X G) {σ : L2.St} {H : Hp} {s0 s : Shared} {own : List Addr} {ow : List (Addr × Obj)} (I : Inv X [] σ H s0) (W : WkOk G ow s) (hL : X.env.locals ∈ own) (hD : ∀ b ∈ own, G.D b = none)
    (hk : ∀ o, s0.heap.get? X.env.locals = some o → s.heap.get? X.env.locals = some o) : Inv X [] σ (fullH X.base X.fs own G.D s.heap) s := by
  have hb : ∀ b o, X.s_0.heap.get? b = some o → b ∉ X.ex → b ∈ X.fs ∨ X.base.get? b = some o := fun b o e hx => by
    by_cases hf : b ∈ X.fs
    · exact .inl hf
    · exact .inr (g.ex b o e hf hx)
  have wb : ∀ b o, X.base.get? b = some o → s.heap.get? b = some o := fun b o e => W.base b o (by rw [← g.eb]; exact e)
  have ws : ∀ b o, b ∈ X.fs → X.s_0.heap.get? b = some o → ∃ sl, s.heap.get? b = some { o with slots := sl } := fun b o hf e => W.slot b o (by rw [← g.ef]; exact hf) (by rw [← g.es]; exact e)
  refine ⟨g.ok, by rw [W.os, g.es], W.bare, ⟨fun b o e _ hf hx => ?_, fun b o e _ hf hx => ws b o hf e, fun b o e _ hx => ?_, fun b o e hx => ?_, fun b xs e => ?_, fun b o u e => ?_, fun b ps e => ?_⟩, ?_, fun x c e => ?_, ?_, fun x c e => ?_, fun p hp => ?_, ?_, I.len⟩
  · rcases hb b o e hx with z | z
    · exact absurd z hf
    · exact wb b o z
  · rcases hb b o e hx with z | z
    · exact full_none (g.dfs b z) (.inr (.inl z))
    · exact full_none (g.dba b (by rw [z]; rfl)) (.inr (.inr (.inl (by rw [z]; rfl))))
  · rcases hb b o e hx with z | z
    · obtain ⟨sl, q⟩ := ws b o z e
      exact ⟨_, q⟩
    · exact ⟨o, wb b o z⟩
  · rw [g.h0] at e; cases e
  · rw [g.h0] at e; cases e
  · rw [g.h0] at e; cases e
  · obtain ⟨m, ⟨o, es, ep, ho, r⟩, hl⟩ := I.loc
    refine ⟨m, ⟨o, es, ep, hk o ho, r⟩, fun i x v e1 e2 e3 => ?_⟩
    obtain ⟨u, ru, l⟩ := hl i x v e1 e2 e3
    refine ⟨u, ru, ?_⟩
    rcases l with l | ⟨_, c, e, _⟩
    · exact .inl l
    · rw [g.nc] at e; cases e
  · rw [g.nc] at e; cases e
  · exact full_none (hD _ hL) (.inl hL)
  · rw [g.nc] at e; cases e
  · rw [g.pn] at hp; cases hp
  · rw [g.eP, g.ew]
    exact full_hok g.dat W.data
/-- behind a stretch -/
theorem kp_of {X : Cx} {G : GPar} (g : GCx X G) {pins : List (Addr × Obj)} {σ : L2.St} {H : Hp} {s0 s : Shared} {own : List Addr} {ow ow' : List (Addr × Obj)} (I : Inv X pins σ H s) (W : WkOk G ow s0) (hs : Same (fullH X.base X.fs own G.D s0.heap) H)
    (hown : ∀ b ∈ own, (∃ q ∈ ow, q.1 = b) ∨ s0.heap.get? b = none) (how : ∀ p ∈ ow', p.1 ∈ own ∧ s.heap.get? p.1 = some p.2 ∧ G.sc.heap.objs.size ≤ p.1 ∧ ∀ v, p.2.data ≠ .cell v) : Kp G ow ow' s0 s where
  os := by rw [I.os, g.es]
  bare := I.bare
  keep := fun b o e h1 h2 h3 => by
    rw [← g.ef] at h2
    cases z : X.base.get? b with
    | some o' =>
      have e1 := W.base b o' (by rw [← g.eb]; exact z)
      rw [e1] at e
      cases e
      exact I.bk b _ z
    | none =>
      have hno : b ∉ own := fun m => by
        rcases hown b m with ⟨q, hq, rfl⟩ | q
        · exact h1 q hq rfl
        · rw [q] at e; cases e
      have := I.hok b _ (hs b _ (full_ext h3 hno h2 z e))
      exact this.1
  slot := fun b o hf e => by
    have hf' : b ∈ X.fs := by rw [g.ef]; exact hf
    obtain ⟨_, o0, e0, _⟩ := g.ok.funs.mem hf'
    obtain ⟨sl1, q1⟩ := W.slot b o0 hf (by rw [← g.es]; exact e0)
    rw [q1] at e
    cases e
    obtain ⟨sl2, q2⟩ := I.base.slot b o0 e0 (by rw [g.h0]) hf' (fun z => g.ok.exfs b z hf')
    exact ⟨sl2, q2⟩
  data := fun b o e => by
    have q := I.hok b o (hs b o (full_data e))
    rw [g.eP, g.ew] at q
    exact obj_flat (g.dat b o e) q
  own := fun p hp => by
    obtain ⟨h1, h2, h3, h4⟩ := how p hp
    exact ⟨h2, h3, h4, hown _ h1⟩
end L2
set_option maxRecDepth 100000
set_option maxHeartbeats 2000000
namespace GenF
open PySem PyProof.Rows
open Sem (wp)
section
variable {M : Model} {A : Around} {Φ : Ph} {c : Code} {fs : List Frame} {s : Shared} {env : Env} {K : Flow → Sem PySem.Fin} {J : Value → Sem PySem.Fin} {gd : Bool → Bool} {lv : List Value → List Value}
theorem st_yieldG {v : Value} {g : Bool} {l : List Value} {k : Resume → Sem PySem.Fin} (hfs : splitAtGen fs = none) (h : ∀ p, Φ (.susp v g l k c p fs) s) : Stre M A Φ c (.yield v g l k) fs s := by
  rintro Γ p rfl _
  exact ⟨_, s, Runs.yield' fs hfs, h p⟩
theorem st_Expr_Yield {e : Expr} {ypos pos : Pos} (hfs : splitAtGen fs = none) (hgd : gd false = false)
    (h : wpAny M (A.over c fs) (eval e env) (fun v s' => ∀ (g : Bool) (l : List Value) (k : Resume → Sem PySem.Fin) (p : Pos), g = false → (∀ Φ' s'', Stre M A Φ' c (K .next) fs s'' → Stre M A Φ' c (k (.send .none)) fs s'') → Φ (.susp v g l k c p fs) s') (fun _ _ => False) s)
    (hco : env.scope.isCoroutine = false) (hi : interactive env = false) : Stre M A Φ c ((exec (.Expr (.Yield (some e) ypos) pos) env).wrap K J gd lv) fs s := by
  rw [exec_Expr env _ pos hi rfl]
  show Stre M A Φ c (.at pos fun _ => ((eval e env >>= fun v => (standAt ypos >>= fun _ => yieldOut env v)) >>= fun x => dropValue (.Yield (some e) ypos) pos x).wrap K J gd lv) fs s
  have hy : ∀ v, yieldOut env v = yieldValue v := fun v => by simp only [yieldOut, hco, Bool.false_eq_true, if_false]
  simp only [hy]
  refine st_at ?_
  rw [Sem.bind_eq_wrap', Sem.bind_eq_wrap', Sem.wrap_wrap, Sem.wrap_wrap]
  refine st_wrap (wpAny_mono h (fun v s' h' => ?_) fun _ _ x => x)
  refine st_at (st_yieldG hfs fun p => h' _ _ _ p ?_ ?_)
  · exact hgd
  · exact fun Φ' s'' hx => hx
end
end GenF
namespace L2
open PySem PySem.Spec PyProof.Rows GenW GenF
section
variable {X : Cx} {G : GPar} {tg e : Expr} {yp pp : Pos} {fp : List Addr} {it : Addr} {tn : Nat → Heap → Prop} {J₀ : It} {g : TG} {te : TE} {σs : Nat → L2.St} {A : Around} {fs0 : List Frame}
theorem live_loop (gc : GCx X G) (T : Turn X.prog X.w X.K tg J₀ fp it tn) (hg : PG X tg g) (he : PE X e te) (hco : X.env.scope.isCoroutine = false) (hi : interactive X.env = false)
    (hov : A.over (.forLoop tg (.ref it) [.Expr (.Yield (some e) yp) pp] [] X.env) fs0 = X.A) (hsp : splitAtGen fs0 = none) (hgd : fs0.any Frame.guarded = false) (hfp : ∀ b ∈ fp, b ≠ X.env.locals ∧ b ∉ X.fs ∧ X.s_0.heap.objs.size ≤ b)
    (rdj : ∀ j, j < G.N → ∀ H, ExtH G.D H → J₀.go j H ∧ ∀ x H', J₀.yld j H x H' → g x (σs j) H' fun σ2 H2 => σ2 = σs (j + 1) ∧ te σ2 H2 fun y H3 => Same H H3 ∧ ∀ H4, ExtH G.D H4 → (∀ b xs, H b = none → H3 b = some (.tup xs) → H4 b = some (.tup xs)) → G.item j y H4)
    (rdN : ∀ H, ExtH G.D H → J₀.stop G.N H)
    (hend : ∀ (Φ : Ph) (s : Shared), (∀ r : Result, (r = .ok (.ret .none) ∨ r = .ok .next) → Φ (.ret r) s) → Stre (model X.prog X.w) A Φ (.block [] X.env) ((model X.prog X.w).den (.block [] X.env)) fs0 s) :
    ∀ (m j : Nat), m + j = G.N → ∀ (ow : List (Addr × Obj)) (s0 s : Shared) (H : Hp), Inv X [] (σs j) H s → Same (fullH X.base X.fs (X.env.locals :: fp) G.D s0.heap) H → tn j s.heap → (∀ b ∈ fp, H b = none) → WkOk G ow s0 →
      (∀ b ∈ X.env.locals :: fp, (∃ q ∈ ow, q.1 = b) ∨ s0.heap.get? b = none) →
      Stre (model X.prog X.w) A (PhOf A G m ow s0) (.forLoop tg (.ref it) [.Expr (.Yield (some e) yp) pp] [] X.env) ((model X.prog X.w).den (.forLoop tg (.ref it) [.Expr (.Yield (some e) yp) pp] [] X.env)) fs0 s := by
  have stat : ∀ {H' : Hp}, (∀ b ∈ fp, H' b = none) → ∀ b ∈ fp, FpOk X [] H' b := fun hn b hb => by
    obtain ⟨h1, h2, h3⟩ := hfp b hb
    exact ⟨hn b hb, h1, h2, .inr h3, fun x c z => (by rw [gc.nc] at z; cases z), fun p hp => (by rw [gc.pn] at hp; cases hp)⟩
  have xf : ∀ {x : Value} {s' : Shared}, X.xe x s' → False := fun {x s'} h => by rw [gc.xe] at h; exact h
  have ext : ∀ {s0 : Shared} {H : Hp}, Same (fullH X.base X.fs (X.env.locals :: fp) G.D s0.heap) H → ExtH G.D H := fun hs b o q => hs b o (full_data q)
  have yL : G.sc.heap.objs.size ≤ X.env.locals := by rw [← gc.es]; exact gc.ok.above
  have young : ∀ b ∈ X.env.locals :: fp, G.sc.heap.objs.size ≤ b := fun b hb => by
    rcases List.mem_cons.mp hb with rfl | hb
    · exact yL
    · rw [← gc.es]; exact (hfp b hb).2.2
  intro m
  induction m with
  | zero =>
    intro j hj ow s0 s H I hs ht hn W hown
    have ej : j = G.N := by omega
    refine st_forLoop ?_
    rw [hov]
    refine wpAny_mono (T.done X rfl rfl rfl gc.calm j [] s (σs j) H (fun _ _ => False) I (stat hn) ht (by rw [ej]; exact rdN H (ext hs))) (fun r s1 ⟨hr, I1⟩ => ?_) fun _ _ z => z
    subst hr
    exact hend _ s1 fun r hr => .inr ⟨r, rfl, hr, kp_of gc I1 W hs hown fun p hp => (by cases hp)⟩
  | succ m ih =>
    intro j hj ow s0 s H I hs ht hn W hown
    obtain ⟨hgo, hrd⟩ := rdj j (by omega) H (ext hs)
    refine st_forLoop ?_
    rw [hov]
    refine wpAny_mono (T.item X rfl rfl rfl gc.calm j [] s (σs j) H (fun _ _ => False) I (stat hn) ht hgo) (fun r s1 ⟨u, hr, h1⟩ => ?_) fun _ _ z => z
    subst hr
    refine wpAny_mono h1 (fun _ s2 ⟨x, H2, I2, r2, y2, t2, n2⟩ => ?_) fun _ _ z => z
    have I2' := I2.pinned (stat n2) (T.obj _ _ t2)
    refine wpAny_mono (hg.run _ s2 (σs j) H2 x u _ I2' r2 (hrd x H2 y2)) (fun _ s3 ⟨σ3, H3, I3, e3, q3⟩ => ?_) fun _ _ z => xf z
    subst e3
    rw [execs_cons_wrap]
    refine st_Expr_Yield hsp rfl ?_ hco hi
    rw [hov]
    refine wpAny_mono (he.run _ s3 _ H3 _ I3 q3) (fun v s4 ⟨y, H4, I4, rv, sm, it4⟩ => ?_) fun _ _ z => xf z
    intro gg l k p hgg hk
    have kpin : ∀ b ∈ fp, ∀ o, s2.heap.get? b = some o → s4.heap.get? b = some o ∧ H4 b = none := fun b hb o q =>
      let z := I4.pin (b, o) (List.mem_append_right _ (List.mem_append_right _ (mem_pinsAt hb q)))
      ⟨z.1, z.2.1⟩
    have n4 : ∀ b ∈ fp, H4 b = none := fun b hb => by
      obtain ⟨o, q, _⟩ := T.obj _ _ t2 b hb
      exact (kpin b hb o q).2
    have t4 : tn (j + 1) s4.heap := T.keep _ _ _ t2 fun b hb o q => (kpin b hb o q).1
    have hs4 : Same (fullH X.base X.fs (X.env.locals :: fp) G.D s0.heap) H4 := fun b o q => sm b o (hs b o q)
    have nown : ∀ b ∈ X.env.locals :: fp, H4 b = none := fun b hb => by
      rcases List.mem_cons.mp hb with rfl | hb
      · exact I4.free
      · exact n4 b hb
    have exo : ∀ b ∈ X.env.locals :: fp, ∃ o, s4.heap.get? b = some o ∧ ∀ v, o.data ≠ .cell v := fun b hb => by
      rcases List.mem_cons.mp hb with rfl | hb
      · obtain ⟨mm, ⟨o, es, ep, ho, hd, _⟩, _⟩ := I4.loc
        exact ⟨o, ho, fun v q => by rw [hd] at q; cases q⟩
      · exact T.obj _ _ t4 b hb
    have hgen : End.quiet (.susp v gg l k (.forLoop tg (.ref it) [.Expr (.Yield (some e) yp) pp] [] X.env) p fs0) = true := by
      simp [End.quiet, hgg, hgd]
    refine .inl ⟨v, gg, l, k, _, p, fs0, rfl, hgen, pinsAt (X.env.locals :: fp) s4.heap, y, H4, kp_of gc I4 W hs4 hown (fun p hp => ?_), ⟨rv, fun b xs hb hq => ⟨?_, fun p hp hpb => ?_⟩, fun HH hE hNw => ?_⟩, live_iff.mpr fun s5 W5 => ?_⟩
    · obtain ⟨h1, h2⟩ := of_pinsAt hp
      obtain ⟨o, q1, q2⟩ := exo p.1 h1
      rw [h2] at q1
      cases q1
      exact ⟨h1, h2, young p.1 h1, q2⟩
    · have q := I4.hok b _ hq
      rw [gc.eP, gc.ew] at q
      exact q
    · have q := nown p.1 (of_pinsAt hp).1
      rw [hpb, hq] at q
      cases q
    · have ej : G.N - (m + 1) = j := by omega
      rw [ej]
      refine it4 HH hE fun b xs hb hq => hNw b xs ?_ hq
      cases z : s0.heap.get? b with
      | none => rfl
      | some o =>
        exfalso
        have d0 : G.D b = none := by
          cases q : G.D b with
          | none => rfl
          | some o' => rw [ext hs b o' q] at hb; cases hb
        have o0 : b ∉ X.env.locals :: fp := fun hm => by rw [nown b hm] at hq; cases hq
        have f0 : b ∉ X.fs := fun hm => by
          obtain ⟨_, u0, e0, _⟩ := gc.ok.funs.mem hm
          have := I4.base.free b u0 e0 (by rw [gc.h0]) (fun z => gc.ok.exfs b z hm)
          rw [this] at hq
          cases hq
        have b0 : X.base.get? b = none := by
          cases q : X.base.get? b with
          | none => rfl
          | some u0 =>
            have := (I4.bs b u0 q).2
            rw [this] at hq
            cases hq
        rw [hs b _ (full_ext d0 o0 f0 b0 z)] at hb
        cases hb
    · show Stre (model G.P G.w) A (PhOf A G m (pinsAt (X.env.locals :: fp) s4.heap) s5) (.forLoop tg (.ref it) [.Expr (.Yield (some e) yp) pp] [] X.env) (k (.send .none)) fs0 s5
      rw [← gc.eP, ← gc.ew]
      refine hk _ s5 ?_
      show Stre (model X.prog X.w) A _ _ (.pure (.again (.forLoop tg (.ref it) [.Expr (.Yield (some e) yp) pp] [] X.env))) fs0 s5
      have ow5 : ∀ b ∈ X.env.locals :: fp, ∀ o, s4.heap.get? b = some o → s5.heap.get? b = some o := fun b hb o q => W5.own (b, o) (mem_pinsAt hb q)
      refine st_again rfl (ih (j + 1) (by omega) _ s5 s5 _ (inv_woken gc (I4.pins_of fun p hp => (by cases hp)) W5 List.mem_cons_self (fun b hb => gc.dyoung (young b hb)) (ow5 _ List.mem_cons_self)) (fun _ _ q => q) (T.keep _ _ _ t4 fun b hb o q => ow5 b (List.mem_cons_of_mem _ hb) o q)
        (fun b hb => full_none (gc.dyoung (young b (List.mem_cons_of_mem _ hb))) (.inl (List.mem_cons_of_mem _ hb))) W5 fun b hb => ?_)
      obtain ⟨o, q, _⟩ := exo b hb
      exact .inl ⟨(b, o), mem_pinsAt hb q, rfl⟩
end
end L2
set_option maxRecDepth 100000
set_option maxHeartbeats 2000000
namespace GenF
open PySem PyProof.Rows
open Sem (wp)
theorem st_func {P : Program} {w : World} {A : Around} {Φ : Ph} {fs : List Frame} {s : Shared} {env : Env} {body : List Stmt}
    (h : Stre (model P w) A Φ (.func body env) ((execs body env).wrap (fun f => .pure (.done (.ret (match f with | .ret v => v | _ => .none)))) (fun e => (leaving env e).wrap (fun _ => .raise e) .raise id id) id id) fs s) :
    Stre (model P w) A Φ (.func body env) ((model P w).den (.func body env)) fs s := by
  show Stre _ A Φ _ (.point [] fun _ => ((execs body env).onRaise (leaving env)) >>= _) fs s
  refine st_point ?_
  rw [Sem.onRaise_eq_wrap, Sem.bind_eq_wrap', Sem.wrap_wrap]
  rw [Sem.wrap_congr (execs body env) _ _ (K' := fun f => .pure (.done (.ret (match f with | .ret v => v | _ => .none))))
    (H' := fun e => (leaving env e).wrap (fun _ => .raise e) .raise id id) (fun f => by cases f <;> rfl)
    (fun e => by rw [Sem.bind_eq_wrap, Sem.wrap_wrap]; rfl)]
  exact h
end GenF
namespace L2
open PySem PySem.Spec PyProof.Rows GenW GenF
/-- the context of a generator's body -/
abbrev gx (P : Program) (w : World) (K : PySem.W.Frag) (mg : Str → Option Value) (base : Heap) (N : List Str) (qual : Str) (scope : Scope) (f : Addr) (cd : Value) (A : Around) (outer : List Env) (s : Shared) (H : Hp) (ex : List Addr) : Cx :=
  { cxOf (fun _ _ _ _ _ _ => False) P w K mg base N qual scope f cd A outer s H (fun _ _ _ => False) with ex := ex, xe := fun _ _ => False }
open Classical in
/-- what stood at the call, but what the module has and the frames -/
noncomputable def exAll (base : Heap) (fs : List Addr) (s : Shared) : List Addr := (List.range s.heap.objs.size).filter fun b => decide (base.get? b = none ∧ b ∉ fs)
theorem mem_exAll {base : Heap} {fs : List Addr} {s : Shared} {b : Addr} : b ∈ exAll base fs s ↔ b < s.heap.objs.size ∧ base.get? b = none ∧ b ∉ fs := by
  unfold exAll
  rw [List.mem_filter, List.mem_range, decide_eq_true_iff]
section
variable {P : Program} {w : World} {K : PySem.W.Frag} {mg : Str → Option Value} {base : Heap} {N : List Str} {qual : Str} {scope : Scope} {f : Addr} {cd : Value} {A : Around} {outer : List Env} {s : Shared} {H0 : Hp}
theorem gx_ok (o : (gx P w K mg base N qual scope f cd A outer s H0 []).Ok) (hnc : (envOfC qual scope s.heap.objs.size f cd).cells = []) : (gx P w K mg base N qual scope f cd A outer s (fun _ => none) (exAll base (frs outer) s)).Ok := by
  refine ⟨o.mod, o.kind, o.glob, o.blt, o.above, o.inj, o.has, o.cab, o.hd, o.frames, o.stk, fun b hb => ⟨?_, fun x c e => ?_⟩, fun b ob e => ⟨(o.bs b ob e).1, rfl⟩, o.bsz, fun b ob e hb => ?_, fun b hb hf => ?_, o.funs, fun _ _ => rfl⟩
  · obtain ⟨h1, _, _⟩ := mem_exAll.mp hb
    exact Nat.ne_of_lt h1
  · have e' : (envOfC qual scope s.heap.objs.size f cd).cells.lookup x = some c := e
    rw [hnc] at e'
    cases e'
  · obtain ⟨_, h2, _⟩ := mem_exAll.mp hb
    have e' : base.get? b = some ob := e
    rw [h2] at e'
    cases e'
  · obtain ⟨_, _, h3⟩ := mem_exAll.mp hb
    exact h3 hf
theorem gx_swap {σ : L2.St} {H : Hp} {s' : Shared} (I : Inv (gx P w K mg base N qual scope f cd A outer s H0 []) [] σ H s') (hnc : (envOfC qual scope s.heap.objs.size f cd).cells = []) :
    Inv (gx P w K mg base N qual scope f cd A outer s (fun _ => none) (exAll base (frs outer) s)) [] σ H s' := by
  have hb : ∀ b o, s.heap.get? b = some o → b ∉ exAll base (frs outer) s → b ∈ frs outer ∨ base.get? b = some o := fun b o e hx => by
    by_cases hf : b ∈ frs outer
    · exact .inl hf
    · refine .inr ?_
      cases z : base.get? b with
      | none => exact absurd (mem_exAll.mpr ⟨Heap.lt_size e, z, hf⟩) hx
      | some u =>
        have q := (I.ok.bs b u z).1
        have q' : s.heap.get? b = some u := q
        rw [e] at q'
        rw [q']
  have hfr : ∀ b o, b ∈ frs outer → s.heap.get? b = some o → (∃ sl, s'.heap.get? b = some { o with slots := sl }) ∧ H b = none := fun b o hf e =>
    ⟨I.base.slot b o e (I.ok.frf b hf) hf (fun z => nomatch z), I.base.free b o e (I.ok.frf b hf) (fun z => nomatch z)⟩
  refine ⟨gx_ok I.ok hnc, I.os, I.bare, ⟨fun b o e _ hf hx => ?_, fun b o e _ hf hx => (hfr b o hf e).1, fun b o e _ hx => ?_, fun b o e hx => ?_, fun b xs e => (by cases e), fun b o u e => (by cases e), fun b ps e => (by cases e)⟩, I.loc, I.cell, I.free, I.freeC, I.pin, I.hok, I.len⟩
  · rcases hb b o e hx with z | z
    · exact absurd z hf
    · exact I.bk b o z
  · rcases hb b o e hx with z | z
    · exact (hfr b o z e).2
    · exact (I.bs b o z).2
  · rcases hb b o e hx with z | z
    · obtain ⟨sl, q⟩ := (hfr b o z e).1
      exact ⟨_, q⟩
    · exact ⟨o, I.bk b o z⟩
end
/-- what a generator def promises of its walk: the arguments, the data that it reads, how many items, what they are -/
abbrev SpW := List V → Hp → Nat → (Nat → V → Hp → Prop) → Prop
/-- what its call gives: a generator that has not begun -/
def WMade (k : Nat) (outer : List Env) (G : GPar) (u : Value) (s' : Shared) : Prop :=
  ∃ (a : Addr) (g : Nat) (c : Code) (go : Obj) (ow : List (Addr × Obj)), u = .ref a ∧ G.sc.heap.objs.size ≤ a ∧ s'.heap.get? a = some go ∧ (∀ h : Heap, h.get? a = some go → h.IsGen a g) ∧ (∀ v, go.data ≠ .cell v) ∧ s'.gens[g]? = some (.fresh c) ∧
    s'.os = G.sc.os ∧ AllBare s'.gens ∧ (∀ b o, G.sc.heap.get? b = some o → s'.heap.get? b = some o) ∧ (∀ p ∈ ow, s'.heap.get? p.1 = some p.2 ∧ G.sc.heap.objs.size ≤ p.1 ∧ p.1 ≠ a ∧ ∀ v, p.2.data ≠ .cell v) ∧
    ∀ (A : Around) (s2 : Shared), Room k A → A.frames = some outer → (∀ b o, s'.heap.get? b = some o → s2.heap.get? b = some o) → s2.os = G.sc.os → AllBare s2.gens → Wake (model G.P G.w) A (.fresh c) s2 (PhOf A G G.N ow s2)
structure WFn (P : Program) (w : World) (K : PySem.W.Frag) (mg : Str → Option Value) (base : Heap) (k : Nat) (f : Addr) (fd : FuncData) (ps : List Str) (sp : SpW) : Prop where
  len : ∀ vs D n item, sp vs D n item → vs.length = ps.length
  run : ∀ (A : Around) (outer : List Env) (s : Shared) (H : Hp) (args : Args) (us : List Value) (vs : List V) (D : Hp) (n : Nat) (item : Nat → V → Hp → Prop), Room k A → Env0 P w K mg base A outer s H → BindsTo s fd args (ps.zip us) → Vals vs us → DataHp D → ExtH D H → sp vs D n item →
    codeAny (model P w) A (.call (.ref f) args) (fun r s' => match r with | .ok (.ret u) => WMade k outer ⟨P, w, base, frs outer, D, s, n, item⟩ u s' | _ => False) s
section
variable {P : Program} {w : World} {K : PySem.W.Frag} {mg : Str → Option Value} {base : Heap} {k : Nat} {f : Addr} {name qual : Str} {params : Arguments} {scope : Scope} {dV kV doc pm cdv ct oc : Value} {an od : Option Addr} {osl : Array (Option Value)} {N ps : List Str} {sp : SpW} {tg iter e : Expr} {yp pp pos : Pos}
/-- THE RULE: a generator def whose body is «for tg in iter: yield e» -/
theorem wfn_of (lk : K.lookup f = some ⟨oc, od, .func (PySem.W.fnOf name qual params [.For tg iter [.Expr (.Yield (some e) yp) pp] [] pos] scope dV kV doc pm an cdv ct), osl⟩) (hcd : PySem.W.codeIn K cdv qual = true) (S : GScope N ps scope)
    (hnc : ∀ n, cellsFrom n scope.names [] = []) (hs : ∀ env x, foldedSetIterable iter env x = pure x) (hin : ∀ A f cd, interactive (envOfC qual scope A f cd) = false)
    (len : ∀ vs D n item, sp vs D n item → vs.length = ps.length)
    (hbody : ∀ (A : Around) (outer : List Env) (s : Shared) (vs : List V) (D : Hp) (n : Nat) (item : Nat → V → Hp → Prop), Room k (A.deeper (envOfC qual scope s.heap.objs.size f cdv)) → sp vs D n item →
      ∃ (wi : TI) (g : TG) (te : TE) (J₀ : It) (σs : Nat → L2.St), σs 0 = start N vs ∧ (∀ H0, PI (gx P w K mg base N qual scope f cdv A outer s H0 []) tg iter wi) ∧ (∀ ex, PG (gx P w K mg base N qual scope f cdv A outer s (fun _ => none) ex) tg g) ∧
        (∀ ex, PE (gx P w K mg base N qual scope f cdv A outer s (fun _ => none) ex) e te) ∧ (∀ H, ExtH D H → wi (start N vs) H fun J H1 => J = J₀ ∧ Same H H1) ∧
        (∀ j, j < n → ∀ H, ExtH D H → J₀.go j H ∧ ∀ x H', J₀.yld j H x H' → g x (σs j) H' fun σ2 H2 => σ2 = σs (j + 1) ∧ te σ2 H2 fun y H3 => Same H H3 ∧ ∀ H4, ExtH D H4 → (∀ b xs, H b = none → H3 b = some (.tup xs) → H4 b = some (.tup xs)) → item j y H4) ∧
        (∀ H, ExtH D H → J₀.stop n H)) :
    WFn P w K mg base (k + 1) f (PySem.W.fnOf name qual params [.For tg iter [.Expr (.Yield (some e) yp) pp] [] pos] scope dV kV doc pm an cdv ct) ps sp := by
  refine ⟨len, fun A outer s H args us vs D n item hr e0 hb r hDd hDH hsp => ?_⟩
  have hl := len _ _ _ _ hsp
  have KX : K.In s.heap := e0.mod.kin.keeps fun b o e => (e0.bs b o e).1
  have lim : s.heap.NoLimit := e0.mod.nolimit.keeps fun b o e => (e0.bs b o e).1
  have hkind : ∀ y ∈ ps.zip us, scope.names.lookup y.1 = some .local ∨ (scope.names.lookup y.1 = some .cell ∧ ((cellsFrom (s.heap.objs.size + 1) scope.names []).lookup y.1).isSome = true) := fun ⟨m, v⟩ hy => by
    rcases S.par m (List.of_mem_zip hy).1 with q | q
    · exact .inl q
    · exact .inr ⟨q, PySem.W.cellsFrom_some _ _ _ (.inl q)⟩
  have dok : HOk P w D s.heap := fun b o e => obj_flat (hDd b o e) (e0.hok b o (hDH b o e))
  have dfs : ∀ b ∈ frs outer, D b = none := fun b hb => by
    cases z : D b with
    | none => rfl
    | some o =>
      have q := hDH b o z
      rw [e0.frf b hb] at q
      cases q
  have dba : ∀ b, (base.get? b).isSome = true → D b = none := fun b hb => by
    cases z : D b with
    | none => rfl
    | some o =>
      have q := hDH b o z
      cases u : base.get? b with
      | none => rw [u] at hb; cases hb
      | some ob =>
        rw [(e0.bs b ob u).2] at q
        cases q
  have envc : (envOfC qual scope s.heap.objs.size f cdv).cells = [] := hnc _
  refine codeAny_call_generator hr.depth (KX _ _ lk) rfl S.co S.gen rfl (PySem.W.codeRec_of KX hcd) (hb _ _ _ _ ?_)
  refine wpAny_newFunctionEnv_cells S.kind hkind fun env he s1 x => ?_
  subst he
  refine ⟨lim.keeps x.toInCall.keep, ?_⟩
  obtain ⟨h1, tk, es1, hk1⟩ := x.done
  have os1 : s1.os = s.os := by rw [es1]
  have gen1 : s1.gens = s.gens := by rw [es1]
  have lt1 : s.heap.objs.size < s1.heap.objs.size := x.toInCall.ns.lt
  have kp1 : ∀ b o, s.heap.get? b = some o → s1.heap.get? b = some o := x.toInCall.keep
  obtain ⟨oL, esL, epL, hoL, hdL, _⟩ := id x.toInCall.ns
  have hoL : s1.heap.get? s.heap.objs.size = some oL := hoL
  have main : ∀ (go : Obj) (nm qn : Value) (tk2 : Nat), go.cls = .type "generator" → go.data = .fields #[.int s1.gens.size 0, nm, qn] → go.slots = #[] → (∀ h : Heap, (h.push go).get? h.objs.size = some go) →
      WMade (k + 1) outer ⟨P, w, base, frs outer, D, s, n, item⟩ (.ref s1.heap.objs.size) { s1 with gens := s1.gens.push (.fresh (.func [.For tg iter [.Expr (.Yield (some e) yp) pp] [] pos] (envOfC qual scope s.heap.objs.size f cdv))), toks := tk2, heap := s1.heap.push go } := by
    intro go nm qn tk2 hgc hgd0 hgs hgp
    have kp2 : ∀ b o, s1.heap.get? b = some o → (s1.heap.push go).get? b = some o := fun b o e => Heap.get?_push_of_some _ e
    refine ⟨s1.heap.objs.size, s1.gens.size, _, go, [(s.heap.objs.size, oL)], rfl, Nat.le_of_lt lt1, hgp _, fun h e => ⟨go, nm, qn, e, hgc, hgd0, hgs⟩, (fun v q => (by rw [hgd0] at q; cases q)), Array.getElem?_push_size .., os1, ?_, fun b o e => kp2 b o (kp1 b o e), fun p hp => ?_, ?_⟩
    · exact AllBare.push (by rw [gen1]; exact e0.bare) rfl
    · rw [List.mem_singleton.mp hp]
      exact ⟨kp2 _ _ hoL, Nat.le_refl _, Nat.ne_of_lt lt1, fun v q => by rw [hdL] at q; cases q⟩
    intro Aw s2 hrw hfr hk2 hos hba
    have ks2 : ∀ b o, s.heap.get? b = some o → s2.heap.get? b = some o := fun b o e => hk2 b o (kp2 b o (kp1 b o e))
    have e0w : Env0 P w K mg base Aw outer s (fullH base (frs outer) [] D s.heap) := ⟨hfr, e0.mod, fun b o e => ⟨(e0.bs b o e).1, full_none (dba b (by rw [e]; rfl)) (.inr (.inr (.inl (by rw [e]; rfl))))⟩, e0.bsz, e0.funs, fun b hb => full_none (dfs b hb) (.inr (.inl hb)), full_hok hDd dok, e0.bare⟩
    have I0 := inv_startG (E := fun _ _ _ => False) S hrw.hd e0w hl r x
    have dok2 : HOk P w D s2.heap := fun b o e => by
      have q := dok b o e
      rcases hDd b o e with ⟨xs, rfl⟩ | ⟨xs, rfl⟩
      · obtain ⟨z, its, rv, ob, ho, c⟩ := q
        exact ⟨z, its, rv, ob, ks2 _ _ ho, c⟩
      · obtain ⟨z, its, m, rv, ho⟩ := q
        exact ⟨z, its, m, rv, ks2 _ _ ho⟩
    obtain ⟨wi, g, te, J₀, σs, hσ, pi, pg, pe, rd0, rdj, rdN⟩ := hbody Aw outer s vs D n item (hrw.deeper _) hsp
    have okX : (gx P w K mg base N qual scope f cdv Aw outer s (fullH base (frs outer) [] D s.heap) []).Ok := ⟨I0.ok.mod, I0.ok.kind, I0.ok.glob, I0.ok.blt, I0.ok.above, I0.ok.inj, I0.ok.has, I0.ok.cab, I0.ok.hd, I0.ok.frames, I0.ok.stk, I0.ok.exf, I0.ok.bs, I0.ok.bsz, I0.ok.noex, I0.ok.exfs, I0.ok.funs, I0.ok.frf⟩
    have k12 : ∀ b o, s1.heap.get? b = some o → s2.heap.get? b = some o := fun b o e => hk2 b o (kp2 b o e)
    have dL : D s.heap.objs.size = none := by
      cases z : D s.heap.objs.size with
      | none => rfl
      | some o => exact absurd (dok _ o z).lt (Nat.lt_irrefl _)
    have I2 : Inv (gx P w K mg base N qual scope f cdv Aw outer s (fullH base (frs outer) [] D s.heap) []) [] (start N vs) (fullH base (frs outer) [s.heap.objs.size] D s2.heap) s2 := by
      refine ⟨okX, hos, hba, ⟨fun b o e _ _ _ => ks2 b o e, fun b o e _ _ _ => ⟨o.slots, ks2 b o e⟩, fun b o e n _ => ?_, fun b o e _ => ⟨o, ks2 b o e⟩, fun b xs e => ?_, fun b o u e => ?_, fun b ps e => ?_⟩, ?_, fun x c e => ?_, ?_, fun x c e => ?_, fun p hp => (by cases hp), full_hok hDd dok2, I0.len⟩
      · have dn : D b = none := by
          cases z : D b with
          | none => rfl
          | some o' =>
            have n' : fullH base (frs outer) [] D s.heap b = none := n
            rw [full_data z] at n'
            cases n'
        refine full_none dn ?_
        by_cases hf : b ∈ frs outer
        · exact .inr (.inl hf)
        · cases z : base.get? b with
          | some _ => exact .inr (.inr (.inl rfl))
          | none =>
            have n' : fullH base (frs outer) [] D s.heap b = none := n
            have e' : s.heap.get? b = some o := e
            have q := full_ext (own := []) dn (fun m => (List.not_mem_nil m).elim) hf z e'
            rw [q] at n'
            cases n'
      · rcases full_cases (show fullH base (frs outer) [] D s.heap b = some (.tup xs) from e) with z | ⟨_, _, _, _, _, _, z⟩
        · exact full_data z
        · cases z
      · rcases full_cases (show fullH base (frs outer) [] D s.heap b = some (.frz o u) from e) with z | ⟨_, _, _, _, _, _, z⟩
        · rcases hDd b _ z with ⟨_, q⟩ | ⟨_, q⟩ <;> cases q
        · cases z
      · rcases full_cases (show fullH base (frs outer) [] D s.heap b = some (.tbl ps) from e) with z | ⟨_, _, _, _, _, _, z⟩
        · rcases hDd b _ z with ⟨_, q⟩ | ⟨_, q⟩ <;> cases q
        · cases z
      · obtain ⟨m, ⟨o, es, ep, ho, rr⟩, hl'⟩ := I0.loc
        refine ⟨m, ⟨o, es, ep, k12 _ o ho, rr⟩, fun i x v e1 e2 e3 => ?_⟩
        obtain ⟨u, ru, l⟩ := hl' i x v e1 e2 e3
        refine ⟨u, ru, ?_⟩
        rcases l with l | ⟨_, c, e, _⟩
        · exact .inl l
        · have e' : (envOfC qual scope s.heap.objs.size f cdv).cells.lookup x = some c := e
          rw [envc] at e'; cases e'
      · have e' : (envOfC qual scope s.heap.objs.size f cdv).cells.lookup x = some c := e
        rw [envc] at e'; cases e'
      · exact full_none dL (.inl List.mem_cons_self)
      · have e' : (envOfC qual scope s.heap.objs.size f cdv).cells.lookup x = some c := e
        rw [envc] at e'; cases e'
    have gc : GCx (gx P w K mg base N qual scope f cdv Aw outer s (fun _ => none) (exAll base (frs outer) s)) ⟨P, w, base, frs outer, D, s, n, item⟩ :=
      ⟨gx_ok okX envc, rfl, rfl, rfl, rfl, rfl, rfl, fun b o e hf hx => by
          cases z : base.get? b with
          | none => exact absurd (mem_exAll.mpr ⟨Heap.lt_size e, z, hf⟩) hx
          | some u =>
            have q : s.heap.get? b = some u := (e0.bs b u z).1
            have e' : s.heap.get? b = some o := e
            rw [e'] at q
            show base.get? b = some o
            rw [z, q], envc, rfl, rfl, rfl, hDd, dok, dfs, dba⟩
    have W : WkOk ⟨P, w, base, frs outer, D, s, n, item⟩ [(s.heap.objs.size, oL)] s2 :=
      ⟨hos, hba, fun b o e => ks2 b o (e0.bs b o e).1, fun b o _ e => ⟨o.slots, ks2 b o e⟩, dok2, fun p hp => by rw [List.mem_singleton.mp hp]; exact k12 _ _ hoL⟩
    show Stre (model P w) Aw _ (.func _ (envOfC qual scope s.heap.objs.size f cdv)) ((model P w).den (.func _ (envOfC qual scope s.heap.objs.size f cdv))) [] s2
    refine st_func ?_
    rw [execs_cons_wrap]
    refine st_For (hs _) ?_
    rw [over_func]
    refine wpAny_mono ((pi _).run [] s2 (start N vs) _ _ I2 (rd0 _ fun b o e => full_data e)) (fun v s3 h3 => wpAny_mono h3 (fun itv s4 h4 => ?_) fun _ _ z => z) fun _ _ z => z
    obtain ⟨it, fp, tn, J, H4, rfl, I4, T, t4, f4, rfl, sm4⟩ := h4
    intro p
    have newfp : ∀ b ∈ fp, b ≠ s.heap.objs.size ∧ b ∉ frs outer ∧ s.heap.objs.size ≤ b ∧ s2.heap.get? b = none := fun b hb => by
      obtain ⟨g1, g2, g3, g4, _, _⟩ := f4 b hb
      have hsz : s.heap.objs.size ≤ b := by
        rcases g4 with z | z
        · cases z
        · exact z
      refine ⟨g2, g3, hsz, ?_⟩
      cases z : s2.heap.get? b with
      | none => rfl
      | some o =>
        exfalso
        have db : D b = none := by
          cases q : D b with
          | none => rfl
          | some o' => exact absurd (Nat.lt_of_lt_of_le (dok b o' q).lt hsz) (Nat.lt_irrefl _)
        have bb : base.get? b = none := by
          cases q : base.get? b with
          | none => rfl
          | some u => exact absurd (Nat.lt_of_lt_of_le (Heap.lt_size (e0.bs b u q).1) hsz) (Nat.lt_irrefl _)
        rw [sm4 b _ (full_ext db (fun q => g2 (List.mem_singleton.mp q)) g3 bb z)] at g1
        cases g1
    refine live_loop (σs := σs) gc T (pg _) (pe _) S.co (hin _ _ _) ((over_loop rfl rfl).trans over_func) rfl rfl (fun b hb => ?_) rdj rdN (fun Φ s5 h5 => ?_) n 0 rfl _ s2 s4 H4 (by rw [hσ]; exact gx_swap I4 envc) (fun b o q => sm4 b o (full_sub (fun x hx => ?_) b o q)) t4 (fun b hb => (f4 b hb).1) W (fun b hb => ?_)
    · obtain ⟨q1, q2, q3, _⟩ := newfp b hb
      exact ⟨q1, q2, q3⟩
    · refine st_block0 ?_
      show Stre (model P w) Aw Φ _ (leafOf (.ok (.ret .none))) [] s5
      exact st_end _ (h5 _ (.inl rfl))
    · rw [List.mem_singleton.mp hx]
      exact List.mem_cons_self
    · rcases List.mem_cons.mp hb with rfl | hb
      · exact .inl ⟨_, List.mem_cons_self, rfl⟩
      · exact .inr (newfp b hb).2.2.2
  exact main _ _ _ _ rfl rfl rfl fun h => Heap.get?_push_size _ rfl
end
end L2
set_option maxRecDepth 100000
set_option maxHeartbeats 2000000
namespace L2
open PySem PySem.Spec PyProof.Rows GenW GenF
theorem Inv.iced {X : Cx} {pins : List (Addr × Obj)} {σ : L2.St} {H : Hp} {s : Shared} (I : Inv X pins σ H s) : Inv X pins σ H (iceS s) :=
  ⟨I.ok, I.os, bare_ice I.bare, I.base, I.loc, I.cell, I.free, I.freeC, I.pin, I.hok, I.len⟩
theorem Inv.melted {X : Cx} {pins : List (Addr × Obj)} {σ : L2.St} {H : Hp} {a : Shared} {G : Array GenState} (I : Inv X pins σ H a) (hG : AllBare G) : Inv X pins σ H (meltS G a) :=
  ⟨I.ok, I.os, bare_melt hG I.bare, I.base, I.loc, I.cell, I.free, I.freeC, I.pin, I.hok, I.len⟩
/-- a promise of which nothing is raised, used while generators sleep -/
theorem asleep {α : Type} {M : Model} {A : Around} {t : Sem α} {R R' : α → Shared → Prop} {E : Value → Shared → Prop} {s : Shared} (h : wpAny M A t R (fun _ _ => False) (iceS s))
    (k : ∀ v a, R v a → (∀ (g : Nat) (x : GenState), s.gens[g]? = some x → Susp (some x) → (meltS s.gens a).gens[g]? = some x) → R' v (meltS s.gens a)) : wpAny M A t R' E s :=
  wpAny_mono (wpAny_melt h) (fun v b ⟨a, e, j, r⟩ => by subst e; exact k v a r fun g x hg hx => melt_sleeps j hg hx) fun _ _ ⟨_, _, _, z⟩ => z.elim
/-- what was there, and the new tuples of a generator's stretch -/
def glue (H Hn : Hp) (h : Heap) : Hp := fun b => match H b with
  | some o => some o
  | none => match h.get? b, Hn b with
    | none, some (.tup xs) => some (.tup xs)
    | _, _ => none
theorem glue_old {H Hn : Hp} {h : Heap} {b : Addr} {o : HO} (e : H b = some o) : glue H Hn h b = some o := by unfold glue; rw [e]
theorem glue_there {H Hn : Hp} {h : Heap} {b : Addr} {u : Obj} (e : h.get? b = some u) : glue H Hn h b = H b := by
  unfold glue
  cases z : H b with
  | some o => rfl
  | none => dsimp only; rw [e]
theorem glue_new {H Hn : Hp} {h : Heap} {b : Addr} {xs : List V} (e : H b = none) (e2 : h.get? b = none) (e3 : Hn b = some (.tup xs)) : glue H Hn h b = some (.tup xs) := by
  unfold glue
  rw [e]
  dsimp only
  rw [e2, e3]
theorem glue_cases {H Hn : Hp} {h : Heap} {b : Addr} {o : HO} (e : glue H Hn h b = some o) : H b = some o ∨ (H b = none ∧ h.get? b = none ∧ ∃ xs, Hn b = some (.tup xs) ∧ o = .tup xs) := by
  unfold glue at e
  cases z : H b with
  | some u => rw [z] at e; exact .inl e
  | none =>
    rw [z] at e
    dsimp only at e
    cases z1 : h.get? b with
    | some u => rw [z1] at e; cases e
    | none =>
      rw [z1] at e
      cases z2 : Hn b with
      | none => rw [z2] at e; cases e
      | some u =>
        rw [z2] at e
        cases u with
        | tup xs => exact .inr ⟨rfl, rfl, xs, rfl, (Option.some.inj e).symm⟩
        | _ => cases e
theorem tup_there {P : Program} {w : World} {H : Hp} {h : Heap} {b : Addr} {o : HO} (ho : (∃ xs, o = HO.tup xs) ∨ ∃ xs, o = HO.lst xs) (x : ObjOk P w H h b o) : ∃ u, h.get? b = some u := by
  rcases ho with ⟨xs, rfl⟩ | ⟨xs, rfl⟩
  · obtain ⟨_, _, _, u, e, _⟩ := x
    exact ⟨u, e⟩
  · obtain ⟨_, _, _, _, e⟩ := x
    exact ⟨_, e⟩
/-- the walker's side: it knows the generator's call -/
structure Walker (X : Cx) (G : GPar) (p0 : List (Addr × Obj)) : Prop where
  eP : X.prog = G.P
  ew : X.w = G.w
  eb : X.base = G.base
  ef : frs X.stack = G.fs
  dat : DataHp G.D
  sc : ∃ pins σ H, Inv X pins σ H G.sc
theorem Walker.young {X : Cx} {G : GPar} {p0 : List (Addr × Obj)} (W : Walker X G p0) {b : Addr} (h : G.sc.heap.objs.size ≤ b) : X.s_0.heap.objs.size ≤ b ∧ b ≠ X.env.locals ∧ (∀ x c, X.env.cells.lookup x = some c → c ≠ b) ∧ b ∉ X.fs := by
  obtain ⟨pins, σ, H, I⟩ := W.sc
  refine ⟨Nat.le_trans I.sz h, Nat.ne_of_gt (Nat.lt_of_lt_of_le I.lt h), fun x c e z => ?_, I.nofs h⟩
  obtain ⟨v, o, ho, _⟩ := I.cell x c e
  exact absurd (Nat.lt_of_lt_of_le (Heap.lt_size ho) (by rw [z]; exact h)) (Nat.lt_irrefl _)
/-- its own things, seen from the walker -/
def OwFar (X : Cx) (G : GPar) (p0 ow : List (Addr × Obj)) : Prop := ∀ q ∈ ow, G.sc.heap.objs.size ≤ q.1 ∧ ∀ p ∈ X.pn ++ p0, p.1 ≠ q.1
theorem took {X : Cx} {G : GPar} {p0 ow ow' : List (Addr × Obj)} {σ : L2.St} {H Hn : Hp} {s s1 s2 : Shared} (W : Walker X G p0) (I : Inv X (p0 ++ ow) σ H s) (hE : ExtH G.D H) (hF : OwFar X G p0 ow) {sw : Shared} (hsw : sw.heap = s.heap)
    (K1 : Kp G ow ow' sw s1) (hn : ∀ b xs, s.heap.get? b = none → Hn b = some (.tup xs) → ObjOk G.P G.w Hn s1.heap b (.tup xs) ∧ ∀ p ∈ ow', p.1 ≠ b) (h2 : ∀ b o, s1.heap.get? b = some o → s2.heap.get? b = some o) (os2 : s2.os = s1.os) (bare2 : AllBare s2.gens) :
    Inv X (p0 ++ ow') σ (glue H Hn s.heap) s2 ∧ OwFar X G p0 ow' := by
  have own0 : ∀ q ∈ ow, H q.1 = none := fun q hq => (I.pin q (List.mem_append_right _ (List.mem_append_right _ hq))).2.1
  have keep1 : ∀ b o, s.heap.get? b = some o → (∀ p ∈ ow, p.1 ≠ b) → b ∉ G.fs → G.D b = none → s1.heap.get? b = some o := fun b o e => K1.keep b o (by rw [hsw]; exact e)
  have trk : ∀ b o, H b = some o → (∀ p ∈ ow, p.1 ≠ b) ∧ b ∉ G.fs := fun b o e => ⟨fun p hp z => (by rw [← z, own0 p hp] at e; cases e), fun z => (by rw [← W.ef] at z; rw [I.stkFree b z] at e; cases e)⟩
  have bse : ∀ c u, H c = some u → G.D c = none → ∀ o, s.heap.get? c = some o → s2.heap.get? c = some o := fun c u e d o q => h2 c o (keep1 c o q (trk c u e).1 (trk c u e).2 d)
  have sm : Same H (glue H Hn s.heap) := fun b o e => glue_old e
  have hok : HOk X.prog X.w (glue H Hn s.heap) s2.heap := fun b o e => by
    rcases glue_cases e with z | ⟨z1, z2, xs, z3, rfl⟩
    · cases d : G.D b with
      | some o' =>
        have e1 := hE b o' d
        rw [z] at e1
        cases e1
        have q := K1.data b o d
        rw [W.eP, W.ew]
        rcases W.dat b o d with ⟨xs, rfl⟩ | ⟨xs, rfl⟩
        · obtain ⟨q1, its, rv, ob, ho, c⟩ := q
          exact ⟨q1, its, rv, ob, h2 _ _ ho, c⟩
        · obtain ⟨q1, its, m, rv, ho⟩ := q
          exact ⟨q1, its, m, rv, h2 _ _ ho⟩
      | none =>
        refine (I.hok b o z).stay (fun c u hc q => ?_) (fun c q => sm c _ q) fun c xs q => sm c _ q
        rcases hc with rfl | hc
        · exact bse c o z d u q
        · refine bse c _ hc ?_ u q
          cases d2 : G.D c with
          | none => rfl
          | some o' =>
            have e1 := hE c o' d2
            rw [hc] at e1
            rcases W.dat c o' d2 with ⟨xs, r⟩ | ⟨xs, r⟩ <;> (rw [r] at e1; cases e1)
    · have q := (hn b xs z2 z3).1
      rw [← W.eP, ← W.ew] at q
      obtain ⟨q1, its, rv, ob, ho, c⟩ := q
      exact ⟨q1, its, rv, ob, h2 _ _ ho, c⟩
  have I0 : Inv X p0 σ H s := I.unpinned
  have I1 : Inv X p0 σ (glue H Hn s.heap) s2 := by
    refine I0.call' (ch := ow.map (·.1)) ?_ ⟨fun b o e n hf hc => ?_, fun b o e n hf hc => ?_, fun b o e n _ => by rw [glue_there e]; exact n, fun b o e hc => ?_, fun b xs e => sm b _ e, fun b o u e => sm b _ e, fun b ps e => ⟨#[], by rw [sm b _ e]; simp⟩⟩ hok bare2 fun b hb => ?_
    · obtain ⟨pins, σ', H', I'⟩ := W.sc
      rw [os2, K1.os, I'.os, I.os]
    · rw [W.ef] at hf
      refine h2 b o (keep1 b o e (fun p hp z => hc (List.mem_map.mpr ⟨p, hp, z⟩)) hf ?_)
      cases d : G.D b with
      | none => rfl
      | some o' => rw [hE b o' d] at n; cases n
    · rw [W.ef] at hf
      obtain ⟨sl, q⟩ := K1.slot b o hf (by rw [hsw]; exact e)
      exact ⟨sl, h2 b _ q⟩
    · by_cases hf : b ∈ G.fs
      · obtain ⟨sl, q⟩ := K1.slot b o hf (by rw [hsw]; exact e)
        exact ⟨_, h2 b _ q⟩
      · cases d : G.D b with
        | none => exact ⟨o, h2 b o (keep1 b o e (fun p hp z => hc (List.mem_map.mpr ⟨p, hp, z⟩)) hf d)⟩
        | some o' =>
          obtain ⟨u, q⟩ := tup_there (W.dat b o' d) (K1.data b o' d)
          exact ⟨u, h2 b u q⟩
    · obtain ⟨q, hq, rfl⟩ := List.mem_map.mp hb
      obtain ⟨f1, f2⟩ := hF q hq
      obtain ⟨y1, y2, y3, _⟩ := W.young f1
      exact ⟨.inr y1, y2, y3, f2⟩
  have far : OwFar X G p0 ow' := fun q hq => by
    obtain ⟨k1, k2, k3, k4⟩ := K1.own q hq
    refine ⟨k2, fun p hp z => ?_⟩
    rcases k4 with ⟨q', hq', e⟩ | e
    · exact (hF q' hq').2 p hp (by rw [e]; exact z)
    · rw [hsw, ← z, (I0.pin p hp).1] at e
      cases e
  refine ⟨I1.pins_of fun p hp => ?_, far⟩
  rcases List.mem_append.mp hp with hp | hp
  · exact I1.pin p (List.mem_append_right _ hp)
  · obtain ⟨k1, k2, k3, k4⟩ := K1.own p hp
    obtain ⟨y1, y2, y3, y4⟩ := W.young k2
    refine ⟨h2 _ _ k1, ?_, y2, y4, k3⟩
    rcases k4 with ⟨q', hq', e⟩ | e
    · have ex := (I.pin q' (List.mem_append_right _ (List.mem_append_right _ hq'))).1
      rw [← e, glue_there ex]
      exact own0 q' hq'
    · rw [hsw] at e
      cases z : glue H Hn s.heap p.1 with
      | none => rfl
      | some o =>
        rcases glue_cases z with z1 | ⟨_, _, xs, z3, _⟩
        · exact absurd e (by
            intro e
            have lt := I.hok p.1 o z1
            by_cases hd : ∃ u, s.heap.get? p.1 = some u
            · obtain ⟨u, hu⟩ := hd
              rw [e] at hu; cases hu
            · have : ∃ u, s.heap.get? p.1 = some u := by
                cases o with
                | lst xs => exact tup_there (.inr ⟨_, rfl⟩) lt
                | tup xs => exact tup_there (.inl ⟨_, rfl⟩) lt
                | dK kvs => obtain ⟨_, _, _, _, o, _, _, e, _⟩ := lt; exact ⟨_, e⟩
                | dT kvs => obtain ⟨_, _, _, _, o, _, _, e, _⟩ := lt; exact ⟨_, e⟩
                | set S n => obtain ⟨o, _, _, _, e, _⟩ := lt; exact ⟨_, e⟩
                | ins C dx fs => obtain ⟨_, _, _, e, _⟩ := lt; exact ⟨_, e⟩
                | own y => obtain ⟨_, e⟩ := lt; exact ⟨_, e⟩
                | xd fs => obtain ⟨_, ⟨_, _, _, e, _⟩, _⟩ := lt; exact ⟨_, e⟩
                | rng lo hi => obtain ⟨_, _, _, e⟩ := lt; exact ⟨_, e⟩
                | frz ob u => obtain ⟨e, _⟩ := lt; exact ⟨_, e⟩
                | tbl ps => exact ⟨_, lt⟩
                | met f y => exact ⟨_, lt⟩
                | ext φ => obtain ⟨_, ⟨_, e⟩, _⟩ := lt; exact ⟨_, e⟩
              exact hd this)
        · exact absurd rfl ((hn p.1 xs e z3).2 p hp)
end L2
set_option maxRecDepth 100000
set_option maxHeartbeats 2000000
namespace L2
open PySem PySem.Spec PyProof.Rows GenW GenF
theorem objU_there {P : Program} {w : World} {H : Hp} {h : Heap} {b : Addr} {o : HO} (lt : ObjOk P w H h b o) : ∃ u, h.get? b = some u := by
  cases o with
  | lst xs => exact tup_there (.inr ⟨_, rfl⟩) lt
  | tup xs => exact tup_there (.inl ⟨_, rfl⟩) lt
  | dK kvs => obtain ⟨_, _, _, _, o, _, _, e, _⟩ := lt; exact ⟨_, e⟩
  | dT kvs => obtain ⟨_, _, _, _, o, _, _, e, _⟩ := lt; exact ⟨_, e⟩
  | set S n => obtain ⟨o, _, _, _, e, _⟩ := lt; exact ⟨_, e⟩
  | ins C dx fs => obtain ⟨_, _, _, e, _⟩ := lt; exact ⟨_, e⟩
  | own y => obtain ⟨_, e⟩ := lt; exact ⟨_, e⟩
  | xd fs => obtain ⟨_, ⟨_, _, _, e, _⟩, _⟩ := lt; exact ⟨_, e⟩
  | rng lo hi => obtain ⟨_, _, _, e⟩ := lt; exact ⟨_, e⟩
  | frz ob u => obtain ⟨e, _⟩ := lt; exact ⟨_, e⟩
  | tbl ps => exact ⟨_, lt⟩
  | met f y => exact ⟨_, lt⟩
  | ext φ => obtain ⟨_, ⟨_, e⟩, _⟩ := lt; exact ⟨_, e⟩
theorem glue_none {H : Hp} {h : Heap} : glue H (fun _ => none) h = H := by
  funext b
  unfold glue
  cases H b with
  | some o => rfl
  | none =>
    dsimp only
    cases h.get? b <;> rfl
theorem wk_of {B : Cx} {G : GPar} {p0 ow : List (Addr × Obj)} {σ : L2.St} {H : Hp} {s s' : Shared} (W : Walker B G p0) (hfs : frs B.stack = B.fs) (I : Inv B (p0 ++ ow) σ H s) (hE : ExtH G.D H) (hh : s'.heap = s.heap) (ho : s'.os = s.os) (hb : AllBare s'.gens) : WkOk G ow s' := by
  obtain ⟨pins, σ', H', I'⟩ := W.sc
  refine ⟨by rw [ho, I.os, I'.os], hb, fun b o e => by rw [hh]; exact I.bk b o (by rw [W.eb]; exact e), fun b o hf e => ?_, fun b o e => ?_, fun p hp => by rw [hh]; exact (I.pin p (List.mem_append_right _ (List.mem_append_right _ hp))).1⟩
  · have hf' : b ∈ B.fs := by rw [← hfs, W.ef]; exact hf
    obtain ⟨_, o0, e0, _⟩ := I.ok.funs.mem hf'
    obtain ⟨sl1, q1⟩ := I'.base.slot b o0 e0 (I.ok.frf b hf') hf' fun z => I.ok.exfs b z hf'
    obtain ⟨sl2, q2⟩ := I.base.slot b o0 e0 (I.ok.frf b hf') hf' fun z => I.ok.exfs b z hf'
    rw [q1] at e
    cases e
    exact ⟨sl2, by rw [hh]; exact q2⟩
  · rw [hh, ← W.eP, ← W.ew]
    exact obj_flat (W.dat b o e) (I.hok b o (hE b o e))
section
variable {B : Cx} {G : GPar} {p0 : List (Addr × Obj)} {elt tg iter tg1 iter1 : Expr} {ifs ifs1 : List Expr} {scope : Scope} {pos : Pos} {g1 : TG} {tt1 : TT} {te : TE} {σ : L2.St} {vs1 : List Nat} {D a : Addr} {g : Nat} {go : Obj}
/-- the turns of a comprehension's second clause over a generator -/
theorem inner_gen (W : Walker B G p0) (hfs : frs B.stack = B.fs) (hxe : B.xe = fun _ _ => False) (hh : B.A.handled = none) (hd : B.A.depth < recursionLimit) (hg1 : PG B tg1 g1) (ht1 : PTs B ifs1 tt1) (he : PE B elt te)
    (hgo : ∀ h : Heap, h.get? a = some go → h.IsGen a g) (ha : (a, go) ∈ p0) (Pv : Nat → Hp → Prop) (hPD : ∀ j H, Pv j H → ExtH G.D H) {Rr : Shared → Prop}
    (step : ∀ j, j < G.N → ∀ H, Pv j H → ∀ x H', Same H H' → G.item j x H' → g1 x (wipe σ vs1) H' fun σ3 H5 => wipe σ3 vs1 = wipe σ vs1 ∧ tt1 σ3 H5 fun b H6 =>
      if b = true then te σ3 H6 fun y H7 => ∃ acc, H7 D = some (.lst acc) ∧ acc.length < sizeLine ∧ Pv (j + 1) (upd H7 D (.lst (acc ++ [y]))) else Pv (j + 1) H6)
    (fin : ∀ s' H', Inv B p0 (wipe σ vs1) H' s' → Pv G.N H' → Rr s') {ow : List (Addr × Obj)} {gs : GenState} {H : Hp} {s : Shared} (I : Inv B (p0 ++ ow) (wipe σ vs1) H s) (h0 : Pv 0 H) (hF : OwFar B G p0 ow) (hgs : s.gens[g]? = some gs)
    (hw : Wake (model G.P G.w) B.A.in1 gs (s.setGen g .running) (PhOf B.A.in1 G G.N ow (s.setGen g .running))) :
    codeAny (model B.prog B.w) B.A (.compLoop (.ListComp elt [⟨tg, iter, ifs, 0⟩, ⟨tg1, iter1, ifs1, 0⟩] scope pos) 1 (.ref a) (.ref D) B.env) (fun r s' => match r with | .ok _ => Rr s' | .error _ => False) s := by
  have xf : ∀ {x : Value} {s' : Shared}, B.xe x s' → False := fun {x s'} h => by rw [hxe] at h; exact h
  refine compLoop2_in (fun n s' => ∃ (j : Nat) (ow : List (Addr × Obj)) (gs : GenState) (H : Hp), n + j = G.N ∧ Inv B (p0 ++ ow) (wipe σ vs1) H s' ∧ Pv j H ∧ OwFar B G p0 ow ∧ s'.gens[g]? = some gs ∧ Wake (model G.P G.w) B.A.in1 gs (s'.setGen g .running) (PhOf B.A.in1 G n ow (s'.setGen g .running))) ?_ G.N
    ⟨0, ow, gs, H, Nat.add_zero _, I, h0, hF, hgs, hw⟩
  clear I h0 hF hgs hw
  rintro n s ⟨j, ow, gs, H, hj, I, hP, hF, hgs, hw⟩
  have hlt : g < s.gens.size := (Array.getElem?_eq_some_iff.mp hgs).1
  have hpa := (I.pin (a, go) (List.mem_append_right _ (List.mem_append_left _ ha))).1
  cases n with
  | zero =>
    refine next_gen (Y := fun _ _ _ => False) (Z := fun s' => Kp G ow [] (s.setGen g .running) s') hh I.nolimit hd (hgo _ hpa) hgs (by rw [W.eP, W.ew]; exact hw) (fun _ _ _ _ _ z => z.elim) fun s1 K1 h' hk => ?_
    have ej : j = G.N := by omega
    obtain ⟨I1, _⟩ := took (Hn := fun _ => none) (s2 := { s1.setGen g .finished with heap := h' }) W I (hPD j H hP) hF (show (s.setGen g .running).heap = s.heap from rfl) K1 (fun b xs _ hq => (by cases hq)) hk rfl (allBare_setGen K1.bare rfl)
    rw [glue_none, List.append_nil] at I1
    rw [ej] at hP
    exact fin _ H I1 hP
  | succ m =>
    refine wpAny_gsz (n := g + 1) hlt (next_gen (Y := fun v gs' s' => ∃ ow' y Hn, Kp G ow ow' (s.setGen g .running) s' ∧ Gave G (G.N - (m + 1)) ow' (s.setGen g .running) v s' Hn y ∧ Live B.A.in1 G m ow' gs') (Z := fun _ => False) hh I.nolimit hd (hgo _ hpa) hgs (by rw [W.eP, W.ew]; exact hw)
      (fun v gs' s1 hsus hbare ⟨ow', y, Hn, K1, Gv, lv⟩ => ?_) fun _ z => z.elim)
    intro hsz
    have ej : G.N - (m + 1) = j := by omega
    rw [ej] at Gv
    obtain ⟨I2, F2⟩ := took (s2 := s1.setGen g gs') W I (hPD j H hP) hF (show (s.setGen g .running).heap = s.heap from rfl) K1 (fun b xs hb hq => Gv.new b xs hb hq) (fun _ _ q => q) rfl (allBare_setGen K1.bare hbare)
    have g2 : (s1.setGen g gs').gens[g]? = some gs' := setGen_at (by rw [setGen_size] at hsz; omega)
    have sm : Same H (glue H Hn s.heap) := fun b o e => glue_old e
    have hE2 : ExtH G.D (glue H Hn s.heap) := fun b o e => glue_old (hPD j H hP b o e)
    have it2 : G.item j y (glue H Hn s.heap) := Gv.item _ hE2 fun b xs hb hq => by
      refine glue_new ?_ hb hq
      cases z : H b with
      | none => rfl
      | some o =>
        obtain ⟨u, q⟩ := objU_there (I.hok b o z)
        have hb' : s.heap.get? b = none := hb
        rw [hb'] at q
        cases q
    have st := step j (by omega) H hP y _ sm it2
    have hpa2 := (I2.pin (a, go) (List.mem_append_right _ (List.mem_append_left _ ha))).1
    obtain ⟨ob, nm, qn, hob, hoc, hod, _⟩ := hgo _ hpa2
    refine go_of hob hoc hod (by decide) ?_
    refine asleep (wpAny_mono (hg1.run _ (iceS (s1.setGen g gs')) (wipe σ vs1) _ y v _ I2.iced Gv.rel st) (fun _ _ h => h) fun _ _ z => xf z) fun _ a3 ⟨σ3, H3, I3, e3, q3⟩ l3 => ?_
    have I3' := I3.melted I2.bare
    have g3 := l3 g gs' g2 hsus
    generalize meltS (s1.setGen g gs').gens a3 = s3 at I3' g3
    refine asleep (wpAny_mono (ht1.run _ (iceS s3) σ3 H3 _ I3'.iced q3) (fun _ _ h => h) fun _ _ z => xf z) fun b a4 ⟨H4, I4, q4⟩ l4 => ?_
    have I4' := I4.melted I3'.bare
    have g4 := l4 g gs' g3 hsus
    generalize meltS s3.gens a4 = s4 at I4' g4
    have again : ∀ {s' : Shared} {H' : Hp}, Inv B (p0 ++ ow') σ3 H' s' → s'.gens[g]? = some gs' → Pv (j + 1) H' → ∃ n', n' < m + 1 ∧ ∃ (j : Nat) (ow : List (Addr × Obj)) (gs : GenState) (H : Hp), n' + j = G.N ∧ Inv B (p0 ++ ow) (wipe σ vs1) H s' ∧ Pv j H ∧ OwFar B G p0 ow ∧ s'.gens[g]? = some gs ∧
        Wake (model G.P G.w) B.A.in1 gs (s'.setGen g .running) (PhOf B.A.in1 G n' ow (s'.setGen g .running)) := fun {s' H'} I' g' p' => by
      refine ⟨m, Nat.lt_succ_self m, j + 1, ow', gs', H', by omega, I'.weak (by rw [← e3, wipe_length]) (fun i u q => by rw [← e3] at q; exact (wipe_some q).1), p', F2, g', ?_⟩
      exact live_iff.mp lv _ (wk_of W hfs I' (hPD _ _ p') rfl rfl (allBare_setGen I'.bare rfl))
    cases b with
    | false =>
      simp only [Bool.false_eq_true, if_false] at q4 ⊢
      exact again I4' g4 q4
    | true =>
      simp only [if_true] at q4 ⊢
      refine asleep (wpAny_mono (he.run _ (iceS s4) σ3 H4 _ I4'.iced q4) (fun _ _ h => h) fun _ _ z => xf z) fun z a5 ⟨yv, H5, I5, r5, acc, hD5, hz5, nx⟩ l5 => ?_
      have I5' := I5.melted I4'.bare
      have g5 := l5 g gs' g4 hsus
      generalize meltS s4.gens a5 = s5 at I5' g5
      refine asleep (R := fun _ b => Inv B (p0 ++ ow') σ3 (upd H5 D (.lst (acc ++ [yv]))) b) (app_ok (X := B) I5'.iced hD5 hz5 r5 fun s6 I6 => I6) fun _ a6 I6 l6 => ?_
      exact again (I6.melted I5'.bare) (l6 g gs' g5 hsus) nx
end
end L2
set_option maxRecDepth 100000
set_option maxHeartbeats 2000000
namespace L2
open PySem PySem.Spec PyProof.Rows GenW GenF
/-- an expression whose value is a generator of the program's that has not begun -/
abbrev TW := L2.St → Hp → (Hp → Hp → Nat → (Nat → V → Hp → Prop) → Prop) → Prop
structure PGW (X : Cx) (k : Nat) (e : Expr) (tw : TW) : Prop where
  run : ∀ (pins : List (Addr × Obj)) (s : Shared) (σ : L2.St) (H : Hp) (R : Hp → Hp → Nat → (Nat → V → Hp → Prop) → Prop), Inv X pins σ H s → tw σ H R → wpAny (model X.prog X.w) X.A (eval e X.env)
    (fun u s' => ∃ H1 sc D n item, Inv X pins σ H1 sc ∧ ExtH D H1 ∧ DataHp D ∧ WMade k X.stack ⟨X.prog, X.w, X.base, frs X.stack, D, sc, n, item⟩ u s' ∧ R H1 D n item) X.xe s
def tCallW (sp : SpW) (t : TA) : TW := fun σ H R => t σ H fun vs H1 => ∃ D n item, DataHp D ∧ ExtH D H1 ∧ sp vs D n item ∧ R H1 D n item
section
variable {X : Cx} {k : Nat} {f : Addr} {fd : FuncData} {ps : List Str} {sp : SpW} {x : Str} {p pos' : Pos}
theorem pgw_call {e : Expr} {es : List Expr} {t : TA} (F : WFn X.prog X.w X.K X.mg X.base k f fd ps sp) (hr : Room k X.A) (hg : Gl X x) (hm : X.mg x = some (.ref f)) (hk : PySem.W.keepIn X.K (.ref f) = true) (hb : Binds X.K fd ps []) (ha : PA X (e :: es) t)
    (hdb : (x == ("__debug__" : Str)) = false := by decide) (he : starEach (e :: es) X.env = (false, eval e X.env) :: starEach es X.env := by rfl) (hpl : (backTo pos' (starEach es X.env)).any (·.1) = false := by rfl) :
    PGW X k (.Call (.Name x p) (e :: es) [] pos') (tCallW sp t) := by
  refine ⟨fun pins s σ H R I h => ?_⟩
  refine wpAny_Call_Name_kw (ld_glob I hg hm ?_ hdb)
  refine PySem.W.callWith_K (h₀ := X.base) I.ok.mod.kin hk (thn (ha.run pos' pins s σ H _ I h) fun us s1 ⟨vs, H1, I1, r, D, n, item, d1, d2, hsp, hR⟩ => ⟨I1.kIn, ?_⟩) he hpl
  have hl : (us ++ []).length = ps.length := by
    rw [List.append_nil, ← r.length]
    exact F.len _ _ _ _ hsp
  have hb2 := hb s1 us I1.kIn hl
  rw [List.append_nil] at hb2
  refine wpAny_call (codeAny_mono (F.run X.A X.stack s1 H1 ⟨us, []⟩ us vs D n item hr I1.env0 hb2 r d1 d2 hsp) fun r s' hq => ?_)
  cases r with
  | error e => exact hq.elim
  | ok fl =>
    cases fl with
    | ret u => exact ⟨H1, s1, D, n, item, I1, d2, d1, hq, hR⟩
    | next => exact hq.elim
    | brk => exact hq.elim
    | cont => exact hq.elim
end
/-- what the inner loop over a generator is read by: D the list that is filled -/
def RdW (D : Addr) (g1 : TG) (tt1 : TT) (te : TE) (σ2 : L2.St) (vs1 : List Nat) (Nx : Hp → Prop) : Hp → Hp → Nat → (Nat → V → Hp → Prop) → Prop := fun H4 Dd n item => ∃ Pv : Nat → Hp → Prop, Pv 0 H4 ∧ (∀ H, Pv n H → Nx H) ∧ (∀ j H, Pv j H → ExtH Dd H) ∧
  ∀ j, j < n → ∀ H, Pv j H → ∀ x H', Same H H' → item j x H' → g1 x (wipe σ2 vs1) H' fun σ3 H5 => wipe σ3 vs1 = wipe σ2 vs1 ∧ tt1 σ3 H5 fun b H6 => if b = true then te σ3 H6 fun y H7 => ∃ acc, H7 D = some (.lst acc) ∧ acc.length < sizeLine ∧ Pv (j + 1) (upd H7 D (.lst (acc ++ [y]))) else Pv (j + 1) H6
/-- [elt for tg in iter if .. for tg1 in f(..) if ..], f a generator def -/
def tLc2W (wi : TI) (g : TG) (tt : TT) (tw : TW) (g1 : TG) (tt1 : TT) (te : TE) (vs vs1 : List Nat) : TE := fun σ H Q => wi σ H fun J H1 => ∀ D, H1 D = none → ∃ W : Nat → Nat → Hp → Prop, (∃ m, W 0 m (upd H1 D (.lst []))) ∧ ∀ i m H, W i m H →
  (J.stop i H ∧ Q (.ref D) H) ∨ (J.go i H ∧ ∃ Nx : Hp → Prop, (∀ H', Nx H' → ∃ m', m' < m ∧ W (i + 1) m' H') ∧ ∀ x H', J.yld i H x H' → g x (wipe σ vs) H' fun σ2 H2 => wipe σ2 vs = wipe σ vs ∧ tt σ2 H2 fun b H3 =>
    if b = true then tw σ2 H3 (RdW D g1 tt1 te σ2 vs1 Nx) else Nx H3)
/-- a generator that has come: the turns from there -/
theorem from_made {B : Cx} {pn0 : List (Addr × Obj)} {k : Nat} {elt tg iter tg1 iter1 : Expr} {ifs ifs1 : List Expr} {scope : Scope} {pos : Pos} {g1 : TG} {tt1 : TT} {te : TE} {σ : L2.St} {vs1 : List Nat} {d : Addr} {Nx : Hp → Prop} {Rr : Shared → Prop} {u : Value} {H1 Dd : Hp} {sc s : Shared} {n : Nat} {item : Nat → V → Hp → Prop}
    (hfs : frs B.stack = B.fs) (hxe : B.xe = fun _ _ => False) (hr : Room (k + 1) B.A) (hg1 : PG B tg1 g1) (ht1 : PTs B ifs1 tt1) (he : PE B elt te) (I : Inv B pn0 σ H1 sc) (hE : ExtH Dd H1) (hDd : DataHp Dd)
    (M : WMade k B.stack ⟨B.prog, B.w, B.base, frs B.stack, Dd, sc, n, item⟩ u s) (rd : RdW d g1 tt1 te σ vs1 Nx H1 Dd n item) (fin : ∀ s' H', Inv B pn0 (wipe σ vs1) H' s' → Nx H' → Rr s') :
    wpAny (model B.prog B.w) B.A (pyIter u) (fun itv s' => codeAny (model B.prog B.w) B.A (.compStart (.ListComp elt [⟨tg, iter, ifs, 0⟩, ⟨tg1, iter1, ifs1, 0⟩] scope pos) 1 itv (.ref d) B.env) (fun r s' => match r with | .ok _ => Rr s' | .error _ => False) s') (fun _ _ => False) s := by
  obtain ⟨a, g, c, go, ow, rfl, ha1, ha2, hgo, hgc, hgs, hos, hba, hkp, how, wake⟩ := M
  obtain ⟨Pv, p0, p1, p2, p3⟩ := rd
  have Wk : Walker B ⟨B.prog, B.w, B.base, frs B.stack, Dd, sc, n, item⟩ (pn0 ++ [(a, go)]) := ⟨rfl, rfl, rfl, rfl, hDd, pn0, σ, H1, I⟩
  have I2 : Inv B pn0 σ H1 s := I.call' (ch := []) hos (Un.kept hkp) (I.hok.kept hkp) hba fun b z => (by cases z)
  have yp : ∀ p : Addr × Obj, s.heap.get? p.1 = some p.2 → sc.heap.objs.size ≤ p.1 → (∀ v, p.2.data ≠ .cell v) → s.heap.get? p.1 = some p.2 ∧ H1 p.1 = none ∧ p.1 ≠ B.env.locals ∧ p.1 ∉ B.fs ∧ ∀ v, p.2.data ≠ .cell v := fun p e1 e2 e3 =>
    let ⟨_, y2, _, y4⟩ := Wk.young e2
    ⟨e1, I.hok.fresh e2, y2, y4, e3⟩
  have I3 : Inv B ((pn0 ++ [(a, go)]) ++ ow) (wipe σ vs1) H1 s := (I2.pins_of fun p hp => by
    rcases List.mem_append.mp hp with hp | hp
    · rcases List.mem_append.mp hp with hp | hp
      · exact I2.pin p (List.mem_append_right _ hp)
      · rw [List.mem_singleton.mp hp]
        exact yp (a, go) ha2 ha1 hgc
    · obtain ⟨q1, q2, _, q4⟩ := how p hp
      exact yp p q1 q2 q4).weak (wipe_length _ _) fun i v e => (wipe_some e).1
  have hF : OwFar B ⟨B.prog, B.w, B.base, frs B.stack, Dd, sc, n, item⟩ (pn0 ++ [(a, go)]) ow := fun q hq => by
    obtain ⟨q1, q2, q3, q4⟩ := how q hq
    refine ⟨q2, fun p hp z => ?_⟩
    rcases List.mem_append.mp hp with hp | hp
    · have lt := Heap.lt_size (I.pin p (List.mem_append_left _ hp)).1
      rw [z] at lt
      exact absurd (Nat.lt_of_lt_of_le lt q2) (Nat.lt_irrefl _)
    · rcases List.mem_append.mp hp with hp | hp
      · have lt := Heap.lt_size (I.pin p (List.mem_append_right _ hp)).1
        rw [z] at lt
        exact absurd (Nat.lt_of_lt_of_le lt q2) (Nat.lt_irrefl _)
      · rw [List.mem_singleton.mp hp] at z
        exact q3 z.symm
  have hw := wake B.A.in1 (s.setGen g .running) hr.in1 I.ok.frames (fun _ _ e => e) hos (allBare_setGen hba rfl)
  have turns := inner_gen (tg := tg) (iter := iter) (iter1 := iter1) (ifs := ifs) (scope := scope) (pos := pos) (D := d) Wk hfs hxe hr.hd hr.depth hg1 ht1 he hgo (List.mem_append_right _ List.mem_cons_self) Pv p2 (Rr := Rr) p3 (fun s' H' I' h' => fin s' H' (I'.pins_of fun p hp => I'.pin p (List.mem_append_right _ (List.mem_append_left _ hp))) (p1 H' h')) I3 p0 hF hgs hw
  refine wpAny_pyIter_gen (hgo _ ha2) ?_
  exact compStart1_ok turns (wpAny_pyIter_gen (hgo _ ha2) turns)
section
variable {X : Cx} {elt tg iter tg1 iter1 : Expr} {ifs ifs1 : List Expr} {scope : Scope} {own : List (Str × Nat)} {vs1 : List Nat} {pos : Pos} {wi : TI} {g g1 : TG} {tt tt1 : TT} {tw : TW} {te : TE} {k : Nat}
theorem pe_lc2W (hc : X.calm = true) (hN : X.N.Nodup) (hr : Room (k + 1) X.A) (hi : PI X tg iter wi) (ok : BlkOk X.N X.env.scope scope own) (hv : ∀ i ∈ vs1, i ∈ own.map (·.2))
    (bg : ∀ s H C cl fp, PG (X.blk s H scope (compEnvC scope cl C X.env) fp) tg g) (bt : ∀ s H C cl fp, PTs (X.blk s H scope (compEnvC scope cl C X.env) fp) ifs tt) (bw : ∀ s H C cl fp, PGW (X.blk s H scope (compEnvC scope cl C X.env) fp) k iter1 tw)
    (bg1 : ∀ s H C cl fp, PG (X.blk s H scope (compEnvC scope cl C X.env) fp) tg1 g1) (bt1 : ∀ s H C cl fp, PTs (X.blk s H scope (compEnvC scope cl C X.env) fp) ifs1 tt1) (be : ∀ s H C cl fp, PE (X.blk s H scope (compEnvC scope cl C X.env) fp) elt te)
    (hs : ∀ x, foldedSetIterable iter X.env x = pure x := by intro _; rfl) (hs1 : ∀ env x, foldedSetIterable iter1 env x = pure x := by intro _ _; rfl) :
    PE X (.ListComp elt [⟨tg, iter, ifs, 0⟩, ⟨tg1, iter1, ifs1, 0⟩] scope pos) (tLc2W wi g tt tw g1 tt1 te (own.map (·.2)) vs1) := by
  refine ⟨fun pins sa σ Ha Q Ia hq => ?_⟩
  rw [eval_ListComp]
  have clo : ∀ y ∈ scope.names, y.2 = .free → ∃ c, X.env.cells.lookup y.1 = some c := fun y hy e => (ok.free y hy e).elim (fun z => Ia.ok.has _ (.inl z)) fun z => Ia.ok.has _ (.inr z)
  refine wpAny_comprehension_free (use := none) rfl hs (closure_ok clo) ok.kind (fun y hy e => (ok.uniq y hy).trans (congrArg some e)) (thn (hi.run pins sa σ Ha _ Ia hq) fun _ sb hb => thn hb fun _ sd hd => ?_)
  obtain ⟨it, fp, tn, J, Hd, rfl, Id, T, td, fd, rest⟩ := hd
  refine wpAny_newObj_type (newEnv_comp ?_) (by show 0 ≤ sizeLine; decide)
  -- the list that is filled
  generalize edd : sd.heap.objs.size = dd
  have hdd : Hd dd = none := Id.hok.fresh (by omega)
  obtain ⟨W, ⟨m0, w0⟩, turn⟩ := rest dd hdd
  generalize ese : ({ sd with heap := sd.heap.push { cls := .type "list", data := .seq ([] : List Value).toArray } } : Shared) = se
  have he : se.heap = sd.heap.push { cls := .type "list", data := .seq ([] : List Value).toArray } := by rw [← ese]
  have Ie : Inv X pins σ (upd Hd dd (.lst [])) se := by
    rw [← ese]
    refine Id.laid (t' := sd.toks) (fun _ _ q => Heap.get?_push_of_some _ q) (by omega) ⟨Nat.zero_le _, [], 0, .nil, ?_⟩
    rw [← edd]
    exact Heap.get?_push_size _ rfl
  have ke : ∀ b o, sd.heap.get? b = some o → se.heap.get? b = some o := fun b o q => by rw [he]; exact Heap.get?_push_of_some _ q
  have far : ∀ b ∈ fp, b < sd.heap.objs.size := fun b hb => let ⟨_, q, _⟩ := T.obj _ _ td b hb; Heap.lt_size q
  have fe : ∀ b ∈ fp, FpOk X pins (upd Hd dd (.lst [])) b ∧ b < se.heap.objs.size := fun b hb => by
    have l1 := far b hb
    refine ⟨⟨(upd_ne (Nat.ne_of_lt (by rw [← edd]; exact l1))).trans (fd b hb).1, (fd b hb).2⟩, ?_⟩
    rw [he, Heap.size_push]
    exact Nat.lt_succ_of_lt l1
  have te0 : tn 0 se.heap := T.keep _ _ _ td fun b _ o q => ke b o q
  have Ib := block_start Ie ok hN fe
  have xg := bg se (upd Hd dd (.lst [])) se.heap.objs.size (cellsFrom (se.heap.objs.size + 1) scope.names (cloFrom X.env.cells scope.names [])) fp
  have xt := bt se (upd Hd dd (.lst [])) se.heap.objs.size (cellsFrom (se.heap.objs.size + 1) scope.names (cloFrom X.env.cells scope.names [])) fp
  have xw := bw se (upd Hd dd (.lst [])) se.heap.objs.size (cellsFrom (se.heap.objs.size + 1) scope.names (cloFrom X.env.cells scope.names [])) fp
  have xg1 := bg1 se (upd Hd dd (.lst [])) se.heap.objs.size (cellsFrom (se.heap.objs.size + 1) scope.names (cloFrom X.env.cells scope.names [])) fp
  have xt1 := bt1 se (upd Hd dd (.lst [])) se.heap.objs.size (cellsFrom (se.heap.objs.size + 1) scope.names (cloFrom X.env.cells scope.names [])) fp
  have xe := be se (upd Hd dd (.lst [])) se.heap.objs.size (cellsFrom (se.heap.objs.size + 1) scope.names (cloFrom X.env.cells scope.names [])) fp
  have nfp : ∀ b ∈ fp, (upd Hd dd (.lst [])) b = none := fun b hb => (fe b hb).1.1
  show codeAny _ _ (.compStart _ 0 (.ref it) (.ref dd) (compEnvC scope (cellsFrom (se.heap.objs.size + 1) scope.names (cloFrom X.env.cells scope.names [])) se.heap.objs.size X.env)) _ { se with heap := pushCells (se.heap.push { cls := .type "dict", data := .dict #[] }) scope.names }
  generalize ece : compEnvC scope (cellsFrom (se.heap.objs.size + 1) scope.names (cloFrom X.env.cells scope.names [])) se.heap.objs.size X.env = ce at Ib xg xt xw xg1 xt1 xe ⊢
  have lce : ce.locals = se.heap.objs.size := by subst ece; rfl
  generalize eHe : upd Hd dd (.lst []) = He at Ie Ib xg xt xw xg1 xt1 xe w0 nfp fe
  generalize esf : ({ se with heap := pushCells (se.heap.push { cls := .type "dict", data := .dict #[] }) scope.names } : Shared) = sf at Ib ⊢
  have tf : tn 0 sf.heap := T.keep _ _ _ te0 fun b _ o q => by rw [← esf]; exact pushCells_keeps _ _ _ _ (Heap.get?_push_of_some _ q)
  have stays : ∀ {σ' : L2.St} {H' : Hp} {s' : Shared}, Inv (X.blk se He scope ce fp) [] σ' H' s' → (∀ b ∈ fp, H' b = none) → ∀ b ∈ fp, FpOk (X.blk se He scope ce fp) [] H' b := fun {σ' H' s'} I' hn b hb =>
    ⟨hn b hb, (I'.ok.exf b hb).1, I'.ok.exfs b hb, .inl hb, fun x c q => (I'.ok.exf b hb).2 x c q, fun p hp => (by cases hp)⟩
  have loop : codeAny (model X.prog X.w) X.A (.compLoop (.ListComp elt [⟨tg, iter, ifs, 0⟩, ⟨tg1, iter1, ifs1, 0⟩] scope pos) 0 (.ref it) (.ref dd) ce) (compPost (model X.prog X.w) X.A X.xe none (EP X pins σ Q) (.ref dd) se.heap.objs.size) sf := by
    refine compLoop2_out (hs1 ce) (fun m s' => ∃ i H', Inv (X.blk se He scope ce fp) [] (wipe σ (own.map (·.2))) H' s' ∧ tn i s'.heap ∧ (∀ b ∈ fp, H' b = none) ∧ W i m H') ?_ m0 ⟨0, He, Ib, tf, nfp, w0⟩
    rintro m s5 ⟨i, H5, I5, t5, n5, w5⟩
    rcases turn i m H5 w5 with ⟨stop, qq⟩ | ⟨go, Nx, hNx, step⟩
    · refine thnF (T.done (X.blk se He scope ce fp) rfl rfl rfl hc i [] s5 _ H5 (fun _ _ => False) I5 (stays I5 n5) t5 stop) fun r s6 ⟨er, I6⟩ => ?_
      subst er
      have I7 : Inv X pins σ H5 s6 := Ie.call' (ch := fp) I6.os I6.base I6.hok I6.bare fun b hb => let ⟨_, q1, _, q3, q4, q5⟩ := (fe b hb).1; ⟨q3, q1, q4, q5⟩
      have nC : H5 se.heap.objs.size = none := by
        have z := I6.free
        rw [show (X.blk se He scope ce fp).env.locals = se.heap.objs.size from lce] at z
        exact z
      obtain ⟨mp, hmp, _⟩ := I6.loc
      rw [show (X.blk se He scope ce fp).env.locals = se.heap.objs.size from lce] at hmp
      refine ⟨mp, hmp, fun h'' sb => ?_⟩
      obtain ⟨f0, f1, _, f3, f4, f5⟩ := Ie.fpOk (Nat.le_refl _) nC
      exact ⟨.ref dd, H5, I7.turned (t' := s6.toks) (fun b o hb q => (sb.2 b hb).trans q) f0 f1 f3 f4 f5, rfl, qq⟩
    · refine thnF (T.item (X.blk se He scope ce fp) rfl rfl rfl hc i [] s5 _ H5 (fun _ _ => False) I5 (stays I5 n5) t5 go) fun r s6 ⟨u, er, h6⟩ => ?_
      subst er
      refine thnF h6 fun _ s7 ⟨x, H7, I7, r7, y7, t7, n7⟩ => ?_
      refine thnF (xg.run _ s7 _ H7 x u _ (I7.pinned (stays I7 n7) (T.obj _ _ t7)) r7 (step x H7 y7)) fun _ s8 ⟨σ8, H8, I8, w8, q8⟩ => ?_
      refine thnF (xt.run _ s8 σ8 H8 _ I8 q8) fun b s9 ⟨H9, I9, q9⟩ => ?_
      have done : ∀ {σ9 : L2.St} {s' : Shared} {H' : Hp}, Inv (X.blk se He scope ce fp) ([] ++ pinsAt fp s7.heap) σ9 H' s' → σ9.length = σ.length → (∀ (j : Nat) v, (wipe σ (own.map (·.2)))[j]? = some (some v) → σ9[j]? = some (some v)) → Nx H' →
          ∃ m', m' < m ∧ ∃ i H', Inv (X.blk se He scope ce fp) [] (wipe σ (own.map (·.2))) H' s' ∧ tn i s'.heap ∧ (∀ b ∈ fp, H' b = none) ∧ W i m' H' := fun {σ9 s' H'} I' hl hk nx => by
        obtain ⟨m', hm, w'⟩ := hNx H' nx
        have pk : ∀ b ∈ fp, ∀ o, s7.heap.get? b = some o → s'.heap.get? b = some o ∧ H' b = none := fun b hb o q =>
          let z := I'.pin (b, o) (List.mem_append_right _ (List.mem_append_right _ (mem_pinsAt hb q)))
          ⟨z.1, z.2.1⟩
        refine ⟨m', hm, i + 1, H', (I'.unpinned (pins := [])).weak ((wipe_length _ _).trans hl.symm) hk, T.keep _ _ _ t7 fun b hb o q => (pk b hb o q).1, fun b hb => ?_, w'⟩
        obtain ⟨o, q, _⟩ := T.obj _ _ t7 b hb
        exact (pk b hb o q).2
      have l8 : σ8.length = σ.length := by rw [← wipe_length σ8 (own.map (·.2)), w8, wipe_length]
      have k8 : ∀ (j : Nat) v, (wipe σ (own.map (·.2)))[j]? = some (some v) → σ8[j]? = some (some v) ∧ j ∉ own.map (·.2) := fun j v q => by
        rw [← w8] at q
        exact wipe_some q
      cases b with
      | false =>
        simp only [Bool.false_eq_true, if_false] at q9 ⊢
        exact done I9 l8 (fun j v q => (k8 j v q).1) q9
      | true =>
        simp only [if_true] at q9 ⊢
        refine thnF (xw.run _ s9 σ8 H9 _ I9 q9) fun u1 s10 ⟨H10, sc, Dd, n, item, I10, hE, hD, M, rd⟩ => ?_
        exact thnF (from_made (B := X.blk se He scope ce fp) (Rr := fun s' => ∃ m', m' < m ∧ ∃ i H', Inv (X.blk se He scope ce fp) [] (wipe σ (own.map (·.2))) H' s' ∧ tn i s'.heap ∧ (∀ b ∈ fp, H' b = none) ∧ W i m' H') (elt := elt) (tg := tg) (iter := iter) (iter1 := iter1) (ifs := ifs) (scope := scope) (pos := pos) rfl rfl hr xg1 xt1 xe I10 hE hD M rd fun s' H' I' nx => done I' ((wipe_length _ _).trans l8) (fun j v q => by
          obtain ⟨q1, q2⟩ := k8 j v q
          rw [wipe_out fun z => q2 (hv j z)]
          exact q1) nx) fun _ _ h => h
  exact codeAny_compStart_list loop (T.self X.A 0 _ _ _ tf loop)
end
end L2
set_option maxRecDepth 100000
set_option maxHeartbeats 2000000
namespace L2
open PySem PySem.Spec PyProof.Rows GenW GenF
/-! ### list(g) of a generator of the program's -/
def FSlot (G : GPar) (s : Shared) : Prop := ∀ b o, b ∈ G.fs → G.sc.heap.get? b = some o → ∃ sl, s.heap.get? b = some { o with slots := sl }
theorem FSlot.next {G : GPar} {ow ow' : List (Addr × Obj)} {s sw s1 s2 : Shared} (F : FSlot G s) (hsw : sw.heap = s.heap) (K1 : Kp G ow ow' sw s1) (h2 : ∀ b o, b ∈ G.fs → s1.heap.get? b = some o → s2.heap.get? b = some o) : FSlot G s2 := fun b o hb e => by
  obtain ⟨sl, q⟩ := F b o hb e
  obtain ⟨sl2, q2⟩ := K1.slot b _ hb (by rw [hsw]; exact q)
  exact ⟨sl2, h2 b _ hb q2⟩
theorem wk_slot {B : Cx} {G : GPar} {p0 ow : List (Addr × Obj)} {σ : L2.St} {H : Hp} {s s' : Shared} (W : Walker B G p0) (F : FSlot G s) (I : Inv B (p0 ++ ow) σ H s) (hE : ExtH G.D H) (hh : s'.heap = s.heap) (ho : s'.os = s.os) (hb : AllBare s'.gens) : WkOk G ow s' := by
  obtain ⟨pins, σ', H', I'⟩ := W.sc
  refine ⟨by rw [ho, I.os, I'.os], hb, fun b o e => by rw [hh]; exact I.bk b o (by rw [W.eb]; exact e), fun b o hf e => by rw [hh]; exact F b o hf e, fun b o e => ?_, fun p hp => by rw [hh]; exact (I.pin p (List.mem_append_right _ (List.mem_append_right _ hp))).1⟩
  rw [hh, ← W.eP, ← W.ew]
  exact obj_flat (W.dat b o e) (I.hok b o (hE b o e))
section
variable {X : Cx} {G : GPar} {p0 : List (Addr × Obj)} {σ : L2.St} {H1 : Hp} {A : Around} {R : Result → Shared → Prop} {S a : Addr} {g : Nat} {go : Obj} {res : Value}
theorem drainW (W : Walker X G p0) (hh : A.handled = none) (hd : A.depth < recursionLimit) (hgo : ∀ h : Heap, h.get? a = some go → h.IsGen a g) (ha : (a, go) ∈ p0) (hS : G.sc.heap.objs.size ≤ S) (hSp : ∀ p ∈ X.pn ++ p0, p.1 ≠ S) (hSf : S ∉ G.fs) (hN : G.N ≤ sizeLine)
    (hmono : ∀ j x H H', Same H H' → G.item j x H → G.item j x H')
    (hend : ∀ s' xs H' acc c, Inv X p0 σ H' s' → Same H1 H' → xs.length = G.N → (∀ (i : Nat) x, xs[i]? = some x → G.item i x H') → s'.heap.get? S = some (lstObj acc c) → Vals xs acc.toList → H' S = none → R (.ok (.ret res)) s') :
    ∀ (m j : Nat) (ow : List (Addr × Obj)) (s : Shared) (H : Hp) (xs : List V) (acc : Array Value) (c : Nat) (gs : GenState), m + j = G.N → Inv X ((p0 ++ [(S, lstObj acc c)]) ++ ow) σ H s → Same H1 H → ExtH G.D H → xs.length = j → (∀ (i : Nat) x, xs[i]? = some x → G.item i x H) → Vals xs acc.toList →
      OwFar X G (p0 ++ [(S, lstObj acc c)]) ow → FSlot G s → s.gens[g]? = some gs → Wake (model G.P G.w) A.in1.in1 gs (s.setGen g .running) (PhOf A.in1.in1 G m ow (s.setGen g .running)) → codeAny (model X.prog X.w) A (.builtin "list.extend.loop" ⟨[.ref S, .ref a, res], []⟩) R s := by
  intro m
  induction m with
  | zero =>
    intro j ow s H xs acc c gs hj I sm hE hl hit hv hF Fz hgs hw
    have hlt : g < s.gens.size := (Array.getElem?_eq_some_iff.mp hgs).1
    have hpa := (I.pin (a, go) (List.mem_append_right _ (List.mem_append_left _ (List.mem_append_left _ ha)))).1
    have W' : Walker X G (p0 ++ [(S, lstObj acc c)]) := ⟨W.eP, W.ew, W.eb, W.ef, W.dat, W.sc⟩
    refine codeAny_builtin F.entry_extend_loop ?_
    rw [Around.under_plainId F.plain_extend_loop _]
    show wpAny _ A.in1 (pyNext (.ref a) >>= fun _ => _) _ _ s
    refine wpAny_bind (next_gen (A := A.in1) (Y := fun _ _ _ => False) (Z := fun s' => Kp G ow [] (s.setGen g .running) s') hh I.nolimit hd (hgo _ hpa) hgs (by rw [W.eP, W.ew]; exact hw) (fun _ _ _ _ _ z => z.elim) fun s1 K1 h' hk => ?_)
    obtain ⟨I1, _⟩ := took (Hn := fun _ => none) (s2 := { s1.setGen g .finished with heap := h' }) W' I hE hF (show (s.setGen g .running).heap = s.heap from rfl) K1 (fun b xs _ hq => (by cases hq)) hk rfl (allBare_setGen K1.bare rfl)
    rw [glue_none, List.append_nil] at I1
    have pS := I1.pin (S, lstObj acc c) (List.mem_append_right _ (List.mem_append_right _ List.mem_cons_self))
    exact wpAny_pure (hend _ xs H acc c (I1.pins_of fun p hp => I1.pin p (List.mem_append_right _ (List.mem_append_left _ hp))) sm (by omega) hit pS.1 hv pS.2.1)
  | succ m ih =>
    intro j ow s H xs acc c gs hj I sm hE hl hit hv hF Fz hgs hw
    have hlt : g < s.gens.size := (Array.getElem?_eq_some_iff.mp hgs).1
    have hpa := (I.pin (a, go) (List.mem_append_right _ (List.mem_append_left _ (List.mem_append_left _ ha)))).1
    have W' : Walker X G (p0 ++ [(S, lstObj acc c)]) := ⟨W.eP, W.ew, W.eb, W.ef, W.dat, W.sc⟩
    refine codeAny_builtin F.entry_extend_loop ?_
    rw [Around.under_plainId F.plain_extend_loop _]
    show wpAny _ A.in1 (pyNext (.ref a) >>= fun _ => _) _ _ s
    refine wpAny_bind (wpAny_gsz (n := g + 1) hlt (next_gen (A := A.in1) (Y := fun v gs' s' => ∃ ow' y Hn, Kp G ow ow' (s.setGen g .running) s' ∧ Gave G (G.N - (m + 1)) ow' (s.setGen g .running) v s' Hn y ∧ Live A.in1.in1 G m ow' gs') (Z := fun _ => False) hh I.nolimit hd (hgo _ hpa) hgs
      (by rw [W.eP, W.ew]; exact hw) (fun v gs' s1 hsus hbare ⟨ow', y, Hn, K1, Gv, lv⟩ => ?_) fun _ z => z.elim))
    intro hsz
    have ej : G.N - (m + 1) = j := by omega
    rw [ej] at Gv
    obtain ⟨I2, F2⟩ := took (s2 := s1.setGen g gs') W' I hE hF (show (s.setGen g .running).heap = s.heap from rfl) K1 (fun b xs hb hq => Gv.new b xs hb hq) (fun _ _ q => q) rfl (allBare_setGen K1.bare hbare)
    have hsz1 : g < s1.gens.size := by
      have q : (s1.setGen g gs').gens.size = s1.gens.size := setGen_size _ _ _
      have q2 : g + 1 ≤ (s1.setGen g gs').gens.size := hsz
      omega
    have sm2 : Same H (glue H Hn s.heap) := fun b o e => glue_old e
    have hE2 : ExtH G.D (glue H Hn s.heap) := fun b o e => glue_old (hE b o e)
    have it2 : G.item j y (glue H Hn s.heap) := Gv.item _ hE2 fun b xs hb hq => by
      refine glue_new ?_ hb hq
      cases z : H b with
      | none => rfl
      | some o =>
        obtain ⟨u, q⟩ := objU_there (I.hok b o z)
        have hb' : s.heap.get? b = none := hb
        rw [hb'] at q
        cases q
    have pS := I2.pin (S, lstObj acc c) (List.mem_append_right _ (List.mem_append_left _ (List.mem_append_right _ List.mem_cons_self)))
    have hS1 : s1.heap.get? S = some (lstObj acc c) := pS.1
    have hal : acc.size = j := by
      have e1 := hv.length
      have e2 : acc.toList.length = acc.size := by simp
      omega
    have hasz : acc.size < sizeLine := by omega
    show wpAny _ A.in1 (updateSeq S (·.push v) >>= fun _ => _) _ _ _
    refine wpAny_bind ?_
    refine wpAny_updateSeq hS1 rfl (wpAny_pure ⟨plainId_quiet F.plain_extend_loop _, ?_⟩) (Nat.le_of_lt hasz) (by show (acc.push v).size ≤ sizeLine + 1; rw [Array.size_push]; omega)
    have kp3 : ∀ b o, b ≠ S → s1.heap.get? b = some o → (s1.heap.update S (Obj.mapSeq (·.push v))).get? b = some o := fun b o hb e => (Heap.get?_update_other _ _ (Ne.symm hb)).trans e
    have hS3 : (s1.heap.update S (Obj.mapSeq (·.push v))).get? S = some (lstObj (acc.push v) _) := Heap.get?_update_self (Obj.mapSeq (·.push v)) hS1 rfl
    obtain ⟨y1, y2, y3, y4⟩ := W.young hS
    have I3 : Inv X (p0 ++ ow') σ (glue H Hn s.heap) { s1.setGen g gs' with heap := s1.heap.update S (Obj.mapSeq (·.push v)) } := by
      refine Inv.turned (t' := (s1.setGen g gs').toks) (it := S) (I2.pins_of (pins' := p0 ++ ow') fun p hp => ?_) (fun b o hb e => kp3 b o hb e) pS.2.1 y2 (.inr y1) y3 fun p hp => ?_
      · rcases List.mem_append.mp hp with hp | hp
        · exact I2.pin p (List.mem_append_right _ (List.mem_append_left _ (List.mem_append_left _ hp)))
        · exact I2.pin p (List.mem_append_right _ (List.mem_append_right _ hp))
      · rcases List.mem_append.mp hp with hp | hp
        · exact hSp p (List.mem_append_left _ hp)
        · rcases List.mem_append.mp hp with hp | hp
          · exact hSp p (List.mem_append_right _ hp)
          · exact fun z => (F2 p hp).2 (S, lstObj acc c) (List.mem_append_right _ (List.mem_append_right _ List.mem_cons_self)) z.symm
    have I4 : ∀ c', (s1.heap.update S (Obj.mapSeq (·.push v))).get? S = some (lstObj (acc.push v) c') → Inv X ((p0 ++ [(S, lstObj (acc.push v) c')]) ++ ow') σ (glue H Hn s.heap) { s1.setGen g gs' with heap := s1.heap.update S (Obj.mapSeq (·.push v)) } := fun c' hc => I3.pins_of fun p hp => by
      rcases List.mem_append.mp hp with hp | hp
      · rcases List.mem_append.mp hp with hp | hp
        · exact I3.pin p (List.mem_append_right _ (List.mem_append_left _ hp))
        · rw [List.mem_singleton.mp hp]
          exact ⟨hc, pS.2.1, y2, y4, fun v q => by cases q⟩
      · exact I3.pin p (List.mem_append_right _ (List.mem_append_right _ hp))
    have F4 : FSlot G { s1.setGen g gs' with heap := s1.heap.update S (Obj.mapSeq (·.push v)) } := Fz.next (show (s.setGen g .running).heap = s.heap from rfl) K1 fun b o hb e => kp3 b o (fun z => hSf (by rw [← z]; exact hb)) e
    refine ih (j + 1) ow' { s1.setGen g gs' with heap := s1.heap.update S (Obj.mapSeq (·.push v)) } (glue H Hn s.heap) (xs ++ [y]) (acc.push v) _ gs' (by omega) (I4 _ hS3) (fun b o q => sm2 b o (sm b o q)) hE2 (by rw [List.length_append, hl]; rfl) (fun i x hx => ?_) ?_ (fun q hq => ⟨(F2 q hq).1, fun p hp => ?_⟩) F4 (setGen_at hsz1) ?_
    · by_cases hi : i < xs.length
      · rw [List.getElem?_append_left hi] at hx
        exact hmono i x _ _ sm2 (hit i x hx)
      · have hi2 : i = j := by
          have := (List.getElem?_eq_some_iff.mp hx).1
          rw [List.length_append, List.length_singleton] at this
          omega
        rw [hi2, List.getElem?_append_right (by omega), hl, Nat.sub_self] at hx
        cases hx
        rw [hi2]
        exact it2
    · rw [Array.toList_push]
      exact hv.append (.cons Gv.rel .nil)
    · rcases List.mem_append.mp hp with hp | hp
      · exact (F2 q hq).2 p (List.mem_append_left _ hp)
      · rcases List.mem_append.mp hp with hp | hp
        · exact (F2 q hq).2 p (List.mem_append_right _ (List.mem_append_left _ hp))
        · rw [List.mem_singleton.mp hp]
          exact (F2 q hq).2 (S, lstObj acc c) (List.mem_append_right _ (List.mem_append_right _ List.mem_cons_self))
    · exact live_iff.mp lv _ (wk_slot W (p0 := p0) F4 I3 hE2 rfl rfl (allBare_setGen I3.bare rfl))
end
def tListW (tw : TW) : TE := fun σ H Q => tw σ H fun H1 D n item => n ≤ sizeLine ∧ (∀ j x H H', Same H H' → item j x H → item j x H') ∧ ∀ xs H', xs.length = n → Same H1 H' → (∀ (i : Nat) x, xs[i]? = some x → item i x H') → ∀ p, H' p = none → Q (.ref p) (upd H' p (.lst xs))
theorem pe_listW {X : Cx} {k : Nat} {e : Expr} {tw : TW} {nm : Str} {p pos : Pos} (h : PGW X k e tw) (hr : Room (k + 3) X.A) (hg : Gl X nm) (hmg : X.mg nm = none) (hv : bootBuiltins nm = some (.type "list")) (hnm : nm ≠ "__name__" := by decide) (hdb : (nm == ("__debug__" : Str)) = false := by decide)
    (he : starEach [e] X.env = (false, eval e X.env) :: starEach [] X.env := by rfl) : PE X (.Call (.Name nm p) [e] [] pos) (tListW tw) := by
  refine ⟨fun pins s0 σ H Q I hq => ?_⟩
  refine wpAny_Call_Name_kw (ld_blt I hg hmg hv ?_ hnm hdb)
  refine PyProof.Rows.callWith_type1 ?_ he rfl
  rw [he]
  show wpAny _ _ (spliced ((false, eval e X.env) :: backTo pos (starEach [] X.env))) _ _ s0
  refine Calls.spliced_cons (thn (h.run pins s0 σ H _ I hq) fun u s ⟨H1, sc, D, n, item, I1, hE, hD, M, hn, hmono, k1⟩ => ?_)
  refine Calls.spliced_nil ?_
  obtain ⟨a, g, c, go, ow, rfl, ha1, ha2, hgo, hgc, hgs, hos, hba, hkp, how, wake⟩ := M
  have Wk : Walker X ⟨X.prog, X.w, X.base, frs X.stack, D, sc, n, item⟩ (pins ++ [(a, go)]) := ⟨rfl, rfl, rfl, rfl, hD, pins, σ, H1, I1⟩
  have I2 : Inv X pins σ H1 s := I1.call' (ch := []) hos (Un.kept hkp) (I1.hok.kept hkp) hba fun b z => (by cases z)
  have hl : s.heap.NoLimit := I2.nolimit
  have hsc : sc.heap.objs.size ≤ s.heap.objs.size := by
    have l1 := Heap.lt_size ha2
    have l2 : sc.heap.objs.size ≤ a := ha1
    exact Nat.le_of_lt (Nat.lt_of_le_of_lt l2 l1)
  have hne : s.heap.objs.size ≠ a := Nat.ne_of_gt (Heap.lt_size ha2)
  refine callType_codes (Q₁ := fun obj s₁ => obj = .ref s.heap.objs.size ∧ s₁ = { s with heap := s.heap.push { cls := .type "list", data := .seq #[] } }) F.called_list (F.typeCall_list_1 _) F.entry_list_init
    (code_list_new _ ⟨rfl, rfl⟩) fun obj s₁ h₁ => ?_
  obtain ⟨rfl, rfl⟩ := h₁
  have e1 : (s.heap.push { cls := .type "list", data := .seq #[] }).get? s.heap.objs.size = some { cls := .type "list", data := .seq #[] } := Heap.get?_push_size _ rfl
  refine ⟨⟨_, e1, rfl⟩, F.args_list_init_2 _ _, ?_⟩
  show wpAny _ X.A.in1.in1 (do let old ← Builtin.List.listItems (.ref s.heap.objs.size); Builtin.List.listUpdate (.ref s.heap.objs.size) (fun _ => #[]); letGo old.toList.reverse; Builtin.List.listExtendWith (.ref s.heap.objs.size) (.ref a) .none) _ _ _
  refine wpAny_bind ?_
  unfold Builtin.List.listItems
  refine wpAny_bind (wpAny_seqItems e1 rfl (wpAny_pure ?_))
  show wpAny _ _ (updateSeq s.heap.objs.size (fun _ => #[]) >>= fun _ => letGo (#[] : Array Value).toList.reverse >>= fun _ => Builtin.List.listExtendWith (.ref s.heap.objs.size) (.ref a) .none) _ _ _
  refine wpAny_bind (wpAny_updateSeq e1 rfl ?_)
  have e2 := Heap.get?_update_self (Obj.mapSeq (fun _ => (#[] : Array Value))) e1 rfl
  refine wpAny_bind (wpAny_letGo ?_)
  unfold Builtin.List.listExtendWith
  have up : ∀ (h : Heap) (f : Obj → Obj), (∀ b o, s.heap.get? b = some o → h.get? b = some o) → ∀ b o, s.heap.get? b = some o → (h.update s.heap.objs.size f).get? b = some o := fun h f q b o e => (Heap.get?_update_other _ _ (Ne.symm (Nat.ne_of_lt (Heap.lt_size e)))).trans (q b o e)
  have c1 : ∀ b o, s.heap.get? b = some o → (s.heap.push { cls := .type "list", data := .seq #[] }).get? b = some o := fun b o e => Heap.get?_push_of_some _ e
  have c2 := up _ (Obj.mapSeq (fun _ => (#[] : Array Value))) c1
  have gty : ∀ {h : Heap}, (∀ b o, s.heap.get? b = some o → h.get? b = some o) → h.IsGen a g := fun {h} q => hgo h (q a go ha2)
  refine wpAny_bind (wpAny_typeOf (Heap.IsGen.typeIs (s := { s with heap := _ }) (gty c2)) ?_)
  have d1 : Builtin.List.listSameRef (.ref s.heap.objs.size) (.ref a) = false := by simp [Builtin.List.listSameRef, hne]
  have d2 : (Value.type "generator" == Value.type "list") = false := by decide
  have d3 : (Value.type "generator" == Value.type "tuple") = false := by decide
  simp only [d1, d2, d3, Bool.or_false, Bool.false_eq_true, if_false]
  refine wpAny_bind (wpAny_pyIter_gen (s := { s with heap := _ }) (gty c2) ?_)
  refine wpAny_bind (wpAny_holding ?_)
  unfold Builtin.List.listLengthHint
  refine wpAny_bind (wpAny_specialOf (Heap.IsGen.typeIs (s := { s with heap := _ }) (gty c2)) F.gen_no_len ?_)
  show wpAny _ _ (specialOf (Value.ref a) (Str.ofString "__length_hint__") >>= _) _ _ _
  refine wpAny_bind (wpAny_specialOf (Heap.IsGen.typeIs (s := { s with heap := _ }) (gty c2)) F.gen_no_hint ?_)
  refine wpAny_pure ?_
  show wpAny _ _ (rule "list.extend.makes-room" >>= fun _ => Builtin.List.listTouch (.ref s.heap.objs.size) >>= fun _ => again (.builtin "list.extend.loop" ⟨[.ref s.heap.objs.size, .ref a, .none], []⟩)) _ _ _
  refine wpAny_bind (wpAny_rule ?_)
  refine wpAny_bind ?_
  show wpAny _ _ (updateSeq s.heap.objs.size (·.push .none) >>= fun _ => updateSeq s.heap.objs.size (·.pop)) _ _ _
  refine wpAny_bind (wpAny_updateSeq e2 rfl ?_)
  have e3 := Heap.get?_update_self (Obj.mapSeq (·.push Value.none)) e2 rfl
  refine wpAny_updateSeq (hz := by seq_fits) e3 rfl ?_
  have e4 := Heap.get?_update_self (Obj.mapSeq (·.pop)) e3 rfl
  have c4 := up _ (Obj.mapSeq (·.pop)) (up _ (Obj.mapSeq (·.push Value.none)) c2)
  refine wpAny_pure ⟨plainId_quiet F.plain_extend_loop _, ?_⟩
  generalize hs5 : ({ s with heap := _ } : Shared) = s5 at *
  have k5 : ∀ b o, s.heap.get? b = some o → s5.heap.get? b = some o := fun b o q => by rw [← hs5]; exact c4 b o q
  have g5 : s5.gens = s.gens := by rw [← hs5]
  have o5 : s5.os = s.os := by rw [← hs5]
  have e5 : ∃ cc, s5.heap.get? s.heap.objs.size = some (lstObj #[] cc) := by rw [← hs5]; exact ⟨_, e4⟩
  obtain ⟨cc, e5⟩ := e5
  have I5 : Inv X pins σ H1 s5 := I2.call' (ch := []) o5 (Un.kept k5) (I2.hok.kept k5) (by rw [g5]; exact hba) fun b z => (by cases z)
  have yp : ∀ q : Addr × Obj, s5.heap.get? q.1 = some q.2 → sc.heap.objs.size ≤ q.1 → (∀ v, q.2.data ≠ .cell v) → s5.heap.get? q.1 = some q.2 ∧ H1 q.1 = none ∧ q.1 ≠ X.env.locals ∧ q.1 ∉ X.fs ∧ ∀ v, q.2.data ≠ .cell v := fun q r1 r2 r3 =>
    let ⟨_, y2, _, y4⟩ := Wk.young r2
    ⟨r1, I1.hok.fresh r2, y2, y4, r3⟩
  have I6 : Inv X (((pins ++ [(a, go)]) ++ [(s.heap.objs.size, lstObj #[] cc)]) ++ ow) σ H1 s5 := I5.pins_of fun q hq => by
    rcases List.mem_append.mp hq with hq | hq
    · rcases List.mem_append.mp hq with hq | hq
      · rcases List.mem_append.mp hq with hq | hq
        · exact I5.pin q (List.mem_append_right _ hq)
        · rw [List.mem_singleton.mp hq]
          exact yp (a, go) (k5 _ _ ha2) ha1 hgc
      · rw [List.mem_singleton.mp hq]
        exact yp (s.heap.objs.size, lstObj #[] cc) e5 hsc fun v r => (by cases r)
    · obtain ⟨r1, r2, _, r4⟩ := how q hq
      exact yp q (k5 _ _ r1) r2 r4
  have old : ∀ q ∈ X.pn ++ pins, q.1 < sc.heap.objs.size := fun q hq => Heap.lt_size (I1.pin q hq).1
  have hSp : ∀ q ∈ X.pn ++ (pins ++ [(a, go)]), q.1 ≠ s.heap.objs.size := fun q hq z => by
    have lt : q.1 < s.heap.objs.size := by
      rcases List.mem_append.mp hq with hq | hq
      · exact Nat.lt_of_lt_of_le (old q (List.mem_append_left _ hq)) hsc
      · rcases List.mem_append.mp hq with hq | hq
        · exact Nat.lt_of_lt_of_le (old q (List.mem_append_right _ hq)) hsc
        · rw [List.mem_singleton.mp hq]
          exact Heap.lt_size ha2
    rw [z] at lt
    exact absurd lt (Nat.lt_irrefl _)
  have hF : OwFar X ⟨X.prog, X.w, X.base, frs X.stack, D, sc, n, item⟩ ((pins ++ [(a, go)]) ++ [(s.heap.objs.size, lstObj #[] cc)]) ow := fun q hq => by
    obtain ⟨r1, r2, r3, r4⟩ := how q hq
    refine ⟨r2, fun q' hq' z => ?_⟩
    have far : ∀ q'' ∈ X.pn ++ pins, q''.1 ≠ q.1 := fun q'' hq'' z => by
      have lt := old q'' hq''
      rw [z] at lt
      exact absurd (Nat.lt_of_lt_of_le lt r2) (Nat.lt_irrefl _)
    rcases List.mem_append.mp hq' with hq' | hq'
    · exact far q' (List.mem_append_left _ hq') z
    · rcases List.mem_append.mp hq' with hq' | hq'
      · rcases List.mem_append.mp hq' with hq' | hq'
        · exact far q' (List.mem_append_right _ hq') z
        · rw [List.mem_singleton.mp hq'] at z
          exact r3 z.symm
      · rw [List.mem_singleton.mp hq'] at z
        have lt := Heap.lt_size r1
        rw [← z] at lt
        exact absurd lt (Nat.lt_irrefl _)
  have nofs : s.heap.objs.size ∉ frs X.stack := fun hm => by
    rcases List.mem_cons.mp (I1.stkSub _ hm) with z | z
    · exact (Wk.young hsc).2.1 z
    · exact (Wk.young hsc).2.2.2 z
  refine drainW (A := X.A.in1) (res := .none) (σ := σ) (H1 := H1) (go := go) (g := g) Wk hr.hd hr.depth hgo (List.mem_append_right _ List.mem_cons_self) hsc hSp nofs hn hmono (fun s' xs H' acc c' I' sm hl' hit' hS' hv' hHS => ⟨rfl, ?_⟩) n 0 ow s5 H1 [] #[] cc (.fresh c) (Nat.add_zero _) I6 (fun _ _ q => q) hE rfl (fun i x hx => (by simp at hx)) .nil hF
    (fun b o hb q => ⟨o.slots, k5 b o (hkp b o q)⟩) (by rw [g5]; exact hgs) ?_
  · exact wake X.A.in1.in1.in1 (s5.setGen g .running) (hr.in1.in1.in1) I1.ok.frames k5 (by rw [show (s5.setGen g .running).os = s5.os from rfl, o5]; exact hos) (allBare_setGen (by rw [g5]; exact hba) rfl)
  · refine ⟨.ref s.heap.objs.size, upd H' s.heap.objs.size (.lst xs), ?_, rfl, k1 xs H' hl' sm hit' _ hHS⟩
    obtain ⟨z1, z2, z3, z4⟩ := Wk.young hsc
    have J := I'.pins_of (pins' := pins) fun q hq => I'.pin q (List.mem_append_right _ (List.mem_append_left _ hq))
    have nS : ∀ b o, H' b = some o → b ≠ s.heap.objs.size := fun b o q z => by rw [z, hHS] at q; cases q
    have sm' : Same H' (upd H' s.heap.objs.size (.lst xs)) := fun b o q => by rw [upd_ne (nS b o q)]; exact q
    refine J.call' (ch := [s.heap.objs.size]) rfl ⟨fun _ _ q _ _ _ => q, fun b o q _ _ _ => ⟨o.slots, q⟩, fun b o q r hb => ?_, fun b o q _ => ⟨o, q⟩, fun b ys q => sm' b _ q, fun b o u q => sm' b _ q, fun b ys q => ⟨#[], by rw [sm' b _ q]; simp⟩⟩ (fun b o q => ?_) J.bare fun b hb => ?_
    · rw [upd_ne (fun z => hb (by rw [z]; exact List.mem_cons_self))]
      exact r
    · by_cases hb : b = s.heap.objs.size
      · rw [hb, upd_same] at q
        cases q
        rw [hb]
        exact ⟨by rw [hl']; exact hn, acc.toList, c', hv', by rw [Array.toArray_toList]; exact hS'⟩
      · rw [upd_ne hb] at q
        exact (J.hok b o q).stay (fun _ _ _ z => z) (fun d z => sm' d _ z) fun d ys z => sm' d _ z
    · rw [List.mem_singleton.mp hb]
      exact ⟨.inr z1, z2, z3, fun q hq => hSp q (by
        rcases List.mem_append.mp hq with hq | hq
        · exact List.mem_append_left _ hq
        · exact List.mem_append_right _ (List.mem_append_left _ hq))⟩
end L2
set_option maxRecDepth 100000
set_option maxHeartbeats 4000000
namespace Pa
open PySem PySem.Spec PyProof.Rows L2
/-! ### calls of defs, by one fact each -/
/-- the module's name x holds a def that keeps the promise sp -/
structure CallOk (P : Program) (w : World) (K : PySem.W.Frag) (mg : Str → Option Value) (base : Heap) (k : Nat) (x : Str) (ps : List Str) (sp : Sp) : Prop where
  ok : ∃ (f : Addr) (fd : FuncData), mg x = some (.ref f) ∧ PySem.W.keepIn K (.ref f) = true ∧ Binds K fd ps [] ∧ FnOk P w K mg base CX0 k f fd ps sp
theorem CallOk.imp {P : Program} {w : World} {K : PySem.W.Frag} {mg : Str → Option Value} {base : Heap} {k : Nat} {x : Str} {ps : List Str} {sp sp' : Sp} (C : CallOk P w K mg base k x ps sp) (h : ∀ vs H Q E, sp' vs H Q E → sp vs H Q E) : CallOk P w K mg base k x ps sp' := by
  obtain ⟨f, fd, h1, h2, h3, h4⟩ := C.ok
  exact ⟨f, fd, h1, h2, h3, h4.imp h⟩
theorem call_ok {P : Program} {w : World} {K : PySem.W.Frag} {mg : Str → Option Value} {base : Heap} {k : Nat} {x : Str} {ps : List Str} {sp : Sp} {f : Addr} {fd : FuncData} (m : mg x = some (.ref f)) (kp : PySem.W.keepIn K (.ref f) = true) (b : Binds K fd ps []) (F : FnOk P w K mg base CX0 k f fd ps sp) :
    CallOk P w K mg base k x ps sp := ⟨f, fd, m, kp, b, F⟩
section
variable {X : Cx} {k : Nat} {ps : List Str} {sp : Sp} {x : Str} {p pos : Pos} {e : Expr} {es : List Expr} {t : TA}
theorem pe_cc (C : CallOk X.prog X.w X.K X.mg X.base k x ps sp) (hr : Room k X.A) (hg : Gl X x) (ha : PA X (e :: es) t) (hdb : (x == ("__debug__" : Str)) = false := by decide)
    (he : starEach (e :: es) X.env = (false, eval e X.env) :: starEach es X.env := by rfl) (hpl : (backTo pos (starEach es X.env)).any (·.1) = false := by rfl) : PE X (.Call (.Name x p) (e :: es) [] pos) (tCall sp [] E0 t) := by
  obtain ⟨f, fd, h1, h2, h3, h4⟩ := C.ok
  exact pe_call h4 hr hg h1 h2 h3 .nil pass0 ha hdb he hpl
theorem pe_cc0 (C : CallOk X.prog X.w X.K X.mg X.base k x ps sp) (hr : Room k X.A) (hg : Gl X x) (hdb : (x == ("__debug__" : Str)) = false := by decide) : PE X (.Call (.Name x p) [] [] pos) (tCall sp [] E0 tNil) := by
  obtain ⟨f, fd, h1, h2, h3, h4⟩ := C.ok
  exact pe_call0 h4 hr hg h1 h2 h3 .nil pass0 hdb
end
def topS (i : Nat) : Stmt := PySem.Challenge.pw_pressalike_k02_inks_by_rows.main.body.getD i (.Pass ⟨0, 0, 0, 0⟩)
abbrev sBag : Stmt := topS 14
abbrev sDraw : Stmt := topS 15
theorem scBag : FnScope ["_law_script", "_law_at", "_law_great", "_law_mixed", "_law_place", "_law_cell"] ["_law_script", "_law_at"] (defScope sBag) := ⟨rfl, rfl, rfl, by decide +kernel, rfl, by decide +kernel, by decide +kernel⟩
theorem scDraw : FnScope ["_law_bag_here", "_law_many", "_law_digit"] ["_law_bag_here", "_law_many"] (defScope sDraw) := ⟨rfl, rfl, rfl, by decide +kernel, rfl, by decide +kernel, by decide +kernel⟩
theorem atI_ints {ns : List Int} {i : Int} (h0 : 0 ≤ i) (h : i < (ns.length : Int)) : ∃ z : Int, atI (ns.map V.int) i = some (.int z) := by
  obtain ⟨n, rfl⟩ : ∃ n : Nat, i = (n : Int) := ⟨i.toNat, by omega⟩
  have hn : n < ns.length := by omega
  exact ⟨ns[n], atI_nat (j := n) (by rw [List.getElem?_map, List.getElem?_eq_getElem hn]; rfl)⟩
theorem join1 {α : Type} {G : α → Prop} {T : Prop} (h : (∀ y, G y) → T) (g : ∀ y, G y) : T := h g
/-- a source of draws stands at b -/
def IsBag (H : Hp) (b : Addr) : Prop := ∃ g x c : Int, H b = some (.lst [.int g, .int x, .int c])
/-- at most the source at b has changed -/
structure Bk (b : Addr) (H H' : Hp) : Prop where
  bag : IsBag H' b
  keep : ∀ q o, q ≠ b → H q = some o → H' q = some o
theorem Bk.trans {b : Addr} {H H1 H2 : Hp} (x : Bk b H H1) (y : Bk b H1 H2) : Bk b H H2 := ⟨y.bag, fun q o hq e => y.keep q o hq (x.keep q o hq e)⟩
theorem Bk.seqL {K : PySem.W.Frag} {b p : Addr} {H H' : Hp} {xs : List V} (x : Bk b H H') (h : SqL K H p xs) (hp : p ≠ b) : SqL K H' p xs := by
  rcases h with (h | ⟨o, h⟩) | h
  · exact .inl (.inl (x.keep _ _ hp h))
  · exact .inl (.inr ⟨o, x.keep _ _ hp h⟩)
  · exact .inr h
theorem Bk.seqT {K : PySem.W.Frag} {b p : Addr} {H H' : Hp} {xs : List V} (x : Bk b H H') (h : SqT K H p xs) (hp : p ≠ b) : SqT K H' p xs := by
  rcases h with (h | ⟨o, h⟩) | h
  · exact .inl (.inl (x.keep _ _ hp h))
  · exact .inl (.inr ⟨o, x.keep _ _ hp h⟩)
  · exact .inr h
/-- a new object beside it -/
theorem Bk.fresh {b p : Addr} {H H' : Hp} {o : HO} (x : Bk b H H') (h : H' p = none) : Bk b H (upd H' p o) := by
  obtain ⟨⟨g, y, c, e⟩, kp⟩ := x
  exact ⟨⟨g, y, c, by rw [upd_ne (ne_of_none e h)]; exact e⟩, fun q u hq eq => by rw [upd_ne (ne_of_none (kp q u hq eq) h)]; exact kp q u hq eq⟩
theorem Bk.free {b p : Addr} {H H' : Hp} (x : Bk b H H') (hb : IsBag H b) (h : H' p = none) : H p = none := by
  cases e : H p with
  | none => rfl
  | some o =>
    by_cases q : p = b
    · obtain ⟨g, y, c, e2⟩ := x.bag
      rw [q, e2] at h
      cases h
    · rw [x.keep p o q e] at h
      cases h
def spDraw : Sp := fun vs H Q _ => ∃ (b : Addr) (m : Int), vs = [.ref b, .int m] ∧ IsBag H b ∧ 1 ≤ m ∧ m < 2 ^ 200 ∧
  ∀ (d : Int) (H' : Hp), 0 ≤ d → d < m → Bk b H H' → Q (.int d) H'
section
variable {P : Program} {w : World} {K : PySem.W.Frag} {mg : Str → Option Value} {base : Heap}
theorem ok_draw {f : Addr} {fd : FuncData} (F : Fun K "_law_draw" "_law_draw" sDraw f fd) (mi : mg "int" = none) : FnOk P w K mg base CX0 1 f fd ["_law_bag_here", "_law_many"] spDraw := by
  refine F.ok scDraw (fun vs H Q E h => ?_) (fun cdv A outer s H vs Q E hr h => ?_)
  · obtain ⟨b, m, rfl, _⟩ := h
    rfl
  · obtain ⟨b, m, rfl, ⟨g, x, c, hb⟩, h1, h2, k⟩ := h
    have nd := scDraw.nd
    refine ⟨_, pss_cons (ps_if (pt_cmpR op_gt (pe_ix ix_list (pv 0) pe_int (fun _ _ => rfl)) pe_int (nomark _))
        (pss_cons (ps_set (i := 2) nd rfl (.inl rfl) (pe_op op_mod (pe_callTy call_int1 (by rfl) mi (by decide +kernel) (pa_cons (pe_ix ix_list (pv 0) pe_int (fun _ _ => rfl)) pa_nil)) (pv 1)))
        (pss_cons (ps_asg (pe_op op_fdivW (pe_ix ix_list (pv 0) pe_int (fun _ _ => rfl)) (pv 1)) (pg_sub (pv 0) pe_int set_list))
        (pss_one (ps_ret (pv 2))))) pss_nil)
      (pss_cons (ps_asg (pe_op op_add (pe_ix ix_list (pv 0) pe_int (fun _ _ => rfl)) pe_int) (pg_sub (pv 0) pe_int set_list))
      (pss_cons (ps_asg (pe_op op_mod (pe_callTy call_int1 (by rfl) mi (by decide +kernel) (pa_cons (pe_op op_add (pe_op op_add (pe_op op_mul (pe_ix ix_list (pv 0) pe_int (fun _ _ => rfl)) pe_int) (pe_op op_mul pe_int (pe_ix ix_list (pv 0) pe_int (fun _ _ => rfl)))) pe_int) pa_nil)) pe_int) (pg_sub (pv 0) pe_int set_list))
      (pss_one (ps_ret (pe_op op_mod (pe_op op_fdiv (pe_callTy call_int1 (by rfl) mi (by decide +kernel) (pa_cons (pe_op op_mod (pe_callTy call_int1 (by rfl) mi (by decide +kernel) (pa_cons (pe_op op_add (pe_op op_mul (pe_ix ix_list (pv 0) pe_int (fun _ _ => rfl)) pe_int) (pe_op op_mul pe_int (pe_ix ix_list (pv 0) pe_int (fun _ _ => rfl)))) pa_nil)) pe_int) pa_nil)) pe_int) (pv 1)))))), ?_⟩
    have i0 : ∀ {z0 z1 z2 : V}, atI [z0, z1, z2] 0 = some z0 := fun {z0 z1 z2} => atI_nat (j := 0) rfl
    have i1 : ∀ {z0 z1 z2 : V}, atI [z0, z1, z2] 1 = some z1 := fun {z0 z1 z2} => atI_nat (j := 1) rfl
    have i2 : ∀ {z0 z1 z2 : V}, atI [z0, z1, z2] 2 = some z2 := fun {z0 z1 z2} => atI_nat (j := 2) rfl
    -- if bag[0] > 0
    refine ⟨_, rfl, b, _, _, _, rfl, rfl, SqL.of hb, i0, _, _, rfl, rfl, _, rfl, ite2 (fun hg => ?_) (fun hg => ?_)⟩
    · -- digit = int(bag[0]) % many; bag[0] = bag[0] // many; return digit
      refine ⟨_, rfl, b, _, _, _, rfl, rfl, SqL.of hb, i0, .inl ⟨_, rfl, _, rfl, _, _, rfl, rfl, (by show (0 : Int) < m; omega), ?_⟩⟩
      refine ⟨_, rfl, b, _, _, _, rfl, rfl, SqL.of hb, i0, _, rfl, _, _, rfl, rfl, wide_div (b := 200) (by omega) (by omega) (by decide) (by decide), ?_⟩
      refine ⟨_, rfl, b, _, _, 0, rfl, rfl, hb, rfl, ?_⟩
      refine ⟨_, rfl, k _ _ (Int.emod_nonneg _ (by omega)) (Int.emod_lt_of_pos _ (by omega)) ⟨⟨_, _, _, upd_same⟩, fun q o hq e => by rw [upd_ne hq]; exact e⟩⟩
    · refine ⟨_, rfl, b, _, _, _, rfl, rfl, SqL.of hb, i2, _, _, rfl, rfl, ?_⟩
      refine ⟨_, rfl, b, _, _, 2, rfl, rfl, hb, rfl, ?_⟩
      have hb2 : (upd H b (.lst [.int g, .int x, .int (c + 1)])) b = some (.lst [.int g, .int x, .int (c + 1)]) := upd_same
      refine ⟨_, rfl, b, _, _, _, rfl, rfl, SqL.of hb2, i1, _, _, rfl, rfl, .inr (by decide), _, rfl, b, _, _, _, rfl, rfl, SqL.of hb2, i2, _, _, rfl, rfl, .inl (by decide), ?_⟩
      refine ⟨_, _, rfl, rfl, _, _, rfl, rfl, .inl ⟨_, rfl, _, _, rfl, rfl, (by show (0 : Int) < 2147483647; decide), ?_⟩⟩
      refine ⟨_, rfl, b, _, _, 1, rfl, rfl, hb2, rfl, ?_⟩
      have hb3 : ∀ z : Int, (upd (upd H b (.lst [.int g, .int x, .int (c + 1)])) b (.lst [.int g, .int z, .int (c + 1)])) b = some (.lst [.int g, .int z, .int (c + 1)]) := fun z => upd_same
      refine ⟨_, rfl, b, _, _, _, rfl, rfl, SqL.of (hb3 _), i1, _, _, rfl, rfl, .inr (by decide), _, rfl, b, _, _, _, rfl, rfl, SqL.of (hb3 _), i2, _, _, rfl, rfl, .inl (by decide), ?_⟩
      refine ⟨_, _, rfl, rfl, .inl ⟨_, rfl, _, _, rfl, rfl, (by show (0 : Int) < 2147483629; decide), .inl ⟨_, rfl, _, _, rfl, rfl, ⟨by decide, by decide⟩, _, rfl, _, _, rfl, rfl, (by show (0 : Int) < m; omega), ?_⟩⟩⟩
      refine k _ _ (Int.emod_nonneg _ (by omega)) (Int.emod_lt_of_pos _ (by omega)) ⟨⟨_, _, _, hb3 _⟩, fun q o hq e => by rw [upd_ne hq, upd_ne hq]; exact e⟩
/-- a new source of draws -/
def spBag (K : PySem.W.Frag) : Sp := fun vs H Q _ => ∃ (a : Addr) (i : Int) (ns : List Int), vs = [.ref a, .int i] ∧ SqL K H a (ns.map V.int) ∧ 0 ≤ i ∧ i ≤ 1000 ∧
  ∀ (b : Addr) (H' : Hp), H b = none → IsBag H' b → (∀ q o, q ≠ b → H q = some o → H' q = some o) → Q (.ref b) H'
theorem ok_bag {f : Addr} {fd : FuncData} (F : Fun K "_law_bag" "_law_bag" sBag f fd) (mi : mg "int" = none) (ma : mg "abs" = none) (ml : mg "len" = none) (me : mg "enumerate" = none) : FnOk P w K mg base CX0 1 f fd ["_law_script", "_law_at"] (spBag K) := by
  refine F.ok scBag (fun vs H Q E h => ?_) (fun cdv A outer s H vs Q E hr h => ?_)
  · obtain ⟨a, i, ns, rfl, _⟩ := h
    rfl
  · obtain ⟨a, ix, ns, rfl, hS, h0, h1, k⟩ := h
    have nd := scBag.nd
    refine ⟨_, pss_cons (ps_set (i := 2) nd rfl (.inl rfl) (pe_ifExp (pt_cmpR op_lt (pv 1) (pe_callB call_len_seq (by rfl) ml PySem.boot_len (pa_cons (pv 0) pa_nil)) (nomark _))
          (pe_callB call_abs (by rfl) ma (by decide +kernel) (pa_cons (pe_callTy call_int1 (by rfl) mi (by decide +kernel) (pa_cons (pe_ix ix_list (pv 0) (pv 1) (fun _ _ => rfl)) pa_nil)) pa_nil)) pe_int))
      (pss_cons (ps_set (i := 3) nd rfl (.inl rfl) (pe_op op_add pe_int (pe_op op_mul pe_int (pv 1))))
      (pss_cons (ps_for PassesOwn.never rfl (pi_enum (by rfl) me (pa_cons (pe_slice sl_list (pv 0) po_none (po_some pe_int)) pa_nil)) (pg_tup rfl (pgs_cons (pg_name (i := 4) nd rfl (.inl rfl)) (pgs_cons (pg_name (i := 5) nd rfl (.inl rfl)) pgs_nil)))
        (pss_one (ps_set (i := 3) nd rfl (.inl rfl) (pe_op op_mod (pe_callTy call_int1 (by rfl) mi (by decide +kernel) (pa_cons (pe_op op_add (pe_op op_add (pe_op op_mul (pv 3) pe_int)
            (pe_op op_mod (pe_callTy call_int1 (by rfl) mi (by decide +kernel) (pa_cons (pv 5) pa_nil)) pe_int)) (pe_op op_mul pe_int (pv 4))) pa_nil)) pe_int))))
      (pss_one (ps_ret (pe_lst (pa_cons (pe_ifExp (pt_cmpR op_ge (pv 2) (pe_op op_pow pe_int pe_int) (nomark _)) (pv 2) pe_int) (pa_cons (pv 3) (pa_cons pe_int pa_nil)))))))), ?_⟩
    refine join1 (α := Int) (G := ?G) (fun bag_rest => ?br) (fun y => ?fin)
    case br =>
      refine ⟨_, rfl, _, rfl, a, _, rfl, .inl hS, _, _, rfl, rfl, _, rfl, ite2 (fun hc => ?_) (fun hc => ?_)⟩
      · have hc' : ix < ((ns.map V.int).length : Int) := of_decide_eq_true hc
        rw [List.length_map] at hc'
        obtain ⟨z, hz⟩ := atI_ints h0 hc'
        refine ⟨_, rfl, _, rfl, a, _, _, _, rfl, rfl, hS, hz, .inl ⟨_, rfl, _, rfl, ?_⟩⟩
        generalize (if z < 0 then -z else z) = y
        exact bag_rest y
      · exact bag_rest 0
    case fin =>
      -- mixed = 1009 + 77 * at
      refine ⟨_, rfl, _, _, rfl, rfl, .inl (by decide), _, _, rfl, rfl, ?_⟩
      -- enumerate(script[:63])
      refine ⟨_, rfl, _, rfl, a, _, rfl, hS, fun c nc => ?_⟩
      have sc : Same H (upd H c (.lst (cutV (ns.map V.int) none (some 63)))) := fun q o e => by rw [upd_ne (ne_of_none e nc)]; exact e
      have hints : ∀ x ∈ cutV (ns.map V.int) none (some 63), ∃ z : Int, x = .int z := fun x hx => by
        have hm := List.mem_of_mem_drop (List.mem_of_mem_take hx)
        obtain ⟨z, _, e⟩ := List.mem_map.mp hm
        exact ⟨z, e.symm⟩
      revert sc hints
      generalize cutV (ns.map V.int) none (some 63) = cs
      intro sc hints
      refine ⟨c, cs, rfl, SqL.of upd_same, for_it (walk_enum (xs := cs)) (fun i σ H2 => ∃ (m : Int) (y4 y5 : Option V), σ = [some (.ref a), some (.int ix), some (.int y), some (.int m), y4, y5] ∧ Same H H2 ∧ SqL K H2 c cs) ⟨_, none, none, rfl, sc, SqL.of upd_same⟩ ?_ ?_ ?_⟩
      · rintro i σ H2 _ ⟨m, y4, y5, rfl, s2, hc2⟩
        exact hc2
      · rintro i x σ H2 H3 hi ⟨m, y4, y5, rfl, s2, hc2⟩ ⟨T, x1, x2, rfl, nT, rfl, e1, e2⟩
        obtain ⟨z, rfl⟩ := hints _ (List.mem_of_getElem? e2)
        cases e1
        have s3 : Same H2 (upd H2 T (.tup [.int (i : Nat), .int z])) := fun q o e => by rw [upd_ne (ne_of_none e nT)]; exact e
        refine ⟨T, _, rfl, SqT.of upd_same, rfl, _, _, rfl, _, _, rfl, rfl, ?_⟩
        refine ⟨_, rfl, _, _, rfl, rfl, .inr (by decide), _, rfl, .inl ⟨_, rfl, _, _, rfl, rfl, (by show (0 : Int) < 2147483629; decide), ?_⟩⟩
        refine ⟨_, _, rfl, rfl, _, rfl, _, _, rfl, rfl, .inl (by decide), _, _, rfl, rfl, .inl ⟨_, rfl, _, _, rfl, rfl, (by show (0 : Int) < 2147483647; decide), ?_⟩⟩
        exact ⟨_, _, _, rfl, s2.trans s3, s3.seq hc2⟩
      · rintro σ H2 ⟨m, y4, y5, rfl, s2, hc2⟩
        -- return [.., mixed, 0]
        refine ⟨_, rfl, _, _, rfl, rfl, ⟨by decide, by decide, by decide⟩, _, _, rfl, rfl, _, rfl, ite2 (fun hc => ⟨_, rfl, ?_⟩) (fun hc => ?_)⟩
        all_goals
          refine ⟨_, rfl, (by show 3 ≤ sizeLine; decide), fun b nb => ?_⟩
          have nbH : H b = none := s2.free nb
          exact k b _ nbH ⟨_, _, _, upd_same⟩ fun q o hq e => by rw [upd_ne hq]; exact s2 _ _ e
end
end Pa
/-! mathematics of windings; core Lean -/
namespace Win
abbrev Pt := Int × Int
def ff (x y : Int) (p q : Pt) : Int := (q.1 - p.1) * (2 * y + 1 - 2 * p.2) - (q.2 - p.2) * (2 * x + 1 - 2 * p.1)
/-- what a side counts around a cell -/
def cnt (x y : Int) (p q : Pt) : Int := if p.2 ≤ y ∧ y + 1 ≤ q.2 then (if 0 < ff x y p q then 1 else 0) else if q.2 ≤ y ∧ y + 1 ≤ p.2 then (if ff x y p q < 0 then -1 else 0) else 0
def gg (x y : Int) (p q : Pt) : Int := if ff x y p q = 0 then p.2 - q.2 else ff x y p q
def turn (x y : Int) (p q : Pt) : Int := (if 0 < gg x y p q then 1 else 0) - (if gg x y p q < 0 then 1 else 0)
def tri (x y : Int) (a b c : Pt) : Int := if turn x y b c = turn x y a b ∧ turn x y c a = turn x y a b then turn x y a b else 0
theorem ff_anti (x y : Int) (p q : Pt) : ff x y p q = - ff x y q p := by
  unfold ff
  grind
theorem ff_id (x y : Int) (a b c : Pt) : ff x y a b * (2 * c.2 - (2 * y + 1)) + ff x y b c * (2 * a.2 - (2 * y + 1)) + ff x y c a * (2 * b.2 - (2 * y + 1)) = 0 := by
  unfold ff
  grind
theorem cnt_anti (x y : Int) (p q : Pt) : cnt x y p q = - cnt x y q p := by
  unfold cnt
  rw [ff_anti x y p q]
  generalize ff x y q p = f
  by_cases h1 : p.2 ≤ y ∧ y + 1 ≤ q.2
  · rw [if_pos h1, if_neg (show ¬ (q.2 ≤ y ∧ y + 1 ≤ p.2) by omega), if_pos h1]
    by_cases k : f < 0
    · rw [if_pos (by omega), if_pos k]; rfl
    · rw [if_neg (by omega), if_neg k]; rfl
  · rw [if_neg h1]
    by_cases h2 : q.2 ≤ y ∧ y + 1 ≤ p.2
    · rw [if_pos h2, if_pos h2]
      by_cases k : 0 < f
      · rw [if_pos (by omega), if_pos k]
      · rw [if_neg (by omega), if_neg k]; rfl
    · rw [if_neg h2, if_neg h2, if_neg h1]
      rfl
/-- the sign of a turn, by the sign of f -/
theorem turn_pos {x y : Int} {p q : Pt} (h : 0 < ff x y p q) : turn x y p q = 1 := by
  have e : gg x y p q = ff x y p q := by unfold gg; rw [if_neg (by omega)]
  unfold turn
  rw [e, if_pos h, if_neg (by omega)]
  rfl
theorem turn_neg {x y : Int} {p q : Pt} (h : ff x y p q < 0) : turn x y p q = -1 := by
  have e : gg x y p q = ff x y p q := by unfold gg; rw [if_neg (by omega)]
  unfold turn
  rw [e, if_neg (by omega), if_pos h]
  rfl
theorem turn_0down {x y : Int} {p q : Pt} (h : ff x y p q = 0) (h2 : q.2 < p.2) : turn x y p q = 1 := by
  unfold turn gg
  rw [if_pos h, if_pos (by omega), if_neg (by omega)]
  rfl
theorem turn_0up {x y : Int} {p q : Pt} (h : ff x y p q = 0) (h2 : p.2 < q.2) : turn x y p q = -1 := by
  unfold turn gg
  rw [if_pos h, if_neg (by omega), if_pos (by omega)]
  rfl
theorem turn_0 {x y : Int} {p q : Pt} (h : ff x y p q = 0) (h2 : p.2 = q.2) : turn x y p q = 0 := by
  unfold turn gg
  rw [if_pos h, if_neg (by omega), if_neg (by omega)]
  rfl
theorem tri_cyc (x y : Int) (a b c : Pt) : tri x y a b c = tri x y b c a := by
  unfold tri
  generalize turn x y a b = p
  generalize turn x y b c = q
  generalize turn x y c a = r
  split <;> split <;> omega
theorem mp {a b : Int} (ha : 0 < a) (hb : 0 < b) : 0 < a * b := Int.mul_pos ha hb
theorem mn {a b : Int} (ha : 0 ≤ a) (hb : 0 ≤ b) : 0 ≤ a * b := Int.mul_nonneg ha hb
/-- a below, b and c above -/
theorem sum_low {x y : Int} {a b c : Pt} (ha : a.2 ≤ y) (hb : y + 1 ≤ b.2) (hc : y + 1 ≤ c.2) : cnt x y a b + cnt x y b c + cnt x y c a = tri x y a b c := by
  have id := ff_id x y a b c
  have e1 : cnt x y a b = if 0 < ff x y a b then 1 else 0 := by unfold cnt; rw [if_pos ⟨ha, hb⟩]
  have e2 : cnt x y b c = 0 := by unfold cnt; rw [if_neg (by omega), if_neg (by omega)]
  have e3 : cnt x y c a = if ff x y c a < 0 then -1 else 0 := by unfold cnt; rw [if_neg (by omega), if_pos ⟨ha, hc⟩]
  rw [e1, e2, e3]
  have pb : 0 < 2 * b.2 - (2 * y + 1) := by omega
  have pc : 0 < 2 * c.2 - (2 * y + 1) := by omega
  have pa : 0 < -(2 * a.2 - (2 * y + 1)) := by omega
  by_cases h1 : 0 < ff x y a b
  · rw [if_pos h1]
    have t1 := turn_pos h1
    by_cases h3 : ff x y c a < 0
    · rw [if_pos h3]
      have t3 := turn_neg h3
      unfold tri
      rw [t1, t3, if_neg (by omega)]
      rfl
    · rw [if_neg h3]
      have t3 : turn x y c a = 1 := by
        by_cases h4 : ff x y c a = 0
        · exact turn_0down h4 (by omega)
        · exact turn_pos (by omega)
      have k : 0 < ff x y b c := by
        rcases Int.lt_or_le 0 (ff x y b c) with k | k
        · exact k
        · have z1 := mp h1 pc
          have z3 := mn (show 0 ≤ ff x y c a by omega) (Int.le_of_lt pb)
          have z2 := mn (show 0 ≤ - ff x y b c by omega) (Int.le_of_lt pa)
          rw [Int.neg_mul_neg] at z2
          omega
      unfold tri
      rw [t1, turn_pos k, t3, if_pos ⟨rfl, rfl⟩]
      rfl
  · rw [if_neg h1]
    have t1 : turn x y a b = -1 := by
      by_cases h4 : ff x y a b = 0
      · exact turn_0up h4 (by omega)
      · exact turn_neg (by omega)
    by_cases h3 : ff x y c a < 0
    · rw [if_pos h3]
      have t3 := turn_neg h3
      have k : ff x y b c < 0 := by
        rcases Int.lt_or_le (ff x y b c) 0 with k | k
        · exact k
        · have z1 := mn (show 0 ≤ - ff x y a b by omega) (Int.le_of_lt pc)
          have z3 := mp (show 0 < - ff x y c a by omega) pb
          have z2 := mn k (Int.le_of_lt pa)
          rw [Int.neg_mul] at z1 z3
          rw [Int.mul_neg] at z2
          omega
      unfold tri
      rw [t1, turn_neg k, t3, if_pos ⟨rfl, rfl⟩]
      rfl
    · rw [if_neg h3]
      have t3 : turn x y c a = 1 := by
        by_cases h4 : ff x y c a = 0
        · exact turn_0down h4 (by omega)
        · exact turn_pos (by omega)
      unfold tri
      rw [t1, t3, if_neg (by omega)]
      rfl
/-- a above, b and c below -/
theorem sum_high {x y : Int} {a b c : Pt} (ha : y + 1 ≤ a.2) (hb : b.2 ≤ y) (hc : c.2 ≤ y) : cnt x y a b + cnt x y b c + cnt x y c a = tri x y a b c := by
  have id := ff_id x y a b c
  have e1 : cnt x y a b = if ff x y a b < 0 then -1 else 0 := by unfold cnt; rw [if_neg (by omega), if_pos ⟨hb, ha⟩]
  have e2 : cnt x y b c = 0 := by unfold cnt; rw [if_neg (by omega), if_neg (by omega)]
  have e3 : cnt x y c a = if 0 < ff x y c a then 1 else 0 := by unfold cnt; rw [if_pos ⟨hc, ha⟩]
  rw [e1, e2, e3]
  have pb : 0 < -(2 * b.2 - (2 * y + 1)) := by omega
  have pc : 0 < -(2 * c.2 - (2 * y + 1)) := by omega
  have pa : 0 < 2 * a.2 - (2 * y + 1) := by omega
  by_cases h1 : ff x y a b < 0
  · rw [if_pos h1]
    have t1 := turn_neg h1
    by_cases h3 : 0 < ff x y c a
    · rw [if_pos h3]
      unfold tri
      rw [t1, turn_pos h3, if_neg (by omega)]
      rfl
    · rw [if_neg h3]
      have t3 : turn x y c a = -1 := by
        by_cases h4 : ff x y c a = 0
        · exact turn_0up h4 (by omega)
        · exact turn_neg (by omega)
      have k : ff x y b c < 0 := by
        rcases Int.lt_or_le (ff x y b c) 0 with k | k
        · exact k
        · have z1 := mp (show 0 < - ff x y a b by omega) pc
          have z3 := mn (show 0 ≤ - ff x y c a by omega) (Int.le_of_lt pb)
          have z2 := mn k (Int.le_of_lt pa)
          rw [Int.neg_mul_neg] at z1 z3
          omega
      unfold tri
      rw [t1, turn_neg k, t3, if_pos ⟨rfl, rfl⟩]
      rfl
  · rw [if_neg h1]
    have t1 : turn x y a b = 1 := by
      by_cases h4 : ff x y a b = 0
      · exact turn_0down h4 (by omega)
      · exact turn_pos (by omega)
    by_cases h3 : 0 < ff x y c a
    · rw [if_pos h3]
      have k : 0 < ff x y b c := by
        rcases Int.lt_or_le 0 (ff x y b c) with k | k
        · exact k
        · have z1 := mn (show 0 ≤ ff x y a b by omega) (Int.le_of_lt pc)
          have z3 := mp h3 pb
          have z2 := mn (show 0 ≤ - ff x y b c by omega) (Int.le_of_lt pa)
          rw [Int.mul_neg] at z1 z3
          rw [Int.neg_mul] at z2
          omega
      unfold tri
      rw [t1, turn_pos k, turn_pos h3, if_pos ⟨rfl, rfl⟩]
      rfl
    · rw [if_neg h3]
      have t3 : turn x y c a = -1 := by
        by_cases h4 : ff x y c a = 0
        · exact turn_0up h4 (by omega)
        · exact turn_neg (by omega)
      unfold tri
      rw [t1, t3, if_neg (by omega)]
      rfl
theorem no_cross {x y : Int} {p q : Pt} (h : (p.2 ≤ y ∧ q.2 ≤ y) ∨ (y + 1 ≤ p.2 ∧ y + 1 ≤ q.2)) : cnt x y p q = 0 := by
  unfold cnt
  rw [if_neg (by omega), if_neg (by omega)]
theorem turn_cases (x y : Int) (p q : Pt) : (turn x y p q = 1 ∧ 0 ≤ ff x y p q ∧ (ff x y p q = 0 → q.2 < p.2)) ∨ (turn x y p q = -1 ∧ ff x y p q ≤ 0 ∧ (ff x y p q = 0 → p.2 < q.2)) ∨ turn x y p q = 0 := by
  rcases Int.lt_trichotomy (ff x y p q) 0 with h | h | h
  · exact .inr (.inl ⟨turn_neg h, Int.le_of_lt h, fun z => by omega⟩)
  · rcases Int.lt_trichotomy p.2 q.2 with k | k | k
    · exact .inr (.inl ⟨turn_0up h k, by omega, fun _ => k⟩)
    · exact .inr (.inr (turn_0 h k))
    · exact .inl ⟨turn_0down h k, by omega, fun _ => k⟩
  · exact .inl ⟨turn_pos h, Int.le_of_lt h, fun z => by omega⟩
/-- all on one side of the line: no triangle around the cell -/
theorem tri_side {x y : Int} {a b c : Pt} (h : (a.2 ≤ y ∧ b.2 ≤ y ∧ c.2 ≤ y) ∨ (y + 1 ≤ a.2 ∧ y + 1 ≤ b.2 ∧ y + 1 ≤ c.2)) : tri x y a b c = 0 := by
  have id := ff_id x y a b c
  unfold tri
  split
  · rename_i k
    obtain ⟨k1, k2⟩ := k
    -- the three heights have one sign: let them be above
    have main : ∀ u v w fa fb fc : Int, fa * w + fb * u + fc * v = 0 → 0 < u → 0 < v → 0 < w → 0 ≤ fa → 0 ≤ fb → 0 ≤ fc → fa = 0 ∧ fb = 0 ∧ fc = 0 := fun u v w fa fb fc e hu hv hw h1 h2 h3 => by
      have z1 := mn h1 (Int.le_of_lt hw)
      have z2 := mn h2 (Int.le_of_lt hu)
      have z3 := mn h3 (Int.le_of_lt hv)
      refine ⟨?_, ?_, ?_⟩
      · rcases Int.lt_or_le 0 fa with k | k
        · have := mp k hw
          omega
        · omega
      · rcases Int.lt_or_le 0 fb with k | k
        · have := mp k hu
          omega
        · omega
      · rcases Int.lt_or_le 0 fc with k | k
        · have := mp k hv
          omega
        · omega
    have flip : ∀ u v w fa fb fc : Int, fa * w + fb * u + fc * v = 0 → fa * (-w) + fb * (-u) + fc * (-v) = 0 := fun u v w fa fb fc e => by
      rw [Int.mul_neg, Int.mul_neg, Int.mul_neg]
      omega
    have flip2 : ∀ u v w fa fb fc : Int, fa * w + fb * u + fc * v = 0 → (-fa) * w + (-fb) * u + (-fc) * v = 0 := fun u v w fa fb fc e => by
      rw [Int.neg_mul, Int.neg_mul, Int.neg_mul]
      omega
    rcases turn_cases x y a b with ⟨t1, p1, z1⟩ | ⟨t1, p1, z1⟩ | t1
    · rw [t1] at k1 k2
      rcases turn_cases x y b c with ⟨t2, p2, z2⟩ | ⟨t2, _, _⟩ | t2
      · rcases turn_cases x y c a with ⟨t3, p3, z3⟩ | ⟨t3, _, _⟩ | t3
        · exfalso
          have zero : ff x y a b = 0 ∧ ff x y b c = 0 ∧ ff x y c a = 0 := by
            rcases h with h | h
            · exact main _ _ _ _ _ _ (flip _ _ _ _ _ _ id) (by omega) (by omega) (by omega) p1 p2 p3
            · exact main _ _ _ _ _ _ id (by omega) (by omega) (by omega) p1 p2 p3
          have := z1 zero.1
          have := z2 zero.2.1
          have := z3 zero.2.2
          omega
        · omega
        · omega
      · omega
      · omega
    · rw [t1] at k1 k2
      rcases turn_cases x y b c with ⟨t2, _, _⟩ | ⟨t2, p2, z2⟩ | t2
      · omega
      · rcases turn_cases x y c a with ⟨t3, _, _⟩ | ⟨t3, p3, z3⟩ | t3
        · omega
        · exfalso
          have zero : -ff x y a b = 0 ∧ -ff x y b c = 0 ∧ -ff x y c a = 0 := by
            rcases h with h | h
            · exact main _ _ _ _ _ _ (flip2 _ _ _ _ _ _ (flip _ _ _ _ _ _ id)) (by omega) (by omega) (by omega) (by omega) (by omega) (by omega)
            · exact main _ _ _ _ _ _ (flip2 _ _ _ _ _ _ id) (by omega) (by omega) (by omega) (by omega) (by omega) (by omega)
          have := z1 (by omega)
          have := z2 (by omega)
          have := z3 (by omega)
          omega
        · omega
      · omega
    · exact t1
  · rfl
/-- three sides of a triangle count what the triangle winds -/
theorem sum_tri (x y : Int) (a b c : Pt) : cnt x y a b + cnt x y b c + cnt x y c a = tri x y a b c := by
  rcases Int.lt_or_le y a.2 with ha | ha <;> rcases Int.lt_or_le y b.2 with hb | hb <;> rcases Int.lt_or_le y c.2 with hc | hc
  · rw [no_cross (.inr ⟨by omega, by omega⟩), no_cross (.inr ⟨by omega, by omega⟩), no_cross (.inr ⟨by omega, by omega⟩), tri_side (.inr ⟨by omega, by omega, by omega⟩)]; rfl
  · have := sum_low (x := x) (y := y) (a := c) (b := a) (c := b) hc (by omega) (by omega)
    rw [tri_cyc, tri_cyc, ← this]; omega
  · have := sum_low (x := x) (y := y) (a := b) (b := c) (c := a) hb (by omega) (by omega)
    rw [tri_cyc, ← this]; omega
  · exact sum_high (by omega) hb hc
  · exact sum_low ha (by omega) (by omega)
  · have := sum_high (x := x) (y := y) (a := b) (b := c) (c := a) (by omega) hc ha
    rw [tri_cyc, ← this]; omega
  · have := sum_high (x := x) (y := y) (a := c) (b := a) (c := b) (by omega) ha hb
    rw [tri_cyc, tri_cyc, ← this]; omega
  · rw [no_cross (.inl ⟨by omega, by omega⟩), no_cross (.inl ⟨by omega, by omega⟩), no_cross (.inl ⟨by omega, by omega⟩), tri_side (.inl ⟨by omega, by omega, by omega⟩)]; rfl
end Win
namespace Win
def path (f : Pt → Pt → Int) : List Pt → Int
  | p :: q :: r => f p q + path f (q :: r)
  | _ => 0
theorem path_two (f : Pt → Pt → Int) : ∀ (l : List Pt) (p q : Pt), path f (l ++ [p, q]) = path f (l ++ [p]) + f p q
  | [], p, q => by simp [path]
  | [a], p, q => by simp [path]
  | a :: b :: l, p, q => by
    have ih := path_two f (b :: l) p q
    show f a b + path f (b :: l ++ [p, q]) = f a b + path f (b :: l ++ [p]) + f p q
    rw [ih]
    omega
theorem path_rev (f : Pt → Pt → Int) (hf : ∀ p q, f p q = - f q p) : ∀ l : List Pt, path f l.reverse = - path f l
  | [] => rfl
  | [a] => rfl
  | a :: b :: l => by
    have ih := path_rev f hf (b :: l)
    have e : (a :: b :: l).reverse = l.reverse ++ [b, a] := by simp
    rw [e, path_two]
    have e2 : (b :: l).reverse = l.reverse ++ [b] := by simp
    rw [e2] at ih
    show path f (l.reverse ++ [b]) + f b a = -(f a b + path f (b :: l))
    rw [ih, hf b a]
    omega
/-- once around -/
def around (f : Pt → Pt → Int) : List Pt → Int
  | [] => 0
  | p :: r => path f (p :: r ++ [p])
theorem path_turn (f : Pt → Pt → Int) (z : Pt) : ∀ l : List Pt, path f (z :: (l ++ [z])) = around f (l ++ [z])
  | [] => rfl
  | p :: r => by
    show f z p + path f (p :: (r ++ [z])) = path f (p :: (r ++ [z]) ++ [p])
    have e : p :: (r ++ [z]) ++ [p] = (p :: r) ++ [z, p] := by simp
    rw [e, path_two]
    have e2 : p :: (r ++ [z]) = (p :: r) ++ [z] := by simp
    rw [e2]
    omega
theorem around_rev (f : Pt → Pt → Int) (hf : ∀ p q, f p q = - f q p) (l : List Pt) : around f l.reverse = - around f l := by
  cases hl : l.reverse with
  | nil =>
    have : l = [] := by simpa using hl
    rw [this]; rfl
  | cons z t =>
    have e : l = t.reverse ++ [z] := by
      have := congrArg List.reverse hl
      simpa using this
    rw [e, ← path_turn]
    show path f (z :: t ++ [z]) = _
    have e2 : z :: t ++ [z] = (z :: (t.reverse ++ [z])).reverse := by simp
    rw [e2, path_rev f hf]
/-- what a fan of triangles winds -/
def fan (x y : Int) : List Pt → Int
  | [] => 0
  | a :: r => path (tri x y a) r
theorem fan_around (x y : Int) : ∀ l : List Pt, around (cnt x y) l = fan x y l
  | [] => rfl
  | [a] => by
    show cnt x y a a + 0 = 0
    have := cnt_anti x y a a
    omega
  | [a, b] => by
    show cnt x y a b + (cnt x y b a + 0) = 0
    have := cnt_anti x y a b
    omega
  | a :: b :: c :: r => by
    have ih := fan_around x y (a :: c :: r)
    have h := sum_tri x y a b c
    have h2 := cnt_anti x y a c
    show cnt x y a b + (cnt x y b c + path (cnt x y) (c :: r ++ [a])) = tri x y a b c + path (tri x y a) (c :: r)
    have ih' : cnt x y a c + path (cnt x y) (c :: r ++ [a]) = path (tri x y a) (c :: r) := ih
    rw [← ih']
    omega
/-- by indices -/
theorem path_ix (f : Pt → Pt → Int) (d : Pt) : ∀ l : List Pt, path f l = ((List.range (l.length - 1)).map fun j => f (l.getD j d) (l.getD (j + 1) d)).sum
  | [] => rfl
  | [a] => rfl
  | a :: b :: l => by
    have ih := path_ix f d (b :: l)
    show f a b + path f (b :: l) = _
    rw [ih]
    have e : (a :: b :: l).length - 1 = ((b :: l).length - 1) + 1 := by simp
    rw [e, List.range_succ_eq_map, List.map_cons, List.sum_cons, List.map_map]
    rfl
theorem around_ix (f : Pt → Pt → Int) (d : Pt) (l : List Pt) : around f l = ((List.range l.length).map fun j => f (l.getD j d) (l.getD ((j + 1) % l.length) d)).sum := by
  cases l with
  | nil => rfl
  | cons p r =>
    show path f (p :: r ++ [p]) = _
    rw [path_ix f d]
    have e : (p :: r ++ [p]).length - 1 = (p :: r).length := by simp
    rw [e]
    congr 1
    refine List.map_congr_left fun j hj => ?_
    have hj := List.mem_range.mp hj
    have h1 : (p :: r ++ [p]).getD j d = (p :: r).getD j d := by
      rw [List.getD_eq_getElem?_getD, List.getD_eq_getElem?_getD, List.getElem?_append_left hj]
    rw [h1]
    congr 1
    by_cases hk : j + 1 < (p :: r).length
    · rw [Nat.mod_eq_of_lt hk, List.getD_eq_getElem?_getD, List.getD_eq_getElem?_getD, List.getElem?_append_left hk]
    · have e2 : j + 1 = (p :: r).length := by omega
      rw [e2, Nat.mod_self, List.getD_eq_getElem?_getD, List.getElem?_append_right (Nat.le_refl _), Nat.sub_self]
      rfl
theorem fan_ix (x y : Int) (d : Pt) (l : List Pt) : fan x y l = ((List.range (l.length - 2)).map fun k => tri x y (l.getD 0 d) (l.getD (k + 1) d) (l.getD (k + 2) d)).sum := by
  cases l with
  | nil => rfl
  | cons a r =>
    show path (tri x y a) r = _
    rw [path_ix _ d]
    rfl
/-- what the program counts of a ring, side by side -/
def sideC (x y : Int) (l : List Pt) : List Int := (List.range l.length).map fun j => cnt x y (l.getD j (0, 0)) (l.getD ((j + 1) % l.length) (0, 0))
def allC (x y : Int) (rs : List (List Pt)) : List Int := (rs.map (sideC x y)).flatten
def wind (x y : Int) (rs : List (List Pt)) : Int := (rs.map (fan x y)).sum
theorem sum_flat : ∀ ls : List (List Int), ls.flatten.sum = (ls.map List.sum).sum
  | [] => rfl
  | l :: ls => by simp [sum_flat ls]
theorem allC_sum (x y : Int) (rs : List (List Pt)) : (allC x y rs).sum = wind x y rs := by
  unfold allC wind
  rw [sum_flat, List.map_map]
  congr 1
  refine List.map_congr_left fun l _ => ?_
  show (sideC x y l).sum = fan x y l
  rw [← fan_around, around_ix _ (0, 0)]
  rfl
theorem wind_rev (x y : Int) (rs : List (List Pt)) : wind x y (rs.map List.reverse) = - wind x y rs := by
  unfold wind
  induction rs with
  | nil => rfl
  | cons l rs ih =>
    simp only [List.map_cons, List.sum_cons]
    rw [ih, ← fan_around, ← fan_around, around_rev _ (cnt_anti x y)]
    omega
/-- the program's own way to the count of a side -/
def cntP (x y : Int) (p q : Pt) : Int :=
  let rise := q.2 - p.2
  let count : Int := if rise > 0 then 1 else -1
  if count * (2 * p.1 * rise + (2 * y + 1 - 2 * p.2) * (q.1 - p.1)) > count * ((2 * x + 1) * rise) then count else 0
theorem cntP_ff (x y : Int) (p q : Pt) : 2 * p.1 * (q.2 - p.2) + (2 * y + 1 - 2 * p.2) * (q.1 - p.1) - (2 * x + 1) * (q.2 - p.2) = ff x y p q := by
  unfold ff
  grind
theorem cnt_no {x y : Int} {p q : Pt} (h : (y < p.2 ∧ y < q.2) ∨ (p.2 < y + 1 ∧ q.2 < y + 1)) : cnt x y p q = 0 := no_cross (by omega)
theorem cnt_yes {x y : Int} {p q : Pt} (h : ¬ ((y < p.2 ∧ y < q.2) ∨ (p.2 < y + 1 ∧ q.2 < y + 1))) : cnt x y p q = cntP x y p q := by
  have e := cntP_ff x y p q
  unfold cntP cnt
  dsimp only
  generalize 2 * p.1 * (q.2 - p.2) + (2 * y + 1 - 2 * p.2) * (q.1 - p.1) = u at e ⊢
  generalize (2 * x + 1) * (q.2 - p.2) = v at e ⊢
  by_cases h1 : p.2 ≤ y ∧ y + 1 ≤ q.2
  · rw [if_pos h1, if_pos (show q.2 - p.2 > 0 by omega), ← e]
    by_cases k : 0 < u - v
    · rw [if_pos k, if_pos (by omega)]
    · rw [if_neg k, if_neg (by omega)]
  · rw [if_neg h1, if_pos (show q.2 ≤ y ∧ y + 1 ≤ p.2 by omega), if_neg (show ¬ q.2 - p.2 > 0 by omega), ← e]
    by_cases k : u - v < 0
    · rw [if_pos k, if_pos (by omega)]
    · rw [if_neg k, if_neg (by omega)]
end Win
set_option maxRecDepth 100000
set_option maxHeartbeats 4000000
namespace Pa
open PySem PySem.Spec PyProof.Rows L2
/-! ### things in the heap -/
def AllAt {α : Type} (R : Hp → V → α → Prop) (H : Hp) : List V → List α → Prop
  | [], [] => True
  | x :: xs, y :: ys => R H x y ∧ AllAt R H xs ys
  | _, _ => False
section
variable {α : Type} {R : Hp → V → α → Prop} {H H' : Hp}
theorem AllAt.len : ∀ {xs : List V} {ys : List α}, AllAt R H xs ys → xs.length = ys.length
  | [], [], _ => rfl
  | _ :: _, _ :: _, h => congrArg (· + 1) (AllAt.len h.2)
  | [], _ :: _, h => h.elim
  | _ :: _, [], h => h.elim
theorem AllAt.mono : ∀ {xs : List V} {ys : List α}, (∀ x y, R H x y → R H' x y) → AllAt R H xs ys → AllAt R H' xs ys
  | [], [], _, _ => trivial
  | _ :: _, _ :: _, f, h => ⟨f _ _ h.1, AllAt.mono f h.2⟩
  | [], _ :: _, _, h => h.elim
  | _ :: _, [], _, h => h.elim
theorem AllAt.app : ∀ {xs xs' : List V} {ys ys' : List α}, AllAt R H xs ys → AllAt R H xs' ys' → AllAt R H (xs ++ xs') (ys ++ ys')
  | [], _, [], _, _, h => h
  | _ :: _, _, _ :: _, _, h, h' => ⟨h.1, AllAt.app h.2 h'⟩
  | [], _, _ :: _, _, h, _ => h.elim
  | _ :: _, _, [], _, h, _ => h.elim
theorem AllAt.snoc {xs : List V} {ys : List α} {x : V} {y : α} (h : AllAt R H xs ys) (r : R H x y) : AllAt R H (xs ++ [x]) (ys ++ [y]) := h.app ⟨r, trivial⟩
theorem AllAt.at : ∀ {xs : List V} {ys : List α} {i : Nat} {x : V}, AllAt R H xs ys → xs[i]? = some x → ∃ y, ys[i]? = some y ∧ R H x y
  | x :: xs, y :: ys, 0, _, h, e => by cases e; exact ⟨y, rfl, h.1⟩
  | x :: xs, y :: ys, i + 1, _, h, e => AllAt.at (xs := xs) (ys := ys) (i := i) h.2 (by simpa using e)
  | [], _, _, _, _, e => by simp at e
  | _ :: _, [], _, _, h, _ => h.elim
theorem AllAt.to : ∀ {xs : List V} {ys : List α} {i : Nat} {y : α}, AllAt R H xs ys → ys[i]? = some y → ∃ x, xs[i]? = some x ∧ R H x y
  | x :: xs, y :: ys, 0, _, h, e => by cases e; exact ⟨x, rfl, h.1⟩
  | x :: xs, y :: ys, i + 1, _, h, e => AllAt.to (xs := xs) (ys := ys) (i := i) h.2 (by simpa using e)
  | _, [], _, _, _, e => by simp at e
  | [], _ :: _, _, _, h, _ => h.elim
theorem AllAt.take : ∀ {xs : List V} {ys : List α} (n : Nat), AllAt R H xs ys → AllAt R H (xs.take n) (ys.take n)
  | _, _, 0, _ => by simp [AllAt]
  | [], [], _ + 1, _ => by simp [AllAt]
  | x :: xs, y :: ys, n + 1, h => ⟨h.1, AllAt.take n h.2⟩
  | [], _ :: _, _ + 1, h => h.elim
  | _ :: _, [], _ + 1, h => h.elim
theorem AllAt.drop : ∀ {xs : List V} {ys : List α} (n : Nat), AllAt R H xs ys → AllAt R H (xs.drop n) (ys.drop n)
  | _, _, 0, h => h
  | [], [], _ + 1, _ => by simp [AllAt]
  | x :: xs, y :: ys, n + 1, h => AllAt.drop (xs := xs) (ys := ys) n h.2
  | [], _ :: _, _ + 1, h => h.elim
  | _ :: _, [], _ + 1, h => h.elim
end
theorem join2 {c G T : Prop} (h : (c → G) → T) (g : c → G) : T := h g
theorem iteP {c A B : Prop} [Decidable c] (hc : c) (h : A) : if c then A else B := by
  rw [if_pos hc]; exact h
theorem iteQ {c A B : Prop} [Decidable c] (hc : ¬ c) (h : B) : if c then A else B := by
  rw [if_neg hc]; exact h
theorem notT {b : Bool} (h : b = true) : ¬ ((!b) = true) := by rw [h]; decide
theorem notF {b : Bool} (h : b = false) : (!b) = true := by rw [h]; rfl
theorem neT {b : Bool} (h : b = false) : ¬ (b = true) := by rw [h]; decide
theorem twoB (b : Bool) : b = true ∨ b = false := by cases b; exact .inr rfl; exact .inl rfl
/-- all tuples stand -/
def Tups (H H' : Hp) : Prop := ∀ t xs, H t = some (.tup xs) → H' t = some (.tup xs)
section
variable {H H' H'' : Hp} {p : Addr} {o : HO} {xs : List V}
theorem Tups.refl (H : Hp) : Tups H H := fun _ _ h => h
theorem Tups.trans (a : Tups H H') (b : Tups H' H'') : Tups H H'' := fun t xs h => b t xs (a t xs h)
theorem Tups.of (a : Same H H') : Tups H H' := fun t xs h => a t _ h
theorem Tups.put (h : ∀ ys, H p ≠ some (.tup ys)) : Tups H (upd H p o) := fun t ys e => by
  rw [upd_ne (fun q => h ys (by rw [← q]; exact e))]
  exact e
theorem Tups.new (h : H p = none) : Tups H (upd H p o) := Tups.put fun ys e => by rw [h] at e; cases e
theorem Tups.lst (h : H p = some (.lst xs)) : Tups H (upd H p o) := Tups.put fun ys e => by rw [h] at e; cases e
theorem Tups.ins {C dx : Addr} {fs : List (Str × V)} (h : H p = some (.ins C dx fs)) : Tups H (upd H p o) := Tups.put fun ys e => by rw [h] at e; cases e
theorem same_new (h : H p = none) : Same H (upd H p o) := fun b u e => by
  rw [upd_ne (ne_of_none e h)]
  exact e
end
/-- a tuple of these stands at x -/
def TupAt (H : Hp) (x : V) (vs : List V) : Prop := ∃ t, x = .ref t ∧ H t = some (.tup vs)
theorem TupAt.mono {H H' : Hp} {x : V} {vs : List V} (a : Tups H H') (h : TupAt H x vs) : TupAt H' x vs := by
  obtain ⟨t, e, r⟩ := h
  exact ⟨t, e, a t _ r⟩
theorem all_push {α : Type} {f : α → List V} {H : Hp} {q p : Addr} {ls tv : List V} {ys : List α} {y : α} (hq : H q = some (.lst ls)) (ha : AllAt (fun H x y => TupAt H x (f y)) H ls ys) (hp : H p = none) (et : tv = f y) :
    upd (upd H p (.tup tv)) q (.lst (ls ++ [.ref p])) q = some (.lst (ls ++ [.ref p])) ∧ AllAt (fun H x y => TupAt H x (f y)) (upd (upd H p (.tup tv)) q (.lst (ls ++ [.ref p]))) (ls ++ [.ref p]) (ys ++ [y]) ∧
      (upd H p (.tup tv)) q = some (.lst ls) ∧ ∀ a o, a ≠ q → H a = some o → upd (upd H p (.tup tv)) q (.lst (ls ++ [.ref p])) a = some o := by
  have npq : q ≠ p := fun r => by rw [← r, hq] at hp; cases hp
  have e2 : (upd H p (.tup tv)) q = some (.lst ls) := (upd_ne npq).trans hq
  refine ⟨upd_same, AllAt.mono (fun _ _ => TupAt.mono (Tups.lst e2)) (AllAt.snoc (ha.mono fun _ _ => TupAt.mono (Tups.new hp)) ⟨p, rfl, by rw [upd_same, et]⟩), e2, fun a o na e => ?_⟩
  rw [upd_ne na]
  exact same_new hp _ _ e
end Pa
set_option maxRecDepth 100000
set_option maxHeartbeats 4000000
namespace Pa
open PySem PySem.Spec PyProof.Rows L2 Win
/-! ### corners, rings, rings of rings -/
/-- a list or a tuple of these -/
def SeqH (H : Hp) (a : Addr) (xs : List V) : Prop := H a = some (.lst xs) ∨ H a = some (.tup xs)
theorem SeqH.mono {H H' : Hp} {a : Addr} {xs : List V} (s : ∀ o, H a = some o → H' a = some o) (h : SeqH H a xs) : SeqH H' a xs := h.elim (fun e => .inl (s _ e)) fun e => .inr (s _ e)
theorem SeqH.sq {K : PySem.W.Frag} {H : Hp} {a : Addr} {xs : List V} (h : SeqH H a xs) : SqL K H a xs ∨ SqT K H a xs := h.elim (fun e => .inl (SqL.of e)) fun e => .inr (SqT.of e)
theorem SeqH.inj {H : Hp} {a : Addr} {xs ys : List V} (h : SeqH H a xs) (h' : SeqH H a ys) : xs = ys := by
  rcases h with h | h <;> rcases h' with h' | h' <;> (rw [h] at h'; cases h' <;> rfl)
def CornerAt (H : Hp) (v : V) (p : Pt) : Prop := ∃ t, v = .ref t ∧ SeqH H t [.int p.1, .int p.2]
def RingAt (H : Hp) (v : V) (ps : List Pt) : Prop := ∃ r xs, v = .ref r ∧ SeqH H r xs ∧ AllAt CornerAt H xs ps
def RingsAt (H : Hp) (v : V) (rs : List (List Pt)) : Prop := ∃ r xs, v = .ref r ∧ SeqH H r xs ∧ AllAt RingAt H xs rs
theorem CornerAt.mono {H H' : Hp} (s : Same H H') {v : V} {p : Pt} (h : CornerAt H v p) : CornerAt H' v p := by
  obtain ⟨t, e, q⟩ := h
  exact ⟨t, e, q.mono fun o => s _ o⟩
theorem RingAt.mono {H H' : Hp} (s : Same H H') {v : V} {p : List Pt} (h : RingAt H v p) : RingAt H' v p := by
  obtain ⟨t, xs, e, q, a⟩ := h
  exact ⟨t, xs, e, q.mono fun o => s _ o, a.mono fun _ _ => CornerAt.mono s⟩
theorem RingsAt.mono {H H' : Hp} (s : Same H H') {v : V} {p : List (List Pt)} (h : RingsAt H v p) : RingsAt H' v p := by
  obtain ⟨t, xs, e, q, a⟩ := h
  exact ⟨t, xs, e, q.mono fun o => s _ o, a.mono fun _ _ => RingAt.mono s⟩
/-- a side: a tuple of two tuples -/
def SideAt (H : Hp) (v : V) (p q : Pt) : Prop := ∃ t a b, v = .ref t ∧ H t = some (.tup [.ref a, .ref b]) ∧ H a = some (.tup [.int p.1, .int p.2]) ∧ H b = some (.tup [.int q.1, .int q.2])
theorem SideAt.mono {H H' : Hp} (s : Same H H') {v : V} {p q : Pt} (h : SideAt H v p q) : SideAt H' v p q := by
  obtain ⟨t, a, b, e, h1, h2, h3⟩ := h
  exact ⟨t, a, b, e, s _ _ h1, s _ _ h2, s _ _ h3⟩
def SideIt (ps : List Pt) : Nat → V → Hp → Prop := fun j y H => ∃ p q, ps[j]? = some p ∧ ps[(j + 1) % ps.length]? = some q ∧ SideAt H y p q
/-- facts of the program's top -/
structure Txt (K : PySem.W.Frag) (mg : Str → Option Value) : Prop where
  b_len : mg "len" = none
  b_range : mg "range" = none
  b_int : mg "int" = none
  b_abs : mg "abs" = none
  b_enumerate : mg "enumerate" = none
  b_isinstance : mg "isinstance" = none
  b_bool : mg "bool" = none
  b_list : mg "list" = none
  b_tuple : mg "tuple" = none
  b_max : mg "max" = none
  b_min : mg "min" = none
  b_all : mg "all" = none
  b_sum : mg "sum" = none
/-! ### each_side -/
def rLenQ (K : PySem.W.Frag) : List V → Hp → VK → Prop := fun xs H Q => ∃ p ys, xs = [V.ref p] ∧ (SqL K H p ys ∨ SqT K H p ys) ∧ Q (.int ys.length) H
theorem call_lenQ {X : Cx} {K : PySem.W.Frag} (hK : X.K = K) : CallR X (.builtin "len") (rLenQ K) := by subst hK; exact call_len_seq
def rTupQ (K : PySem.W.Frag) : List V → Hp → VK → Prop := fun xs H Q => ∃ p ys, xs = [V.ref p] ∧ ((SqL K H p ys ∧ ∀ l, H l = none → Q (.ref l) (upd H l (.tup ys))) ∨ (SqT K H p ys ∧ Q (.ref p) H))
theorem call_tupQ {X : Cx} {K : PySem.W.Frag} (hK : X.K = K) : CallR X (.type "tuple") (rTupQ K) := by subst hK; exact call_tuple_of
theorem ix_seqQ {X : Cx} {K : PySem.W.Frag} (hK : X.K = K) : IxR X (rIx K) := by subst hK; exact ix_seq
theorem tnil {σ : L2.St} {H : Hp} {Q : List V → Hp → Prop} (h : Q [] H) : tNil σ H Q := h
def spSides : SpW := fun vs D n item => ∃ v ps, vs = [v] ∧ RingAt D v ps ∧ n = ps.length ∧ n ≤ 1000 ∧ item = SideIt ps
abbrev seach_side : Stmt := topS 2
theorem sceach_side : GScope ["ring", "at"] ["ring"] (defScope seach_side) := ⟨rfl, rfl, rfl, by decide +kernel, rfl, by decide +kernel, by decide +kernel⟩
section
variable {P : Program} {w : World} {K : PySem.W.Frag} {mg : Str → Option Value} {base : Heap}
theorem ix_seqH {K : PySem.W.Frag} {H : Hp} {r : Addr} {xs : List V} {j : Nat} {v : V} {Q : VK} (h : SeqH H r xs) (hj : xs[j]? = some v) (q : Q v H) : rIx K (.ref r) (.int (j : Int)) H Q := by
  rcases h with h | h
  · exact .inl ⟨r, xs, j, v, rfl, rfl, SqL.of h, atI_nat hj, q⟩
  · exact .inr (.inl ⟨r, xs, j, v, rfl, rfl, SqT.of h, atI_nat hj, q⟩)
theorem ix_seqI {K : PySem.W.Frag} {H : Hp} {r : Addr} {xs : List V} {i : Int} {j : Nat} {v : V} {Q : VK} (h : SeqH H r xs) (ei : i = (j : Int)) (hj : xs[j]? = some v) (q : Q v H) : rIx K (.ref r) (.int i) H Q := by
  subst ei
  exact ix_seqH h hj q
/-- tuple(corner): the tuple itself, or a new one -/
theorem tup_corner {K : PySem.W.Frag} {H : Hp} {v : V} {p : Pt} {Q : VK} (h : CornerAt H v p) (q : ∀ a H', Same H H' → H' a = some (.tup [.int p.1, .int p.2]) → (H a = none ∨ v = .ref a) → Q (.ref a) H') :
    rTupQ K [v] H Q := by
  obtain ⟨t, rfl, h | h⟩ := h
  · exact ⟨t, _, rfl, .inl ⟨SqL.of h, fun l hl => q l _ (same_new hl) upd_same (.inl hl)⟩⟩
  · exact ⟨t, _, rfl, .inr ⟨SqT.of h, q t H (Same.refl H) h (.inr rfl)⟩⟩
theorem wf_each_side {f : Addr} {fd : FuncData} (F : Fun K "each_side" "each_side" seach_side f fd) (T : Txt K mg) : WFn P w K mg base 2 f fd ["ring"] spSides := by
  obtain ⟨oc, od, kV, doc, pm, an, cdv, ct, osl, rfl, lk, hcd⟩ := F.ex
  refine wfn_of (lk := lk) hcd sceach_side (fun _ => rfl) (fun _ _ => rfl) (fun _ _ _ => rfl) (fun vs D n item h => ?_) fun A outer s vs D n item hr h => ?_
  · obtain ⟨v, ps, rfl, _⟩ := h
    rfl
  · obtain ⟨v, ps, rfl, ⟨r, xs, rfl, hr0, hxs⟩, rfl, hn, rfl⟩ := h
    have hlen : xs.length = ps.length := hxs.len
    refine ⟨_, _, _, Itr 0 ps.length, fun j => [some (.ref r), if j = 0 then none else some (.int ((j : Int) - 1))], rfl, fun H0 => pi_range1 (by rfl) T.b_range (pa_cons (pe_callB (r := rLenQ K) (id := "len") (call_lenQ (K := K) rfl) (by rfl) T.b_len PySem.boot_len (pa_cons (pv 0) pa_nil)) pa_nil), fun ex => pg_name (i := 1) sceach_side.nd rfl (.inl rfl),
      fun ex => pe_tup (pa_cons (pe_callTy (r := rTupQ K) (T := "tuple") (call_tupQ (K := K) rfl) (by rfl) T.b_tuple (by decide +kernel) (pa_cons (pe_ix (r := rIx K) (ix_seqQ (K := K) rfl) (pv 0) (pv 1) (fun _ _ => rfl)) pa_nil)) (pa_cons (pe_callTy (r := rTupQ K) (T := "tuple") (call_tupQ (K := K) rfl) (by rfl) T.b_tuple (by decide +kernel) (pa_cons (pe_ix (r := rIx K) (ix_seqQ (K := K) rfl) (pv 0) (pe_op op_mod (pe_op op_add (pv 1) pe_int) (pe_callB (r := rLenQ K) (id := "len") (call_lenQ (K := K) rfl) (by rfl) T.b_len PySem.boot_len (pa_cons (pv 0) pa_nil))) (fun _ _ => rfl)) pa_nil)) pa_nil)), fun H hE => ?_, fun j hj H hE => ⟨hj, fun x H' y => ?_⟩, fun H hE => Nat.le_refl _⟩
    · have hr1 : SeqH H r xs := hr0.mono fun o => hE _ o
      refine ⟨_, rfl, r, xs, rfl, hr1.sq, xs.length, rfl, by omega, by omega, ?_, Same.refl H⟩
      rw [Int.toNat_natCast, hlen]
    · obtain ⟨rfl, rfl⟩ := y
      have hr1 : SeqH H' r xs := hr0.mono fun o => hE _ o
      have hc : AllAt CornerAt H' xs ps := hxs.mono fun _ _ => CornerAt.mono hE
      rw [Int.zero_add]
      refine ⟨?_, ?_⟩
      · show [some (V.ref r), some (V.int (j : Int))] = [some (V.ref r), if j + 1 = 0 then none else some (V.int (((j + 1 : Nat) : Int) - 1))]
        rw [if_neg (Nat.succ_ne_zero j), show ((j + 1 : Nat) : Int) - 1 = (j : Int) by omega]
      · obtain ⟨p, hp⟩ : ∃ p, ps[j]? = some p := ⟨_, List.getElem?_eq_getElem hj⟩
        have hm : (j + 1) % ps.length < ps.length := Nat.mod_lt _ (by omega)
        obtain ⟨q, hq⟩ : ∃ q, ps[(j + 1) % ps.length]? = some q := ⟨_, List.getElem?_eq_getElem hm⟩
        obtain ⟨v1, hv1, c1⟩ := hc.to hp
        obtain ⟨v2, hv2, c2⟩ := hc.to hq
        refine ⟨_, rfl, _, rfl, ix_seqH hr1 hv1 ?_⟩
        refine tnil ?_
        refine tup_corner c1 fun a H1 s1 ha n1 => ?_
        refine ⟨_, rfl, _, rfl, _, _, rfl, rfl, _, rfl, r, xs, rfl, (hr1.mono fun o => s1 _ o).sq, _, _, rfl, rfl, by omega, ?_⟩
        have em : ((j : Int) + 1) % (xs.length : Int) = (((j + 1) % ps.length : Nat) : Int) := by
          rw [hlen, Int.natCast_emod]
          rfl
        refine ix_seqI (hr1.mono fun o => s1 _ o) em hv2 ?_
        refine tnil ?_
        refine tup_corner (c2.mono s1) fun b H2 s2 hb n2 => ⟨by show 2 ≤ sizeLine; decide, fun t ht => ?_⟩
        have s3 := same_new (o := .tup [.ref a, .ref b]) ht
        obtain ⟨w1, hw1, d1⟩ := hxs.to hp
        obtain ⟨w2, hw2, d2⟩ := hxs.to hq
        rw [hv1] at hw1
        rw [hv2] at hw2
        cases hw1
        cases hw2
        have old : ∀ (H4 : Hp), ExtH D H4 → ∀ (u : Addr) (c : Pt) (G1 : Hp), CornerAt D (.ref u) c → Same H' G1 → G1 u = some (.tup [.int c.1, .int c.2]) → H4 u = some (.tup [.int c.1, .int c.2]) := fun H4 hE4 u c G1 hd hs hg => by
          obtain ⟨u', e, q | q⟩ := hd
          · cases e
            have := hs _ _ (hE _ _ q)
            rw [hg] at this
            cases this
          · cases e
            exact hE4 _ _ q
        refine ⟨(s1.trans s2).trans s3, fun H4 hE4 hN => ⟨p, q, hp, hq, t, a, b, rfl, hN t _ (s1.free (s2.free ht)) upd_same, ?_, ?_⟩⟩
        · rcases n1 with n1 | n1
          · exact hN a _ n1 (s3 _ _ (s2 _ _ ha))
          · rw [n1] at d1
            exact old H4 hE4 a p H1 d1 s1 ha
        · rcases n2 with n2 | n2
          · exact hN b _ (s1.free n2) (s3 _ _ hb)
          · rw [n2] at d2
            exact old H4 hE4 b q H2 d2 (s1.trans s2) hb
end
end Pa
set_option maxRecDepth 100000
set_option maxHeartbeats 4000000
namespace Pa
open PySem PySem.Spec PyProof.Rows L2 Win
/-- coordinates within bounds -/
def SmallP (p : Pt) : Prop := (-1000 ≤ p.1 ∧ p.1 ≤ 1000) ∧ (-1000 ≤ p.2 ∧ p.2 ≤ 1000)
section
variable {P : Program} {w : World} {K : PySem.W.Frag} {mg : Str → Option Value} {base : Heap}
/-! ### _count_of -/
def spCount (K : PySem.W.Frag) : Sp := fun vs H Q _ => ∃ v p q x y, vs = [v, .int x, .int y] ∧ SideAt H v p q ∧ SmallP p ∧ SmallP q ∧ (-1000 ≤ x ∧ x ≤ 1000) ∧ (-1000 ≤ y ∧ y ≤ 1000) ∧ Q (.int (cnt x y p q)) H
abbrev s_count_of : Stmt := topS 4
theorem sc_count_of : FnScope ["side", "x", "y", "x0", "y0", "x1", "y1", "rise", "count", "crossing", "middle"] ["side", "x", "y"] (defScope s_count_of) := ⟨rfl, rfl, rfl, by decide +kernel, rfl, by decide +kernel, by decide +kernel⟩
theorem ok_count_of {f : Addr} {fd : FuncData} (F : Fun K "_count_of" "_count_of" s_count_of f fd) (T : Txt K mg) : FnOk P w K mg base CX0 1 f fd ["side", "x", "y"] (spCount K) := by
  refine F.ok sc_count_of (fun vs H Q E h => ?_) (fun cdv A outer s H vs Q E hr h => ?_)
  · obtain ⟨v, p, q, x, y, rfl, _⟩ := h
    rfl
  · obtain ⟨v, p, q, x, y, rfl, ⟨t, a, b, rfl, ht, ha, hb⟩, sp, sq, sx, sy, k⟩ := h
    obtain ⟨p1, p2⟩ := p
    obtain ⟨q1, q2⟩ := q
    unfold SmallP at sp sq
    dsimp only at sp sq ha hb
    refine ⟨_, (pss_cons (ps_asg (pv 0) (pg_tup rfl (pgs_cons (pg_tup rfl (pgs_cons (pg_name (i := 3) sc_count_of.nd rfl (.inl rfl)) (pgs_cons (pg_name (i := 4) sc_count_of.nd rfl (.inl rfl)) pgs_nil))) (pgs_cons (pg_tup rfl (pgs_cons (pg_name (i := 5) sc_count_of.nd rfl (.inl rfl)) (pgs_cons (pg_name (i := 6) sc_count_of.nd rfl (.inl rfl)) pgs_nil))) pgs_nil))))
      (pss_cons (ps_if (PW.pt (pw_or (pt_cmpR op_gt (pe_callB (call_min2 rfl) (by rfl) T.b_min (by decide +kernel) (pa_cons (pv 4) (pa_cons (pv 6) pa_nil))) (pv 2) (nomark _)) (pw_or1 (pt_cmpR op_lt (pe_callB (call_max2 rfl) (by rfl) T.b_max (by decide +kernel) (pa_cons (pv 4) (pa_cons (pv 6) pa_nil))) (pe_op op_add (pv 2) pe_int) (nomark _)))))
        (pss_one (ps_ret pe_int))
        pss_nil)
      (pss_cons (ps_set (i := 7) sc_count_of.nd rfl (.inl rfl) (pe_op op_sub (pv 6) (pv 4)))
      (pss_cons (ps_set (i := 8) sc_count_of.nd rfl (.inl rfl) (pe_ifExp (pt_cmpR op_gt (pv 7) pe_int (nomark _)) pe_int (pe_un un_neg pe_int)))
      (pss_cons (ps_set (i := 9) sc_count_of.nd rfl (.inl rfl) (pe_op op_add (pe_op op_mul (pe_op op_mul pe_int (pv 3)) (pv 7)) (pe_op op_mul (pe_op op_sub (pe_op op_add (pe_op op_mul pe_int (pv 2)) pe_int) (pe_op op_mul pe_int (pv 4))) (pe_op op_sub (pv 5) (pv 3)))))
      (pss_cons (ps_set (i := 10) sc_count_of.nd rfl (.inl rfl) (pe_op op_mul (pe_op op_add (pe_op op_mul pe_int (pv 1)) pe_int) (pv 7)))
      (pss_one (ps_ret (pe_ifExp (pt_cmpR op_gt (pe_op op_mul (pv 8) (pv 9)) (pe_op op_mul (pv 8) (pv 10)) (nomark _)) (pv 8) pe_int))))))))), ?_⟩
    refine ⟨_, rfl, t, _, rfl, SqT.of ht, rfl, _, _, rfl, a, _, rfl, SqT.of ha, rfl, _, _, rfl, _, _, rfl, rfl, _, _, rfl, b, _, rfl, SqT.of hb, rfl, _, _, rfl, _, _, rfl, rfl, rfl, ?_⟩
    have m1 : (if q2 < p2 then q2 else p2) > y ↔ (y < p2 ∧ y < q2) := by split <;> omega
    have m2 : (if q2 > p2 then q2 else p2) < y + 1 ↔ (p2 < y + 1 ∧ q2 < y + 1) := by split <;> omega
    refine ⟨_, rfl, _, rfl, _, _, rfl, _, rfl, _, _, rfl, rfl, _, rfl, ?_⟩
    by_cases c1 : y < p2 ∧ y < q2
    · refine iteP (decide_eq_true (m1.mpr c1)) (iteT ?_)
      rw [cnt_no (p := (p1, p2)) (q := (q1, q2)) (.inl c1)] at k
      exact k
    refine iteQ (fun z => c1 (m1.mp (of_decide_eq_true z))) ?_
    refine ⟨_, rfl, _, rfl, _, _, rfl, _, rfl, _, _, rfl, rfl, _, _, rfl, rfl, _, rfl, ?_⟩
    by_cases c2 : p2 < y + 1 ∧ q2 < y + 1
    · refine iteP (decide_eq_true (m2.mpr c2)) ?_
      rw [cnt_no (p := (p1, p2)) (q := (q1, q2)) (.inr c2)] at k
      exact k
    refine iteQ (fun z => c2 (m2.mp (of_decide_eq_true z))) ?_
    rw [cnt_yes (p := (p1, p2)) (q := (q1, q2)) (by rintro (z | z); exact c1 z; exact c2 z)] at k
    unfold cntP at k
    dsimp only at k
    refine ⟨_, rfl, _, rfl, _, _, rfl, rfl, ?_⟩
    refine ⟨_, rfl, _, _, rfl, rfl, _, rfl, ite2 (fun h1 => ?_) (fun h1 => ?_)⟩
    · have h1 := of_decide_eq_true h1
      rw [if_pos h1] at k
      refine ⟨_, rfl, _, _, rfl, rfl, .inl (by decide), _, rfl, _, _, rfl, rfl, .inr ⟨by omega, by omega⟩, _, rfl, _, _, rfl, rfl, .inl (by decide), _, _, rfl, rfl, _, rfl, _, _, rfl, rfl, .inl (by decide), _, _, rfl, rfl, _, rfl, _, rfl, _, _, rfl, rfl, _, _, rfl, rfl, .inr ⟨by omega, by omega⟩, _, _, rfl, rfl, ?_⟩
      refine ⟨_, rfl, _, _, rfl, rfl, .inl (by decide), _, _, rfl, rfl, _, rfl, _, _, rfl, rfl, .inr ⟨by omega, by omega⟩, ?_⟩
      refine ⟨_, rfl, _, rfl, _, _, rfl, rfl, .inl (by decide), _, rfl, _, rfl, _, _, rfl, rfl, .inl (by decide), _, _, rfl, rfl, _, rfl, ite2 (fun h2 => ⟨_, rfl, ?_⟩) (fun h2 => ?_)⟩
      · rw [if_pos (of_decide_eq_true h2)] at k
        exact k
      · rw [if_neg (fun z => h2 (decide_eq_true z))] at k
        exact k
    · rw [if_neg (fun z => h1 (decide_eq_true z))] at k
      refine ⟨_, rfl, ?_⟩
      refine ⟨_, rfl, _, _, rfl, rfl, .inl (by decide), _, rfl, _, _, rfl, rfl, .inr ⟨by omega, by omega⟩, _, rfl, _, _, rfl, rfl, .inl (by decide), _, _, rfl, rfl, _, rfl, _, _, rfl, rfl, .inl (by decide), _, _, rfl, rfl, _, rfl, _, rfl, _, _, rfl, rfl, _, _, rfl, rfl, .inr ⟨by omega, by omega⟩, _, _, rfl, rfl, ?_⟩
      refine ⟨_, rfl, _, _, rfl, rfl, .inl (by decide), _, _, rfl, rfl, _, rfl, _, _, rfl, rfl, .inr ⟨by omega, by omega⟩, ?_⟩
      refine ⟨_, rfl, _, rfl, _, _, rfl, rfl, .inl (by decide), _, rfl, _, rfl, _, _, rfl, rfl, .inl (by decide), _, _, rfl, rfl, _, rfl, ite2 (fun h2 => ⟨_, rfl, ?_⟩) (fun h2 => ?_)⟩
      · rw [if_pos (of_decide_eq_true h2)] at k
        exact k
      · rw [if_neg (fun z => h2 (decide_eq_true z))] at k
        exact k
end
end Pa
set_option maxRecDepth 100000
set_option maxHeartbeats 4000000
namespace Pa
open PySem PySem.Spec PyProof.Rows L2 Win
/-- either of two walks -/
def iOr (w1 w2 : TI) : TI := fun σ H R => w1 σ H R ∨ w2 σ H R
theorem PI.either {X : Cx} {tg e : Expr} {w1 w2 : TI} (h1 : PI X tg e w1) (h2 : PI X tg e w2) : PI X tg e (iOr w1 w2) :=
  ⟨fun pins s σ H R I h => h.elim (h1.run pins s σ H R I) (h2.run pins s σ H R I)⟩
theorem lc2_out {J : It} {n : Nat} {G : Hp → Prop} {Y : Nat → Hp → V → Hp → Prop} (w : Walk J n G Y) {g : TG} {tt : TT} {Inner : L2.St → Hp → (Hp → Prop) → Prop} {vs : List Nat} {σ : L2.St} {H1 : Hp} {D : Addr} {Qd : Hp → Prop} (Pv : Nat → Hp → Prop) (h0 : Pv 0 (upd H1 D (.lst []))) (hG : ∀ i H, i ≤ n → Pv i H → G H)
    (hs : ∀ i x H H', i < n → Pv i H → Y i H x H' → g x (wipe σ vs) H' fun σ2 H2 => wipe σ2 vs = wipe σ vs ∧ tt σ2 H2 fun b H3 => if b = true then Inner σ2 H3 (Pv (i + 1)) else Pv (i + 1) H3) (hd : ∀ H, Pv n H → Qd H) :
    ∃ W : Nat → Nat → Hp → Prop, (∃ m, W 0 m (upd H1 D (.lst []))) ∧ ∀ i m H, W i m H →
      (J.stop i H ∧ Qd H) ∨ (J.go i H ∧ ∃ Nx : Hp → Prop, (∀ H', Nx H' → ∃ m', m' < m ∧ W (i + 1) m' H') ∧ ∀ x H', J.yld i H x H' → g x (wipe σ vs) H' fun σ2 H2 => wipe σ2 vs = wipe σ vs ∧ tt σ2 H2 fun b H3 =>
        if b = true then Inner σ2 H3 Nx else Nx H3) := by
  refine ⟨fun i m H => m = n - i ∧ i ≤ n ∧ Pv i H, ⟨n, by simp, Nat.zero_le _, h0⟩, ?_⟩
  rintro i m H ⟨rfl, hi, p⟩
  have q := hG i H hi p
  by_cases hlt : i < n
  · exact .inr ⟨w.goes i H hlt q, Pv (i + 1), fun H' p' => ⟨n - (i + 1), by omega, rfl, hlt, p'⟩, fun x H' y => hs i x H H' hlt p (w.yields i H x H' hlt q y)⟩
  · have e : i = n := by omega
    subst e
    exact .inl ⟨w.stops H q, hd H p⟩
/-- the module's name x holds a generator def -/
structure WOk (P : Program) (w : World) (K : PySem.W.Frag) (mg : Str → Option Value) (base : Heap) (k : Nat) (x : Str) (ps : List Str) (sp : SpW) : Prop where
  ok : ∃ (f : Addr) (fd : FuncData), mg x = some (.ref f) ∧ PySem.W.keepIn K (.ref f) = true ∧ Binds K fd ps [] ∧ WFn P w K mg base k f fd ps sp
theorem pgw_cc {X : Cx} {k : Nat} {ps : List Str} {sp : SpW} {x : Str} {p pos : Pos} {e : Expr} {es : List Expr} {t : TA} (C : WOk X.prog X.w X.K X.mg X.base k x ps sp) (hr : Room k X.A) (hg : Gl X x) (ha : PA X (e :: es) t) (hdb : (x == ("__debug__" : Str)) = false := by decide)
    (he : starEach (e :: es) X.env = (false, eval e X.env) :: starEach es X.env := by rfl) (hpl : (backTo pos (starEach es X.env)).any (·.1) = false := by rfl) : PGW X k (.Call (.Name x p) (e :: es) [] pos) (tCallW sp t) := by
  obtain ⟨f, fd, h1, h2, h3, h4⟩ := C.ok
  exact pgw_call h4 hr hg h1 h2 h3 ha hdb he hpl
/-- the lists and tuples of a heap -/
def dataOf (H : Hp) : Hp := fun b => match H b with
  | some (.lst xs) => some (.lst xs)
  | some (.tup xs) => some (.tup xs)
  | _ => none
theorem dataOf_is (H : Hp) : DataHp (dataOf H) := fun b o e => by
  unfold dataOf at e
  split at e
  · exact .inr ⟨_, (Option.some.inj e).symm⟩
  · exact .inl ⟨_, (Option.some.inj e).symm⟩
  · cases e
theorem dataOf_sub (H : Hp) : ExtH (dataOf H) H := fun b o e => by
  unfold dataOf at e
  split at e
  · rename_i h; rw [h]; exact e
  · rename_i h; rw [h]; exact e
  · cases e
theorem SeqH.data {H : Hp} {a : Addr} {xs : List V} (h : SeqH H a xs) : SeqH (dataOf H) a xs := by
  rcases h with h | h
  · exact .inl (by unfold dataOf; rw [h])
  · exact .inr (by unfold dataOf; rw [h])
theorem RingAt.data {H : Hp} {v : V} {ps : List Pt} (h : RingAt H v ps) : RingAt (dataOf H) v ps := by
  obtain ⟨r, xs, e, q, a⟩ := h
  exact ⟨r, xs, e, q.data, a.mono fun x p ⟨t, e, q⟩ => ⟨t, e, q.data⟩⟩
theorem allC_snoc (x y : Int) (rs : List (List Pt)) (ps : List Pt) : allC x y (rs ++ [ps]) = allC x y rs ++ sideC x y ps := by
  unfold allC
  rw [List.map_append, List.flatten_append]
  simp
theorem sideC_len (x y : Int) (ps : List Pt) : (sideC x y ps).length = ps.length := by unfold sideC; simp
theorem sideC_take (x y : Int) (ps : List Pt) (j : Nat) (hj : j < ps.length) : (sideC x y ps).take (j + 1) = (sideC x y ps).take j ++ [cnt x y (ps.getD j (0, 0)) (ps.getD ((j + 1) % ps.length) (0, 0))] := by
  have e : (sideC x y ps)[j]? = some (cnt x y (ps.getD j (0, 0)) (ps.getD ((j + 1) % ps.length) (0, 0))) := by
    unfold sideC
    rw [List.getElem?_map, List.getElem?_range hj]
    rfl
  rw [List.take_add_one, e]
  rfl
theorem allC_len (x y : Int) : ∀ (rs : List (List Pt)), (∀ ps ∈ rs, ps.length ≤ 1000) → (allC x y rs).length ≤ rs.length * 1000
  | [], _ => by simp [allC]
  | ps :: rs, h => by
    have ih := allC_len x y rs fun p hp => h p (List.mem_cons_of_mem _ hp)
    have h1 := h ps List.mem_cons_self
    show ((sideC x y ps) ++ allC x y rs).length ≤ _
    rw [List.length_append, sideC_len, List.length_cons, Nat.add_mul]
    omega
section
variable {P : Program} {w : World} {K : PySem.W.Frag} {mg : Str → Option Value} {base : Heap}
/-! ### winding -/
def GoodRs (rs : List (List Pt)) : Prop := rs.length ≤ 100 ∧ ∀ ps ∈ rs, ps.length ≤ 1000 ∧ ∀ p ∈ ps, SmallP p
def spWinding : Sp := fun vs H Q _ => ∃ v rs x y, vs = [v, .int x, .int y] ∧ RingsAt H v rs ∧ GoodRs rs ∧ (-1000 ≤ x ∧ x ≤ 1000) ∧ (-1000 ≤ y ∧ y ≤ 1000) ∧ ∀ H', Same H H' → Q (.int (wind x y rs)) H'
abbrev swinding : Stmt := topS 3
theorem scwinding : FnScope ["rings", "x", "y", "ring", "side"] ["rings", "x", "y"] (defScope swinding) := ⟨rfl, rfl, rfl, by decide +kernel, rfl, by decide +kernel, by decide +kernel⟩
theorem ok_winding {f : Addr} {fd : FuncData} (F : Fun K "winding" "winding" swinding f fd) (T : Txt K mg) (C_each : WOk P w K mg base 2 "each_side" ["ring"] spSides) (C_count : CallOk P w K mg base 1 "_count_of" ["side", "x", "y"] (spCount K)) : FnOk P w K mg base CX0 4 f fd ["rings", "x", "y"] spWinding := by
  refine F.ok scwinding (fun vs H Q E h => ?_) (fun cdv A outer s H vs Q E hr h => ?_)
  · obtain ⟨v, rs, x, y, rfl, _⟩ := h
    rfl
  · obtain ⟨v, rs, x, y, rfl, ⟨r, xs, rfl, hr0, hxs⟩, ⟨hn, hgood⟩, sx, sy, k⟩ := h
    refine ⟨_, pss_one (ps_ret (pe_callB (cr_sum rfl) (by rfl) T.b_sum (by decide +kernel) (pa_cons (pe_lc2W (k := 2) (own := [("ring", 3), ("side", 4)]) (vs1 := [4]) (wi := iOr (iList K (tVar 0)) (iTup K (tVar 0))) (g := gName 3) (tt := tYes) (tw := tCallW spSides (tCons (tVar 3) tNil)) (g1 := gName 4) (tt1 := tYes) (te := tCall (spCount K) [] E0 (tCons (tVar 4) (tCons (tVar 1) (tCons (tVar 2) tNil))))
      rfl scwinding.nd hr (PI.either (pi_list (pv 0)) (pi_tup (pv 0))) (blkOk_by (N := ["rings", "x", "y", "ring", "side"]) (sc := defScope swinding) (by decide +kernel)) (by decide) (fun _ _ _ _ _ => pg_name (i := 3) scwinding.nd rfl (.inl rfl)) (fun _ _ _ _ _ => pts_nil) (fun _ _ _ _ _ => pgw_cc C_each (hr.mono (by decide)) (by rfl) (pa_cons (pv 3) pa_nil))
      (fun _ _ _ _ _ => pg_name (i := 4) scwinding.nd rfl (.inl rfl)) (fun _ _ _ _ _ => pts_nil) (fun _ _ _ _ _ => pe_cc C_count (hr.mono (by decide)) (by rfl) (pa_cons (pv 4) (pa_cons (pv 1) (pa_cons (pv 2) pa_nil))))) pa_nil))), ?_⟩
    have hlen : xs.length = rs.length := hxs.len
    have sput : ∀ {D : Addr} {H1 : Hp} {o : HO}, H D = none → Same H H1 → Same H (upd H1 D o) := fun {D H1 o} hD s1 b u e => by
      rw [upd_ne (ne_of_none e hD)]
      exact s1 b u e
    have outer : ∀ {J : It} {G : Hp → Prop} (wk : Walk J xs.length G (YAt xs)) (hG : ∀ H', Same H H' → G H') (D : Addr) (hD : H D = none) (Qd : Hp → Prop) (hQ : ∀ H', Same H H' → H' D = some (.lst ((allC x y rs).map V.int)) → Qd H'),
        ∃ W : Nat → Nat → Hp → Prop, (∃ m, W 0 m (upd H D (.lst []))) ∧ ∀ i m H, W i m H →
          (J.stop i H ∧ Qd H) ∨ (J.go i H ∧ ∃ Nx : Hp → Prop, (∀ H', Nx H' → ∃ m', m' < m ∧ W (i + 1) m' H') ∧ ∀ z H', J.yld i H z H' → gName 3 z (wipe [some (V.ref r), some (V.int x), some (V.int y), none, none] [3, 4]) H' fun σ2 H2 => wipe σ2 [3, 4] = wipe [some (V.ref r), some (V.int x), some (V.int y), none, none] [3, 4] ∧ tYes σ2 H2 fun b H3 =>
            if b = true then tCallW spSides (tCons (tVar 3) tNil) σ2 H3 (RdW D (gName 4) tYes (tCall (spCount K) [] E0 (tCons (tVar 4) (tCons (tVar 1) (tCons (tVar 2) tNil)))) σ2 [4] Nx) else Nx H3) := by
      intro J G wk hG D hD Qd hQ
      refine lc2_out wk (fun i H3 => Same H H3 ∧ H3 D = some (.lst ((allC x y (rs.take i)).map V.int))) ⟨same_new hD, upd_same⟩ (fun i H3 _ q => hG H3 q.1) ?_ ?_
      · rintro i u H3 H4 hi ⟨s3, h3⟩ ⟨rfl, hu⟩
        obtain ⟨ps, hps, hra⟩ := hxs.at hu
        have hpm : ps ∈ rs := List.mem_of_getElem? hps
        obtain ⟨g1, g2⟩ := hgood ps hpm
        have etk : rs.take (i + 1) = rs.take i ++ [ps] := by rw [List.take_add_one, hps]; rfl
        have lens : (allC x y (rs.take i)).length ≤ 100000 := by
          have := allC_len x y (rs.take i) fun p hp => (hgood p (List.mem_of_mem_take hp)).1
          rw [List.length_take] at this
          omega
        refine ⟨rfl, ?_⟩
        refine ⟨u, rfl, dataOf H, ps.length, SideIt ps, dataOf_is H, fun b o e => s3 b o (dataOf_sub H b o e), ⟨u, ps, rfl, hra.data, rfl, g1, rfl⟩,
          fun j H5 => Same H H5 ∧ H5 D = some (.lst ((allC x y (rs.take i) ++ (sideC x y ps).take j).map V.int)), ⟨s3, by rw [List.take_zero, List.append_nil]; exact h3⟩, fun H5 ⟨s5, h5⟩ => ⟨s5, ?_⟩, fun j H5 ⟨s5, _⟩ b o e => s5 b o (dataOf_sub H b o e), ?_⟩
        · rw [etk, allC_snoc]
          have e9 : (sideC x y ps).take ps.length = sideC x y ps := List.take_of_length_le (by rw [sideC_len]; exact Nat.le_refl _)
          rw [e9] at h5
          exact h5
        · rintro j hj H5 ⟨s5, h5⟩ z H6 s6 ⟨p, q, hp, hq, sd⟩
          have ep : ps.getD j (0, 0) = p := by rw [List.getD_eq_getElem?_getD, hp]; rfl
          have eq : ps.getD ((j + 1) % ps.length) (0, 0) = q := by rw [List.getD_eq_getElem?_getD, hq]; rfl
          refine ⟨rfl, ?_⟩
          refine ⟨_, rfl, _, rfl, _, rfl, z, p, q, x, y, rfl, sd, g2 p (List.mem_of_getElem? hp), g2 q (List.mem_of_getElem? hq), sx, sy, _, s6 _ _ h5, ?_, sput hD (fun b o e => s6 b o (s5 b o e)), ?_⟩
          · rw [List.length_map, List.length_append, List.length_take, sideC_len]
            exact Nat.lt_of_le_of_lt (m := 101000) (by omega) (by decide)
          · rw [upd_same, sideC_take x y ps j hj, ep, eq, ← List.append_assoc, List.map_append (l₁ := allC x y (rs.take i) ++ (sideC x y ps).take j)]
            rfl
      · rintro H3 ⟨s3, h3⟩
        rw [hlen, List.take_of_length_le (Nat.le_refl _)] at h3
        exact hQ H3 s3 h3
    have fin : ∀ (D : Addr) (H' : Hp), Same H H' → H' D = some (.lst ((allC x y rs).map V.int)) → rSum K [V.ref D] H' Q := fun D H' s' h' => by
      refine ⟨D, allC x y rs, rfl, SqL.of h', ?_⟩
      rw [allC_sum]
      exact k H' s'
    rcases hr0 with h0 | h0
    · refine .inl ⟨_, rfl, r, rfl, ⟨_, SqL.of h0⟩, fun D hD => ?_⟩
      exact outer (walk_list (K := K) (a := r) (xs := xs)) (fun H' s' => SqL.of (s' _ _ h0)) D hD _ fun H' s' h' => fin D H' s' h'
    · refine .inr ⟨_, rfl, r, rfl, ⟨_, SqT.of h0⟩, fun D hD => ?_⟩
      exact outer (walk_tup (K := K) (a := r) (xs := xs)) (fun H' s' => SqT.of (s' _ _ h0)) D hD _ fun H' s' h' => fin D H' s' h'
end
end Pa
set_option maxRecDepth 100000
set_option maxHeartbeats 4000000
namespace Pa
open PySem PySem.Spec PyProof.Rows L2 Win
section
variable {P : Program} {w : World} {K : PySem.W.Frag} {mg : Str → Option Value} {base : Heap}
/-! ### _law_number, of an int -/
def spNum : Sp := fun vs H Q _ => ∃ i : Int, vs = [.int i] ∧ Q (.bl true) H
abbrev sL_number : Stmt := topS 16
theorem scL_number : FnScope ["_law_thing"] ["_law_thing"] (defScope sL_number) := ⟨rfl, rfl, rfl, by decide +kernel, rfl, by decide +kernel, by decide +kernel⟩
theorem ok_number {f : Addr} {fd : FuncData} (F : Fun K "_law_number" "_law_number" sL_number f fd) (T : Txt K mg) : FnOk P w K mg base CX0 1 f fd ["_law_thing"] spNum := by
  refine F.ok scL_number (fun vs H Q E h => ?_) (fun cdv A outer s H vs Q E hr h => ?_)
  · obtain ⟨i, rfl, _⟩ := h
    rfl
  · obtain ⟨i, rfl, k⟩ := h
    refine ⟨_, (pss_one (ps_ret (pe_and (pe_callB call_isi (by rfl) T.b_isinstance (by decide +kernel) (pa_cons (pv 0) (pa_cons (pe_bltn (v := .ty "int") (by rfl) T.b_int (by decide +kernel) rfl) pa_nil))) (pe_one (pe_not (pe_callB call_isi (by rfl) T.b_isinstance (by decide +kernel) (pa_cons (pv 0) (pa_cons (pe_bltn (v := .ty "bool") (by rfl) T.b_bool (by decide +kernel) rfl) pa_nil)))))))), ?_⟩
    refine ⟨_, rfl, _, _, _, _, true, rfl, .ty _, .base (.int _), kit_ty (by decide +kernel), _, rfl, iteT ?_⟩
    exact ⟨_, rfl, _, _, _, _, false, rfl, .ty _, .base (.int _), kit_ty (by decide +kernel), _, rfl, k⟩
/-! ### _law_turn -/
def spTurn : Sp := fun vs H Q _ => ∃ v1 v2 p q x y, vs = [v1, v2, .int x, .int y] ∧ CornerAt H v1 p ∧ CornerAt H v2 q ∧ SmallP p ∧ SmallP q ∧ (-1000 ≤ x ∧ x ≤ 1000) ∧ (-1000 ≤ y ∧ y ≤ 1000) ∧ Q (.int (turn x y p q)) H
abbrev sL_turn : Stmt := topS 19
theorem scL_turn : FnScope ["_law_start", "_law_stop", "_law_x", "_law_y", "_law_found"] ["_law_start", "_law_stop", "_law_x", "_law_y"] (defScope sL_turn) := ⟨rfl, rfl, rfl, by decide +kernel, rfl, by decide +kernel, by decide +kernel⟩
theorem ok_lturn {f : Addr} {fd : FuncData} (F : Fun K "_law_turn" "_law_turn" sL_turn f fd) (T : Txt K mg) : FnOk P w K mg base CX0 1 f fd ["_law_start", "_law_stop", "_law_x", "_law_y"] spTurn := by
  refine F.ok scL_turn (fun vs H Q E h => ?_) (fun cdv A outer s H vs Q E hr h => ?_)
  · obtain ⟨v1, v2, p, q, x, y, rfl, _⟩ := h
    rfl
  · obtain ⟨v1, v2, p, q, x, y, rfl, ⟨a, rfl, ha⟩, ⟨b, rfl, hb⟩, sp, sq, sx, sy, k⟩ := h
    obtain ⟨p1, p2⟩ := p
    obtain ⟨q1, q2⟩ := q
    unfold SmallP at sp sq
    dsimp only at sp sq ha hb
    refine ⟨_, (pss_cons (ps_set (i := 4) scL_turn.nd rfl (.inl rfl) (pe_op op_sub (pe_op op_mul (pe_op op_sub (pe_ix (ix_seqQ rfl) (pv 1) pe_int (fun _ _ => rfl)) (pe_ix (ix_seqQ rfl) (pv 0) pe_int (fun _ _ => rfl))) (pe_op op_sub (pe_op op_add (pe_op op_mul pe_int (pv 3)) pe_int) (pe_op op_mul pe_int (pe_ix (ix_seqQ rfl) (pv 0) pe_int (fun _ _ => rfl))))) (pe_op op_mul (pe_op op_sub (pe_ix (ix_seqQ rfl) (pv 1) pe_int (fun _ _ => rfl)) (pe_ix (ix_seqQ rfl) (pv 0) pe_int (fun _ _ => rfl))) (pe_op op_sub (pe_op op_add (pe_op op_mul pe_int (pv 2)) pe_int) (pe_op op_mul pe_int (pe_ix (ix_seqQ rfl) (pv 0) pe_int (fun _ _ => rfl)))))))
      (pss_cons (ps_if (pt_cmpR op_eq (pv 4) pe_int (nomark _))
        (pss_one (ps_set (i := 4) scL_turn.nd rfl (.inl rfl) (pe_op op_sub (pe_ix (ix_seqQ rfl) (pv 0) pe_int (fun _ _ => rfl)) (pe_ix (ix_seqQ rfl) (pv 1) pe_int (fun _ _ => rfl)))))
        pss_nil)
      (pss_one (ps_ret (pe_op op_sub (pe_callTy call_int1 (by rfl) T.b_int (by decide +kernel) (pa_cons (pe_cmpR op_gt (pv 4) pe_int (nomark _)) pa_nil)) (pe_callTy call_int1 (by rfl) T.b_int (by decide +kernel) (pa_cons (pe_cmpR op_lt (pv 4) pe_int (nomark _)) pa_nil))))))), ?_⟩
    have a0 : ∀ {Q : VK}, Q (.int p1) H → rIx K (.ref a) (.int 0) H Q := fun q => ix_seqH (j := 0) ha rfl q
    have a1 : ∀ {Q : VK}, Q (.int p2) H → rIx K (.ref a) (.int 1) H Q := fun q => ix_seqH (j := 1) ha rfl q
    have b0 : ∀ {Q : VK}, Q (.int q1) H → rIx K (.ref b) (.int 0) H Q := fun q => ix_seqH (j := 0) hb rfl q
    have b1 : ∀ {Q : VK}, Q (.int q2) H → rIx K (.ref b) (.int 1) H Q := fun q => ix_seqH (j := 1) hb rfl q
    refine ⟨_, rfl, b0 ⟨_, rfl, a0 ⟨_, _, rfl, rfl, ?_⟩⟩⟩
    refine ⟨_, rfl, _, _, rfl, rfl, .inl (by decide), _, _, rfl, rfl, _, rfl, a1 ⟨_, _, rfl, rfl, .inl (by decide), _, _, rfl, rfl, ?_⟩⟩
    refine ⟨_, _, rfl, rfl, .inr ⟨by omega, by omega⟩, ?_⟩
    refine ⟨_, rfl, b1 ⟨_, rfl, a1 ⟨_, _, rfl, rfl, ?_⟩⟩⟩
    refine ⟨_, rfl, _, _, rfl, rfl, .inl (by decide), _, _, rfl, rfl, _, rfl, a0 ⟨_, _, rfl, rfl, .inl (by decide), _, _, rfl, rfl, ?_⟩⟩
    refine ⟨_, _, rfl, rfl, .inr ⟨by omega, by omega⟩, _, _, rfl, rfl, ?_⟩
    show tSeq _ _ _ (L2.start _ [V.ref a, V.ref b, V.int x, V.int y] |>.set 4 (some (V.int (ff x y (p1, p2) (q1, q2))))) H
    have fin : ∀ g : Int, g = gg x y (p1, p2) (q1, q2) → Q (.int ((if (decide (0 < g)) = true then 1 else 0) - (if (decide (g < 0)) = true then 1 else 0))) H := fun g e => by
      rw [e]
      unfold turn at k
      have e1 : ∀ (c : Prop) [Decidable c], (if (decide c) = true then (1 : Int) else 0) = if c then 1 else 0 := fun c _ => by
        by_cases h : c
        · rw [if_pos h, if_pos (decide_eq_true h)]
        · rw [if_neg h, if_neg (fun z => h (of_decide_eq_true z))]
      rw [e1, e1]
      exact k
    refine ⟨_, rfl, rfl, _, rfl, ite2 (fun h1 => ?_) (fun h1 => ?_)⟩
    · refine ⟨_, rfl, a1 ⟨_, rfl, b1 ⟨_, _, rfl, rfl, ?_⟩⟩⟩
      have h1 := V.int.inj (of_decide_eq_true h1)
      refine ⟨_, rfl, _, _, rfl, rfl, .inr ⟨_, rfl, _, rfl, _, _, rfl, rfl, .inr ⟨_, rfl, _, _, rfl, rfl, ?_⟩⟩⟩
      refine fin (p2 - q2) ?_
      unfold gg
      rw [if_pos h1]
    · have h1 : ¬ ff x y (p1, p2) (q1, q2) = 0 := fun z => h1 (decide_eq_true (by rw [z]))
      refine ⟨_, rfl, _, _, rfl, rfl, .inr ⟨_, rfl, _, rfl, _, _, rfl, rfl, .inr ⟨_, rfl, _, _, rfl, rfl, ?_⟩⟩⟩
      refine fin (ff x y (p1, p2) (q1, q2)) ?_
      unfold gg
      rw [if_neg h1]
/-! ### _law_winding -/
def triS (x y : Int) (l : List Pt) (n : Nat) : Int := ((List.range n).map fun k => tri x y (l.getD 0 (0, 0)) (l.getD (k + 1) (0, 0)) (l.getD (k + 2) (0, 0))).sum
theorem triS_succ (x y : Int) (l : List Pt) (n : Nat) : triS x y l (n + 1) = triS x y l n + tri x y (l.getD 0 (0, 0)) (l.getD (n + 1) (0, 0)) (l.getD (n + 2) (0, 0)) := by
  unfold triS
  rw [List.range_succ, List.map_append, List.sum_append]
  simp
theorem triS_all (x y : Int) (l : List Pt) : triS x y l (l.length - 2) = fan x y l := (fan_ix x y (0, 0) l).symm
theorem wind_snoc (x y : Int) (rs : List (List Pt)) (l : List Pt) : wind x y (rs ++ [l]) = wind x y rs + fan x y l := by
  unfold wind
  rw [List.map_append, List.sum_append]
  simp
theorem eqv_two (a b c d : Int) : PyData.eqv (.list [.int a, .int b]) (.list [.int c, .int d]) = decide (a = c ∧ b = d) := by
  simp only [PyData.eqv, PyData.eqvAll, Bool.and_true]
  rw [Bool.eq_iff_iff]
  simp
theorem shaped_two (a b : Int) : SeqAt.shaped (.list [.int a, .int b]) = true := by simp [SeqAt.shaped, PyData.canLay0, PyData.canLayAll0, PyData.depth, PyData.depthAll]
def spLWind : Sp := fun vs H Q _ => ∃ r xs rs x y, vs = [.ref r, .int x, .int y] ∧ H r = some (.lst xs) ∧ AllAt RingAt H xs rs ∧ GoodRs rs ∧ (-1000 ≤ x ∧ x ≤ 1000) ∧ (-1000 ≤ y ∧ y ≤ 1000) ∧ ∀ H', Same H H' → Q (.int (wind x y rs)) H'
abbrev sL_winding : Stmt := topS 20
theorem scL_winding : FnScope ["_law_rings_here", "_law_x", "_law_y", "_law_total", "_law_ring_here", "_law_k", "_law_turn_here", "_law_others"] ["_law_rings_here", "_law_x", "_law_y"] (defScope sL_winding) := ⟨rfl, rfl, rfl, by decide +kernel, rfl, by decide +kernel, by decide +kernel⟩
theorem ok_lwinding {f : Addr} {fd : FuncData} (F : Fun K "_law_winding" "_law_winding" sL_winding f fd) (T : Txt K mg) (C__law_turn : CallOk P w K mg base 1 "_law_turn" ["_law_start", "_law_stop", "_law_x", "_law_y"] spTurn) : FnOk P w K mg base CX0 2 f fd ["_law_rings_here", "_law_x", "_law_y"] spLWind := by
  refine F.ok scL_winding (fun vs H Q E h => ?_) (fun cdv A outer s H vs Q E hr h => ?_)
  · obtain ⟨r, xs, rs, x, y, rfl, _⟩ := h
    rfl
  · obtain ⟨r, xs, rs, x, y, rfl, h0, hxs, ⟨hn, hgood⟩, sx, sy, k⟩ := h
    refine ⟨_, (pss_cons (ps_set (i := 3) scL_winding.nd rfl (.inl rfl) pe_int)
      (pss_cons (ps_for PassesOwn.never rfl (pi_list (pv 0)) (pg_name (i := 4) scL_winding.nd rfl (.inl rfl))
        (pss_one (ps_for PassesOwn.never rfl (pi_range2 (by rfl) T.b_range (pa_cons pe_int (pa_cons (pe_op op_sub (pe_callB (r := rLenQ K) (id := "len") (call_lenQ (K := K) rfl) (by rfl) T.b_len PySem.boot_len (pa_cons (pv 4) pa_nil)) pe_int) pa_nil))) (pg_name (i := 5) scL_winding.nd rfl (.inl rfl))
          (pss_cons (ps_set (i := 6) scL_winding.nd rfl (.inl rfl) (pe_cc C__law_turn (hr.mono (by decide)) (by rfl) (pa_cons (pe_ix (ix_seqQ (K := K) rfl) (pv 4) pe_int (fun _ _ => rfl)) (pa_cons (pe_ix (ix_seqQ (K := K) rfl) (pv 4) (pv 5) (fun _ _ => rfl)) (pa_cons (pv 1) (pa_cons (pv 2) pa_nil))))))
          (pss_cons (ps_set (i := 7) scL_winding.nd rfl (.inl rfl) (pe_lst (pa_cons (pe_cc C__law_turn (hr.mono (by decide)) (by rfl) (pa_cons (pe_ix (ix_seqQ (K := K) rfl) (pv 4) (pv 5) (fun _ _ => rfl)) (pa_cons (pe_ix (ix_seqQ (K := K) rfl) (pv 4) (pe_op op_add (pv 5) pe_int) (fun _ _ => rfl)) (pa_cons (pv 1) (pa_cons (pv 2) pa_nil))))) (pa_cons (pe_cc C__law_turn (hr.mono (by decide)) (by rfl) (pa_cons (pe_ix (ix_seqQ (K := K) rfl) (pv 4) (pe_op op_add (pv 5) pe_int) (fun _ _ => rfl)) (pa_cons (pe_ix (ix_seqQ (K := K) rfl) (pv 4) pe_int (fun _ _ => rfl)) (pa_cons (pv 1) (pa_cons (pv 2) pa_nil))))) pa_nil))))
          (pss_one (ps_if (pt_cmpR (op_eqD hr.units) (pv 7) (pe_lst (pa_cons (pv 6) (pa_cons (pv 6) pa_nil))) (nomark _))
            (pss_one (ps_aug (i := 3) scL_winding.nd rfl (.inl rfl) (pv 6) ip_add))
            pss_nil)))))))
      (pss_one (ps_ret (pv 3))))), ?_⟩
    have hlen : xs.length = rs.length := hxs.len
    refine ⟨_, rfl, r, rfl, ⟨_, SqL.of h0⟩, for_list (K := K) (a := r) (xs := xs) (fun i σ H' => ∃ (y4 y5 y6 y7 : Option V), σ = [some (.ref r), some (.int x), some (.int y), some (.int (wind x y (rs.take i))), y4, y5, y6, y7] ∧ Same H H')
      ⟨none, none, none, none, rfl, Same.refl H⟩ (fun i σ H' _ ⟨_, _, _, _, _, s1⟩ => SqL.of (s1 _ _ h0)) ?_ ?_⟩
    · rintro i u σ H' hu ⟨y4, y5, y6, y7, rfl, s1⟩
      obtain ⟨ps, hps, hra⟩ := hxs.at hu
      obtain ⟨a, cs, rfl, ha0, hcs⟩ := hra
      have hpm : ps ∈ rs := List.mem_of_getElem? hps
      obtain ⟨g1, g2⟩ := hgood ps hpm
      have etk : rs.take (i + 1) = rs.take i ++ [ps] := by rw [List.take_add_one, hps]; rfl
      have hcl : cs.length = ps.length := hcs.len
      rw [etk, wind_snoc]
      generalize wind x y (rs.take i) = tot
      have ha1 : SeqH H' a cs := ha0.mono fun o => s1 _ o
      refine ⟨_, rfl, a, _, rfl, ha1.sq, _, _, rfl, rfl, ?_⟩
      have en : ((cs.length : Int) - 1 - 1).toNat = ps.length - 2 := by omega
      refine ⟨_, _, rfl, ⟨by decide, by decide, by omega, by omega⟩, ?_⟩
      rw [en]
      refine for_range (lo := 1) (n := ps.length - 2) (fun j σ H2 => ∃ (y5 y6 y7 : Option V), σ = [some (.ref r), some (.int x), some (.int y), some (.int (tot + triS x y ps j)), some (.ref a), y5, y6, y7] ∧ Same H H2)
        ⟨y5, y6, y7, by rw [show triS x y ps 0 = 0 from rfl, Int.add_zero]; rfl, s1⟩ ?_ ?_
      · rintro j σ H2 hj ⟨z5, z6, z7, rfl, s2⟩
        have ha2 : SeqH H2 a cs := ha0.mono fun o => s2 _ o
        have hc2 : AllAt CornerAt H2 cs ps := hcs.mono fun _ _ => CornerAt.mono s2
        obtain ⟨p0, hp0⟩ : ∃ p, ps[0]? = some p := ⟨_, List.getElem?_eq_getElem (by omega)⟩
        obtain ⟨p1, hp1⟩ : ∃ p, ps[j + 1]? = some p := ⟨_, List.getElem?_eq_getElem (by omega)⟩
        obtain ⟨p2, hp2⟩ : ∃ p, ps[j + 2]? = some p := ⟨_, List.getElem?_eq_getElem (by omega)⟩
        obtain ⟨u0, hu0, c0⟩ := hc2.to hp0
        obtain ⟨u1, hu1, c1⟩ := hc2.to hp1
        obtain ⟨u2, hu2, c2⟩ := hc2.to hp2
        have q0 := g2 p0 (List.mem_of_getElem? hp0)
        have q1 := g2 p1 (List.mem_of_getElem? hp1)
        have q2 := g2 p2 (List.mem_of_getElem? hp2)
        have et : triS x y ps (j + 1) = triS x y ps j + tri x y p0 p1 p2 := by
          rw [triS_succ, List.getD_eq_getElem?_getD, List.getD_eq_getElem?_getD, List.getD_eq_getElem?_getD, hp0, hp1, hp2]
          rfl
        have e1 : (1 : Int) + (j : Int) = ((j + 1 : Nat) : Int) := by omega
        have e2 : (1 : Int) + (j : Int) + 1 = ((j + 2 : Nat) : Int) := by omega
        rw [et]
        refine ⟨_, rfl, ix_seqH (j := 0) ha2 hu0 ⟨_, rfl, _, rfl, ix_seqI ha2 e1 hu1 ⟨_, rfl, _, rfl, ?_⟩⟩⟩
        refine ⟨_, _, p0, p1, x, y, rfl, c0, c1, q0, q1, sx, sy, ?_⟩
        refine ⟨_, rfl, _, rfl, ix_seqI ha2 e1 hu1 ⟨_, rfl, _, rfl, _, _, rfl, rfl, ix_seqI ha2 e2 hu2 ⟨_, rfl, _, rfl, ?_⟩⟩⟩
        refine ⟨_, _, p1, p2, x, y, rfl, c1, c2, q1, q2, sx, sy, ?_⟩
        refine ⟨_, rfl, _, rfl, _, _, rfl, rfl, ix_seqI ha2 e2 hu2 ⟨_, rfl, ix_seqH (j := 0) ha2 hu0 ⟨_, rfl, _, rfl, ?_⟩⟩⟩
        refine ⟨_, _, p2, p0, x, y, rfl, c2, c0, q2, q0, sx, sy, ?_⟩
        refine ⟨by show 2 ≤ sizeLine; decide, fun l hl => ?_⟩
        have s3 := s2.trans (same_new (o := .lst [.int (turn x y p1 p2), .int (turn x y p2 p0)]) hl)
        refine ⟨_, rfl, _, rfl, _, rfl, by show 2 ≤ sizeLine; decide, fun l2 hl2 => ?_⟩
        have s4 := s3.trans (same_new (o := .lst [.int (turn x y p0 p1), .int (turn x y p0 p1)]) hl2)
        refine ⟨_, _, Dp.lst (SqL.of (same_new hl2 _ _ upd_same)) (.cons (.int _) (.cons (.int _) .nil)), Dp.lst (SqL.of upd_same) (.cons (.int _) (.cons (.int _) .nil)), shaped_two _ _, shaped_two _ _, _, rfl, ite2 (fun h1 => ?_) (fun h1 => ?_)⟩
        · rw [eqv_two] at h1
          have h1 := of_decide_eq_true h1
          have e5 : tri x y p0 p1 p2 = turn x y p0 p1 := by unfold tri; rw [if_pos h1]
          rw [e5, ← Int.add_assoc]
          exact ⟨_, rfl, _, rfl, _, _, rfl, rfl, _, _, _, rfl, s4⟩
        · rw [eqv_two] at h1
          have h1 := fun z => h1 (decide_eq_true z)
          have e5 : tri x y p0 p1 p2 = 0 := by unfold tri; rw [if_neg h1]
          rw [e5, Int.add_zero]
          exact ⟨_, _, _, rfl, s4⟩
      · rintro σ H2 ⟨z5, z6, z7, rfl, s2⟩
        rw [triS_all]
        exact ⟨_, _, _, _, rfl, s2⟩
    · rintro σ H' ⟨y4, y5, y6, y7, rfl, s1⟩
      rw [hlen, List.take_of_length_le (Nat.le_refl _)]
      exact ⟨_, rfl, k H' s1⟩
end
end Pa
set_option maxRecDepth 100000
set_option maxHeartbeats 4000000
namespace Pa
open PySem PySem.Spec PyProof.Rows L2 Win
/-- a corner as a tuple; a ring as a list of such; a list of such rings -/
def ptV (p : Pt) : List V := [.int p.1, .int p.2]
def CornT (H : Hp) (v : V) (p : Pt) : Prop := TupAt H v (ptV p)
def RingL (H : Hp) (v : V) (ps : List Pt) : Prop := ∃ r xs, v = .ref r ∧ H r = some (.lst xs) ∧ AllAt CornT H xs ps
theorem CornT.at {H : Hp} {v : V} {p : Pt} (h : CornT H v p) : CornerAt H v p := by
  obtain ⟨t, e, q⟩ := h
  exact ⟨t, e, .inr q⟩
theorem CornT.mono {H H' : Hp} (s : Same H H') {v : V} {p : Pt} (h : CornT H v p) : CornT H' v p := TupAt.mono (Tups.of s) h
theorem AllAt.imp {α : Type} {R S : Hp → V → α → Prop} {H H' : Hp} : ∀ {xs : List V} {ys : List α}, (∀ x y, R H x y → S H' x y) → AllAt R H xs ys → AllAt S H' xs ys
  | [], [], _, _ => trivial
  | _ :: _, _ :: _, f, h => ⟨f _ _ h.1, AllAt.imp f h.2⟩
  | [], _ :: _, _, h => h.elim
  | _ :: _, [], _, h => h.elim
theorem RingL.at {H : Hp} {v : V} {ps : List Pt} (h : RingL H v ps) : RingAt H v ps := by
  obtain ⟨t, xs, e, q, a⟩ := h
  exact ⟨t, xs, e, .inl q, a.imp fun _ _ => CornT.at⟩
theorem RingL.mono {H H' : Hp} (s : Same H H') {v : V} {ps : List Pt} (h : RingL H v ps) : RingL H' v ps := by
  obtain ⟨t, xs, e, q, a⟩ := h
  exact ⟨t, xs, e, s _ _ q, a.mono fun _ _ => CornT.mono s⟩
def Cell (p : Pt) : Prop := (0 ≤ p.1 ∧ p.1 ≤ 4) ∧ (0 ≤ p.2 ∧ p.2 ≤ 4)
def Ring8 (ps : List Pt) : Prop := (3 ≤ ps.length ∧ ps.length ≤ 8) ∧ ∀ p ∈ ps, Cell p
theorem last_ints {zs : List Int} (h : 1 ≤ zs.length) : ∃ l, l ∈ zs ∧ atI (zs.map V.int) (-1) = some (.int l) := by
  rcases List.eq_nil_or_concat zs with rfl | ⟨i, l, rfl⟩
  · cases h
  · refine ⟨l, by simp, ?_⟩
    rw [List.concat_eq_append, List.map_append]
    exact atI_last _ _
theorem first_ints {zs : List Int} (h : 1 ≤ zs.length) : ∃ l, l ∈ zs ∧ atI (zs.map V.int) 0 = some (.int l) := by
  cases zs with
  | nil => cases h
  | cons z t => exact ⟨z, List.mem_cons_self, atI_nat (j := 0) rfl⟩
theorem atI_intsM {ns : List Int} {i : Int} (h0 : 0 ≤ i) (h : i < (ns.length : Int)) : ∃ z : Int, z ∈ ns ∧ atI (ns.map V.int) i = some (.int z) := by
  obtain ⟨n, rfl⟩ : ∃ n : Nat, i = (n : Int) := ⟨i.toNat, by omega⟩
  have hn : n < ns.length := by omega
  exact ⟨ns[n], List.getElem_mem hn, atI_nat (j := n) (by rw [List.getElem?_map, List.getElem?_eq_getElem hn]; rfl)⟩
def spotP (z : Int) : Pt := (z / 5, z - z / 5 * 5)
theorem Bk.putN {b p : Addr} {H H' : Hp} {o : HO} (x : Bk b H H') (hb : IsBag H b) (h : H p = none) : Bk b H (upd H' p o) := by
  have npb : b ≠ p := fun e => by
    obtain ⟨g, y, c, e2⟩ := hb
    rw [← e, e2] at h
    cases h
  obtain ⟨⟨g, y, c, e⟩, kp⟩ := x
  exact ⟨⟨g, y, c, by rw [upd_ne npb]; exact e⟩, fun q u hq eq => by rw [upd_ne (ne_of_none eq h)]; exact kp q u hq eq⟩
theorem Bk.refl {b : Addr} {H : Hp} (hb : IsBag H b) : Bk b H H := ⟨hb, fun _ _ _ e => e⟩
theorem Bk.cornT {b : Addr} {H H' : Hp} (hb : IsBag H b) (x : Bk b H H') {v : V} {p : Pt} (h : CornT H v p) : CornT H' v p := by
  obtain ⟨t, e, q⟩ := h
  refine ⟨t, e, x.keep _ _ (fun z => ?_) q⟩
  obtain ⟨g, y, c, e2⟩ := hb
  rw [z, e2] at q
  cases q
theorem bag_ne {H : Hp} {b p : Addr} (hb : IsBag H b) (h : H p = none) : p ≠ b := fun e => by
  obtain ⟨g, y, c, e2⟩ := hb
  rw [e, e2] at h
  cases h
theorem in_two' (a b c : Int) : inV (.int a) [V.int b, V.int c] = decide (b = a ∨ c = a) := by
  have e : inV (.int a) [V.int b, V.int c] = ((b == a) || ((c == a) || false)) := rfl
  rw [e, Bool.or_false, Bool.eq_iff_iff]
  simp
section
variable {P : Program} {w : World} {K : PySem.W.Frag} {mg : Str → Option Value} {base : Heap}
/-! ### _law_ring -/
def spLRing : Sp := fun vs H Q _ => ∃ (b : Addr) (m : Int), vs = [.ref b, .int m] ∧ IsBag H b ∧ 3 ≤ m ∧ m ≤ 8 ∧ ∀ (p : Addr) (H' : Hp) (xs : List V) (ps : List Pt), H p = none → Bk b H H' → H' p = some (.lst xs) → AllAt CornT H' xs ps → Ring8 ps → Q (.ref p) H'
abbrev sL_ring : Stmt := topS 17
theorem scL_ring : FnScope ["_law_bag_here", "_law_many", "_law_spots", "_law_turn_here", "_law_left", "_law_spot"] ["_law_bag_here", "_law_many"] (defScope sL_ring) := ⟨rfl, rfl, rfl, by decide +kernel, rfl, by decide +kernel, by decide +kernel⟩
theorem ok_lring {f : Addr} {fd : FuncData} (F : Fun K "_law_ring" "_law_ring" sL_ring f fd) (T : Txt K mg) (C__law_draw : CallOk P w K mg base 1 "_law_draw" ["_law_bag_here", "_law_many"] spDraw) : FnOk P w K mg base CX0 2 f fd ["_law_bag_here", "_law_many"] spLRing := by
  refine F.ok scL_ring (fun vs H Q E h => ?_) (fun cdv A outer s H vs Q E hr h => ?_)
  · obtain ⟨b, m, rfl, _⟩ := h
    rfl
  · obtain ⟨b, m, rfl, hb, hm1, hm2, k⟩ := h
    refine ⟨_, (pss_cons (ps_set (i := 2) scL_ring.nd rfl (.inr rfl) (pe_lst (pa_cons (pe_cc C__law_draw (hr.mono (by decide)) (by rfl) (pa_cons (pv 0) (pa_cons pe_int pa_nil))) pa_nil)))
      (pss_cons (ps_for PassesOwn.never rfl (pi_range1 (by rfl) T.b_range (pa_cons (pe_op op_sub (pv 1) pe_int) pa_nil)) (pg_name (i := 3) scL_ring.nd rfl (.inl rfl))
        (pss_one (ps_expr (pe_bm PySem.F.plainAttrs_list PySem.F.slot_list_append PySem.F.type_list_append mt_append (pv 2) (pa_cons (pe_op op_mod (pe_callTy call_int1 (by rfl) T.b_int (by decide +kernel) (pa_cons (pe_op op_add (pe_op op_add (pe_ix ix_list (pv 2) (pe_un un_neg pe_int) (fun _ _ => rfl)) pe_int) (pe_cc C__law_draw (hr.mono (by decide)) (by rfl) (pa_cons (pv 0) (pa_cons pe_int pa_nil)))) pa_nil)) pe_int) pa_nil)))))
      (pss_cons (ps_setLc (i := 4) (own := [("_law_spot", 5)]) (g := gName 5) (tt := tTest (tOp (rIn K true) (tVar 5) (tLst (tCons (tOp (rIxL K) (tVar 2) (tUn (rU fun i => .int (-i)) (tC (.int 1)))) (tCons (tOp (rIxL K) (tVar 2) (tC (.int 0))) tNil))))) (te := tVar 5) rfl scL_ring.nd rfl rfl (sw_true rfl rfl rfl (by decide +kernel)) (pi_range1 (by rfl) T.b_range (pa_cons pe_int pa_nil)) (blkOk_by (N := ["_law_bag_here", "_law_many", "_law_spots", "_law_turn_here", "_law_left", "_law_spot"]) (sc := defScope sL_ring) (by decide +kernel)) (fun _ _ _ _ _ => (pg_name (i := 5) scL_ring.nd rfl (.inl rfl))) (fun _ _ _ _ _ => (pts_one (pt_cmpR op_notIn_seq (pv 5) (pe_lst (pa_cons (pe_ix ix_list (pv 2) (pe_un un_neg pe_int) (fun _ _ => rfl)) (pa_cons (pe_ix ix_list (pv 2) pe_int (fun _ _ => rfl)) pa_nil))) (by rfl)))) (fun _ _ _ _ _ => (pv 5)))
      (pss_cons (ps_expr (pe_bm PySem.F.plainAttrs_list PySem.F.slot_list_append PySem.F.type_list_append mt_append (pv 2) (pa_cons (pe_ix ix_list (pv 4) (pe_cc C__law_draw (hr.mono (by decide)) (by rfl) (pa_cons (pv 0) (pa_cons (pe_callB (r := rLenQ K) (id := "len") (call_lenQ (K := K) rfl) (by rfl) T.b_len PySem.boot_len (pa_cons (pv 4) pa_nil)) pa_nil))) (fun _ _ => rfl)) pa_nil)))
      (pss_one (ps_ret (pe_lc (own := [("_law_spot", 5)]) (g := gName 5) (tt := tYes) (te := tTup (tCons (tOp (rI CDiv fun i j => .int (i / j)) (tVar 5) (tC (.int 5))) (tCons (tOp (rI0 fun i j => .int (i - j)) (tVar 5) (tOp (rI CMul fun i j => .int (i * j)) (tOp (rI CDiv fun i j => .int (i / j)) (tVar 5) (tC (.int 5))) (tC (.int 5)))) tNil))) rfl scL_ring.nd (pi_list (pv 2)) (blkOk_by (N := ["_law_bag_here", "_law_many", "_law_spots", "_law_turn_here", "_law_left", "_law_spot"]) (sc := defScope sL_ring) (by decide +kernel)) (fun _ _ _ _ _ => (pg_name (i := 5) scL_ring.nd rfl (.inl rfl))) (fun _ _ _ _ _ => pts_nil) (fun _ _ _ _ _ => (pe_tup (pa_cons (pe_op op_fdiv (pv 5) pe_int) (pa_cons (pe_op op_sub (pv 5) (pe_op op_mul (pe_op op_fdiv (pv 5) pe_int) pe_int)) pa_nil))))))))))), ?_⟩
    refine ⟨_, rfl, b, 25, rfl, hb, by decide, by decide, fun d H1 d0 d1 B1 => ⟨by show 1 ≤ sizeLine; decide, fun q hq => ?_⟩⟩
    have hqH : H q = none := B1.free hb hq
    have nqb : q ≠ b := bag_ne hb hqH
    have keepq : ∀ {H2 H3 : Hp} {o : HO}, Bk b H2 H3 → H2 q = some o → H3 q = some o := fun B e => B.keep q _ nqb e
    refine ⟨_, rfl, _, _, rfl, rfl, ?_⟩
    refine ⟨_, rfl, by omega, by omega, for_range (lo := 0) (n := (m - 2).toNat) (fun i σ H2 => ∃ (y3 : Option V) (zs : List Int), σ = [some (.ref b), some (.int m), some (.ref q), y3, none, none] ∧ Bk b H H2 ∧ H2 q = some (.lst (zs.map V.int)) ∧ zs.length = i + 1 ∧ ∀ z ∈ zs, 0 ≤ z ∧ z < 25)
      ⟨none, [d], rfl, (B1.fresh hq), upd_same, rfl, fun z hz => by rw [List.mem_singleton] at hz; omega⟩ ?_ ?_⟩
    · rintro i σ H2 hi ⟨y3, zs, rfl, B2, hz, hzl, hzb⟩
      obtain ⟨l, hl, hat⟩ := last_ints (zs := zs) (by omega)
      refine ⟨_, rfl, .inl ⟨rfl, _, SqL.of hz⟩, _, rfl, 1, rfl, q, _, _, _, rfl, rfl, SqL.of hz, hat, _, _, rfl, rfl, ?_⟩
      refine ⟨_, rfl, b, 24, rfl, B2.bag, by decide, by decide, fun e H3 e0 e1 B3 => ?_⟩
      refine ⟨_, _, rfl, rfl, .inl ⟨_, rfl, _, _, rfl, rfl, (by show (0 : Int) < 25; decide), ?_⟩⟩
      have hz3 := keepq B3 hz
      refine ⟨q, _, _, rfl, rfl, hz3, by rw [List.length_map]; exact Nat.lt_of_le_of_lt (m := 100) (by omega) (by decide), ?_⟩
      refine ⟨_, zs ++ [(l + 1 + e) % 25], rfl, (B2.trans B3).putN hb hqH, by rw [upd_same, List.map_append]; rfl, by rw [List.length_append, hzl]; rfl, fun z hz => ?_⟩
      rcases List.mem_append.mp hz with hz | hz
      · exact hzb z hz
      · rw [List.mem_singleton] at hz
        omega
    · rintro σ H2 ⟨y3, zs, rfl, B2, hz, hzl, hzb⟩
      obtain ⟨l, hl, hat⟩ := last_ints (zs := zs) (by omega)
      obtain ⟨f0, hf, hft⟩ := first_ints (zs := zs) (by omega)
      have bl := hzb l hl
      have bf := hzb f0 hf
      refine ⟨_, rfl, by omega, by omega, fun D hD => ?_⟩
      have hDH : H D = none := B2.free hb hD
      have nDb : D ≠ b := bag_ne hb hDH
      have nDq : q ≠ D := fun z => by rw [← z, hz] at hD; cases hD
      refine lc_range (lo := 0) (n := (25 : Int).toNat) (fun i H3 => ∃ acc : List Int, H3 D = some (.lst (acc.map V.int)) ∧ Bk b H H3 ∧ H3 q = some (.lst (zs.map V.int)) ∧ (∀ z ∈ acc, 0 ≤ z ∧ z < 25) ∧ acc.length ≤ i ∧ (i : Int) - (if l < i then 1 else 0) - (if f0 < i then 1 else 0) ≤ acc.length)
        ⟨[], upd_same, B2.putN hb hDH, by rw [upd_ne nDq]; exact hz, fun z hz => (List.not_mem_nil hz).elim, Nat.zero_le _, by show (0 : Int) - _ - _ ≤ 0; split <;> split <;> omega⟩ ?_ ?_
      · rintro i H3 hi ⟨acc, hacc, B3, hq3, hab, hal, hac⟩
        refine ⟨rfl, ?_⟩
        refine ⟨_, rfl, _, rfl, 1, rfl, q, _, _, _, rfl, rfl, SqL.of hq3, hat, _, rfl, q, _, _, _, rfl, rfl, SqL.of hq3, hft, by show 2 ≤ sizeLine; decide, fun u hu => ?_⟩
        have nuD : D ≠ u := fun z => by rw [← z, hacc] at hu; cases hu
        have nuq : q ≠ u := fun z => by rw [← z, hq3] at hu; cases hu
        refine ⟨u, _, rfl, .inl (SqL.of upd_same), rfl, rfl, _, rfl, ite2 (fun h1 => ?_) (fun h1 => ?_)⟩
        all_goals rw [if_pos rfl, in_two'] at h1
        · have h1 : ¬ (l = 0 + (i : Int) ∨ f0 = 0 + (i : Int)) := fun z => by rw [decide_eq_true z] at h1; cases h1
          refine ⟨_, rfl, acc.map V.int, by rw [upd_ne nuD]; exact hacc, by rw [List.length_map]; exact Nat.lt_of_le_of_lt (m := 100) (by omega) (by decide), ?_⟩
          refine ⟨acc ++ [0 + (i : Int)], by rw [upd_same, List.map_append]; rfl, (B3.fresh hu).putN hb hDH, by rw [upd_ne nDq, upd_ne nuq]; exact hq3, fun z hz => ?_, by rw [List.length_append]; show acc.length + 1 ≤ _; omega, ?_⟩
          · rcases List.mem_append.mp hz with hz | hz
            · exact hab z hz
            · rw [List.mem_singleton] at hz
              omega
          · rw [List.length_append]
            show ((i + 1 : Nat) : Int) - _ - _ ≤ ((acc.length + 1 : Nat) : Int)
            split at hac <;> split at hac <;> split <;> split <;> omega
        · have h1 : l = 0 + (i : Int) ∨ f0 = 0 + (i : Int) := by
            rcases Decidable.em (l = 0 + (i : Int) ∨ f0 = 0 + (i : Int)) with z | z
            · exact z
            · rw [decide_eq_false z] at h1
              exact absurd rfl h1
          refine ⟨acc, by rw [upd_ne nuD]; exact hacc, B3.fresh hu, by rw [upd_ne nuq]; exact hq3, hab, by omega, ?_⟩
          split at hac <;> split at hac <;> split <;> split <;> omega
      · rintro H3 ⟨acc, hacc, B3, hq3, hab, hal, hac⟩
        have hn0 : 1 ≤ acc.length := by split at hac <;> split at hac <;> omega
        have hn1 : acc.length ≤ 25 := hal
        refine ⟨_, rfl, .inl ⟨rfl, _, SqL.of hq3⟩, _, rfl, _, rfl, _, rfl, D, _, rfl, .inl (SqL.of hacc), ?_⟩
        refine ⟨b, _, rfl, B3.bag, by rw [List.length_map]; omega, by rw [List.length_map]; exact Int.lt_of_le_of_lt (b := 100) (by omega) (by decide), fun e H4 e0 e1 B4 => ?_⟩
        rw [List.length_map] at e1
        have hacc4 := B4.keep D _ nDb hacc
        have hq4 := keepq B4 hq3
        obtain ⟨z, hzm, hz4⟩ := atI_intsM (ns := acc) e0 e1
        have bz := hab z hzm
        refine ⟨D, _, _, _, rfl, rfl, SqL.of hacc4, hz4, ?_⟩
        refine ⟨q, _, _, rfl, rfl, hq4, by rw [List.length_map]; exact Nat.lt_of_le_of_lt (m := 100) (by omega) (by decide), ?_⟩
        have BB := ((B3.trans B4).putN hb hqH (o := .lst (zs.map V.int ++ [V.int z])))
        have hq5 : (upd H4 q (.lst (zs.map V.int ++ [V.int z]))) q = some (.lst ((zs ++ [z]).map V.int)) := by rw [upd_same, List.map_append]; rfl
        have hb5 : ∀ y ∈ zs ++ [z], 0 ≤ y ∧ y < 25 := fun y hy => by
          rcases List.mem_append.mp hy with hy | hy
          · exact hzb y hy
          · rw [List.mem_singleton] at hy
            omega
        have hl5 : (zs ++ [z]).length = (m - 2).toNat + 2 := by rw [List.length_append, hzl]; rfl
        revert BB hq5 hb5 hl5
        generalize zs ++ [z] = ys
        generalize upd H4 q (.lst (zs.map V.int ++ [V.int z])) = H5
        intro BB hq5 hb5 hl5
        refine ⟨_, rfl, q, rfl, ⟨_, SqL.of hq5⟩, fun G hG => ?_⟩
        have hGH : H G = none := BB.free hb hG
        have nGq : q ≠ G := fun z => by rw [← z, hq5] at hG; cases hG
        refine lc_list (K := K) (a := q) (xs := ys.map V.int) (fun i H6 => ∃ ls, H6 G = some (.lst ls) ∧ AllAt CornT H6 ls ((ys.take i).map spotP) ∧ Bk b H H6 ∧ H6 q = some (.lst (ys.map V.int)))
          ⟨[], upd_same, trivial, BB.putN hb hGH, by rw [upd_ne nGq]; exact hq5⟩ (fun i H6 _ ⟨_, _, _, _, h6⟩ => SqL.of h6) ?_ ?_
        · rintro i x H6 hx ⟨ls, hls, hall, B6, hq6⟩
          rw [List.getElem?_map] at hx
          cases hy : ys[i]? with
          | none => rw [hy] at hx; cases hx
          | some y =>
            rw [hy] at hx
            cases hx
            have by0 := hb5 y (List.mem_of_getElem? hy)
            have hlen : ls.length ≤ 100 := by
              rw [hall.len, List.length_map, List.length_take]
              omega
            refine ⟨rfl, _, rfl, _, _, rfl, rfl, ⟨by decide, by decide⟩, _, rfl, _, rfl, _, _, rfl, rfl, ⟨by decide, by decide⟩, _, _, rfl, rfl, .inr ⟨by decide, by decide⟩, _, _, rfl, rfl, by show 2 ≤ sizeLine; decide, fun p hp => ?_⟩
            obtain ⟨p1, p2, p3, p4⟩ := all_push (f := ptV) (y := spotP y) (tv := [.int (y / 5), .int (y - y / 5 * 5)]) hls hall hp rfl
            refine ⟨ls, p3, Nat.lt_of_le_of_lt hlen (by decide), _, p1, ?_, (B6.fresh hp).putN hb hGH, p4 _ _ nGq hq6⟩
            rw [List.take_add_one, hy, List.map_append]
            exact p2
        · rintro H6 ⟨ls, hls, hall, B6, hq6⟩
          rw [List.length_map, List.take_of_length_le (Nat.le_refl _)] at hall
          refine k G H6 ls _ hGH B6 hls hall ⟨?_, ?_⟩
          · rw [List.length_map]
            omega
          · rintro p hp
            obtain ⟨y, hy, rfl⟩ := List.mem_map.mp hp
            have := hb5 y hy
            unfold spotP Cell
            dsimp only
            omega
/-! ### _law_rings -/
def spLRings : Sp := fun vs H Q _ => ∃ (b : Addr), vs = [.ref b] ∧ IsBag H b ∧ ∀ (p : Addr) (H' : Hp) (xs : List V) (rs : List (List Pt)), H p = none → Bk b H H' → H' p = some (.lst xs) → AllAt RingL H' xs rs → rs.length ≤ 3 → (∀ ps ∈ rs, Ring8 ps) → Q (.ref p) H'
abbrev sL_rings : Stmt := topS 18
theorem scL_rings : FnScope ["_law_bag_here", "_law_found", "_law_turn_here"] ["_law_bag_here"] (defScope sL_rings) := ⟨rfl, rfl, rfl, by decide +kernel, rfl, by decide +kernel, by decide +kernel⟩
theorem Bk.ringL {b : Addr} {H H' : Hp} (hb : IsBag H b) (x : Bk b H H') {v : V} {ps : List Pt} (h : RingL H v ps) : RingL H' v ps ∨ v = .ref b := by
  obtain ⟨r, xs, e, q, a⟩ := h
  by_cases z : r = b
  · exact .inr (by rw [e, z])
  · exact .inl ⟨r, xs, e, x.keep _ _ z q, a.imp fun _ _ => x.cornT hb⟩
theorem ok_lrings {f : Addr} {fd : FuncData} (F : Fun K "_law_rings" "_law_rings" sL_rings f fd) (T : Txt K mg) (C__law_draw : CallOk P w K mg base 1 "_law_draw" ["_law_bag_here", "_law_many"] spDraw) (C__law_ring : CallOk P w K mg base 2 "_law_ring" ["_law_bag_here", "_law_many"] spLRing) : FnOk P w K mg base CX0 3 f fd ["_law_bag_here"] spLRings := by
  refine F.ok scL_rings (fun vs H Q E h => ?_) (fun cdv A outer s H vs Q E hr h => ?_)
  · obtain ⟨b, rfl, _⟩ := h
    rfl
  · obtain ⟨b, rfl, hb, k⟩ := h
    refine ⟨_, (pss_cons (ps_set (i := 1) scL_rings.nd rfl (.inl rfl) (pe_lst pa_nil))
      (pss_cons (ps_for PassesOwn.never rfl (pi_range1 (by rfl) T.b_range (pa_cons (pe_op op_add pe_int (pe_cc C__law_draw (hr.mono (by decide)) (by rfl) (pa_cons (pv 0) (pa_cons pe_int pa_nil)))) pa_nil)) (pg_name (i := 2) scL_rings.nd rfl (.inl rfl))
        (pss_one (ps_expr (pe_bm PySem.F.plainAttrs_list PySem.F.slot_list_append PySem.F.type_list_append mt_append (pv 1) (pa_cons (pe_cc C__law_ring (hr.mono (by decide)) (by rfl) (pa_cons (pv 0) (pa_cons (pe_op op_add pe_int (pe_cc C__law_draw (hr.mono (by decide)) (by rfl) (pa_cons (pv 0) (pa_cons pe_int pa_nil)))) pa_nil))) pa_nil)))))
      (pss_one (ps_ret (pv 1))))), ?_⟩
    refine ⟨by show 0 ≤ sizeLine; decide, fun q hq => ?_⟩
    have nqb : q ≠ b := bag_ne hb hq
    have B0 : Bk b H (upd H q (.lst [])) := (Bk.refl hb).putN hb hq
    refine ⟨_, rfl, b, 3, rfl, B0.bag, by decide, by decide, fun d H1 d0 d1 B1 => ?_⟩
    refine ⟨_, _, rfl, rfl, _, rfl, by omega, by omega, for_range (lo := 0) (n := (1 + d).toNat) (fun i σ H2 => ∃ (y2 : Option V) (ls : List V) (rs : List (List Pt)), σ = [some (.ref b), some (.ref q), y2] ∧ Bk b H H2 ∧ H2 q = some (.lst ls) ∧ AllAt (fun H v ps => RingL H v ps ∧ v ≠ .ref b ∧ v ≠ .ref q) H2 ls rs ∧ rs.length = i ∧ ∀ ps ∈ rs, Ring8 ps)
      ⟨none, [], [], rfl, B0.trans B1, B1.keep _ _ nqb upd_same, trivial, rfl, fun z hz => (List.not_mem_nil hz).elim⟩ ?_ ?_⟩
    · rintro i σ H2 hi ⟨y2, ls, rs, rfl, B2, hls, hall, hrl, hr8⟩
      refine ⟨_, rfl, .inl ⟨rfl, _, SqL.of hls⟩, _, rfl, _, rfl, b, 6, rfl, B2.bag, by decide, by decide, fun e H3 e0 e1 B3 => ?_⟩
      refine ⟨_, _, rfl, rfl, b, 3 + e, rfl, B3.bag, by omega, by omega, fun p H4 xs ps hp B4 hx hps h8 => ?_⟩
      have B5 := B3.trans B4
      have hp2 : H2 p = none := B3.free B2.bag hp
      have npq : p ≠ q := fun z => by rw [z, hls] at hp2; cases hp2
      have hls4 := B5.keep q _ nqb hls
      have hll : ls.length ≤ 100 := by rw [hall.len, hrl]; omega
      refine ⟨q, _, _, rfl, rfl, hls4, Nat.lt_of_le_of_lt hll (by decide), ?_⟩
      have put : ∀ {v : V} {ps : List Pt}, RingL H4 v ps → v ≠ .ref q → RingL (upd H4 q (.lst (ls ++ [V.ref p]))) v ps := fun {v ps} ⟨r, xs, e, h1, h2⟩ nq => by
        refine ⟨r, xs, e, ?_, h2.imp fun _ _ => TupAt.mono (Tups.lst hls4)⟩
        rw [upd_ne (fun z => nq (by rw [e, z]))]
        exact h1
      refine ⟨_, ls ++ [.ref p], rs ++ [ps], rfl, (B2.trans B5).putN hb hq, upd_same, ?_, by rw [List.length_append, hrl]; rfl, fun z hz => ?_⟩
      · refine AllAt.snoc (AllAt.imp (fun v ps h => ?_) hall) ⟨put ⟨p, xs, rfl, hx, hps⟩ (fun z => npq (V.ref.inj z)), fun z => bag_ne B2.bag hp2 (V.ref.inj z), fun z => npq (V.ref.inj z)⟩
        obtain ⟨h1, h2, h3⟩ := h
        rcases B5.ringL B2.bag h1 with h1 | h1
        · exact ⟨put h1 h3, h2, h3⟩
        · exact absurd h1 h2
      · rcases List.mem_append.mp hz with hz | hz
        · exact hr8 z hz
        · rw [List.mem_singleton] at hz
          rw [hz]
          exact h8
    · rintro σ H2 ⟨y2, ls, rs, rfl, B2, hls, hall, hrl, hr8⟩
      exact ⟨_, rfl, k q H2 ls rs hq B2 hls (hall.imp fun _ _ h => h.1) (by omega) hr8⟩
end
end Pa
set_option maxRecDepth 100000
set_option maxHeartbeats 4000000
namespace Pa
open PySem PySem.Spec PyProof.Rows L2 Win
/-! ### data, for == and != -/
def ptD (p : Pt) : PyData := .tuple [.int p.1, .int p.2]
def sdD (p q : Pt) : PyData := .tuple [ptD p, ptD q]
theorem ptD_lay (p : Pt) : (ptD p).canLay0 = true := by simp [ptD, PyData.canLay0, PyData.canLayAll0]
theorem sdD_lay (p q : Pt) : (sdD p q).canLay0 = true := by simp [sdD, PyData.canLay0, PyData.canLayAll0, ptD_lay]
theorem sdD_shaped (p q : Pt) : SeqAt.shaped (sdD p q) = true := by simp [SeqAt.shaped, sdD, ptD, PyData.canLay0, PyData.canLayAll0, PyData.depth, PyData.depthAll]
theorem dp_pt {K : PySem.W.Frag} {H : Hp} {t : Addr} {p : Pt} (h : H t = some (.tup (ptV p))) : Dp K H (.ref t) (ptD p) := .tup (SqT.of h) (.cons (.int _) (.cons (.int _) .nil))
theorem dp_ptT {K : PySem.W.Frag} {H : Hp} {v : V} {p : Pt} (h : CornT H v p) : Dp K H v (ptD p) := by
  obtain ⟨t, rfl, h⟩ := h
  exact dp_pt h
theorem dp_sd {K : PySem.W.Frag} {H : Hp} {v : V} {p q : Pt} (h : SideAt H v p q) : Dp K H v (sdD p q) := by
  obtain ⟨t, a, b, rfl, h1, h2, h3⟩ := h
  exact .tup (SqT.of h1) (.cons (dp_pt h2) (.cons (dp_pt h3) .nil))
theorem nNe (a : V) : ¬ ((!decide (a = a)) = true) := by
  rw [decide_eq_true rfl]
  decide
end Pa
set_option maxRecDepth 100000
set_option maxHeartbeats 4000000
namespace Pa
open PySem PySem.Spec PyProof.Rows L2 Win
/-! ### a list that is made item by item, each item new -/
def hide (D : Addr) (H : Hp) : Hp := fun b => if b = D then none else H b
theorem hide_sub (D : Addr) (H : Hp) : Same (hide D H) H := fun b u e => by
  unfold hide at e
  split at e
  · cases e
  · exact e
theorem hide_keep {D : Addr} {G H : Hp} (s : Same G H) (h : G D = none) : Same G (hide D H) := fun b u e => by
  unfold hide
  rw [if_neg (ne_of_none e h)]
  exact s b u e
theorem hide_put {D l : Addr} {H : Hp} {o o2 : HO} (hl : l ≠ D) : hide D (upd (upd H l o) D o2) = upd (hide D H) l o := by
  funext b
  unfold hide
  by_cases h1 : b = D
  · rw [if_pos h1, upd_ne (by rw [h1]; exact Ne.symm hl), if_pos h1]
  · rw [if_neg h1, upd_ne h1]
    by_cases h2 : b = l
    · rw [h2, upd_same, upd_same]
    · rw [upd_ne h2, upd_ne h2, if_neg h1]
theorem lc_made {α : Type} {K : PySem.W.Frag} {R : Hp → V → α → Prop} {a : Addr} {xs : List V} {ys : List α} {n5 : Nat} {te : TE} {σ : L2.St} {H1 : Hp} {D : Addr} {Qd : Hp → Prop} (hR : ∀ {H H' : Hp} {v : V} {y : α}, Same H H' → R H v y → R H' v y)
    (ha : H1 a = some (.lst xs)) (hD : H1 D = none) (hl : xs.length = ys.length) (hz : ys.length ≤ 100) (hw : ∀ x, wipe ((wipe σ [n5]).set n5 (some x)) [n5] = wipe σ [n5])
    (el : ∀ (i : Nat) x y (H3 : Hp) (Q : VK), xs[i]? = some x → ys[i]? = some y → Same H1 H3 → (∀ l o, H3 l = none → (∀ H5, Same H1 H5 → H5 l = some o → R H5 (.ref l) y) → Q (.ref l) (upd H3 l o)) → te ((wipe σ [n5]).set n5 (some x)) H3 Q)
    (hd : ∀ ls H', H' D = some (.lst ls) → AllAt R H' ls ys → Same H1 H' → Qd H') :
    ∃ W : Nat → Nat → Hp → Prop, (∃ m, W 0 m (upd H1 D (.lst []))) ∧ ∀ i m H, W i m H →
      ((Itl K a).stop i H ∧ Qd H) ∨ ((Itl K a).go i H ∧ ∃ Nx : Hp → Prop, (∀ H', Nx H' → ∃ m', m' < m ∧ W (i + 1) m' H') ∧ ∀ x H', (Itl K a).yld i H x H' → gName n5 x (wipe σ [n5]) H' fun σ2 H2 => wipe σ2 [n5] = wipe σ [n5] ∧ tYes σ2 H2 fun b H3 =>
        if b = true then te σ2 H3 fun y H4 => ∃ acc, H4 D = some (.lst acc) ∧ acc.length < sizeLine ∧ Nx (upd H4 D (.lst (acc ++ [y]))) else Nx H3) := by
  refine lc_list (K := K) (a := a) (xs := xs) (fun i H3 => ∃ ls, H3 D = some (.lst ls) ∧ AllAt R (hide D H3) ls (ys.take i) ∧ Same H1 (hide D H3)) ⟨[], upd_same, by rw [List.take_zero]; trivial, hide_keep (same_new hD) hD⟩
    (fun i H3 _ ⟨_, _, _, s3⟩ => SqL.of (hide_sub D H3 _ _ (s3 _ _ ha))) ?_ ?_
  · rintro i x H3 hx ⟨ls, hls, hall, s3⟩
    have hi : i < ys.length := by
      have := (List.getElem?_eq_some_iff.mp hx).1
      omega
    obtain ⟨y, hy⟩ : ∃ y, ys[i]? = some y := ⟨_, List.getElem?_eq_getElem hi⟩
    have s31 : Same H1 H3 := fun b u e => hide_sub D H3 _ _ (s3 b u e)
    refine ⟨hw x, el i x y H3 _ hx hy s31 fun l o hlo hq => ?_⟩
    have nlD : l ≠ D := fun z => by rw [z, hls] at hlo; cases hlo
    have hln : (hide D H3) l = none := by unfold hide; rw [if_neg nlD]; exact hlo
    refine ⟨ls, by rw [upd_ne (Ne.symm nlD)]; exact hls, Nat.lt_of_le_of_lt (m := 100) (by rw [hall.len, List.length_take]; omega) (by decide), ls ++ [.ref l], upd_same, ?_, ?_⟩
    · rw [hide_put nlD, List.take_add_one, hy]
      exact AllAt.snoc (hall.mono fun _ _ => hR (same_new hln)) (hq _ (s3.trans (same_new hln)) upd_same)
    · rw [hide_put nlD]
      exact s3.trans (same_new hln)
  · rintro H3 ⟨ls, hls, hall, s3⟩
    rw [hl, List.take_of_length_le (Nat.le_refl _)] at hall
    exact hd ls H3 hls (hall.mono fun _ _ => hR (hide_sub D H3)) fun b u e => hide_sub D H3 _ _ (s3 b u e)
/-! ### rings as data -/
def rgD (ps : List Pt) : PyData := .list (ps.map ptD)
def rsD (rs : List (List Pt)) : PyData := .list (rs.map rgD)
theorem lay_map {α : Type} {f : α → PyData} (h : ∀ x, (f x).canLay0 = true) : ∀ xs : List α, PyData.canLayAll0 (xs.map f) = true
  | [] => by simp [PyData.canLayAll0]
  | x :: xs => by simp [PyData.canLayAll0, h x, lay_map h xs]
theorem dep_map {α : Type} {f : α → PyData} {d : Nat} (h : ∀ x, (f x).depth ≤ d) : ∀ xs : List α, PyData.depthAll (xs.map f) ≤ d
  | [] => by simp [PyData.depthAll]
  | x :: xs => by
    have h1 := dep_map h xs
    have h2 := h x
    simp only [List.map_cons, PyData.depthAll]
    omega
theorem ptD_dep (p : Pt) : (ptD p).depth ≤ 1 := by simp [ptD, PyData.depth, PyData.depthAll]
theorem rgD_lay (ps : List Pt) : (rgD ps).canLay0 = true := by simp only [rgD, PyData.canLay0]; exact lay_map ptD_lay ps
theorem rgD_dep (ps : List Pt) : (rgD ps).depth ≤ 2 := by
  have := dep_map ptD_dep ps
  simp only [rgD, PyData.depth]
  omega
theorem rsD_shaped (rs : List (List Pt)) : SeqAt.shaped (rsD rs) = true := by
  have h1 : (rsD rs).canLay0 = true := by simp only [rsD, PyData.canLay0]; exact lay_map rgD_lay rs
  have h2 : (rsD rs).depth ≤ 64 := by
    have := dep_map rgD_dep rs
    simp only [rsD, PyData.depth]
    omega
  show ((rsD rs).canLay0 && decide ((rsD rs).depth ≤ 64)) = true
  rw [h1, decide_eq_true h2]
  rfl
theorem dp_all {α : Type} {K : PySem.W.Frag} {R : Hp → V → α → Prop} {f : α → PyData} {H : Hp} (h : ∀ v y, R H v y → Dp K H v (f y)) : ∀ {xs : List V} {ys : List α}, AllAt R H xs ys → DpAll K H xs (ys.map f)
  | [], [], _ => .nil
  | _ :: _, _ :: _, hh => .cons (h _ _ hh.1) (dp_all h hh.2)
  | [], _ :: _, hh => hh.elim
  | _ :: _, [], hh => hh.elim
theorem dp_rg {K : PySem.W.Frag} {H : Hp} {v : V} {ps : List Pt} (h : RingL H v ps) : Dp K H v (rgD ps) := by
  obtain ⟨r, xs, rfl, h1, h2⟩ := h
  exact .lst (SqL.of h1) (dp_all (fun _ _ => dp_ptT) h2)
theorem dp_rs {K : PySem.W.Frag} {H : Hp} {p : Addr} {xs : List V} {rs : List (List Pt)} (h : H p = some (.lst xs)) (ha : AllAt RingL H xs rs) : Dp K H (.ref p) (rsD rs) := .lst (SqL.of h) (dp_all (fun _ _ => dp_rg) ha)
theorem good8 {rs : List (List Pt)} (h3 : rs.length ≤ 3) (h8 : ∀ ps ∈ rs, Ring8 ps) : GoodRs rs := by
  refine ⟨by omega, fun ps hp => ⟨?_, fun p hpp => ?_⟩⟩
  · have := (h8 ps hp).1
    omega
  · have := (h8 ps hp).2 p hpp
    unfold Cell at this
    unfold SmallP
    omega
theorem good_rev {rs : List (List Pt)} (h : GoodRs rs) : GoodRs (rs.map List.reverse) := by
  refine ⟨by rw [List.length_map]; exact h.1, fun ps hp => ?_⟩
  obtain ⟨qs, hq, rfl⟩ := List.mem_map.mp hp
  rw [List.length_reverse]
  exact ⟨(h.2 qs hq).1, fun p hpp => (h.2 qs hq).2 p (List.mem_reverse.mp hpp)⟩
theorem AllAt.rev {α : Type} {R : Hp → V → α → Prop} {H : Hp} : ∀ {xs : List V} {ys : List α}, AllAt R H xs ys → AllAt R H xs.reverse ys.reverse
  | [], [], _ => trivial
  | _ :: _, _ :: _, h => by
    rw [List.reverse_cons, List.reverse_cons]
    exact AllAt.snoc (AllAt.rev h.2) h.1
  | [], _ :: _, h => h.elim
  | _ :: _, [], h => h.elim
def RingV (H : Hp) (v : V) (ps : List Pt) : Prop := RingL H v ps.reverse
def RingT (H : Hp) (v : V) (ps : List Pt) : Prop := ∃ r xs, v = .ref r ∧ H r = some (.tup xs) ∧ AllAt CornT H xs ps
theorem RingT.mono {H H' : Hp} (s : Same H H') {v : V} {ps : List Pt} (h : RingT H v ps) : RingT H' v ps := by
  obtain ⟨t, xs, e, q, a⟩ := h
  exact ⟨t, xs, e, s _ _ q, a.mono fun _ _ => CornT.mono s⟩
theorem RingT.at {H : Hp} {v : V} {ps : List Pt} (h : RingT H v ps) : RingAt H v ps := by
  obtain ⟨t, xs, e, q, a⟩ := h
  exact ⟨t, xs, e, .inr q, a.imp fun _ _ => CornT.at⟩
theorem AllAt.mapR {α β : Type} {R : Hp → V → α → Prop} {S : Hp → V → β → Prop} {f : α → β} {H : Hp} (h : ∀ v y, R H v y → S H v (f y)) : ∀ {xs : List V} {ys : List α}, AllAt R H xs ys → AllAt S H xs (ys.map f)
  | [], [], _ => trivial
  | _ :: _, _ :: _, hh => ⟨h _ _ hh.1, AllAt.mapR h hh.2⟩
  | [], _ :: _, hh => hh.elim
  | _ :: _, [], hh => hh.elim
end Pa
set_option maxRecDepth 100000
set_option maxHeartbeats 4000000
namespace Pa
open PySem PySem.Spec PyProof.Rows L2 Win
/-! ### rows of ink -/
structure R4 where
  a : Bool
  b : Bool
  c : Bool
  d : Bool
def chN (x : Bool) : Nat := if x = true then 35 else 46
def chS (x : Bool) : Str := if x = true then "#" else "."
def R4.s (r : R4) : Str := ⟨#[chN r.a, chN r.b, chN r.c, chN r.d]⟩
def R4.lft (r : R4) : Int := if r.a = true then 0 else if r.b = true then 1 else if r.c = true then 2 else if r.d = true then 3 else -1
def R4.rgt (r : R4) : Int := if r.d = true then 3 else if r.c = true then 2 else if r.b = true then 1 else if r.a = true then 0 else -1
def R4.bit (r : R4) : Nat → Bool
  | 0 => r.a
  | 1 => r.b
  | 2 => r.c
  | _ => r.d
def R4.plN (r : R4) : Nat → List Int
  | 0 => []
  | n + 1 => r.plN n ++ if r.bit n = true then [(n : Int)] else []
def R4.all (p : R4 → Bool) : Bool := [true, false].all fun a => [true, false].all fun b => [true, false].all fun c => [true, false].all fun d => p ⟨a, b, c, d⟩
theorem R4.of {p : R4 → Bool} (h : R4.all p = true) (r : R4) : p r = true := by
  obtain ⟨a, b, c, d⟩ := r
  have m : ∀ x : Bool, x ∈ [true, false] := fun x => by cases x <;> simp
  exact List.all_eq_true.mp (List.all_eq_true.mp (List.all_eq_true.mp (List.all_eq_true.mp h a (m a)) b (m b)) c (m c)) d (m d)
theorem find_row (r : R4) : Txt.find r.s "#" = r.lft := of_decide_eq_true (R4.of (p := fun r => decide (Txt.find r.s "#" = r.lft)) (by decide +kernel) r)
theorem rfind_row (r : R4) : Txt.rfind r.s "#" = r.rgt := of_decide_eq_true (R4.of (p := fun r => decide (Txt.rfind r.s "#" = r.rgt)) (by decide +kernel) r)
theorem join_row (r : R4) : Txt.join "" [chS r.a, chS r.b, chS r.c, chS r.d] = r.s := of_decide_eq_true (R4.of (p := fun r => decide (Txt.join "" [chS r.a, chS r.b, chS r.c, chS r.d] = r.s)) (by decide +kernel) r)
theorem size_row (r : R4) : (([chS r.a, chS r.b, chS r.c, chS r.d].map (·.length)).sum + [chS r.a, chS r.b, chS r.c, chS r.d].length * ("" : Str).length) ≤ 16777216 := of_decide_eq_true (R4.of (p := fun r => decide ((([chS r.a, chS r.b, chS r.c, chS r.d].map (·.length)).sum + [chS r.a, chS r.b, chS r.c, chS r.d].length * ("" : Str).length) ≤ 16777216)) (by decide +kernel) r)
theorem ends_row (r : R4) : -1 ≤ r.lft ∧ r.lft ≤ r.rgt ∧ r.rgt ≤ 3 ∧ (r.rgt < 0 → r.lft < 0) ∧ (r.lft < 0 → r.rgt < 0) := of_decide_eq_true (R4.of (p := fun r => decide (-1 ≤ r.lft ∧ r.lft ≤ r.rgt ∧ r.rgt ≤ 3 ∧ (r.rgt < 0 → r.lft < 0) ∧ (r.lft < 0 → r.rgt < 0))) (by decide +kernel) r)
/-- the places of ink -/
theorem pl_row (r : R4) : (∀ x ∈ r.plN 4, 0 ≤ x ∧ x ≤ r.rgt) ∧ (r.rgt < 0 → r.plN 4 = []) ∧ (0 ≤ r.rgt → r.rgt ∈ r.plN 4 ∧ atI ((r.plN 4).map V.int) 0 = some (.int r.lft) ∧ atI ((r.plN 4).map V.int) (-1) = some (.int r.rgt)) := by
  obtain ⟨a, b, c, d⟩ := r
  cases a <;> cases b <;> cases c <;> cases d <;> (refine ⟨by decide, fun h => ?_, fun h => ?_⟩) <;> first | rfl | exact ⟨by decide, rfl, rfl⟩ | exact absurd h (by decide)
/-- behind the last ink of a row that is cut at s -/
theorem cut_row (r : R4) (s : Nat) (hs : s ≤ 4) (h : r.rgt + 1 ≤ (s : Int)) : (!(Builtin.Str.occurrences (cutS r.s none (some (s : Int))) "#" 0 (cutS r.s none (some (s : Int))).length 1).isEmpty) = decide (0 ≤ r.rgt) ∧
    (0 ≤ r.rgt → ((cutS r.s none (some (s : Int))).length : Int) - ((Txt.rstripChars (cutS r.s none (some (s : Int))) ".").length : Int) = (s : Int) - r.rgt - 1) := by
  have k := R4.of (p := fun r => (List.range 5).all fun s => decide (r.rgt + 1 ≤ (s : Int) → (!(Builtin.Str.occurrences (cutS r.s none (some (s : Int))) "#" 0 (cutS r.s none (some (s : Int))).length 1).isEmpty) = decide (0 ≤ r.rgt) ∧
    (0 ≤ r.rgt → ((cutS r.s none (some (s : Int))).length : Int) - ((Txt.rstripChars (cutS r.s none (some (s : Int))) ".").length : Int) = (s : Int) - r.rgt - 1))) (by decide +kernel) r
  exact of_decide_eq_true (List.all_eq_true.mp k s (List.mem_range.mpr (by omega))) h
theorem lead_row (r : R4) : (!(Builtin.Str.occurrences r.s "#" 0 r.s.length 1).isEmpty) = decide (0 ≤ r.lft) ∧ (0 ≤ r.lft → (r.s.length : Int) - ((Txt.lstripChars r.s ".").length : Int) = r.lft) :=
  of_decide_eq_true (R4.of (p := fun r => decide ((!(Builtin.Str.occurrences r.s "#" 0 r.s.length 1).isEmpty) = decide (0 ≤ r.lft) ∧ (0 ≤ r.lft → (r.s.length : Int) - ((Txt.lstripChars r.s ".").length : Int) = r.lft))) (by decide +kernel) r)
theorem at_row (r : R4) (x : Nat) (hx : x < 4) : atI r.s.cps.toList (x : Int) = some (chN (r.bit x)) := by
  match x, hx with
  | 0, _ => rfl
  | 1, _ => rfl
  | 2, _ => rfl
  | 3, _ => rfl
theorem ch_eq (x : Bool) : decide (V.str ⟨#[chN x]⟩ = V.str "#") = x := by cases x <;> decide +kernel
theorem row_ok (r : R4) : PyData.strOk r.s = true := R4.of (p := fun r => PyData.strOk r.s) (by decide +kernel) r
theorem row_len (r : R4) : r.s.length = 4 := rfl
def I4 := Nat → R4
def inkV (k : I4) : List V := [.str (k 0).s, .str (k 1).s, .str (k 2).s, .str (k 3).s]
def inkD (k : I4) : PyData := .tuple [.str (k 0).s, .str (k 1).s, .str (k 2).s, .str (k 3).s]
theorem inkD_lay (k : I4) : (inkD k).canLay0 = true := by simp [inkD, PyData.canLay0, PyData.canLayAll0, row_ok]
theorem inkD_shaped (k : I4) : SeqAt.shaped (inkD k) = true := by simp [SeqAt.shaped, inkD, PyData.canLay0, PyData.canLayAll0, PyData.depth, PyData.depthAll, row_ok]
theorem dp_ink {K : PySem.W.Frag} {H : Hp} {t : Addr} {k : I4} (h : H t = some (.tup (inkV k))) : Dp K H (.ref t) (inkD k) := .tup (SqT.of h) (.cons (.str _) (.cons (.str _) (.cons (.str _) (.cons (.str _) .nil))))
theorem at_ink (k : I4) (y : Nat) (hy : y < 4) : (inkV k)[y]? = some (.str (k y).s) := by
  match y, hy with
  | 0, _ => rfl
  | 1, _ => rfl
  | 2, _ => rfl
  | 3, _ => rfl
def stp (k : I4) : Int := max (max ((k 0).rgt + 1) ((k 1).rgt + 1)) (max ((k 2).rgt + 1) ((k 3).rgt + 1))
theorem stp_ge (k : I4) (y : Nat) (hy : y < 4) : (k y).rgt + 1 ≤ stp k := by
  unfold stp
  match y, hy with
  | 0, _ => omega
  | 1, _ => omega
  | 2, _ => omega
  | 3, _ => omega
theorem stp_is (k : I4) : ∃ y, y < 4 ∧ stp k = (k y).rgt + 1 := by
  unfold stp
  have h : ∀ a b : Int, max a b = a ∨ max a b = b := fun a b => by omega
  rcases h (max ((k 0).rgt + 1) ((k 1).rgt + 1)) (max ((k 2).rgt + 1) ((k 3).rgt + 1)) with e | e <;> rw [e]
  · rcases h ((k 0).rgt + 1) ((k 1).rgt + 1) with e | e <;> rw [e]
    · exact ⟨0, by decide, rfl⟩
    · exact ⟨1, by decide, rfl⟩
  · rcases h ((k 2).rgt + 1) ((k 3).rgt + 1) with e | e <;> rw [e]
    · exact ⟨2, by decide, rfl⟩
    · exact ⟨3, by decide, rfl⟩
theorem stp_le (k : I4) : 0 ≤ stp k ∧ stp k ≤ 4 := by
  obtain ⟨y, _, e⟩ := stp_is k
  have := ends_row (k y)
  omega
/-- a greatest one is the step -/
theorem stp_max {k : I4} {ns : List Int} {m c : Int} (hm : m ∈ ns) (hx : ∀ y ∈ ns, y ≤ m) (up : ∀ z ∈ ns, z + c ≤ stp k) (att : stp k - c ∈ ns) : m + c = stp k := by
  have h1 := up m hm
  have h2 := hx _ att
  omega
theorem stp_rows {k : I4} {m : Int} (c : Int) (hm : m ∈ (List.range 4).map fun y => (k y).rgt + c) (hx : ∀ y ∈ (List.range 4).map fun y => (k y).rgt + c, y ≤ m) : m + (1 - c) = stp k := by
  refine stp_max hm hx (fun z hz => ?_) ?_
  · obtain ⟨y, hy, rfl⟩ := List.mem_map.mp hz
    have := stp_ge k y (List.mem_range.mp hy)
    omega
  · obtain ⟨y, hy, e⟩ := stp_is k
    exact List.mem_map.mpr ⟨y, List.mem_range.mpr hy, by omega⟩
def farN (k : I4) : Nat → List Int
  | 0 => [0]
  | n + 1 => farN k n ++ ((k n).plN 4).map (· + 1)
theorem far_in {k : I4} {z : Int} : ∀ {n : Nat}, n ≤ 4 → z ∈ farN k n → z ≤ stp k
  | 0, _, h => by
    rw [List.mem_singleton.mp h]
    exact (stp_le k).1
  | n + 1, hn, h => by
    rcases List.mem_append.mp h with h | h
    · exact far_in (by omega) h
    · obtain ⟨x, hx, rfl⟩ := List.mem_map.mp h
      have h1 := (pl_row (k n)).1 x hx
      have h2 := stp_ge k n (by omega)
      omega
theorem far_zero (k : I4) : ∀ n, (0 : Int) ∈ farN k n
  | 0 => List.mem_cons_self
  | n + 1 => List.mem_append_left _ (far_zero k n)
theorem far_mem {k : I4} {y : Nat} {x : Int} (hx : x ∈ (k y).plN 4) : ∀ n, y < n → x + 1 ∈ farN k n
  | 0, h => absurd h (Nat.not_lt_zero _)
  | n + 1, h => by
    by_cases e : y = n
    · rw [← e]
      exact List.mem_append_right _ (List.mem_map.mpr ⟨x, hx, rfl⟩)
    · exact List.mem_append_left _ (far_mem hx n (by omega))
theorem stp_far {k : I4} {m : Int} (hm : m ∈ farN k 4) (hx : ∀ y ∈ farN k 4, y ≤ m) : m = stp k := by
  have := stp_max (c := 0) hm hx (fun z hz => by rw [Int.add_zero]; exact far_in (Nat.le_refl _) hz) (by
    rw [Int.sub_zero]
    obtain ⟨y, hy, e⟩ := stp_is k
    by_cases h : 0 ≤ (k y).rgt
    · rw [e]
      exact far_mem ((pl_row (k y)).2.2 h).1 4 hy
    · have := (stp_le k).1
      have : stp k = 0 := by omega
      rw [this]
      exact far_zero k 4)
  omega
/-- a place, or none -/
def optV (x : Int) : V := if x < 0 then .non else .int x
/-- what stands between two inks -/
def blk (l r : I4) (y : Nat) (gap : Int) : V := if (l y).rgt < 0 ∨ (r y).lft < 0 then .non else .int (stp l + gap + (r y).lft - (l y).rgt - 1)
end Pa
set_option maxRecDepth 100000
set_option maxHeartbeats 4000000
namespace Pa
open PySem PySem.Spec PyProof.Rows L2 Win
theorem same_put {D : Addr} {H H1 : Hp} {o : HO} (hD : H D = none) (s : Same H H1) : Same H (upd H1 D o) := fun b u e => by
  rw [upd_ne (ne_of_none e hD)]
  exact s b u e
theorem intNon (z : Int) : ¬ (decide (V.int z = V.non) = true) := fun h => by
  have := of_decide_eq_true h
  cases this
theorem optN {z : Int} (h : z < 0) : optV z = .non := by unfold optV; rw [if_pos h]
theorem optI {z : Int} (h : ¬ z < 0) : optV z = .int z := by unfold optV; rw [if_neg h]
structure Txt2 (mg : Str → Option Value) : Prop where
  g_GRID : ∃ t, mg "GRID" = some (.int 4 t)
def inkB (x y : Nat) (rs : List (List Pt)) : Bool := !decide (V.int (wind x y rs) = V.int 0)
def wInk (rs : List (List Pt)) : I4 := fun y => ⟨inkB 0 y rs, inkB 1 y rs, inkB 2 y rs, inkB 3 y rs⟩
def rowL (rs : List (List Pt)) (y : Nat) (n : Nat) : List V := (List.range n).map fun x => V.str (chS (inkB x y rs))
theorem rowL_succ (rs : List (List Pt)) (y n : Nat) : rowL rs y (n + 1) = rowL rs y n ++ [V.str (chS (inkB n y rs))] := by
  unfold rowL
  rw [List.range_succ, List.map_append]
  rfl
theorem rowL_len (rs : List (List Pt)) (y n : Nat) : (rowL rs y n).length = n := by unfold rowL; simp
theorem rowL_4 (rs : List (List Pt)) (y : Nat) : rowL rs y 4 = [chS (wInk rs y).a, chS (wInk rs y).b, chS (wInk rs y).c, chS (wInk rs y).d].map V.str := rfl
def inkL (k : I4) (n : Nat) : List V := (List.range n).map fun y => V.str (k y).s
theorem inkL_succ (k : I4) (n : Nat) : inkL k (n + 1) = inkL k n ++ [V.str (k n).s] := by
  unfold inkL
  rw [List.range_succ, List.map_append]
  rfl
theorem inkL_len (k : I4) (n : Nat) : (inkL k n).length = n := by unfold inkL; simp
def rgtL (k : I4) (c : Int) (n : Nat) : List Int := (List.range n).map fun y => (k y).rgt + c
theorem rgtL_succ (k : I4) (c : Int) (n : Nat) : rgtL k c (n + 1) = rgtL k c n ++ [(k n).rgt + c] := by
  unfold rgtL
  rw [List.range_succ, List.map_append]
  rfl
theorem rgtL_len (k : I4) (c : Int) (n : Nat) : (rgtL k c n).length = n := by unfold rgtL; simp
section
variable {P : Program} {w : World} {K : PySem.W.Frag} {mg : Str → Option Value} {base : Heap}
/-! ### _ink_row, ink_of -/
def spInkRow : Sp := fun vs H Q _ => ∃ (v : V) (rs : List (List Pt)) (y : Nat), vs = [v, .int y] ∧ RingsAt H v rs ∧ GoodRs rs ∧ y < 4 ∧ ∀ H', Same H H' → Q (.str (wInk rs y).s) H'
abbrev s_ink_row : Stmt := topS 7
theorem sc_ink_row : FnScope ["rings", "y", "x"] ["rings", "y"] (defScope s_ink_row) := ⟨rfl, rfl, rfl, by decide +kernel, rfl, by decide +kernel, by decide +kernel⟩
theorem ok_inkrow {f : Addr} {fd : FuncData} (F : Fun K "_ink_row" "_ink_row" s_ink_row f fd) (T : Txt K mg) (T2 : Txt2 mg) (C_winding : CallOk P w K mg base 4 "winding" ["rings", "x", "y"] spWinding) : FnOk P w K mg base CX0 5 f fd ["rings", "y"] spInkRow := by
  refine F.ok sc_ink_row (fun vs H Q E h => ?_) (fun cdv A outer s H vs Q E hr h => ?_)
  · obtain ⟨v, rs, y, rfl, _⟩ := h
    rfl
  · obtain ⟨v, rs, y, rfl, hv, good, hy, k⟩ := h
    obtain ⟨tk, hG⟩ := T2.g_GRID
    refine ⟨_, (pss_one (ps_ret (pe_join pe_str (pe_lc (own := [("x", 2)]) (g := gName 2) (tt := tYes) rfl sc_ink_row.nd (pi_range1 (by rfl) T.b_range (pa_cons (pe_glob (v := .int 4) (by rfl) hG ⟨_, rfl⟩) pa_nil)) (blkOk_by (N := ["rings", "y", "x"]) (sc := defScope s_ink_row) (by decide +kernel)) (fun _ _ _ _ _ => (pg_name (i := 2) sc_ink_row.nd rfl (.inl rfl))) (fun _ _ _ _ _ => pts_nil) (fun _ _ _ _ _ => (pe_ifExp (pt_cmpR op_ne (pe_cc C_winding (hr.mono (by decide)) (by rfl) (pa_cons (pv 0) (pa_cons (pv 2) (pa_cons (pv 1) pa_nil)))) pe_int (nomark _)) pe_str pe_str)))))), ?_⟩
    refine ⟨⟨_, rfl⟩, 4, rfl, by decide, by decide, fun D hD => lc_range (lo := 0) (n := (4 : Int).toNat) (fun i H3 => H3 D = some (.lst (rowL rs y i)) ∧ Same H H3) ⟨upd_same, same_new hD⟩ ?_ ?_⟩
    · rintro i H3 hi ⟨h3, s3⟩
      have hi4 : i < 4 := hi
      refine ⟨rfl, ?_⟩
      refine ⟨_, rfl, _, rfl, _, rfl, v, rs, _, _, rfl, hv.mono s3, good, by omega, by omega, fun H4 s4 => ?_⟩
      refine ⟨rfl, _, rfl, ?_⟩
      have ei : (0 : Int) + (i : Int) = (i : Int) := Int.zero_add _
      rw [ei]
      have fin : ∀ c : Str, c = chS (inkB i y rs) → ∃ acc, H4 D = some (.lst acc) ∧ acc.length < sizeLine ∧ (upd H4 D (.lst (acc ++ [V.str c]))) D = some (.lst (rowL rs y (i + 1))) ∧ Same H (upd H4 D (.lst (acc ++ [V.str c]))) := fun c e =>
        ⟨_, s4 _ _ h3, by rw [rowL_len]; exact Nat.lt_trans hi4 (by decide), by rw [upd_same, rowL_succ, e], same_put hD (s3.trans s4)⟩
      refine ite2 (fun h => fin _ ?_) (fun h => fin _ ?_)
      · unfold inkB chS
        rw [if_pos h]
      · unfold inkB chS
        rw [if_neg h]
    · rintro H3 ⟨h3, s3⟩
      have e : rowL rs y (4 : Int).toNat = [chS (wInk rs y).a, chS (wInk rs y).b, chS (wInk rs y).c, chS (wInk rs y).d].map V.str := rowL_4 rs y
      rw [e] at h3
      refine ⟨"", D, _, rfl, rfl, .inl (SqL.of h3), size_row _, ?_⟩
      rw [join_row]
      exact k H3 s3
def spInkOf : Sp := fun vs H Q _ => ∃ (v : V) (rs : List (List Pt)), vs = [v] ∧ RingsAt H v rs ∧ GoodRs rs ∧ ∀ t H', H t = none → Same H H' → H' t = some (.tup (inkV (wInk rs))) → Q (.ref t) H'
abbrev sink_of : Stmt := topS 6
theorem scink_of : FnScope ["rings", "y"] ["rings"] (defScope sink_of) := ⟨rfl, rfl, rfl, by decide +kernel, rfl, by decide +kernel, by decide +kernel⟩
theorem ok_inkof {f : Addr} {fd : FuncData} (F : Fun K "ink_of" "ink_of" sink_of f fd) (T : Txt K mg) (T2 : Txt2 mg) (C__ink_row : CallOk P w K mg base 5 "_ink_row" ["rings", "y"] spInkRow) : FnOk P w K mg base CX0 6 f fd ["rings"] spInkOf := by
  refine F.ok scink_of (fun vs H Q E h => ?_) (fun cdv A outer s H vs Q E hr h => ?_)
  · obtain ⟨v, rs, rfl, _⟩ := h
    rfl
  · obtain ⟨v, rs, rfl, hv, good, k⟩ := h
    obtain ⟨tk, hG⟩ := T2.g_GRID
    refine ⟨_, (pss_one (ps_ret (pe_callTy (r := rTupQ K) (T := "tuple") (call_tupQ (K := K) rfl) (by rfl) T.b_tuple (by decide +kernel) (pa_cons (pe_lc (own := [("y", 1)]) (g := gName 1) (tt := tYes) (te := tCall spInkRow [] E0 (tCons (tVar 0) (tCons (tVar 1) tNil))) rfl scink_of.nd (pi_range1 (by rfl) T.b_range (pa_cons (pe_glob (v := .int 4) (by rfl) hG ⟨_, rfl⟩) pa_nil)) (blkOk_by (N := ["rings", "y"]) (sc := defScope sink_of) (by decide +kernel)) (fun _ _ _ _ _ => (pg_name (i := 1) scink_of.nd rfl (.inl rfl))) (fun _ _ _ _ _ => pts_nil) (fun _ _ _ _ _ => (pe_cc C__ink_row (hr.mono (by decide)) (by rfl) (pa_cons (pv 0) (pa_cons (pv 1) pa_nil))))) pa_nil)))), ?_⟩
    refine ⟨4, rfl, by decide, by decide, fun D hD => lc_range (lo := 0) (n := (4 : Int).toNat) (fun i H3 => H3 D = some (.lst (inkL (wInk rs) i)) ∧ Same H H3) ⟨upd_same, same_new hD⟩ ?_ ?_⟩
    · rintro i H3 hi ⟨h3, s3⟩
      have hi4 : i < 4 := hi
      refine ⟨rfl, ?_⟩
      have ei : (0 : Int) + (i : Int) = (i : Int) := Int.zero_add _
      refine ⟨_, rfl, _, rfl, v, rs, i, by rw [ei]; rfl, hv.mono s3, good, hi4, fun H4 s4 => ?_⟩
      exact ⟨_, s4 _ _ h3, by rw [inkL_len]; exact Nat.lt_trans hi4 (by decide), by rw [upd_same, inkL_succ], same_put hD (s3.trans s4)⟩
    · rintro H3 ⟨h3, s3⟩
      exact ⟨D, _, rfl, .inl ⟨SqL.of h3, fun t ht => k t _ (s3.free ht) (s3.trans (same_new ht)) upd_same⟩⟩
/-! ### leftmost, rightmost, step_of, blanks -/
def spCol : Sp := fun vs H Q _ => ∃ i : Int, vs = [.int i] ∧ Q (optV i) H
abbrev s_column_or_none : Stmt := topS 10
theorem sc_column_or_none : FnScope ["column"] ["column"] (defScope s_column_or_none) := ⟨rfl, rfl, rfl, by decide +kernel, rfl, by decide +kernel, by decide +kernel⟩
theorem ok_col {f : Addr} {fd : FuncData} (F : Fun K "_column_or_none" "_column_or_none" s_column_or_none f fd) : FnOk P w K mg base CX0 1 f fd ["column"] spCol := by
  refine F.ok sc_column_or_none (fun vs H Q E h => ?_) (fun cdv A outer s H vs Q E hr h => ?_)
  · obtain ⟨i, rfl, _⟩ := h
    rfl
  · obtain ⟨i, rfl, k⟩ := h
    refine ⟨_, (pss_one (ps_ret (pe_ifExp (pt_cmpR op_lt (pv 0) pe_int (nomark _)) pe_non (pv 0)))), ?_⟩
    unfold optV at k
    refine ⟨_, rfl, _, _, rfl, rfl, _, rfl, ite2 (fun h => ?_) (fun h => ⟨_, rfl, ?_⟩)⟩
    · rw [if_pos (of_decide_eq_true h)] at k
      exact k
    · rw [if_neg (fun z => h (decide_eq_true z))] at k
      exact k
def spEnd (g : R4 → Int) : Sp := fun vs H Q _ => ∃ (t : Addr) (k : I4) (y : Nat), vs = [.ref t, .int y] ∧ H t = some (.tup (inkV k)) ∧ y < 4 ∧ Q (optV (g (k y))) H
abbrev sleftmost : Stmt := topS 8
theorem scleftmost : FnScope ["ink", "row"] ["ink", "row"] (defScope sleftmost) := ⟨rfl, rfl, rfl, by decide +kernel, rfl, by decide +kernel, by decide +kernel⟩
theorem ok_left {f : Addr} {fd : FuncData} (F : Fun K "leftmost" "leftmost" sleftmost f fd) (C__column_or_none : CallOk P w K mg base 1 "_column_or_none" ["column"] spCol) : FnOk P w K mg base CX0 2 f fd ["ink", "row"] (spEnd R4.lft) := by
  refine F.ok scleftmost (fun vs H Q E h => ?_) (fun cdv A outer s H vs Q E hr h => ?_)
  · obtain ⟨t, i, y, rfl, _⟩ := h
    rfl
  · obtain ⟨t, i, y, rfl, ht, hy, k⟩ := h
    refine ⟨_, (pss_one (ps_ret (pe_cc C__column_or_none (hr.mono (by decide)) (by rfl) (pa_cons (pe_m1 PySem.F.slot_str_find PySem.F.type_str_find mt_find (pe_ix ix_tup (pv 0) (pv 1) (fun _ _ => rfl)) pe_str) pa_nil)))), ?_⟩
    refine ⟨_, rfl, _, rfl, t, _, _, _, rfl, rfl, SqT.of ht, atI_nat (at_ink i y hy), ⟨_, rfl⟩, _, _, rfl, rfl, ?_⟩
    refine ⟨_, rfl, ?_⟩
    rw [find_row]
    exact k
abbrev srightmost : Stmt := topS 9
theorem scrightmost : FnScope ["ink", "row"] ["ink", "row"] (defScope srightmost) := ⟨rfl, rfl, rfl, by decide +kernel, rfl, by decide +kernel, by decide +kernel⟩
theorem ok_right {f : Addr} {fd : FuncData} (F : Fun K "rightmost" "rightmost" srightmost f fd) (C__column_or_none : CallOk P w K mg base 1 "_column_or_none" ["column"] spCol) : FnOk P w K mg base CX0 2 f fd ["ink", "row"] (spEnd R4.rgt) := by
  refine F.ok scrightmost (fun vs H Q E h => ?_) (fun cdv A outer s H vs Q E hr h => ?_)
  · obtain ⟨t, i, y, rfl, _⟩ := h
    rfl
  · obtain ⟨t, i, y, rfl, ht, hy, k⟩ := h
    refine ⟨_, (pss_one (ps_ret (pe_cc C__column_or_none (hr.mono (by decide)) (by rfl) (pa_cons (pe_m1 PySem.F.slot_str_rfind PySem.F.type_str_rfind mt_rfind (pe_ix ix_tup (pv 0) (pv 1) (fun _ _ => rfl)) pe_str) pa_nil)))), ?_⟩
    refine ⟨_, rfl, _, rfl, t, _, _, _, rfl, rfl, SqT.of ht, atI_nat (at_ink i y hy), ⟨_, rfl⟩, _, _, rfl, rfl, ?_⟩
    refine ⟨_, rfl, ?_⟩
    rw [rfind_row]
    exact k
def spStep : Sp := fun vs H Q _ => ∃ (t : Addr) (k : I4), vs = [.ref t] ∧ H t = some (.tup (inkV k)) ∧ ∀ H', Same H H' → Q (.int (stp k)) H'
abbrev sstep_of : Stmt := topS 11
theorem scstep_of : FnScope ["ink", "cells"] ["ink"] (defScope sstep_of) := ⟨rfl, rfl, rfl, by decide +kernel, rfl, by decide +kernel, by decide +kernel⟩
theorem ok_step {f : Addr} {fd : FuncData} (F : Fun K "step_of" "step_of" sstep_of f fd) (T : Txt K mg) : FnOk P w K mg base CX0 1 f fd ["ink"] spStep := by
  refine F.ok scstep_of (fun vs H Q E h => ?_) (fun cdv A outer s H vs Q E hr h => ?_)
  · obtain ⟨t, i, rfl, _⟩ := h
    rfl
  · obtain ⟨t, i, rfl, ht, k⟩ := h
    refine ⟨_, (pss_one (ps_ret (pe_callB (cr_max rfl) (by rfl) T.b_max (by decide +kernel) (pa_cons (pe_lc (own := [("cells", 1)]) (g := gName 1) (tt := tYes) rfl scstep_of.nd (pi_tup (pv 0)) (blkOk_by (N := ["ink", "cells"]) (sc := defScope sstep_of) (by decide +kernel)) (fun _ _ _ _ _ => (pg_name (i := 1) scstep_of.nd rfl (.inl rfl))) (fun _ _ _ _ _ => pts_nil) (fun _ _ _ _ _ => (pe_op op_add (pe_m1 PySem.F.slot_str_rfind PySem.F.type_str_rfind mt_rfind (pv 1) pe_str) pe_int))) pa_nil)))), ?_⟩
    refine ⟨_, rfl, t, rfl, ⟨_, SqT.of ht⟩, fun D hD => lc_tup (K := K) (a := t) (xs := inkV i) (fun n H3 => H3 D = some (.lst ((rgtL i 1 n).map V.int)) ∧ Same H H3) ⟨upd_same, same_new hD⟩ (fun n H3 _ ⟨_, s3⟩ => SqT.of (s3 _ _ ht)) ?_ ?_⟩
    · rintro n x H3 hx ⟨h3, s3⟩
      have hn : n < 4 := (List.getElem?_eq_some_iff.mp hx).1
      rw [at_ink i n hn] at hx
      cases hx
      refine ⟨rfl, _, rfl, ⟨_, rfl⟩, _, _, rfl, rfl, _, _, rfl, rfl, ?_⟩
      rw [rfind_row]
      exact ⟨_, h3, by rw [List.length_map, rgtL_len]; exact Nat.lt_trans hn (by decide), by rw [upd_same, rgtL_succ, List.map_append]; rfl, same_put hD s3⟩
    · rintro H3 ⟨h3, s3⟩
      refine ⟨D, rgtL i 1 4, rfl, SqL.of h3, by rw [rgtL_len]; decide, fun m hm hx => ?_⟩
      have e := stp_rows 1 hm hx
      rw [show m = stp i by omega]
      exact k H3 s3
def spBlanks : Sp := fun vs H Q _ => ∃ (t u : Addr) (l r : I4) (y : Nat) (gap : Int), vs = [.ref t, .ref u, .int y, .int gap] ∧ H t = some (.tup (inkV l)) ∧ H u = some (.tup (inkV r)) ∧ y < 4 ∧ ∀ H', Same H H' → Q (blk l r y gap) H'
abbrev sblanks : Stmt := topS 12
theorem scblanks : FnScope ["left", "right", "row", "gap", "end", "begin"] ["left", "right", "row", "gap"] (defScope sblanks) := ⟨rfl, rfl, rfl, by decide +kernel, rfl, by decide +kernel, by decide +kernel⟩
theorem ok_blanks {f : Addr} {fd : FuncData} (F : Fun K "blanks" "blanks" sblanks f fd) (C_leftmost : CallOk P w K mg base 2 "leftmost" ["ink", "row"] (spEnd R4.lft)) (C_rightmost : CallOk P w K mg base 2 "rightmost" ["ink", "row"] (spEnd R4.rgt)) (C_step_of : CallOk P w K mg base 1 "step_of" ["ink"] spStep) : FnOk P w K mg base CX0 3 f fd ["left", "right", "row", "gap"] spBlanks := by
  refine F.ok scblanks (fun vs H Q E h => ?_) (fun cdv A outer s H vs Q E hr h => ?_)
  · obtain ⟨t, u, l, r, y, gap, rfl, _⟩ := h
    rfl
  · obtain ⟨t, u, l, r, y, gap, rfl, ht, hu, hy, k⟩ := h
    refine ⟨_, (pss_cons (ps_par (i := 4) (j := 5) (by rfl) scblanks.nd rfl rfl (by decide) rfl rfl (pa_cons (pe_cc C_rightmost (hr.mono (by decide)) (by rfl) (pa_cons (pv 0) (pa_cons (pv 2) pa_nil))) (pa_cons (pe_cc C_leftmost (hr.mono (by decide)) (by rfl) (pa_cons (pv 1) (pa_cons (pv 2) pa_nil))) pa_nil)) (by rfl))
      (pss_cons (ps_if (PW.pt (pw_or (pt_cmpR op_isN (pv 4) pe_non (nomark _)) (pw_or1 (pt_cmpR op_isN (pv 5) pe_non (nomark _)))))
        (pss_one (ps_ret pe_non))
        pss_nil)
      (pss_one (ps_ret (pe_op op_sub (pe_op op_sub (pe_op op_add (pe_op op_add (pe_cc C_step_of (hr.mono (by decide)) (by rfl) (pa_cons (pv 0) pa_nil)) (pv 3)) (pv 5)) (pv 4)) pe_int))))), ?_⟩
    refine ⟨_, rfl, _, rfl, t, l, y, rfl, ht, hy, _, rfl, _, rfl, u, r, y, rfl, hu, hy, _, _, rfl, ?_⟩
    by_cases h1 : (l y).rgt < 0
    · rw [optN h1]
      refine ⟨_, rfl, rfl, _, rfl, iteP (decide_eq_true rfl) (iteT ?_)⟩
      have k := k H (Same.refl H)
      unfold blk at k
      rw [if_pos (.inl h1)] at k
      exact k
    · rw [optI h1]
      refine ⟨_, rfl, rfl, _, rfl, iteQ (intNon _) ?_⟩
      by_cases h2 : (r y).lft < 0
      · rw [optN h2]
        refine ⟨_, rfl, rfl, _, rfl, iteP (decide_eq_true rfl) ?_⟩
        have k := k H (Same.refl H)
        unfold blk at k
        rw [if_pos (.inr h2)] at k
        exact k
      · rw [optI h2]
        refine ⟨_, rfl, rfl, _, rfl, iteQ (intNon _) ?_⟩
        refine ⟨_, rfl, t, l, rfl, ht, fun H' s' => ?_⟩
        have k := k H' s'
        unfold blk at k
        rw [if_neg (by omega)] at k
        exact ⟨_, rfl, _, _, rfl, rfl, _, rfl, _, _, rfl, rfl, _, rfl, _, _, rfl, rfl, _, _, rfl, rfl, k⟩
end
end Pa
set_option maxRecDepth 100000
set_option maxHeartbeats 4000000
namespace Pa
open PySem PySem.Spec PyProof.Rows L2 Win
section
variable {P : Program} {w : World} {K : PySem.W.Frag} {mg : Str → Option Value} {base : Heap}
/-! ### _law_ink -/
def spLInk : Sp := fun vs H Q _ => ∃ (r : Addr) (xs : List V) (rs : List (List Pt)), vs = [.ref r] ∧ H r = some (.lst xs) ∧ AllAt RingAt H xs rs ∧ GoodRs rs ∧ ∀ t H', H t = none → Same H H' → H' t = some (.tup (inkV (wInk rs))) → Q (.ref t) H'
abbrev sL_ink : Stmt := topS 21
theorem scL_ink : FnScope ["_law_rings_here", "_law_found", "_law_y", "_law_x"] ["_law_rings_here"] (defScope sL_ink) := ⟨rfl, rfl, rfl, by decide +kernel, rfl, by decide +kernel, by decide +kernel⟩
theorem ok_link {f : Addr} {fd : FuncData} (F : Fun K "_law_ink" "_law_ink" sL_ink f fd) (T : Txt K mg) (C__law_winding : CallOk P w K mg base 2 "_law_winding" ["_law_rings_here", "_law_x", "_law_y"] spLWind) : FnOk P w K mg base CX0 3 f fd ["_law_rings_here"] spLInk := by
  refine F.ok scL_ink (fun vs H Q E h => ?_) (fun cdv A outer s H vs Q E hr h => ?_)
  · obtain ⟨v, xs, rs, rfl, _⟩ := h
    rfl
  · obtain ⟨r, xs, rs, rfl, hr0, hxs, good, k⟩ := h
    refine ⟨_, (pss_cons (ps_set (i := 1) scL_ink.nd rfl (.inl rfl) (pe_lst pa_nil))
      (pss_cons (ps_for PassesOwn.never rfl (pi_range1 (by rfl) T.b_range (pa_cons pe_int pa_nil)) (pg_name (i := 2) scL_ink.nd rfl (.inr rfl))
        (pss_one (ps_expr (pe_bm PySem.F.plainAttrs_list PySem.F.slot_list_append PySem.F.type_list_append mt_append (pv 1) (pa_cons (pe_join pe_str (pe_lc (own := [("_law_x", 3)]) (g := gName 3) (tt := tYes) rfl scL_ink.nd (pi_range1 (by rfl) T.b_range (pa_cons pe_int pa_nil)) (blkOk_by (N := ["_law_rings_here", "_law_found", "_law_y", "_law_x"]) (sc := defScope sL_ink) (by decide +kernel)) (fun _ _ _ _ _ => (pg_name (i := 3) scL_ink.nd rfl (.inl rfl))) (fun _ _ _ _ _ => pts_nil) (fun _ _ _ _ _ => (pe_ifExp (pt_cmpR op_ne (pe_cc C__law_winding (hr.mono (by decide)) (by rfl) (pa_cons (pv 0) (pa_cons (pv 3) (pa_cons (pv 2) pa_nil)))) pe_int (nomark _)) pe_str pe_str)))) pa_nil)))))
      (pss_one (ps_ret (pe_callTy (r := rTupQ K) (T := "tuple") (call_tupQ (K := K) rfl) (by rfl) T.b_tuple (by decide +kernel) (pa_cons (pv 1) pa_nil)))))), ?_⟩
    refine ⟨by show 0 ≤ sizeLine; decide, fun q hq => ?_⟩
    refine ⟨4, rfl, by decide, by decide, for_range (lo := 0) (n := (4 : Int).toNat) (fun y σ H2 => ∃ (y2 : Option V), σ = [some (.ref r), some (.ref q), y2, none] ∧ Same H H2 ∧ H2 q = some (.lst (inkL (wInk rs) y))) ⟨none, rfl, same_new hq, upd_same⟩ ?_ ?_⟩
    · rintro y σ H2 hy ⟨y2, rfl, s2, h2⟩
      have hy4 : y < 4 := hy
      have ey : (0 : Int) + (y : Int) = (y : Int) := Int.zero_add _
      refine ⟨_, rfl, .inl ⟨rfl, _, SqL.of h2⟩, ⟨_, rfl⟩, 4, rfl, by decide, by decide, fun D hD => ?_⟩
      have hDH : H D = none := s2.free hD
      have nDq : q ≠ D := fun z => by rw [← z, h2] at hD; cases hD
      refine lc_range (lo := 0) (n := (4 : Int).toNat) (fun i H3 => H3 D = some (.lst (rowL rs y i)) ∧ Same H2 H3) ⟨upd_same, same_new hD⟩ ?_ ?_
      · rintro i H3 hi ⟨h3, s3⟩
        have hi4 : i < 4 := hi
        have s23 := s2.trans s3
        refine ⟨rfl, ?_⟩
        refine ⟨_, rfl, _, rfl, _, rfl, r, xs, rs, _, _, rfl, s23 _ _ hr0, hxs.mono fun _ _ => RingAt.mono s23, good, by omega, by omega, fun H4 s4 => ?_⟩
        refine ⟨rfl, _, rfl, ?_⟩
        have ei : (0 : Int) + (i : Int) = (i : Int) := Int.zero_add _
        rw [ei, ey]
        have fin : ∀ c : Str, c = chS (inkB i y rs) → ∃ acc, H4 D = some (.lst acc) ∧ acc.length < sizeLine ∧ (upd H4 D (.lst (acc ++ [V.str c]))) D = some (.lst (rowL rs y (i + 1))) ∧ Same H2 (upd H4 D (.lst (acc ++ [V.str c]))) := fun c e =>
          ⟨_, s4 _ _ h3, by rw [rowL_len]; exact Nat.lt_trans hi4 (by decide), by rw [upd_same, rowL_succ, e], same_put hD (s3.trans s4)⟩
        refine ite2 (fun h => fin _ ?_) (fun h => fin _ ?_)
        · unfold inkB chS
          rw [if_pos h]
        · unfold inkB chS
          rw [if_neg h]
      · rintro H3 ⟨h3, s3⟩
        have e : rowL rs y (4 : Int).toNat = [chS (wInk rs y).a, chS (wInk rs y).b, chS (wInk rs y).c, chS (wInk rs y).d].map V.str := rowL_4 rs y
        rw [e] at h3
        refine ⟨"", D, _, rfl, rfl, .inl (SqL.of h3), size_row _, ?_⟩
        rw [join_row]
        refine ⟨q, _, _, rfl, rfl, s3 _ _ h2, by rw [inkL_len]; exact Nat.lt_trans hy4 (by decide), ?_⟩
        exact ⟨_, rfl, same_put hq (s2.trans s3), by rw [upd_same, inkL_succ]⟩
    · rintro σ H2 ⟨y2, rfl, s2, h2⟩
      exact ⟨_, rfl, q, _, rfl, .inl ⟨SqL.of h2, fun t ht => k t _ (s2.free ht) (s2.trans (same_new ht)) upd_same⟩⟩
/-! ### _law_blanks -/
abbrev sL_blanks : Stmt := topS 22
theorem scL_blanks : FnScope ["_law_left", "_law_right", "_law_row", "_law_gap", "_law_step", "_law_cells", "_law_before", "_law_behind"] ["_law_left", "_law_right", "_law_row", "_law_gap"] (defScope sL_blanks) := ⟨rfl, rfl, rfl, by decide +kernel, rfl, by decide +kernel, by decide +kernel⟩
theorem ok_lblanks {f : Addr} {fd : FuncData} (F : Fun K "_law_blanks" "_law_blanks" sL_blanks f fd) (T : Txt K mg) : FnOk P w K mg base CX0 1 f fd ["_law_left", "_law_right", "_law_row", "_law_gap"] spBlanks := by
  refine F.ok scL_blanks (fun vs H Q E h => ?_) (fun cdv A outer s H vs Q E hr h => ?_)
  · obtain ⟨t, u, l, r, y, gap, rfl, _⟩ := h
    rfl
  · obtain ⟨t, u, l, r, y, gap, rfl, ht, hu, hy, k⟩ := h
    refine ⟨_, (pss_cons (ps_set (i := 4) scL_blanks.nd rfl (.inl rfl) (pe_op op_add (pe_callB (cr_max rfl) (by rfl) T.b_max (by decide +kernel) (pa_cons (pe_lc (own := [("_law_cells", 5)]) (g := gName 5) (tt := tYes) rfl scL_blanks.nd (pi_tup (pv 0)) (blkOk_by (N := ["_law_left", "_law_right", "_law_row", "_law_gap", "_law_step", "_law_cells", "_law_before", "_law_behind"]) (sc := defScope sL_blanks) (by decide +kernel)) (fun _ _ _ _ _ => (pg_name (i := 5) scL_blanks.nd rfl (.inl rfl))) (fun _ _ _ _ _ => pts_nil) (fun _ _ _ _ _ => (pe_m1 PySem.F.slot_str_rfind PySem.F.type_str_rfind mt_rfind (pv 5) pe_str))) pa_nil)) pe_int))
      (pss_cons (ps_par (i := 6) (j := 7) (by rfl) scL_blanks.nd rfl rfl (by decide) rfl rfl (pa_cons (pe_slice sl_str (pe_ix ix_tup (pv 0) (pv 2) (fun _ _ => rfl)) po_none (po_some (pv 4))) (pa_cons (pe_ix ix_tup (pv 1) (pv 2) (fun _ _ => rfl)) pa_nil)) (by rfl))
      (pss_cons (ps_if (PW.pt (pw_or (pt_cmpR op_notIn_str pe_str (pv 6) (by rfl)) (pw_or1 (pt_cmpR op_notIn_str pe_str (pv 7) (by rfl)))))
        (pss_one (ps_ret pe_non))
        pss_nil)
      (pss_one (ps_ret (pe_op op_sub (pe_op op_add (pe_op op_add (pe_op op_sub (pe_callB call_len_str (by rfl) T.b_len PySem.boot_len (pa_cons (pv 6) pa_nil)) (pe_callB call_len_str (by rfl) T.b_len PySem.boot_len (pa_cons (pe_m1 PySem.F.slot_str_rstrip PySem.F.type_str_rstrip mt_rstripChars (pv 6) pe_str) pa_nil))) (pv 3)) (pe_callB call_len_str (by rfl) T.b_len PySem.boot_len (pa_cons (pv 7) pa_nil))) (pe_callB call_len_str (by rfl) T.b_len PySem.boot_len (pa_cons (pe_m1 PySem.F.slot_str_lstrip PySem.F.type_str_lstrip mt_lstripChars (pv 7) pe_str) pa_nil)))))))), ?_⟩
    refine ⟨_, rfl, t, rfl, ⟨_, SqT.of ht⟩, fun D hD => lc_tup (K := K) (a := t) (xs := inkV l) (fun n H3 => H3 D = some (.lst ((rgtL l 0 n).map V.int)) ∧ Same H H3) ⟨upd_same, same_new hD⟩ (fun n H3 _ ⟨_, s3⟩ => SqT.of (s3 _ _ ht)) ?_ ?_⟩
    · rintro n x H3 hx ⟨h3, s3⟩
      have hn : n < 4 := (List.getElem?_eq_some_iff.mp hx).1
      rw [at_ink l n hn] at hx
      cases hx
      refine ⟨rfl, _, rfl, ⟨_, rfl⟩, _, _, rfl, rfl, ?_⟩
      rw [rfind_row]
      exact ⟨_, h3, by rw [List.length_map, rgtL_len]; exact Nat.lt_trans hn (by decide), by rw [upd_same, rgtL_succ, List.map_append, Int.add_zero]; rfl, same_put hD s3⟩
    · rintro H3 ⟨h3, s3⟩
      refine ⟨D, rgtL l 0 4, rfl, SqL.of h3, by rw [rgtL_len]; decide, fun m hm hx => ⟨_, _, rfl, rfl, ?_⟩⟩
      have e := stp_rows 0 hm hx
      have em : m + 1 = stp l := by omega
      dsimp only
      rw [em]
      obtain ⟨n, hn⟩ : ∃ n : Nat, stp l = (n : Int) := ⟨(stp l).toNat, by have := (stp_le l).1; omega⟩
      have hn4 : n ≤ 4 := by have := (stp_le l).2; omega
      have hst := stp_ge l y hy
      have k := k H3 s3
      unfold blk at k
      rw [hn] at k hst ⊢
      obtain ⟨c1, c2⟩ := cut_row (l y) n hn4 hst
      obtain ⟨d1, d2⟩ := lead_row (r y)
      refine ⟨_, rfl, _, rfl, t, _, _, _, rfl, rfl, SqT.of (s3 _ _ ht), atI_nat (at_ink l y hy), ?_⟩
      refine ⟨_, rfl, _, rfl, _, rfl, (by show (4 : Nat) ≤ sizeLine; decide), ?_⟩
      refine ⟨_, rfl, _, rfl, u, _, _, _, rfl, rfl, SqT.of (s3 _ _ hu), atI_nat (at_ink r y hy), _, _, rfl, ?_⟩
      have hcl : (cutS (l y).s none (some (n : Int))).length ≤ 4 := cutS_length _ _ _
      have hz4 : ∀ m : Nat, m ≤ 4 → m ≤ sizeLine := fun m hm => Nat.le_trans hm (by decide)
      refine ⟨_, rfl, _, _, rfl, rfl, _, rfl, ?_⟩
      rw [c1]
      by_cases h1 : (l y).rgt < 0
      · refine iteP (by rw [decide_eq_false (by omega)]; decide) (iteT ?_)
        rw [if_pos (.inl h1)] at k
        exact k
      refine iteQ (by rw [decide_eq_true (by omega)]; decide) ?_
      refine ⟨_, rfl, _, _, rfl, rfl, _, rfl, ?_⟩
      rw [d1]
      by_cases h2 : (r y).lft < 0
      · refine iteP (by rw [decide_eq_false (by omega)]; decide) ?_
        rw [if_pos (.inr h2)] at k
        exact k
      refine iteQ (by rw [decide_eq_true (by omega)]; decide) ?_
      rw [if_neg (by omega)] at k
      have c2 := c2 (by omega)
      have d2 := d2 (by omega)
      have l4 : (r y).s.length = 4 := row_len _
      refine ⟨_, rfl, _, rfl, hz4 _ hcl, _, rfl, ⟨_, rfl⟩, _, _, rfl, rfl, hz4 _ hcl, _, rfl, hz4 _ (by omega), _, _, rfl, rfl, _, rfl, _, _, rfl, rfl, _, rfl, _, rfl, hz4 _ (by omega), _, _, rfl, rfl, ?_⟩
      refine ⟨_, rfl, ⟨_, rfl⟩, _, _, rfl, rfl, hz4 _ (by omega), _, rfl, hz4 _ (by omega), _, _, rfl, rfl, ?_⟩
      dsimp only
      have e9 : ((cutS (l y).s none (some (n : Int))).length : Int) - ((Txt.rstripChars (cutS (l y).s none (some (n : Int))) ".").length : Int) + gap + ((r y).s.length : Int) - ((Txt.lstripChars (r y).s ".").length : Int) = (n : Int) + gap + (r y).lft - (l y).rgt - 1 := by omega
      rw [e9]
      exact k
/-! ### _law_blanks_stand -/
def spBStand : Sp := fun vs H Q _ => ∃ (t u : Addr) (l r : I4), vs = [.ref t, .ref u] ∧ H t = some (.tup (inkV l)) ∧ H u = some (.tup (inkV r)) ∧ ∀ H', Same H H' → Q (.bl true) H'
abbrev sL_blanks_stand : Stmt := topS 24
theorem scL_blanks_stand : FnScope ["_law_left", "_law_right", "_law_row", "_law_gap", "_law_told", "_law_due"] ["_law_left", "_law_right"] (defScope sL_blanks_stand) := ⟨rfl, rfl, rfl, by decide +kernel, rfl, by decide +kernel, by decide +kernel⟩
theorem ok_lbstand {f : Addr} {fd : FuncData} (F : Fun K "_law_blanks_stand" "_law_blanks_stand" sL_blanks_stand f fd) (T : Txt K mg) (C_blanks : CallOk P w K mg base 3 "blanks" ["left", "right", "row", "gap"] spBlanks) (C__law_blanks : CallOk P w K mg base 1 "_law_blanks" ["_law_left", "_law_right", "_law_row", "_law_gap"] spBlanks)
    (C__law_number : CallOk P w K mg base 1 "_law_number" ["_law_thing"] spNum) : FnOk P w K mg base CX0 4 f fd ["_law_left", "_law_right"] spBStand := by
  refine F.ok scL_blanks_stand (fun vs H Q E h => ?_) (fun cdv A outer s H vs Q E hr h => ?_)
  · obtain ⟨t, u, l, r, rfl, _⟩ := h
    rfl
  · obtain ⟨t, u, l, r, rfl, ht, hu, k⟩ := h
    refine ⟨_, (pss_cons (ps_for PassesOwn.never rfl (pi_range1 (by rfl) T.b_range (pa_cons pe_int pa_nil)) (pg_name (i := 2) scL_blanks_stand.nd rfl (.inl rfl))
        (pss_one (ps_for PassesOwn.never rfl (pi_range1 (by rfl) T.b_range (pa_cons pe_int pa_nil)) (pg_name (i := 3) scL_blanks_stand.nd rfl (.inl rfl))
          (pss_cons (ps_par (i := 4) (j := 5) (by rfl) scL_blanks_stand.nd rfl rfl (by decide) rfl rfl (pa_cons (pe_cc C_blanks (hr.mono (by decide)) (by rfl) (pa_cons (pv 0) (pa_cons (pv 1) (pa_cons (pv 2) (pa_cons (pv 3) pa_nil))))) (pa_cons (pe_cc C__law_blanks (hr.mono (by decide)) (by rfl) (pa_cons (pv 0) (pa_cons (pv 1) (pa_cons (pv 2) (pa_cons (pv 3) pa_nil))))) pa_nil)) (by rfl))
          (pss_one (ps_if (pt_cmpR op_isN (pv 5) pe_non (nomark _))
            (pss_one (ps_if (pt_cmpR op_notN (pv 4) pe_non (nomark _))
              (pss_one (ps_ret pe_bl))
              pss_nil))
            (pss_one (ps_if (PW.pt (pw_or (pt_not (pt_val (pe_cc C__law_number (hr.mono (by decide)) (by rfl) (pa_cons (pv 4) pa_nil)))) (pw_or1 (pt_cmpR op_ne (pv 4) (pv 5) (nomark _)))))
              (pss_one (ps_ret pe_bl))
              pss_nil))))))))
      (pss_one (ps_ret pe_bl))), ?_⟩
    refine ⟨4, rfl, by decide, by decide, for_range (lo := 0) (n := (4 : Int).toNat) (fun y σ H2 => ∃ (y2 y3 y4 y5 : Option V), σ = [some (.ref t), some (.ref u), y2, y3, y4, y5] ∧ Same H H2) ⟨none, none, none, none, rfl, Same.refl H⟩ ?_ ?_⟩
    · rintro y σ H2 hy ⟨y2, y3, y4, y5, rfl, s2⟩
      have hy4 : y < 4 := hy
      refine ⟨3, rfl, by decide, by decide, for_range (lo := 0) (n := (3 : Int).toNat) (fun g σ H2 => ∃ (y3 y4 y5 : Option V), σ = [some (.ref t), some (.ref u), some (.int (0 + (y : Int))), y3, y4, y5] ∧ Same H H2) ⟨_, _, _, rfl, s2⟩ ?_ ?_⟩
      · rintro g σ H3 hg ⟨y3, y4, y5, rfl, s3⟩
        have ey : (0 : Int) + (y : Int) = (y : Int) := Int.zero_add _
        refine ⟨_, rfl, _, rfl, _, rfl, _, rfl, t, u, l, r, y, 0 + (g : Int), by rw [ey]; rfl, s3 _ _ ht, s3 _ _ hu, hy4, fun H4 s4 => ?_⟩
        have s34 := s3.trans s4
        refine ⟨_, rfl, _, rfl, _, rfl, _, rfl, t, u, l, r, y, 0 + (g : Int), by rw [ey]; rfl, s34 _ _ ht, s34 _ _ hu, hy4, fun H5 s5 => ⟨_, _, rfl, ?_⟩⟩
        have s35 := s34.trans s5
        unfold blk
        by_cases h : (l y).rgt < 0 ∨ (r y).lft < 0
        · rw [if_pos h]
          refine ⟨_, rfl, rfl, _, rfl, iteP (decide_eq_true rfl) ?_⟩
          refine ⟨_, rfl, rfl, _, rfl, iteQ (nNe _) ?_⟩
          exact ⟨_, _, _, rfl, s35⟩
        · rw [if_neg h]
          refine ⟨_, rfl, rfl, _, rfl, iteQ (intNon _) ?_⟩
          refine ⟨_, rfl, _, rfl, _, rfl, iteQ (by decide) ?_⟩
          refine ⟨_, rfl, _, rfl, rfl, _, rfl, iteQ (nNe _) ?_⟩
          exact ⟨_, _, _, rfl, s35⟩
      · rintro σ H3 ⟨y3, y4, y5, rfl, s3⟩
        exact ⟨_, _, _, _, rfl, s3⟩
    · rintro σ H2 ⟨y2, y3, y4, y5, rfl, s2⟩
      exact k H2 s2
end
end Pa
set_option maxRecDepth 100000
set_option maxHeartbeats 4000000
namespace Pa
open PySem PySem.Spec PyProof.Rows L2 Win
theorem plN_len (r : R4) : ∀ n, (r.plN n).length ≤ n
  | 0 => Nat.le_refl _
  | n + 1 => by
    have := plN_len r n
    show (r.plN n ++ if r.bit n = true then [(n : Int)] else []).length ≤ n + 1
    rw [List.length_append]
    split <;> simp <;> omega
theorem farN_len (k : I4) : ∀ n, (farN k n).length ≤ 1 + 4 * n
  | 0 => Nat.le_refl _
  | n + 1 => by
    have h1 := farN_len k n
    have h2 := plN_len (k n) 4
    show (farN k n ++ ((k n).plN 4).map (· + 1)).length ≤ _
    rw [List.length_append, List.length_map]
    omega
def intsD (ns : List Int) : PyData := .list (ns.map PyData.int)
theorem intsD_shaped (ns : List Int) : SeqAt.shaped (intsD ns) = true := by
  have h1 : (intsD ns).canLay0 = true := by simp only [intsD, PyData.canLay0]; exact lay_map (fun x => by simp [PyData.canLay0]) ns
  have h2 : (intsD ns).depth ≤ 64 := by
    have := dep_map (f := PyData.int) (d := 0) (fun x => by simp [PyData.depth]) ns
    simp only [intsD, PyData.depth]
    omega
  show ((intsD ns).canLay0 && decide ((intsD ns).depth ≤ 64)) = true
  rw [h1, decide_eq_true h2]
  rfl
theorem dp_intsL {K : PySem.W.Frag} {H : Hp} : ∀ ns : List Int, DpAll K H (ns.map V.int) (ns.map PyData.int)
  | [] => .nil
  | _ :: ns => .cons (.int _) (dp_intsL ns)
theorem dp_ints {K : PySem.W.Frag} {H : Hp} {p : Addr} {ns : List Int} (h : H p = some (.lst (ns.map V.int))) : Dp K H (.ref p) (intsD ns) := .lst (SqL.of h) (dp_intsL ns)
theorem eqv_nil (ns : List Int) : PyData.eqv (intsD ns) (intsD []) = decide (ns = []) := by
  cases ns with
  | nil => simp [intsD, PyData.eqv, PyData.eqvAll]
  | cons a t => simp [intsD, PyData.eqv, PyData.eqvAll]
theorem eqv_ints (ns : List Int) : PyData.eqv (intsD ns) (intsD ns) = true := SeqAt.eqv_refl _ (SeqAt.canLay_of_shaped (intsD_shaped ns))
theorem eqv_ink (k : I4) : ¬ ((!PyData.eqv (inkD k) (inkD k)) = true) := by
  rw [SeqAt.eqv_refl _ (inkD_lay k)]
  decide
section
variable {P : Program} {w : World} {K : PySem.W.Frag} {mg : Str → Option Value} {base : Heap}
/-! ### _law_ink_stands -/
def spIStand : Sp := fun vs H Q _ => ∃ (t u : Addr) (k : I4), vs = [.ref t, .ref u] ∧ H t = some (.tup (inkV k)) ∧ H u = some (.tup (inkV k)) ∧ ∀ H', Same H H' → Q (.bl true) H'
abbrev sL_ink_stands : Stmt := topS 23
theorem scL_ink_stands : FnScope ["_law_told", "_law_due", "_law_far", "_law_row", "_law_places", "_law_x", "_law_ends"] ["_law_told", "_law_due"] (defScope sL_ink_stands) := ⟨rfl, rfl, rfl, by decide +kernel, rfl, by decide +kernel, by decide +kernel⟩
theorem ok_listand {f : Addr} {fd : FuncData} (F : Fun K "_law_ink_stands" "_law_ink_stands" sL_ink_stands f fd) (T : Txt K mg) (C_leftmost : CallOk P w K mg base 2 "leftmost" ["ink", "row"] (spEnd R4.lft)) (C_rightmost : CallOk P w K mg base 2 "rightmost" ["ink", "row"] (spEnd R4.rgt)) (C_step_of : CallOk P w K mg base 1 "step_of" ["ink"] spStep)
    (C__law_number : CallOk P w K mg base 1 "_law_number" ["_law_thing"] spNum) : FnOk P w K mg base CX0 3 f fd ["_law_told", "_law_due"] spIStand := by
  refine F.ok scL_ink_stands (fun vs H Q E h => ?_) (fun cdv A outer s H vs Q E hr h => ?_)
  · obtain ⟨t, u, i, rfl, _⟩ := h
    rfl
  · obtain ⟨t, u, i, rfl, ht, hu, k⟩ := h
    refine ⟨_, (pss_cons (ps_if (PW.pt (pw_or (pt_not (pt_val (pe_callB call_isi (by rfl) T.b_isinstance (by decide +kernel) (pa_cons (pv 0) (pa_cons (pe_bltn (v := .ty "tuple") (by rfl) T.b_tuple (by decide +kernel) rfl) pa_nil))))) (pw_or (pt_cmpR (op_neD hr.units) (pv 0) (pv 1) (nomark _)) (pw_or1 (pt_not (pt_val (pe_cc C__law_number (hr.mono (by decide)) (by rfl) (pa_cons (pe_cc C_step_of (hr.mono (by decide)) (by rfl) (pa_cons (pv 0) pa_nil)) pa_nil))))))))
        (pss_one (ps_ret pe_bl))
        pss_nil)
      (pss_cons (ps_set (i := 2) scL_ink_stands.nd rfl (.inl rfl) (pe_lst (pa_cons pe_int pa_nil)))
      (pss_cons (ps_for PassesOwn.never rfl (pi_range1 (by rfl) T.b_range (pa_cons pe_int pa_nil)) (pg_name (i := 3) scL_ink_stands.nd rfl (.inr rfl))
        (pss_cons (ps_setLc (i := 4) (own := [("_law_x", 5)]) (g := gName 5) (tt := tTest (tOp rEq (tOp rIxS (tOp (rIxT K) (tVar 1) (tVar 3)) (tVar 5)) (tC (.str "#")))) (te := tVar 5) rfl scL_ink_stands.nd rfl rfl (sw_true rfl rfl rfl (by decide +kernel)) (pi_range1 (by rfl) T.b_range (pa_cons pe_int pa_nil)) (blkOk_by (N := ["_law_told", "_law_due", "_law_far", "_law_row", "_law_places", "_law_x", "_law_ends"]) (sc := defScope sL_ink_stands) (by decide +kernel)) (fun _ _ _ _ _ => (pg_name (i := 5) scL_ink_stands.nd rfl (.inl rfl))) (fun _ _ _ _ _ => (pts_one (pt_cmpR op_eq (pe_ix ix_str (pe_ix ix_tup (pv 1) (pv 3) (fun _ _ => rfl)) (pv 5) (fun _ _ => rfl)) pe_str (nomark _)))) (fun _ _ _ _ _ => (pv 5)))
        (pss_cons (ps_set (i := 6) scL_ink_stands.nd rfl (.inl rfl) (pe_lst (pa_cons (pe_cc C_leftmost (hr.mono (by decide)) (by rfl) (pa_cons (pv 0) (pa_cons (pv 3) pa_nil))) (pa_cons (pe_cc C_rightmost (hr.mono (by decide)) (by rfl) (pa_cons (pv 0) (pa_cons (pv 3) pa_nil))) pa_nil))))
        (pss_cons (ps_if (pt_cmpR (op_eqD hr.units) (pv 4) (pe_lst pa_nil) (nomark _))
          (pss_one (ps_if (PW.pt (pw_or (pt_cmpR op_notN (pe_ix ix_list (pv 6) pe_int (fun _ _ => rfl)) pe_non (nomark _)) (pw_or1 (pt_cmpR op_notN (pe_ix ix_list (pv 6) pe_int (fun _ _ => rfl)) pe_non (nomark _)))))
            (pss_one (ps_ret pe_bl))
            pss_nil))
          (pss_one (ps_if (PW.pt (pw_or (pt_cmpR (op_neD hr.units) (pv 6) (pe_lst (pa_cons (pe_ix ix_list (pv 4) pe_int (fun _ _ => rfl)) (pa_cons (pe_ix ix_list (pv 4) (pe_un un_neg pe_int) (fun _ _ => rfl)) pa_nil))) (nomark _)) (pw_or (pt_not (pt_val (pe_cc C__law_number (hr.mono (by decide)) (by rfl) (pa_cons (pe_ix ix_list (pv 6) pe_int (fun _ _ => rfl)) pa_nil)))) (pw_or1 (pt_not (pt_val (pe_cc C__law_number (hr.mono (by decide)) (by rfl) (pa_cons (pe_ix ix_list (pv 6) pe_int (fun _ _ => rfl)) pa_nil))))))))
            (pss_one (ps_ret pe_bl))
            pss_nil)))
        (pss_one (ps_set (i := 2) scL_ink_stands.nd rfl (.inl rfl) (pe_op op_cat (pv 2) (pe_lc (own := [("_law_x", 5)]) (g := gName 5) (tt := tYes) rfl scL_ink_stands.nd (pi_list (pv 4)) (blkOk_by (N := ["_law_told", "_law_due", "_law_far", "_law_row", "_law_places", "_law_x", "_law_ends"]) (sc := defScope sL_ink_stands) (by decide +kernel)) (fun _ _ _ _ _ => (pg_name (i := 5) scL_ink_stands.nd rfl (.inl rfl))) (fun _ _ _ _ _ => pts_nil) (fun _ _ _ _ _ => (pe_op op_add (pv 5) pe_int))))))))))
      (pss_one (ps_ret (pe_cmpR op_eq (pe_cc C_step_of (hr.mono (by decide)) (by rfl) (pa_cons (pv 0) pa_nil)) (pe_callB (cr_max rfl) (by rfl) T.b_max (by decide +kernel) (pa_cons (pv 2) pa_nil)) (nomark _))))))), ?_⟩
    refine ⟨_, rfl, _, _, _, _, true, rfl, .ty _, .base (.tup ht), kit_ty (by decide +kernel), _, rfl, ?_⟩
    refine iteQ (by decide) ?_
    refine ⟨_, rfl, _, rfl, inkD i, inkD i, dp_ink ht, dp_ink hu, inkD_shaped i, inkD_shaped i, _, rfl, iteQ (eqv_ink i) ?_⟩
    refine ⟨_, rfl, t, i, rfl, ht, fun H1 s1 => ⟨_, rfl, _, rfl, iteQ (by decide) ?_⟩⟩
    refine ⟨by show 1 ≤ sizeLine; decide, fun F0 hF0 => ?_⟩
    have sF := s1.trans (same_new (o := .lst [.int 0]) hF0)
    refine ⟨4, rfl, by decide, by decide, for_range (lo := 0) (n := (4 : Int).toNat) (fun y σ H2 => ∃ (q : Addr) (y3 y4 y5 y6 : Option V), σ = [some (.ref t), some (.ref u), some (.ref q), y3, y4, y5, y6] ∧ Same H H2 ∧ H2 q = some (.lst ((farN i y).map V.int))) ⟨F0, none, none, none, none, rfl, sF, upd_same⟩ ?_ ?_⟩
    · rintro y σ H2 hy ⟨q, y3, y4, y5, y6, rfl, s2, hq⟩
      have hy4 : y < 4 := hy
      have ey : (0 : Int) + (y : Int) = (y : Int) := Int.zero_add _
      refine ⟨4, rfl, by decide, by decide, fun D hD => lc_range (lo := 0) (n := (4 : Int).toNat) (fun x H3 => H3 D = some (.lst (((i y).plN x).map V.int)) ∧ Same H2 H3) ⟨upd_same, same_new hD⟩ ?_ ?_⟩
      · rintro x H3 hx ⟨h3, s3⟩
        have hx4 : x < 4 := hx
        have ex : (0 : Int) + (x : Int) = (x : Int) := Int.zero_add _
        refine ⟨rfl, ?_⟩
        refine ⟨_, rfl, _, rfl, u, _, _, _, rfl, rfl, SqT.of (s3 _ _ (s2 _ _ hu)), by rw [ey]; exact atI_nat (at_ink i y hy4), _, rfl, _, _, _, rfl, rfl, by rw [row_len]; decide, by rw [ex]; exact at_row (i y) x hx4, rfl, _, rfl, ?_⟩
        rw [ch_eq]
        have ep : (i y).plN (x + 1) = (i y).plN x ++ if (i y).bit x = true then [(x : Int)] else [] := rfl
        have hln := plN_len (i y) x
        refine ite2 (fun h => ?_) (fun h => ?_)
        · rw [if_pos h] at ep
          refine ⟨_, rfl, _, h3, by rw [List.length_map]; exact Nat.lt_of_le_of_lt (m := 4) (by omega) (by decide), ?_, same_put hD s3⟩
          rw [upd_same, ep, List.map_append, ex]
          rfl
        · rw [if_neg h, List.append_nil] at ep
          rw [ep]
          exact ⟨h3, s3⟩
      rintro H3 ⟨h3, s3⟩
      have h3 : H3 D = some (.lst (((i y).plN 4).map V.int)) := h3
      have s23 := s2.trans s3
      refine ⟨_, rfl, _, rfl, t, i, y, by rw [ey]; rfl, s23 _ _ ht, hy4, _, rfl, _, rfl, t, i, y, by rw [ey]; rfl, s23 _ _ ht, hy4, by show 2 ≤ sizeLine; decide, fun E0 hE0 => ?_⟩
      have sE := s23.trans (same_new (o := .lst [optV (i y).lft, optV (i y).rgt]) hE0)
      have h3E := same_new (o := .lst [optV (i y).lft, optV (i y).rgt]) hE0 _ _ h3
      have hqE := same_new (o := .lst [optV (i y).lft, optV (i y).rgt]) hE0 _ _ (s3 _ _ hq)
      have hE : (upd H3 E0 (.lst [optV (i y).lft, optV (i y).rgt])) E0 = some (.lst [optV (i y).lft, optV (i y).rgt]) := upd_same
      revert sE h3E hqE hE
      generalize upd H3 E0 (.lst [optV (i y).lft, optV (i y).rgt]) = H4
      intro sE h3E hqE hE
      refine ⟨_, rfl, by show 0 ≤ sizeLine; decide, fun N hN => ?_⟩
      have s5 := same_new (o := .lst []) hN
      refine ⟨_, _, dp_ints (s5 _ _ h3E), dp_ints (ns := []) upd_same, intsD_shaped _, intsD_shaped _, _, rfl, ?_⟩
      rw [eqv_nil]
      obtain ⟨p1, p2, p3⟩ := pl_row (i y)
      obtain ⟨r1, r2, r3, r4, r5⟩ := ends_row (i y)
      have sz : Same H4 (upd H4 N (.lst [])) := s5
      revert sz
      generalize upd H4 N (.lst []) = H5
      intro sz
      have tail : ∀ H6, Same H4 H6 → ∀ D2, H6 D2 = none → ∃ W : Nat → Nat → Hp → Prop, (∃ m, W 0 m (upd H6 D2 (.lst []))) ∧ ∀ j m Hx, W j m Hx →
          ((Itl K D).stop j Hx ∧ rCat (.ref q) (.ref D2) Hx fun z H7 => ∃ (q' : Addr) (y3' y4' y5' y6' : Option V), [some (V.ref t), some (V.ref u), some z, some (V.int (0 + (y : Int))), some (V.ref D), y5, some (V.ref E0)] = [some (.ref t), some (.ref u), some (.ref q'), y3', y4', y5', y6'] ∧ Same H H7 ∧ H7 q' = some (.lst ((farN i (y + 1)).map V.int))) ∨
          ((Itl K D).go j Hx ∧ ∃ Nx : Hp → Prop, (∀ H', Nx H' → ∃ m', m' < m ∧ W (j + 1) m' H') ∧ ∀ x H', (Itl K D).yld j Hx x H' → gName 5 x (wipe [some (V.ref t), some (V.ref u), some (V.ref q), some (V.int (0 + (y : Int))), some (V.ref D), y5, some (V.ref E0)] [5]) H' fun σ2 H2 => wipe σ2 [5] = wipe [some (V.ref t), some (V.ref u), some (V.ref q), some (V.int (0 + (y : Int))), some (V.ref D), y5, some (V.ref E0)] [5] ∧ tYes σ2 H2 fun b H3 =>
            if b = true then tOp (rI0 fun i j => .int (i + j)) (tVar 5) (tC (.int 1)) σ2 H3 fun y H4 => ∃ acc, H4 D2 = some (.lst acc) ∧ acc.length < sizeLine ∧ Nx (upd H4 D2 (.lst (acc ++ [y]))) else Nx H3) := fun H6 s6 D2 hD2 => by
        have hq6 := s6 _ _ hqE
        have h36 := s6 _ _ h3E
        refine lc_list (K := K) (a := D) (xs := ((i y).plN 4).map V.int) (fun j H7 => H7 D2 = some (.lst (((((i y).plN 4).take j).map (· + 1)).map V.int)) ∧ Same H6 H7) ⟨upd_same, same_new hD2⟩ (fun j H7 _ ⟨_, s7⟩ => SqL.of (s7 _ _ h36)) ?_ ?_
        · rintro j x H7 hx ⟨h7, s7⟩
          rw [List.getElem?_map] at hx
          cases hz : ((i y).plN 4)[j]? with
          | none => rw [hz] at hx; cases hx
          | some z =>
            rw [hz] at hx
            cases hx
            have hpl := plN_len (i y) 4
            refine ⟨rfl, _, rfl, _, _, rfl, rfl, _, h7, by rw [List.length_map, List.length_map, List.length_take]; exact Nat.lt_of_le_of_lt (m := 4) (by omega) (by decide), ?_, same_put hD2 s7⟩
            rw [upd_same, List.take_add_one, hz, List.map_append, List.map_append]
            rfl
        · rintro H7 ⟨h7, s7⟩
          rw [List.length_map, List.take_of_length_le (Nat.le_refl _)] at h7
          have l1 := farN_len i y
          have l2 := plN_len (i y) 4
          refine ⟨q, D2, _, _, rfl, rfl, s7 _ _ hq6, h7, by rw [List.length_map, List.length_map, List.length_map]; exact Nat.le_trans (m := 100) (by omega) (by decide), fun p hp => ⟨p, _, _, _, _, rfl, ((sE.trans s6).trans s7).trans (same_new hp), ?_⟩⟩
          rw [upd_same, ← List.map_append]
          rfl
      by_cases hc : (i y).rgt < 0
      · refine iteP (decide_eq_true (p2 hc)) ?_
        rw [optN (r4 hc), optN hc] at hE
        refine ⟨_, rfl, E0, _, _, _, rfl, rfl, SqL.of (sz _ _ hE), atI_nat (j := 0) rfl, rfl, _, rfl, iteQ (nNe _) ?_⟩
        refine ⟨_, rfl, E0, _, _, _, rfl, rfl, SqL.of (sz _ _ hE), atI_nat (j := 1) rfl, rfl, _, rfl, iteQ (nNe _) ?_⟩
        exact ⟨_, rfl, _, rfl, D, rfl, ⟨_, SqL.of (sz _ _ h3E)⟩, tail _ sz⟩
      · obtain ⟨m1, m2, m3⟩ := p3 (by omega)
        refine iteQ (fun z => by have := of_decide_eq_true z; rw [this] at m1; cases m1) ?_
        rw [optI (fun z => hc (r5 z)), optI hc] at hE
        have hE5 := sz _ _ hE
        have h35 := sz _ _ h3E
        refine ⟨_, rfl, _, rfl, D, _, _, _, rfl, rfl, SqL.of h35, m2, _, rfl, 1, rfl, D, _, _, _, rfl, rfl, SqL.of h35, m3, by show 2 ≤ sizeLine; decide, fun M hM => ?_⟩
        have s6 := same_new (o := .lst [V.int (i y).lft, V.int (i y).rgt]) hM
        refine ⟨_, _, dp_ints (ns := [(i y).lft, (i y).rgt]) (s6 _ _ hE5), dp_ints (ns := [(i y).lft, (i y).rgt]) upd_same, intsD_shaped _, intsD_shaped _, _, rfl, iteQ (by rw [eqv_ints]; decide) ?_⟩
        have hE6 := s6 _ _ hE5
        refine ⟨_, rfl, E0, _, _, _, rfl, rfl, SqL.of hE6, atI_nat (j := 0) rfl, _, rfl, _, rfl, iteQ (by decide) ?_⟩
        refine ⟨_, rfl, E0, _, _, _, rfl, rfl, SqL.of hE6, atI_nat (j := 1) rfl, _, rfl, _, rfl, iteQ (by decide) ?_⟩
        exact ⟨_, rfl, _, rfl, D, rfl, ⟨_, SqL.of (s6 _ _ h35)⟩, tail _ (sz.trans s6)⟩
    · rintro σ H2 ⟨q, y3, y4, y5, y6, rfl, s2, hq⟩
      refine ⟨_, rfl, t, i, rfl, s2 _ _ ht, fun H3 s3 => ⟨_, rfl, q, farN i 4, rfl, SqL.of (s3 _ _ hq), by exact Nat.lt_of_lt_of_le (m := 1) (by decide) (List.length_pos_of_mem (far_zero i 4)), fun m hm hx => ?_⟩⟩
      rw [stp_far hm hx]
      refine ⟨rfl, ?_⟩
      rw [decide_eq_true rfl]
      exact k H3 (s2.trans s3)
end
end Pa
set_option maxRecDepth 100000
set_option maxHeartbeats 4000000
namespace Pa
open PySem PySem.Spec PyProof.Rows L2 Win
def tBy (t : TE) : TE := fun σ H Q => ∃ R : V → Hp → Prop, (∀ Q' : VK, (∀ v H', R v H' → Q' v H') → t σ H Q') ∧ ∀ v H', R v H' → Q v H'
theorem pe_by {X : Cx} {e : Expr} {t : TE} (h : PE X e t) : PE X e (tBy t) := ⟨fun pins s σ H Q I ⟨_, f, q⟩ => h.run pins s σ H Q I (f Q q)⟩
theorem eqv_rs (rs : List (List Pt)) : ¬ ((!PyData.eqv (rsD rs) (rsD rs)) = true) := by
  rw [SeqAt.eqv_refl _ (SeqAt.canLay_of_shaped (rsD_shaped rs))]
  decide
theorem Bk.same {b : Addr} {H H1 H2 : Hp} (x : Bk b H H1) (s : Same H1 H2) : Bk b H H2 := by
  obtain ⟨g, y, c, e⟩ := x.bag
  exact ⟨⟨g, y, c, s _ _ e⟩, fun q o hq h => s _ _ (x.keep q o hq h)⟩
def InkAt (H : Hp) (v : V) (k : I4) : Prop := TupAt H v (inkV k)
theorem InkAt.mono {H H' : Hp} (s : Same H H') {v : V} {k : I4} (h : InkAt H v k) : InkAt H' v k := TupAt.mono (Tups.of s) h
theorem InkAt.bk {b : Addr} {H H' : Hp} (hb : IsBag H b) (x : Bk b H H') {v : V} {k : I4} (h : InkAt H v k) : InkAt H' v k := by
  obtain ⟨t, e, q⟩ := h
  refine ⟨t, e, x.keep _ _ (fun z => ?_) q⟩
  obtain ⟨g, y, c, e2⟩ := hb
  rw [z, e2] at q
  cases q
section
variable {P : Program} {w : World} {K : PySem.W.Frag} {mg : Str → Option Value} {base : Heap}
def rListQ (K : PySem.W.Frag) : List V → Hp → VK → Prop := fun xs H Q => ∃ p ys, xs = [V.ref p] ∧ (SqL K H p ys ∨ SqT K H p ys) ∧ ∀ l, H l = none → Q (.ref l) (upd H l (.lst ys))
theorem call_listQ {X : Cx} {K : PySem.W.Frag} (hK : X.K = K) : CallR X (.type "list") (rListQ K) := by subst hK; exact call_list_of
/-! ### law -/
def spLaw (K : PySem.W.Frag) : Sp := fun vs H Q _ => ∃ (a : Addr) (ns : List Int), vs = [.ref a] ∧ SqL K H a (ns.map V.int) ∧ ns.length ≤ 63 ∧ ∀ H', Q (.bl true) H'
abbrev slaw : Stmt := topS 25
theorem sclaw : FnScope ["_law_script", "_law_at", "_law_bag_here", "_law_inks", "_law_turn_here", "_law_rings_here", "_law_kept", "_law_ring_here", "_law_told", "_law_left", "_law_right"] ["_law_script"] (defScope slaw) := ⟨rfl, rfl, rfl, by decide +kernel, rfl, by decide +kernel, by decide +kernel⟩
theorem ok_law {f : Addr} {fd : FuncData} (F : Fun K "law" "law" slaw f fd) (T : Txt K mg)
    (C__law_bag : CallOk P w K mg base 1 "_law_bag" ["_law_script", "_law_at"] (spBag K)) (C__law_draw : CallOk P w K mg base 1 "_law_draw" ["_law_bag_here", "_law_many"] spDraw) (C__law_rings : CallOk P w K mg base 3 "_law_rings" ["_law_bag_here"] spLRings)
    (C_ink_of : CallOk P w K mg base 6 "ink_of" ["rings"] spInkOf) (C__law_ink : CallOk P w K mg base 3 "_law_ink" ["_law_rings_here"] spLInk)
    (C__law_ink_stands : CallOk P w K mg base 3 "_law_ink_stands" ["_law_told", "_law_due"] spIStand) (C__law_blanks_stand : CallOk P w K mg base 4 "_law_blanks_stand" ["_law_left", "_law_right"] spBStand) : FnOk P w K mg base CX0 7 f fd ["_law_script"] (spLaw K) := by
  refine F.ok sclaw (fun vs H Q E h => ?_) (fun cdv A outer s H vs Q E hr h => ?_)
  · obtain ⟨a, ns, rfl, _⟩ := h
    rfl
  · obtain ⟨a, ns, rfl, hS, hns, k⟩ := h
    refine ⟨_, (pss_cons (ps_for PassesOwn.never rfl (pi_range1 (by rfl) T.b_range (pa_cons (pe_callB (call_max2 rfl) (by rfl) T.b_max (by decide +kernel) (pa_cons pe_int (pa_cons (pe_callB (call_min2 rfl) (by rfl) T.b_min (by decide +kernel) (pa_cons pe_int (pa_cons (pe_callB (r := rLenQ K) (id := "len") (call_lenQ (K := K) rfl) (by rfl) T.b_len PySem.boot_len (pa_cons (pv 0) pa_nil)) pa_nil))) pa_nil))) pa_nil)) (pg_name (i := 1) sclaw.nd rfl (.inl rfl))
        (pss_cons (ps_set (i := 2) sclaw.nd rfl (.inl rfl) (pe_cc C__law_bag (hr.mono (by decide)) (by rfl) (pa_cons (pv 0) (pa_cons (pv 1) pa_nil))))
        (pss_cons (ps_set (i := 3) sclaw.nd rfl (.inl rfl) (pe_lst pa_nil))
        (pss_cons (ps_for PassesOwn.never rfl (pi_range1 (by rfl) T.b_range (pa_cons pe_int pa_nil)) (pg_name (i := 4) sclaw.nd rfl (.inl rfl))
          (pss_cons (ps_set (i := 5) sclaw.nd rfl (.inl rfl) (pe_by (pe_ifExp (pt_cmpR op_gt (pe_cc C__law_draw (hr.mono (by decide)) (by rfl) (pa_cons (pv 2) (pa_cons pe_int pa_nil))) pe_int (nomark _)) (pe_cc C__law_rings (hr.mono (by decide)) (by rfl) (pa_cons (pv 2) pa_nil)) (pe_lst pa_nil))))
          (pss_cons (ps_setLc (i := 6) (own := [("_law_ring_here", 7)]) (g := gName 7) (tt := tYes) (te := tCB (rListQ K) (tCons (tVar 7) tNil)) rfl sclaw.nd rfl rfl (sw_true rfl rfl rfl (by decide +kernel)) (pi_list (pv 5)) (blkOk_by (N := ["_law_script", "_law_at", "_law_bag_here", "_law_inks", "_law_turn_here", "_law_rings_here", "_law_kept", "_law_ring_here", "_law_told", "_law_left", "_law_right"]) (sc := defScope slaw) (by decide +kernel)) (fun _ _ _ _ _ => (pg_name (i := 7) sclaw.nd rfl (.inl rfl))) (fun _ _ _ _ _ => pts_nil) (fun _ _ _ _ _ => (pe_callTy (r := rListQ K) (T := "list") (call_listQ (K := K) rfl) (by rfl) T.b_list (by decide +kernel) (pa_cons (pv 7) pa_nil))))
          (pss_cons (ps_set (i := 8) sclaw.nd rfl (.inl rfl) (pe_cc C_ink_of (hr.mono (by decide)) (by rfl) (pa_cons (pv 5) pa_nil)))
          (pss_cons (ps_if (PW.pt (pw_or (pt_not (pt_val (pe_cc C__law_ink_stands (hr.mono (by decide)) (by rfl) (pa_cons (pv 8) (pa_cons (pe_cc C__law_ink (hr.mono (by decide)) (by rfl) (pa_cons (pv 6) pa_nil)) pa_nil))))) (pw_or1 (pt_cmpR (op_neD hr.units) (pv 5) (pv 6) (nomark _)))))
            (pss_one (ps_ret pe_bl))
            pss_nil)
          (pss_cons (ps_if (pt_cmpR (op_neD hr.units) (pe_cc C_ink_of (hr.mono (by decide)) (by rfl) (pa_cons (pe_callTy (r := rTupQ K) (T := "tuple") (call_tupQ (K := K) rfl) (by rfl) T.b_tuple (by decide +kernel) (pa_cons (pe_lc (own := [("_law_ring_here", 7)]) (g := gName 7) (tt := tYes) (te := tCB (rTupQ K) (tCons (tVar 7) tNil)) rfl sclaw.nd (pi_list (pv 5)) (blkOk_by (N := ["_law_script", "_law_at", "_law_bag_here", "_law_inks", "_law_turn_here", "_law_rings_here", "_law_kept", "_law_ring_here", "_law_told", "_law_left", "_law_right"]) (sc := defScope slaw) (by decide +kernel)) (fun _ _ _ _ _ => (pg_name (i := 7) sclaw.nd rfl (.inl rfl))) (fun _ _ _ _ _ => pts_nil) (fun _ _ _ _ _ => (pe_callTy (r := rTupQ K) (T := "tuple") (call_tupQ (K := K) rfl) (by rfl) T.b_tuple (by decide +kernel) (pa_cons (pv 7) pa_nil)))) pa_nil)) pa_nil)) (pv 8) (nomark _))
            (pss_one (ps_ret pe_bl))
            pss_nil)
          (pss_one (ps_expr (pe_bm PySem.F.plainAttrs_list PySem.F.slot_list_append PySem.F.type_list_append mt_append (pv 3) (pa_cons (pv 8) pa_nil))))))))))
        (pss_one (ps_for PassesOwn.never rfl (pi_list (pv 3)) (pg_name (i := 9) sclaw.nd rfl (.inl rfl))
          (pss_one (ps_for PassesOwn.never rfl (pi_list (pv 3)) (pg_name (i := 10) sclaw.nd rfl (.inl rfl))
            (pss_one (ps_if (pt_not (pt_val (pe_cc C__law_blanks_stand (hr.mono (by decide)) (by rfl) (pa_cons (pv 9) (pa_cons (pv 10) pa_nil)))))
              (pss_one (ps_ret pe_bl))
              pss_nil))))))))))
      (pss_one (ps_ret pe_bl))), ?_⟩
    have hsl : ((ns.map V.int).length : Int) ≤ 63 := by rw [List.length_map]; omega
    have hJ : ∃ J : Nat, J ≤ 64 ∧ (if (if ((ns.map V.int).length : Int) < (4 : Int) then ((ns.map V.int).length : Int) else 4) > 1 then (if ((ns.map V.int).length : Int) < (4 : Int) then ((ns.map V.int).length : Int) else 4) else 1) = (J : Int) := by
      by_cases h1 : ((ns.map V.int).length : Int) < (4 : Int)
      · rw [if_pos h1]
        by_cases h2 : ((ns.map V.int).length : Int) > 1
        · rw [if_pos h2]
          exact ⟨(ns.map V.int).length, by omega, rfl⟩
        · rw [if_neg h2]
          exact ⟨1, by omega, rfl⟩
      · rw [if_neg h1, if_pos (by decide)]
        exact ⟨4, by omega, rfl⟩
    obtain ⟨J, hJ1, hJ2⟩ := hJ
    refine ⟨_, rfl, a, _, rfl, .inl hS, _, _, rfl, _, _, rfl, ?_⟩
    rw [hJ2]
    refine ⟨_, rfl, by omega, by omega, for_range (lo := 0) (n := ((J : Nat) : Int).toNat) (fun i σ H' => ∃ (y1 y2 y3 y4 y5 y6 y7 y8 y9 y10 : Option V), σ = [some (.ref a), y1, y2, y3, y4, y5, y6, y7, y8, y9, y10] ∧ Same H H')
      ⟨none, none, none, none, none, none, none, none, none, none, rfl, Same.refl H⟩ ?_ fun σ H' _ => k H'⟩
    rintro i σ H0 hi ⟨y1, y2, y3, y4, y5, y6, y7, y8, y9, y10, rfl, s0⟩
    refine ⟨_, rfl, _, rfl, a, _, ns, rfl, s0.seq hS, by omega, by omega, fun b H1 nb isb kp => ?_⟩
    have s1 : Same H0 H1 := fun q o e => kp q o (ne_of_none e nb) e
    have toS : ∀ {H'}, Bk b H1 H' → Same H0 H' := fun B q o e => B.keep q o (ne_of_none e nb) (s1 q o e)
    refine ⟨by show 0 ≤ sizeLine; decide, fun q hq => ?_⟩
    have nqb : q ≠ b := bag_ne isb hq
    refine ⟨2, rfl, by decide, by decide, for_range (lo := 0) (n := (2 : Int).toNat) (fun j σ H' => ∃ (z4 z5 z6 z8 : Option V) (ls : List V) (ks : List I4), σ = [some (.ref a), some (.int (0 + (i : Int))), some (.ref b), some (.ref q), z4, z5, z6, y7, z8, y9, y10] ∧ Bk b H1 H' ∧ H' q = some (.lst ls) ∧ AllAt InkAt H' ls ks ∧ ks.length = j)
      ⟨y4, y5, y6, y8, [], [], rfl, (Bk.refl isb).putN isb hq, upd_same, trivial, rfl⟩ ?_ ?_⟩
    · rintro j σ H2 hj ⟨z4, z5, z6, z8, ls, ks, rfl, B2, hls, hks, hkl⟩
      have hj2 : j < 2 := hj
      refine ⟨fun v H' => ∃ p xs rs, v = .ref p ∧ H2 p = none ∧ Bk b H2 H' ∧ H' p = some (.lst xs) ∧ AllAt RingL H' xs rs ∧ rs.length ≤ 3 ∧ ∀ ps ∈ rs, Ring8 ps, fun Q' hQ => ?_, ?_⟩
      · refine ⟨_, rfl, b, 8, rfl, B2.bag, by decide, by decide, fun d H3 d0 d1 B3 => ⟨_, _, rfl, rfl, _, rfl, ite2 (fun h => ?_) (fun h => ?_)⟩⟩
        · exact ⟨_, rfl, b, rfl, B3.bag, fun p H4 xs rs hp B4 hx hall h3 h8 => hQ _ _ ⟨p, xs, rs, rfl, B3.free B2.bag hp, B3.trans B4, hx, hall, h3, h8⟩⟩
        · exact ⟨by show 0 ≤ sizeLine; decide, fun p hp => hQ _ _ ⟨p, [], [], rfl, B3.free B2.bag hp, B3.fresh hp, upd_same, trivial, by decide, fun _ hz => (List.not_mem_nil hz).elim⟩⟩
      rintro _ H4 ⟨p, xs, rs, rfl, hp2, B4, hx, hall, h3, h8⟩
      have good := good8 h3 h8
      have hls4 := B4.keep q _ nqb hls
      have hks4 : AllAt InkAt H4 ls ks := hks.mono fun _ _ => InkAt.bk B2.bag B4
      have B14 := B2.trans B4
      -- kept
      refine ⟨_, rfl, p, rfl, ⟨_, SqL.of hx⟩, fun D hD => lc_made (K := K) (R := RingL) (a := p) (xs := xs) (ys := rs) (fun s h => RingL.mono s h) hx hD hall.len (by omega) (fun _ => rfl) (fun j x y H3 Q hx3 hy3 s3 kq => ?_) (fun ms H5 hms hkept s5 => ?_)⟩
      · obtain ⟨y', hy', r, zs, rfl, hr, hz⟩ := hall.at hx3
        rw [hy3] at hy'
        cases hy'
        exact ⟨_, rfl, r, zs, rfl, .inl (SqL.of (s3 _ _ hr)), fun l hl => kq l _ hl fun H5 s5 e5 => ⟨l, zs, rfl, e5, hz.mono fun _ _ => CornT.mono s5⟩⟩
      have w1 : ∀ {H'}, Same H4 H' → RingsAt H' (.ref p) rs := fun s => ⟨p, xs, rfl, .inl (s _ _ hx), hall.imp fun _ _ h => RingAt.mono s h.at⟩
      refine ⟨_, rfl, _, rs, rfl, w1 s5, good, fun t H6 ht s6 hit => ?_⟩
      refine ⟨_, rfl, _, rfl, D, ms, rs, rfl, s6 _ _ hms, hkept.imp fun _ _ h => RingAt.mono s6 h.at, good, fun t2 H7 ht2 s7 hit2 => ?_⟩
      refine ⟨t, t2, wInk rs, rfl, s7 _ _ hit, hit2, fun H8 s8 => ⟨_, rfl, iteQ (by decide) ?_⟩⟩
      have s58 := (s6.trans s7).trans s8
      have s48 := s5.trans s58
      refine ⟨_, rfl, _, rfl, rsD rs, rsD rs, dp_rs (s48 _ _ hx) (hall.mono fun _ _ => RingL.mono s48), dp_rs (s58 _ _ hms) (hkept.mono fun _ _ => RingL.mono s58), rsD_shaped rs, rsD_shaped rs, _, rfl, iteQ (eqv_rs rs) ?_⟩
      have hx8 := s48 _ _ hx
      have hall8 : AllAt RingL H8 xs rs := hall.mono fun _ _ => RingL.mono s48
      refine ⟨_, rfl, p, rfl, ⟨_, SqL.of hx8⟩, fun G hG => lc_made (K := K) (R := RingT) (a := p) (xs := xs) (ys := rs) (fun s h => RingT.mono s h) hx8 hG hall.len (by omega) (fun _ => rfl) (fun j x y H9 Q hx9 hy9 s9 kq => ?_) (fun ts H9 hts htups s9 => ?_)⟩
      · obtain ⟨y', hy', r, zs, rfl, hr, hz⟩ := hall8.at hx9
        rw [hy9] at hy'
        cases hy'
        exact ⟨_, rfl, r, zs, rfl, .inl ⟨SqL.of (s9 _ _ hr), fun l hl => kq l _ hl fun Hb sb eb => ⟨l, zs, rfl, eb, hz.mono fun _ _ => CornT.mono sb⟩⟩⟩
      refine ⟨G, ts, rfl, .inl ⟨SqL.of hts, fun u hu => ?_⟩⟩
      have su := same_new (o := .tup ts) hu
      refine ⟨_, rs, rfl, ⟨u, ts, rfl, .inr upd_same, htups.imp fun _ _ h => RingAt.mono su h.at⟩, good, fun t3 Ha ht3 sa hit3 => ?_⟩
      have s8a := (s9.trans su).trans sa
      have s6a := (s7.trans s8).trans s8a
      refine ⟨_, rfl, inkD (wInk rs), inkD (wInk rs), dp_ink hit3, dp_ink (s6a _ _ hit), inkD_shaped _, inkD_shaped _, _, rfl, iteQ (eqv_ink _) ?_⟩
      have s4a := s48.trans s8a
      have hlsa := s4a _ _ hls4
      have hks9 : AllAt InkAt Ha ls ks := hks4.mono fun _ _ => InkAt.mono s4a
      refine ⟨_, rfl, .inl ⟨rfl, _, SqL.of hlsa⟩, _, rfl, q, _, _, rfl, rfl, hlsa, by rw [hks.len, hkl]; exact Nat.lt_trans hj2 (by decide), ?_⟩
      have put : ∀ {v : V} {k : I4}, InkAt Ha v k → InkAt (upd Ha q (.lst (ls ++ [V.ref t]))) v k := fun h => TupAt.mono (Tups.lst hlsa) h
      exact ⟨_, _, _, _, _, ks ++ [wInk rs], rfl, (B14.same s4a).putN isb hq, upd_same, AllAt.snoc (hks9.imp fun _ _ h => put h) (put ⟨t, rfl, s6a _ _ hit⟩), by rw [List.length_append, hkl]; rfl⟩
    · rintro σ H2 ⟨z4, z5, z6, z8, ls, ks, rfl, B2, hls, hks, hkl⟩
      refine ⟨_, rfl, q, rfl, ⟨_, SqL.of hls⟩, for_list (K := K) (a := q) (xs := ls) (fun j σ H' => ∃ (z9 z10 : Option V), σ = [some (.ref a), some (.int (0 + (i : Int))), some (.ref b), some (.ref q), z4, z5, z6, y7, z8, z9, z10] ∧ Same H2 H') ⟨_, _, rfl, Same.refl H2⟩ (fun j σ H' _ ⟨_, _, _, s⟩ => SqL.of (s _ _ hls)) ?_ ?_⟩
      · rintro j v σ H3 hv ⟨z9, z10, rfl, s3⟩
        obtain ⟨kl, _, t, rfl, ht⟩ := hks.at hv
        refine ⟨_, rfl, q, rfl, ⟨_, SqL.of (s3 _ _ hls)⟩, for_list (K := K) (a := q) (xs := ls) (fun j σ H' => ∃ (z10 : Option V), σ = [some (.ref a), some (.int (0 + (i : Int))), some (.ref b), some (.ref q), z4, z5, z6, y7, z8, some (.ref t), z10] ∧ Same H2 H') ⟨_, rfl, s3⟩ (fun j σ H' _ ⟨_, _, s⟩ => SqL.of (s _ _ hls)) ?_ ?_⟩
        · rintro j2 v2 σ H4 hv2 ⟨z10, rfl, s4⟩
          obtain ⟨kr, _, u, rfl, hu⟩ := hks.at hv2
          refine ⟨_, rfl, _, rfl, t, u, kl, kr, rfl, s4 _ _ ht, s4 _ _ hu, fun H5 s5 => ⟨_, rfl, iteQ (by decide) ?_⟩⟩
          exact ⟨_, rfl, s4.trans s5⟩
        · rintro σ H4 ⟨z10, rfl, s4⟩
          exact ⟨_, _, rfl, s4⟩
      · rintro σ H3 ⟨z9, z10, rfl, s3⟩
        exact ⟨_, _, _, _, _, _, _, _, _, _, rfl, s0.trans ((toS B2).trans s3)⟩
end
end Pa
set_option maxRecDepth 100000
set_option maxHeartbeats 4000000
namespace Pa
open PySem PySem.Spec PyProof.Rows L2
/-! ### what the top has written -/
theorem all_mk {l : PySem.W.OpenLaw} {w : World} {K : PySem.W.Frag} {h : Heap} {mg : Str → Option Value} {fa f0 f1 f2 f3 f4 f5 f6 f7 f8 f9 f10 f11 f12 f13 f14 f15 f16 f17 f18 f19 f20 f21 : Addr} (X : K.In h) (G : h.Ns mainGlobals mg) (hfa : mg "law" = some (.ref fa))
    {od0 an0 od1 an1 od2 an2 od3 an3 od4 an4 od5 an5 od6 an6 od7 an7 od8 an8 od9 an9 od10 an10 od11 an11 od12 an12 od13 an13 od14 an14 od15 an15 od16 an16 od17 an17 od18 an18 od19 an19 od20 an20 od21 an21 : Option Addr} {sl0 sl1 sl2 sl3 sl4 sl5 sl6 sl7 sl8 sl9 sl10 sl11 sl12 sl13 sl14 sl15 sl16 sl17 sl18 sl19 sl20 sl21 : Array (Option Value)} {oc0 kV0 dc0 pm0 cd0 ct0 oc1 kV1 dc1 pm1 cd1 ct1 oc2 kV2 dc2 pm2 cd2 ct2 oc3 kV3 dc3 pm3 cd3 ct3 oc4 kV4 dc4 pm4 cd4 ct4 oc5 kV5 dc5 pm5 cd5 ct5 oc6 kV6 dc6 pm6 cd6 ct6 oc7 kV7 dc7 pm7 cd7 ct7 oc8 kV8 dc8 pm8 cd8 ct8 oc9 kV9 dc9 pm9 cd9 ct9 oc10 kV10 dc10 pm10 cd10 ct10 oc11 kV11 dc11 pm11 cd11 ct11 oc12 kV12 dc12 pm12 cd12 ct12 oc13 kV13 dc13 pm13 cd13 ct13 oc14 kV14 dc14 pm14 cd14 ct14 oc15 kV15 dc15 pm15 cd15 ct15 oc16 kV16 dc16 pm16 cd16 ct16 oc17 kV17 dc17 pm17 cd17 ct17 oc18 kV18 dc18 pm18 cd18 ct18 oc19 kV19 dc19 pm19 cd19 ct19 oc20 kV20 dc20 pm20 cd20 ct20 oc21 kV21 dc21 pm21 cd21 ct21 : Value}
    (a0 : PySem.W.nsIn K mainGlobals "each_side" = some (some (.ref f0)))
    (l0 : K.lookup f0 = some ⟨oc0, od0, .func (PySem.W.fnOf "each_side" "each_side" (defArgs seach_side) (defBody seach_side) (defScope seach_side) .none kV0 dc0 pm0 an0 cd0 ct0), sl0⟩) (c0 : PySem.W.codeIn K cd0 "each_side" = true) (k0 : PySem.W.keepIn K (.ref f0) = true)
    (a1 : PySem.W.nsIn K mainGlobals "winding" = some (some (.ref f1)))
    (l1 : K.lookup f1 = some ⟨oc1, od1, .func (PySem.W.fnOf "winding" "winding" (defArgs swinding) (defBody swinding) (defScope swinding) .none kV1 dc1 pm1 an1 cd1 ct1), sl1⟩) (c1 : PySem.W.codeIn K cd1 "winding" = true) (k1 : PySem.W.keepIn K (.ref f1) = true)
    (a2 : PySem.W.nsIn K mainGlobals "_count_of" = some (some (.ref f2)))
    (l2 : K.lookup f2 = some ⟨oc2, od2, .func (PySem.W.fnOf "_count_of" "_count_of" (defArgs s_count_of) (defBody s_count_of) (defScope s_count_of) .none kV2 dc2 pm2 an2 cd2 ct2), sl2⟩) (c2 : PySem.W.codeIn K cd2 "_count_of" = true) (k2 : PySem.W.keepIn K (.ref f2) = true)
    (a3 : PySem.W.nsIn K mainGlobals "ink_of" = some (some (.ref f3)))
    (l3 : K.lookup f3 = some ⟨oc3, od3, .func (PySem.W.fnOf "ink_of" "ink_of" (defArgs sink_of) (defBody sink_of) (defScope sink_of) .none kV3 dc3 pm3 an3 cd3 ct3), sl3⟩) (c3 : PySem.W.codeIn K cd3 "ink_of" = true) (k3 : PySem.W.keepIn K (.ref f3) = true)
    (a4 : PySem.W.nsIn K mainGlobals "_ink_row" = some (some (.ref f4)))
    (l4 : K.lookup f4 = some ⟨oc4, od4, .func (PySem.W.fnOf "_ink_row" "_ink_row" (defArgs s_ink_row) (defBody s_ink_row) (defScope s_ink_row) .none kV4 dc4 pm4 an4 cd4 ct4), sl4⟩) (c4 : PySem.W.codeIn K cd4 "_ink_row" = true) (k4 : PySem.W.keepIn K (.ref f4) = true)
    (a5 : PySem.W.nsIn K mainGlobals "leftmost" = some (some (.ref f5)))
    (l5 : K.lookup f5 = some ⟨oc5, od5, .func (PySem.W.fnOf "leftmost" "leftmost" (defArgs sleftmost) (defBody sleftmost) (defScope sleftmost) .none kV5 dc5 pm5 an5 cd5 ct5), sl5⟩) (c5 : PySem.W.codeIn K cd5 "leftmost" = true) (k5 : PySem.W.keepIn K (.ref f5) = true)
    (a6 : PySem.W.nsIn K mainGlobals "rightmost" = some (some (.ref f6)))
    (l6 : K.lookup f6 = some ⟨oc6, od6, .func (PySem.W.fnOf "rightmost" "rightmost" (defArgs srightmost) (defBody srightmost) (defScope srightmost) .none kV6 dc6 pm6 an6 cd6 ct6), sl6⟩) (c6 : PySem.W.codeIn K cd6 "rightmost" = true) (k6 : PySem.W.keepIn K (.ref f6) = true)
    (a7 : PySem.W.nsIn K mainGlobals "_column_or_none" = some (some (.ref f7)))
    (l7 : K.lookup f7 = some ⟨oc7, od7, .func (PySem.W.fnOf "_column_or_none" "_column_or_none" (defArgs s_column_or_none) (defBody s_column_or_none) (defScope s_column_or_none) .none kV7 dc7 pm7 an7 cd7 ct7), sl7⟩) (c7 : PySem.W.codeIn K cd7 "_column_or_none" = true) (k7 : PySem.W.keepIn K (.ref f7) = true)
    (a8 : PySem.W.nsIn K mainGlobals "step_of" = some (some (.ref f8)))
    (l8 : K.lookup f8 = some ⟨oc8, od8, .func (PySem.W.fnOf "step_of" "step_of" (defArgs sstep_of) (defBody sstep_of) (defScope sstep_of) .none kV8 dc8 pm8 an8 cd8 ct8), sl8⟩) (c8 : PySem.W.codeIn K cd8 "step_of" = true) (k8 : PySem.W.keepIn K (.ref f8) = true)
    (a9 : PySem.W.nsIn K mainGlobals "blanks" = some (some (.ref f9)))
    (l9 : K.lookup f9 = some ⟨oc9, od9, .func (PySem.W.fnOf "blanks" "blanks" (defArgs sblanks) (defBody sblanks) (defScope sblanks) .none kV9 dc9 pm9 an9 cd9 ct9), sl9⟩) (c9 : PySem.W.codeIn K cd9 "blanks" = true) (k9 : PySem.W.keepIn K (.ref f9) = true)
    (a10 : PySem.W.nsIn K mainGlobals "_law_bag" = some (some (.ref f10)))
    (l10 : K.lookup f10 = some ⟨oc10, od10, .func (PySem.W.fnOf "_law_bag" "_law_bag" (defArgs sBag) (defBody sBag) (defScope sBag) .none kV10 dc10 pm10 an10 cd10 ct10), sl10⟩) (c10 : PySem.W.codeIn K cd10 "_law_bag" = true) (k10 : PySem.W.keepIn K (.ref f10) = true)
    (a11 : PySem.W.nsIn K mainGlobals "_law_draw" = some (some (.ref f11)))
    (l11 : K.lookup f11 = some ⟨oc11, od11, .func (PySem.W.fnOf "_law_draw" "_law_draw" (defArgs sDraw) (defBody sDraw) (defScope sDraw) .none kV11 dc11 pm11 an11 cd11 ct11), sl11⟩) (c11 : PySem.W.codeIn K cd11 "_law_draw" = true) (k11 : PySem.W.keepIn K (.ref f11) = true)
    (a12 : PySem.W.nsIn K mainGlobals "_law_number" = some (some (.ref f12)))
    (l12 : K.lookup f12 = some ⟨oc12, od12, .func (PySem.W.fnOf "_law_number" "_law_number" (defArgs sL_number) (defBody sL_number) (defScope sL_number) .none kV12 dc12 pm12 an12 cd12 ct12), sl12⟩) (c12 : PySem.W.codeIn K cd12 "_law_number" = true) (k12 : PySem.W.keepIn K (.ref f12) = true)
    (a13 : PySem.W.nsIn K mainGlobals "_law_ring" = some (some (.ref f13)))
    (l13 : K.lookup f13 = some ⟨oc13, od13, .func (PySem.W.fnOf "_law_ring" "_law_ring" (defArgs sL_ring) (defBody sL_ring) (defScope sL_ring) .none kV13 dc13 pm13 an13 cd13 ct13), sl13⟩) (c13 : PySem.W.codeIn K cd13 "_law_ring" = true) (k13 : PySem.W.keepIn K (.ref f13) = true)
    (a14 : PySem.W.nsIn K mainGlobals "_law_rings" = some (some (.ref f14)))
    (l14 : K.lookup f14 = some ⟨oc14, od14, .func (PySem.W.fnOf "_law_rings" "_law_rings" (defArgs sL_rings) (defBody sL_rings) (defScope sL_rings) .none kV14 dc14 pm14 an14 cd14 ct14), sl14⟩) (c14 : PySem.W.codeIn K cd14 "_law_rings" = true) (k14 : PySem.W.keepIn K (.ref f14) = true)
    (a15 : PySem.W.nsIn K mainGlobals "_law_turn" = some (some (.ref f15)))
    (l15 : K.lookup f15 = some ⟨oc15, od15, .func (PySem.W.fnOf "_law_turn" "_law_turn" (defArgs sL_turn) (defBody sL_turn) (defScope sL_turn) .none kV15 dc15 pm15 an15 cd15 ct15), sl15⟩) (c15 : PySem.W.codeIn K cd15 "_law_turn" = true) (k15 : PySem.W.keepIn K (.ref f15) = true)
    (a16 : PySem.W.nsIn K mainGlobals "_law_winding" = some (some (.ref f16)))
    (l16 : K.lookup f16 = some ⟨oc16, od16, .func (PySem.W.fnOf "_law_winding" "_law_winding" (defArgs sL_winding) (defBody sL_winding) (defScope sL_winding) .none kV16 dc16 pm16 an16 cd16 ct16), sl16⟩) (c16 : PySem.W.codeIn K cd16 "_law_winding" = true) (k16 : PySem.W.keepIn K (.ref f16) = true)
    (a17 : PySem.W.nsIn K mainGlobals "_law_ink" = some (some (.ref f17)))
    (l17 : K.lookup f17 = some ⟨oc17, od17, .func (PySem.W.fnOf "_law_ink" "_law_ink" (defArgs sL_ink) (defBody sL_ink) (defScope sL_ink) .none kV17 dc17 pm17 an17 cd17 ct17), sl17⟩) (c17 : PySem.W.codeIn K cd17 "_law_ink" = true) (k17 : PySem.W.keepIn K (.ref f17) = true)
    (a18 : PySem.W.nsIn K mainGlobals "_law_blanks" = some (some (.ref f18)))
    (l18 : K.lookup f18 = some ⟨oc18, od18, .func (PySem.W.fnOf "_law_blanks" "_law_blanks" (defArgs sL_blanks) (defBody sL_blanks) (defScope sL_blanks) .none kV18 dc18 pm18 an18 cd18 ct18), sl18⟩) (c18 : PySem.W.codeIn K cd18 "_law_blanks" = true) (k18 : PySem.W.keepIn K (.ref f18) = true)
    (a19 : PySem.W.nsIn K mainGlobals "_law_ink_stands" = some (some (.ref f19)))
    (l19 : K.lookup f19 = some ⟨oc19, od19, .func (PySem.W.fnOf "_law_ink_stands" "_law_ink_stands" (defArgs sL_ink_stands) (defBody sL_ink_stands) (defScope sL_ink_stands) .none kV19 dc19 pm19 an19 cd19 ct19), sl19⟩) (c19 : PySem.W.codeIn K cd19 "_law_ink_stands" = true) (k19 : PySem.W.keepIn K (.ref f19) = true)
    (a20 : PySem.W.nsIn K mainGlobals "_law_blanks_stand" = some (some (.ref f20)))
    (l20 : K.lookup f20 = some ⟨oc20, od20, .func (PySem.W.fnOf "_law_blanks_stand" "_law_blanks_stand" (defArgs sL_blanks_stand) (defBody sL_blanks_stand) (defScope sL_blanks_stand) .none kV20 dc20 pm20 an20 cd20 ct20), sl20⟩) (c20 : PySem.W.codeIn K cd20 "_law_blanks_stand" = true) (k20 : PySem.W.keepIn K (.ref f20) = true)
    (a21 : PySem.W.nsIn K mainGlobals "law" = some (some (.ref f21)))
    (l21 : K.lookup f21 = some ⟨oc21, od21, .func (PySem.W.fnOf "law" "law" (defArgs slaw) (defBody slaw) (defScope slaw) .none kV21 dc21 pm21 an21 cd21 ct21), sl21⟩) (c21 : PySem.W.codeIn K cd21 "law" = true) (k21 : PySem.W.keepIn K (.ref f21) = true)
    {tkG : Tok} (aG : PySem.W.nsIn K mainGlobals "GRID" = some (some (.int 4 tkG)))
    (z_len : PySem.W.nsIn K mainGlobals "len" = some none)
    (z_range : PySem.W.nsIn K mainGlobals "range" = some none)
    (z_int : PySem.W.nsIn K mainGlobals "int" = some none)
    (z_abs : PySem.W.nsIn K mainGlobals "abs" = some none)
    (z_enumerate : PySem.W.nsIn K mainGlobals "enumerate" = some none)
    (z_isinstance : PySem.W.nsIn K mainGlobals "isinstance" = some none)
    (z_bool : PySem.W.nsIn K mainGlobals "bool" = some none)
    (z_list : PySem.W.nsIn K mainGlobals "list" = some none)
    (z_tuple : PySem.W.nsIn K mainGlobals "tuple" = some none)
    (z_max : PySem.W.nsIn K mainGlobals "max" = some none)
    (z_min : PySem.W.nsIn K mainGlobals "min" = some none)
    (z_all : PySem.W.nsIn K mainGlobals "all" = some none)
    (z_sum : PySem.W.nsIn K mainGlobals "sum" = some none)
    : ∃ fd : FuncData, (∀ (s : Shared) (u : Value), BindsTo s fd ⟨[u], []⟩ [("_law_script", u)]) ∧ ∀ base : Heap, K.In base → base.Ns mainGlobals mg → FnOk l.prog w K mg base CX0 7 fa fd ["_law_script"] (spLaw K) := by
  have e := hfa.symm.trans (PySem.W.mg_of X G a21)
  cases e
  have T : Txt K mg := ⟨(PySem.W.mg_none_of X G z_len), (PySem.W.mg_none_of X G z_range), (PySem.W.mg_none_of X G z_int), (PySem.W.mg_none_of X G z_abs), (PySem.W.mg_none_of X G z_enumerate), (PySem.W.mg_none_of X G z_isinstance), (PySem.W.mg_none_of X G z_bool), (PySem.W.mg_none_of X G z_list), (PySem.W.mg_none_of X G z_tuple), (PySem.W.mg_none_of X G z_max), (PySem.W.mg_none_of X G z_min), (PySem.W.mg_none_of X G z_all), (PySem.W.mg_none_of X G z_sum)⟩
  have T2 : Txt2 mg := ⟨⟨_, PySem.W.mg_of X G aG⟩⟩
  have F0 := fun_mk (st := seach_side) l0 c0 k0
  have b0 := F0.binds (ps := ["ring"]) fun _ _ _ _ _ _ us hl => match us, hl with | [_], _ => rfl
  have F1 := fun_mk (st := swinding) l1 c1 k1
  have b1 := F1.binds (ps := ["rings", "x", "y"]) fun _ _ _ _ _ _ us hl => match us, hl with | [_, _, _], _ => rfl
  have F2 := fun_mk (st := s_count_of) l2 c2 k2
  have b2 := F2.binds (ps := ["side", "x", "y"]) fun _ _ _ _ _ _ us hl => match us, hl with | [_, _, _], _ => rfl
  have F3 := fun_mk (st := sink_of) l3 c3 k3
  have b3 := F3.binds (ps := ["rings"]) fun _ _ _ _ _ _ us hl => match us, hl with | [_], _ => rfl
  have F4 := fun_mk (st := s_ink_row) l4 c4 k4
  have b4 := F4.binds (ps := ["rings", "y"]) fun _ _ _ _ _ _ us hl => match us, hl with | [_, _], _ => rfl
  have F5 := fun_mk (st := sleftmost) l5 c5 k5
  have b5 := F5.binds (ps := ["ink", "row"]) fun _ _ _ _ _ _ us hl => match us, hl with | [_, _], _ => rfl
  have F6 := fun_mk (st := srightmost) l6 c6 k6
  have b6 := F6.binds (ps := ["ink", "row"]) fun _ _ _ _ _ _ us hl => match us, hl with | [_, _], _ => rfl
  have F7 := fun_mk (st := s_column_or_none) l7 c7 k7
  have b7 := F7.binds (ps := ["column"]) fun _ _ _ _ _ _ us hl => match us, hl with | [_], _ => rfl
  have F8 := fun_mk (st := sstep_of) l8 c8 k8
  have b8 := F8.binds (ps := ["ink"]) fun _ _ _ _ _ _ us hl => match us, hl with | [_], _ => rfl
  have F9 := fun_mk (st := sblanks) l9 c9 k9
  have b9 := F9.binds (ps := ["left", "right", "row", "gap"]) fun _ _ _ _ _ _ us hl => match us, hl with | [_, _, _, _], _ => rfl
  have F10 := fun_mk (st := sBag) l10 c10 k10
  have b10 := F10.binds (ps := ["_law_script", "_law_at"]) fun _ _ _ _ _ _ us hl => match us, hl with | [_, _], _ => rfl
  have F11 := fun_mk (st := sDraw) l11 c11 k11
  have b11 := F11.binds (ps := ["_law_bag_here", "_law_many"]) fun _ _ _ _ _ _ us hl => match us, hl with | [_, _], _ => rfl
  have F12 := fun_mk (st := sL_number) l12 c12 k12
  have b12 := F12.binds (ps := ["_law_thing"]) fun _ _ _ _ _ _ us hl => match us, hl with | [_], _ => rfl
  have F13 := fun_mk (st := sL_ring) l13 c13 k13
  have b13 := F13.binds (ps := ["_law_bag_here", "_law_many"]) fun _ _ _ _ _ _ us hl => match us, hl with | [_, _], _ => rfl
  have F14 := fun_mk (st := sL_rings) l14 c14 k14
  have b14 := F14.binds (ps := ["_law_bag_here"]) fun _ _ _ _ _ _ us hl => match us, hl with | [_], _ => rfl
  have F15 := fun_mk (st := sL_turn) l15 c15 k15
  have b15 := F15.binds (ps := ["_law_start", "_law_stop", "_law_x", "_law_y"]) fun _ _ _ _ _ _ us hl => match us, hl with | [_, _, _, _], _ => rfl
  have F16 := fun_mk (st := sL_winding) l16 c16 k16
  have b16 := F16.binds (ps := ["_law_rings_here", "_law_x", "_law_y"]) fun _ _ _ _ _ _ us hl => match us, hl with | [_, _, _], _ => rfl
  have F17 := fun_mk (st := sL_ink) l17 c17 k17
  have b17 := F17.binds (ps := ["_law_rings_here"]) fun _ _ _ _ _ _ us hl => match us, hl with | [_], _ => rfl
  have F18 := fun_mk (st := sL_blanks) l18 c18 k18
  have b18 := F18.binds (ps := ["_law_left", "_law_right", "_law_row", "_law_gap"]) fun _ _ _ _ _ _ us hl => match us, hl with | [_, _, _, _], _ => rfl
  have F19 := fun_mk (st := sL_ink_stands) l19 c19 k19
  have b19 := F19.binds (ps := ["_law_told", "_law_due"]) fun _ _ _ _ _ _ us hl => match us, hl with | [_, _], _ => rfl
  have F20 := fun_mk (st := sL_blanks_stand) l20 c20 k20
  have b20 := F20.binds (ps := ["_law_left", "_law_right"]) fun _ _ _ _ _ _ us hl => match us, hl with | [_, _], _ => rfl
  have F21 := fun_mk (st := slaw) l21 c21 k21
  refine ⟨PySem.W.fnOf "law" "law" (defArgs slaw) (defBody slaw) (defScope slaw) .none kV21 dc21 pm21 an21 cd21 ct21, fun s v => .of_eq rfl, fun base _ _ => ?_⟩
  have C_each_side : WOk l.prog w K mg base 2 "each_side" ["ring"] spSides := ⟨⟨f0, _, PySem.W.mg_of X G a0, k0, b0, wf_each_side F0 T⟩⟩
  have C__count_of : CallOk l.prog w K mg base 1 "_count_of" ["side", "x", "y"] (spCount K) := call_ok (PySem.W.mg_of X G a2) k2 b2 (ok_count_of F2 T)
  have C_winding : CallOk l.prog w K mg base 4 "winding" ["rings", "x", "y"] spWinding := call_ok (PySem.W.mg_of X G a1) k1 b1 (ok_winding F1 T C_each_side C__count_of)
  have C__law_bag : CallOk l.prog w K mg base 1 "_law_bag" ["_law_script", "_law_at"] (spBag K) := call_ok (PySem.W.mg_of X G a10) k10 b10 (ok_bag F10 (PySem.W.mg_none_of X G z_int) (PySem.W.mg_none_of X G z_abs) (PySem.W.mg_none_of X G z_len) (PySem.W.mg_none_of X G z_enumerate))
  have C__law_draw : CallOk l.prog w K mg base 1 "_law_draw" ["_law_bag_here", "_law_many"] spDraw := call_ok (PySem.W.mg_of X G a11) k11 b11 (ok_draw F11 (PySem.W.mg_none_of X G z_int))
  have C__law_number : CallOk l.prog w K mg base 1 "_law_number" ["_law_thing"] spNum := call_ok (PySem.W.mg_of X G a12) k12 b12 (ok_number F12 T)
  have C__law_ring : CallOk l.prog w K mg base 2 "_law_ring" ["_law_bag_here", "_law_many"] spLRing := call_ok (PySem.W.mg_of X G a13) k13 b13 (ok_lring F13 T C__law_draw)
  have C__law_rings : CallOk l.prog w K mg base 3 "_law_rings" ["_law_bag_here"] spLRings := call_ok (PySem.W.mg_of X G a14) k14 b14 (ok_lrings F14 T C__law_draw C__law_ring)
  have C__law_turn : CallOk l.prog w K mg base 1 "_law_turn" ["_law_start", "_law_stop", "_law_x", "_law_y"] spTurn := call_ok (PySem.W.mg_of X G a15) k15 b15 (ok_lturn F15 T)
  have C__law_winding : CallOk l.prog w K mg base 2 "_law_winding" ["_law_rings_here", "_law_x", "_law_y"] spLWind := call_ok (PySem.W.mg_of X G a16) k16 b16 (ok_lwinding F16 T C__law_turn)
  have C__ink_row : CallOk l.prog w K mg base 5 "_ink_row" ["rings", "y"] spInkRow := call_ok (PySem.W.mg_of X G a4) k4 b4 (ok_inkrow F4 T T2 C_winding)
  have C_ink_of : CallOk l.prog w K mg base 6 "ink_of" ["rings"] spInkOf := call_ok (PySem.W.mg_of X G a3) k3 b3 (ok_inkof F3 T T2 C__ink_row)
  have C__column_or_none : CallOk l.prog w K mg base 1 "_column_or_none" ["column"] spCol := call_ok (PySem.W.mg_of X G a7) k7 b7 (ok_col F7)
  have C_leftmost : CallOk l.prog w K mg base 2 "leftmost" ["ink", "row"] (spEnd R4.lft) := call_ok (PySem.W.mg_of X G a5) k5 b5 (ok_left F5 C__column_or_none)
  have C_rightmost : CallOk l.prog w K mg base 2 "rightmost" ["ink", "row"] (spEnd R4.rgt) := call_ok (PySem.W.mg_of X G a6) k6 b6 (ok_right F6 C__column_or_none)
  have C_step_of : CallOk l.prog w K mg base 1 "step_of" ["ink"] spStep := call_ok (PySem.W.mg_of X G a8) k8 b8 (ok_step F8 T)
  have C_blanks : CallOk l.prog w K mg base 3 "blanks" ["left", "right", "row", "gap"] spBlanks := call_ok (PySem.W.mg_of X G a9) k9 b9 (ok_blanks F9 C_leftmost C_rightmost C_step_of)
  have C__law_ink : CallOk l.prog w K mg base 3 "_law_ink" ["_law_rings_here"] spLInk := call_ok (PySem.W.mg_of X G a17) k17 b17 (ok_link F17 T C__law_winding)
  have C__law_blanks : CallOk l.prog w K mg base 1 "_law_blanks" ["_law_left", "_law_right", "_law_row", "_law_gap"] spBlanks := call_ok (PySem.W.mg_of X G a18) k18 b18 (ok_lblanks F18 T)
  have C__law_ink_stands : CallOk l.prog w K mg base 3 "_law_ink_stands" ["_law_told", "_law_due"] spIStand := call_ok (PySem.W.mg_of X G a19) k19 b19 (ok_listand F19 T C_leftmost C_rightmost C_step_of C__law_number)
  have C__law_blanks_stand : CallOk l.prog w K mg base 4 "_law_blanks_stand" ["_law_left", "_law_right"] spBStand := call_ok (PySem.W.mg_of X G a20) k20 b20 (ok_lbstand F20 T C_blanks C__law_blanks C__law_number)
  exact ok_law F21 T C__law_bag C__law_draw C__law_rings C_ink_of C__law_ink C__law_ink_stands C__law_blanks_stand
theorem walk_law {l : PySem.W.OpenLaw} {q : Program} {loose : List Str} {XP : (Str → Option Value) → Heap → Prop} {YP : World → Heap → Prop} {d : DefRec} {K : Params → PySem.W.Frag} (hmost : l.most = some 63) (hdf : d.params.defaults = [])
    (hin : ∀ (w : World) (h : Heap), YP w h → (K w.params).In h)
    (all : ∀ (w : World) (mg : Str → Option Value) (fa : Addr) (h : Heap), (K w.params).In h → h.Ns mainGlobals mg → mg d.name = some (.ref fa) →
      ∃ fd : FuncData, (∀ (s : Shared) (u : Value), BindsTo s fd ⟨[u], []⟩ [("_law_script", u)]) ∧ ∀ base : Heap, (K w.params).In base → base.Ns mainGlobals mg → FnOk l.prog w (K w.params) mg base CX0 7 fa fd ["_law_script"] (spLaw (K w.params))) :
    PySem.W.WalkO q loose XP YP l.row.toRowW d [] (fun f vs => PySem.call f vs) :=
  L2.walk_of (n := 63) (k := 7) (x := "_law_script") (CX := fun _ => CX0) (sp := fun w => spLaw (K w.params)) hmost (by decide) hdf ⟨rfl, by decide, by decide⟩ hin all (fun _ _ a ns hl _ hS => ⟨a, ns, rfl, hS, hl, fun _ => rfl⟩) fun _ _ _ _ _ z => z
end Pa
open PySem PySem.W PyProof.Rows in
set_option maxRecDepth 100000 in
set_option maxHeartbeats 0 in
theorem PySem.Challenge.cw_pressalike_k02_inks_by_rows_holds : PySem.Challenge.rw_pressalike_k02_inks_by_rows.Holds := by
  w_on; o_law; k_head; (case hw => w_witness2)
  k_fill
  refine Pa.walk_law (l := PySem.Challenge.rw_pressalike_k02_inks_by_rows) rfl rfl (fun w h Y => PySem.W.kIn_of Y) ?F
  case F =>
    intro w mg fa h KX G hmg
    refine' Pa.all_mk KX G hmg ?a0 ?l0 ?c0 ?k0 ?a1 ?l1 ?c1 ?k1 ?a2 ?l2 ?c2 ?k2 ?a3 ?l3 ?c3 ?k3 ?a4 ?l4 ?c4 ?k4 ?a5 ?l5 ?c5 ?k5 ?a6 ?l6 ?c6 ?k6 ?a7 ?l7 ?c7 ?k7 ?a8 ?l8 ?c8 ?k8 ?a9 ?l9 ?c9 ?k9 ?a10 ?l10 ?c10 ?k10 ?a11 ?l11 ?c11 ?k11 ?a12 ?l12 ?c12 ?k12 ?a13 ?l13 ?c13 ?k13 ?a14 ?l14 ?c14 ?k14 ?a15 ?l15 ?c15 ?k15 ?a16 ?l16 ?c16 ?k16 ?a17 ?l17 ?c17 ?k17 ?a18 ?l18 ?c18 ?k18 ?a19 ?l19 ?c19 ?k19 ?a20 ?l20 ?c20 ?k20 ?a21 ?l21 ?c21 ?k21 ?aG ?z_len ?z_range ?z_int ?z_abs ?z_enumerate ?z_isinstance ?z_bool ?z_list ?z_tuple ?z_max ?z_min ?z_all ?z_sum
    (case a0 => k_is)
    (case l0 => k_is)
    (case c0 => k_is)
    (case k0 => k_is)
    (case a1 => k_is)
    (case l1 => k_is)
    (case c1 => k_is)
    (case k1 => k_is)
    (case a2 => k_is)
    (case l2 => k_is)
    (case c2 => k_is)
    (case k2 => k_is)
    (case a3 => k_is)
    (case l3 => k_is)
    (case c3 => k_is)
    (case k3 => k_is)
    (case a4 => k_is)
    (case l4 => k_is)
    (case c4 => k_is)
    (case k4 => k_is)
    (case a5 => k_is)
    (case l5 => k_is)
    (case c5 => k_is)
    (case k5 => k_is)
    (case a6 => k_is)
    (case l6 => k_is)
    (case c6 => k_is)
    (case k6 => k_is)
    (case a7 => k_is)
    (case l7 => k_is)
    (case c7 => k_is)
    (case k7 => k_is)
    (case a8 => k_is)
    (case l8 => k_is)
    (case c8 => k_is)
    (case k8 => k_is)
    (case a9 => k_is)
    (case l9 => k_is)
    (case c9 => k_is)
    (case k9 => k_is)
    (case a10 => k_is)
    (case l10 => k_is)
    (case c10 => k_is)
    (case k10 => k_is)
    (case a11 => k_is)
    (case l11 => k_is)
    (case c11 => k_is)
    (case k11 => k_is)
    (case a12 => k_is)
    (case l12 => k_is)
    (case c12 => k_is)
    (case k12 => k_is)
    (case a13 => k_is)
    (case l13 => k_is)
    (case c13 => k_is)
    (case k13 => k_is)
    (case a14 => k_is)
    (case l14 => k_is)
    (case c14 => k_is)
    (case k14 => k_is)
    (case a15 => k_is)
    (case l15 => k_is)
    (case c15 => k_is)
    (case k15 => k_is)
    (case a16 => k_is)
    (case l16 => k_is)
    (case c16 => k_is)
    (case k16 => k_is)
    (case a17 => k_is)
    (case l17 => k_is)
    (case c17 => k_is)
    (case k17 => k_is)
    (case a18 => k_is)
    (case l18 => k_is)
    (case c18 => k_is)
    (case k18 => k_is)
    (case a19 => k_is)
    (case l19 => k_is)
    (case c19 => k_is)
    (case k19 => k_is)
    (case a20 => k_is)
    (case l20 => k_is)
    (case c20 => k_is)
    (case k20 => k_is)
    (case a21 => k_is)
    (case l21 => k_is)
    (case c21 => k_is)
    (case k21 => k_is)
    (case aG => k_is)
    (case z_len => k_is)
    (case z_range => k_is)
    (case z_int => k_is)
    (case z_abs => k_is)
    (case z_enumerate => k_is)
    (case z_isinstance => k_is)
    (case z_bool => k_is)
    (case z_list => k_is)
    (case z_tuple => k_is)
    (case z_max => k_is)
    (case z_min => k_is)
    (case z_all => k_is)
    (case z_sum => k_is)
