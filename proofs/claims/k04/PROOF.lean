import PyProof.Rows.All
import Wide.All
import OpenK.AllK
import Wide.FinOn
import PyProof.Runs
import PyProof.GenQ
import HandS.ForMost
import HandS.GenList
import PyProof.ListNew
import HandS.Wide
import HandS.Walk
import HandS.TupAny
import HandS.IsInst
import HandS.StrMore
import HandS.Text
import KE.GoesZip
import KE.GoesMore
import HandS.Zip
import HandS.DictComp
import HandS.Property
import PyProof.TupleOfStr
import HandS.ExcInit
import KE.KExcSuper
import HandS.Exc
import HandS.ExcOwn
import HandS.ExcField
import HandS.WordsExc
import HandS.Lambda
import HandS.ExcIs
import HandS.MakeKw
import HandS.Deep
import KE.KExcIs
import PyProof.StrLawsIn
import KE.KEqDict
import HandS.OwnEq
import PyProof.InstEq
import HandS.Style
import PySem.Challenge.RW_pressalike_k04_whole_outlines_put_otherw
set_option Elab.async false
set_option linter.all false
set_option maxRecDepth 100000
set_option maxHeartbeats 2000000
/-! a suspended generator that is not woken stays as it is, whatever runs -/
namespace GenF
open PySem
open Sem (wp)
def coldK : Resume → Sem PySem.Fin := fun _ => .unsupported ""
/-- the same to look at, never to be woken -/
def ice : GenState → GenState
  | .suspended _ l c p fs cl => .suspended coldK l c p fs cl
  | x => x
def back (x : Option GenState) (y : GenState) : GenState := match x with
  | some (.suspended k l c p fs cl) => .suspended k l c p fs cl
  | _ => y
/-- put back where G has a suspended one -/
def melt (G gs : Array GenState) : Array GenState := gs.mapIdx fun i y => back G[i]? y
def meltS (G : Array GenState) (a : Shared) : Shared := { a with gens := melt G a.gens }
def iceS (s : Shared) : Shared := { s with gens := s.gens.map ice }
def Susp (x : Option GenState) : Prop := ∃ k l c p fs cl, x = some (.suspended k l c p fs cl)
set_option autoImplicit false
theorem back_no {x : Option GenState} {y : GenState} (h : ¬ Susp x) : back x y = y := by
  unfold back
  split
  · rename_i k l c p fs cl
    exact absurd ⟨k, l, c, p, fs, cl, rfl⟩ h
  · rfl
structure J (G : Array GenState) (a : Shared) : Prop where
  size : G.size ≤ a.gens.size
  cold : ∀ (i : Nat) k l c p fs cl, G[i]? = some (GenState.suspended k l c p fs cl) → a.gens[i]? = some (GenState.suspended coldK l c p fs cl)
  flat : ∀ (i : Nat) k l c p fs cl, a.gens[i]? = some (GenState.suspended k l c p fs cl) → Susp G[i]? ∨ splitAtGen fs = none
def flatE : End → Prop
  | .susp _ _ _ _ _ _ fs => splitAtGen fs = none
  | .ret _ => True
theorem melt_get (G gs : Array GenState) (i : Nat) : (melt G gs)[i]? = gs[i]?.map (back G[i]?) := by
  unfold melt
  rw [Array.getElem?_mapIdx]
theorem no_cold {M : Model} {Γ : Ctx} {p : Pos} {w : String} {fs : List Frame} {s s' : Shared} {e : End} : ¬ Runs M Γ p (.unsupported w) fs s e s' := by
  intro h
  generalize ht : (Sem.unsupported w : Sem PySem.Fin) = t at h
  induction h with
  | segRet _ _ ih _ => exact ih ht
  | segGen _ _ ih _ => exact ih ht
  | segSuspOut _ _ ih => exact ih ht
  | segSuspGen _ _ _ _ ih _ => exact ih ht
  | _ => cases ht
theorem split_app {xs ys : List Frame} (h1 : splitAtGen xs = none) (h2 : splitAtGen ys = none) : splitAtGen (xs ++ ys) = none := by
  induction xs with
  | nil => exact h2
  | cons f xs ih =>
    cases f with
    | ret k h g l c p kp =>
      have e : splitAtGen (Frame.ret k h g l c p kp :: xs) = (splitAtGen xs).map fun (fs, b, r) => (Frame.ret k h g l c p kp :: fs, b, r) := rfl
      rw [e] at h1
      have e2 : splitAtGen (Frame.ret k h g l c p kp :: (xs ++ ys)) = (splitAtGen (xs ++ ys)).map fun (fs, b, r) => (Frame.ret k h g l c p kp :: fs, b, r) := rfl
      show splitAtGen (Frame.ret k h g l c p kp :: (xs ++ ys)) = none
      rw [e2, ih (by cases q : splitAtGen xs with | none => rfl | some _ => rw [q] at h1; cases h1)]
      rfl
    | gen g k l c p => cases h1
theorem split_ret {k h g l c p kp} {xs : List Frame} (h1 : splitAtGen (Frame.ret k h g l c p kp :: xs) = none) : splitAtGen xs = none := by
  have e : splitAtGen (Frame.ret k h g l c p kp :: xs) = (splitAtGen xs).map fun (fs, b, r) => (Frame.ret k h g l c p kp :: fs, b, r) := rfl
  rw [e] at h1
  cases q : splitAtGen xs with
  | none => rfl
  | some _ => rw [q] at h1; cases h1
section
variable {G : Array GenState} {a : Shared} {g : Nat}
theorem J.not {x : GenState} (j : J G a) (h : a.gens[g]? = some x) (hx : ∀ k l c p fs cl, x ≠ .suspended k l c p fs cl) : ¬ Susp G[g]? := by
  rintro ⟨k, l, c, p, fs, cl, e⟩
  have q := j.cold g k l c p fs cl e
  rw [h] at q
  exact hx _ _ _ _ _ _ (Option.some.inj q)
theorem J.of {b : Shared} (j : J G a) (h : b.gens = a.gens) : J G b := ⟨by rw [h]; exact j.size, by rw [h]; exact j.cold, by rw [h]; exact j.flat⟩
theorem melt_at {x : GenState} (hn : ¬ Susp G[g]?) (h : a.gens[g]? = some x) : (meltS G a).gens[g]? = some x := by
  show (melt G a.gens)[g]? = some x
  rw [melt_get, h]
  show some (back G[g]? x) = some x
  rw [back_no hn]
theorem melt_set (hn : ¬ Susp G[g]?) (x : GenState) : meltS G (a.setGen g x) = (meltS G a).setGen g x := by
  have e : melt G (a.gens.setIfInBounds g x) = (melt G a.gens).setIfInBounds g x := by
    apply Array.ext_getElem?
    intro i
    rw [melt_get, Array.getElem?_setIfInBounds, Array.getElem?_setIfInBounds, melt_get]
    have hs : (melt G a.gens).size = a.gens.size := by unfold melt; rw [Array.size_mapIdx]
    rw [hs]
    by_cases hi : g = i
    · subst hi
      rw [if_pos rfl, if_pos rfl]
      by_cases hl : g < a.gens.size
      · rw [if_pos hl]
        show some (back G[g]? x) = some x
        rw [back_no hn]
      · rw [if_neg hl]; rfl
    · rw [if_neg hi, if_neg hi]
  show ({ a with gens := melt G (a.gens.setIfInBounds g x) } : Shared) = { a with gens := (melt G a.gens).setIfInBounds g x }
  rw [e]
theorem J.set (j : J G a) (hn : ¬ Susp G[g]?) (x : GenState) (hx : ∀ k l c p fs cl, x = .suspended k l c p fs cl → splitAtGen fs = none) : J G (a.setGen g x) where
  size := by
    show G.size ≤ (a.gens.setIfInBounds g x).size
    rw [Array.size_setIfInBounds]; exact j.size
  cold := fun i k l c p fs cl e => by
    have hi : g ≠ i := fun q => by subst q; exact hn ⟨_, _, _, _, _, _, e⟩
    show (a.gens.setIfInBounds g x)[i]? = _
    rw [Array.getElem?_setIfInBounds_ne hi]
    exact j.cold i k l c p fs cl e
  flat := fun i k l c p fs cl e => by
    have e' : (a.gens.setIfInBounds g x)[i]? = some (.suspended k l c p fs cl) := e
    by_cases hi : g = i
    · subst hi
      by_cases hl : g < a.gens.size
      · rw [Array.getElem?_setIfInBounds_self_of_lt hl] at e'
        exact .inr (hx _ _ _ _ _ _ (Option.some.inj e'))
      · rw [Array.getElem?_eq_none (by rw [Array.size_setIfInBounds]; omega)] at e'
        cases e'
    · rw [Array.getElem?_setIfInBounds_ne hi] at e'
      exact j.flat i k l c p fs cl e'
theorem J.push (j : J G a) (c : Code) : J G { a with gens := a.gens.push (.fresh c) } where
  size := by
    show G.size ≤ (a.gens.push (.fresh c)).size
    rw [Array.size_push]; have := j.size; omega
  cold := fun i k l c' p fs cl e => by
    have q := j.cold i k l c' p fs cl e
    have hl := (Array.getElem?_eq_some_iff.mp q).1
    show (a.gens.push (.fresh c))[i]? = _
    rw [Array.getElem?_push, if_neg (by omega)]
    exact q
  flat := fun i k l c' p fs cl e => by
    have e' : (a.gens.push (.fresh c))[i]? = some (.suspended k l c' p fs cl) := e
    rw [Array.getElem?_push] at e'
    split at e'
    · cases e'
    · exact j.flat i k l c' p fs cl e'
theorem melt_push (j : J G a) (c : Code) : meltS G { a with gens := a.gens.push (.fresh c) } = { meltS G a with gens := (meltS G a).gens.push (.fresh c) } := by
  have e : melt G (a.gens.push (.fresh c)) = (melt G a.gens).push (.fresh c) := by
    apply Array.ext_getElem?
    intro i
    have hs : (melt G a.gens).size = a.gens.size := by unfold melt; rw [Array.size_mapIdx]
    rw [melt_get, Array.getElem?_push, Array.getElem?_push, hs, melt_get]
    by_cases hi : i = a.gens.size
    · rw [if_pos hi, if_pos hi]
      show some (back G[i]? (.fresh c)) = _
      rw [back_no]
      rintro ⟨k, l, c', p, fs, cl, q⟩
      have := (Array.getElem?_eq_some_iff.mp q).1
      have := j.size
      omega
    · rw [if_neg hi, if_neg hi]
  show ({ a with gens := melt G (a.gens.push (.fresh c)) } : Shared) = { a with gens := (melt G a.gens).push (.fresh c) }
  rw [e]
theorem melt_size : (meltS G a).gens.size = a.gens.size := by
  show (melt G a.gens).size = _
  unfold melt; rw [Array.size_mapIdx]
theorem melt_seen {st : GenState} (j : J G a) (h : a.gens[g]? = some st) : ∃ st', (meltS G a).gens[g]? = some st' ∧ st'.seen = st.seen := by
  by_cases hs : Susp G[g]?
  · obtain ⟨k, l, c, p, fs, cl, e⟩ := hs
    have q := j.cold g k l c p fs cl e
    rw [h] at q
    cases q
    refine ⟨.suspended k l c p fs cl, ?_, rfl⟩
    show (melt G a.gens)[g]? = _
    rw [melt_get, h, e]
    rfl
  · exact ⟨st, melt_at hs h, rfl⟩
end
theorem flat_state {e : End} (h : flatE e) : ∀ k l c p fs cl, e.genState = .suspended k l c p fs cl → splitAtGen fs = none := by
  intro k l c p fs cl q
  cases e with
  | ret r => cases q
  | susp v g l' k' c' p' fs' => cases q; exact h
theorem melt_runs {M : Model} {G : Array GenState} {Γ : Ctx} {p : Pos} {t : Sem PySem.Fin} {fs : List Frame} {a a' : Shared} {e : End} (h : Runs M Γ p t fs a e a') :
    splitAtGen fs = none → J G a → J G a' ∧ flatE e ∧ Runs M Γ p t fs (meltS G a) e (meltS G a') := by
  induction h with
  | done => exact fun _ j => ⟨j, trivial, .done⟩
  | raise => exact fun _ j => ⟨j, trivial, .raise⟩
  | again hq _ ih => exact fun hf j => let ⟨j1, f1, r1⟩ := ih rfl j; ⟨j1, f1, .again hq r1⟩
  | rule _ ih => exact fun hf j => let ⟨j1, f1, r1⟩ := ih rfl j; ⟨j1, f1, .rule r1⟩
  | «at» _ ih => exact fun hf j => let ⟨j1, f1, r1⟩ := ih rfl j; ⟨j1, f1, .at r1⟩
  | load ho _ ih => exact fun hf j => let ⟨j1, f1, r1⟩ := ih rfl j; ⟨j1, f1, .load ho r1⟩
  | update ho _ ih => exact fun hf j => let ⟨j1, f1, r1⟩ := ih rfl ⟨j.size, j.cold, j.flat⟩; ⟨j1, f1, .update ho r1⟩
  | loadIfAlive _ ih => exact fun hf j => let ⟨j1, f1, r1⟩ := ih rfl j; ⟨j1, f1, .loadIfAlive r1⟩
  | point _ ih => exact fun hf j => let ⟨j1, f1, r1⟩ := ih rfl j; ⟨j1, f1, .point r1⟩
  | alloc _ ih => exact fun hf j => let ⟨j1, f1, r1⟩ := ih rfl ⟨j.size, j.cold, j.flat⟩; ⟨j1, f1, .alloc r1⟩
  | fresh _ ih => exact fun hf j => let ⟨j1, f1, r1⟩ := ih rfl ⟨j.size, j.cold, j.flat⟩; ⟨j1, f1, .fresh r1⟩
  | ask _ ih => exact fun hf j => let ⟨j1, f1, r1⟩ := ih rfl j; ⟨j1, f1, .ask r1⟩
  | choose hn _ ih => exact fun hf j => let ⟨j1, f1, r1⟩ := ih rfl ⟨j.size, j.cold, j.flat⟩; ⟨j1, f1, .choose hn r1⟩
  | os _ ih => exact fun hf j => let ⟨j1, f1, r1⟩ := ih rfl ⟨j.size, j.cold, j.flat⟩; ⟨j1, f1, .os r1⟩
  | handled _ ih => exact fun hf j => let ⟨j1, f1, r1⟩ := ih rfl j; ⟨j1, f1, .handled r1⟩
  | genState hg _ ih =>
    intro hf j
    obtain ⟨j1, f1, r1⟩ := ih rfl j
    obtain ⟨st', e1, e2⟩ := melt_seen j hg
    exact ⟨j1, f1, .genState e1 (by rw [e2]; exact r1)⟩
  | stack _ ih => exact fun hf j => let ⟨j1, f1, r1⟩ := ih rfl j; ⟨j1, f1, .stack r1⟩
  | thread _ ih => exact fun hf j => let ⟨j1, f1, r1⟩ := ih rfl j; ⟨j1, f1, .thread r1⟩
  | newGen _ ih =>
    intro hf j
    obtain ⟨j1, f1, r1⟩ := ih rfl (j.push _)
    rw [melt_push j] at r1
    exact ⟨j1, f1, .newGen (by rw [melt_size]; exact r1)⟩
  | call _ _ ih1 ih2 =>
    intro hf j
    obtain ⟨j1, _, r1⟩ := ih1 rfl j
    obtain ⟨j2, f2, r2⟩ := ih2 rfl j1
    exact ⟨j2, f2, .call r1 r2⟩
  | callSusp _ ih =>
    intro hf j
    obtain ⟨j1, f1, r1⟩ := ih rfl j
    exact ⟨j1, split_app f1 rfl, .callSusp r1⟩
  | yield => exact fun _ j => ⟨j, rfl, .yield⟩
  | resumeFresh hg _ hq _ ih1 ih2 =>
    intro hf j
    have hn := j.not hg (fun _ _ _ _ _ _ q => by cases q)
    obtain ⟨j1, f1, r1⟩ := ih1 rfl (j.set hn .running fun _ _ _ _ _ _ q => by cases q)
    obtain ⟨j2, f2, r2⟩ := ih2 rfl (j1.set hn _ (flat_state f1))
    rw [melt_set hn] at r1 r2
    exact ⟨j2, f2, .resumeFresh (melt_at hn hg) r1 hq r2⟩
  | @resumeSuspended Γ p g r l k s k₀ l₀ c₀ p₀ fs cl e₁ s₁ e s' hg hr hq _ ih1 ih2 =>
    intro hf j
    by_cases hn : Susp (G[g]?)
    · obtain ⟨k, l, c, p, fs, cl, q⟩ := hn
      have z := j.cold _ k l c p fs cl q
      rw [hg] at z
      cases z
      exact absurd hr no_cold
    · have hfl := (j.flat _ _ _ _ _ _ _ hg).resolve_left hn
      obtain ⟨j1, f1, r1⟩ := ih1 hfl (j.set hn .running fun _ _ _ _ _ _ q => by cases q)
      obtain ⟨j2, f2, r2⟩ := ih2 rfl (j1.set hn _ (flat_state f1))
      rw [melt_set hn] at r1 r2
      exact ⟨j2, f2, .resumeSuspended (melt_at hn hg) r1 hq r2⟩
  | resumeJustStarted hg hv _ ih =>
    intro hf j
    obtain ⟨j1, f1, r1⟩ := ih rfl j
    exact ⟨j1, f1, .resumeJustStarted (melt_at (j.not hg fun _ _ _ _ _ _ q => by cases q) hg) hv r1⟩
  | resumeThrowFresh hg _ ih =>
    intro hf j
    have hn := j.not hg (fun _ _ _ _ _ _ q => by cases q)
    obtain ⟨j1, f1, r1⟩ := ih rfl (j.set hn .finished fun _ _ _ _ _ _ q => by cases q)
    rw [melt_set hn] at r1
    exact ⟨j1, f1, .resumeThrowFresh (melt_at hn hg) r1⟩
  | resumeRunning hg _ ih =>
    intro hf j
    obtain ⟨j1, f1, r1⟩ := ih rfl j
    exact ⟨j1, f1, .resumeRunning (melt_at (j.not hg fun _ _ _ _ _ _ q => by cases q) hg) r1⟩
  | resumeFinished hg _ ih =>
    intro hf j
    obtain ⟨j1, f1, r1⟩ := ih rfl j
    exact ⟨j1, f1, .resumeFinished (melt_at (j.not hg fun _ _ _ _ _ _ q => by cases q) hg) r1⟩
  | segRet _ _ ih1 ih2 =>
    intro hf j
    obtain ⟨j1, _, r1⟩ := ih1 rfl j
    obtain ⟨j2, f2, r2⟩ := ih2 (split_ret hf) j1
    exact ⟨j2, f2, .segRet r1 r2⟩
  | segGen _ _ _ _ => intro hf; cases hf
  | segSuspOut hs _ ih =>
    intro hf j
    obtain ⟨j1, f1, r1⟩ := ih rfl j
    exact ⟨j1, split_app f1 hs, .segSuspOut hs r1⟩
  | segSuspGen hs _ _ _ _ _ => intro hf; rw [hs] at hf; cases hf

theorem melt_wp {α : Type} {M : Model} {Γ : Ctx} {G : Array GenState} (t : Sem α) : ∀ (Q : α → Pos → Shared → Prop) (E : Value → Pos → Shared → Prop) (p : Pos) (a : Shared), J G a → wp M Γ t Q E p a →
    wp M Γ t (fun v p' b => ∃ a', b = meltS G a' ∧ J G a' ∧ Q v p' a') (fun e p' b => ∃ a', b = meltS G a' ∧ J G a' ∧ E e p' a') p (meltS G a) := by
  induction t with
  | pure v => intro Q E p a j h; exact ⟨a, rfl, j, h⟩
  | raise e => intro Q E p a j h; exact ⟨a, rfl, j, h⟩
  | unsupported _ => intro Q E p a j h; exact h
  | finish _ => intro Q E p a j h; exact h
  | rule _ k ih => intro Q E p a j h; exact ih () Q E p a j h
  | «at» p' k ih => intro Q E p a j h; exact ih () Q E p' a j h
  | load b _ k ih => intro Q E p a j h; obtain ⟨o, ho, h⟩ := h; exact ⟨o, ho, ih o Q E p a j h⟩
  | update b _ f k ih => intro Q E p a j h; exact ⟨h.1, ih () Q E p { a with heap := a.heap.update b f } (j.of rfl) h.2⟩
  | loadIfAlive b k ih => intro Q E p a j h; exact ih _ Q E p a j h
  | point _ k ih => intro Q E p a j h; exact ih () Q E p a j h
  | register _ _ => intro Q E p a _ h; exact h
  | alloc o k ih => intro Q E p a j h; exact ih _ Q E p { a with heap := a.heap.push o } (j.of rfl) h
  | fresh k ih => intro Q E p a j h; exact ih _ Q E p { a with toks := a.toks + 1 } (j.of rfl) h
  | ask k ih => intro Q E p a j h; exact ih _ Q E p a j h
  | choose src m k ih => intro Q E p a j h; exact ⟨h.1, ih _ Q E p { a with drawn := a.drawn.bump src } (j.of rfl) h.2⟩
  | os q _ k ih => intro Q E p a j h; exact ih _ Q E p { a with os := (Os.step a.os q).1 } (j.of rfl) h
  | call c hd _ _ k ih =>
    intro Q E p a j h
    obtain ⟨r, s', hr, h⟩ := h
    obtain ⟨j1, _, r1⟩ := melt_runs hr rfl j
    exact ⟨r, _, r1, ih r Q E p s' j1 h⟩
  | handled own k ih => intro Q E p a j h; exact ih _ Q E p a j h
  | genState g k ih =>
    intro Q E p a j h
    obtain ⟨st, hs, h⟩ := h
    obtain ⟨st', e1, e2⟩ := melt_seen j hs
    refine ⟨st', e1, ?_⟩
    rw [e2]
    exact ih _ Q E p a j h
  | newGen c k ih =>
    intro Q E p a j h
    have q := ih _ Q E p _ (j.push c) h
    rw [melt_push j] at q
    rw [Sem.wp, melt_size]
    exact q
  | resume g r _ k ih =>
    intro Q E p a j h
    obtain ⟨res, s', hw, h⟩ := h
    have key : J G s' ∧ Wakes M Γ p g r (meltS G a) res (meltS G s') := by
      unfold Wakes at hw ⊢
      cases hg : a.gens[g]? with
      | none => rw [hg] at hw; exact hw.elim
      | some st =>
        rw [hg] at hw
        cases st with
        | fresh c =>
          have hn := j.not hg (fun _ _ _ _ _ _ q => by cases q)
          rw [melt_at hn hg]
          cases r with
          | throw x =>
            obtain ⟨h1, h2⟩ := hw
            subst h2
            exact ⟨j.set hn _ (fun _ _ _ _ _ _ q => by cases q), h1, melt_set hn _⟩
          | send v =>
            cases v with
            | none =>
              obtain ⟨e₁, s₁, hr, hq, h1, h2⟩ := hw
              obtain ⟨j1, f1, r1⟩ := melt_runs hr rfl (j.set hn .running fun _ _ _ _ _ _ q => by cases q)
              rw [melt_set hn] at r1
              subst h2
              exact ⟨j1.set hn _ (flat_state f1), e₁, _, r1, hq, h1, melt_set hn _⟩
            | _ =>
              obtain ⟨h1, h2⟩ := hw
              subst h2
              exact ⟨j, h1, rfl⟩
        | suspended k₀ l₀ c₀ p₀ fs cl =>
          obtain ⟨e₁, s₁, hr, hq, h1, h2⟩ := hw
          by_cases hn : Susp (G[g]?)
          · obtain ⟨k, l, c, p, fs, cl, q⟩ := hn
            have z := j.cold _ k l c p fs cl q
            rw [hg] at z
            cases z
            exact absurd hr no_cold
          · have hfl := (j.flat _ _ _ _ _ _ _ hg).resolve_left hn
            rw [melt_at hn hg]
            obtain ⟨j1, f1, r1⟩ := melt_runs hr hfl (j.set hn .running fun _ _ _ _ _ _ q => by cases q)
            rw [melt_set hn] at r1
            subst h2
            exact ⟨j1.set hn _ (flat_state f1), e₁, _, r1, hq, h1, melt_set hn _⟩
        | running =>
          obtain ⟨h1, h2⟩ := hw
          subst h2
          rw [melt_at (j.not hg fun _ _ _ _ _ _ q => by cases q) hg]
          exact ⟨j, h1, rfl⟩
        | finished =>
          obtain ⟨h1, h2⟩ := hw
          subst h2
          rw [melt_at (j.not hg fun _ _ _ _ _ _ q => by cases q) hg]
          exact ⟨j, h1, rfl⟩
    exact ⟨res, _, key.2, ih res Q E p s' key.1 h⟩
  | yield _ _ _ _ => intro Q E p a _ h; exact h
  | stack k ih => intro Q E p a j h; exact ih _ Q E p a j h
  | fork _ _ => intro Q E p a _ h; exact h
  | thread k ih => intro Q E p a j h; exact ih _ Q E p a j h
  | await _ _ _ _ _ => intro Q E p a _ h; exact h

theorem ice_back (x : GenState) : back (some x) (ice x) = x := by cases x <;> rfl
theorem melt_ice (s : Shared) : meltS s.gens (iceS s) = s := by
  have e : melt s.gens (s.gens.map ice) = s.gens := by
    apply Array.ext_getElem?
    intro i
    rw [melt_get, Array.getElem?_map]
    cases q : s.gens[i]? with
    | none => rfl
    | some x => exact congrArg some (ice_back x)
  show ({ s with gens := melt s.gens (s.gens.map ice) } : Shared) = s
  rw [e]
theorem J_ice (s : Shared) : J s.gens (iceS s) where
  size := by
    show s.gens.size ≤ (s.gens.map ice).size
    rw [Array.size_map]; exact Nat.le_refl _
  cold := fun i k l c p fs cl e => by
    show (s.gens.map ice)[i]? = _
    rw [Array.getElem?_map, e]
    rfl
  flat := fun i k l c p fs cl e => by
    have e' : (s.gens.map ice)[i]? = some (.suspended k l c p fs cl) := e
    rw [Array.getElem?_map] at e'
    cases q : s.gens[i]? with
    | none => rw [q] at e'; cases e'
    | some x =>
      cases x with
      | suspended k' l' c' p' fs' cl' => exact .inl ⟨_, _, _, _, _, _, rfl⟩
      | _ => rw [q] at e'; cases e'
/-- a run from the state where all that sleeps is frozen is one from the state itself, and what sleeps stays as it is -/
theorem wpAny_melt {α : Type} {M : Model} {A : Around} {t : Sem α} {Q : α → Shared → Prop} {E : Value → Shared → Prop} {s : Shared} (h : wpAny M A t Q E (iceS s)) :
    wpAny M A t (fun v b => ∃ a, b = meltS s.gens a ∧ J s.gens a ∧ Q v a) (fun e b => ∃ a, b = meltS s.gens a ∧ J s.gens a ∧ E e a) s := by
  intro Γ p hΓ
  have q := melt_wp (G := s.gens) t _ _ p (iceS s) (J_ice s) (h Γ p hΓ)
  rw [melt_ice] at q
  exact q
theorem melt_sleeps {G : Array GenState} {a : Shared} {g : Nat} {x : GenState} (j : J G a) (h : G[g]? = some x) (hx : Susp (some x)) : (meltS G a).gens[g]? = some x := by
  obtain ⟨k, l, c, p, fs, cl, e⟩ := hx
  cases e
  show (melt G a.gens)[g]? = _
  rw [melt_get, j.cold _ _ _ _ _ _ _ h, h]
  rfl
open PyProof.Rows in
theorem bare_ice {s : Shared} (h : AllBare s.gens) : AllBare (iceS s).gens := fun y hy => by
  obtain ⟨x, hx, e⟩ := Array.mem_map.mp (show y ∈ s.gens.map ice from hy)
  have := h x hx
  rw [← e]
  cases x <;> exact this
open PyProof.Rows in
theorem bare_melt {G : Array GenState} {a : Shared} (hG : AllBare G) (h : AllBare a.gens) : AllBare (meltS G a).gens := fun y hy => by
  obtain ⟨i, hi, e⟩ := Array.mem_iff_getElem.mp (show y ∈ melt G a.gens from hy)
  have e2 : (melt G a.gens)[i]? = some y := by rw [Array.getElem?_eq_getElem hi, e]
  rw [melt_get] at e2
  cases q : a.gens[i]? with
  | none => rw [q] at e2; cases e2
  | some x =>
    rw [q] at e2
    have e3 : back G[i]? x = y := Option.some.inj e2
    by_cases hs : Susp (G[i]?)
    · obtain ⟨k, l, c, p, fs, cl, z⟩ := hs
      rw [z] at e3
      rw [← e3]
      exact hG _ (Array.mem_of_getElem? z)
    · rw [back_no hs] at e3
      rw [← e3]
      exact h x (Array.mem_of_getElem? q)
end GenF
set_option maxRecDepth 100000
set_option maxHeartbeats 2000000
/-! a stretch of a generator's code, its end told with the place where it stands -/
namespace GenF
open PySem PyProof.Rows
open Sem (wp)
abbrev Ph := End → Shared → Prop
def Stre (M : Model) (A : Around) (Φ : Ph) (c : Code) (t : Sem PySem.Fin) (fs : List Frame) (s : Shared) : Prop :=
  ∀ Γ p, Γ.code = c → Γ.Woken A → ∃ e s', Runs M Γ p t fs s e s' ∧ Φ e s'
section
variable {M : Model} {A : Around} {Φ : Ph} {c : Code} {fs : List Frame} {s : Shared}
theorem st_wrap {α : Type} {m : Sem α} {K : α → Sem PySem.Fin} {H : Value → Sem PySem.Fin} {gd : Bool → Bool} {lv : List Value → List Value}
    (h : wpAny M (A.over c fs) m (fun a s' => Stre M A Φ c (K a) fs s') (fun _ _ => False) s) : Stre M A Φ c (m.wrap K H gd lv) fs s := by
  rintro Γ p rfl hΓ
  exact runs_wrap_of_wp K H gd lv m (h (Γ.over fs) p (hΓ.over fs)) (fun a p' s' h' => h' Γ p' rfl hΓ) fun x p' s' h' => h'.elim
theorem st_bw {α β : Type} {m : Sem α} {K : α → Sem β} {K' : β → Sem PySem.Fin} {H' : Value → Sem PySem.Fin} {gd : Bool → Bool} {lv : List Value → List Value}
    (h : wpAny M (A.over c fs) m (fun a s' => Stre M A Φ c ((K a).wrap K' H' gd lv) fs s') (fun _ _ => False) s) : Stre M A Φ c ((m >>= K).wrap K' H' gd lv) fs s := by
  rw [Sem.bind_eq_wrap', Sem.wrap_wrap]
  exact st_wrap h
theorem st_bind {α : Type} {m : Sem α} {K : α → Sem PySem.Fin} (h : wpAny M (A.over c fs) m (fun a s' => Stre M A Φ c (K a) fs s') (fun _ _ => False) s) : Stre M A Φ c (m >>= K) fs s := by
  rw [Sem.bind_eq_wrap']
  exact st_wrap h
theorem st_at {p' : Pos} {k : Unit → Sem PySem.Fin} (h : Stre M A Φ c (k ()) fs s) : Stre M A Φ c (.at p' k) fs s :=
  st_wrap (m := standAt p') (K := k) (H := .raise) (gd := id) (lv := id) (wpAny_standAt h)
theorem st_point {l : List Value} {k : Unit → Sem PySem.Fin} (h : Stre M A Φ c (k ()) fs s) : Stre M A Φ c (.point l k) fs s :=
  st_wrap (m := point) (K := k) (H := .raise) (gd := id) (lv := fun _ => l) (wpAny_point h)
theorem st_call {c' : Code} {h : Option Value} {g : Bool} {l : List Value} {k : Result → Sem PySem.Fin} (hc : ∀ p, Stre M A Φ c' (M.den c') (.ret k h g l c p [] :: fs) s) : Stre M A Φ c (.call c' h g l k) fs s := by
  rintro Γ p rfl hΓ
  obtain ⟨e, s', hr, he⟩ := hc p (Γ.goto c') p rfl (hΓ.goto c')
  exact ⟨e, s', runs_call_seg hr, he⟩
theorem st_leaf {k : Result → Sem PySem.Fin} {h : Option Value} {g : Bool} {l kp : List Value} {c₁ : Code} {p₁ : Pos} (r : Result) (hk : Stre M A Φ c₁ (k r) fs s) : Stre M A Φ c (leafOf r) (.ret k h g l c₁ p₁ kp :: fs) s := by
  rintro Γ p rfl hΓ
  obtain ⟨e, s', hr, he⟩ := hk (Γ.goto c₁) p₁ rfl (hΓ.goto c₁)
  exact ⟨e, s', Runs.pop r hr, he⟩
theorem st_again {c' : Code} (hq : c'.quiet = true) (hc : Stre M A Φ c' (M.den c') fs s) : Stre M A Φ c (.pure (.again c')) fs s := by
  rintro Γ p rfl hΓ
  obtain ⟨e, s', hr, he⟩ := hc (Γ.goto c') p rfl (hΓ.goto c')
  exact ⟨e, s', Runs.head (c₁ := c') (fun _ _ x => .again hq x) hr, he⟩
theorem st_end (r : Result) (h : Φ (.ret r) s) : Stre M A Φ c (leafOf r) [] s := by
  rintro Γ p rfl _
  exact ⟨.ret r, s, Runs.leaf r, h⟩
theorem st_yield {v : Value} {l : List Value} {k : Resume → Sem PySem.Fin} (hfs : splitAtGen fs = none) (h : ∀ p, Φ (.susp v false l k c p fs) s) : Stre M A Φ c (.yield v false l k) fs s := by
  rintro Γ p rfl _
  exact ⟨_, s, Runs.yield' fs hfs, h p⟩
end
/-- a generator that is woken with None -/
def Wake (M : Model) (A : Around) (gs : GenState) (s : Shared) (Φ : Ph) : Prop := match gs with
  | .fresh c => Stre M A Φ c (M.den c) [] s
  | .suspended k _ c _ fs _ => Stre M A Φ c (k (.send .none)) fs s
  | _ => False
theorem wpAny_wake {M : Model} {A : Around} {E : Value → Shared → Prop} {s : Shared} {g : Nat} {gs : GenState} {l : List Value} {α : Type} {k : GenResult → Sem α} {Q : α → Shared → Prop} {Φ : Ph} (hg : s.gens[g]? = some gs)
    (hw : Wake M A gs (s.setGen g .running) Φ) (h : ∀ e s₁, Φ e s₁ → e.quiet = true ∧ wpAny M A (k e.result) Q E (s₁.setGen g e.genState)) : wpAny M A (.resume g (.send .none) l k) Q E s := by
  intro Γ p hΓ
  rw [Sem.wp_resume]
  have hB : ∀ c, (Γ.wake c p).Woken A := fun c => hΓ.wake c p
  cases gs with
  | fresh c =>
    obtain ⟨e₁, s₁, hr, he⟩ := hw (Γ.wake c p) p rfl (hB c)
    obtain ⟨h1, h2⟩ := h e₁ s₁ he
    exact ⟨_, _, by unfold Wakes; rw [hg]; exact ⟨e₁, s₁, hr, h1, rfl, rfl⟩, h2 Γ p hΓ⟩
  | suspended k₀ l₀ c₀ p₀ fs₀ cl =>
    obtain ⟨e₁, s₁, hr, he⟩ := hw (Γ.wake c₀ p) p₀ rfl (hB c₀)
    obtain ⟨h1, h2⟩ := h e₁ s₁ he
    exact ⟨_, _, by unfold Wakes; rw [hg]; exact ⟨e₁, s₁, hr, h1, rfl, rfl⟩, h2 Γ p hΓ⟩
  | running => exact hw.elim
  | finished => exact hw.elim
/-- what a stretch ends with: an item at a place where it sleeps, or the generator's end -/
def PhY (Y : Value → GenState → Shared → Prop) (Z : Shared → Prop) : Ph := fun e s₁ =>
  (∃ v g l k c p fs, e = .susp v g l k c p fs ∧ e.quiet = true ∧ Y v e.genState s₁) ∨ ∃ r, e = .ret r ∧ (r = .ok (.ret .none) ∨ r = .ok .next) ∧ Z s₁
section
variable {P : Program} {w : World} {A : Around} {E : Value → Shared → Prop} {s : Shared}
theorem next_gen {a : Addr} {g : Nat} {gs : GenState} {Y : Value → GenState → Shared → Prop} {Z : Shared → Prop} {Q : Option Value → Shared → Prop} (hh : A.handled = none)
    (hl : s.heap.NoLimit) (hroom : A.depth < recursionLimit) (hg : s.heap.IsGen a g) (hgs : s.gens[g]? = some gs) (hw : Wake (model P w) A.in1 gs (s.setGen g .running) (PhY Y Z))
    (hY : ∀ v gs' s₁, Susp (some gs') → gs'.bare = true → Y v gs' s₁ → Q (some v) (s₁.setGen g gs'))
    (hZ : ∀ s₁, Z s₁ → ∀ h', (∀ b o, s₁.heap.get? b = some o → h'.get? b = some o) → Q none { s₁.setGen g .finished with heap := h' }) :
    wpAny (model P w) A (pyNext (.ref a)) Q E s := by
  unfold pyNext
  refine wpAny_bind (wpAny_attempt (wpAny_callSpecial?_slot (name := Str.ofString "__next__") hg.typeIs slot_gen_next
    (wpAny_call_entry slot_gen_next hg.typeIs entry_gen_next ?_ (args_gen_next _))))
  show wpAny _ A.in1 (Builtin.Generator.genWake (.ref a) (.send .none)) _ _ s
  unfold Builtin.Generator.genWake
  refine wpAny_bind (wpAny_holding (wpAny_genNumber hg (wpAny_bind (wpAny_genState hgs ?_))))
  have fin : ∀ (e : End) (s₁ : Shared), PhY Y Z e s₁ → e.quiet = true := fun e s₁ h => by
    rcases h with ⟨v, g', l, k, c, p, fs, rfl, hq, _⟩ | ⟨r, rfl, _, _⟩
    · exact hq
    · rfl
  cases gs with
  | running => exact hw.elim
  | finished => exact hw.elim
  | _ =>
    refine wpAny_bind (wpAny_roomToWake hl hroom ?_)
    show wpAny _ A.in1 (.resume g (.send .none) [] _) _ _ s
    refine wpAny_wake hgs hw fun e s₁ he => ⟨fin e s₁ he, ?_⟩
    rcases he with ⟨v, g', l, k, c, p, fs, rfl, hq, hy⟩ | ⟨r, rfl, hr, hz⟩
    · exact wpAny_pure ⟨v, rfl, wpAny_pure (hY v _ s₁ ⟨_, _, _, _, _, _, rfl⟩ (End.bare_of_quiet hq) hy)⟩
    · have hres : End.result (.ret r) = .returned .none := by
        rcases hr with hr | hr <;> rw [hr] <;> rfl
      first | rw [hres] | simp only [hres]
      show wpAny _ A.in1 (newExc (.type "StopIteration") [] >>= _) _ _ _
      refine wpAny_bind ?_
      simp only [newExc, newTuple]
      refine wpAny_bind (wpAny_newObj_type ?_ (by size_fits))
      refine wpAny_bind (m := firstArgMember _ _) (wpAny_of_eq (a := Value.none) (by first | rfl | (simp only [firstArgMember]; rfl)) ?_)
      refine wpAny_newObj_type ?_ (by size_fits)
      simp only [raiseNew]
      refine wpAny_bind (wpAny_bind (wpAny_handled ?_))
      first | rw [show A.in1.handled = none from hh] | rw [hh]
      refine wpAny_throw ?_
      refine wpAny_bind (wpAny_isInstance (T := "StopIteration") (b := true) ⟨_, Heap.get?_push_size _ rfl, rfl⟩ isSubtype_stop ?_)
      exact wpAny_pure (hZ s₁ hz _ fun b o hb => Heap.get?_push_of_some _ (Heap.get?_push_of_some _ hb))
end

/-! ### a for in a generator's body -/
section
variable {M : Model} {A : Around} {Φ : Ph} {c : Code} {fs : List Frame} {s : Shared} {env : Env} {K : Flow → Sem PySem.Fin} {J : Value → Sem PySem.Fin} {gd : Bool → Bool} {lv : List Value → List Value} {target iter : Expr} {body : List Stmt} {pos : Pos}
/-- what a loop's end goes on with -/
def backK (env : Env) (K : Flow → Sem PySem.Fin) (J : Value → Sem PySem.Fin) (gd : Bool → Bool) (lv : List Value → List Value) : Result → Sem PySem.Fin :=
  fun r => ((match r with | .ok f => (.pure f : Sem Flow) | .error e => .raise e).onRaise fun (x : Value) => do
    if (← field x 1) == Value.none then unsupported "frame.own-activation:exception-without-traceback"
    setFlight x env.frame).wrap K J gd lv
theorem st_For (hs : ∀ x, foldedSetIterable iter env x = pure x)
    (h : wpAny M (A.over c fs) (eval iter env) (fun x s1 => wpAny M (A.over c fs) (pyIter x) (fun it s2 => ∀ p, Stre M A Φ (.forLoop target it body [] env) (M.den (.forLoop target it body [] env)) (.ret (backK env K J gd lv) none (gd false) (lv []) c p [] :: fs) s2)
      (fun _ _ => False) s1) (fun _ _ => False) s) : Stre M A Φ c ((exec (.For target iter body [] pos) env).wrap K J gd lv) fs s := by
  rw [exec_For]
  refine st_bw (wpAny_standAt ?_)
  refine st_bw (wpAny_mono h (fun x s1 h1 => ?_) fun _ _ z => z)
  refine st_bw (wpAny_of_eq (hs x) ?_)
  refine st_bw (wpAny_standAt ?_)
  refine st_bw (wpAny_holding (wpAny_mono h1 (fun it s2 h2 => ?_) fun _ _ z => z))
  exact st_call h2
end
section
variable {P : Program} {w : World} {A : Around} {Φ : Ph} {fs : List Frame} {s : Shared} {env : Env} {target : Expr} {it : Value} {body : List Stmt}
def turnK (target : Expr) (it : Value) (body : List Stmt) (env : Env) : Flow → Sem PySem.Fin
  | .next | .cont => .pure (.again (.forLoop target it body [] env))
  | .brk => .pure (.done .next)
  | .ret v => .pure (.done (.ret v))
def turnH (env : Env) : Value → Sem PySem.Fin := fun e => (do noteFrame e env; theTreesLotGoes e : Sem Unit).wrap (fun _ => .raise e) .raise id id
theorem st_forLoop
    (h : wpAny (model P w) (A.over (.forLoop target it body [] env) fs) (pyNext it) (fun r s1 => match r with
      | none => Stre (model P w) A Φ (.block [] env) ((model P w).den (.block [] env)) fs s1
      | some v => wpAny (model P w) (A.over (.forLoop target it body [] env) fs) (letOwnedTupleGo target it v) (fun _ s2 => wpAny (model P w) (A.over (.forLoop target it body [] env) fs) (assign target env v) (fun _ s3 =>
          Stre (model P w) A Φ (.forLoop target it body [] env) ((execs body env).wrap (turnK target it body env) (turnH env) id id) fs s3) (fun _ _ => False) s2) (fun _ _ => False) s1) (fun _ _ => False) s) :
    Stre (model P w) A Φ (.forLoop target it body [] env) ((model P w).den (.forLoop target it body [] env)) fs s := by
  show Stre _ A Φ _ ((forTurn target it body [] env).onRaise (fun x => do noteFrame x env; theTreesLotGoes x)) fs s
  unfold forTurn
  rw [Sem.onRaise_eq_wrap]
  refine st_bw (wpAny_standAt ?_)
  refine st_bw (wpAny_onRaise (wpAny_mono h (fun r s1 h1 => ?_) fun _ _ z => z.elim))
  cases r with
  | none => exact st_again rfl h1
  | some v =>
    refine st_bw (wpAny_mono h1 (fun _ s2 h2 => ?_) fun _ _ z => z)
    refine st_bw (wpAny_mono h2 (fun _ s3 h3 => ?_) fun _ _ z => z)
    rw [Sem.bind_eq_wrap', Sem.wrap_wrap]
    have e : (fun f => Sem.wrap (fun a => (.pure a : Sem PySem.Fin)) (fun e => ((do noteFrame e env; theTreesLotGoes e : Sem Unit).bind fun _ => (.raise e : Sem PySem.Fin))) id id (match f with
        | .next | .cont => again (.forLoop target it body [] env)
        | .brk => pure (.done .next)
        | .ret v => pure (.done (.ret v)))) = turnK target it body env := by
      funext f
      cases f <;> rfl
    have e2 : (fun e => Sem.wrap (fun a => (.pure a : Sem PySem.Fin)) (fun e => ((do noteFrame e env; theTreesLotGoes e : Sem Unit).bind fun _ => (.raise e : Sem PySem.Fin))) id id (Sem.raise e : Sem PySem.Fin)) = turnH env := by
      funext e
      unfold turnH
      rw [← Sem.bind_eq_wrap]
      rfl
    first
      | exact (show Stre _ A Φ _ ((execs body env).wrap _ _ id id) fs s3 from by
          rw [← e, ← e2] at h3
          exact h3)
      | (rw [← e, ← e2] at h3; exact h3)
theorem st_block0 {k : Result → Sem PySem.Fin} {h : Option Value} {g : Bool} {l kp : List Value} {c₁ : Code} {p₁ : Pos} (hk : Stre (model P w) A Φ c₁ (k (.ok .next)) fs s) :
    Stre (model P w) A Φ (.block [] env) ((model P w).den (.block [] env)) (.ret k h g l c₁ p₁ kp :: fs) s := by
  show Stre _ A Φ _ (do return Fin.done (← (execs [] env).onRaise (fun x => do noteFrame x env; theTreesLotGoes x))) _ s
  exact st_leaf (.ok .next) hk
end
end GenF
set_option maxRecDepth 100000
set_option maxHeartbeats 2000000
namespace L2
open PySem PySem.Spec PyProof.Rows GenW GenF
/-- lists and tuples alone -/
def DataHp (D : Hp) : Prop := ∀ b o, D b = some o → (∃ xs, o = HO.tup xs) ∨ ∃ xs, o = HO.lst xs
def ExtH (D H : Hp) : Prop := ∀ b o, D b = some o → H b = some o
open Classical in
/-- the data, and all other things as they are -/
noncomputable def fullH (base : Heap) (fs own : List Addr) (D : Hp) (h : Heap) : Hp := fun b => match D b with
  | some o => some o
  | none => if b ∈ own ∨ b ∈ fs ∨ (base.get? b).isSome = true then none else (h.get? b).map fun o => HO.ext fun h' => h'.get? b = some o
section
variable {base : Heap} {fs own : List Addr} {D : Hp} {h : Heap} {b : Addr} {P : Program} {w : World}
theorem full_data {o : HO} (e : D b = some o) : fullH base fs own D h b = some o := by unfold fullH; rw [e]
theorem full_ext (e : D b = none) (h1 : b ∉ own) (h2 : b ∉ fs) (h3 : base.get? b = none) {o : Obj} (ho : h.get? b = some o) : fullH base fs own D h b = some (.ext fun h' => h'.get? b = some o) := by
  unfold fullH
  rw [e]
  dsimp only
  rw [if_neg (by rintro (z | z | z); exact h1 z; exact h2 z; rw [h3] at z; cases z), ho]
  rfl
theorem full_none (e : D b = none) (h1 : b ∈ own ∨ b ∈ fs ∨ (base.get? b).isSome = true ∨ h.get? b = none) : fullH base fs own D h b = none := by
  unfold fullH
  rw [e]
  dsimp only
  split
  · rfl
  · rename_i hn
    rcases h1 with z | z | z | z
    · exact absurd (.inl z) hn
    · exact absurd (.inr (.inl z)) hn
    · exact absurd (.inr (.inr z)) hn
    · rw [z]; rfl
theorem full_cases {o : HO} (e : fullH base fs own D h b = some o) : D b = some o ∨ (D b = none ∧ b ∉ own ∧ b ∉ fs ∧ base.get? b = none ∧ ∃ u, h.get? b = some u ∧ o = .ext fun h' => h'.get? b = some u) := by
  unfold fullH at e
  cases q : D b with
  | some o' => rw [q] at e; exact .inl e
  | none =>
    rw [q] at e
    dsimp only at e
    split at e
    · cases e
    · rename_i hn
      cases r : h.get? b with
      | none => rw [r] at e; cases e
      | some u =>
        rw [r] at e
        refine .inr ⟨rfl, fun z => hn (.inl z), fun z => hn (.inr (.inl z)), ?_, u, rfl, (Option.some.inj e).symm⟩
        cases z : base.get? b with
        | none => rfl
        | some _ => exact absurd (.inr (.inr (by rw [z]; rfl))) hn
theorem full_sub {own' : List Addr} (hs : ∀ x ∈ own, x ∈ own') : Same (fullH base fs own' D h) (fullH base fs own D h) := fun c o e => by
  rcases full_cases e with z | ⟨z1, z2, z3, z4, u, z5, rfl⟩
  · exact full_data z
  · exact full_ext z1 (fun m => z2 (hs c m)) z3 z4 z5
theorem obj_flat {H H' : Hp} {o : HO} (ho : (∃ xs, o = HO.tup xs) ∨ ∃ xs, o = HO.lst xs) (x : ObjOk P w H h b o) : ObjOk P w H' h b o := by
  rcases ho with ⟨xs, rfl⟩ | ⟨xs, rfl⟩ <;> exact x
theorem full_hok (hD : DataHp D) (hd : HOk P w D h) : HOk P w (fullH base fs own D h) h := fun c o e => by
  rcases full_cases e with z | ⟨z1, z2, z3, z4, u, z5, rfl⟩
  · exact obj_flat (hD c o z) (hd c o z)
  · exact ⟨z5, ⟨u, z5⟩, fun h1 h2 p k => k u p⟩
end
/-- what a walk of a generator is told of: the data that it reads, how many items, what they are -/
structure GPar where
  P : Program
  w : World
  base : Heap
  fs : List Addr
  D : Hp
  sc : Shared
  N : Nat
  item : Nat → V → Hp → Prop
structure WkOk (G : GPar) (ow : List (Addr × Obj)) (s : Shared) : Prop where
  os : s.os = G.sc.os
  bare : AllBare s.gens
  base : ∀ b o, G.base.get? b = some o → s.heap.get? b = some o
  slot : ∀ b o, b ∈ G.fs → G.sc.heap.get? b = some o → ∃ sl, s.heap.get? b = some { o with slots := sl }
  data : HOk G.P G.w G.D s.heap
  own : ∀ p ∈ ow, s.heap.get? p.1 = some p.2
structure Kp (G : GPar) (ow ow' : List (Addr × Obj)) (s s' : Shared) : Prop where
  os : s'.os = G.sc.os
  bare : AllBare s'.gens
  keep : ∀ b o, s.heap.get? b = some o → (∀ p ∈ ow, p.1 ≠ b) → b ∉ G.fs → G.D b = none → s'.heap.get? b = some o
  slot : ∀ b o, b ∈ G.fs → s.heap.get? b = some o → ∃ sl, s'.heap.get? b = some { o with slots := sl }
  data : HOk G.P G.w G.D s'.heap
  own : ∀ p ∈ ow', s'.heap.get? p.1 = some p.2 ∧ G.sc.heap.objs.size ≤ p.1 ∧ (∀ v, p.2.data ≠ .cell v) ∧ ((∃ q ∈ ow, q.1 = p.1) ∨ s.heap.get? p.1 = none)
/-- what is new: tuples -/
def NewIn (s : Shared) (Hn H : Hp) : Prop := ∀ b xs, s.heap.get? b = none → Hn b = some (.tup xs) → H b = some (.tup xs)
structure Gave (G : GPar) (j : Nat) (ow' : List (Addr × Obj)) (s : Shared) (v : Value) (s' : Shared) (Hn : Hp) (y : V) : Prop where
  rel : RelV y v
  new : ∀ b xs, s.heap.get? b = none → Hn b = some (.tup xs) → ObjOk G.P G.w Hn s'.heap b (.tup xs) ∧ ∀ p ∈ ow', p.1 ≠ b
  item : ∀ H, ExtH G.D H → NewIn s Hn H → G.item j y H
/-- it sleeps at gs, its own things are ow, m items are to come -/
def Live (A : Around) (G : GPar) : Nat → List (Addr × Obj) → GenState → Prop
  | 0, ow, gs => ∀ s, WkOk G ow s → Wake (model G.P G.w) A gs s (PhY (fun _ _ _ => False) fun s' => Kp G ow [] s s')
  | m + 1, ow, gs => ∀ s, WkOk G ow s → Wake (model G.P G.w) A gs s (PhY (fun v gs' s' => ∃ ow' y Hn, Kp G ow ow' s s' ∧ Gave G (G.N - (m + 1)) ow' s v s' Hn y ∧ Live A G m ow' gs') fun _ => False)
def PhOf (A : Around) (G : GPar) (m : Nat) (ow : List (Addr × Obj)) (s : Shared) : Ph := match m with
  | 0 => PhY (fun _ _ _ => False) fun s' => Kp G ow [] s s'
  | m + 1 => PhY (fun v gs' s' => ∃ ow' y Hn, Kp G ow ow' s s' ∧ Gave G (G.N - (m + 1)) ow' s v s' Hn y ∧ Live A G m ow' gs') fun _ => False
theorem live_iff {A : Around} {G : GPar} {m : Nat} {ow : List (Addr × Obj)} {gs : GenState} : Live A G m ow gs ↔ ∀ s, WkOk G ow s → Wake (model G.P G.w) A gs s (PhOf A G m ow s) := by
  cases m <;> exact Iff.rfl

/-- the context of a generator's body, of which G tells -/
structure GCx (X : Cx) (G : GPar) : Prop where
  ok : X.Ok
  eP : X.prog = G.P
  ew : X.w = G.w
  eb : X.base = G.base
  ef : X.fs = G.fs
  es : X.s_0 = G.sc
  h0 : X.H_0 = fun _ => none
  ex : ∀ b o, X.s_0.heap.get? b = some o → b ∉ X.fs → b ∉ X.ex → X.base.get? b = some o
  nc : X.env.cells = []
  pn : X.pn = []
  xe : X.xe = fun _ _ => False
  calm : X.calm = true
  dat : DataHp G.D
  dok : HOk G.P G.w G.D G.sc.heap
  dfs : ∀ b ∈ X.fs, G.D b = none
  dba : ∀ b, (X.base.get? b).isSome = true → G.D b = none
theorem GCx.dyoung {X : Cx} {G : GPar} (g : GCx X G) {b : Addr} (h : G.sc.heap.objs.size ≤ b) : G.D b = none := by
  cases e : G.D b with
  | none => rfl
  | some o => exact absurd (Nat.lt_of_lt_of_le (g.dok b o e).lt h) (Nat.lt_irrefl _)
theorem inv_woken {X : Cx} {G : GPar} (g : GCx X G) {σ : L2.St} {H : Hp} {s0 s : Shared} {own : List Addr} {ow : List (Addr × Obj)} (I : Inv X [] σ H s0) (W : WkOk G ow s) (hL : X.env.locals ∈ own) (hD : ∀ b ∈ own, G.D b = none)
    (hk : ∀ o, s0.heap.get? X.env.locals = some o → s.heap.get? X.env.locals = some o) : Inv X [] σ (fullH X.base X.fs own G.D s.heap) s := by
  have hb : ∀ b o, X.s_0.heap.get? b = some o → b ∉ X.ex → b ∈ X.fs ∨ X.base.get? b = some o := fun b o e hx => by
    by_cases hf : b ∈ X.fs
    · exact .inl hf
    · exact .inr (g.ex b o e hf hx)
  have wb : ∀ b o, X.base.get? b = some o → s.heap.get? b = some o := fun b o e => W.base b o (by rw [← g.eb]; exact e)
  have ws : ∀ b o, b ∈ X.fs → X.s_0.heap.get? b = some o → ∃ sl, s.heap.get? b = some { o with slots := sl } := fun b o hf e => W.slot b o (by rw [← g.ef]; exact hf) (by rw [← g.es]; exact e)
  refine ⟨g.ok, by rw [W.os, g.es], W.bare, ⟨fun b o e _ hf hx => ?_, fun b o e _ hf hx => ws b o hf e, fun b o e _ hx => ?_, fun b o e hx => ?_, fun b xs e => ?_, fun b o u e => ?_, fun b ps e => ?_⟩, ?_, fun x c e => ?_, ?_, fun x c e => ?_, fun p hp => ?_, ?_, I.len⟩
  · rcases hb b o e hx with z | z
    · exact absurd z hf
    · exact wb b o z
  · rcases hb b o e hx with z | z
    · exact full_none (g.dfs b z) (.inr (.inl z))
    · exact full_none (g.dba b (by rw [z]; rfl)) (.inr (.inr (.inl (by rw [z]; rfl))))
  · rcases hb b o e hx with z | z
    · obtain ⟨sl, q⟩ := ws b o z e
      exact ⟨_, q⟩
    · exact ⟨o, wb b o z⟩
  · rw [g.h0] at e; cases e
  · rw [g.h0] at e; cases e
  · rw [g.h0] at e; cases e
  · obtain ⟨m, ⟨o, es, ep, ho, r⟩, hl⟩ := I.loc
    refine ⟨m, ⟨o, es, ep, hk o ho, r⟩, fun i x v e1 e2 e3 => ?_⟩
    obtain ⟨u, ru, l⟩ := hl i x v e1 e2 e3
    refine ⟨u, ru, ?_⟩
    rcases l with l | ⟨_, c, e, _⟩
    · exact .inl l
    · rw [g.nc] at e; cases e
  · rw [g.nc] at e; cases e
  · exact full_none (hD _ hL) (.inl hL)
  · rw [g.nc] at e; cases e
  · rw [g.pn] at hp; cases hp
  · rw [g.eP, g.ew]
    exact full_hok g.dat W.data
/-- behind a stretch -/
theorem kp_of {X : Cx} {G : GPar} (g : GCx X G) {pins : List (Addr × Obj)} {σ : L2.St} {H : Hp} {s0 s : Shared} {own : List Addr} {ow ow' : List (Addr × Obj)} (I : Inv X pins σ H s) (W : WkOk G ow s0) (hs : Same (fullH X.base X.fs own G.D s0.heap) H)
    (hown : ∀ b ∈ own, (∃ q ∈ ow, q.1 = b) ∨ s0.heap.get? b = none) (how : ∀ p ∈ ow', p.1 ∈ own ∧ s.heap.get? p.1 = some p.2 ∧ G.sc.heap.objs.size ≤ p.1 ∧ ∀ v, p.2.data ≠ .cell v) : Kp G ow ow' s0 s where
  os := by rw [I.os, g.es]
  bare := I.bare
  keep := fun b o e h1 h2 h3 => by
    rw [← g.ef] at h2
    cases z : X.base.get? b with
    | some o' =>
      have e1 := W.base b o' (by rw [← g.eb]; exact z)
      rw [e1] at e
      cases e
      exact I.bk b _ z
    | none =>
      have hno : b ∉ own := fun m => by
        rcases hown b m with ⟨q, hq, rfl⟩ | q
        · exact h1 q hq rfl
        · rw [q] at e; cases e
      have := I.hok b _ (hs b _ (full_ext h3 hno h2 z e))
      exact this.1
  slot := fun b o hf e => by
    have hf' : b ∈ X.fs := by rw [g.ef]; exact hf
    obtain ⟨_, o0, e0, _⟩ := g.ok.funs.mem hf'
    obtain ⟨sl1, q1⟩ := W.slot b o0 hf (by rw [← g.es]; exact e0)
    rw [q1] at e
    cases e
    obtain ⟨sl2, q2⟩ := I.base.slot b o0 e0 (by rw [g.h0]) hf' (fun z => g.ok.exfs b z hf')
    exact ⟨sl2, q2⟩
  data := fun b o e => by
    have q := I.hok b o (hs b o (full_data e))
    rw [g.eP, g.ew] at q
    exact obj_flat (g.dat b o e) q
  own := fun p hp => by
    obtain ⟨h1, h2, h3, h4⟩ := how p hp
    exact ⟨h2, h3, h4, hown _ h1⟩
end L2
set_option maxRecDepth 100000
set_option maxHeartbeats 2000000
namespace GenF
open PySem PyProof.Rows
open Sem (wp)
section
variable {M : Model} {A : Around} {Φ : Ph} {c : Code} {fs : List Frame} {s : Shared} {env : Env} {K : Flow → Sem PySem.Fin} {J : Value → Sem PySem.Fin} {gd : Bool → Bool} {lv : List Value → List Value}
theorem st_yieldG {v : Value} {g : Bool} {l : List Value} {k : Resume → Sem PySem.Fin} (hfs : splitAtGen fs = none) (h : ∀ p, Φ (.susp v g l k c p fs) s) : Stre M A Φ c (.yield v g l k) fs s := by
  rintro Γ p rfl _
  exact ⟨_, s, Runs.yield' fs hfs, h p⟩
theorem st_Expr_Yield {e : Expr} {ypos pos : Pos} (hfs : splitAtGen fs = none) (hgd : gd false = false)
    (h : wpAny M (A.over c fs) (eval e env) (fun v s' => ∀ (g : Bool) (l : List Value) (k : Resume → Sem PySem.Fin) (p : Pos), g = false → (∀ Φ' s'', Stre M A Φ' c (K .next) fs s'' → Stre M A Φ' c (k (.send .none)) fs s'') → Φ (.susp v g l k c p fs) s') (fun _ _ => False) s)
    (hco : env.scope.isCoroutine = false) (hi : interactive env = false) : Stre M A Φ c ((exec (.Expr (.Yield (some e) ypos) pos) env).wrap K J gd lv) fs s := by
  rw [exec_Expr env _ pos hi rfl]
  show Stre M A Φ c (.at pos fun _ => ((eval e env >>= fun v => (standAt ypos >>= fun _ => yieldOut env v)) >>= fun x => dropValue (.Yield (some e) ypos) pos x).wrap K J gd lv) fs s
  have hy : ∀ v, yieldOut env v = yieldValue v := fun v => by simp only [yieldOut, hco, Bool.false_eq_true, if_false]
  simp only [hy]
  refine st_at ?_
  rw [Sem.bind_eq_wrap', Sem.bind_eq_wrap', Sem.wrap_wrap, Sem.wrap_wrap]
  refine st_wrap (wpAny_mono h (fun v s' h' => ?_) fun _ _ x => x)
  refine st_at (st_yieldG hfs fun p => h' _ _ _ p ?_ ?_)
  · exact hgd
  · exact fun Φ' s'' hx => hx
end
end GenF
namespace L2
open PySem PySem.Spec PyProof.Rows GenW GenF
section
variable {X : Cx} {G : GPar} {tg e : Expr} {yp pp : Pos} {fp : List Addr} {it : Addr} {tn : Nat → Heap → Prop} {J₀ : It} {g : TG} {te : TE} {σs : Nat → L2.St} {A : Around} {fs0 : List Frame}
theorem live_loop (gc : GCx X G) (T : Turn X.prog X.w X.K tg J₀ fp it tn) (hg : PG X tg g) (he : PE X e te) (hco : X.env.scope.isCoroutine = false) (hi : interactive X.env = false)
    (hov : A.over (.forLoop tg (.ref it) [.Expr (.Yield (some e) yp) pp] [] X.env) fs0 = X.A) (hsp : splitAtGen fs0 = none) (hgd : fs0.any Frame.guarded = false) (hfp : ∀ b ∈ fp, b ≠ X.env.locals ∧ b ∉ X.fs ∧ X.s_0.heap.objs.size ≤ b)
    (rdj : ∀ j, j < G.N → ∀ H, ExtH G.D H → J₀.go j H ∧ ∀ x H', J₀.yld j H x H' → g x (σs j) H' fun σ2 H2 => σ2 = σs (j + 1) ∧ te σ2 H2 fun y H3 => Same H H3 ∧ ∀ H4, ExtH G.D H4 → (∀ b xs, H b = none → H3 b = some (.tup xs) → H4 b = some (.tup xs)) → G.item j y H4)
    (rdN : ∀ H, ExtH G.D H → J₀.stop G.N H)
    (hend : ∀ (Φ : Ph) (s : Shared), (∀ r : Result, (r = .ok (.ret .none) ∨ r = .ok .next) → Φ (.ret r) s) → Stre (model X.prog X.w) A Φ (.block [] X.env) ((model X.prog X.w).den (.block [] X.env)) fs0 s) :
    ∀ (m j : Nat), m + j = G.N → ∀ (ow : List (Addr × Obj)) (s0 s : Shared) (H : Hp), Inv X [] (σs j) H s → Same (fullH X.base X.fs (X.env.locals :: fp) G.D s0.heap) H → tn j s.heap → (∀ b ∈ fp, H b = none) → WkOk G ow s0 →
      (∀ b ∈ X.env.locals :: fp, (∃ q ∈ ow, q.1 = b) ∨ s0.heap.get? b = none) →
      Stre (model X.prog X.w) A (PhOf A G m ow s0) (.forLoop tg (.ref it) [.Expr (.Yield (some e) yp) pp] [] X.env) ((model X.prog X.w).den (.forLoop tg (.ref it) [.Expr (.Yield (some e) yp) pp] [] X.env)) fs0 s := by
  have stat : ∀ {H' : Hp}, (∀ b ∈ fp, H' b = none) → ∀ b ∈ fp, FpOk X [] H' b := fun hn b hb => by
    obtain ⟨h1, h2, h3⟩ := hfp b hb
    exact ⟨hn b hb, h1, h2, .inr h3, fun x c z => (by rw [gc.nc] at z; cases z), fun p hp => (by rw [gc.pn] at hp; cases hp)⟩
  have xf : ∀ {x : Value} {s' : Shared}, X.xe x s' → False := fun {x s'} h => by rw [gc.xe] at h; exact h
  have ext : ∀ {s0 : Shared} {H : Hp}, Same (fullH X.base X.fs (X.env.locals :: fp) G.D s0.heap) H → ExtH G.D H := fun hs b o q => hs b o (full_data q)
  have yL : G.sc.heap.objs.size ≤ X.env.locals := by rw [← gc.es]; exact gc.ok.above
  have young : ∀ b ∈ X.env.locals :: fp, G.sc.heap.objs.size ≤ b := fun b hb => by
    rcases List.mem_cons.mp hb with rfl | hb
    · exact yL
    · rw [← gc.es]; exact (hfp b hb).2.2
  intro m
  induction m with
  | zero =>
    intro j hj ow s0 s H I hs ht hn W hown
    have ej : j = G.N := by omega
    refine st_forLoop ?_
    rw [hov]
    refine wpAny_mono (T.done X rfl rfl rfl gc.calm j [] s (σs j) H (fun _ _ => False) I (stat hn) ht (by rw [ej]; exact rdN H (ext hs))) (fun r s1 ⟨hr, I1⟩ => ?_) fun _ _ z => z
    subst hr
    exact hend _ s1 fun r hr => .inr ⟨r, rfl, hr, kp_of gc I1 W hs hown fun p hp => (by cases hp)⟩
  | succ m ih =>
    intro j hj ow s0 s H I hs ht hn W hown
    obtain ⟨hgo, hrd⟩ := rdj j (by omega) H (ext hs)
    refine st_forLoop ?_
    rw [hov]
    refine wpAny_mono (T.item X rfl rfl rfl gc.calm j [] s (σs j) H (fun _ _ => False) I (stat hn) ht hgo) (fun r s1 ⟨u, hr, h1⟩ => ?_) fun _ _ z => z
    subst hr
    refine wpAny_mono h1 (fun _ s2 ⟨x, H2, I2, r2, y2, t2, n2⟩ => ?_) fun _ _ z => z
    have I2' := I2.pinned (stat n2) (T.obj _ _ t2)
    refine wpAny_mono (hg.run _ s2 (σs j) H2 x u _ I2' r2 (hrd x H2 y2)) (fun _ s3 ⟨σ3, H3, I3, e3, q3⟩ => ?_) fun _ _ z => xf z
    subst e3
    rw [execs_cons_wrap]
    refine st_Expr_Yield hsp rfl ?_ hco hi
    rw [hov]
    refine wpAny_mono (he.run _ s3 _ H3 _ I3 q3) (fun v s4 ⟨y, H4, I4, rv, sm, it4⟩ => ?_) fun _ _ z => xf z
    intro gg l k p hgg hk
    have kpin : ∀ b ∈ fp, ∀ o, s2.heap.get? b = some o → s4.heap.get? b = some o ∧ H4 b = none := fun b hb o q =>
      let z := I4.pin (b, o) (List.mem_append_right _ (List.mem_append_right _ (mem_pinsAt hb q)))
      ⟨z.1, z.2.1⟩
    have n4 : ∀ b ∈ fp, H4 b = none := fun b hb => by
      obtain ⟨o, q, _⟩ := T.obj _ _ t2 b hb
      exact (kpin b hb o q).2
    have t4 : tn (j + 1) s4.heap := T.keep _ _ _ t2 fun b hb o q => (kpin b hb o q).1
    have hs4 : Same (fullH X.base X.fs (X.env.locals :: fp) G.D s0.heap) H4 := fun b o q => sm b o (hs b o q)
    have nown : ∀ b ∈ X.env.locals :: fp, H4 b = none := fun b hb => by
      rcases List.mem_cons.mp hb with rfl | hb
      · exact I4.free
      · exact n4 b hb
    have exo : ∀ b ∈ X.env.locals :: fp, ∃ o, s4.heap.get? b = some o ∧ ∀ v, o.data ≠ .cell v := fun b hb => by
      rcases List.mem_cons.mp hb with rfl | hb
      · obtain ⟨mm, ⟨o, es, ep, ho, hd, _⟩, _⟩ := I4.loc
        exact ⟨o, ho, fun v q => by rw [hd] at q; cases q⟩
      · exact T.obj _ _ t4 b hb
    have hgen : End.quiet (.susp v gg l k (.forLoop tg (.ref it) [.Expr (.Yield (some e) yp) pp] [] X.env) p fs0) = true := by
      simp [End.quiet, hgg, hgd]
    refine .inl ⟨v, gg, l, k, _, p, fs0, rfl, hgen, pinsAt (X.env.locals :: fp) s4.heap, y, H4, kp_of gc I4 W hs4 hown (fun p hp => ?_), ⟨rv, fun b xs hb hq => ⟨?_, fun p hp hpb => ?_⟩, fun HH hE hNw => ?_⟩, live_iff.mpr fun s5 W5 => ?_⟩
    · obtain ⟨h1, h2⟩ := of_pinsAt hp
      obtain ⟨o, q1, q2⟩ := exo p.1 h1
      rw [h2] at q1
      cases q1
      exact ⟨h1, h2, young p.1 h1, q2⟩
    · have q := I4.hok b _ hq
      rw [gc.eP, gc.ew] at q
      exact q
    · have q := nown p.1 (of_pinsAt hp).1
      rw [hpb, hq] at q
      cases q
    · have ej : G.N - (m + 1) = j := by omega
      rw [ej]
      refine it4 HH hE fun b xs hb hq => hNw b xs ?_ hq
      cases z : s0.heap.get? b with
      | none => rfl
      | some o =>
        exfalso
        have d0 : G.D b = none := by
          cases q : G.D b with
          | none => rfl
          | some o' => rw [ext hs b o' q] at hb; cases hb
        have o0 : b ∉ X.env.locals :: fp := fun hm => by rw [nown b hm] at hq; cases hq
        have f0 : b ∉ X.fs := fun hm => by
          obtain ⟨_, u0, e0, _⟩ := gc.ok.funs.mem hm
          have := I4.base.free b u0 e0 (by rw [gc.h0]) (fun z => gc.ok.exfs b z hm)
          rw [this] at hq
          cases hq
        have b0 : X.base.get? b = none := by
          cases q : X.base.get? b with
          | none => rfl
          | some u0 =>
            have := (I4.bs b u0 q).2
            rw [this] at hq
            cases hq
        rw [hs b _ (full_ext d0 o0 f0 b0 z)] at hb
        cases hb
    · show Stre (model G.P G.w) A (PhOf A G m (pinsAt (X.env.locals :: fp) s4.heap) s5) (.forLoop tg (.ref it) [.Expr (.Yield (some e) yp) pp] [] X.env) (k (.send .none)) fs0 s5
      rw [← gc.eP, ← gc.ew]
      refine hk _ s5 ?_
      show Stre (model X.prog X.w) A _ _ (.pure (.again (.forLoop tg (.ref it) [.Expr (.Yield (some e) yp) pp] [] X.env))) fs0 s5
      have ow5 : ∀ b ∈ X.env.locals :: fp, ∀ o, s4.heap.get? b = some o → s5.heap.get? b = some o := fun b hb o q => W5.own (b, o) (mem_pinsAt hb q)
      refine st_again rfl (ih (j + 1) (by omega) _ s5 s5 _ (inv_woken gc (I4.pins_of fun p hp => (by cases hp)) W5 List.mem_cons_self (fun b hb => gc.dyoung (young b hb)) (ow5 _ List.mem_cons_self)) (fun _ _ q => q) (T.keep _ _ _ t4 fun b hb o q => ow5 b (List.mem_cons_of_mem _ hb) o q)
        (fun b hb => full_none (gc.dyoung (young b (List.mem_cons_of_mem _ hb))) (.inl (List.mem_cons_of_mem _ hb))) W5 fun b hb => ?_)
      obtain ⟨o, q, _⟩ := exo b hb
      exact .inl ⟨(b, o), mem_pinsAt hb q, rfl⟩
end
end L2
set_option maxRecDepth 100000
set_option maxHeartbeats 2000000
namespace GenF
open PySem PyProof.Rows
open Sem (wp)
theorem st_func {P : Program} {w : World} {A : Around} {Φ : Ph} {fs : List Frame} {s : Shared} {env : Env} {body : List Stmt}
    (h : Stre (model P w) A Φ (.func body env) ((execs body env).wrap (fun f => .pure (.done (.ret (match f with | .ret v => v | _ => .none)))) (fun e => (leaving env e).wrap (fun _ => .raise e) .raise id id) id id) fs s) :
    Stre (model P w) A Φ (.func body env) ((model P w).den (.func body env)) fs s := by
  show Stre _ A Φ _ (.point [] fun _ => ((execs body env).onRaise (leaving env)) >>= _) fs s
  refine st_point ?_
  rw [Sem.onRaise_eq_wrap, Sem.bind_eq_wrap', Sem.wrap_wrap]
  rw [Sem.wrap_congr (execs body env) _ _ (K' := fun f => .pure (.done (.ret (match f with | .ret v => v | _ => .none))))
    (H' := fun e => (leaving env e).wrap (fun _ => .raise e) .raise id id) (fun f => by cases f <;> rfl)
    (fun e => by rw [Sem.bind_eq_wrap, Sem.wrap_wrap]; rfl)]
  exact h
end GenF
namespace L2
open PySem PySem.Spec PyProof.Rows GenW GenF
/-- the context of a generator's body -/
abbrev gx (P : Program) (w : World) (K : PySem.W.Frag) (mg : Str → Option Value) (base : Heap) (N : List Str) (qual : Str) (scope : Scope) (f : Addr) (cd : Value) (A : Around) (outer : List Env) (s : Shared) (H : Hp) (ex : List Addr) : Cx :=
  { cxOf (fun _ _ _ _ _ _ => False) P w K mg base N qual scope f cd A outer s H (fun _ _ _ => False) with ex := ex, xe := fun _ _ => False }
open Classical in
/-- what stood at the call, but what the module has and the frames -/
noncomputable def exAll (base : Heap) (fs : List Addr) (s : Shared) : List Addr := (List.range s.heap.objs.size).filter fun b => decide (base.get? b = none ∧ b ∉ fs)
theorem mem_exAll {base : Heap} {fs : List Addr} {s : Shared} {b : Addr} : b ∈ exAll base fs s ↔ b < s.heap.objs.size ∧ base.get? b = none ∧ b ∉ fs := by
  unfold exAll
  rw [List.mem_filter, List.mem_range, decide_eq_true_iff]
section
variable {P : Program} {w : World} {K : PySem.W.Frag} {mg : Str → Option Value} {base : Heap} {N : List Str} {qual : Str} {scope : Scope} {f : Addr} {cd : Value} {A : Around} {outer : List Env} {s : Shared} {H0 : Hp}
theorem gx_ok (o : (gx P w K mg base N qual scope f cd A outer s H0 []).Ok) (hnc : (envOfC qual scope s.heap.objs.size f cd).cells = []) : (gx P w K mg base N qual scope f cd A outer s (fun _ => none) (exAll base (frs outer) s)).Ok := by
  refine ⟨o.mod, o.kind, o.glob, o.blt, o.above, o.inj, o.has, o.cab, o.hd, o.frames, o.stk, fun b hb => ⟨?_, fun x c e => ?_⟩, fun b ob e => ⟨(o.bs b ob e).1, rfl⟩, o.bsz, fun b ob e hb => ?_, fun b hb hf => ?_, o.funs, fun _ _ => rfl⟩
  · obtain ⟨h1, _, _⟩ := mem_exAll.mp hb
    exact Nat.ne_of_lt h1
  · have e' : (envOfC qual scope s.heap.objs.size f cd).cells.lookup x = some c := e
    rw [hnc] at e'
    cases e'
  · obtain ⟨_, h2, _⟩ := mem_exAll.mp hb
    have e' : base.get? b = some ob := e
    rw [h2] at e'
    cases e'
  · obtain ⟨_, _, h3⟩ := mem_exAll.mp hb
    exact h3 hf
theorem gx_swap {σ : L2.St} {H : Hp} {s' : Shared} (I : Inv (gx P w K mg base N qual scope f cd A outer s H0 []) [] σ H s') (hnc : (envOfC qual scope s.heap.objs.size f cd).cells = []) :
    Inv (gx P w K mg base N qual scope f cd A outer s (fun _ => none) (exAll base (frs outer) s)) [] σ H s' := by
  have hb : ∀ b o, s.heap.get? b = some o → b ∉ exAll base (frs outer) s → b ∈ frs outer ∨ base.get? b = some o := fun b o e hx => by
    by_cases hf : b ∈ frs outer
    · exact .inl hf
    · refine .inr ?_
      cases z : base.get? b with
      | none => exact absurd (mem_exAll.mpr ⟨Heap.lt_size e, z, hf⟩) hx
      | some u =>
        have q := (I.ok.bs b u z).1
        have q' : s.heap.get? b = some u := q
        rw [e] at q'
        rw [q']
  have hfr : ∀ b o, b ∈ frs outer → s.heap.get? b = some o → (∃ sl, s'.heap.get? b = some { o with slots := sl }) ∧ H b = none := fun b o hf e =>
    ⟨I.base.slot b o e (I.ok.frf b hf) hf (fun z => nomatch z), I.base.free b o e (I.ok.frf b hf) (fun z => nomatch z)⟩
  refine ⟨gx_ok I.ok hnc, I.os, I.bare, ⟨fun b o e _ hf hx => ?_, fun b o e _ hf hx => (hfr b o hf e).1, fun b o e _ hx => ?_, fun b o e hx => ?_, fun b xs e => (by cases e), fun b o u e => (by cases e), fun b ps e => (by cases e)⟩, I.loc, I.cell, I.free, I.freeC, I.pin, I.hok, I.len⟩
  · rcases hb b o e hx with z | z
    · exact absurd z hf
    · exact I.bk b o z
  · rcases hb b o e hx with z | z
    · exact (hfr b o z e).2
    · exact (I.bs b o z).2
  · rcases hb b o e hx with z | z
    · obtain ⟨sl, q⟩ := (hfr b o z e).1
      exact ⟨_, q⟩
    · exact ⟨o, I.bk b o z⟩
end
/-- what a generator def promises of its walk: the arguments, the data that it reads, how many items, what they are -/
abbrev SpW := List V → Hp → Nat → (Nat → V → Hp → Prop) → Prop
/-- what its call gives: a generator that has not begun -/
def WMade (k : Nat) (outer : List Env) (G : GPar) (u : Value) (s' : Shared) : Prop :=
  ∃ (a : Addr) (g : Nat) (c : Code) (go : Obj) (ow : List (Addr × Obj)), u = .ref a ∧ G.sc.heap.objs.size ≤ a ∧ s'.heap.get? a = some go ∧ (∀ h : Heap, h.get? a = some go → h.IsGen a g) ∧ (∀ v, go.data ≠ .cell v) ∧ s'.gens[g]? = some (.fresh c) ∧
    s'.os = G.sc.os ∧ AllBare s'.gens ∧ (∀ b o, G.sc.heap.get? b = some o → s'.heap.get? b = some o) ∧ (∀ p ∈ ow, s'.heap.get? p.1 = some p.2 ∧ G.sc.heap.objs.size ≤ p.1 ∧ p.1 ≠ a ∧ ∀ v, p.2.data ≠ .cell v) ∧
    ∀ (A : Around) (s2 : Shared), Room k A → A.frames = some outer → (∀ b o, s'.heap.get? b = some o → s2.heap.get? b = some o) → s2.os = G.sc.os → AllBare s2.gens → Wake (model G.P G.w) A (.fresh c) s2 (PhOf A G G.N ow s2)
structure WFn (P : Program) (w : World) (K : PySem.W.Frag) (mg : Str → Option Value) (base : Heap) (k : Nat) (f : Addr) (fd : FuncData) (ps : List Str) (sp : SpW) : Prop where
  len : ∀ vs D n item, sp vs D n item → vs.length = ps.length
  run : ∀ (A : Around) (outer : List Env) (s : Shared) (H : Hp) (args : Args) (us : List Value) (vs : List V) (D : Hp) (n : Nat) (item : Nat → V → Hp → Prop), Room k A → Env0 P w K mg base A outer s H → BindsTo s fd args (ps.zip us) → Vals vs us → DataHp D → ExtH D H → sp vs D n item →
    codeAny (model P w) A (.call (.ref f) args) (fun r s' => match r with | .ok (.ret u) => WMade k outer ⟨P, w, base, frs outer, D, s, n, item⟩ u s' | _ => False) s
section
variable {P : Program} {w : World} {K : PySem.W.Frag} {mg : Str → Option Value} {base : Heap} {k : Nat} {f : Addr} {name qual : Str} {params : Arguments} {scope : Scope} {dV kV doc pm cdv ct oc : Value} {an od : Option Addr} {osl : Array (Option Value)} {N ps : List Str} {sp : SpW} {tg iter e : Expr} {yp pp pos : Pos}
/-- THE RULE: a generator def whose body is «for tg in iter: yield e» -/
theorem wfn_of (lk : K.lookup f = some ⟨oc, od, .func (PySem.W.fnOf name qual params [.For tg iter [.Expr (.Yield (some e) yp) pp] [] pos] scope dV kV doc pm an cdv ct), osl⟩) (hcd : PySem.W.codeIn K cdv qual = true) (S : GScope N ps scope)
    (hnc : ∀ n, cellsFrom n scope.names [] = []) (hs : ∀ env x, foldedSetIterable iter env x = pure x) (hin : ∀ A f cd, interactive (envOfC qual scope A f cd) = false)
    (len : ∀ vs D n item, sp vs D n item → vs.length = ps.length)
    (hbody : ∀ (A : Around) (outer : List Env) (s : Shared) (vs : List V) (D : Hp) (n : Nat) (item : Nat → V → Hp → Prop), Room k (A.deeper (envOfC qual scope s.heap.objs.size f cdv)) → sp vs D n item →
      ∃ (wi : TI) (g : TG) (te : TE) (J₀ : It) (σs : Nat → L2.St), σs 0 = start N vs ∧ (∀ H0, PI (gx P w K mg base N qual scope f cdv A outer s H0 []) tg iter wi) ∧ (∀ ex, PG (gx P w K mg base N qual scope f cdv A outer s (fun _ => none) ex) tg g) ∧
        (∀ ex, PE (gx P w K mg base N qual scope f cdv A outer s (fun _ => none) ex) e te) ∧ (∀ H, ExtH D H → wi (start N vs) H fun J H1 => J = J₀ ∧ Same H H1) ∧
        (∀ j, j < n → ∀ H, ExtH D H → J₀.go j H ∧ ∀ x H', J₀.yld j H x H' → g x (σs j) H' fun σ2 H2 => σ2 = σs (j + 1) ∧ te σ2 H2 fun y H3 => Same H H3 ∧ ∀ H4, ExtH D H4 → (∀ b xs, H b = none → H3 b = some (.tup xs) → H4 b = some (.tup xs)) → item j y H4) ∧
        (∀ H, ExtH D H → J₀.stop n H)) :
    WFn P w K mg base (k + 1) f (PySem.W.fnOf name qual params [.For tg iter [.Expr (.Yield (some e) yp) pp] [] pos] scope dV kV doc pm an cdv ct) ps sp := by
  refine ⟨len, fun A outer s H args us vs D n item hr e0 hb r hDd hDH hsp => ?_⟩
  have hl := len _ _ _ _ hsp
  have KX : K.In s.heap := e0.mod.kin.keeps fun b o e => (e0.bs b o e).1
  have lim : s.heap.NoLimit := e0.mod.nolimit.keeps fun b o e => (e0.bs b o e).1
  have hkind : ∀ y ∈ ps.zip us, scope.names.lookup y.1 = some .local ∨ (scope.names.lookup y.1 = some .cell ∧ ((cellsFrom (s.heap.objs.size + 1) scope.names []).lookup y.1).isSome = true) := fun ⟨m, v⟩ hy => by
    rcases S.par m (List.of_mem_zip hy).1 with q | q
    · exact .inl q
    · exact .inr ⟨q, PySem.W.cellsFrom_some _ _ _ (.inl q)⟩
  have dok : HOk P w D s.heap := fun b o e => obj_flat (hDd b o e) (e0.hok b o (hDH b o e))
  have dfs : ∀ b ∈ frs outer, D b = none := fun b hb => by
    cases z : D b with
    | none => rfl
    | some o =>
      have q := hDH b o z
      rw [e0.frf b hb] at q
      cases q
  have dba : ∀ b, (base.get? b).isSome = true → D b = none := fun b hb => by
    cases z : D b with
    | none => rfl
    | some o =>
      have q := hDH b o z
      cases u : base.get? b with
      | none => rw [u] at hb; cases hb
      | some ob =>
        rw [(e0.bs b ob u).2] at q
        cases q
  have envc : (envOfC qual scope s.heap.objs.size f cdv).cells = [] := hnc _
  refine codeAny_call_generator hr.depth (KX _ _ lk) rfl S.co S.gen rfl (PySem.W.codeRec_of KX hcd) (hb _ _ _ _ ?_)
  refine wpAny_newFunctionEnv_cells S.kind hkind fun env he s1 x => ?_
  subst he
  refine ⟨lim.keeps x.toInCall.keep, ?_⟩
  obtain ⟨h1, tk, es1, hk1⟩ := x.done
  have os1 : s1.os = s.os := by rw [es1]
  have gen1 : s1.gens = s.gens := by rw [es1]
  have lt1 : s.heap.objs.size < s1.heap.objs.size := x.toInCall.ns.lt
  have kp1 : ∀ b o, s.heap.get? b = some o → s1.heap.get? b = some o := x.toInCall.keep
  obtain ⟨oL, esL, epL, hoL, hdL, _⟩ := id x.toInCall.ns
  have hoL : s1.heap.get? s.heap.objs.size = some oL := hoL
  have main : ∀ (go : Obj) (nm qn : Value) (tk2 : Nat), go.cls = .type "generator" → go.data = .fields #[.int s1.gens.size 0, nm, qn] → go.slots = #[] → (∀ h : Heap, (h.push go).get? h.objs.size = some go) →
      WMade (k + 1) outer ⟨P, w, base, frs outer, D, s, n, item⟩ (.ref s1.heap.objs.size) { s1 with gens := s1.gens.push (.fresh (.func [.For tg iter [.Expr (.Yield (some e) yp) pp] [] pos] (envOfC qual scope s.heap.objs.size f cdv))), toks := tk2, heap := s1.heap.push go } := by
    intro go nm qn tk2 hgc hgd0 hgs hgp
    have kp2 : ∀ b o, s1.heap.get? b = some o → (s1.heap.push go).get? b = some o := fun b o e => Heap.get?_push_of_some _ e
    refine ⟨s1.heap.objs.size, s1.gens.size, _, go, [(s.heap.objs.size, oL)], rfl, Nat.le_of_lt lt1, hgp _, fun h e => ⟨go, nm, qn, e, hgc, hgd0, hgs⟩, (fun v q => (by rw [hgd0] at q; cases q)), Array.getElem?_push_size .., os1, ?_, fun b o e => kp2 b o (kp1 b o e), fun p hp => ?_, ?_⟩
    · exact AllBare.push (by rw [gen1]; exact e0.bare) rfl
    · rw [List.mem_singleton.mp hp]
      exact ⟨kp2 _ _ hoL, Nat.le_refl _, Nat.ne_of_lt lt1, fun v q => by rw [hdL] at q; cases q⟩
    intro Aw s2 hrw hfr hk2 hos hba
    have ks2 : ∀ b o, s.heap.get? b = some o → s2.heap.get? b = some o := fun b o e => hk2 b o (kp2 b o (kp1 b o e))
    have e0w : Env0 P w K mg base Aw outer s (fullH base (frs outer) [] D s.heap) := ⟨hfr, e0.mod, fun b o e => ⟨(e0.bs b o e).1, full_none (dba b (by rw [e]; rfl)) (.inr (.inr (.inl (by rw [e]; rfl))))⟩, e0.bsz, e0.funs, fun b hb => full_none (dfs b hb) (.inr (.inl hb)), full_hok hDd dok, e0.bare⟩
    have I0 := inv_startG (E := fun _ _ _ => False) S hrw.hd e0w hl r x
    have dok2 : HOk P w D s2.heap := fun b o e => by
      have q := dok b o e
      rcases hDd b o e with ⟨xs, rfl⟩ | ⟨xs, rfl⟩
      · obtain ⟨z, its, rv, ob, ho, c⟩ := q
        exact ⟨z, its, rv, ob, ks2 _ _ ho, c⟩
      · obtain ⟨z, its, m, rv, ho⟩ := q
        exact ⟨z, its, m, rv, ks2 _ _ ho⟩
    obtain ⟨wi, g, te, J₀, σs, hσ, pi, pg, pe, rd0, rdj, rdN⟩ := hbody Aw outer s vs D n item (hrw.deeper _) hsp
    have okX : (gx P w K mg base N qual scope f cdv Aw outer s (fullH base (frs outer) [] D s.heap) []).Ok := ⟨I0.ok.mod, I0.ok.kind, I0.ok.glob, I0.ok.blt, I0.ok.above, I0.ok.inj, I0.ok.has, I0.ok.cab, I0.ok.hd, I0.ok.frames, I0.ok.stk, I0.ok.exf, I0.ok.bs, I0.ok.bsz, I0.ok.noex, I0.ok.exfs, I0.ok.funs, I0.ok.frf⟩
    have k12 : ∀ b o, s1.heap.get? b = some o → s2.heap.get? b = some o := fun b o e => hk2 b o (kp2 b o e)
    have dL : D s.heap.objs.size = none := by
      cases z : D s.heap.objs.size with
      | none => rfl
      | some o => exact absurd (dok _ o z).lt (Nat.lt_irrefl _)
    have I2 : Inv (gx P w K mg base N qual scope f cdv Aw outer s (fullH base (frs outer) [] D s.heap) []) [] (start N vs) (fullH base (frs outer) [s.heap.objs.size] D s2.heap) s2 := by
      refine ⟨okX, hos, hba, ⟨fun b o e _ _ _ => ks2 b o e, fun b o e _ _ _ => ⟨o.slots, ks2 b o e⟩, fun b o e n _ => ?_, fun b o e _ => ⟨o, ks2 b o e⟩, fun b xs e => ?_, fun b o u e => ?_, fun b ps e => ?_⟩, ?_, fun x c e => ?_, ?_, fun x c e => ?_, fun p hp => (by cases hp), full_hok hDd dok2, I0.len⟩
      · have dn : D b = none := by
          cases z : D b with
          | none => rfl
          | some o' =>
            have n' : fullH base (frs outer) [] D s.heap b = none := n
            rw [full_data z] at n'
            cases n'
        refine full_none dn ?_
        by_cases hf : b ∈ frs outer
        · exact .inr (.inl hf)
        · cases z : base.get? b with
          | some _ => exact .inr (.inr (.inl rfl))
          | none =>
            have n' : fullH base (frs outer) [] D s.heap b = none := n
            have e' : s.heap.get? b = some o := e
            have q := full_ext (own := []) dn (fun m => (List.not_mem_nil m).elim) hf z e'
            rw [q] at n'
            cases n'
      · rcases full_cases (show fullH base (frs outer) [] D s.heap b = some (.tup xs) from e) with z | ⟨_, _, _, _, _, _, z⟩
        · exact full_data z
        · cases z
      · rcases full_cases (show fullH base (frs outer) [] D s.heap b = some (.frz o u) from e) with z | ⟨_, _, _, _, _, _, z⟩
        · rcases hDd b _ z with ⟨_, q⟩ | ⟨_, q⟩ <;> cases q
        · cases z
      · rcases full_cases (show fullH base (frs outer) [] D s.heap b = some (.tbl ps) from e) with z | ⟨_, _, _, _, _, _, z⟩
        · rcases hDd b _ z with ⟨_, q⟩ | ⟨_, q⟩ <;> cases q
        · cases z
      · obtain ⟨m, ⟨o, es, ep, ho, rr⟩, hl'⟩ := I0.loc
        refine ⟨m, ⟨o, es, ep, k12 _ o ho, rr⟩, fun i x v e1 e2 e3 => ?_⟩
        obtain ⟨u, ru, l⟩ := hl' i x v e1 e2 e3
        refine ⟨u, ru, ?_⟩
        rcases l with l | ⟨_, c, e, _⟩
        · exact .inl l
        · have e' : (envOfC qual scope s.heap.objs.size f cdv).cells.lookup x = some c := e
          rw [envc] at e'; cases e'
      · have e' : (envOfC qual scope s.heap.objs.size f cdv).cells.lookup x = some c := e
        rw [envc] at e'; cases e'
      · exact full_none dL (.inl List.mem_cons_self)
      · have e' : (envOfC qual scope s.heap.objs.size f cdv).cells.lookup x = some c := e
        rw [envc] at e'; cases e'
    have gc : GCx (gx P w K mg base N qual scope f cdv Aw outer s (fun _ => none) (exAll base (frs outer) s)) ⟨P, w, base, frs outer, D, s, n, item⟩ :=
      ⟨gx_ok okX envc, rfl, rfl, rfl, rfl, rfl, rfl, fun b o e hf hx => by
          cases z : base.get? b with
          | none => exact absurd (mem_exAll.mpr ⟨Heap.lt_size e, z, hf⟩) hx
          | some u =>
            have q : s.heap.get? b = some u := (e0.bs b u z).1
            have e' : s.heap.get? b = some o := e
            rw [e'] at q
            show base.get? b = some o
            rw [z, q], envc, rfl, rfl, rfl, hDd, dok, dfs, dba⟩
    have W : WkOk ⟨P, w, base, frs outer, D, s, n, item⟩ [(s.heap.objs.size, oL)] s2 :=
      ⟨hos, hba, fun b o e => ks2 b o (e0.bs b o e).1, fun b o _ e => ⟨o.slots, ks2 b o e⟩, dok2, fun p hp => by rw [List.mem_singleton.mp hp]; exact k12 _ _ hoL⟩
    show Stre (model P w) Aw _ (.func _ (envOfC qual scope s.heap.objs.size f cdv)) ((model P w).den (.func _ (envOfC qual scope s.heap.objs.size f cdv))) [] s2
    refine st_func ?_
    rw [execs_cons_wrap]
    refine st_For (hs _) ?_
    rw [over_func]
    refine wpAny_mono ((pi _).run [] s2 (start N vs) _ _ I2 (rd0 _ fun b o e => full_data e)) (fun v s3 h3 => wpAny_mono h3 (fun itv s4 h4 => ?_) fun _ _ z => z) fun _ _ z => z
    obtain ⟨it, fp, tn, J, H4, rfl, I4, T, t4, f4, rfl, sm4⟩ := h4
    intro p
    have newfp : ∀ b ∈ fp, b ≠ s.heap.objs.size ∧ b ∉ frs outer ∧ s.heap.objs.size ≤ b ∧ s2.heap.get? b = none := fun b hb => by
      obtain ⟨g1, g2, g3, g4, _, _⟩ := f4 b hb
      have hsz : s.heap.objs.size ≤ b := by
        rcases g4 with z | z
        · cases z
        · exact z
      refine ⟨g2, g3, hsz, ?_⟩
      cases z : s2.heap.get? b with
      | none => rfl
      | some o =>
        exfalso
        have db : D b = none := by
          cases q : D b with
          | none => rfl
          | some o' => exact absurd (Nat.lt_of_lt_of_le (dok b o' q).lt hsz) (Nat.lt_irrefl _)
        have bb : base.get? b = none := by
          cases q : base.get? b with
          | none => rfl
          | some u => exact absurd (Nat.lt_of_lt_of_le (Heap.lt_size (e0.bs b u q).1) hsz) (Nat.lt_irrefl _)
        rw [sm4 b _ (full_ext db (fun q => g2 (List.mem_singleton.mp q)) g3 bb z)] at g1
        cases g1
    refine live_loop (σs := σs) gc T (pg _) (pe _) S.co (hin _ _ _) ((over_loop rfl rfl).trans over_func) rfl rfl (fun b hb => ?_) rdj rdN (fun Φ s5 h5 => ?_) n 0 rfl _ s2 s4 H4 (by rw [hσ]; exact gx_swap I4 envc) (fun b o q => sm4 b o (full_sub (fun x hx => ?_) b o q)) t4 (fun b hb => (f4 b hb).1) W (fun b hb => ?_)
    · obtain ⟨q1, q2, q3, _⟩ := newfp b hb
      exact ⟨q1, q2, q3⟩
    · refine st_block0 ?_
      show Stre (model P w) Aw Φ _ (leafOf (.ok (.ret .none))) [] s5
      exact st_end _ (h5 _ (.inl rfl))
    · rw [List.mem_singleton.mp hx]
      exact List.mem_cons_self
    · rcases List.mem_cons.mp hb with rfl | hb
      · exact .inl ⟨_, List.mem_cons_self, rfl⟩
      · exact .inr (newfp b hb).2.2.2
  exact main _ _ _ _ rfl rfl rfl fun h => Heap.get?_push_size _ rfl
end
end L2
set_option maxRecDepth 100000
set_option maxHeartbeats 2000000
namespace L2
open PySem PySem.Spec PyProof.Rows GenW GenF
theorem Inv.iced {X : Cx} {pins : List (Addr × Obj)} {σ : L2.St} {H : Hp} {s : Shared} (I : Inv X pins σ H s) : Inv X pins σ H (iceS s) :=
  ⟨I.ok, I.os, bare_ice I.bare, I.base, I.loc, I.cell, I.free, I.freeC, I.pin, I.hok, I.len⟩
theorem Inv.melted {X : Cx} {pins : List (Addr × Obj)} {σ : L2.St} {H : Hp} {a : Shared} {G : Array GenState} (I : Inv X pins σ H a) (hG : AllBare G) : Inv X pins σ H (meltS G a) :=
  ⟨I.ok, I.os, bare_melt hG I.bare, I.base, I.loc, I.cell, I.free, I.freeC, I.pin, I.hok, I.len⟩
/-- a promise of which nothing is raised, used while generators sleep -/
theorem asleep {α : Type} {M : Model} {A : Around} {t : Sem α} {R R' : α → Shared → Prop} {E : Value → Shared → Prop} {s : Shared} (h : wpAny M A t R (fun _ _ => False) (iceS s))
    (k : ∀ v a, R v a → (∀ (g : Nat) (x : GenState), s.gens[g]? = some x → Susp (some x) → (meltS s.gens a).gens[g]? = some x) → R' v (meltS s.gens a)) : wpAny M A t R' E s :=
  wpAny_mono (wpAny_melt h) (fun v b ⟨a, e, j, r⟩ => by subst e; exact k v a r fun g x hg hx => melt_sleeps j hg hx) fun _ _ ⟨_, _, _, z⟩ => z.elim
/-- what was there, and the new tuples of a generator's stretch -/
def glue (H Hn : Hp) (h : Heap) : Hp := fun b => match H b with
  | some o => some o
  | none => match h.get? b, Hn b with
    | none, some (.tup xs) => some (.tup xs)
    | _, _ => none
theorem glue_old {H Hn : Hp} {h : Heap} {b : Addr} {o : HO} (e : H b = some o) : glue H Hn h b = some o := by unfold glue; rw [e]
theorem glue_there {H Hn : Hp} {h : Heap} {b : Addr} {u : Obj} (e : h.get? b = some u) : glue H Hn h b = H b := by
  unfold glue
  cases z : H b with
  | some o => rfl
  | none => dsimp only; rw [e]
theorem glue_new {H Hn : Hp} {h : Heap} {b : Addr} {xs : List V} (e : H b = none) (e2 : h.get? b = none) (e3 : Hn b = some (.tup xs)) : glue H Hn h b = some (.tup xs) := by
  unfold glue
  rw [e]
  dsimp only
  rw [e2, e3]
theorem glue_cases {H Hn : Hp} {h : Heap} {b : Addr} {o : HO} (e : glue H Hn h b = some o) : H b = some o ∨ (H b = none ∧ h.get? b = none ∧ ∃ xs, Hn b = some (.tup xs) ∧ o = .tup xs) := by
  unfold glue at e
  cases z : H b with
  | some u => rw [z] at e; exact .inl e
  | none =>
    rw [z] at e
    dsimp only at e
    cases z1 : h.get? b with
    | some u => rw [z1] at e; cases e
    | none =>
      rw [z1] at e
      cases z2 : Hn b with
      | none => rw [z2] at e; cases e
      | some u =>
        rw [z2] at e
        cases u with
        | tup xs => exact .inr ⟨rfl, rfl, xs, rfl, (Option.some.inj e).symm⟩
        | _ => cases e
theorem tup_there {P : Program} {w : World} {H : Hp} {h : Heap} {b : Addr} {o : HO} (ho : (∃ xs, o = HO.tup xs) ∨ ∃ xs, o = HO.lst xs) (x : ObjOk P w H h b o) : ∃ u, h.get? b = some u := by
  rcases ho with ⟨xs, rfl⟩ | ⟨xs, rfl⟩
  · obtain ⟨_, _, _, u, e, _⟩ := x
    exact ⟨u, e⟩
  · obtain ⟨_, _, _, _, e⟩ := x
    exact ⟨_, e⟩
/-- the walker's side: it knows the generator's call -/
structure Walker (X : Cx) (G : GPar) (p0 : List (Addr × Obj)) : Prop where
  eP : X.prog = G.P
  ew : X.w = G.w
  eb : X.base = G.base
  ef : frs X.stack = G.fs
  dat : DataHp G.D
  sc : ∃ pins σ H, Inv X pins σ H G.sc
theorem Walker.young {X : Cx} {G : GPar} {p0 : List (Addr × Obj)} (W : Walker X G p0) {b : Addr} (h : G.sc.heap.objs.size ≤ b) : X.s_0.heap.objs.size ≤ b ∧ b ≠ X.env.locals ∧ (∀ x c, X.env.cells.lookup x = some c → c ≠ b) ∧ b ∉ X.fs := by
  obtain ⟨pins, σ, H, I⟩ := W.sc
  refine ⟨Nat.le_trans I.sz h, Nat.ne_of_gt (Nat.lt_of_lt_of_le I.lt h), fun x c e z => ?_, I.nofs h⟩
  obtain ⟨v, o, ho, _⟩ := I.cell x c e
  exact absurd (Nat.lt_of_lt_of_le (Heap.lt_size ho) (by rw [z]; exact h)) (Nat.lt_irrefl _)
/-- its own things, seen from the walker -/
def OwFar (X : Cx) (G : GPar) (p0 ow : List (Addr × Obj)) : Prop := ∀ q ∈ ow, G.sc.heap.objs.size ≤ q.1 ∧ ∀ p ∈ X.pn ++ p0, p.1 ≠ q.1
theorem took {X : Cx} {G : GPar} {p0 ow ow' : List (Addr × Obj)} {σ : L2.St} {H Hn : Hp} {s s1 s2 : Shared} (W : Walker X G p0) (I : Inv X (p0 ++ ow) σ H s) (hE : ExtH G.D H) (hF : OwFar X G p0 ow) {sw : Shared} (hsw : sw.heap = s.heap)
    (K1 : Kp G ow ow' sw s1) (hn : ∀ b xs, s.heap.get? b = none → Hn b = some (.tup xs) → ObjOk G.P G.w Hn s1.heap b (.tup xs) ∧ ∀ p ∈ ow', p.1 ≠ b) (h2 : ∀ b o, s1.heap.get? b = some o → s2.heap.get? b = some o) (os2 : s2.os = s1.os) (bare2 : AllBare s2.gens) :
    Inv X (p0 ++ ow') σ (glue H Hn s.heap) s2 ∧ OwFar X G p0 ow' := by
  have own0 : ∀ q ∈ ow, H q.1 = none := fun q hq => (I.pin q (List.mem_append_right _ (List.mem_append_right _ hq))).2.1
  have keep1 : ∀ b o, s.heap.get? b = some o → (∀ p ∈ ow, p.1 ≠ b) → b ∉ G.fs → G.D b = none → s1.heap.get? b = some o := fun b o e => K1.keep b o (by rw [hsw]; exact e)
  have trk : ∀ b o, H b = some o → (∀ p ∈ ow, p.1 ≠ b) ∧ b ∉ G.fs := fun b o e => ⟨fun p hp z => (by rw [← z, own0 p hp] at e; cases e), fun z => (by rw [← W.ef] at z; rw [I.stkFree b z] at e; cases e)⟩
  have bse : ∀ c u, H c = some u → G.D c = none → ∀ o, s.heap.get? c = some o → s2.heap.get? c = some o := fun c u e d o q => h2 c o (keep1 c o q (trk c u e).1 (trk c u e).2 d)
  have sm : Same H (glue H Hn s.heap) := fun b o e => glue_old e
  have hok : HOk X.prog X.w (glue H Hn s.heap) s2.heap := fun b o e => by
    rcases glue_cases e with z | ⟨z1, z2, xs, z3, rfl⟩
    · cases d : G.D b with
      | some o' =>
        have e1 := hE b o' d
        rw [z] at e1
        cases e1
        have q := K1.data b o d
        rw [W.eP, W.ew]
        rcases W.dat b o d with ⟨xs, rfl⟩ | ⟨xs, rfl⟩
        · obtain ⟨q1, its, rv, ob, ho, c⟩ := q
          exact ⟨q1, its, rv, ob, h2 _ _ ho, c⟩
        · obtain ⟨q1, its, m, rv, ho⟩ := q
          exact ⟨q1, its, m, rv, h2 _ _ ho⟩
      | none =>
        refine (I.hok b o z).stay (fun c u hc q => ?_) (fun c q => sm c _ q) fun c xs q => sm c _ q
        rcases hc with rfl | hc
        · exact bse c o z d u q
        · refine bse c _ hc ?_ u q
          cases d2 : G.D c with
          | none => rfl
          | some o' =>
            have e1 := hE c o' d2
            rw [hc] at e1
            rcases W.dat c o' d2 with ⟨xs, r⟩ | ⟨xs, r⟩ <;> (rw [r] at e1; cases e1)
    · have q := (hn b xs z2 z3).1
      rw [← W.eP, ← W.ew] at q
      obtain ⟨q1, its, rv, ob, ho, c⟩ := q
      exact ⟨q1, its, rv, ob, h2 _ _ ho, c⟩
  have I0 : Inv X p0 σ H s := I.unpinned
  have I1 : Inv X p0 σ (glue H Hn s.heap) s2 := by
    refine I0.call' (ch := ow.map (·.1)) ?_ ⟨fun b o e n hf hc => ?_, fun b o e n hf hc => ?_, fun b o e n _ => by rw [glue_there e]; exact n, fun b o e hc => ?_, fun b xs e => sm b _ e, fun b o u e => sm b _ e, fun b ps e => ⟨#[], by rw [sm b _ e]; simp⟩⟩ hok bare2 fun b hb => ?_
    · obtain ⟨pins, σ', H', I'⟩ := W.sc
      rw [os2, K1.os, I'.os, I.os]
    · rw [W.ef] at hf
      refine h2 b o (keep1 b o e (fun p hp z => hc (List.mem_map.mpr ⟨p, hp, z⟩)) hf ?_)
      cases d : G.D b with
      | none => rfl
      | some o' => rw [hE b o' d] at n; cases n
    · rw [W.ef] at hf
      obtain ⟨sl, q⟩ := K1.slot b o hf (by rw [hsw]; exact e)
      exact ⟨sl, h2 b _ q⟩
    · by_cases hf : b ∈ G.fs
      · obtain ⟨sl, q⟩ := K1.slot b o hf (by rw [hsw]; exact e)
        exact ⟨_, h2 b _ q⟩
      · cases d : G.D b with
        | none => exact ⟨o, h2 b o (keep1 b o e (fun p hp z => hc (List.mem_map.mpr ⟨p, hp, z⟩)) hf d)⟩
        | some o' =>
          obtain ⟨u, q⟩ := tup_there (W.dat b o' d) (K1.data b o' d)
          exact ⟨u, h2 b u q⟩
    · obtain ⟨q, hq, rfl⟩ := List.mem_map.mp hb
      obtain ⟨f1, f2⟩ := hF q hq
      obtain ⟨y1, y2, y3, _⟩ := W.young f1
      exact ⟨.inr y1, y2, y3, f2⟩
  have far : OwFar X G p0 ow' := fun q hq => by
    obtain ⟨k1, k2, k3, k4⟩ := K1.own q hq
    refine ⟨k2, fun p hp z => ?_⟩
    rcases k4 with ⟨q', hq', e⟩ | e
    · exact (hF q' hq').2 p hp (by rw [e]; exact z)
    · rw [hsw, ← z, (I0.pin p hp).1] at e
      cases e
  refine ⟨I1.pins_of fun p hp => ?_, far⟩
  rcases List.mem_append.mp hp with hp | hp
  · exact I1.pin p (List.mem_append_right _ hp)
  · obtain ⟨k1, k2, k3, k4⟩ := K1.own p hp
    obtain ⟨y1, y2, y3, y4⟩ := W.young k2
    refine ⟨h2 _ _ k1, ?_, y2, y4, k3⟩
    rcases k4 with ⟨q', hq', e⟩ | e
    · have ex := (I.pin q' (List.mem_append_right _ (List.mem_append_right _ hq'))).1
      rw [← e, glue_there ex]
      exact own0 q' hq'
    · rw [hsw] at e
      cases z : glue H Hn s.heap p.1 with
      | none => rfl
      | some o =>
        rcases glue_cases z with z1 | ⟨_, _, xs, z3, _⟩
        · exact absurd e (by
            intro e
            have lt := I.hok p.1 o z1
            by_cases hd : ∃ u, s.heap.get? p.1 = some u
            · obtain ⟨u, hu⟩ := hd
              rw [e] at hu; cases hu
            · have : ∃ u, s.heap.get? p.1 = some u := by
                cases o with
                | lst xs => exact tup_there (.inr ⟨_, rfl⟩) lt
                | tup xs => exact tup_there (.inl ⟨_, rfl⟩) lt
                | dK kvs => obtain ⟨_, _, _, _, o, _, _, e, _⟩ := lt; exact ⟨_, e⟩
                | dT kvs => obtain ⟨_, _, _, _, o, _, _, e, _⟩ := lt; exact ⟨_, e⟩
                | set S n => obtain ⟨o, _, _, _, e, _⟩ := lt; exact ⟨_, e⟩
                | ins C dx fs => obtain ⟨_, _, _, e, _⟩ := lt; exact ⟨_, e⟩
                | own y => obtain ⟨_, e⟩ := lt; exact ⟨_, e⟩
                | xd fs => obtain ⟨_, ⟨_, _, _, e, _⟩, _⟩ := lt; exact ⟨_, e⟩
                | rng lo hi => obtain ⟨_, _, _, e⟩ := lt; exact ⟨_, e⟩
                | frz ob u => obtain ⟨e, _⟩ := lt; exact ⟨_, e⟩
                | tbl ps => exact ⟨_, lt⟩
                | met f y => exact ⟨_, lt⟩
                | ext φ => obtain ⟨_, ⟨_, e⟩, _⟩ := lt; exact ⟨_, e⟩
              exact hd this)
        · exact absurd rfl ((hn p.1 xs e z3).2 p hp)
end L2
set_option maxRecDepth 100000
set_option maxHeartbeats 2000000
namespace L2
open PySem PySem.Spec PyProof.Rows GenW GenF
theorem objU_there {P : Program} {w : World} {H : Hp} {h : Heap} {b : Addr} {o : HO} (lt : ObjOk P w H h b o) : ∃ u, h.get? b = some u := by
  cases o with
  | lst xs => exact tup_there (.inr ⟨_, rfl⟩) lt
  | tup xs => exact tup_there (.inl ⟨_, rfl⟩) lt
  | dK kvs => obtain ⟨_, _, _, _, o, _, _, e, _⟩ := lt; exact ⟨_, e⟩
  | dT kvs => obtain ⟨_, _, _, _, o, _, _, e, _⟩ := lt; exact ⟨_, e⟩
  | set S n => obtain ⟨o, _, _, _, e, _⟩ := lt; exact ⟨_, e⟩
  | ins C dx fs => obtain ⟨_, _, _, e, _⟩ := lt; exact ⟨_, e⟩
  | own y => obtain ⟨_, e⟩ := lt; exact ⟨_, e⟩
  | xd fs => obtain ⟨_, ⟨_, _, _, e, _⟩, _⟩ := lt; exact ⟨_, e⟩
  | rng lo hi => obtain ⟨_, _, _, e⟩ := lt; exact ⟨_, e⟩
  | frz ob u => obtain ⟨e, _⟩ := lt; exact ⟨_, e⟩
  | tbl ps => exact ⟨_, lt⟩
  | met f y => exact ⟨_, lt⟩
  | ext φ => obtain ⟨_, ⟨_, e⟩, _⟩ := lt; exact ⟨_, e⟩
theorem glue_none {H : Hp} {h : Heap} : glue H (fun _ => none) h = H := by
  funext b
  unfold glue
  cases H b with
  | some o => rfl
  | none =>
    dsimp only
    cases h.get? b <;> rfl
theorem wk_of {B : Cx} {G : GPar} {p0 ow : List (Addr × Obj)} {σ : L2.St} {H : Hp} {s s' : Shared} (W : Walker B G p0) (hfs : frs B.stack = B.fs) (I : Inv B (p0 ++ ow) σ H s) (hE : ExtH G.D H) (hh : s'.heap = s.heap) (ho : s'.os = s.os) (hb : AllBare s'.gens) : WkOk G ow s' := by
  obtain ⟨pins, σ', H', I'⟩ := W.sc
  refine ⟨by rw [ho, I.os, I'.os], hb, fun b o e => by rw [hh]; exact I.bk b o (by rw [W.eb]; exact e), fun b o hf e => ?_, fun b o e => ?_, fun p hp => by rw [hh]; exact (I.pin p (List.mem_append_right _ (List.mem_append_right _ hp))).1⟩
  · have hf' : b ∈ B.fs := by rw [← hfs, W.ef]; exact hf
    obtain ⟨_, o0, e0, _⟩ := I.ok.funs.mem hf'
    obtain ⟨sl1, q1⟩ := I'.base.slot b o0 e0 (I.ok.frf b hf') hf' fun z => I.ok.exfs b z hf'
    obtain ⟨sl2, q2⟩ := I.base.slot b o0 e0 (I.ok.frf b hf') hf' fun z => I.ok.exfs b z hf'
    rw [q1] at e
    cases e
    exact ⟨sl2, by rw [hh]; exact q2⟩
  · rw [hh, ← W.eP, ← W.ew]
    exact obj_flat (W.dat b o e) (I.hok b o (hE b o e))
section
variable {B : Cx} {G : GPar} {p0 : List (Addr × Obj)} {elt tg iter tg1 iter1 : Expr} {ifs ifs1 : List Expr} {scope : Scope} {pos : Pos} {g1 : TG} {tt1 : TT} {te : TE} {σ : L2.St} {vs1 : List Nat} {D a : Addr} {g : Nat} {go : Obj}
/-- the turns of a comprehension's second clause over a generator -/
theorem inner_gen (W : Walker B G p0) (hfs : frs B.stack = B.fs) (hxe : B.xe = fun _ _ => False) (hh : B.A.handled = none) (hd : B.A.depth < recursionLimit) (hg1 : PG B tg1 g1) (ht1 : PTs B ifs1 tt1) (he : PE B elt te)
    (hgo : ∀ h : Heap, h.get? a = some go → h.IsGen a g) (ha : (a, go) ∈ p0) (Pv : Nat → Hp → Prop) (hPD : ∀ j H, Pv j H → ExtH G.D H) {Rr : Shared → Prop}
    (step : ∀ j, j < G.N → ∀ H, Pv j H → ∀ x H', Same H H' → G.item j x H' → g1 x (wipe σ vs1) H' fun σ3 H5 => wipe σ3 vs1 = wipe σ vs1 ∧ tt1 σ3 H5 fun b H6 =>
      if b = true then te σ3 H6 fun y H7 => ∃ acc, H7 D = some (.lst acc) ∧ acc.length < sizeLine ∧ Pv (j + 1) (upd H7 D (.lst (acc ++ [y]))) else Pv (j + 1) H6)
    (fin : ∀ s' H', Inv B p0 (wipe σ vs1) H' s' → Pv G.N H' → Rr s') {ow : List (Addr × Obj)} {gs : GenState} {H : Hp} {s : Shared} (I : Inv B (p0 ++ ow) (wipe σ vs1) H s) (h0 : Pv 0 H) (hF : OwFar B G p0 ow) (hgs : s.gens[g]? = some gs)
    (hw : Wake (model G.P G.w) B.A.in1 gs (s.setGen g .running) (PhOf B.A.in1 G G.N ow (s.setGen g .running))) :
    codeAny (model B.prog B.w) B.A (.compLoop (.ListComp elt [⟨tg, iter, ifs, 0⟩, ⟨tg1, iter1, ifs1, 0⟩] scope pos) 1 (.ref a) (.ref D) B.env) (fun r s' => match r with | .ok _ => Rr s' | .error _ => False) s := by
  have xf : ∀ {x : Value} {s' : Shared}, B.xe x s' → False := fun {x s'} h => by rw [hxe] at h; exact h
  refine compLoop2_in (fun n s' => ∃ (j : Nat) (ow : List (Addr × Obj)) (gs : GenState) (H : Hp), n + j = G.N ∧ Inv B (p0 ++ ow) (wipe σ vs1) H s' ∧ Pv j H ∧ OwFar B G p0 ow ∧ s'.gens[g]? = some gs ∧ Wake (model G.P G.w) B.A.in1 gs (s'.setGen g .running) (PhOf B.A.in1 G n ow (s'.setGen g .running))) ?_ G.N
    ⟨0, ow, gs, H, Nat.add_zero _, I, h0, hF, hgs, hw⟩
  clear I h0 hF hgs hw
  rintro n s ⟨j, ow, gs, H, hj, I, hP, hF, hgs, hw⟩
  have hlt : g < s.gens.size := (Array.getElem?_eq_some_iff.mp hgs).1
  have hpa := (I.pin (a, go) (List.mem_append_right _ (List.mem_append_left _ ha))).1
  cases n with
  | zero =>
    refine next_gen (Y := fun _ _ _ => False) (Z := fun s' => Kp G ow [] (s.setGen g .running) s') hh I.nolimit hd (hgo _ hpa) hgs (by rw [W.eP, W.ew]; exact hw) (fun _ _ _ _ _ z => z.elim) fun s1 K1 h' hk => ?_
    have ej : j = G.N := by omega
    obtain ⟨I1, _⟩ := took (Hn := fun _ => none) (s2 := { s1.setGen g .finished with heap := h' }) W I (hPD j H hP) hF (show (s.setGen g .running).heap = s.heap from rfl) K1 (fun b xs _ hq => (by cases hq)) hk rfl (allBare_setGen K1.bare rfl)
    rw [glue_none, List.append_nil] at I1
    rw [ej] at hP
    exact fin _ H I1 hP
  | succ m =>
    refine wpAny_gsz (n := g + 1) hlt (next_gen (Y := fun v gs' s' => ∃ ow' y Hn, Kp G ow ow' (s.setGen g .running) s' ∧ Gave G (G.N - (m + 1)) ow' (s.setGen g .running) v s' Hn y ∧ Live B.A.in1 G m ow' gs') (Z := fun _ => False) hh I.nolimit hd (hgo _ hpa) hgs (by rw [W.eP, W.ew]; exact hw)
      (fun v gs' s1 hsus hbare ⟨ow', y, Hn, K1, Gv, lv⟩ => ?_) fun _ z => z.elim)
    intro hsz
    have ej : G.N - (m + 1) = j := by omega
    rw [ej] at Gv
    obtain ⟨I2, F2⟩ := took (s2 := s1.setGen g gs') W I (hPD j H hP) hF (show (s.setGen g .running).heap = s.heap from rfl) K1 (fun b xs hb hq => Gv.new b xs hb hq) (fun _ _ q => q) rfl (allBare_setGen K1.bare hbare)
    have g2 : (s1.setGen g gs').gens[g]? = some gs' := setGen_at (by rw [setGen_size] at hsz; omega)
    have sm : Same H (glue H Hn s.heap) := fun b o e => glue_old e
    have hE2 : ExtH G.D (glue H Hn s.heap) := fun b o e => glue_old (hPD j H hP b o e)
    have it2 : G.item j y (glue H Hn s.heap) := Gv.item _ hE2 fun b xs hb hq => by
      refine glue_new ?_ hb hq
      cases z : H b with
      | none => rfl
      | some o =>
        obtain ⟨u, q⟩ := objU_there (I.hok b o z)
        have hb' : s.heap.get? b = none := hb
        rw [hb'] at q
        cases q
    have st := step j (by omega) H hP y _ sm it2
    have hpa2 := (I2.pin (a, go) (List.mem_append_right _ (List.mem_append_left _ ha))).1
    obtain ⟨ob, nm, qn, hob, hoc, hod, _⟩ := hgo _ hpa2
    refine go_of hob hoc hod (by decide) ?_
    refine asleep (wpAny_mono (hg1.run _ (iceS (s1.setGen g gs')) (wipe σ vs1) _ y v _ I2.iced Gv.rel st) (fun _ _ h => h) fun _ _ z => xf z) fun _ a3 ⟨σ3, H3, I3, e3, q3⟩ l3 => ?_
    have I3' := I3.melted I2.bare
    have g3 := l3 g gs' g2 hsus
    generalize meltS (s1.setGen g gs').gens a3 = s3 at I3' g3
    refine asleep (wpAny_mono (ht1.run _ (iceS s3) σ3 H3 _ I3'.iced q3) (fun _ _ h => h) fun _ _ z => xf z) fun b a4 ⟨H4, I4, q4⟩ l4 => ?_
    have I4' := I4.melted I3'.bare
    have g4 := l4 g gs' g3 hsus
    generalize meltS s3.gens a4 = s4 at I4' g4
    have again : ∀ {s' : Shared} {H' : Hp}, Inv B (p0 ++ ow') σ3 H' s' → s'.gens[g]? = some gs' → Pv (j + 1) H' → ∃ n', n' < m + 1 ∧ ∃ (j : Nat) (ow : List (Addr × Obj)) (gs : GenState) (H : Hp), n' + j = G.N ∧ Inv B (p0 ++ ow) (wipe σ vs1) H s' ∧ Pv j H ∧ OwFar B G p0 ow ∧ s'.gens[g]? = some gs ∧
        Wake (model G.P G.w) B.A.in1 gs (s'.setGen g .running) (PhOf B.A.in1 G n' ow (s'.setGen g .running)) := fun {s' H'} I' g' p' => by
      refine ⟨m, Nat.lt_succ_self m, j + 1, ow', gs', H', by omega, I'.weak (by rw [← e3, wipe_length]) (fun i u q => by rw [← e3] at q; exact (wipe_some q).1), p', F2, g', ?_⟩
      exact live_iff.mp lv _ (wk_of W hfs I' (hPD _ _ p') rfl rfl (allBare_setGen I'.bare rfl))
    cases b with
    | false =>
      simp only [Bool.false_eq_true, if_false] at q4 ⊢
      exact again I4' g4 q4
    | true =>
      simp only [if_true] at q4 ⊢
      refine asleep (wpAny_mono (he.run _ (iceS s4) σ3 H4 _ I4'.iced q4) (fun _ _ h => h) fun _ _ z => xf z) fun z a5 ⟨yv, H5, I5, r5, acc, hD5, hz5, nx⟩ l5 => ?_
      have I5' := I5.melted I4'.bare
      have g5 := l5 g gs' g4 hsus
      generalize meltS s4.gens a5 = s5 at I5' g5
      refine asleep (R := fun _ b => Inv B (p0 ++ ow') σ3 (upd H5 D (.lst (acc ++ [yv]))) b) (app_ok (X := B) I5'.iced hD5 hz5 r5 fun s6 I6 => I6) fun _ a6 I6 l6 => ?_
      exact again (I6.melted I5'.bare) (l6 g gs' g5 hsus) nx
end
end L2
set_option maxRecDepth 100000
set_option maxHeartbeats 2000000
namespace L2
open PySem PySem.Spec PyProof.Rows GenW GenF
/-- an expression whose value is a generator of the program's that has not begun -/
abbrev TW := L2.St → Hp → (Hp → Hp → Nat → (Nat → V → Hp → Prop) → Prop) → Prop
structure PGW (X : Cx) (k : Nat) (e : Expr) (tw : TW) : Prop where
  run : ∀ (pins : List (Addr × Obj)) (s : Shared) (σ : L2.St) (H : Hp) (R : Hp → Hp → Nat → (Nat → V → Hp → Prop) → Prop), Inv X pins σ H s → tw σ H R → wpAny (model X.prog X.w) X.A (eval e X.env)
    (fun u s' => ∃ H1 sc D n item, Inv X pins σ H1 sc ∧ ExtH D H1 ∧ DataHp D ∧ WMade k X.stack ⟨X.prog, X.w, X.base, frs X.stack, D, sc, n, item⟩ u s' ∧ R H1 D n item) X.xe s
def tCallW (sp : SpW) (t : TA) : TW := fun σ H R => t σ H fun vs H1 => ∃ D n item, DataHp D ∧ ExtH D H1 ∧ sp vs D n item ∧ R H1 D n item
section
variable {X : Cx} {k : Nat} {f : Addr} {fd : FuncData} {ps : List Str} {sp : SpW} {x : Str} {p pos' : Pos}
theorem pgw_call {e : Expr} {es : List Expr} {t : TA} (F : WFn X.prog X.w X.K X.mg X.base k f fd ps sp) (hr : Room k X.A) (hg : Gl X x) (hm : X.mg x = some (.ref f)) (hk : PySem.W.keepIn X.K (.ref f) = true) (hb : Binds X.K fd ps []) (ha : PA X (e :: es) t)
    (hdb : (x == ("__debug__" : Str)) = false := by decide) (he : starEach (e :: es) X.env = (false, eval e X.env) :: starEach es X.env := by rfl) (hpl : (backTo pos' (starEach es X.env)).any (·.1) = false := by rfl) :
    PGW X k (.Call (.Name x p) (e :: es) [] pos') (tCallW sp t) := by
  refine ⟨fun pins s σ H R I h => ?_⟩
  refine wpAny_Call_Name_kw (ld_glob I hg hm ?_ hdb)
  refine PySem.W.callWith_K (h₀ := X.base) I.ok.mod.kin hk (thn (ha.run pos' pins s σ H _ I h) fun us s1 ⟨vs, H1, I1, r, D, n, item, d1, d2, hsp, hR⟩ => ⟨I1.kIn, ?_⟩) he hpl
  have hl : (us ++ []).length = ps.length := by
    rw [List.append_nil, ← r.length]
    exact F.len _ _ _ _ hsp
  have hb2 := hb s1 us I1.kIn hl
  rw [List.append_nil] at hb2
  refine wpAny_call (codeAny_mono (F.run X.A X.stack s1 H1 ⟨us, []⟩ us vs D n item hr I1.env0 hb2 r d1 d2 hsp) fun r s' hq => ?_)
  cases r with
  | error e => exact hq.elim
  | ok fl =>
    cases fl with
    | ret u => exact ⟨H1, s1, D, n, item, I1, d2, d1, hq, hR⟩
    | next => exact hq.elim
    | brk => exact hq.elim
    | cont => exact hq.elim
end
/-- what the inner loop over a generator is read by: D the list that is filled -/
def RdW (D : Addr) (g1 : TG) (tt1 : TT) (te : TE) (σ2 : L2.St) (vs1 : List Nat) (Nx : Hp → Prop) : Hp → Hp → Nat → (Nat → V → Hp → Prop) → Prop := fun H4 Dd n item => ∃ Pv : Nat → Hp → Prop, Pv 0 H4 ∧ (∀ H, Pv n H → Nx H) ∧ (∀ j H, Pv j H → ExtH Dd H) ∧
  ∀ j, j < n → ∀ H, Pv j H → ∀ x H', Same H H' → item j x H' → g1 x (wipe σ2 vs1) H' fun σ3 H5 => wipe σ3 vs1 = wipe σ2 vs1 ∧ tt1 σ3 H5 fun b H6 => if b = true then te σ3 H6 fun y H7 => ∃ acc, H7 D = some (.lst acc) ∧ acc.length < sizeLine ∧ Pv (j + 1) (upd H7 D (.lst (acc ++ [y]))) else Pv (j + 1) H6
/-- [elt for tg in iter if .. for tg1 in f(..) if ..], f a generator def -/
def tLc2W (wi : TI) (g : TG) (tt : TT) (tw : TW) (g1 : TG) (tt1 : TT) (te : TE) (vs vs1 : List Nat) : TE := fun σ H Q => wi σ H fun J H1 => ∀ D, H1 D = none → ∃ W : Nat → Nat → Hp → Prop, (∃ m, W 0 m (upd H1 D (.lst []))) ∧ ∀ i m H, W i m H →
  (J.stop i H ∧ Q (.ref D) H) ∨ (J.go i H ∧ ∃ Nx : Hp → Prop, (∀ H', Nx H' → ∃ m', m' < m ∧ W (i + 1) m' H') ∧ ∀ x H', J.yld i H x H' → g x (wipe σ vs) H' fun σ2 H2 => wipe σ2 vs = wipe σ vs ∧ tt σ2 H2 fun b H3 =>
    if b = true then tw σ2 H3 (RdW D g1 tt1 te σ2 vs1 Nx) else Nx H3)
/-- a generator that has come: the turns from there -/
theorem from_made {B : Cx} {pn0 : List (Addr × Obj)} {k : Nat} {elt tg iter tg1 iter1 : Expr} {ifs ifs1 : List Expr} {scope : Scope} {pos : Pos} {g1 : TG} {tt1 : TT} {te : TE} {σ : L2.St} {vs1 : List Nat} {d : Addr} {Nx : Hp → Prop} {Rr : Shared → Prop} {u : Value} {H1 Dd : Hp} {sc s : Shared} {n : Nat} {item : Nat → V → Hp → Prop}
    (hfs : frs B.stack = B.fs) (hxe : B.xe = fun _ _ => False) (hr : Room (k + 1) B.A) (hg1 : PG B tg1 g1) (ht1 : PTs B ifs1 tt1) (he : PE B elt te) (I : Inv B pn0 σ H1 sc) (hE : ExtH Dd H1) (hDd : DataHp Dd)
    (M : WMade k B.stack ⟨B.prog, B.w, B.base, frs B.stack, Dd, sc, n, item⟩ u s) (rd : RdW d g1 tt1 te σ vs1 Nx H1 Dd n item) (fin : ∀ s' H', Inv B pn0 (wipe σ vs1) H' s' → Nx H' → Rr s') :
    wpAny (model B.prog B.w) B.A (pyIter u) (fun itv s' => codeAny (model B.prog B.w) B.A (.compStart (.ListComp elt [⟨tg, iter, ifs, 0⟩, ⟨tg1, iter1, ifs1, 0⟩] scope pos) 1 itv (.ref d) B.env) (fun r s' => match r with | .ok _ => Rr s' | .error _ => False) s') (fun _ _ => False) s := by
  obtain ⟨a, g, c, go, ow, rfl, ha1, ha2, hgo, hgc, hgs, hos, hba, hkp, how, wake⟩ := M
  obtain ⟨Pv, p0, p1, p2, p3⟩ := rd
  have Wk : Walker B ⟨B.prog, B.w, B.base, frs B.stack, Dd, sc, n, item⟩ (pn0 ++ [(a, go)]) := ⟨rfl, rfl, rfl, rfl, hDd, pn0, σ, H1, I⟩
  have I2 : Inv B pn0 σ H1 s := I.call' (ch := []) hos (Un.kept hkp) (I.hok.kept hkp) hba fun b z => (by cases z)
  have yp : ∀ p : Addr × Obj, s.heap.get? p.1 = some p.2 → sc.heap.objs.size ≤ p.1 → (∀ v, p.2.data ≠ .cell v) → s.heap.get? p.1 = some p.2 ∧ H1 p.1 = none ∧ p.1 ≠ B.env.locals ∧ p.1 ∉ B.fs ∧ ∀ v, p.2.data ≠ .cell v := fun p e1 e2 e3 =>
    let ⟨_, y2, _, y4⟩ := Wk.young e2
    ⟨e1, I.hok.fresh e2, y2, y4, e3⟩
  have I3 : Inv B ((pn0 ++ [(a, go)]) ++ ow) (wipe σ vs1) H1 s := (I2.pins_of fun p hp => by
    rcases List.mem_append.mp hp with hp | hp
    · rcases List.mem_append.mp hp with hp | hp
      · exact I2.pin p (List.mem_append_right _ hp)
      · rw [List.mem_singleton.mp hp]
        exact yp (a, go) ha2 ha1 hgc
    · obtain ⟨q1, q2, _, q4⟩ := how p hp
      exact yp p q1 q2 q4).weak (wipe_length _ _) fun i v e => (wipe_some e).1
  have hF : OwFar B ⟨B.prog, B.w, B.base, frs B.stack, Dd, sc, n, item⟩ (pn0 ++ [(a, go)]) ow := fun q hq => by
    obtain ⟨q1, q2, q3, q4⟩ := how q hq
    refine ⟨q2, fun p hp z => ?_⟩
    rcases List.mem_append.mp hp with hp | hp
    · have lt := Heap.lt_size (I.pin p (List.mem_append_left _ hp)).1
      rw [z] at lt
      exact absurd (Nat.lt_of_lt_of_le lt q2) (Nat.lt_irrefl _)
    · rcases List.mem_append.mp hp with hp | hp
      · have lt := Heap.lt_size (I.pin p (List.mem_append_right _ hp)).1
        rw [z] at lt
        exact absurd (Nat.lt_of_lt_of_le lt q2) (Nat.lt_irrefl _)
      · rw [List.mem_singleton.mp hp] at z
        exact q3 z.symm
  have hw := wake B.A.in1 (s.setGen g .running) hr.in1 I.ok.frames (fun _ _ e => e) hos (allBare_setGen hba rfl)
  have turns := inner_gen (tg := tg) (iter := iter) (iter1 := iter1) (ifs := ifs) (scope := scope) (pos := pos) (D := d) Wk hfs hxe hr.hd hr.depth hg1 ht1 he hgo (List.mem_append_right _ List.mem_cons_self) Pv p2 (Rr := Rr) p3 (fun s' H' I' h' => fin s' H' (I'.pins_of fun p hp => I'.pin p (List.mem_append_right _ (List.mem_append_left _ hp))) (p1 H' h')) I3 p0 hF hgs hw
  refine wpAny_pyIter_gen (hgo _ ha2) ?_
  exact compStart1_ok turns (wpAny_pyIter_gen (hgo _ ha2) turns)
section
variable {X : Cx} {elt tg iter tg1 iter1 : Expr} {ifs ifs1 : List Expr} {scope : Scope} {own : List (Str × Nat)} {vs1 : List Nat} {pos : Pos} {wi : TI} {g g1 : TG} {tt tt1 : TT} {tw : TW} {te : TE} {k : Nat}
theorem pe_lc2W (hc : X.calm = true) (hN : X.N.Nodup) (hr : Room (k + 1) X.A) (hi : PI X tg iter wi) (ok : BlkOk X.N X.env.scope scope own) (hv : ∀ i ∈ vs1, i ∈ own.map (·.2))
    (bg : ∀ s H C cl fp, PG (X.blk s H scope (compEnvC scope cl C X.env) fp) tg g) (bt : ∀ s H C cl fp, PTs (X.blk s H scope (compEnvC scope cl C X.env) fp) ifs tt) (bw : ∀ s H C cl fp, PGW (X.blk s H scope (compEnvC scope cl C X.env) fp) k iter1 tw)
    (bg1 : ∀ s H C cl fp, PG (X.blk s H scope (compEnvC scope cl C X.env) fp) tg1 g1) (bt1 : ∀ s H C cl fp, PTs (X.blk s H scope (compEnvC scope cl C X.env) fp) ifs1 tt1) (be : ∀ s H C cl fp, PE (X.blk s H scope (compEnvC scope cl C X.env) fp) elt te)
    (hs : ∀ x, foldedSetIterable iter X.env x = pure x := by intro _; rfl) (hs1 : ∀ env x, foldedSetIterable iter1 env x = pure x := by intro _ _; rfl) :
    PE X (.ListComp elt [⟨tg, iter, ifs, 0⟩, ⟨tg1, iter1, ifs1, 0⟩] scope pos) (tLc2W wi g tt tw g1 tt1 te (own.map (·.2)) vs1) := by
  refine ⟨fun pins sa σ Ha Q Ia hq => ?_⟩
  rw [eval_ListComp]
  have clo : ∀ y ∈ scope.names, y.2 = .free → ∃ c, X.env.cells.lookup y.1 = some c := fun y hy e => (ok.free y hy e).elim (fun z => Ia.ok.has _ (.inl z)) fun z => Ia.ok.has _ (.inr z)
  refine wpAny_comprehension_free (use := none) rfl hs (closure_ok clo) ok.kind (fun y hy e => (ok.uniq y hy).trans (congrArg some e)) (thn (hi.run pins sa σ Ha _ Ia hq) fun _ sb hb => thn hb fun _ sd hd => ?_)
  obtain ⟨it, fp, tn, J, Hd, rfl, Id, T, td, fd, rest⟩ := hd
  refine wpAny_newObj_type (newEnv_comp ?_) (by show 0 ≤ sizeLine; decide)
  -- the list that is filled
  generalize edd : sd.heap.objs.size = dd
  have hdd : Hd dd = none := Id.hok.fresh (by omega)
  obtain ⟨W, ⟨m0, w0⟩, turn⟩ := rest dd hdd
  generalize ese : ({ sd with heap := sd.heap.push { cls := .type "list", data := .seq ([] : List Value).toArray } } : Shared) = se
  have he : se.heap = sd.heap.push { cls := .type "list", data := .seq ([] : List Value).toArray } := by rw [← ese]
  have Ie : Inv X pins σ (upd Hd dd (.lst [])) se := by
    rw [← ese]
    refine Id.laid (t' := sd.toks) (fun _ _ q => Heap.get?_push_of_some _ q) (by omega) ⟨Nat.zero_le _, [], 0, .nil, ?_⟩
    rw [← edd]
    exact Heap.get?_push_size _ rfl
  have ke : ∀ b o, sd.heap.get? b = some o → se.heap.get? b = some o := fun b o q => by rw [he]; exact Heap.get?_push_of_some _ q
  have far : ∀ b ∈ fp, b < sd.heap.objs.size := fun b hb => let ⟨_, q, _⟩ := T.obj _ _ td b hb; Heap.lt_size q
  have fe : ∀ b ∈ fp, FpOk X pins (upd Hd dd (.lst [])) b ∧ b < se.heap.objs.size := fun b hb => by
    have l1 := far b hb
    refine ⟨⟨(upd_ne (Nat.ne_of_lt (by rw [← edd]; exact l1))).trans (fd b hb).1, (fd b hb).2⟩, ?_⟩
    rw [he, Heap.size_push]
    exact Nat.lt_succ_of_lt l1
  have te0 : tn 0 se.heap := T.keep _ _ _ td fun b _ o q => ke b o q
  have Ib := block_start Ie ok hN fe
  have xg := bg se (upd Hd dd (.lst [])) se.heap.objs.size (cellsFrom (se.heap.objs.size + 1) scope.names (cloFrom X.env.cells scope.names [])) fp
  have xt := bt se (upd Hd dd (.lst [])) se.heap.objs.size (cellsFrom (se.heap.objs.size + 1) scope.names (cloFrom X.env.cells scope.names [])) fp
  have xw := bw se (upd Hd dd (.lst [])) se.heap.objs.size (cellsFrom (se.heap.objs.size + 1) scope.names (cloFrom X.env.cells scope.names [])) fp
  have xg1 := bg1 se (upd Hd dd (.lst [])) se.heap.objs.size (cellsFrom (se.heap.objs.size + 1) scope.names (cloFrom X.env.cells scope.names [])) fp
  have xt1 := bt1 se (upd Hd dd (.lst [])) se.heap.objs.size (cellsFrom (se.heap.objs.size + 1) scope.names (cloFrom X.env.cells scope.names [])) fp
  have xe := be se (upd Hd dd (.lst [])) se.heap.objs.size (cellsFrom (se.heap.objs.size + 1) scope.names (cloFrom X.env.cells scope.names [])) fp
  have nfp : ∀ b ∈ fp, (upd Hd dd (.lst [])) b = none := fun b hb => (fe b hb).1.1
  show codeAny _ _ (.compStart _ 0 (.ref it) (.ref dd) (compEnvC scope (cellsFrom (se.heap.objs.size + 1) scope.names (cloFrom X.env.cells scope.names [])) se.heap.objs.size X.env)) _ { se with heap := pushCells (se.heap.push { cls := .type "dict", data := .dict #[] }) scope.names }
  generalize ece : compEnvC scope (cellsFrom (se.heap.objs.size + 1) scope.names (cloFrom X.env.cells scope.names [])) se.heap.objs.size X.env = ce at Ib xg xt xw xg1 xt1 xe ⊢
  have lce : ce.locals = se.heap.objs.size := by subst ece; rfl
  generalize eHe : upd Hd dd (.lst []) = He at Ie Ib xg xt xw xg1 xt1 xe w0 nfp fe
  generalize esf : ({ se with heap := pushCells (se.heap.push { cls := .type "dict", data := .dict #[] }) scope.names } : Shared) = sf at Ib ⊢
  have tf : tn 0 sf.heap := T.keep _ _ _ te0 fun b _ o q => by rw [← esf]; exact pushCells_keeps _ _ _ _ (Heap.get?_push_of_some _ q)
  have stays : ∀ {σ' : L2.St} {H' : Hp} {s' : Shared}, Inv (X.blk se He scope ce fp) [] σ' H' s' → (∀ b ∈ fp, H' b = none) → ∀ b ∈ fp, FpOk (X.blk se He scope ce fp) [] H' b := fun {σ' H' s'} I' hn b hb =>
    ⟨hn b hb, (I'.ok.exf b hb).1, I'.ok.exfs b hb, .inl hb, fun x c q => (I'.ok.exf b hb).2 x c q, fun p hp => (by cases hp)⟩
  have loop : codeAny (model X.prog X.w) X.A (.compLoop (.ListComp elt [⟨tg, iter, ifs, 0⟩, ⟨tg1, iter1, ifs1, 0⟩] scope pos) 0 (.ref it) (.ref dd) ce) (compPost (model X.prog X.w) X.A X.xe none (EP X pins σ Q) (.ref dd) se.heap.objs.size) sf := by
    refine compLoop2_out (hs1 ce) (fun m s' => ∃ i H', Inv (X.blk se He scope ce fp) [] (wipe σ (own.map (·.2))) H' s' ∧ tn i s'.heap ∧ (∀ b ∈ fp, H' b = none) ∧ W i m H') ?_ m0 ⟨0, He, Ib, tf, nfp, w0⟩
    rintro m s5 ⟨i, H5, I5, t5, n5, w5⟩
    rcases turn i m H5 w5 with ⟨stop, qq⟩ | ⟨go, Nx, hNx, step⟩
    · refine thnF (T.done (X.blk se He scope ce fp) rfl rfl rfl hc i [] s5 _ H5 (fun _ _ => False) I5 (stays I5 n5) t5 stop) fun r s6 ⟨er, I6⟩ => ?_
      subst er
      have I7 : Inv X pins σ H5 s6 := Ie.call' (ch := fp) I6.os I6.base I6.hok I6.bare fun b hb => let ⟨_, q1, _, q3, q4, q5⟩ := (fe b hb).1; ⟨q3, q1, q4, q5⟩
      have nC : H5 se.heap.objs.size = none := by
        have z := I6.free
        rw [show (X.blk se He scope ce fp).env.locals = se.heap.objs.size from lce] at z
        exact z
      obtain ⟨mp, hmp, _⟩ := I6.loc
      rw [show (X.blk se He scope ce fp).env.locals = se.heap.objs.size from lce] at hmp
      refine ⟨mp, hmp, fun h'' sb => ?_⟩
      obtain ⟨f0, f1, _, f3, f4, f5⟩ := Ie.fpOk (Nat.le_refl _) nC
      exact ⟨.ref dd, H5, I7.turned (t' := s6.toks) (fun b o hb q => (sb.2 b hb).trans q) f0 f1 f3 f4 f5, rfl, qq⟩
    · refine thnF (T.item (X.blk se He scope ce fp) rfl rfl rfl hc i [] s5 _ H5 (fun _ _ => False) I5 (stays I5 n5) t5 go) fun r s6 ⟨u, er, h6⟩ => ?_
      subst er
      refine thnF h6 fun _ s7 ⟨x, H7, I7, r7, y7, t7, n7⟩ => ?_
      refine thnF (xg.run _ s7 _ H7 x u _ (I7.pinned (stays I7 n7) (T.obj _ _ t7)) r7 (step x H7 y7)) fun _ s8 ⟨σ8, H8, I8, w8, q8⟩ => ?_
      refine thnF (xt.run _ s8 σ8 H8 _ I8 q8) fun b s9 ⟨H9, I9, q9⟩ => ?_
      have done : ∀ {σ9 : L2.St} {s' : Shared} {H' : Hp}, Inv (X.blk se He scope ce fp) ([] ++ pinsAt fp s7.heap) σ9 H' s' → σ9.length = σ.length → (∀ (j : Nat) v, (wipe σ (own.map (·.2)))[j]? = some (some v) → σ9[j]? = some (some v)) → Nx H' →
          ∃ m', m' < m ∧ ∃ i H', Inv (X.blk se He scope ce fp) [] (wipe σ (own.map (·.2))) H' s' ∧ tn i s'.heap ∧ (∀ b ∈ fp, H' b = none) ∧ W i m' H' := fun {σ9 s' H'} I' hl hk nx => by
        obtain ⟨m', hm, w'⟩ := hNx H' nx
        have pk : ∀ b ∈ fp, ∀ o, s7.heap.get? b = some o → s'.heap.get? b = some o ∧ H' b = none := fun b hb o q =>
          let z := I'.pin (b, o) (List.mem_append_right _ (List.mem_append_right _ (mem_pinsAt hb q)))
          ⟨z.1, z.2.1⟩
        refine ⟨m', hm, i + 1, H', (I'.unpinned (pins := [])).weak ((wipe_length _ _).trans hl.symm) hk, T.keep _ _ _ t7 fun b hb o q => (pk b hb o q).1, fun b hb => ?_, w'⟩
        obtain ⟨o, q, _⟩ := T.obj _ _ t7 b hb
        exact (pk b hb o q).2
      have l8 : σ8.length = σ.length := by rw [← wipe_length σ8 (own.map (·.2)), w8, wipe_length]
      have k8 : ∀ (j : Nat) v, (wipe σ (own.map (·.2)))[j]? = some (some v) → σ8[j]? = some (some v) ∧ j ∉ own.map (·.2) := fun j v q => by
        rw [← w8] at q
        exact wipe_some q
      cases b with
      | false =>
        simp only [Bool.false_eq_true, if_false] at q9 ⊢
        exact done I9 l8 (fun j v q => (k8 j v q).1) q9
      | true =>
        simp only [if_true] at q9 ⊢
        refine thnF (xw.run _ s9 σ8 H9 _ I9 q9) fun u1 s10 ⟨H10, sc, Dd, n, item, I10, hE, hD, M, rd⟩ => ?_
        exact thnF (from_made (B := X.blk se He scope ce fp) (Rr := fun s' => ∃ m', m' < m ∧ ∃ i H', Inv (X.blk se He scope ce fp) [] (wipe σ (own.map (·.2))) H' s' ∧ tn i s'.heap ∧ (∀ b ∈ fp, H' b = none) ∧ W i m' H') (elt := elt) (tg := tg) (iter := iter) (iter1 := iter1) (ifs := ifs) (scope := scope) (pos := pos) rfl rfl hr xg1 xt1 xe I10 hE hD M rd fun s' H' I' nx => done I' ((wipe_length _ _).trans l8) (fun j v q => by
          obtain ⟨q1, q2⟩ := k8 j v q
          rw [wipe_out fun z => q2 (hv j z)]
          exact q1) nx) fun _ _ h => h
  exact codeAny_compStart_list loop (T.self X.A 0 _ _ _ tf loop)
end
end L2
set_option maxRecDepth 100000
set_option maxHeartbeats 2000000
namespace L2
open PySem PySem.Spec PyProof.Rows GenW GenF
/-! ### list(g) of a generator of the program's -/
def FSlot (G : GPar) (s : Shared) : Prop := ∀ b o, b ∈ G.fs → G.sc.heap.get? b = some o → ∃ sl, s.heap.get? b = some { o with slots := sl }
theorem FSlot.next {G : GPar} {ow ow' : List (Addr × Obj)} {s sw s1 s2 : Shared} (F : FSlot G s) (hsw : sw.heap = s.heap) (K1 : Kp G ow ow' sw s1) (h2 : ∀ b o, b ∈ G.fs → s1.heap.get? b = some o → s2.heap.get? b = some o) : FSlot G s2 := fun b o hb e => by
  obtain ⟨sl, q⟩ := F b o hb e
  obtain ⟨sl2, q2⟩ := K1.slot b _ hb (by rw [hsw]; exact q)
  exact ⟨sl2, h2 b _ hb q2⟩
theorem wk_slot {B : Cx} {G : GPar} {p0 ow : List (Addr × Obj)} {σ : L2.St} {H : Hp} {s s' : Shared} (W : Walker B G p0) (F : FSlot G s) (I : Inv B (p0 ++ ow) σ H s) (hE : ExtH G.D H) (hh : s'.heap = s.heap) (ho : s'.os = s.os) (hb : AllBare s'.gens) : WkOk G ow s' := by
  obtain ⟨pins, σ', H', I'⟩ := W.sc
  refine ⟨by rw [ho, I.os, I'.os], hb, fun b o e => by rw [hh]; exact I.bk b o (by rw [W.eb]; exact e), fun b o hf e => by rw [hh]; exact F b o hf e, fun b o e => ?_, fun p hp => by rw [hh]; exact (I.pin p (List.mem_append_right _ (List.mem_append_right _ hp))).1⟩
  rw [hh, ← W.eP, ← W.ew]
  exact obj_flat (W.dat b o e) (I.hok b o (hE b o e))
section
variable {X : Cx} {G : GPar} {p0 : List (Addr × Obj)} {σ : L2.St} {H1 : Hp} {A : Around} {R : Result → Shared → Prop} {S a : Addr} {g : Nat} {go : Obj} {res : Value}
theorem drainW (W : Walker X G p0) (hh : A.handled = none) (hd : A.depth < recursionLimit) (hgo : ∀ h : Heap, h.get? a = some go → h.IsGen a g) (ha : (a, go) ∈ p0) (hS : G.sc.heap.objs.size ≤ S) (hSp : ∀ p ∈ X.pn ++ p0, p.1 ≠ S) (hSf : S ∉ G.fs) (hN : G.N ≤ sizeLine)
    (hmono : ∀ j x H H', Same H H' → G.item j x H → G.item j x H')
    (hend : ∀ s' xs H' acc c, Inv X p0 σ H' s' → Same H1 H' → xs.length = G.N → (∀ (i : Nat) x, xs[i]? = some x → G.item i x H') → s'.heap.get? S = some (lstObj acc c) → Vals xs acc.toList → H' S = none → R (.ok (.ret res)) s') :
    ∀ (m j : Nat) (ow : List (Addr × Obj)) (s : Shared) (H : Hp) (xs : List V) (acc : Array Value) (c : Nat) (gs : GenState), m + j = G.N → Inv X ((p0 ++ [(S, lstObj acc c)]) ++ ow) σ H s → Same H1 H → ExtH G.D H → xs.length = j → (∀ (i : Nat) x, xs[i]? = some x → G.item i x H) → Vals xs acc.toList →
      OwFar X G (p0 ++ [(S, lstObj acc c)]) ow → FSlot G s → s.gens[g]? = some gs → Wake (model G.P G.w) A.in1.in1 gs (s.setGen g .running) (PhOf A.in1.in1 G m ow (s.setGen g .running)) → codeAny (model X.prog X.w) A (.builtin "list.extend.loop" ⟨[.ref S, .ref a, res], []⟩) R s := by
  intro m
  induction m with
  | zero =>
    intro j ow s H xs acc c gs hj I sm hE hl hit hv hF Fz hgs hw
    have hlt : g < s.gens.size := (Array.getElem?_eq_some_iff.mp hgs).1
    have hpa := (I.pin (a, go) (List.mem_append_right _ (List.mem_append_left _ (List.mem_append_left _ ha)))).1
    have W' : Walker X G (p0 ++ [(S, lstObj acc c)]) := ⟨W.eP, W.ew, W.eb, W.ef, W.dat, W.sc⟩
    refine codeAny_builtin F.entry_extend_loop ?_
    rw [Around.under_plainId F.plain_extend_loop _]
    show wpAny _ A.in1 (pyNext (.ref a) >>= fun _ => _) _ _ s
    refine wpAny_bind (next_gen (A := A.in1) (Y := fun _ _ _ => False) (Z := fun s' => Kp G ow [] (s.setGen g .running) s') hh I.nolimit hd (hgo _ hpa) hgs (by rw [W.eP, W.ew]; exact hw) (fun _ _ _ _ _ z => z.elim) fun s1 K1 h' hk => ?_)
    obtain ⟨I1, _⟩ := took (Hn := fun _ => none) (s2 := { s1.setGen g .finished with heap := h' }) W' I hE hF (show (s.setGen g .running).heap = s.heap from rfl) K1 (fun b xs _ hq => (by cases hq)) hk rfl (allBare_setGen K1.bare rfl)
    rw [glue_none, List.append_nil] at I1
    have pS := I1.pin (S, lstObj acc c) (List.mem_append_right _ (List.mem_append_right _ List.mem_cons_self))
    exact wpAny_pure (hend _ xs H acc c (I1.pins_of fun p hp => I1.pin p (List.mem_append_right _ (List.mem_append_left _ hp))) sm (by omega) hit pS.1 hv pS.2.1)
  | succ m ih =>
    intro j ow s H xs acc c gs hj I sm hE hl hit hv hF Fz hgs hw
    have hlt : g < s.gens.size := (Array.getElem?_eq_some_iff.mp hgs).1
    have hpa := (I.pin (a, go) (List.mem_append_right _ (List.mem_append_left _ (List.mem_append_left _ ha)))).1
    have W' : Walker X G (p0 ++ [(S, lstObj acc c)]) := ⟨W.eP, W.ew, W.eb, W.ef, W.dat, W.sc⟩
    refine codeAny_builtin F.entry_extend_loop ?_
    rw [Around.under_plainId F.plain_extend_loop _]
    show wpAny _ A.in1 (pyNext (.ref a) >>= fun _ => _) _ _ s
    refine wpAny_bind (wpAny_gsz (n := g + 1) hlt (next_gen (A := A.in1) (Y := fun v gs' s' => ∃ ow' y Hn, Kp G ow ow' (s.setGen g .running) s' ∧ Gave G (G.N - (m + 1)) ow' (s.setGen g .running) v s' Hn y ∧ Live A.in1.in1 G m ow' gs') (Z := fun _ => False) hh I.nolimit hd (hgo _ hpa) hgs
      (by rw [W.eP, W.ew]; exact hw) (fun v gs' s1 hsus hbare ⟨ow', y, Hn, K1, Gv, lv⟩ => ?_) fun _ z => z.elim))
    intro hsz
    have ej : G.N - (m + 1) = j := by omega
    rw [ej] at Gv
    obtain ⟨I2, F2⟩ := took (s2 := s1.setGen g gs') W' I hE hF (show (s.setGen g .running).heap = s.heap from rfl) K1 (fun b xs hb hq => Gv.new b xs hb hq) (fun _ _ q => q) rfl (allBare_setGen K1.bare hbare)
    have hsz1 : g < s1.gens.size := by
      have q : (s1.setGen g gs').gens.size = s1.gens.size := setGen_size _ _ _
      have q2 : g + 1 ≤ (s1.setGen g gs').gens.size := hsz
      omega
    have sm2 : Same H (glue H Hn s.heap) := fun b o e => glue_old e
    have hE2 : ExtH G.D (glue H Hn s.heap) := fun b o e => glue_old (hE b o e)
    have it2 : G.item j y (glue H Hn s.heap) := Gv.item _ hE2 fun b xs hb hq => by
      refine glue_new ?_ hb hq
      cases z : H b with
      | none => rfl
      | some o =>
        obtain ⟨u, q⟩ := objU_there (I.hok b o z)
        have hb' : s.heap.get? b = none := hb
        rw [hb'] at q
        cases q
    have pS := I2.pin (S, lstObj acc c) (List.mem_append_right _ (List.mem_append_left _ (List.mem_append_right _ List.mem_cons_self)))
    have hS1 : s1.heap.get? S = some (lstObj acc c) := pS.1
    have hal : acc.size = j := by
      have e1 := hv.length
      have e2 : acc.toList.length = acc.size := by simp
      omega
    have hasz : acc.size < sizeLine := by omega
    show wpAny _ A.in1 (updateSeq S (·.push v) >>= fun _ => _) _ _ _
    refine wpAny_bind ?_
    refine wpAny_updateSeq hS1 rfl (wpAny_pure ⟨plainId_quiet F.plain_extend_loop _, ?_⟩) (Nat.le_of_lt hasz) (by show (acc.push v).size ≤ sizeLine + 1; rw [Array.size_push]; omega)
    have kp3 : ∀ b o, b ≠ S → s1.heap.get? b = some o → (s1.heap.update S (Obj.mapSeq (·.push v))).get? b = some o := fun b o hb e => (Heap.get?_update_other _ _ (Ne.symm hb)).trans e
    have hS3 : (s1.heap.update S (Obj.mapSeq (·.push v))).get? S = some (lstObj (acc.push v) _) := Heap.get?_update_self (Obj.mapSeq (·.push v)) hS1 rfl
    obtain ⟨y1, y2, y3, y4⟩ := W.young hS
    have I3 : Inv X (p0 ++ ow') σ (glue H Hn s.heap) { s1.setGen g gs' with heap := s1.heap.update S (Obj.mapSeq (·.push v)) } := by
      refine Inv.turned (t' := (s1.setGen g gs').toks) (it := S) (I2.pins_of (pins' := p0 ++ ow') fun p hp => ?_) (fun b o hb e => kp3 b o hb e) pS.2.1 y2 (.inr y1) y3 fun p hp => ?_
      · rcases List.mem_append.mp hp with hp | hp
        · exact I2.pin p (List.mem_append_right _ (List.mem_append_left _ (List.mem_append_left _ hp)))
        · exact I2.pin p (List.mem_append_right _ (List.mem_append_right _ hp))
      · rcases List.mem_append.mp hp with hp | hp
        · exact hSp p (List.mem_append_left _ hp)
        · rcases List.mem_append.mp hp with hp | hp
          · exact hSp p (List.mem_append_right _ hp)
          · exact fun z => (F2 p hp).2 (S, lstObj acc c) (List.mem_append_right _ (List.mem_append_right _ List.mem_cons_self)) z.symm
    have I4 : ∀ c', (s1.heap.update S (Obj.mapSeq (·.push v))).get? S = some (lstObj (acc.push v) c') → Inv X ((p0 ++ [(S, lstObj (acc.push v) c')]) ++ ow') σ (glue H Hn s.heap) { s1.setGen g gs' with heap := s1.heap.update S (Obj.mapSeq (·.push v)) } := fun c' hc => I3.pins_of fun p hp => by
      rcases List.mem_append.mp hp with hp | hp
      · rcases List.mem_append.mp hp with hp | hp
        · exact I3.pin p (List.mem_append_right _ (List.mem_append_left _ hp))
        · rw [List.mem_singleton.mp hp]
          exact ⟨hc, pS.2.1, y2, y4, fun v q => by cases q⟩
      · exact I3.pin p (List.mem_append_right _ (List.mem_append_right _ hp))
    have F4 : FSlot G { s1.setGen g gs' with heap := s1.heap.update S (Obj.mapSeq (·.push v)) } := Fz.next (show (s.setGen g .running).heap = s.heap from rfl) K1 fun b o hb e => kp3 b o (fun z => hSf (by rw [← z]; exact hb)) e
    refine ih (j + 1) ow' { s1.setGen g gs' with heap := s1.heap.update S (Obj.mapSeq (·.push v)) } (glue H Hn s.heap) (xs ++ [y]) (acc.push v) _ gs' (by omega) (I4 _ hS3) (fun b o q => sm2 b o (sm b o q)) hE2 (by rw [List.length_append, hl]; rfl) (fun i x hx => ?_) ?_ (fun q hq => ⟨(F2 q hq).1, fun p hp => ?_⟩) F4 (setGen_at hsz1) ?_
    · by_cases hi : i < xs.length
      · rw [List.getElem?_append_left hi] at hx
        exact hmono i x _ _ sm2 (hit i x hx)
      · have hi2 : i = j := by
          have := (List.getElem?_eq_some_iff.mp hx).1
          rw [List.length_append, List.length_singleton] at this
          omega
        rw [hi2, List.getElem?_append_right (by omega), hl, Nat.sub_self] at hx
        cases hx
        rw [hi2]
        exact it2
    · rw [Array.toList_push]
      exact hv.append (.cons Gv.rel .nil)
    · rcases List.mem_append.mp hp with hp | hp
      · exact (F2 q hq).2 p (List.mem_append_left _ hp)
      · rcases List.mem_append.mp hp with hp | hp
        · exact (F2 q hq).2 p (List.mem_append_right _ (List.mem_append_left _ hp))
        · rw [List.mem_singleton.mp hp]
          exact (F2 q hq).2 (S, lstObj acc c) (List.mem_append_right _ (List.mem_append_right _ List.mem_cons_self))
    · exact live_iff.mp lv _ (wk_slot W (p0 := p0) F4 I3 hE2 rfl rfl (allBare_setGen I3.bare rfl))
end
def tListW (tw : TW) : TE := fun σ H Q => tw σ H fun H1 D n item => n ≤ sizeLine ∧ (∀ j x H H', Same H H' → item j x H → item j x H') ∧ ∀ xs H', xs.length = n → Same H1 H' → (∀ (i : Nat) x, xs[i]? = some x → item i x H') → ∀ p, H' p = none → Q (.ref p) (upd H' p (.lst xs))
theorem pe_listW {X : Cx} {k : Nat} {e : Expr} {tw : TW} {nm : Str} {p pos : Pos} (h : PGW X k e tw) (hr : Room (k + 3) X.A) (hg : Gl X nm) (hmg : X.mg nm = none) (hv : bootBuiltins nm = some (.type "list")) (hnm : nm ≠ "__name__" := by decide) (hdb : (nm == ("__debug__" : Str)) = false := by decide)
    (he : starEach [e] X.env = (false, eval e X.env) :: starEach [] X.env := by rfl) : PE X (.Call (.Name nm p) [e] [] pos) (tListW tw) := by
  refine ⟨fun pins s0 σ H Q I hq => ?_⟩
  refine wpAny_Call_Name_kw (ld_blt I hg hmg hv ?_ hnm hdb)
  refine PyProof.Rows.callWith_type1 ?_ he rfl
  rw [he]
  show wpAny _ _ (spliced ((false, eval e X.env) :: backTo pos (starEach [] X.env))) _ _ s0
  refine Calls.spliced_cons (thn (h.run pins s0 σ H _ I hq) fun u s ⟨H1, sc, D, n, item, I1, hE, hD, M, hn, hmono, k1⟩ => ?_)
  refine Calls.spliced_nil ?_
  obtain ⟨a, g, c, go, ow, rfl, ha1, ha2, hgo, hgc, hgs, hos, hba, hkp, how, wake⟩ := M
  have Wk : Walker X ⟨X.prog, X.w, X.base, frs X.stack, D, sc, n, item⟩ (pins ++ [(a, go)]) := ⟨rfl, rfl, rfl, rfl, hD, pins, σ, H1, I1⟩
  have I2 : Inv X pins σ H1 s := I1.call' (ch := []) hos (Un.kept hkp) (I1.hok.kept hkp) hba fun b z => (by cases z)
  have hl : s.heap.NoLimit := I2.nolimit
  have hsc : sc.heap.objs.size ≤ s.heap.objs.size := by
    have l1 := Heap.lt_size ha2
    have l2 : sc.heap.objs.size ≤ a := ha1
    exact Nat.le_of_lt (Nat.lt_of_le_of_lt l2 l1)
  have hne : s.heap.objs.size ≠ a := Nat.ne_of_gt (Heap.lt_size ha2)
  refine callType_codes (Q₁ := fun obj s₁ => obj = .ref s.heap.objs.size ∧ s₁ = { s with heap := s.heap.push { cls := .type "list", data := .seq #[] } }) F.called_list (F.typeCall_list_1 _) F.entry_list_init
    (code_list_new _ ⟨rfl, rfl⟩) fun obj s₁ h₁ => ?_
  obtain ⟨rfl, rfl⟩ := h₁
  have e1 : (s.heap.push { cls := .type "list", data := .seq #[] }).get? s.heap.objs.size = some { cls := .type "list", data := .seq #[] } := Heap.get?_push_size _ rfl
  refine ⟨⟨_, e1, rfl⟩, F.args_list_init_2 _ _, ?_⟩
  show wpAny _ X.A.in1.in1 (do let old ← Builtin.List.listItems (.ref s.heap.objs.size); Builtin.List.listUpdate (.ref s.heap.objs.size) (fun _ => #[]); letGo old.toList.reverse; Builtin.List.listExtendWith (.ref s.heap.objs.size) (.ref a) .none) _ _ _
  refine wpAny_bind ?_
  unfold Builtin.List.listItems
  refine wpAny_bind (wpAny_seqItems e1 rfl (wpAny_pure ?_))
  show wpAny _ _ (updateSeq s.heap.objs.size (fun _ => #[]) >>= fun _ => letGo (#[] : Array Value).toList.reverse >>= fun _ => Builtin.List.listExtendWith (.ref s.heap.objs.size) (.ref a) .none) _ _ _
  refine wpAny_bind (wpAny_updateSeq e1 rfl ?_)
  have e2 := Heap.get?_update_self (Obj.mapSeq (fun _ => (#[] : Array Value))) e1 rfl
  refine wpAny_bind (wpAny_letGo ?_)
  unfold Builtin.List.listExtendWith
  have up : ∀ (h : Heap) (f : Obj → Obj), (∀ b o, s.heap.get? b = some o → h.get? b = some o) → ∀ b o, s.heap.get? b = some o → (h.update s.heap.objs.size f).get? b = some o := fun h f q b o e => (Heap.get?_update_other _ _ (Ne.symm (Nat.ne_of_lt (Heap.lt_size e)))).trans (q b o e)
  have c1 : ∀ b o, s.heap.get? b = some o → (s.heap.push { cls := .type "list", data := .seq #[] }).get? b = some o := fun b o e => Heap.get?_push_of_some _ e
  have c2 := up _ (Obj.mapSeq (fun _ => (#[] : Array Value))) c1
  have gty : ∀ {h : Heap}, (∀ b o, s.heap.get? b = some o → h.get? b = some o) → h.IsGen a g := fun {h} q => hgo h (q a go ha2)
  refine wpAny_bind (wpAny_typeOf (Heap.IsGen.typeIs (s := { s with heap := _ }) (gty c2)) ?_)
  have d1 : Builtin.List.listSameRef (.ref s.heap.objs.size) (.ref a) = false := by simp [Builtin.List.listSameRef, hne]
  have d2 : (Value.type "generator" == Value.type "list") = false := by decide
  have d3 : (Value.type "generator" == Value.type "tuple") = false := by decide
  simp only [d1, d2, d3, Bool.or_false, Bool.false_eq_true, if_false]
  refine wpAny_bind (wpAny_pyIter_gen (s := { s with heap := _ }) (gty c2) ?_)
  refine wpAny_bind (wpAny_holding ?_)
  unfold Builtin.List.listLengthHint
  refine wpAny_bind (wpAny_specialOf (Heap.IsGen.typeIs (s := { s with heap := _ }) (gty c2)) F.gen_no_len ?_)
  show wpAny _ _ (specialOf (Value.ref a) (Str.ofString "__length_hint__") >>= _) _ _ _
  refine wpAny_bind (wpAny_specialOf (Heap.IsGen.typeIs (s := { s with heap := _ }) (gty c2)) F.gen_no_hint ?_)
  refine wpAny_pure ?_
  show wpAny _ _ (rule "list.extend.makes-room" >>= fun _ => Builtin.List.listTouch (.ref s.heap.objs.size) >>= fun _ => again (.builtin "list.extend.loop" ⟨[.ref s.heap.objs.size, .ref a, .none], []⟩)) _ _ _
  refine wpAny_bind (wpAny_rule ?_)
  refine wpAny_bind ?_
  show wpAny _ _ (updateSeq s.heap.objs.size (·.push .none) >>= fun _ => updateSeq s.heap.objs.size (·.pop)) _ _ _
  refine wpAny_bind (wpAny_updateSeq e2 rfl ?_)
  have e3 := Heap.get?_update_self (Obj.mapSeq (·.push Value.none)) e2 rfl
  refine wpAny_updateSeq (hz := by seq_fits) e3 rfl ?_
  have e4 := Heap.get?_update_self (Obj.mapSeq (·.pop)) e3 rfl
  have c4 := up _ (Obj.mapSeq (·.pop)) (up _ (Obj.mapSeq (·.push Value.none)) c2)
  refine wpAny_pure ⟨plainId_quiet F.plain_extend_loop _, ?_⟩
  generalize hs5 : ({ s with heap := _ } : Shared) = s5 at *
  have k5 : ∀ b o, s.heap.get? b = some o → s5.heap.get? b = some o := fun b o q => by rw [← hs5]; exact c4 b o q
  have g5 : s5.gens = s.gens := by rw [← hs5]
  have o5 : s5.os = s.os := by rw [← hs5]
  have e5 : ∃ cc, s5.heap.get? s.heap.objs.size = some (lstObj #[] cc) := by rw [← hs5]; exact ⟨_, e4⟩
  obtain ⟨cc, e5⟩ := e5
  have I5 : Inv X pins σ H1 s5 := I2.call' (ch := []) o5 (Un.kept k5) (I2.hok.kept k5) (by rw [g5]; exact hba) fun b z => (by cases z)
  have yp : ∀ q : Addr × Obj, s5.heap.get? q.1 = some q.2 → sc.heap.objs.size ≤ q.1 → (∀ v, q.2.data ≠ .cell v) → s5.heap.get? q.1 = some q.2 ∧ H1 q.1 = none ∧ q.1 ≠ X.env.locals ∧ q.1 ∉ X.fs ∧ ∀ v, q.2.data ≠ .cell v := fun q r1 r2 r3 =>
    let ⟨_, y2, _, y4⟩ := Wk.young r2
    ⟨r1, I1.hok.fresh r2, y2, y4, r3⟩
  have I6 : Inv X (((pins ++ [(a, go)]) ++ [(s.heap.objs.size, lstObj #[] cc)]) ++ ow) σ H1 s5 := I5.pins_of fun q hq => by
    rcases List.mem_append.mp hq with hq | hq
    · rcases List.mem_append.mp hq with hq | hq
      · rcases List.mem_append.mp hq with hq | hq
        · exact I5.pin q (List.mem_append_right _ hq)
        · rw [List.mem_singleton.mp hq]
          exact yp (a, go) (k5 _ _ ha2) ha1 hgc
      · rw [List.mem_singleton.mp hq]
        exact yp (s.heap.objs.size, lstObj #[] cc) e5 hsc fun v r => (by cases r)
    · obtain ⟨r1, r2, _, r4⟩ := how q hq
      exact yp q (k5 _ _ r1) r2 r4
  have old : ∀ q ∈ X.pn ++ pins, q.1 < sc.heap.objs.size := fun q hq => Heap.lt_size (I1.pin q hq).1
  have hSp : ∀ q ∈ X.pn ++ (pins ++ [(a, go)]), q.1 ≠ s.heap.objs.size := fun q hq z => by
    have lt : q.1 < s.heap.objs.size := by
      rcases List.mem_append.mp hq with hq | hq
      · exact Nat.lt_of_lt_of_le (old q (List.mem_append_left _ hq)) hsc
      · rcases List.mem_append.mp hq with hq | hq
        · exact Nat.lt_of_lt_of_le (old q (List.mem_append_right _ hq)) hsc
        · rw [List.mem_singleton.mp hq]
          exact Heap.lt_size ha2
    rw [z] at lt
    exact absurd lt (Nat.lt_irrefl _)
  have hF : OwFar X ⟨X.prog, X.w, X.base, frs X.stack, D, sc, n, item⟩ ((pins ++ [(a, go)]) ++ [(s.heap.objs.size, lstObj #[] cc)]) ow := fun q hq => by
    obtain ⟨r1, r2, r3, r4⟩ := how q hq
    refine ⟨r2, fun q' hq' z => ?_⟩
    have far : ∀ q'' ∈ X.pn ++ pins, q''.1 ≠ q.1 := fun q'' hq'' z => by
      have lt := old q'' hq''
      rw [z] at lt
      exact absurd (Nat.lt_of_lt_of_le lt r2) (Nat.lt_irrefl _)
    rcases List.mem_append.mp hq' with hq' | hq'
    · exact far q' (List.mem_append_left _ hq') z
    · rcases List.mem_append.mp hq' with hq' | hq'
      · rcases List.mem_append.mp hq' with hq' | hq'
        · exact far q' (List.mem_append_right _ hq') z
        · rw [List.mem_singleton.mp hq'] at z
          exact r3 z.symm
      · rw [List.mem_singleton.mp hq'] at z
        have lt := Heap.lt_size r1
        rw [← z] at lt
        exact absurd lt (Nat.lt_irrefl _)
  have nofs : s.heap.objs.size ∉ frs X.stack := fun hm => by
    rcases List.mem_cons.mp (I1.stkSub _ hm) with z | z
    · exact (Wk.young hsc).2.1 z
    · exact (Wk.young hsc).2.2.2 z
  refine drainW (A := X.A.in1) (res := .none) (σ := σ) (H1 := H1) (go := go) (g := g) Wk hr.hd hr.depth hgo (List.mem_append_right _ List.mem_cons_self) hsc hSp nofs hn hmono (fun s' xs H' acc c' I' sm hl' hit' hS' hv' hHS => ⟨rfl, ?_⟩) n 0 ow s5 H1 [] #[] cc (.fresh c) (Nat.add_zero _) I6 (fun _ _ q => q) hE rfl (fun i x hx => (by simp at hx)) .nil hF
    (fun b o hb q => ⟨o.slots, k5 b o (hkp b o q)⟩) (by rw [g5]; exact hgs) ?_
  · exact wake X.A.in1.in1.in1 (s5.setGen g .running) (hr.in1.in1.in1) I1.ok.frames k5 (by rw [show (s5.setGen g .running).os = s5.os from rfl, o5]; exact hos) (allBare_setGen (by rw [g5]; exact hba) rfl)
  · refine ⟨.ref s.heap.objs.size, upd H' s.heap.objs.size (.lst xs), ?_, rfl, k1 xs H' hl' sm hit' _ hHS⟩
    obtain ⟨z1, z2, z3, z4⟩ := Wk.young hsc
    have J := I'.pins_of (pins' := pins) fun q hq => I'.pin q (List.mem_append_right _ (List.mem_append_left _ hq))
    have nS : ∀ b o, H' b = some o → b ≠ s.heap.objs.size := fun b o q z => by rw [z, hHS] at q; cases q
    have sm' : Same H' (upd H' s.heap.objs.size (.lst xs)) := fun b o q => by rw [upd_ne (nS b o q)]; exact q
    refine J.call' (ch := [s.heap.objs.size]) rfl ⟨fun _ _ q _ _ _ => q, fun b o q _ _ _ => ⟨o.slots, q⟩, fun b o q r hb => ?_, fun b o q _ => ⟨o, q⟩, fun b ys q => sm' b _ q, fun b o u q => sm' b _ q, fun b ys q => ⟨#[], by rw [sm' b _ q]; simp⟩⟩ (fun b o q => ?_) J.bare fun b hb => ?_
    · rw [upd_ne (fun z => hb (by rw [z]; exact List.mem_cons_self))]
      exact r
    · by_cases hb : b = s.heap.objs.size
      · rw [hb, upd_same] at q
        cases q
        rw [hb]
        exact ⟨by rw [hl']; exact hn, acc.toList, c', hv', by rw [Array.toArray_toList]; exact hS'⟩
      · rw [upd_ne hb] at q
        exact (J.hok b o q).stay (fun _ _ _ z => z) (fun d z => sm' d _ z) fun d ys z => sm' d _ z
    · rw [List.mem_singleton.mp hb]
      exact ⟨.inr z1, z2, z3, fun q hq => hSp q (by
        rcases List.mem_append.mp hq with hq | hq
        · exact List.mem_append_left _ hq
        · exact List.mem_append_right _ (List.mem_append_left _ hq))⟩
end L2
set_option maxRecDepth 100000
set_option maxHeartbeats 2000000
namespace L2
open PySem PySem.Spec PyProof.Rows GenW GenF
/-! ### a generator of the program's at a comprehension's head: the block comes behind the generator; dd the list that is filled -/
structure WalkB (X : Cx) (G : GPar) (dd : Addr) : Prop where
  eP : X.prog = G.P
  ew : X.w = G.w
  eb : X.base = G.base
  ef : frs X.stack = G.fs
  dat : DataHp G.D
  os : G.sc.os = X.s_0.os
  yg : ∀ b, G.sc.heap.objs.size ≤ b → b ≠ dd → b ∈ X.ex ∨ X.s_0.heap.objs.size ≤ b
  slt : ∀ b o, b ∈ G.fs → G.sc.heap.get? b = some o → ∃ sl, X.s_0.heap.get? b = some { o with slots := sl }
def Far (X : Cx) (b : Addr) : Prop := b ≠ X.env.locals ∧ (∀ x c, X.env.cells.lookup x = some c → c ≠ b) ∧ b ∉ X.fs
def OwB (X : Cx) (G : GPar) (p0 ow : List (Addr × Obj)) : Prop := ∀ q ∈ ow, G.sc.heap.objs.size ≤ q.1 ∧ Far X q.1 ∧ ∀ p ∈ X.pn ++ p0, p.1 ≠ q.1
theorem fresh_far {X : Cx} {p0 : List (Addr × Obj)} {σ : L2.St} {H : Hp} {s : Shared} {b : Addr} (hfs : frs X.stack = X.fs) (I : Inv X p0 σ H s) (e : s.heap.get? b = none) : Far X b := by
  refine ⟨fun z => ?_, fun x c hc z => ?_, fun hb => ?_⟩
  · obtain ⟨_, ⟨o, _, _, ho, _⟩, _⟩ := I.loc
    rw [z, ho] at e
    cases e
  · obtain ⟨v, o, ho, _⟩ := I.cell x c hc
    rw [← z, ho] at e
    cases e
  · obtain ⟨_, o0, e0, _⟩ := I.ok.funs.mem hb
    obtain ⟨sl, q⟩ := I.base.slot b o0 e0 (I.ok.frf b hb) hb fun z => I.ok.exfs b z hb
    rw [q] at e
    cases e
theorem wk_ofB {B : Cx} {G : GPar} {dd : Addr} {p0 ow : List (Addr × Obj)} {σ : L2.St} {H : Hp} {s s' : Shared} (W : WalkB B G dd) (hfs : frs B.stack = B.fs) (I : Inv B (p0 ++ ow) σ H s) (hE : ExtH G.D H) (hh : s'.heap = s.heap) (ho : s'.os = s.os) (hb : AllBare s'.gens) : WkOk G ow s' := by
  refine ⟨by rw [ho, I.os, W.os], hb, fun b o e => by rw [hh]; exact I.bk b o (by rw [W.eb]; exact e), fun b o hf e => ?_, fun b o e => ?_, fun p hp => by rw [hh]; exact (I.pin p (List.mem_append_right _ (List.mem_append_right _ hp))).1⟩
  · have hf' : b ∈ B.fs := by rw [← hfs, W.ef]; exact hf
    obtain ⟨sl1, q1⟩ := W.slt b o hf e
    obtain ⟨sl2, q2⟩ := I.base.slot b _ q1 (I.ok.frf b hf') hf' fun z => I.ok.exfs b z hf'
    exact ⟨sl2, by rw [hh]; exact q2⟩
  · rw [hh, ← W.eP, ← W.ew]
    exact obj_flat (W.dat b o e) (I.hok b o (hE b o e))
theorem tookB {X : Cx} {G : GPar} {dd : Addr} {p0 ow ow' : List (Addr × Obj)} {σ : L2.St} {H Hn : Hp} {s s1 s2 : Shared} (W : WalkB X G dd) (hfs : frs X.stack = X.fs) (hdd : H dd ≠ none) (I : Inv X (p0 ++ ow) σ H s) (hE : ExtH G.D H) (hF : OwB X G p0 ow) {sw : Shared} (hsw : sw.heap = s.heap)
    (K1 : Kp G ow ow' sw s1) (hn : ∀ b xs, s.heap.get? b = none → Hn b = some (.tup xs) → ObjOk G.P G.w Hn s1.heap b (.tup xs) ∧ ∀ p ∈ ow', p.1 ≠ b) (h2 : ∀ b o, s1.heap.get? b = some o → s2.heap.get? b = some o) (os2 : s2.os = s1.os) (bare2 : AllBare s2.gens) :
    Inv X (p0 ++ ow') σ (glue H Hn s.heap) s2 ∧ OwB X G p0 ow' := by
  have own0 : ∀ q ∈ ow, H q.1 = none := fun q hq => (I.pin q (List.mem_append_right _ (List.mem_append_right _ hq))).2.1
  have keep1 : ∀ b o, s.heap.get? b = some o → (∀ p ∈ ow, p.1 ≠ b) → b ∉ G.fs → G.D b = none → s1.heap.get? b = some o := fun b o e => K1.keep b o (by rw [hsw]; exact e)
  have trk : ∀ b o, H b = some o → (∀ p ∈ ow, p.1 ≠ b) ∧ b ∉ G.fs := fun b o e => ⟨fun p hp z => (by rw [← z, own0 p hp] at e; cases e), fun z => (by rw [← W.ef] at z; rw [I.stkFree b z] at e; cases e)⟩
  have bse : ∀ c u, H c = some u → G.D c = none → ∀ o, s.heap.get? c = some o → s2.heap.get? c = some o := fun c u e d o q => h2 c o (keep1 c o q (trk c u e).1 (trk c u e).2 d)
  have sm : Same H (glue H Hn s.heap) := fun b o e => glue_old e
  have hok : HOk X.prog X.w (glue H Hn s.heap) s2.heap := fun b o e => by
    rcases glue_cases e with z | ⟨z1, z2, xs, z3, rfl⟩
    · cases d : G.D b with
      | some o' =>
        have e1 := hE b o' d
        rw [z] at e1
        cases e1
        have q := K1.data b o d
        rw [W.eP, W.ew]
        rcases W.dat b o d with ⟨xs, rfl⟩ | ⟨xs, rfl⟩
        · obtain ⟨q1, its, rv, ob, ho, c⟩ := q
          exact ⟨q1, its, rv, ob, h2 _ _ ho, c⟩
        · obtain ⟨q1, its, m, rv, ho⟩ := q
          exact ⟨q1, its, m, rv, h2 _ _ ho⟩
      | none =>
        refine (I.hok b o z).stay (fun c u hc q => ?_) (fun c q => sm c _ q) fun c xs q => sm c _ q
        rcases hc with rfl | hc
        · exact bse c o z d u q
        · refine bse c _ hc ?_ u q
          cases d2 : G.D c with
          | none => rfl
          | some o' =>
            have e1 := hE c o' d2
            rw [hc] at e1
            rcases W.dat c o' d2 with ⟨xs, r⟩ | ⟨xs, r⟩ <;> (rw [r] at e1; cases e1)
    · have q := (hn b xs z2 z3).1
      rw [← W.eP, ← W.ew] at q
      obtain ⟨q1, its, rv, ob, ho, c⟩ := q
      exact ⟨q1, its, rv, ob, h2 _ _ ho, c⟩
  have I0 : Inv X p0 σ H s := I.unpinned
  have I1 : Inv X p0 σ (glue H Hn s.heap) s2 := by
    refine I0.call' (ch := ow.map (·.1)) ?_ ⟨fun b o e n hf hc => ?_, fun b o e n hf hc => ?_, fun b o e n _ => by rw [glue_there e]; exact n, fun b o e hc => ?_, fun b xs e => sm b _ e, fun b o u e => sm b _ e, fun b ps e => ⟨#[], by rw [sm b _ e]; simp⟩⟩ hok bare2 fun b hb => ?_
    · rw [os2, K1.os, W.os, I.os]
    · rw [W.ef] at hf
      refine h2 b o (keep1 b o e (fun p hp z => hc (List.mem_map.mpr ⟨p, hp, z⟩)) hf ?_)
      cases d : G.D b with
      | none => rfl
      | some o' => rw [hE b o' d] at n; cases n
    · rw [W.ef] at hf
      obtain ⟨sl, q⟩ := K1.slot b o hf (by rw [hsw]; exact e)
      exact ⟨sl, h2 b _ q⟩
    · by_cases hf : b ∈ G.fs
      · obtain ⟨sl, q⟩ := K1.slot b o hf (by rw [hsw]; exact e)
        exact ⟨_, h2 b _ q⟩
      · cases d : G.D b with
        | none => exact ⟨o, h2 b o (keep1 b o e (fun p hp z => hc (List.mem_map.mpr ⟨p, hp, z⟩)) hf d)⟩
        | some o' =>
          obtain ⟨u, q⟩ := tup_there (W.dat b o' d) (K1.data b o' d)
          exact ⟨u, h2 b u q⟩
    · obtain ⟨q, hq, rfl⟩ := List.mem_map.mp hb
      obtain ⟨f1, ⟨y2, y3, _⟩, f2⟩ := hF q hq
      exact ⟨W.yg q.1 f1 (fun z => hdd (by rw [← z]; exact own0 q hq)), y2, y3, f2⟩
  have far : OwB X G p0 ow' := fun q hq => by
    obtain ⟨k1, k2, k3, k4⟩ := K1.own q hq
    rcases k4 with ⟨q', hq', e⟩ | e
    · obtain ⟨_, y, f⟩ := hF q' hq'
      rw [e] at y f
      exact ⟨k2, y, f⟩
    · rw [hsw] at e
      refine ⟨k2, fresh_far hfs I0 e, fun p hp z => ?_⟩
      rw [← z, (I0.pin p hp).1] at e
      cases e
  refine ⟨I1.pins_of fun p hp => ?_, far⟩
  rcases List.mem_append.mp hp with hp | hp
  · exact I1.pin p (List.mem_append_right _ hp)
  · obtain ⟨k1, k2, k3, k4⟩ := K1.own p hp
    obtain ⟨_, ⟨y2, y3, y4⟩, _⟩ := far p hp
    refine ⟨h2 _ _ k1, ?_, y2, y4, k3⟩
    rcases k4 with ⟨q', hq', e⟩ | e
    · have ex := (I.pin q' (List.mem_append_right _ (List.mem_append_right _ hq'))).1
      rw [← e, glue_there ex]
      exact own0 q' hq'
    · rw [hsw] at e
      cases z : glue H Hn s.heap p.1 with
      | none => rfl
      | some o =>
        rcases glue_cases z with z1 | ⟨_, _, xs, z3, _⟩
        · exact absurd e (by
            intro e
            have lt := I.hok p.1 o z1
            by_cases hd : ∃ u, s.heap.get? p.1 = some u
            · obtain ⟨u, hu⟩ := hd
              rw [e] at hu; cases hu
            · have : ∃ u, s.heap.get? p.1 = some u := by
                cases o with
                | lst xs => exact tup_there (.inr ⟨_, rfl⟩) lt
                | tup xs => exact tup_there (.inl ⟨_, rfl⟩) lt
                | dK kvs => obtain ⟨_, _, _, _, o, _, _, e, _⟩ := lt; exact ⟨_, e⟩
                | dT kvs => obtain ⟨_, _, _, _, o, _, _, e, _⟩ := lt; exact ⟨_, e⟩
                | set S n => obtain ⟨o, _, _, _, e, _⟩ := lt; exact ⟨_, e⟩
                | ins C dx fs => obtain ⟨_, _, _, e, _⟩ := lt; exact ⟨_, e⟩
                | own y => obtain ⟨_, e⟩ := lt; exact ⟨_, e⟩
                | xd fs => obtain ⟨_, ⟨_, _, _, e, _⟩, _⟩ := lt; exact ⟨_, e⟩
                | rng lo hi => obtain ⟨_, _, _, e⟩ := lt; exact ⟨_, e⟩
                | frz ob u => obtain ⟨e, _⟩ := lt; exact ⟨_, e⟩
                | tbl ps => exact ⟨_, lt⟩
                | met f y => exact ⟨_, lt⟩
                | ext φ => obtain ⟨_, ⟨_, e⟩, _⟩ := lt; exact ⟨_, e⟩
              exact hd this)
        · exact absurd rfl ((hn p.1 xs e z3).2 p hp)
section
variable {B : Cx} {G : GPar} {p0 : List (Addr × Obj)} {elt tg1 iter1 : Expr} {ifs1 : List Expr} {scope : Scope} {pos : Pos} {g1 : TG} {tt1 : TT} {te : TE} {σ : L2.St} {vs1 : List Nat} {D a : Addr} {g : Nat} {go : Obj}
/-- the turns of a comprehension's first clause over a generator -/
theorem head_gen (W : WalkB B G D) (hfs : frs B.stack = B.fs) (hxe : B.xe = fun _ _ => False) (hh : B.A.handled = none) (hd : B.A.depth < recursionLimit) (hg1 : PG B tg1 g1) (ht1 : PTs B ifs1 tt1) (he : PE B elt te)
    (hgo : ∀ h : Heap, h.get? a = some go → h.IsGen a g) (ha : (a, go) ∈ p0) (Pv : Nat → Hp → Prop) (hPD : ∀ j H, Pv j H → ExtH G.D H) (hPd : ∀ j H, Pv j H → H D ≠ none) {R : Result → Shared → Prop}
    (step : ∀ j, j < G.N → ∀ H, Pv j H → ∀ x H', Same H H' → G.item j x H' → g1 x (wipe σ vs1) H' fun σ3 H5 => wipe σ3 vs1 = wipe σ vs1 ∧ tt1 σ3 H5 fun b H6 =>
      if b = true then te σ3 H6 fun y H7 => ∃ acc, H7 D = some (.lst acc) ∧ acc.length < sizeLine ∧ Pv (j + 1) (upd H7 D (.lst (acc ++ [y]))) else Pv (j + 1) H6)
    (fin : ∀ s' H', Inv B p0 (wipe σ vs1) H' s' → Pv G.N H' → R (.ok .next) s') {ow : List (Addr × Obj)} {gs : GenState} {H : Hp} {s : Shared} (I : Inv B (p0 ++ ow) (wipe σ vs1) H s) (h0 : Pv 0 H) (hF : OwB B G p0 ow) (hgs : s.gens[g]? = some gs)
    (hw : Wake (model G.P G.w) B.A.in1 gs (s.setGen g .running) (PhOf B.A.in1 G G.N ow (s.setGen g .running))) :
    codeAny (model B.prog B.w) B.A (.compLoop (.ListComp elt [⟨tg1, iter1, ifs1, 0⟩] scope pos) 0 (.ref a) (.ref D) B.env) R s := by
  have xf : ∀ {x : Value} {s' : Shared}, B.xe x s' → False := fun {x s'} h => by rw [hxe] at h; exact h
  refine compLoop_any (fun n s' => ∃ (j : Nat) (ow : List (Addr × Obj)) (gs : GenState) (H : Hp), n + j = G.N ∧ Inv B (p0 ++ ow) (wipe σ vs1) H s' ∧ Pv j H ∧ OwB B G p0 ow ∧ s'.gens[g]? = some gs ∧ Wake (model G.P G.w) B.A.in1 gs (s'.setGen g .running) (PhOf B.A.in1 G n ow (s'.setGen g .running))) ?_ G.N
    ⟨0, ow, gs, H, Nat.add_zero _, I, h0, hF, hgs, hw⟩
  clear I h0 hF hgs hw
  rintro n s ⟨j, ow, gs, H, hj, I, hP, hF, hgs, hw⟩
  have hlt : g < s.gens.size := (Array.getElem?_eq_some_iff.mp hgs).1
  have hpa := (I.pin (a, go) (List.mem_append_right _ (List.mem_append_left _ ha))).1
  cases n with
  | zero =>
    refine next_gen (Y := fun _ _ _ => False) (Z := fun s' => Kp G ow [] (s.setGen g .running) s') hh I.nolimit hd (hgo _ hpa) hgs (by rw [W.eP, W.ew]; exact hw) (fun _ _ _ _ _ z => z.elim) fun s1 K1 h' hk => ?_
    have ej : j = G.N := by omega
    obtain ⟨I1, _⟩ := tookB (Hn := fun _ => none) (s2 := { s1.setGen g .finished with heap := h' }) W hfs (hPd j H hP) I (hPD j H hP) hF (show (s.setGen g .running).heap = s.heap from rfl) K1 (fun b xs _ hq => (by cases hq)) hk rfl (allBare_setGen K1.bare rfl)
    rw [glue_none, List.append_nil] at I1
    rw [ej] at hP
    exact fin _ H I1 hP
  | succ m =>
    refine wpAny_gsz (n := g + 1) hlt (next_gen (Y := fun v gs' s' => ∃ ow' y Hn, Kp G ow ow' (s.setGen g .running) s' ∧ Gave G (G.N - (m + 1)) ow' (s.setGen g .running) v s' Hn y ∧ Live B.A.in1 G m ow' gs') (Z := fun _ => False) hh I.nolimit hd (hgo _ hpa) hgs (by rw [W.eP, W.ew]; exact hw)
      (fun v gs' s1 hsus hbare ⟨ow', y, Hn, K1, Gv, lv⟩ => ?_) fun _ z => z.elim)
    intro hsz
    have ej : G.N - (m + 1) = j := by omega
    rw [ej] at Gv
    obtain ⟨I2, F2⟩ := tookB (s2 := s1.setGen g gs') W hfs (hPd j H hP) I (hPD j H hP) hF (show (s.setGen g .running).heap = s.heap from rfl) K1 (fun b xs hb hq => Gv.new b xs hb hq) (fun _ _ q => q) rfl (allBare_setGen K1.bare hbare)
    have g2 : (s1.setGen g gs').gens[g]? = some gs' := setGen_at (by rw [setGen_size] at hsz; omega)
    have sm : Same H (glue H Hn s.heap) := fun b o e => glue_old e
    have hE2 : ExtH G.D (glue H Hn s.heap) := fun b o e => glue_old (hPD j H hP b o e)
    have it2 : G.item j y (glue H Hn s.heap) := Gv.item _ hE2 fun b xs hb hq => by
      refine glue_new ?_ hb hq
      cases z : H b with
      | none => rfl
      | some o =>
        obtain ⟨u, q⟩ := objU_there (I.hok b o z)
        have hb' : s.heap.get? b = none := hb
        rw [hb'] at q
        cases q
    have st := step j (by omega) H hP y _ sm it2
    have hpa2 := (I2.pin (a, go) (List.mem_append_right _ (List.mem_append_left _ ha))).1
    obtain ⟨ob, nm, qn, hob, hoc, hod, _⟩ := hgo _ hpa2
    refine go_of hob hoc hod (by decide) ?_
    refine asleep (wpAny_mono (hg1.run _ (iceS (s1.setGen g gs')) (wipe σ vs1) _ y v _ I2.iced Gv.rel st) (fun _ _ h => h) fun _ _ z => xf z) fun _ a3 ⟨σ3, H3, I3, e3, q3⟩ l3 => ?_
    have I3' := I3.melted I2.bare
    have g3 := l3 g gs' g2 hsus
    generalize meltS (s1.setGen g gs').gens a3 = s3 at I3' g3
    refine asleep (wpAny_mono (ht1.run _ (iceS s3) σ3 H3 _ I3'.iced q3) (fun _ _ h => h) fun _ _ z => xf z) fun b a4 ⟨H4, I4, q4⟩ l4 => ?_
    have I4' := I4.melted I3'.bare
    have g4 := l4 g gs' g3 hsus
    generalize meltS s3.gens a4 = s4 at I4' g4
    have again : ∀ {s' : Shared} {H' : Hp}, Inv B (p0 ++ ow') σ3 H' s' → s'.gens[g]? = some gs' → Pv (j + 1) H' → ∃ n', n' < m + 1 ∧ ∃ (j : Nat) (ow : List (Addr × Obj)) (gs : GenState) (H : Hp), n' + j = G.N ∧ Inv B (p0 ++ ow) (wipe σ vs1) H s' ∧ Pv j H ∧ OwB B G p0 ow ∧ s'.gens[g]? = some gs ∧
        Wake (model G.P G.w) B.A.in1 gs (s'.setGen g .running) (PhOf B.A.in1 G n' ow (s'.setGen g .running)) := fun {s' H'} I' g' p' => by
      refine ⟨m, Nat.lt_succ_self m, j + 1, ow', gs', H', by omega, I'.weak (by rw [← e3, wipe_length]) (fun i u q => by rw [← e3] at q; exact (wipe_some q).1), p', F2, g', ?_⟩
      exact live_iff.mp lv _ (wk_ofB W hfs I' (hPD _ _ p') rfl rfl (allBare_setGen I'.bare rfl))
    cases b with
    | false =>
      simp only [Bool.false_eq_true, if_false] at q4 ⊢
      exact again I4' g4 q4
    | true =>
      simp only [if_true] at q4 ⊢
      refine asleep (wpAny_mono (he.run _ (iceS s4) σ3 H4 _ I4'.iced q4) (fun _ _ h => h) fun _ _ z => xf z) fun z a5 ⟨yv, H5, I5, r5, acc, hD5, hz5, nx⟩ l5 => ?_
      have I5' := I5.melted I4'.bare
      have g5 := l5 g gs' g4 hsus
      generalize meltS s4.gens a5 = s5 at I5' g5
      refine asleep (R := fun _ b => Inv B (p0 ++ ow') σ3 (upd H5 D (.lst (acc ++ [yv]))) b) (app_ok (X := B) I5'.iced hD5 hz5 r5 fun s6 I6 => I6) fun _ a6 I6 l6 => ?_
      exact again (I6.melted I5'.bare) (l6 g gs' g5 hsus) nx
end
end L2
set_option maxRecDepth 100000
set_option maxHeartbeats 2000000
namespace L2
open PySem PySem.Spec PyProof.Rows GenW GenF
/-- [elt for tg in f(..) if ..], f a generator def -/
def tLcW (tw : TW) (g : TG) (tt : TT) (te : TE) (vs : List Nat) : TE := fun σ H Q => tw σ H fun H1 Dd n item => ∀ D, H1 D = none → ∃ Pv : Nat → Hp → Prop, Pv 0 (upd H1 D (.lst [])) ∧ (∀ H, Pv n H → Q (.ref D) H) ∧ (∀ j H, Pv j H → ExtH Dd H) ∧ (∀ j H, Pv j H → H D ≠ none) ∧
  ∀ j, j < n → ∀ H, Pv j H → ∀ x H', Same H H' → item j x H' → g x (wipe σ vs) H' fun σ3 H5 => wipe σ3 vs = wipe σ vs ∧ tt σ3 H5 fun b H6 => if b = true then te σ3 H6 fun y H7 => ∃ acc, H7 D = some (.lst acc) ∧ acc.length < sizeLine ∧ Pv (j + 1) (upd H7 D (.lst (acc ++ [y]))) else Pv (j + 1) H6
section
variable {X : Cx} {elt tg iter : Expr} {ifs : List Expr} {scope : Scope} {own : List (Str × Nat)} {pos : Pos} {g0 : TG} {tt : TT} {tw : TW} {te : TE} {k : Nat}
theorem pe_lcW (hc : X.calm = true) (hN : X.N.Nodup) (hr : Room (k + 1) X.A) (hi : PGW X k iter tw) (ok : BlkOk X.N X.env.scope scope own)
    (bg : ∀ s H C cl fp, PG (X.blk s H scope (compEnvC scope cl C X.env) fp) tg g0) (bt : ∀ s H C cl fp, PTs (X.blk s H scope (compEnvC scope cl C X.env) fp) ifs tt) (be : ∀ s H C cl fp, PE (X.blk s H scope (compEnvC scope cl C X.env) fp) elt te)
    (hs : ∀ x, foldedSetIterable iter X.env x = pure x := by intro _; rfl) :
    PE X (.ListComp elt [⟨tg, iter, ifs, 0⟩] scope pos) (tLcW tw g0 tt te (own.map (·.2))) := by
  refine ⟨fun pins sa σ Ha Q Ia hq => ?_⟩
  rw [eval_ListComp]
  have clo : ∀ y ∈ scope.names, y.2 = .free → ∃ c, X.env.cells.lookup y.1 = some c := fun y hy e => (ok.free y hy e).elim (fun z => Ia.ok.has _ (.inl z)) fun z => Ia.ok.has _ (.inr z)
  refine wpAny_comprehension_free (use := none) rfl hs (closure_ok clo) ok.kind (fun y hy e => (ok.uniq y hy).trans (congrArg some e)) (thn (hi.run pins sa σ Ha _ Ia hq) fun u sd ⟨Hd, sc, Dd, n, item, Ic, hE, hDd, M, rest⟩ => ?_)
  obtain ⟨a, g, c, go, ow, rfl, ha1, ha2, hgo, hgc, hgs, hos, hba, hkp, how, wake⟩ := M
  have Id : Inv X pins σ Hd sd := Ic.call' (ch := []) hos (Un.kept hkp) (Ic.hok.kept hkp) hba fun b z => (by cases z)
  refine wpAny_pyIter_gen (hgo _ ha2) ?_
  refine wpAny_newObj_type (newEnv_comp ?_) (by show 0 ≤ sizeLine; decide)
  generalize edd : sd.heap.objs.size = dd
  have hdd : Hd dd = none := Id.hok.fresh (by omega)
  obtain ⟨Pv, p0, p1, p2, p3, p4⟩ := rest dd hdd
  generalize ese : ({ sd with heap := sd.heap.push { cls := .type "list", data := .seq ([] : List Value).toArray } } : Shared) = se
  have he : se.heap = sd.heap.push { cls := .type "list", data := .seq ([] : List Value).toArray } := by rw [← ese]
  have hes : se.os = sd.os := by rw [← ese]
  have heg : se.gens = sd.gens := by rw [← ese]
  have Ie : Inv X pins σ (upd Hd dd (.lst [])) se := by
    rw [← ese]
    refine Id.laid (t' := sd.toks) (fun _ _ q => Heap.get?_push_of_some _ q) (by omega) ⟨Nat.zero_le _, [], 0, .nil, ?_⟩
    rw [← edd]
    exact Heap.get?_push_size _ rfl
  have ke : ∀ b o, sd.heap.get? b = some o → se.heap.get? b = some o := fun b o q => by rw [he]; exact Heap.get?_push_of_some _ q
  have hsz : se.heap.objs.size = sd.heap.objs.size + 1 := by rw [he, Heap.size_push]
  have old : ∀ b o, sd.heap.get? b = some o → b < dd := fun b o q => by rw [← edd]; exact Heap.lt_size q
  generalize efp : (List.range se.heap.objs.size).filter (fun b => decide (sc.heap.objs.size ≤ b ∧ b ≠ dd)) = fp
  have memfp : ∀ b, b ∈ fp ↔ b < se.heap.objs.size ∧ sc.heap.objs.size ≤ b ∧ b ≠ dd := fun b => by
    rw [← efp, List.mem_filter, List.mem_range, decide_eq_true_iff]
  have fe : ∀ b ∈ fp, FpOk X pins (upd Hd dd (.lst [])) b ∧ b < se.heap.objs.size := fun b hb => by
    obtain ⟨h1, h2, h3⟩ := (memfp b).mp hb
    exact ⟨Ic.fpOk h2 ((upd_ne h3).trans (Ic.hok.fresh h2)), h1⟩
  have Ib := block_start Ie ok hN fe
  have xg := bg se (upd Hd dd (.lst [])) se.heap.objs.size (cellsFrom (se.heap.objs.size + 1) scope.names (cloFrom X.env.cells scope.names [])) fp
  have xt := bt se (upd Hd dd (.lst [])) se.heap.objs.size (cellsFrom (se.heap.objs.size + 1) scope.names (cloFrom X.env.cells scope.names [])) fp
  have xe := be se (upd Hd dd (.lst [])) se.heap.objs.size (cellsFrom (se.heap.objs.size + 1) scope.names (cloFrom X.env.cells scope.names [])) fp
  show codeAny _ _ (.compStart _ 0 (.ref a) (.ref dd) (compEnvC scope (cellsFrom (se.heap.objs.size + 1) scope.names (cloFrom X.env.cells scope.names [])) se.heap.objs.size X.env)) _ { se with heap := pushCells (se.heap.push { cls := .type "dict", data := .dict #[] }) scope.names }
  generalize ece : compEnvC scope (cellsFrom (se.heap.objs.size + 1) scope.names (cloFrom X.env.cells scope.names [])) se.heap.objs.size X.env = ce at Ib xg xt xe ⊢
  have lce : ce.locals = se.heap.objs.size := by subst ece; rfl
  generalize eHe : upd Hd dd (.lst []) = He at Ie Ib xg xt xe p0 fe
  have kf : ∀ b o, se.heap.get? b = some o → (pushCells (se.heap.push { cls := .type "dict", data := .dict #[] }) scope.names).get? b = some o := fun b o q => pushCells_keeps _ _ _ _ (Heap.get?_push_of_some _ q)
  generalize esf : ({ se with heap := pushCells (se.heap.push { cls := .type "dict", data := .dict #[] }) scope.names } : Shared) = sf at Ib ⊢
  have kf' : ∀ b o, sd.heap.get? b = some o → sf.heap.get? b = some o := fun b o q => by rw [← esf]; exact kf b o (ke b o q)
  have fos : sf.os = se.os := by rw [← esf]
  have fgs : sf.gens = se.gens := by rw [← esf]
  have heN : ∀ b o, sd.heap.get? b = some o → sc.heap.objs.size ≤ b → He b = none := fun b o q h => by
    rw [← eHe, upd_ne (Nat.ne_of_lt (old b o q))]
    exact Ic.hok.fresh h
  have nofs : ∀ b, sc.heap.objs.size ≤ b → b ∉ frs X.stack := fun b h hm => by
    rcases List.mem_cons.mp (Ic.stkSub _ hm) with z | z
    · exact Nat.ne_of_gt (Nat.lt_of_lt_of_le Ic.lt h) z
    · exact Ic.nofs h z
  have pinF : ∀ p : Addr × Obj, sd.heap.get? p.1 = some p.2 → sc.heap.objs.size ≤ p.1 → (∀ v, p.2.data ≠ .cell v) → sf.heap.get? p.1 = some p.2 ∧ He p.1 = none ∧ p.1 ≠ ce.locals ∧ p.1 ∉ frs X.stack ∧ ∀ v, p.2.data ≠ .cell v := fun p q1 q2 q3 =>
    ⟨kf' _ _ q1, heN _ _ q1 q2, fun z => Nat.ne_of_lt (Heap.lt_size (ke _ _ q1)) (z.trans lce), nofs _ q2, q3⟩
  have Ip : Inv (X.blk se He scope ce fp) ([(a, go)] ++ ow) (wipe σ (own.map (·.2))) He sf := Ib.pins_of fun p hp => by
    rcases List.mem_append.mp hp with hp | hp
    · rw [List.mem_singleton.mp hp]
      exact pinF (a, go) ha2 ha1 hgc
    · obtain ⟨q1, q2, _, q4⟩ := how p hp
      exact pinF p q1 q2 q4
  have Wk : WalkB (X.blk se He scope ce fp) ⟨X.prog, X.w, X.base, frs X.stack, Dd, sc, n, item⟩ dd := by
    refine ⟨rfl, rfl, rfl, rfl, hDd, ?_, fun b h1 h2 => ?_, fun b o h1 h2 => ⟨o.slots, ke _ _ (hkp b o h2)⟩⟩
    · show sc.os = se.os
      rw [hes, hos]
    · by_cases hb : b < se.heap.objs.size
      · exact .inl ((memfp b).mpr ⟨hb, h1, h2⟩)
      · exact .inr (Nat.le_of_not_lt hb)
  have hF : OwB (X.blk se He scope ce fp) ⟨X.prog, X.w, X.base, frs X.stack, Dd, sc, n, item⟩ [(a, go)] ow := fun q hq => by
    obtain ⟨q1, q2, q3, q4⟩ := how q hq
    obtain ⟨z1, z2, z3, z4, z5⟩ := pinF q q1 q2 q4
    refine ⟨q2, ⟨z3, fun x c hc z => ?_, z4⟩, fun p hp z => ?_⟩
    · obtain ⟨v, o, ho, hcl⟩ := Ib.cell x c hc
      rw [z, z1] at ho
      cases ho
      exact q4 v (by first | exact hcl | exact hcl.2 | exact hcl.1)
    · rcases List.mem_append.mp hp with hp | hp
      · cases hp
      · rw [List.mem_singleton.mp hp] at z
        exact q3 z.symm
  have hw := wake X.A.in1 (sf.setGen g .running) hr.in1 Ia.ok.frames kf' (by show sf.os = sc.os; rw [fos, hes, hos]) (allBare_setGen (by rw [fgs, heg]; exact hba) rfl)
  have loop : codeAny (model X.prog X.w) X.A (.compLoop (.ListComp elt [⟨tg, iter, ifs, 0⟩] scope pos) 0 (.ref a) (.ref dd) ce) (compPost (model X.prog X.w) X.A X.xe none (EP X pins σ Q) (.ref dd) se.heap.objs.size) sf := by
    refine head_gen (B := X.blk se He scope ce fp) (D := dd) (p0 := [(a, go)]) (σ := σ) (vs1 := own.map (·.2)) Wk rfl rfl hr.hd hr.depth xg xt xe hgo List.mem_cons_self Pv p2 p3 p4 (fun s6 H5 I5 hP => ?_) Ip p0 hF (by rw [fgs, heg]; exact hgs) hw
    have I6 : Inv (X.blk se He scope ce fp) [] (wipe σ (own.map (·.2))) H5 s6 := I5.pins_of fun p hp => (by cases hp)
    have I7 : Inv X pins σ H5 s6 := Ie.call' (ch := fp) I6.os I6.base I6.hok I6.bare fun b hb => let ⟨_, q1, _, q3, q4, q5⟩ := (fe b hb).1; ⟨q3, q1, q4, q5⟩
    have nC : H5 se.heap.objs.size = none := by
      have z := I6.free
      rw [show (X.blk se He scope ce fp).env.locals = se.heap.objs.size from lce] at z
      exact z
    obtain ⟨mp, hmp, _⟩ := I6.loc
    rw [show (X.blk se He scope ce fp).env.locals = se.heap.objs.size from lce] at hmp
    refine ⟨mp, hmp, fun h'' sb => ?_⟩
    obtain ⟨f0, f1, _, f3, f4, f5⟩ := Ie.fpOk (Nat.le_refl _) nC
    exact ⟨.ref dd, H5, I7.turned (t' := s6.toks) (fun b o hb q => (sb.2 b hb).trans q) f0 f1 f3 f4 f5, rfl, p1 H5 hP⟩
  exact codeAny_compStart_list loop (wpAny_pyIter_gen (hgo _ (kf' _ _ ha2)) loop)
end
end L2
set_option maxRecDepth 100000
set_option maxHeartbeats 4000000
namespace Pa
open PySem PySem.Spec PyProof.Rows L2
/-! ### calls of defs, by one fact each -/
/-- the module's name x holds a def that keeps the promise sp -/
structure CallOk (P : Program) (w : World) (K : PySem.W.Frag) (mg : Str → Option Value) (base : Heap) (k : Nat) (x : Str) (ps : List Str) (sp : Sp) : Prop where
  ok : ∃ (f : Addr) (fd : FuncData), mg x = some (.ref f) ∧ PySem.W.keepIn K (.ref f) = true ∧ Binds K fd ps [] ∧ FnOk P w K mg base CX0 k f fd ps sp
theorem CallOk.imp {P : Program} {w : World} {K : PySem.W.Frag} {mg : Str → Option Value} {base : Heap} {k : Nat} {x : Str} {ps : List Str} {sp sp' : Sp} (C : CallOk P w K mg base k x ps sp) (h : ∀ vs H Q E, sp' vs H Q E → sp vs H Q E) : CallOk P w K mg base k x ps sp' := by
  obtain ⟨f, fd, h1, h2, h3, h4⟩ := C.ok
  exact ⟨f, fd, h1, h2, h3, h4.imp h⟩
theorem call_ok {P : Program} {w : World} {K : PySem.W.Frag} {mg : Str → Option Value} {base : Heap} {k : Nat} {x : Str} {ps : List Str} {sp : Sp} {f : Addr} {fd : FuncData} (m : mg x = some (.ref f)) (kp : PySem.W.keepIn K (.ref f) = true) (b : Binds K fd ps []) (F : FnOk P w K mg base CX0 k f fd ps sp) :
    CallOk P w K mg base k x ps sp := ⟨f, fd, m, kp, b, F⟩
section
variable {X : Cx} {k : Nat} {ps : List Str} {sp : Sp} {x : Str} {p pos : Pos} {e : Expr} {es : List Expr} {t : TA}
theorem pe_cc (C : CallOk X.prog X.w X.K X.mg X.base k x ps sp) (hr : Room k X.A) (hg : Gl X x) (ha : PA X (e :: es) t) (hdb : (x == ("__debug__" : Str)) = false := by decide)
    (he : starEach (e :: es) X.env = (false, eval e X.env) :: starEach es X.env := by rfl) (hpl : (backTo pos (starEach es X.env)).any (·.1) = false := by rfl) : PE X (.Call (.Name x p) (e :: es) [] pos) (tCall sp [] E0 t) := by
  obtain ⟨f, fd, h1, h2, h3, h4⟩ := C.ok
  exact pe_call h4 hr hg h1 h2 h3 .nil pass0 ha hdb he hpl
theorem pe_cc0 (C : CallOk X.prog X.w X.K X.mg X.base k x ps sp) (hr : Room k X.A) (hg : Gl X x) (hdb : (x == ("__debug__" : Str)) = false := by decide) : PE X (.Call (.Name x p) [] [] pos) (tCall sp [] E0 tNil) := by
  obtain ⟨f, fd, h1, h2, h3, h4⟩ := C.ok
  exact pe_call0 h4 hr hg h1 h2 h3 .nil pass0 hdb
end
def topS (i : Nat) : Stmt := PySem.Challenge.pw_pressalike_k04_whole_outlines_put_otherw.main.body.getD i (.Pass ⟨0, 0, 0, 0⟩)
abbrev sBag : Stmt := topS 34
abbrev sDraw : Stmt := topS 35
theorem scBag : FnScope ["_law_script", "_law_at", "_law_great", "_law_mixed", "_law_place", "_law_cell"] ["_law_script", "_law_at"] (defScope sBag) := ⟨rfl, rfl, rfl, by decide +kernel, rfl, by decide +kernel, by decide +kernel⟩
theorem scDraw : FnScope ["_law_bag_here", "_law_many", "_law_digit"] ["_law_bag_here", "_law_many"] (defScope sDraw) := ⟨rfl, rfl, rfl, by decide +kernel, rfl, by decide +kernel, by decide +kernel⟩
theorem atI_ints {ns : List Int} {i : Int} (h0 : 0 ≤ i) (h : i < (ns.length : Int)) : ∃ z : Int, atI (ns.map V.int) i = some (.int z) := by
  obtain ⟨n, rfl⟩ : ∃ n : Nat, i = (n : Int) := ⟨i.toNat, by omega⟩
  have hn : n < ns.length := by omega
  exact ⟨ns[n], atI_nat (j := n) (by rw [List.getElem?_map, List.getElem?_eq_getElem hn]; rfl)⟩
theorem join1 {α : Type} {G : α → Prop} {T : Prop} (h : (∀ y, G y) → T) (g : ∀ y, G y) : T := h g
/-- a source of draws stands at b -/
def IsBag (H : Hp) (b : Addr) : Prop := ∃ g x c : Int, H b = some (.lst [.int g, .int x, .int c])
/-- at most the source at b has changed -/
structure Bk (b : Addr) (H H' : Hp) : Prop where
  bag : IsBag H' b
  keep : ∀ q o, q ≠ b → H q = some o → H' q = some o
theorem Bk.trans {b : Addr} {H H1 H2 : Hp} (x : Bk b H H1) (y : Bk b H1 H2) : Bk b H H2 := ⟨y.bag, fun q o hq e => y.keep q o hq (x.keep q o hq e)⟩
theorem Bk.seqL {K : PySem.W.Frag} {b p : Addr} {H H' : Hp} {xs : List V} (x : Bk b H H') (h : SqL K H p xs) (hp : p ≠ b) : SqL K H' p xs := by
  rcases h with (h | ⟨o, h⟩) | h
  · exact .inl (.inl (x.keep _ _ hp h))
  · exact .inl (.inr ⟨o, x.keep _ _ hp h⟩)
  · exact .inr h
theorem Bk.seqT {K : PySem.W.Frag} {b p : Addr} {H H' : Hp} {xs : List V} (x : Bk b H H') (h : SqT K H p xs) (hp : p ≠ b) : SqT K H' p xs := by
  rcases h with (h | ⟨o, h⟩) | h
  · exact .inl (.inl (x.keep _ _ hp h))
  · exact .inl (.inr ⟨o, x.keep _ _ hp h⟩)
  · exact .inr h
/-- a new object beside it -/
theorem Bk.fresh {b p : Addr} {H H' : Hp} {o : HO} (x : Bk b H H') (h : H' p = none) : Bk b H (upd H' p o) := by
  obtain ⟨⟨g, y, c, e⟩, kp⟩ := x
  exact ⟨⟨g, y, c, by rw [upd_ne (ne_of_none e h)]; exact e⟩, fun q u hq eq => by rw [upd_ne (ne_of_none (kp q u hq eq) h)]; exact kp q u hq eq⟩
theorem Bk.free {b p : Addr} {H H' : Hp} (x : Bk b H H') (hb : IsBag H b) (h : H' p = none) : H p = none := by
  cases e : H p with
  | none => rfl
  | some o =>
    by_cases q : p = b
    · obtain ⟨g, y, c, e2⟩ := x.bag
      rw [q, e2] at h
      cases h
    · rw [x.keep p o q e] at h
      cases h
def spDraw : Sp := fun vs H Q _ => ∃ (b : Addr) (m : Int), vs = [.ref b, .int m] ∧ IsBag H b ∧ 1 ≤ m ∧ m < 2 ^ 200 ∧
  ∀ (d : Int) (H' : Hp), 0 ≤ d → d < m → Bk b H H' → Q (.int d) H'
section
variable {P : Program} {w : World} {K : PySem.W.Frag} {mg : Str → Option Value} {base : Heap}
theorem ok_draw {f : Addr} {fd : FuncData} (F : Fun K "_law_draw" "_law_draw" sDraw f fd) (mi : mg "int" = none) : FnOk P w K mg base CX0 1 f fd ["_law_bag_here", "_law_many"] spDraw := by
  refine F.ok scDraw (fun vs H Q E h => ?_) (fun cdv A outer s H vs Q E hr h => ?_)
  · obtain ⟨b, m, rfl, _⟩ := h
    rfl
  · obtain ⟨b, m, rfl, ⟨g, x, c, hb⟩, h1, h2, k⟩ := h
    have nd := scDraw.nd
    refine ⟨_, pss_cons (ps_if (pt_cmpR op_gt (pe_ix ix_list (pv 0) pe_int (fun _ _ => rfl)) pe_int (nomark _))
        (pss_cons (ps_set (i := 2) nd rfl (.inl rfl) (pe_op op_mod (pe_callTy call_int1 (by rfl) mi (by decide +kernel) (pa_cons (pe_ix ix_list (pv 0) pe_int (fun _ _ => rfl)) pa_nil)) (pv 1)))
        (pss_cons (ps_asg (pe_op op_fdivW (pe_ix ix_list (pv 0) pe_int (fun _ _ => rfl)) (pv 1)) (pg_sub (pv 0) pe_int set_list))
        (pss_one (ps_ret (pv 2))))) pss_nil)
      (pss_cons (ps_asg (pe_op op_add (pe_ix ix_list (pv 0) pe_int (fun _ _ => rfl)) pe_int) (pg_sub (pv 0) pe_int set_list))
      (pss_cons (ps_asg (pe_op op_mod (pe_callTy call_int1 (by rfl) mi (by decide +kernel) (pa_cons (pe_op op_add (pe_op op_add (pe_op op_mul (pe_ix ix_list (pv 0) pe_int (fun _ _ => rfl)) pe_int) (pe_op op_mul pe_int (pe_ix ix_list (pv 0) pe_int (fun _ _ => rfl)))) pe_int) pa_nil)) pe_int) (pg_sub (pv 0) pe_int set_list))
      (pss_one (ps_ret (pe_op op_mod (pe_op op_fdiv (pe_callTy call_int1 (by rfl) mi (by decide +kernel) (pa_cons (pe_op op_mod (pe_callTy call_int1 (by rfl) mi (by decide +kernel) (pa_cons (pe_op op_add (pe_op op_mul (pe_ix ix_list (pv 0) pe_int (fun _ _ => rfl)) pe_int) (pe_op op_mul pe_int (pe_ix ix_list (pv 0) pe_int (fun _ _ => rfl)))) pa_nil)) pe_int) pa_nil)) pe_int) (pv 1)))))), ?_⟩
    have i0 : ∀ {z0 z1 z2 : V}, atI [z0, z1, z2] 0 = some z0 := fun {z0 z1 z2} => atI_nat (j := 0) rfl
    have i1 : ∀ {z0 z1 z2 : V}, atI [z0, z1, z2] 1 = some z1 := fun {z0 z1 z2} => atI_nat (j := 1) rfl
    have i2 : ∀ {z0 z1 z2 : V}, atI [z0, z1, z2] 2 = some z2 := fun {z0 z1 z2} => atI_nat (j := 2) rfl
    -- if bag[0] > 0
    refine ⟨_, rfl, b, _, _, _, rfl, rfl, SqL.of hb, i0, _, _, rfl, rfl, _, rfl, ite2 (fun hg => ?_) (fun hg => ?_)⟩
    · -- digit = int(bag[0]) % many; bag[0] = bag[0] // many; return digit
      refine ⟨_, rfl, b, _, _, _, rfl, rfl, SqL.of hb, i0, .inl ⟨_, rfl, _, rfl, _, _, rfl, rfl, (by show (0 : Int) < m; omega), ?_⟩⟩
      refine ⟨_, rfl, b, _, _, _, rfl, rfl, SqL.of hb, i0, _, rfl, _, _, rfl, rfl, wide_div (b := 200) (by omega) (by omega) (by decide) (by decide), ?_⟩
      refine ⟨_, rfl, b, _, _, 0, rfl, rfl, hb, rfl, ?_⟩
      refine ⟨_, rfl, k _ _ (Int.emod_nonneg _ (by omega)) (Int.emod_lt_of_pos _ (by omega)) ⟨⟨_, _, _, upd_same⟩, fun q o hq e => by rw [upd_ne hq]; exact e⟩⟩
    · refine ⟨_, rfl, b, _, _, _, rfl, rfl, SqL.of hb, i2, _, _, rfl, rfl, ?_⟩
      refine ⟨_, rfl, b, _, _, 2, rfl, rfl, hb, rfl, ?_⟩
      have hb2 : (upd H b (.lst [.int g, .int x, .int (c + 1)])) b = some (.lst [.int g, .int x, .int (c + 1)]) := upd_same
      refine ⟨_, rfl, b, _, _, _, rfl, rfl, SqL.of hb2, i1, _, _, rfl, rfl, .inr (by decide), _, rfl, b, _, _, _, rfl, rfl, SqL.of hb2, i2, _, _, rfl, rfl, .inl (by decide), ?_⟩
      refine ⟨_, _, rfl, rfl, _, _, rfl, rfl, .inl ⟨_, rfl, _, _, rfl, rfl, (by show (0 : Int) < 2147483647; decide), ?_⟩⟩
      refine ⟨_, rfl, b, _, _, 1, rfl, rfl, hb2, rfl, ?_⟩
      have hb3 : ∀ z : Int, (upd (upd H b (.lst [.int g, .int x, .int (c + 1)])) b (.lst [.int g, .int z, .int (c + 1)])) b = some (.lst [.int g, .int z, .int (c + 1)]) := fun z => upd_same
      refine ⟨_, rfl, b, _, _, _, rfl, rfl, SqL.of (hb3 _), i1, _, _, rfl, rfl, .inr (by decide), _, rfl, b, _, _, _, rfl, rfl, SqL.of (hb3 _), i2, _, _, rfl, rfl, .inl (by decide), ?_⟩
      refine ⟨_, _, rfl, rfl, .inl ⟨_, rfl, _, _, rfl, rfl, (by show (0 : Int) < 2147483629; decide), .inl ⟨_, rfl, _, _, rfl, rfl, ⟨by decide, by decide⟩, _, rfl, _, _, rfl, rfl, (by show (0 : Int) < m; omega), ?_⟩⟩⟩
      refine k _ _ (Int.emod_nonneg _ (by omega)) (Int.emod_lt_of_pos _ (by omega)) ⟨⟨_, _, _, hb3 _⟩, fun q o hq e => by rw [upd_ne hq, upd_ne hq]; exact e⟩
/-- a new source of draws -/
def spBag (K : PySem.W.Frag) : Sp := fun vs H Q _ => ∃ (a : Addr) (i : Int) (ns : List Int), vs = [.ref a, .int i] ∧ SqL K H a (ns.map V.int) ∧ 0 ≤ i ∧ i ≤ 1000 ∧
  ∀ (b : Addr) (H' : Hp), H b = none → IsBag H' b → (∀ q o, q ≠ b → H q = some o → H' q = some o) → Q (.ref b) H'
theorem ok_bag {f : Addr} {fd : FuncData} (F : Fun K "_law_bag" "_law_bag" sBag f fd) (mi : mg "int" = none) (ma : mg "abs" = none) (ml : mg "len" = none) (me : mg "enumerate" = none) : FnOk P w K mg base CX0 1 f fd ["_law_script", "_law_at"] (spBag K) := by
  refine F.ok scBag (fun vs H Q E h => ?_) (fun cdv A outer s H vs Q E hr h => ?_)
  · obtain ⟨a, i, ns, rfl, _⟩ := h
    rfl
  · obtain ⟨a, ix, ns, rfl, hS, h0, h1, k⟩ := h
    have nd := scBag.nd
    refine ⟨_, pss_cons (ps_set (i := 2) nd rfl (.inl rfl) (pe_ifExp (pt_cmpR op_lt (pv 1) (pe_callB call_len_seq (by rfl) ml PySem.boot_len (pa_cons (pv 0) pa_nil)) (nomark _))
          (pe_callB call_abs (by rfl) ma (by decide +kernel) (pa_cons (pe_callTy call_int1 (by rfl) mi (by decide +kernel) (pa_cons (pe_ix ix_list (pv 0) (pv 1) (fun _ _ => rfl)) pa_nil)) pa_nil)) pe_int))
      (pss_cons (ps_set (i := 3) nd rfl (.inl rfl) (pe_op op_add pe_int (pe_op op_mul pe_int (pv 1))))
      (pss_cons (ps_for PassesOwn.never rfl (pi_enum (by rfl) me (pa_cons (pe_slice sl_list (pv 0) po_none (po_some pe_int)) pa_nil)) (pg_tup rfl (pgs_cons (pg_name (i := 4) nd rfl (.inl rfl)) (pgs_cons (pg_name (i := 5) nd rfl (.inl rfl)) pgs_nil)))
        (pss_one (ps_set (i := 3) nd rfl (.inl rfl) (pe_op op_mod (pe_callTy call_int1 (by rfl) mi (by decide +kernel) (pa_cons (pe_op op_add (pe_op op_add (pe_op op_mul (pv 3) pe_int)
            (pe_op op_mod (pe_callTy call_int1 (by rfl) mi (by decide +kernel) (pa_cons (pv 5) pa_nil)) pe_int)) (pe_op op_mul pe_int (pv 4))) pa_nil)) pe_int))))
      (pss_one (ps_ret (pe_lst (pa_cons (pe_ifExp (pt_cmpR op_ge (pv 2) (pe_op op_pow pe_int pe_int) (nomark _)) (pv 2) pe_int) (pa_cons (pv 3) (pa_cons pe_int pa_nil)))))))), ?_⟩
    refine join1 (α := Int) (G := ?G) (fun bag_rest => ?br) (fun y => ?fin)
    case br =>
      refine ⟨_, rfl, _, rfl, a, _, rfl, .inl hS, _, _, rfl, rfl, _, rfl, ite2 (fun hc => ?_) (fun hc => ?_)⟩
      · have hc' : ix < ((ns.map V.int).length : Int) := of_decide_eq_true hc
        rw [List.length_map] at hc'
        obtain ⟨z, hz⟩ := atI_ints h0 hc'
        refine ⟨_, rfl, _, rfl, a, _, _, _, rfl, rfl, hS, hz, .inl ⟨_, rfl, _, rfl, ?_⟩⟩
        generalize (if z < 0 then -z else z) = y
        exact bag_rest y
      · exact bag_rest 0
    case fin =>
      -- mixed = 1009 + 77 * at
      refine ⟨_, rfl, _, _, rfl, rfl, .inl (by decide), _, _, rfl, rfl, ?_⟩
      -- enumerate(script[:63])
      refine ⟨_, rfl, _, rfl, a, _, rfl, hS, fun c nc => ?_⟩
      have sc : Same H (upd H c (.lst (cutV (ns.map V.int) none (some 63)))) := fun q o e => by rw [upd_ne (ne_of_none e nc)]; exact e
      have hints : ∀ x ∈ cutV (ns.map V.int) none (some 63), ∃ z : Int, x = .int z := fun x hx => by
        have hm := List.mem_of_mem_drop (List.mem_of_mem_take hx)
        obtain ⟨z, _, e⟩ := List.mem_map.mp hm
        exact ⟨z, e.symm⟩
      revert sc hints
      generalize cutV (ns.map V.int) none (some 63) = cs
      intro sc hints
      refine ⟨c, cs, rfl, SqL.of upd_same, for_it (walk_enum (xs := cs)) (fun i σ H2 => ∃ (m : Int) (y4 y5 : Option V), σ = [some (.ref a), some (.int ix), some (.int y), some (.int m), y4, y5] ∧ Same H H2 ∧ SqL K H2 c cs) ⟨_, none, none, rfl, sc, SqL.of upd_same⟩ ?_ ?_ ?_⟩
      · rintro i σ H2 _ ⟨m, y4, y5, rfl, s2, hc2⟩
        exact hc2
      · rintro i x σ H2 H3 hi ⟨m, y4, y5, rfl, s2, hc2⟩ ⟨T, x1, x2, rfl, nT, rfl, e1, e2⟩
        obtain ⟨z, rfl⟩ := hints _ (List.mem_of_getElem? e2)
        cases e1
        have s3 : Same H2 (upd H2 T (.tup [.int (i : Nat), .int z])) := fun q o e => by rw [upd_ne (ne_of_none e nT)]; exact e
        refine ⟨T, _, rfl, SqT.of upd_same, rfl, _, _, rfl, _, _, rfl, rfl, ?_⟩
        refine ⟨_, rfl, _, _, rfl, rfl, .inr (by decide), _, rfl, .inl ⟨_, rfl, _, _, rfl, rfl, (by show (0 : Int) < 2147483629; decide), ?_⟩⟩
        refine ⟨_, _, rfl, rfl, _, rfl, _, _, rfl, rfl, .inl (by decide), _, _, rfl, rfl, .inl ⟨_, rfl, _, _, rfl, rfl, (by show (0 : Int) < 2147483647; decide), ?_⟩⟩
        exact ⟨_, _, _, rfl, s2.trans s3, s3.seq hc2⟩
      · rintro σ H2 ⟨m, y4, y5, rfl, s2, hc2⟩
        -- return [.., mixed, 0]
        refine ⟨_, rfl, _, _, rfl, rfl, ⟨by decide, by decide, by decide⟩, _, _, rfl, rfl, _, rfl, ite2 (fun hc => ⟨_, rfl, ?_⟩) (fun hc => ?_)⟩
        all_goals
          refine ⟨_, rfl, (by show 3 ≤ sizeLine; decide), fun b nb => ?_⟩
          have nbH : H b = none := s2.free nb
          exact k b _ nbH ⟨_, _, _, upd_same⟩ fun q o hq e => by rw [upd_ne hq]; exact s2 _ _ e
end
end Pa
/-! mathematics of windings; core Lean -/
namespace Win
abbrev Pt := Int × Int
def ff (x y : Int) (p q : Pt) : Int := (q.1 - p.1) * (2 * y + 1 - 2 * p.2) - (q.2 - p.2) * (2 * x + 1 - 2 * p.1)
/-- what a side counts around a cell -/
def cnt (x y : Int) (p q : Pt) : Int := if p.2 ≤ y ∧ y + 1 ≤ q.2 then (if 0 < ff x y p q then 1 else 0) else if q.2 ≤ y ∧ y + 1 ≤ p.2 then (if ff x y p q < 0 then -1 else 0) else 0
def gg (x y : Int) (p q : Pt) : Int := if ff x y p q = 0 then p.2 - q.2 else ff x y p q
def turn (x y : Int) (p q : Pt) : Int := (if 0 < gg x y p q then 1 else 0) - (if gg x y p q < 0 then 1 else 0)
def tri (x y : Int) (a b c : Pt) : Int := if turn x y b c = turn x y a b ∧ turn x y c a = turn x y a b then turn x y a b else 0
theorem ff_anti (x y : Int) (p q : Pt) : ff x y p q = - ff x y q p := by
  unfold ff
  grind
theorem ff_id (x y : Int) (a b c : Pt) : ff x y a b * (2 * c.2 - (2 * y + 1)) + ff x y b c * (2 * a.2 - (2 * y + 1)) + ff x y c a * (2 * b.2 - (2 * y + 1)) = 0 := by
  unfold ff
  grind
theorem cnt_anti (x y : Int) (p q : Pt) : cnt x y p q = - cnt x y q p := by
  unfold cnt
  rw [ff_anti x y p q]
  generalize ff x y q p = f
  by_cases h1 : p.2 ≤ y ∧ y + 1 ≤ q.2
  · rw [if_pos h1, if_neg (show ¬ (q.2 ≤ y ∧ y + 1 ≤ p.2) by omega), if_pos h1]
    by_cases k : f < 0
    · rw [if_pos (by omega), if_pos k]; rfl
    · rw [if_neg (by omega), if_neg k]; rfl
  · rw [if_neg h1]
    by_cases h2 : q.2 ≤ y ∧ y + 1 ≤ p.2
    · rw [if_pos h2, if_pos h2]
      by_cases k : 0 < f
      · rw [if_pos (by omega), if_pos k]
      · rw [if_neg (by omega), if_neg k]; rfl
    · rw [if_neg h2, if_neg h2, if_neg h1]
      rfl
/-- the sign of a turn, by the sign of f -/
theorem turn_pos {x y : Int} {p q : Pt} (h : 0 < ff x y p q) : turn x y p q = 1 := by
  have e : gg x y p q = ff x y p q := by unfold gg; rw [if_neg (by omega)]
  unfold turn
  rw [e, if_pos h, if_neg (by omega)]
  rfl
theorem turn_neg {x y : Int} {p q : Pt} (h : ff x y p q < 0) : turn x y p q = -1 := by
  have e : gg x y p q = ff x y p q := by unfold gg; rw [if_neg (by omega)]
  unfold turn
  rw [e, if_neg (by omega), if_pos h]
  rfl
theorem turn_0down {x y : Int} {p q : Pt} (h : ff x y p q = 0) (h2 : q.2 < p.2) : turn x y p q = 1 := by
  unfold turn gg
  rw [if_pos h, if_pos (by omega), if_neg (by omega)]
  rfl
theorem turn_0up {x y : Int} {p q : Pt} (h : ff x y p q = 0) (h2 : p.2 < q.2) : turn x y p q = -1 := by
  unfold turn gg
  rw [if_pos h, if_neg (by omega), if_pos (by omega)]
  rfl
theorem turn_0 {x y : Int} {p q : Pt} (h : ff x y p q = 0) (h2 : p.2 = q.2) : turn x y p q = 0 := by
  unfold turn gg
  rw [if_pos h, if_neg (by omega), if_neg (by omega)]
  rfl
theorem tri_cyc (x y : Int) (a b c : Pt) : tri x y a b c = tri x y b c a := by
  unfold tri
  generalize turn x y a b = p
  generalize turn x y b c = q
  generalize turn x y c a = r
  split <;> split <;> omega
theorem mp {a b : Int} (ha : 0 < a) (hb : 0 < b) : 0 < a * b := Int.mul_pos ha hb
theorem mn {a b : Int} (ha : 0 ≤ a) (hb : 0 ≤ b) : 0 ≤ a * b := Int.mul_nonneg ha hb
/-- a below, b and c above -/
theorem sum_low {x y : Int} {a b c : Pt} (ha : a.2 ≤ y) (hb : y + 1 ≤ b.2) (hc : y + 1 ≤ c.2) : cnt x y a b + cnt x y b c + cnt x y c a = tri x y a b c := by
  have id := ff_id x y a b c
  have e1 : cnt x y a b = if 0 < ff x y a b then 1 else 0 := by unfold cnt; rw [if_pos ⟨ha, hb⟩]
  have e2 : cnt x y b c = 0 := by unfold cnt; rw [if_neg (by omega), if_neg (by omega)]
  have e3 : cnt x y c a = if ff x y c a < 0 then -1 else 0 := by unfold cnt; rw [if_neg (by omega), if_pos ⟨ha, hc⟩]
  rw [e1, e2, e3]
  have pb : 0 < 2 * b.2 - (2 * y + 1) := by omega
  have pc : 0 < 2 * c.2 - (2 * y + 1) := by omega
  have pa : 0 < -(2 * a.2 - (2 * y + 1)) := by omega
  by_cases h1 : 0 < ff x y a b
  · rw [if_pos h1]
    have t1 := turn_pos h1
    by_cases h3 : ff x y c a < 0
    · rw [if_pos h3]
      have t3 := turn_neg h3
      unfold tri
      rw [t1, t3, if_neg (by omega)]
      rfl
    · rw [if_neg h3]
      have t3 : turn x y c a = 1 := by
        by_cases h4 : ff x y c a = 0
        · exact turn_0down h4 (by omega)
        · exact turn_pos (by omega)
      have k : 0 < ff x y b c := by
        rcases Int.lt_or_le 0 (ff x y b c) with k | k
        · exact k
        · have z1 := mp h1 pc
          have z3 := mn (show 0 ≤ ff x y c a by omega) (Int.le_of_lt pb)
          have z2 := mn (show 0 ≤ - ff x y b c by omega) (Int.le_of_lt pa)
          rw [Int.neg_mul_neg] at z2
          omega
      unfold tri
      rw [t1, turn_pos k, t3, if_pos ⟨rfl, rfl⟩]
      rfl
  · rw [if_neg h1]
    have t1 : turn x y a b = -1 := by
      by_cases h4 : ff x y a b = 0
      · exact turn_0up h4 (by omega)
      · exact turn_neg (by omega)
    by_cases h3 : ff x y c a < 0
    · rw [if_pos h3]
      have t3 := turn_neg h3
      have k : ff x y b c < 0 := by
        rcases Int.lt_or_le (ff x y b c) 0 with k | k
        · exact k
        · have z1 := mn (show 0 ≤ - ff x y a b by omega) (Int.le_of_lt pc)
          have z3 := mp (show 0 < - ff x y c a by omega) pb
          have z2 := mn k (Int.le_of_lt pa)
          rw [Int.neg_mul] at z1 z3
          rw [Int.mul_neg] at z2
          omega
      unfold tri
      rw [t1, turn_neg k, t3, if_pos ⟨rfl, rfl⟩]
      rfl
    · rw [if_neg h3]
      have t3 : turn x y c a = 1 := by
        by_cases h4 : ff x y c a = 0
        · exact turn_0down h4 (by omega)
        · exact turn_pos (by omega)
      unfold tri
      rw [t1, t3, if_neg (by omega)]
      rfl
/-- a above, b and c below -/
theorem sum_high {x y : Int} {a b c : Pt} (ha : y + 1 ≤ a.2) (hb : b.2 ≤ y) (hc : c.2 ≤ y) : cnt x y a b + cnt x y b c + cnt x y c a = tri x y a b c := by
  have id := ff_id x y a b c
  have e1 : cnt x y a b = if ff x y a b < 0 then -1 else 0 := by unfold cnt; rw [if_neg (by omega), if_pos ⟨hb, ha⟩]
  have e2 : cnt x y b c = 0 := by unfold cnt; rw [if_neg (by omega), if_neg (by omega)]
  have e3 : cnt x y c a = if 0 < ff x y c a then 1 else 0 := by unfold cnt; rw [if_pos ⟨hc, ha⟩]
  rw [e1, e2, e3]
  have pb : 0 < -(2 * b.2 - (2 * y + 1)) := by omega
  have pc : 0 < -(2 * c.2 - (2 * y + 1)) := by omega
  have pa : 0 < 2 * a.2 - (2 * y + 1) := by omega
  by_cases h1 : ff x y a b < 0
  · rw [if_pos h1]
    have t1 := turn_neg h1
    by_cases h3 : 0 < ff x y c a
    · rw [if_pos h3]
      unfold tri
      rw [t1, turn_pos h3, if_neg (by omega)]
      rfl
    · rw [if_neg h3]
      have t3 : turn x y c a = -1 := by
        by_cases h4 : ff x y c a = 0
        · exact turn_0up h4 (by omega)
        · exact turn_neg (by omega)
      have k : ff x y b c < 0 := by
        rcases Int.lt_or_le (ff x y b c) 0 with k | k
        · exact k
        · have z1 := mp (show 0 < - ff x y a b by omega) pc
          have z3 := mn (show 0 ≤ - ff x y c a by omega) (Int.le_of_lt pb)
          have z2 := mn k (Int.le_of_lt pa)
          rw [Int.neg_mul_neg] at z1 z3
          omega
      unfold tri
      rw [t1, turn_neg k, t3, if_pos ⟨rfl, rfl⟩]
      rfl
  · rw [if_neg h1]
    have t1 : turn x y a b = 1 := by
      by_cases h4 : ff x y a b = 0
      · exact turn_0down h4 (by omega)
      · exact turn_pos (by omega)
    by_cases h3 : 0 < ff x y c a
    · rw [if_pos h3]
      have k : 0 < ff x y b c := by
        rcases Int.lt_or_le 0 (ff x y b c) with k | k
        · exact k
        · have z1 := mn (show 0 ≤ ff x y a b by omega) (Int.le_of_lt pc)
          have z3 := mp h3 pb
          have z2 := mn (show 0 ≤ - ff x y b c by omega) (Int.le_of_lt pa)
          rw [Int.mul_neg] at z1 z3
          rw [Int.neg_mul] at z2
          omega
      unfold tri
      rw [t1, turn_pos k, turn_pos h3, if_pos ⟨rfl, rfl⟩]
      rfl
    · rw [if_neg h3]
      have t3 : turn x y c a = -1 := by
        by_cases h4 : ff x y c a = 0
        · exact turn_0up h4 (by omega)
        · exact turn_neg (by omega)
      unfold tri
      rw [t1, t3, if_neg (by omega)]
      rfl
theorem no_cross {x y : Int} {p q : Pt} (h : (p.2 ≤ y ∧ q.2 ≤ y) ∨ (y + 1 ≤ p.2 ∧ y + 1 ≤ q.2)) : cnt x y p q = 0 := by
  unfold cnt
  rw [if_neg (by omega), if_neg (by omega)]
theorem turn_cases (x y : Int) (p q : Pt) : (turn x y p q = 1 ∧ 0 ≤ ff x y p q ∧ (ff x y p q = 0 → q.2 < p.2)) ∨ (turn x y p q = -1 ∧ ff x y p q ≤ 0 ∧ (ff x y p q = 0 → p.2 < q.2)) ∨ turn x y p q = 0 := by
  rcases Int.lt_trichotomy (ff x y p q) 0 with h | h | h
  · exact .inr (.inl ⟨turn_neg h, Int.le_of_lt h, fun z => by omega⟩)
  · rcases Int.lt_trichotomy p.2 q.2 with k | k | k
    · exact .inr (.inl ⟨turn_0up h k, by omega, fun _ => k⟩)
    · exact .inr (.inr (turn_0 h k))
    · exact .inl ⟨turn_0down h k, by omega, fun _ => k⟩
  · exact .inl ⟨turn_pos h, Int.le_of_lt h, fun z => by omega⟩
/-- all on one side of the line: no triangle around the cell -/
theorem tri_side {x y : Int} {a b c : Pt} (h : (a.2 ≤ y ∧ b.2 ≤ y ∧ c.2 ≤ y) ∨ (y + 1 ≤ a.2 ∧ y + 1 ≤ b.2 ∧ y + 1 ≤ c.2)) : tri x y a b c = 0 := by
  have id := ff_id x y a b c
  unfold tri
  split
  · rename_i k
    obtain ⟨k1, k2⟩ := k
    -- the three heights have one sign: let them be above
    have main : ∀ u v w fa fb fc : Int, fa * w + fb * u + fc * v = 0 → 0 < u → 0 < v → 0 < w → 0 ≤ fa → 0 ≤ fb → 0 ≤ fc → fa = 0 ∧ fb = 0 ∧ fc = 0 := fun u v w fa fb fc e hu hv hw h1 h2 h3 => by
      have z1 := mn h1 (Int.le_of_lt hw)
      have z2 := mn h2 (Int.le_of_lt hu)
      have z3 := mn h3 (Int.le_of_lt hv)
      refine ⟨?_, ?_, ?_⟩
      · rcases Int.lt_or_le 0 fa with k | k
        · have := mp k hw
          omega
        · omega
      · rcases Int.lt_or_le 0 fb with k | k
        · have := mp k hu
          omega
        · omega
      · rcases Int.lt_or_le 0 fc with k | k
        · have := mp k hv
          omega
        · omega
    have flip : ∀ u v w fa fb fc : Int, fa * w + fb * u + fc * v = 0 → fa * (-w) + fb * (-u) + fc * (-v) = 0 := fun u v w fa fb fc e => by
      rw [Int.mul_neg, Int.mul_neg, Int.mul_neg]
      omega
    have flip2 : ∀ u v w fa fb fc : Int, fa * w + fb * u + fc * v = 0 → (-fa) * w + (-fb) * u + (-fc) * v = 0 := fun u v w fa fb fc e => by
      rw [Int.neg_mul, Int.neg_mul, Int.neg_mul]
      omega
    rcases turn_cases x y a b with ⟨t1, p1, z1⟩ | ⟨t1, p1, z1⟩ | t1
    · rw [t1] at k1 k2
      rcases turn_cases x y b c with ⟨t2, p2, z2⟩ | ⟨t2, _, _⟩ | t2
      · rcases turn_cases x y c a with ⟨t3, p3, z3⟩ | ⟨t3, _, _⟩ | t3
        · exfalso
          have zero : ff x y a b = 0 ∧ ff x y b c = 0 ∧ ff x y c a = 0 := by
            rcases h with h | h
            · exact main _ _ _ _ _ _ (flip _ _ _ _ _ _ id) (by omega) (by omega) (by omega) p1 p2 p3
            · exact main _ _ _ _ _ _ id (by omega) (by omega) (by omega) p1 p2 p3
          have := z1 zero.1
          have := z2 zero.2.1
          have := z3 zero.2.2
          omega
        · omega
        · omega
      · omega
      · omega
    · rw [t1] at k1 k2
      rcases turn_cases x y b c with ⟨t2, _, _⟩ | ⟨t2, p2, z2⟩ | t2
      · omega
      · rcases turn_cases x y c a with ⟨t3, _, _⟩ | ⟨t3, p3, z3⟩ | t3
        · omega
        · exfalso
          have zero : -ff x y a b = 0 ∧ -ff x y b c = 0 ∧ -ff x y c a = 0 := by
            rcases h with h | h
            · exact main _ _ _ _ _ _ (flip2 _ _ _ _ _ _ (flip _ _ _ _ _ _ id)) (by omega) (by omega) (by omega) (by omega) (by omega) (by omega)
            · exact main _ _ _ _ _ _ (flip2 _ _ _ _ _ _ id) (by omega) (by omega) (by omega) (by omega) (by omega) (by omega)
          have := z1 (by omega)
          have := z2 (by omega)
          have := z3 (by omega)
          omega
        · omega
      · omega
    · exact t1
  · rfl
/-- three sides of a triangle count what the triangle winds -/
theorem sum_tri (x y : Int) (a b c : Pt) : cnt x y a b + cnt x y b c + cnt x y c a = tri x y a b c := by
  rcases Int.lt_or_le y a.2 with ha | ha <;> rcases Int.lt_or_le y b.2 with hb | hb <;> rcases Int.lt_or_le y c.2 with hc | hc
  · rw [no_cross (.inr ⟨by omega, by omega⟩), no_cross (.inr ⟨by omega, by omega⟩), no_cross (.inr ⟨by omega, by omega⟩), tri_side (.inr ⟨by omega, by omega, by omega⟩)]; rfl
  · have := sum_low (x := x) (y := y) (a := c) (b := a) (c := b) hc (by omega) (by omega)
    rw [tri_cyc, tri_cyc, ← this]; omega
  · have := sum_low (x := x) (y := y) (a := b) (b := c) (c := a) hb (by omega) (by omega)
    rw [tri_cyc, ← this]; omega
  · exact sum_high (by omega) hb hc
  · exact sum_low ha (by omega) (by omega)
  · have := sum_high (x := x) (y := y) (a := b) (b := c) (c := a) (by omega) hc ha
    rw [tri_cyc, ← this]; omega
  · have := sum_high (x := x) (y := y) (a := c) (b := a) (c := b) (by omega) ha hb
    rw [tri_cyc, tri_cyc, ← this]; omega
  · rw [no_cross (.inl ⟨by omega, by omega⟩), no_cross (.inl ⟨by omega, by omega⟩), no_cross (.inl ⟨by omega, by omega⟩), tri_side (.inl ⟨by omega, by omega, by omega⟩)]; rfl
end Win
namespace Win
def path (f : Pt → Pt → Int) : List Pt → Int
  | p :: q :: r => f p q + path f (q :: r)
  | _ => 0
theorem path_two (f : Pt → Pt → Int) : ∀ (l : List Pt) (p q : Pt), path f (l ++ [p, q]) = path f (l ++ [p]) + f p q
  | [], p, q => by simp [path]
  | [a], p, q => by simp [path]
  | a :: b :: l, p, q => by
    have ih := path_two f (b :: l) p q
    show f a b + path f (b :: l ++ [p, q]) = f a b + path f (b :: l ++ [p]) + f p q
    rw [ih]
    omega
theorem path_rev (f : Pt → Pt → Int) (hf : ∀ p q, f p q = - f q p) : ∀ l : List Pt, path f l.reverse = - path f l
  | [] => rfl
  | [a] => rfl
  | a :: b :: l => by
    have ih := path_rev f hf (b :: l)
    have e : (a :: b :: l).reverse = l.reverse ++ [b, a] := by simp
    rw [e, path_two]
    have e2 : (b :: l).reverse = l.reverse ++ [b] := by simp
    rw [e2] at ih
    show path f (l.reverse ++ [b]) + f b a = -(f a b + path f (b :: l))
    rw [ih, hf b a]
    omega
/-- once around -/
def around (f : Pt → Pt → Int) : List Pt → Int
  | [] => 0
  | p :: r => path f (p :: r ++ [p])
theorem path_turn (f : Pt → Pt → Int) (z : Pt) : ∀ l : List Pt, path f (z :: (l ++ [z])) = around f (l ++ [z])
  | [] => rfl
  | p :: r => by
    show f z p + path f (p :: (r ++ [z])) = path f (p :: (r ++ [z]) ++ [p])
    have e : p :: (r ++ [z]) ++ [p] = (p :: r) ++ [z, p] := by simp
    rw [e, path_two]
    have e2 : p :: (r ++ [z]) = (p :: r) ++ [z] := by simp
    rw [e2]
    omega
theorem around_rev (f : Pt → Pt → Int) (hf : ∀ p q, f p q = - f q p) (l : List Pt) : around f l.reverse = - around f l := by
  cases hl : l.reverse with
  | nil =>
    have : l = [] := by simpa using hl
    rw [this]; rfl
  | cons z t =>
    have e : l = t.reverse ++ [z] := by
      have := congrArg List.reverse hl
      simpa using this
    rw [e, ← path_turn]
    show path f (z :: t ++ [z]) = _
    have e2 : z :: t ++ [z] = (z :: (t.reverse ++ [z])).reverse := by simp
    rw [e2, path_rev f hf]
/-- what a fan of triangles winds -/
def fan (x y : Int) : List Pt → Int
  | [] => 0
  | a :: r => path (tri x y a) r
theorem fan_around (x y : Int) : ∀ l : List Pt, around (cnt x y) l = fan x y l
  | [] => rfl
  | [a] => by
    show cnt x y a a + 0 = 0
    have := cnt_anti x y a a
    omega
  | [a, b] => by
    show cnt x y a b + (cnt x y b a + 0) = 0
    have := cnt_anti x y a b
    omega
  | a :: b :: c :: r => by
    have ih := fan_around x y (a :: c :: r)
    have h := sum_tri x y a b c
    have h2 := cnt_anti x y a c
    show cnt x y a b + (cnt x y b c + path (cnt x y) (c :: r ++ [a])) = tri x y a b c + path (tri x y a) (c :: r)
    have ih' : cnt x y a c + path (cnt x y) (c :: r ++ [a]) = path (tri x y a) (c :: r) := ih
    rw [← ih']
    omega
/-- by indices -/
theorem path_ix (f : Pt → Pt → Int) (d : Pt) : ∀ l : List Pt, path f l = ((List.range (l.length - 1)).map fun j => f (l.getD j d) (l.getD (j + 1) d)).sum
  | [] => rfl
  | [a] => rfl
  | a :: b :: l => by
    have ih := path_ix f d (b :: l)
    show f a b + path f (b :: l) = _
    rw [ih]
    have e : (a :: b :: l).length - 1 = ((b :: l).length - 1) + 1 := by simp
    rw [e, List.range_succ_eq_map, List.map_cons, List.sum_cons, List.map_map]
    rfl
theorem around_ix (f : Pt → Pt → Int) (d : Pt) (l : List Pt) : around f l = ((List.range l.length).map fun j => f (l.getD j d) (l.getD ((j + 1) % l.length) d)).sum := by
  cases l with
  | nil => rfl
  | cons p r =>
    show path f (p :: r ++ [p]) = _
    rw [path_ix f d]
    have e : (p :: r ++ [p]).length - 1 = (p :: r).length := by simp
    rw [e]
    congr 1
    refine List.map_congr_left fun j hj => ?_
    have hj := List.mem_range.mp hj
    have h1 : (p :: r ++ [p]).getD j d = (p :: r).getD j d := by
      rw [List.getD_eq_getElem?_getD, List.getD_eq_getElem?_getD, List.getElem?_append_left hj]
    rw [h1]
    congr 1
    by_cases hk : j + 1 < (p :: r).length
    · rw [Nat.mod_eq_of_lt hk, List.getD_eq_getElem?_getD, List.getD_eq_getElem?_getD, List.getElem?_append_left hk]
    · have e2 : j + 1 = (p :: r).length := by omega
      rw [e2, Nat.mod_self, List.getD_eq_getElem?_getD, List.getElem?_append_right (Nat.le_refl _), Nat.sub_self]
      rfl
theorem fan_ix (x y : Int) (d : Pt) (l : List Pt) : fan x y l = ((List.range (l.length - 2)).map fun k => tri x y (l.getD 0 d) (l.getD (k + 1) d) (l.getD (k + 2) d)).sum := by
  cases l with
  | nil => rfl
  | cons a r =>
    show path (tri x y a) r = _
    rw [path_ix _ d]
    rfl
/-- what the program counts of a ring, side by side -/
def sideC (x y : Int) (l : List Pt) : List Int := (List.range l.length).map fun j => cnt x y (l.getD j (0, 0)) (l.getD ((j + 1) % l.length) (0, 0))
def allC (x y : Int) (rs : List (List Pt)) : List Int := (rs.map (sideC x y)).flatten
def wind (x y : Int) (rs : List (List Pt)) : Int := (rs.map (fan x y)).sum
theorem sum_flat : ∀ ls : List (List Int), ls.flatten.sum = (ls.map List.sum).sum
  | [] => rfl
  | l :: ls => by simp [sum_flat ls]
theorem allC_sum (x y : Int) (rs : List (List Pt)) : (allC x y rs).sum = wind x y rs := by
  unfold allC wind
  rw [sum_flat, List.map_map]
  congr 1
  refine List.map_congr_left fun l _ => ?_
  show (sideC x y l).sum = fan x y l
  rw [← fan_around, around_ix _ (0, 0)]
  rfl
theorem wind_rev (x y : Int) (rs : List (List Pt)) : wind x y (rs.map List.reverse) = - wind x y rs := by
  unfold wind
  induction rs with
  | nil => rfl
  | cons l rs ih =>
    simp only [List.map_cons, List.sum_cons]
    rw [ih, ← fan_around, ← fan_around, around_rev _ (cnt_anti x y)]
    omega
/-- the program's own way to the count of a side -/
def cntP (x y : Int) (p q : Pt) : Int :=
  let rise := q.2 - p.2
  let count : Int := if rise > 0 then 1 else -1
  if count * (2 * p.1 * rise + (2 * y + 1 - 2 * p.2) * (q.1 - p.1)) > count * ((2 * x + 1) * rise) then count else 0
theorem cntP_ff (x y : Int) (p q : Pt) : 2 * p.1 * (q.2 - p.2) + (2 * y + 1 - 2 * p.2) * (q.1 - p.1) - (2 * x + 1) * (q.2 - p.2) = ff x y p q := by
  unfold ff
  grind
theorem cnt_no {x y : Int} {p q : Pt} (h : (y < p.2 ∧ y < q.2) ∨ (p.2 < y + 1 ∧ q.2 < y + 1)) : cnt x y p q = 0 := no_cross (by omega)
theorem cnt_yes {x y : Int} {p q : Pt} (h : ¬ ((y < p.2 ∧ y < q.2) ∨ (p.2 < y + 1 ∧ q.2 < y + 1))) : cnt x y p q = cntP x y p q := by
  have e := cntP_ff x y p q
  unfold cntP cnt
  dsimp only
  generalize 2 * p.1 * (q.2 - p.2) + (2 * y + 1 - 2 * p.2) * (q.1 - p.1) = u at e ⊢
  generalize (2 * x + 1) * (q.2 - p.2) = v at e ⊢
  by_cases h1 : p.2 ≤ y ∧ y + 1 ≤ q.2
  · rw [if_pos h1, if_pos (show q.2 - p.2 > 0 by omega), ← e]
    by_cases k : 0 < u - v
    · rw [if_pos k, if_pos (by omega)]
    · rw [if_neg k, if_neg (by omega)]
  · rw [if_neg h1, if_pos (show q.2 ≤ y ∧ y + 1 ≤ p.2 by omega), if_neg (show ¬ q.2 - p.2 > 0 by omega), ← e]
    by_cases k : u - v < 0
    · rw [if_pos k, if_pos (by omega)]
    · rw [if_neg k, if_neg (by omega)]
end Win
set_option maxRecDepth 100000
set_option maxHeartbeats 4000000
namespace Pa
open PySem PySem.Spec PyProof.Rows L2
/-! ### things in the heap -/
def AllAt {α : Type} (R : Hp → V → α → Prop) (H : Hp) : List V → List α → Prop
  | [], [] => True
  | x :: xs, y :: ys => R H x y ∧ AllAt R H xs ys
  | _, _ => False
section
variable {α : Type} {R : Hp → V → α → Prop} {H H' : Hp}
theorem AllAt.len : ∀ {xs : List V} {ys : List α}, AllAt R H xs ys → xs.length = ys.length
  | [], [], _ => rfl
  | _ :: _, _ :: _, h => congrArg (· + 1) (AllAt.len h.2)
  | [], _ :: _, h => h.elim
  | _ :: _, [], h => h.elim
theorem AllAt.mono : ∀ {xs : List V} {ys : List α}, (∀ x y, R H x y → R H' x y) → AllAt R H xs ys → AllAt R H' xs ys
  | [], [], _, _ => trivial
  | _ :: _, _ :: _, f, h => ⟨f _ _ h.1, AllAt.mono f h.2⟩
  | [], _ :: _, _, h => h.elim
  | _ :: _, [], _, h => h.elim
theorem AllAt.app : ∀ {xs xs' : List V} {ys ys' : List α}, AllAt R H xs ys → AllAt R H xs' ys' → AllAt R H (xs ++ xs') (ys ++ ys')
  | [], _, [], _, _, h => h
  | _ :: _, _, _ :: _, _, h, h' => ⟨h.1, AllAt.app h.2 h'⟩
  | [], _, _ :: _, _, h, _ => h.elim
  | _ :: _, _, [], _, h, _ => h.elim
theorem AllAt.snoc {xs : List V} {ys : List α} {x : V} {y : α} (h : AllAt R H xs ys) (r : R H x y) : AllAt R H (xs ++ [x]) (ys ++ [y]) := h.app ⟨r, trivial⟩
theorem AllAt.at : ∀ {xs : List V} {ys : List α} {i : Nat} {x : V}, AllAt R H xs ys → xs[i]? = some x → ∃ y, ys[i]? = some y ∧ R H x y
  | x :: xs, y :: ys, 0, _, h, e => by cases e; exact ⟨y, rfl, h.1⟩
  | x :: xs, y :: ys, i + 1, _, h, e => AllAt.at (xs := xs) (ys := ys) (i := i) h.2 (by simpa using e)
  | [], _, _, _, _, e => by simp at e
  | _ :: _, [], _, _, h, _ => h.elim
theorem AllAt.to : ∀ {xs : List V} {ys : List α} {i : Nat} {y : α}, AllAt R H xs ys → ys[i]? = some y → ∃ x, xs[i]? = some x ∧ R H x y
  | x :: xs, y :: ys, 0, _, h, e => by cases e; exact ⟨x, rfl, h.1⟩
  | x :: xs, y :: ys, i + 1, _, h, e => AllAt.to (xs := xs) (ys := ys) (i := i) h.2 (by simpa using e)
  | _, [], _, _, _, e => by simp at e
  | [], _ :: _, _, _, h, _ => h.elim
theorem AllAt.take : ∀ {xs : List V} {ys : List α} (n : Nat), AllAt R H xs ys → AllAt R H (xs.take n) (ys.take n)
  | _, _, 0, _ => by simp [AllAt]
  | [], [], _ + 1, _ => by simp [AllAt]
  | x :: xs, y :: ys, n + 1, h => ⟨h.1, AllAt.take n h.2⟩
  | [], _ :: _, _ + 1, h => h.elim
  | _ :: _, [], _ + 1, h => h.elim
theorem AllAt.drop : ∀ {xs : List V} {ys : List α} (n : Nat), AllAt R H xs ys → AllAt R H (xs.drop n) (ys.drop n)
  | _, _, 0, h => h
  | [], [], _ + 1, _ => by simp [AllAt]
  | x :: xs, y :: ys, n + 1, h => AllAt.drop (xs := xs) (ys := ys) n h.2
  | [], _ :: _, _ + 1, h => h.elim
  | _ :: _, [], _ + 1, h => h.elim
end
theorem join2 {c G T : Prop} (h : (c → G) → T) (g : c → G) : T := h g
theorem iteP {c A B : Prop} [Decidable c] (hc : c) (h : A) : if c then A else B := by
  rw [if_pos hc]; exact h
theorem iteQ {c A B : Prop} [Decidable c] (hc : ¬ c) (h : B) : if c then A else B := by
  rw [if_neg hc]; exact h
theorem notT {b : Bool} (h : b = true) : ¬ ((!b) = true) := by rw [h]; decide
theorem notF {b : Bool} (h : b = false) : (!b) = true := by rw [h]; rfl
theorem neT {b : Bool} (h : b = false) : ¬ (b = true) := by rw [h]; decide
theorem twoB (b : Bool) : b = true ∨ b = false := by cases b; exact .inr rfl; exact .inl rfl
/-- all tuples stand -/
def Tups (H H' : Hp) : Prop := ∀ t xs, H t = some (.tup xs) → H' t = some (.tup xs)
section
variable {H H' H'' : Hp} {p : Addr} {o : HO} {xs : List V}
theorem Tups.refl (H : Hp) : Tups H H := fun _ _ h => h
theorem Tups.trans (a : Tups H H') (b : Tups H' H'') : Tups H H'' := fun t xs h => b t xs (a t xs h)
theorem Tups.of (a : Same H H') : Tups H H' := fun t xs h => a t _ h
theorem Tups.put (h : ∀ ys, H p ≠ some (.tup ys)) : Tups H (upd H p o) := fun t ys e => by
  rw [upd_ne (fun q => h ys (by rw [← q]; exact e))]
  exact e
theorem Tups.new (h : H p = none) : Tups H (upd H p o) := Tups.put fun ys e => by rw [h] at e; cases e
theorem Tups.lst (h : H p = some (.lst xs)) : Tups H (upd H p o) := Tups.put fun ys e => by rw [h] at e; cases e
theorem Tups.ins {C dx : Addr} {fs : List (Str × V)} (h : H p = some (.ins C dx fs)) : Tups H (upd H p o) := Tups.put fun ys e => by rw [h] at e; cases e
theorem same_new (h : H p = none) : Same H (upd H p o) := fun b u e => by
  rw [upd_ne (ne_of_none e h)]
  exact e
end
/-- a tuple of these stands at x -/
def TupAt (H : Hp) (x : V) (vs : List V) : Prop := ∃ t, x = .ref t ∧ H t = some (.tup vs)
theorem TupAt.mono {H H' : Hp} {x : V} {vs : List V} (a : Tups H H') (h : TupAt H x vs) : TupAt H' x vs := by
  obtain ⟨t, e, r⟩ := h
  exact ⟨t, e, a t _ r⟩
theorem all_push {α : Type} {f : α → List V} {H : Hp} {q p : Addr} {ls tv : List V} {ys : List α} {y : α} (hq : H q = some (.lst ls)) (ha : AllAt (fun H x y => TupAt H x (f y)) H ls ys) (hp : H p = none) (et : tv = f y) :
    upd (upd H p (.tup tv)) q (.lst (ls ++ [.ref p])) q = some (.lst (ls ++ [.ref p])) ∧ AllAt (fun H x y => TupAt H x (f y)) (upd (upd H p (.tup tv)) q (.lst (ls ++ [.ref p]))) (ls ++ [.ref p]) (ys ++ [y]) ∧
      (upd H p (.tup tv)) q = some (.lst ls) ∧ ∀ a o, a ≠ q → H a = some o → upd (upd H p (.tup tv)) q (.lst (ls ++ [.ref p])) a = some o := by
  have npq : q ≠ p := fun r => by rw [← r, hq] at hp; cases hp
  have e2 : (upd H p (.tup tv)) q = some (.lst ls) := (upd_ne npq).trans hq
  refine ⟨upd_same, AllAt.mono (fun _ _ => TupAt.mono (Tups.lst e2)) (AllAt.snoc (ha.mono fun _ _ => TupAt.mono (Tups.new hp)) ⟨p, rfl, by rw [upd_same, et]⟩), e2, fun a o na e => ?_⟩
  rw [upd_ne na]
  exact same_new hp _ _ e
end Pa
set_option maxRecDepth 100000
set_option maxHeartbeats 4000000
namespace Pa
open PySem PySem.Spec PyProof.Rows L2 Win
/-! ### corners, rings, rings of rings -/
/-- a list or a tuple of these -/
def SeqH (H : Hp) (a : Addr) (xs : List V) : Prop := H a = some (.lst xs) ∨ H a = some (.tup xs)
theorem SeqH.mono {H H' : Hp} {a : Addr} {xs : List V} (s : ∀ o, H a = some o → H' a = some o) (h : SeqH H a xs) : SeqH H' a xs := h.elim (fun e => .inl (s _ e)) fun e => .inr (s _ e)
theorem SeqH.sq {K : PySem.W.Frag} {H : Hp} {a : Addr} {xs : List V} (h : SeqH H a xs) : SqL K H a xs ∨ SqT K H a xs := h.elim (fun e => .inl (SqL.of e)) fun e => .inr (SqT.of e)
theorem SeqH.inj {H : Hp} {a : Addr} {xs ys : List V} (h : SeqH H a xs) (h' : SeqH H a ys) : xs = ys := by
  rcases h with h | h <;> rcases h' with h' | h' <;> (rw [h] at h'; cases h' <;> rfl)
def CornerAt (H : Hp) (v : V) (p : Pt) : Prop := ∃ t, v = .ref t ∧ SeqH H t [.int p.1, .int p.2]
def RingAt (H : Hp) (v : V) (ps : List Pt) : Prop := ∃ r xs, v = .ref r ∧ SeqH H r xs ∧ AllAt CornerAt H xs ps
def RingsAt (H : Hp) (v : V) (rs : List (List Pt)) : Prop := ∃ r xs, v = .ref r ∧ SeqH H r xs ∧ AllAt RingAt H xs rs
theorem CornerAt.mono {H H' : Hp} (s : Same H H') {v : V} {p : Pt} (h : CornerAt H v p) : CornerAt H' v p := by
  obtain ⟨t, e, q⟩ := h
  exact ⟨t, e, q.mono fun o => s _ o⟩
theorem RingAt.mono {H H' : Hp} (s : Same H H') {v : V} {p : List Pt} (h : RingAt H v p) : RingAt H' v p := by
  obtain ⟨t, xs, e, q, a⟩ := h
  exact ⟨t, xs, e, q.mono fun o => s _ o, a.mono fun _ _ => CornerAt.mono s⟩
theorem RingsAt.mono {H H' : Hp} (s : Same H H') {v : V} {p : List (List Pt)} (h : RingsAt H v p) : RingsAt H' v p := by
  obtain ⟨t, xs, e, q, a⟩ := h
  exact ⟨t, xs, e, q.mono fun o => s _ o, a.mono fun _ _ => RingAt.mono s⟩
/-- a side: a tuple of two tuples -/
def SideAt (H : Hp) (v : V) (p q : Pt) : Prop := ∃ t a b, v = .ref t ∧ H t = some (.tup [.ref a, .ref b]) ∧ H a = some (.tup [.int p.1, .int p.2]) ∧ H b = some (.tup [.int q.1, .int q.2])
theorem SideAt.mono {H H' : Hp} (s : Same H H') {v : V} {p q : Pt} (h : SideAt H v p q) : SideAt H' v p q := by
  obtain ⟨t, a, b, e, h1, h2, h3⟩ := h
  exact ⟨t, a, b, e, s _ _ h1, s _ _ h2, s _ _ h3⟩
def SideIt (ps : List Pt) : Nat → V → Hp → Prop := fun j y H => ∃ p q, ps[j]? = some p ∧ ps[(j + 1) % ps.length]? = some q ∧ SideAt H y p q
/-- facts of the program's top -/
structure Txt (K : PySem.W.Frag) (mg : Str → Option Value) : Prop where
  b_len : mg "len" = none
  b_range : mg "range" = none
  b_int : mg "int" = none
  b_abs : mg "abs" = none
  b_enumerate : mg "enumerate" = none
  b_isinstance : mg "isinstance" = none
  b_bool : mg "bool" = none
  b_list : mg "list" = none
  b_tuple : mg "tuple" = none
  b_max : mg "max" = none
  b_min : mg "min" = none
  b_all : mg "all" = none
  b_sum : mg "sum" = none
/-! ### each_side -/
def rLenQ (K : PySem.W.Frag) : List V → Hp → VK → Prop := fun xs H Q => ∃ p ys, xs = [V.ref p] ∧ (SqL K H p ys ∨ SqT K H p ys) ∧ Q (.int ys.length) H
theorem call_lenQ {X : Cx} {K : PySem.W.Frag} (hK : X.K = K) : CallR X (.builtin "len") (rLenQ K) := by subst hK; exact call_len_seq
def rTupQ (K : PySem.W.Frag) : List V → Hp → VK → Prop := fun xs H Q => ∃ p ys, xs = [V.ref p] ∧ ((SqL K H p ys ∧ ∀ l, H l = none → Q (.ref l) (upd H l (.tup ys))) ∨ (SqT K H p ys ∧ Q (.ref p) H))
theorem call_tupQ {X : Cx} {K : PySem.W.Frag} (hK : X.K = K) : CallR X (.type "tuple") (rTupQ K) := by subst hK; exact call_tuple_of
theorem ix_seqQ {X : Cx} {K : PySem.W.Frag} (hK : X.K = K) : IxR X (rIx K) := by subst hK; exact ix_seq
theorem tnil {σ : L2.St} {H : Hp} {Q : List V → Hp → Prop} (h : Q [] H) : tNil σ H Q := h
def spSides : SpW := fun vs D n item => ∃ v ps, vs = [v] ∧ RingAt D v ps ∧ n = ps.length ∧ n ≤ 1000 ∧ item = SideIt ps
abbrev seach_side : Stmt := topS 17
theorem sceach_side : GScope ["ring", "at"] ["ring"] (defScope seach_side) := ⟨rfl, rfl, rfl, by decide +kernel, rfl, by decide +kernel, by decide +kernel⟩
section
variable {P : Program} {w : World} {K : PySem.W.Frag} {mg : Str → Option Value} {base : Heap}
theorem ix_seqH {K : PySem.W.Frag} {H : Hp} {r : Addr} {xs : List V} {j : Nat} {v : V} {Q : VK} (h : SeqH H r xs) (hj : xs[j]? = some v) (q : Q v H) : rIx K (.ref r) (.int (j : Int)) H Q := by
  rcases h with h | h
  · exact .inl ⟨r, xs, j, v, rfl, rfl, SqL.of h, atI_nat hj, q⟩
  · exact .inr (.inl ⟨r, xs, j, v, rfl, rfl, SqT.of h, atI_nat hj, q⟩)
theorem ix_seqI {K : PySem.W.Frag} {H : Hp} {r : Addr} {xs : List V} {i : Int} {j : Nat} {v : V} {Q : VK} (h : SeqH H r xs) (ei : i = (j : Int)) (hj : xs[j]? = some v) (q : Q v H) : rIx K (.ref r) (.int i) H Q := by
  subst ei
  exact ix_seqH h hj q
/-- tuple(corner): the tuple itself, or a new one -/
theorem tup_corner {K : PySem.W.Frag} {H : Hp} {v : V} {p : Pt} {Q : VK} (h : CornerAt H v p) (q : ∀ a H', Same H H' → H' a = some (.tup [.int p.1, .int p.2]) → (H a = none ∨ v = .ref a) → Q (.ref a) H') :
    rTupQ K [v] H Q := by
  obtain ⟨t, rfl, h | h⟩ := h
  · exact ⟨t, _, rfl, .inl ⟨SqL.of h, fun l hl => q l _ (same_new hl) upd_same (.inl hl)⟩⟩
  · exact ⟨t, _, rfl, .inr ⟨SqT.of h, q t H (Same.refl H) h (.inr rfl)⟩⟩
theorem wf_each_side {f : Addr} {fd : FuncData} (F : Fun K "each_side" "each_side" seach_side f fd) (T : Txt K mg) : WFn P w K mg base 2 f fd ["ring"] spSides := by
  obtain ⟨oc, od, kV, doc, pm, an, cdv, ct, osl, rfl, lk, hcd⟩ := F.ex
  refine wfn_of (lk := lk) hcd sceach_side (fun _ => rfl) (fun _ _ => rfl) (fun _ _ _ => rfl) (fun vs D n item h => ?_) fun A outer s vs D n item hr h => ?_
  · obtain ⟨v, ps, rfl, _⟩ := h
    rfl
  · obtain ⟨v, ps, rfl, ⟨r, xs, rfl, hr0, hxs⟩, rfl, hn, rfl⟩ := h
    have hlen : xs.length = ps.length := hxs.len
    refine ⟨_, _, _, Itr 0 ps.length, fun j => [some (.ref r), if j = 0 then none else some (.int ((j : Int) - 1))], rfl, fun H0 => pi_range1 (by rfl) T.b_range (pa_cons (pe_callB (r := rLenQ K) (id := "len") (call_lenQ (K := K) rfl) (by rfl) T.b_len PySem.boot_len (pa_cons (pv 0) pa_nil)) pa_nil), fun ex => pg_name (i := 1) sceach_side.nd rfl (.inl rfl),
      fun ex => pe_tup (pa_cons (pe_callTy (r := rTupQ K) (T := "tuple") (call_tupQ (K := K) rfl) (by rfl) T.b_tuple (by decide +kernel) (pa_cons (pe_ix (r := rIx K) (ix_seqQ (K := K) rfl) (pv 0) (pv 1) (fun _ _ => rfl)) pa_nil)) (pa_cons (pe_callTy (r := rTupQ K) (T := "tuple") (call_tupQ (K := K) rfl) (by rfl) T.b_tuple (by decide +kernel) (pa_cons (pe_ix (r := rIx K) (ix_seqQ (K := K) rfl) (pv 0) (pe_op op_mod (pe_op op_add (pv 1) pe_int) (pe_callB (r := rLenQ K) (id := "len") (call_lenQ (K := K) rfl) (by rfl) T.b_len PySem.boot_len (pa_cons (pv 0) pa_nil))) (fun _ _ => rfl)) pa_nil)) pa_nil)), fun H hE => ?_, fun j hj H hE => ⟨hj, fun x H' y => ?_⟩, fun H hE => Nat.le_refl _⟩
    · have hr1 : SeqH H r xs := hr0.mono fun o => hE _ o
      refine ⟨_, rfl, r, xs, rfl, hr1.sq, xs.length, rfl, by omega, by omega, ?_, Same.refl H⟩
      rw [Int.toNat_natCast, hlen]
    · obtain ⟨rfl, rfl⟩ := y
      have hr1 : SeqH H' r xs := hr0.mono fun o => hE _ o
      have hc : AllAt CornerAt H' xs ps := hxs.mono fun _ _ => CornerAt.mono hE
      rw [Int.zero_add]
      refine ⟨?_, ?_⟩
      · show [some (V.ref r), some (V.int (j : Int))] = [some (V.ref r), if j + 1 = 0 then none else some (V.int (((j + 1 : Nat) : Int) - 1))]
        rw [if_neg (Nat.succ_ne_zero j), show ((j + 1 : Nat) : Int) - 1 = (j : Int) by omega]
      · obtain ⟨p, hp⟩ : ∃ p, ps[j]? = some p := ⟨_, List.getElem?_eq_getElem hj⟩
        have hm : (j + 1) % ps.length < ps.length := Nat.mod_lt _ (by omega)
        obtain ⟨q, hq⟩ : ∃ q, ps[(j + 1) % ps.length]? = some q := ⟨_, List.getElem?_eq_getElem hm⟩
        obtain ⟨v1, hv1, c1⟩ := hc.to hp
        obtain ⟨v2, hv2, c2⟩ := hc.to hq
        refine ⟨_, rfl, _, rfl, ix_seqH hr1 hv1 ?_⟩
        refine tnil ?_
        refine tup_corner c1 fun a H1 s1 ha n1 => ?_
        refine ⟨_, rfl, _, rfl, _, _, rfl, rfl, _, rfl, r, xs, rfl, (hr1.mono fun o => s1 _ o).sq, _, _, rfl, rfl, by omega, ?_⟩
        have em : ((j : Int) + 1) % (xs.length : Int) = (((j + 1) % ps.length : Nat) : Int) := by
          rw [hlen, Int.natCast_emod]
          rfl
        refine ix_seqI (hr1.mono fun o => s1 _ o) em hv2 ?_
        refine tnil ?_
        refine tup_corner (c2.mono s1) fun b H2 s2 hb n2 => ⟨by show 2 ≤ sizeLine; decide, fun t ht => ?_⟩
        have s3 := same_new (o := .tup [.ref a, .ref b]) ht
        obtain ⟨w1, hw1, d1⟩ := hxs.to hp
        obtain ⟨w2, hw2, d2⟩ := hxs.to hq
        rw [hv1] at hw1
        rw [hv2] at hw2
        cases hw1
        cases hw2
        have old : ∀ (H4 : Hp), ExtH D H4 → ∀ (u : Addr) (c : Pt) (G1 : Hp), CornerAt D (.ref u) c → Same H' G1 → G1 u = some (.tup [.int c.1, .int c.2]) → H4 u = some (.tup [.int c.1, .int c.2]) := fun H4 hE4 u c G1 hd hs hg => by
          obtain ⟨u', e, q | q⟩ := hd
          · cases e
            have := hs _ _ (hE _ _ q)
            rw [hg] at this
            cases this
          · cases e
            exact hE4 _ _ q
        refine ⟨(s1.trans s2).trans s3, fun H4 hE4 hN => ⟨p, q, hp, hq, t, a, b, rfl, hN t _ (s1.free (s2.free ht)) upd_same, ?_, ?_⟩⟩
        · rcases n1 with n1 | n1
          · exact hN a _ n1 (s3 _ _ (s2 _ _ ha))
          · rw [n1] at d1
            exact old H4 hE4 a p H1 d1 s1 ha
        · rcases n2 with n2 | n2
          · exact hN b _ (s1.free n2) (s3 _ _ hb)
          · rw [n2] at d2
            exact old H4 hE4 b q H2 d2 (s1.trans s2) hb
end
end Pa
set_option maxRecDepth 100000
set_option maxHeartbeats 4000000
namespace Pa
open PySem PySem.Spec PyProof.Rows L2 Win
/-- coordinates within bounds -/
def SmallP (p : Pt) : Prop := (-1000 ≤ p.1 ∧ p.1 ≤ 1000) ∧ (-1000 ≤ p.2 ∧ p.2 ≤ 1000)
section
variable {P : Program} {w : World} {K : PySem.W.Frag} {mg : Str → Option Value} {base : Heap}
/-! ### _count_of -/
def spCount (K : PySem.W.Frag) : Sp := fun vs H Q _ => ∃ v p q x y, vs = [v, .int x, .int y] ∧ SideAt H v p q ∧ SmallP p ∧ SmallP q ∧ (-1000 ≤ x ∧ x ≤ 1000) ∧ (-1000 ≤ y ∧ y ≤ 1000) ∧ Q (.int (cnt x y p q)) H
abbrev s_count_of : Stmt := topS 19
theorem sc_count_of : FnScope ["side", "x", "y", "x0", "y0", "x1", "y1", "rise", "count", "crossing", "middle"] ["side", "x", "y"] (defScope s_count_of) := ⟨rfl, rfl, rfl, by decide +kernel, rfl, by decide +kernel, by decide +kernel⟩
theorem ok_count_of {f : Addr} {fd : FuncData} (F : Fun K "_count_of" "_count_of" s_count_of f fd) (T : Txt K mg) : FnOk P w K mg base CX0 1 f fd ["side", "x", "y"] (spCount K) := by
  refine F.ok sc_count_of (fun vs H Q E h => ?_) (fun cdv A outer s H vs Q E hr h => ?_)
  · obtain ⟨v, p, q, x, y, rfl, _⟩ := h
    rfl
  · obtain ⟨v, p, q, x, y, rfl, ⟨t, a, b, rfl, ht, ha, hb⟩, sp, sq, sx, sy, k⟩ := h
    obtain ⟨p1, p2⟩ := p
    obtain ⟨q1, q2⟩ := q
    unfold SmallP at sp sq
    dsimp only at sp sq ha hb
    refine ⟨_, (pss_cons (ps_asg (pv 0) (pg_tup rfl (pgs_cons (pg_tup rfl (pgs_cons (pg_name (i := 3) sc_count_of.nd rfl (.inl rfl)) (pgs_cons (pg_name (i := 4) sc_count_of.nd rfl (.inl rfl)) pgs_nil))) (pgs_cons (pg_tup rfl (pgs_cons (pg_name (i := 5) sc_count_of.nd rfl (.inl rfl)) (pgs_cons (pg_name (i := 6) sc_count_of.nd rfl (.inl rfl)) pgs_nil))) pgs_nil))))
      (pss_cons (ps_if (PW.pt (pw_or (pt_cmpR op_gt (pe_callB (call_min2 rfl) (by rfl) T.b_min (by decide +kernel) (pa_cons (pv 4) (pa_cons (pv 6) pa_nil))) (pv 2) (nomark _)) (pw_or1 (pt_cmpR op_lt (pe_callB (call_max2 rfl) (by rfl) T.b_max (by decide +kernel) (pa_cons (pv 4) (pa_cons (pv 6) pa_nil))) (pe_op op_add (pv 2) pe_int) (nomark _)))))
        (pss_one (ps_ret pe_int))
        pss_nil)
      (pss_cons (ps_set (i := 7) sc_count_of.nd rfl (.inl rfl) (pe_op op_sub (pv 6) (pv 4)))
      (pss_cons (ps_set (i := 8) sc_count_of.nd rfl (.inl rfl) (pe_ifExp (pt_cmpR op_gt (pv 7) pe_int (nomark _)) pe_int (pe_un un_neg pe_int)))
      (pss_cons (ps_set (i := 9) sc_count_of.nd rfl (.inl rfl) (pe_op op_add (pe_op op_mul (pe_op op_mul pe_int (pv 3)) (pv 7)) (pe_op op_mul (pe_op op_sub (pe_op op_add (pe_op op_mul pe_int (pv 2)) pe_int) (pe_op op_mul pe_int (pv 4))) (pe_op op_sub (pv 5) (pv 3)))))
      (pss_cons (ps_set (i := 10) sc_count_of.nd rfl (.inl rfl) (pe_op op_mul (pe_op op_add (pe_op op_mul pe_int (pv 1)) pe_int) (pv 7)))
      (pss_one (ps_ret (pe_ifExp (pt_cmpR op_gt (pe_op op_mul (pv 8) (pv 9)) (pe_op op_mul (pv 8) (pv 10)) (nomark _)) (pv 8) pe_int))))))))), ?_⟩
    refine ⟨_, rfl, t, _, rfl, SqT.of ht, rfl, _, _, rfl, a, _, rfl, SqT.of ha, rfl, _, _, rfl, _, _, rfl, rfl, _, _, rfl, b, _, rfl, SqT.of hb, rfl, _, _, rfl, _, _, rfl, rfl, rfl, ?_⟩
    have m1 : (if q2 < p2 then q2 else p2) > y ↔ (y < p2 ∧ y < q2) := by split <;> omega
    have m2 : (if q2 > p2 then q2 else p2) < y + 1 ↔ (p2 < y + 1 ∧ q2 < y + 1) := by split <;> omega
    refine ⟨_, rfl, _, rfl, _, _, rfl, _, rfl, _, _, rfl, rfl, _, rfl, ?_⟩
    by_cases c1 : y < p2 ∧ y < q2
    · refine iteP (decide_eq_true (m1.mpr c1)) (iteT ?_)
      rw [cnt_no (p := (p1, p2)) (q := (q1, q2)) (.inl c1)] at k
      exact k
    refine iteQ (fun z => c1 (m1.mp (of_decide_eq_true z))) ?_
    refine ⟨_, rfl, _, rfl, _, _, rfl, _, rfl, _, _, rfl, rfl, _, _, rfl, rfl, _, rfl, ?_⟩
    by_cases c2 : p2 < y + 1 ∧ q2 < y + 1
    · refine iteP (decide_eq_true (m2.mpr c2)) ?_
      rw [cnt_no (p := (p1, p2)) (q := (q1, q2)) (.inr c2)] at k
      exact k
    refine iteQ (fun z => c2 (m2.mp (of_decide_eq_true z))) ?_
    rw [cnt_yes (p := (p1, p2)) (q := (q1, q2)) (by rintro (z | z); exact c1 z; exact c2 z)] at k
    unfold cntP at k
    dsimp only at k
    refine ⟨_, rfl, _, rfl, _, _, rfl, rfl, ?_⟩
    refine ⟨_, rfl, _, _, rfl, rfl, _, rfl, ite2 (fun h1 => ?_) (fun h1 => ?_)⟩
    · have h1 := of_decide_eq_true h1
      rw [if_pos h1] at k
      refine ⟨_, rfl, _, _, rfl, rfl, .inl (by decide), _, rfl, _, _, rfl, rfl, .inr ⟨by omega, by omega⟩, _, rfl, _, _, rfl, rfl, .inl (by decide), _, _, rfl, rfl, _, rfl, _, _, rfl, rfl, .inl (by decide), _, _, rfl, rfl, _, rfl, _, rfl, _, _, rfl, rfl, _, _, rfl, rfl, .inr ⟨by omega, by omega⟩, _, _, rfl, rfl, ?_⟩
      refine ⟨_, rfl, _, _, rfl, rfl, .inl (by decide), _, _, rfl, rfl, _, rfl, _, _, rfl, rfl, .inr ⟨by omega, by omega⟩, ?_⟩
      refine ⟨_, rfl, _, rfl, _, _, rfl, rfl, .inl (by decide), _, rfl, _, rfl, _, _, rfl, rfl, .inl (by decide), _, _, rfl, rfl, _, rfl, ite2 (fun h2 => ⟨_, rfl, ?_⟩) (fun h2 => ?_)⟩
      · rw [if_pos (of_decide_eq_true h2)] at k
        exact k
      · rw [if_neg (fun z => h2 (decide_eq_true z))] at k
        exact k
    · rw [if_neg (fun z => h1 (decide_eq_true z))] at k
      refine ⟨_, rfl, ?_⟩
      refine ⟨_, rfl, _, _, rfl, rfl, .inl (by decide), _, rfl, _, _, rfl, rfl, .inr ⟨by omega, by omega⟩, _, rfl, _, _, rfl, rfl, .inl (by decide), _, _, rfl, rfl, _, rfl, _, _, rfl, rfl, .inl (by decide), _, _, rfl, rfl, _, rfl, _, rfl, _, _, rfl, rfl, _, _, rfl, rfl, .inr ⟨by omega, by omega⟩, _, _, rfl, rfl, ?_⟩
      refine ⟨_, rfl, _, _, rfl, rfl, .inl (by decide), _, _, rfl, rfl, _, rfl, _, _, rfl, rfl, .inr ⟨by omega, by omega⟩, ?_⟩
      refine ⟨_, rfl, _, rfl, _, _, rfl, rfl, .inl (by decide), _, rfl, _, rfl, _, _, rfl, rfl, .inl (by decide), _, _, rfl, rfl, _, rfl, ite2 (fun h2 => ⟨_, rfl, ?_⟩) (fun h2 => ?_)⟩
      · rw [if_pos (of_decide_eq_true h2)] at k
        exact k
      · rw [if_neg (fun z => h2 (decide_eq_true z))] at k
        exact k
end
end Pa
set_option maxRecDepth 100000
set_option maxHeartbeats 4000000
namespace Pa
open PySem PySem.Spec PyProof.Rows L2 Win
/-- either of two walks -/
def iOr (w1 w2 : TI) : TI := fun σ H R => w1 σ H R ∨ w2 σ H R
theorem PI.either {X : Cx} {tg e : Expr} {w1 w2 : TI} (h1 : PI X tg e w1) (h2 : PI X tg e w2) : PI X tg e (iOr w1 w2) :=
  ⟨fun pins s σ H R I h => h.elim (h1.run pins s σ H R I) (h2.run pins s σ H R I)⟩
theorem lc2_out {J : It} {n : Nat} {G : Hp → Prop} {Y : Nat → Hp → V → Hp → Prop} (w : Walk J n G Y) {g : TG} {tt : TT} {Inner : L2.St → Hp → (Hp → Prop) → Prop} {vs : List Nat} {σ : L2.St} {H1 : Hp} {D : Addr} {Qd : Hp → Prop} (Pv : Nat → Hp → Prop) (h0 : Pv 0 (upd H1 D (.lst []))) (hG : ∀ i H, i ≤ n → Pv i H → G H)
    (hs : ∀ i x H H', i < n → Pv i H → Y i H x H' → g x (wipe σ vs) H' fun σ2 H2 => wipe σ2 vs = wipe σ vs ∧ tt σ2 H2 fun b H3 => if b = true then Inner σ2 H3 (Pv (i + 1)) else Pv (i + 1) H3) (hd : ∀ H, Pv n H → Qd H) :
    ∃ W : Nat → Nat → Hp → Prop, (∃ m, W 0 m (upd H1 D (.lst []))) ∧ ∀ i m H, W i m H →
      (J.stop i H ∧ Qd H) ∨ (J.go i H ∧ ∃ Nx : Hp → Prop, (∀ H', Nx H' → ∃ m', m' < m ∧ W (i + 1) m' H') ∧ ∀ x H', J.yld i H x H' → g x (wipe σ vs) H' fun σ2 H2 => wipe σ2 vs = wipe σ vs ∧ tt σ2 H2 fun b H3 =>
        if b = true then Inner σ2 H3 Nx else Nx H3) := by
  refine ⟨fun i m H => m = n - i ∧ i ≤ n ∧ Pv i H, ⟨n, by simp, Nat.zero_le _, h0⟩, ?_⟩
  rintro i m H ⟨rfl, hi, p⟩
  have q := hG i H hi p
  by_cases hlt : i < n
  · exact .inr ⟨w.goes i H hlt q, Pv (i + 1), fun H' p' => ⟨n - (i + 1), by omega, rfl, hlt, p'⟩, fun x H' y => hs i x H H' hlt p (w.yields i H x H' hlt q y)⟩
  · have e : i = n := by omega
    subst e
    exact .inl ⟨w.stops H q, hd H p⟩
/-- the module's name x holds a generator def -/
structure WOk (P : Program) (w : World) (K : PySem.W.Frag) (mg : Str → Option Value) (base : Heap) (k : Nat) (x : Str) (ps : List Str) (sp : SpW) : Prop where
  ok : ∃ (f : Addr) (fd : FuncData), mg x = some (.ref f) ∧ PySem.W.keepIn K (.ref f) = true ∧ Binds K fd ps [] ∧ WFn P w K mg base k f fd ps sp
theorem pgw_cc {X : Cx} {k : Nat} {ps : List Str} {sp : SpW} {x : Str} {p pos : Pos} {e : Expr} {es : List Expr} {t : TA} (C : WOk X.prog X.w X.K X.mg X.base k x ps sp) (hr : Room k X.A) (hg : Gl X x) (ha : PA X (e :: es) t) (hdb : (x == ("__debug__" : Str)) = false := by decide)
    (he : starEach (e :: es) X.env = (false, eval e X.env) :: starEach es X.env := by rfl) (hpl : (backTo pos (starEach es X.env)).any (·.1) = false := by rfl) : PGW X k (.Call (.Name x p) (e :: es) [] pos) (tCallW sp t) := by
  obtain ⟨f, fd, h1, h2, h3, h4⟩ := C.ok
  exact pgw_call h4 hr hg h1 h2 h3 ha hdb he hpl
/-- the lists and tuples of a heap -/
def dataOf (H : Hp) : Hp := fun b => match H b with
  | some (.lst xs) => some (.lst xs)
  | some (.tup xs) => some (.tup xs)
  | _ => none
theorem dataOf_is (H : Hp) : DataHp (dataOf H) := fun b o e => by
  unfold dataOf at e
  split at e
  · exact .inr ⟨_, (Option.some.inj e).symm⟩
  · exact .inl ⟨_, (Option.some.inj e).symm⟩
  · cases e
theorem dataOf_sub (H : Hp) : ExtH (dataOf H) H := fun b o e => by
  unfold dataOf at e
  split at e
  · rename_i h; rw [h]; exact e
  · rename_i h; rw [h]; exact e
  · cases e
theorem SeqH.data {H : Hp} {a : Addr} {xs : List V} (h : SeqH H a xs) : SeqH (dataOf H) a xs := by
  rcases h with h | h
  · exact .inl (by unfold dataOf; rw [h])
  · exact .inr (by unfold dataOf; rw [h])
theorem RingAt.data {H : Hp} {v : V} {ps : List Pt} (h : RingAt H v ps) : RingAt (dataOf H) v ps := by
  obtain ⟨r, xs, e, q, a⟩ := h
  exact ⟨r, xs, e, q.data, a.mono fun x p ⟨t, e, q⟩ => ⟨t, e, q.data⟩⟩
theorem allC_snoc (x y : Int) (rs : List (List Pt)) (ps : List Pt) : allC x y (rs ++ [ps]) = allC x y rs ++ sideC x y ps := by
  unfold allC
  rw [List.map_append, List.flatten_append]
  simp
theorem sideC_len (x y : Int) (ps : List Pt) : (sideC x y ps).length = ps.length := by unfold sideC; simp
theorem sideC_take (x y : Int) (ps : List Pt) (j : Nat) (hj : j < ps.length) : (sideC x y ps).take (j + 1) = (sideC x y ps).take j ++ [cnt x y (ps.getD j (0, 0)) (ps.getD ((j + 1) % ps.length) (0, 0))] := by
  have e : (sideC x y ps)[j]? = some (cnt x y (ps.getD j (0, 0)) (ps.getD ((j + 1) % ps.length) (0, 0))) := by
    unfold sideC
    rw [List.getElem?_map, List.getElem?_range hj]
    rfl
  rw [List.take_add_one, e]
  rfl
theorem allC_len (x y : Int) : ∀ (rs : List (List Pt)), (∀ ps ∈ rs, ps.length ≤ 1000) → (allC x y rs).length ≤ rs.length * 1000
  | [], _ => by simp [allC]
  | ps :: rs, h => by
    have ih := allC_len x y rs fun p hp => h p (List.mem_cons_of_mem _ hp)
    have h1 := h ps List.mem_cons_self
    show ((sideC x y ps) ++ allC x y rs).length ≤ _
    rw [List.length_append, sideC_len, List.length_cons, Nat.add_mul]
    omega
section
variable {P : Program} {w : World} {K : PySem.W.Frag} {mg : Str → Option Value} {base : Heap}
/-! ### winding -/
def GoodRs (rs : List (List Pt)) : Prop := rs.length ≤ 100 ∧ ∀ ps ∈ rs, ps.length ≤ 1000 ∧ ∀ p ∈ ps, SmallP p
def spWinding : Sp := fun vs H Q _ => ∃ v rs x y, vs = [v, .int x, .int y] ∧ RingsAt H v rs ∧ GoodRs rs ∧ (-1000 ≤ x ∧ x ≤ 1000) ∧ (-1000 ≤ y ∧ y ≤ 1000) ∧ ∀ H', Same H H' → Q (.int (wind x y rs)) H'
abbrev swinding : Stmt := topS 18
theorem scwinding : FnScope ["rings", "x", "y", "ring", "side"] ["rings", "x", "y"] (defScope swinding) := ⟨rfl, rfl, rfl, by decide +kernel, rfl, by decide +kernel, by decide +kernel⟩
theorem ok_winding {f : Addr} {fd : FuncData} (F : Fun K "winding" "winding" swinding f fd) (T : Txt K mg) (C_each : WOk P w K mg base 2 "each_side" ["ring"] spSides) (C_count : CallOk P w K mg base 1 "_count_of" ["side", "x", "y"] (spCount K)) : FnOk P w K mg base CX0 4 f fd ["rings", "x", "y"] spWinding := by
  refine F.ok scwinding (fun vs H Q E h => ?_) (fun cdv A outer s H vs Q E hr h => ?_)
  · obtain ⟨v, rs, x, y, rfl, _⟩ := h
    rfl
  · obtain ⟨v, rs, x, y, rfl, ⟨r, xs, rfl, hr0, hxs⟩, ⟨hn, hgood⟩, sx, sy, k⟩ := h
    refine ⟨_, pss_one (ps_ret (pe_callB (cr_sum rfl) (by rfl) T.b_sum (by decide +kernel) (pa_cons (pe_lc2W (k := 2) (own := [("ring", 3), ("side", 4)]) (vs1 := [4]) (wi := iOr (iList K (tVar 0)) (iTup K (tVar 0))) (g := gName 3) (tt := tYes) (tw := tCallW spSides (tCons (tVar 3) tNil)) (g1 := gName 4) (tt1 := tYes) (te := tCall (spCount K) [] E0 (tCons (tVar 4) (tCons (tVar 1) (tCons (tVar 2) tNil))))
      rfl scwinding.nd hr (PI.either (pi_list (pv 0)) (pi_tup (pv 0))) (blkOk_by (N := ["rings", "x", "y", "ring", "side"]) (sc := defScope swinding) (by decide +kernel)) (by decide) (fun _ _ _ _ _ => pg_name (i := 3) scwinding.nd rfl (.inl rfl)) (fun _ _ _ _ _ => pts_nil) (fun _ _ _ _ _ => pgw_cc C_each (hr.mono (by decide)) (by rfl) (pa_cons (pv 3) pa_nil))
      (fun _ _ _ _ _ => pg_name (i := 4) scwinding.nd rfl (.inl rfl)) (fun _ _ _ _ _ => pts_nil) (fun _ _ _ _ _ => pe_cc C_count (hr.mono (by decide)) (by rfl) (pa_cons (pv 4) (pa_cons (pv 1) (pa_cons (pv 2) pa_nil))))) pa_nil))), ?_⟩
    have hlen : xs.length = rs.length := hxs.len
    have sput : ∀ {D : Addr} {H1 : Hp} {o : HO}, H D = none → Same H H1 → Same H (upd H1 D o) := fun {D H1 o} hD s1 b u e => by
      rw [upd_ne (ne_of_none e hD)]
      exact s1 b u e
    have outer : ∀ {J : It} {G : Hp → Prop} (wk : Walk J xs.length G (YAt xs)) (hG : ∀ H', Same H H' → G H') (D : Addr) (hD : H D = none) (Qd : Hp → Prop) (hQ : ∀ H', Same H H' → H' D = some (.lst ((allC x y rs).map V.int)) → Qd H'),
        ∃ W : Nat → Nat → Hp → Prop, (∃ m, W 0 m (upd H D (.lst []))) ∧ ∀ i m H, W i m H →
          (J.stop i H ∧ Qd H) ∨ (J.go i H ∧ ∃ Nx : Hp → Prop, (∀ H', Nx H' → ∃ m', m' < m ∧ W (i + 1) m' H') ∧ ∀ z H', J.yld i H z H' → gName 3 z (wipe [some (V.ref r), some (V.int x), some (V.int y), none, none] [3, 4]) H' fun σ2 H2 => wipe σ2 [3, 4] = wipe [some (V.ref r), some (V.int x), some (V.int y), none, none] [3, 4] ∧ tYes σ2 H2 fun b H3 =>
            if b = true then tCallW spSides (tCons (tVar 3) tNil) σ2 H3 (RdW D (gName 4) tYes (tCall (spCount K) [] E0 (tCons (tVar 4) (tCons (tVar 1) (tCons (tVar 2) tNil)))) σ2 [4] Nx) else Nx H3) := by
      intro J G wk hG D hD Qd hQ
      refine lc2_out wk (fun i H3 => Same H H3 ∧ H3 D = some (.lst ((allC x y (rs.take i)).map V.int))) ⟨same_new hD, upd_same⟩ (fun i H3 _ q => hG H3 q.1) ?_ ?_
      · rintro i u H3 H4 hi ⟨s3, h3⟩ ⟨rfl, hu⟩
        obtain ⟨ps, hps, hra⟩ := hxs.at hu
        have hpm : ps ∈ rs := List.mem_of_getElem? hps
        obtain ⟨g1, g2⟩ := hgood ps hpm
        have etk : rs.take (i + 1) = rs.take i ++ [ps] := by rw [List.take_add_one, hps]; rfl
        have lens : (allC x y (rs.take i)).length ≤ 100000 := by
          have := allC_len x y (rs.take i) fun p hp => (hgood p (List.mem_of_mem_take hp)).1
          rw [List.length_take] at this
          omega
        refine ⟨rfl, ?_⟩
        refine ⟨u, rfl, dataOf H, ps.length, SideIt ps, dataOf_is H, fun b o e => s3 b o (dataOf_sub H b o e), ⟨u, ps, rfl, hra.data, rfl, g1, rfl⟩,
          fun j H5 => Same H H5 ∧ H5 D = some (.lst ((allC x y (rs.take i) ++ (sideC x y ps).take j).map V.int)), ⟨s3, by rw [List.take_zero, List.append_nil]; exact h3⟩, fun H5 ⟨s5, h5⟩ => ⟨s5, ?_⟩, fun j H5 ⟨s5, _⟩ b o e => s5 b o (dataOf_sub H b o e), ?_⟩
        · rw [etk, allC_snoc]
          have e9 : (sideC x y ps).take ps.length = sideC x y ps := List.take_of_length_le (by rw [sideC_len]; exact Nat.le_refl _)
          rw [e9] at h5
          exact h5
        · rintro j hj H5 ⟨s5, h5⟩ z H6 s6 ⟨p, q, hp, hq, sd⟩
          have ep : ps.getD j (0, 0) = p := by rw [List.getD_eq_getElem?_getD, hp]; rfl
          have eq : ps.getD ((j + 1) % ps.length) (0, 0) = q := by rw [List.getD_eq_getElem?_getD, hq]; rfl
          refine ⟨rfl, ?_⟩
          refine ⟨_, rfl, _, rfl, _, rfl, z, p, q, x, y, rfl, sd, g2 p (List.mem_of_getElem? hp), g2 q (List.mem_of_getElem? hq), sx, sy, _, s6 _ _ h5, ?_, sput hD (fun b o e => s6 b o (s5 b o e)), ?_⟩
          · rw [List.length_map, List.length_append, List.length_take, sideC_len]
            exact Nat.lt_of_le_of_lt (m := 101000) (by omega) (by decide)
          · rw [upd_same, sideC_take x y ps j hj, ep, eq, ← List.append_assoc, List.map_append (l₁ := allC x y (rs.take i) ++ (sideC x y ps).take j)]
            rfl
      · rintro H3 ⟨s3, h3⟩
        rw [hlen, List.take_of_length_le (Nat.le_refl _)] at h3
        exact hQ H3 s3 h3
    have fin : ∀ (D : Addr) (H' : Hp), Same H H' → H' D = some (.lst ((allC x y rs).map V.int)) → rSum K [V.ref D] H' Q := fun D H' s' h' => by
      refine ⟨D, allC x y rs, rfl, SqL.of h', ?_⟩
      rw [allC_sum]
      exact k H' s'
    rcases hr0 with h0 | h0
    · refine .inl ⟨_, rfl, r, rfl, ⟨_, SqL.of h0⟩, fun D hD => ?_⟩
      exact outer (walk_list (K := K) (a := r) (xs := xs)) (fun H' s' => SqL.of (s' _ _ h0)) D hD _ fun H' s' h' => fin D H' s' h'
    · refine .inr ⟨_, rfl, r, rfl, ⟨_, SqT.of h0⟩, fun D hD => ?_⟩
      exact outer (walk_tup (K := K) (a := r) (xs := xs)) (fun H' s' => SqT.of (s' _ _ h0)) D hD _ fun H' s' h' => fin D H' s' h'
end
end Pa
set_option maxRecDepth 100000
set_option maxHeartbeats 4000000
namespace Pa
open PySem PySem.Spec PyProof.Rows L2 Win
section
variable {P : Program} {w : World} {K : PySem.W.Frag} {mg : Str → Option Value} {base : Heap}
/-! ### _law_number, of an int -/
def spNum : Sp := fun vs H Q _ => ∃ i : Int, vs = [.int i] ∧ Q (.bl true) H
/-! ### _law_turn -/
def spTurn : Sp := fun vs H Q _ => ∃ v1 v2 p q x y, vs = [v1, v2, .int x, .int y] ∧ CornerAt H v1 p ∧ CornerAt H v2 q ∧ SmallP p ∧ SmallP q ∧ (-1000 ≤ x ∧ x ≤ 1000) ∧ (-1000 ≤ y ∧ y ≤ 1000) ∧ Q (.int (turn x y p q)) H
abbrev sL_turn : Stmt := topS 39
theorem scL_turn : FnScope ["_law_start", "_law_stop", "_law_x", "_law_y", "_law_found"] ["_law_start", "_law_stop", "_law_x", "_law_y"] (defScope sL_turn) := ⟨rfl, rfl, rfl, by decide +kernel, rfl, by decide +kernel, by decide +kernel⟩
theorem ok_lturn {f : Addr} {fd : FuncData} (F : Fun K "_law_turn" "_law_turn" sL_turn f fd) (T : Txt K mg) : FnOk P w K mg base CX0 1 f fd ["_law_start", "_law_stop", "_law_x", "_law_y"] spTurn := by
  refine F.ok scL_turn (fun vs H Q E h => ?_) (fun cdv A outer s H vs Q E hr h => ?_)
  · obtain ⟨v1, v2, p, q, x, y, rfl, _⟩ := h
    rfl
  · obtain ⟨v1, v2, p, q, x, y, rfl, ⟨a, rfl, ha⟩, ⟨b, rfl, hb⟩, sp, sq, sx, sy, k⟩ := h
    obtain ⟨p1, p2⟩ := p
    obtain ⟨q1, q2⟩ := q
    unfold SmallP at sp sq
    dsimp only at sp sq ha hb
    refine ⟨_, (pss_cons (ps_set (i := 4) scL_turn.nd rfl (.inl rfl) (pe_op op_sub (pe_op op_mul (pe_op op_sub (pe_ix (ix_seqQ rfl) (pv 1) pe_int (fun _ _ => rfl)) (pe_ix (ix_seqQ rfl) (pv 0) pe_int (fun _ _ => rfl))) (pe_op op_sub (pe_op op_add (pe_op op_mul pe_int (pv 3)) pe_int) (pe_op op_mul pe_int (pe_ix (ix_seqQ rfl) (pv 0) pe_int (fun _ _ => rfl))))) (pe_op op_mul (pe_op op_sub (pe_ix (ix_seqQ rfl) (pv 1) pe_int (fun _ _ => rfl)) (pe_ix (ix_seqQ rfl) (pv 0) pe_int (fun _ _ => rfl))) (pe_op op_sub (pe_op op_add (pe_op op_mul pe_int (pv 2)) pe_int) (pe_op op_mul pe_int (pe_ix (ix_seqQ rfl) (pv 0) pe_int (fun _ _ => rfl)))))))
      (pss_cons (ps_if (pt_cmpR op_eq (pv 4) pe_int (nomark _))
        (pss_one (ps_set (i := 4) scL_turn.nd rfl (.inl rfl) (pe_op op_sub (pe_ix (ix_seqQ rfl) (pv 0) pe_int (fun _ _ => rfl)) (pe_ix (ix_seqQ rfl) (pv 1) pe_int (fun _ _ => rfl)))))
        pss_nil)
      (pss_one (ps_ret (pe_op op_sub (pe_callTy call_int1 (by rfl) T.b_int (by decide +kernel) (pa_cons (pe_cmpR op_gt (pv 4) pe_int (nomark _)) pa_nil)) (pe_callTy call_int1 (by rfl) T.b_int (by decide +kernel) (pa_cons (pe_cmpR op_lt (pv 4) pe_int (nomark _)) pa_nil))))))), ?_⟩
    have a0 : ∀ {Q : VK}, Q (.int p1) H → rIx K (.ref a) (.int 0) H Q := fun q => ix_seqH (j := 0) ha rfl q
    have a1 : ∀ {Q : VK}, Q (.int p2) H → rIx K (.ref a) (.int 1) H Q := fun q => ix_seqH (j := 1) ha rfl q
    have b0 : ∀ {Q : VK}, Q (.int q1) H → rIx K (.ref b) (.int 0) H Q := fun q => ix_seqH (j := 0) hb rfl q
    have b1 : ∀ {Q : VK}, Q (.int q2) H → rIx K (.ref b) (.int 1) H Q := fun q => ix_seqH (j := 1) hb rfl q
    refine ⟨_, rfl, b0 ⟨_, rfl, a0 ⟨_, _, rfl, rfl, ?_⟩⟩⟩
    refine ⟨_, rfl, _, _, rfl, rfl, .inl (by decide), _, _, rfl, rfl, _, rfl, a1 ⟨_, _, rfl, rfl, .inl (by decide), _, _, rfl, rfl, ?_⟩⟩
    refine ⟨_, _, rfl, rfl, .inr ⟨by omega, by omega⟩, ?_⟩
    refine ⟨_, rfl, b1 ⟨_, rfl, a1 ⟨_, _, rfl, rfl, ?_⟩⟩⟩
    refine ⟨_, rfl, _, _, rfl, rfl, .inl (by decide), _, _, rfl, rfl, _, rfl, a0 ⟨_, _, rfl, rfl, .inl (by decide), _, _, rfl, rfl, ?_⟩⟩
    refine ⟨_, _, rfl, rfl, .inr ⟨by omega, by omega⟩, _, _, rfl, rfl, ?_⟩
    show tSeq _ _ _ (L2.start _ [V.ref a, V.ref b, V.int x, V.int y] |>.set 4 (some (V.int (ff x y (p1, p2) (q1, q2))))) H
    have fin : ∀ g : Int, g = gg x y (p1, p2) (q1, q2) → Q (.int ((if (decide (0 < g)) = true then 1 else 0) - (if (decide (g < 0)) = true then 1 else 0))) H := fun g e => by
      rw [e]
      unfold turn at k
      have e1 : ∀ (c : Prop) [Decidable c], (if (decide c) = true then (1 : Int) else 0) = if c then 1 else 0 := fun c _ => by
        by_cases h : c
        · rw [if_pos h, if_pos (decide_eq_true h)]
        · rw [if_neg h, if_neg (fun z => h (of_decide_eq_true z))]
      rw [e1, e1]
      exact k
    refine ⟨_, rfl, rfl, _, rfl, ite2 (fun h1 => ?_) (fun h1 => ?_)⟩
    · refine ⟨_, rfl, a1 ⟨_, rfl, b1 ⟨_, _, rfl, rfl, ?_⟩⟩⟩
      have h1 := V.int.inj (of_decide_eq_true h1)
      refine ⟨_, rfl, _, _, rfl, rfl, .inr ⟨_, rfl, _, rfl, _, _, rfl, rfl, .inr ⟨_, rfl, _, _, rfl, rfl, ?_⟩⟩⟩
      refine fin (p2 - q2) ?_
      unfold gg
      rw [if_pos h1]
    · have h1 : ¬ ff x y (p1, p2) (q1, q2) = 0 := fun z => h1 (decide_eq_true (by rw [z]))
      refine ⟨_, rfl, _, _, rfl, rfl, .inr ⟨_, rfl, _, rfl, _, _, rfl, rfl, .inr ⟨_, rfl, _, _, rfl, rfl, ?_⟩⟩⟩
      refine fin (ff x y (p1, p2) (q1, q2)) ?_
      unfold gg
      rw [if_neg h1]
/-! ### _law_winding -/
def triS (x y : Int) (l : List Pt) (n : Nat) : Int := ((List.range n).map fun k => tri x y (l.getD 0 (0, 0)) (l.getD (k + 1) (0, 0)) (l.getD (k + 2) (0, 0))).sum
theorem triS_succ (x y : Int) (l : List Pt) (n : Nat) : triS x y l (n + 1) = triS x y l n + tri x y (l.getD 0 (0, 0)) (l.getD (n + 1) (0, 0)) (l.getD (n + 2) (0, 0)) := by
  unfold triS
  rw [List.range_succ, List.map_append, List.sum_append]
  simp
theorem triS_all (x y : Int) (l : List Pt) : triS x y l (l.length - 2) = fan x y l := (fan_ix x y (0, 0) l).symm
theorem wind_snoc (x y : Int) (rs : List (List Pt)) (l : List Pt) : wind x y (rs ++ [l]) = wind x y rs + fan x y l := by
  unfold wind
  rw [List.map_append, List.sum_append]
  simp
theorem eqv_two (a b c d : Int) : PyData.eqv (.list [.int a, .int b]) (.list [.int c, .int d]) = decide (a = c ∧ b = d) := by
  simp only [PyData.eqv, PyData.eqvAll, Bool.and_true]
  rw [Bool.eq_iff_iff]
  simp
theorem shaped_two (a b : Int) : SeqAt.shaped (.list [.int a, .int b]) = true := by simp [SeqAt.shaped, PyData.canLay0, PyData.canLayAll0, PyData.depth, PyData.depthAll]
def spLWind : Sp := fun vs H Q _ => ∃ r xs rs x y, vs = [.ref r, .int x, .int y] ∧ H r = some (.lst xs) ∧ AllAt RingAt H xs rs ∧ GoodRs rs ∧ (-1000 ≤ x ∧ x ≤ 1000) ∧ (-1000 ≤ y ∧ y ≤ 1000) ∧ ∀ H', Same H H' → Q (.int (wind x y rs)) H'
abbrev sL_winding : Stmt := topS 40
theorem scL_winding : FnScope ["_law_rings_here", "_law_x", "_law_y", "_law_total", "_law_ring_here", "_law_k", "_law_turn_here", "_law_others"] ["_law_rings_here", "_law_x", "_law_y"] (defScope sL_winding) := ⟨rfl, rfl, rfl, by decide +kernel, rfl, by decide +kernel, by decide +kernel⟩
theorem ok_lwinding {f : Addr} {fd : FuncData} (F : Fun K "_law_winding" "_law_winding" sL_winding f fd) (T : Txt K mg) (C__law_turn : CallOk P w K mg base 1 "_law_turn" ["_law_start", "_law_stop", "_law_x", "_law_y"] spTurn) : FnOk P w K mg base CX0 2 f fd ["_law_rings_here", "_law_x", "_law_y"] spLWind := by
  refine F.ok scL_winding (fun vs H Q E h => ?_) (fun cdv A outer s H vs Q E hr h => ?_)
  · obtain ⟨r, xs, rs, x, y, rfl, _⟩ := h
    rfl
  · obtain ⟨r, xs, rs, x, y, rfl, h0, hxs, ⟨hn, hgood⟩, sx, sy, k⟩ := h
    refine ⟨_, (pss_cons (ps_set (i := 3) scL_winding.nd rfl (.inl rfl) pe_int)
      (pss_cons (ps_for PassesOwn.never rfl (pi_list (pv 0)) (pg_name (i := 4) scL_winding.nd rfl (.inl rfl))
        (pss_one (ps_for PassesOwn.never rfl (pi_range2 (by rfl) T.b_range (pa_cons pe_int (pa_cons (pe_op op_sub (pe_callB (r := rLenQ K) (id := "len") (call_lenQ (K := K) rfl) (by rfl) T.b_len PySem.boot_len (pa_cons (pv 4) pa_nil)) pe_int) pa_nil))) (pg_name (i := 5) scL_winding.nd rfl (.inl rfl))
          (pss_cons (ps_set (i := 6) scL_winding.nd rfl (.inl rfl) (pe_cc C__law_turn (hr.mono (by decide)) (by rfl) (pa_cons (pe_ix (ix_seqQ (K := K) rfl) (pv 4) pe_int (fun _ _ => rfl)) (pa_cons (pe_ix (ix_seqQ (K := K) rfl) (pv 4) (pv 5) (fun _ _ => rfl)) (pa_cons (pv 1) (pa_cons (pv 2) pa_nil))))))
          (pss_cons (ps_set (i := 7) scL_winding.nd rfl (.inl rfl) (pe_lst (pa_cons (pe_cc C__law_turn (hr.mono (by decide)) (by rfl) (pa_cons (pe_ix (ix_seqQ (K := K) rfl) (pv 4) (pv 5) (fun _ _ => rfl)) (pa_cons (pe_ix (ix_seqQ (K := K) rfl) (pv 4) (pe_op op_add (pv 5) pe_int) (fun _ _ => rfl)) (pa_cons (pv 1) (pa_cons (pv 2) pa_nil))))) (pa_cons (pe_cc C__law_turn (hr.mono (by decide)) (by rfl) (pa_cons (pe_ix (ix_seqQ (K := K) rfl) (pv 4) (pe_op op_add (pv 5) pe_int) (fun _ _ => rfl)) (pa_cons (pe_ix (ix_seqQ (K := K) rfl) (pv 4) pe_int (fun _ _ => rfl)) (pa_cons (pv 1) (pa_cons (pv 2) pa_nil))))) pa_nil))))
          (pss_one (ps_if (pt_cmpR (op_eqD hr.units) (pv 7) (pe_lst (pa_cons (pv 6) (pa_cons (pv 6) pa_nil))) (nomark _))
            (pss_one (ps_aug (i := 3) scL_winding.nd rfl (.inl rfl) (pv 6) ip_add))
            pss_nil)))))))
      (pss_one (ps_ret (pv 3))))), ?_⟩
    have hlen : xs.length = rs.length := hxs.len
    refine ⟨_, rfl, r, rfl, ⟨_, SqL.of h0⟩, for_list (K := K) (a := r) (xs := xs) (fun i σ H' => ∃ (y4 y5 y6 y7 : Option V), σ = [some (.ref r), some (.int x), some (.int y), some (.int (wind x y (rs.take i))), y4, y5, y6, y7] ∧ Same H H')
      ⟨none, none, none, none, rfl, Same.refl H⟩ (fun i σ H' _ ⟨_, _, _, _, _, s1⟩ => SqL.of (s1 _ _ h0)) ?_ ?_⟩
    · rintro i u σ H' hu ⟨y4, y5, y6, y7, rfl, s1⟩
      obtain ⟨ps, hps, hra⟩ := hxs.at hu
      obtain ⟨a, cs, rfl, ha0, hcs⟩ := hra
      have hpm : ps ∈ rs := List.mem_of_getElem? hps
      obtain ⟨g1, g2⟩ := hgood ps hpm
      have etk : rs.take (i + 1) = rs.take i ++ [ps] := by rw [List.take_add_one, hps]; rfl
      have hcl : cs.length = ps.length := hcs.len
      rw [etk, wind_snoc]
      generalize wind x y (rs.take i) = tot
      have ha1 : SeqH H' a cs := ha0.mono fun o => s1 _ o
      refine ⟨_, rfl, a, _, rfl, ha1.sq, _, _, rfl, rfl, ?_⟩
      have en : ((cs.length : Int) - 1 - 1).toNat = ps.length - 2 := by omega
      refine ⟨_, _, rfl, ⟨by decide, by decide, by omega, by omega⟩, ?_⟩
      rw [en]
      refine for_range (lo := 1) (n := ps.length - 2) (fun j σ H2 => ∃ (y5 y6 y7 : Option V), σ = [some (.ref r), some (.int x), some (.int y), some (.int (tot + triS x y ps j)), some (.ref a), y5, y6, y7] ∧ Same H H2)
        ⟨y5, y6, y7, by rw [show triS x y ps 0 = 0 from rfl, Int.add_zero]; rfl, s1⟩ ?_ ?_
      · rintro j σ H2 hj ⟨z5, z6, z7, rfl, s2⟩
        have ha2 : SeqH H2 a cs := ha0.mono fun o => s2 _ o
        have hc2 : AllAt CornerAt H2 cs ps := hcs.mono fun _ _ => CornerAt.mono s2
        obtain ⟨p0, hp0⟩ : ∃ p, ps[0]? = some p := ⟨_, List.getElem?_eq_getElem (by omega)⟩
        obtain ⟨p1, hp1⟩ : ∃ p, ps[j + 1]? = some p := ⟨_, List.getElem?_eq_getElem (by omega)⟩
        obtain ⟨p2, hp2⟩ : ∃ p, ps[j + 2]? = some p := ⟨_, List.getElem?_eq_getElem (by omega)⟩
        obtain ⟨u0, hu0, c0⟩ := hc2.to hp0
        obtain ⟨u1, hu1, c1⟩ := hc2.to hp1
        obtain ⟨u2, hu2, c2⟩ := hc2.to hp2
        have q0 := g2 p0 (List.mem_of_getElem? hp0)
        have q1 := g2 p1 (List.mem_of_getElem? hp1)
        have q2 := g2 p2 (List.mem_of_getElem? hp2)
        have et : triS x y ps (j + 1) = triS x y ps j + tri x y p0 p1 p2 := by
          rw [triS_succ, List.getD_eq_getElem?_getD, List.getD_eq_getElem?_getD, List.getD_eq_getElem?_getD, hp0, hp1, hp2]
          rfl
        have e1 : (1 : Int) + (j : Int) = ((j + 1 : Nat) : Int) := by omega
        have e2 : (1 : Int) + (j : Int) + 1 = ((j + 2 : Nat) : Int) := by omega
        rw [et]
        refine ⟨_, rfl, ix_seqH (j := 0) ha2 hu0 ⟨_, rfl, _, rfl, ix_seqI ha2 e1 hu1 ⟨_, rfl, _, rfl, ?_⟩⟩⟩
        refine ⟨_, _, p0, p1, x, y, rfl, c0, c1, q0, q1, sx, sy, ?_⟩
        refine ⟨_, rfl, _, rfl, ix_seqI ha2 e1 hu1 ⟨_, rfl, _, rfl, _, _, rfl, rfl, ix_seqI ha2 e2 hu2 ⟨_, rfl, _, rfl, ?_⟩⟩⟩
        refine ⟨_, _, p1, p2, x, y, rfl, c1, c2, q1, q2, sx, sy, ?_⟩
        refine ⟨_, rfl, _, rfl, _, _, rfl, rfl, ix_seqI ha2 e2 hu2 ⟨_, rfl, ix_seqH (j := 0) ha2 hu0 ⟨_, rfl, _, rfl, ?_⟩⟩⟩
        refine ⟨_, _, p2, p0, x, y, rfl, c2, c0, q2, q0, sx, sy, ?_⟩
        refine ⟨by show 2 ≤ sizeLine; decide, fun l hl => ?_⟩
        have s3 := s2.trans (same_new (o := .lst [.int (turn x y p1 p2), .int (turn x y p2 p0)]) hl)
        refine ⟨_, rfl, _, rfl, _, rfl, by show 2 ≤ sizeLine; decide, fun l2 hl2 => ?_⟩
        have s4 := s3.trans (same_new (o := .lst [.int (turn x y p0 p1), .int (turn x y p0 p1)]) hl2)
        refine ⟨_, _, Dp.lst (SqL.of (same_new hl2 _ _ upd_same)) (.cons (.int _) (.cons (.int _) .nil)), Dp.lst (SqL.of upd_same) (.cons (.int _) (.cons (.int _) .nil)), shaped_two _ _, shaped_two _ _, _, rfl, ite2 (fun h1 => ?_) (fun h1 => ?_)⟩
        · rw [eqv_two] at h1
          have h1 := of_decide_eq_true h1
          have e5 : tri x y p0 p1 p2 = turn x y p0 p1 := by unfold tri; rw [if_pos h1]
          rw [e5, ← Int.add_assoc]
          exact ⟨_, rfl, _, rfl, _, _, rfl, rfl, _, _, _, rfl, s4⟩
        · rw [eqv_two] at h1
          have h1 := fun z => h1 (decide_eq_true z)
          have e5 : tri x y p0 p1 p2 = 0 := by unfold tri; rw [if_neg h1]
          rw [e5, Int.add_zero]
          exact ⟨_, _, _, rfl, s4⟩
      · rintro σ H2 ⟨z5, z6, z7, rfl, s2⟩
        rw [triS_all]
        exact ⟨_, _, _, _, rfl, s2⟩
    · rintro σ H' ⟨y4, y5, y6, y7, rfl, s1⟩
      rw [hlen, List.take_of_length_le (Nat.le_refl _)]
      exact ⟨_, rfl, k H' s1⟩
end
end Pa
set_option maxRecDepth 100000
set_option maxHeartbeats 4000000
namespace Pa
open PySem PySem.Spec PyProof.Rows L2 Win
/-- a corner as a tuple; a ring as a list of such; a list of such rings -/
def ptV (p : Pt) : List V := [.int p.1, .int p.2]
def CornT (H : Hp) (v : V) (p : Pt) : Prop := TupAt H v (ptV p)
def RingL (H : Hp) (v : V) (ps : List Pt) : Prop := ∃ r xs, v = .ref r ∧ H r = some (.lst xs) ∧ AllAt CornT H xs ps
theorem CornT.at {H : Hp} {v : V} {p : Pt} (h : CornT H v p) : CornerAt H v p := by
  obtain ⟨t, e, q⟩ := h
  exact ⟨t, e, .inr q⟩
theorem CornT.mono {H H' : Hp} (s : Same H H') {v : V} {p : Pt} (h : CornT H v p) : CornT H' v p := TupAt.mono (Tups.of s) h
theorem AllAt.imp {α : Type} {R S : Hp → V → α → Prop} {H H' : Hp} : ∀ {xs : List V} {ys : List α}, (∀ x y, R H x y → S H' x y) → AllAt R H xs ys → AllAt S H' xs ys
  | [], [], _, _ => trivial
  | _ :: _, _ :: _, f, h => ⟨f _ _ h.1, AllAt.imp f h.2⟩
  | [], _ :: _, _, h => h.elim
  | _ :: _, [], _, h => h.elim
theorem RingL.at {H : Hp} {v : V} {ps : List Pt} (h : RingL H v ps) : RingAt H v ps := by
  obtain ⟨t, xs, e, q, a⟩ := h
  exact ⟨t, xs, e, .inl q, a.imp fun _ _ => CornT.at⟩
theorem RingL.mono {H H' : Hp} (s : Same H H') {v : V} {ps : List Pt} (h : RingL H v ps) : RingL H' v ps := by
  obtain ⟨t, xs, e, q, a⟩ := h
  exact ⟨t, xs, e, s _ _ q, a.mono fun _ _ => CornT.mono s⟩
def Cell (p : Pt) : Prop := (0 ≤ p.1 ∧ p.1 ≤ 4) ∧ (0 ≤ p.2 ∧ p.2 ≤ 4)
/-- neighbours differ -/
def Adj (zs : List Int) : Prop := ∀ (j : Nat) x y, zs[j]? = some x → zs[j + 1]? = some y → x ≠ y
theorem Adj.snoc {zs : List Int} {l z : Int} (h : Adj (zs ++ [l])) (hz : l ≠ z) : Adj (zs ++ [l] ++ [z]) := by
  intro j x y hx hy
  by_cases e : j + 1 < (zs ++ [l]).length
  · rw [List.getElem?_append_left e] at hy
    rw [List.getElem?_append_left (by omega)] at hx
    exact h j x y hx hy
  · have hl := (List.getElem?_eq_some_iff.mp hy).1
    rw [List.length_append, List.length_singleton] at hl
    have ej : j + 1 = (zs ++ [l]).length := by omega
    rw [ej, List.getElem?_append_right (Nat.le_refl _), Nat.sub_self] at hy
    cases hy
    have ej2 : j = zs.length := by rw [List.length_append, List.length_singleton] at ej; omega
    rw [List.getElem?_append_left (by omega), ej2, List.getElem?_append_right (Nat.le_refl _), Nat.sub_self] at hx
    cases hx
    exact hz
def NbrC {α : Type} (ps : List α) : Prop := ∀ (j : Nat) p q, ps[j]? = some p → ps[(j + 1) % ps.length]? = some q → p ≠ q
def Ring8 (ps : List Pt) : Prop := (3 ≤ ps.length ∧ ps.length ≤ 8) ∧ (∀ p ∈ ps, Cell p) ∧ NbrC ps
theorem last2 {zs : List Int} (h : 1 ≤ zs.length) : ∃ zs0 l, zs = zs0 ++ [l] ∧ l ∈ zs ∧ atI (zs.map V.int) (-1) = some (.int l) := by
  rcases List.eq_nil_or_concat zs with rfl | ⟨i, l, rfl⟩
  · cases h
  · refine ⟨i, l, by rw [List.concat_eq_append], by simp, ?_⟩
    rw [List.concat_eq_append, List.map_append]
    exact atI_last _ _
theorem first2 {zs : List Int} (h : 1 ≤ zs.length) : ∃ l, zs[0]? = some l ∧ l ∈ zs ∧ atI (zs.map V.int) 0 = some (.int l) := by
  cases zs with
  | nil => cases h
  | cons z t => exact ⟨z, rfl, List.mem_cons_self, atI_nat (j := 0) rfl⟩
theorem last_ints {zs : List Int} (h : 1 ≤ zs.length) : ∃ l, l ∈ zs ∧ atI (zs.map V.int) (-1) = some (.int l) := by
  rcases List.eq_nil_or_concat zs with rfl | ⟨i, l, rfl⟩
  · cases h
  · refine ⟨l, by simp, ?_⟩
    rw [List.concat_eq_append, List.map_append]
    exact atI_last _ _
theorem first_ints {zs : List Int} (h : 1 ≤ zs.length) : ∃ l, l ∈ zs ∧ atI (zs.map V.int) 0 = some (.int l) := by
  cases zs with
  | nil => cases h
  | cons z t => exact ⟨z, List.mem_cons_self, atI_nat (j := 0) rfl⟩
theorem atI_intsM {ns : List Int} {i : Int} (h0 : 0 ≤ i) (h : i < (ns.length : Int)) : ∃ z : Int, z ∈ ns ∧ atI (ns.map V.int) i = some (.int z) := by
  obtain ⟨n, rfl⟩ : ∃ n : Nat, i = (n : Int) := ⟨i.toNat, by omega⟩
  have hn : n < ns.length := by omega
  exact ⟨ns[n], List.getElem_mem hn, atI_nat (j := n) (by rw [List.getElem?_map, List.getElem?_eq_getElem hn]; rfl)⟩
def spotP (z : Int) : Pt := (z / 5, z - z / 5 * 5)
theorem spot_inj {x y : Int} (h : spotP x = spotP y) : x = y := by
  unfold spotP at h
  injection h with h1 h2
  omega
/-- a way round whose neighbours differ -/
theorem nbr_of {zs : List Int} {f l : Int} (h2 : 2 ≤ zs.length) (h : Adj zs) (hf : zs[0]? = some f) (hl : zs[zs.length - 1]? = some l) (hfl : l ≠ f) : NbrC (zs.map spotP) := by
  intro j p q hp hq
  rw [List.getElem?_map] at hp hq
  rw [List.length_map] at hq
  cases ex : zs[j]? with
  | none => rw [ex] at hp; cases hp
  | some x =>
    cases ey : zs[(j + 1) % zs.length]? with
    | none => rw [ey] at hq; cases hq
    | some y =>
      rw [ex] at hp
      rw [ey] at hq
      cases hp
      cases hq
      have hj := (List.getElem?_eq_some_iff.mp ex).1
      intro z
      have z := spot_inj z
      by_cases e : j + 1 < zs.length
      · rw [Nat.mod_eq_of_lt e] at ey
        exact h j x y ex ey z
      · have ej : j = zs.length - 1 := by omega
        have e0 : (j + 1) % zs.length = 0 := by
          have : j + 1 = zs.length := by omega
          rw [this, Nat.mod_self]
        rw [e0, hf] at ey
        rw [ej, hl] at ex
        cases ex
        cases ey
        exact hfl z
theorem Bk.putN {b p : Addr} {H H' : Hp} {o : HO} (x : Bk b H H') (hb : IsBag H b) (h : H p = none) : Bk b H (upd H' p o) := by
  have npb : b ≠ p := fun e => by
    obtain ⟨g, y, c, e2⟩ := hb
    rw [← e, e2] at h
    cases h
  obtain ⟨⟨g, y, c, e⟩, kp⟩ := x
  exact ⟨⟨g, y, c, by rw [upd_ne npb]; exact e⟩, fun q u hq eq => by rw [upd_ne (ne_of_none eq h)]; exact kp q u hq eq⟩
theorem Bk.refl {b : Addr} {H : Hp} (hb : IsBag H b) : Bk b H H := ⟨hb, fun _ _ _ e => e⟩
theorem Bk.cornT {b : Addr} {H H' : Hp} (hb : IsBag H b) (x : Bk b H H') {v : V} {p : Pt} (h : CornT H v p) : CornT H' v p := by
  obtain ⟨t, e, q⟩ := h
  refine ⟨t, e, x.keep _ _ (fun z => ?_) q⟩
  obtain ⟨g, y, c, e2⟩ := hb
  rw [z, e2] at q
  cases q
theorem bag_ne {H : Hp} {b p : Addr} (hb : IsBag H b) (h : H p = none) : p ≠ b := fun e => by
  obtain ⟨g, y, c, e2⟩ := hb
  rw [e, e2] at h
  cases h
theorem in_two' (a b c : Int) : inV (.int a) [V.int b, V.int c] = decide (b = a ∨ c = a) := by
  have e : inV (.int a) [V.int b, V.int c] = ((b == a) || ((c == a) || false)) := rfl
  rw [e, Bool.or_false, Bool.eq_iff_iff]
  simp
section
variable {P : Program} {w : World} {K : PySem.W.Frag} {mg : Str → Option Value} {base : Heap}
/-! ### _law_ring -/
def spLRing : Sp := fun vs H Q _ => ∃ (b : Addr) (m : Int), vs = [.ref b, .int m] ∧ IsBag H b ∧ 3 ≤ m ∧ m ≤ 8 ∧ ∀ (p : Addr) (H' : Hp) (xs : List V) (ps : List Pt), H p = none → Bk b H H' → H' p = some (.lst xs) → AllAt CornT H' xs ps → Ring8 ps → Q (.ref p) H'
abbrev sL_ring : Stmt := topS 37
theorem scL_ring : FnScope ["_law_bag_here", "_law_many", "_law_spots", "_law_turn_here", "_law_left", "_law_spot"] ["_law_bag_here", "_law_many"] (defScope sL_ring) := ⟨rfl, rfl, rfl, by decide +kernel, rfl, by decide +kernel, by decide +kernel⟩
theorem ok_lring {f : Addr} {fd : FuncData} (F : Fun K "_law_ring" "_law_ring" sL_ring f fd) (T : Txt K mg) (C__law_draw : CallOk P w K mg base 1 "_law_draw" ["_law_bag_here", "_law_many"] spDraw) : FnOk P w K mg base CX0 2 f fd ["_law_bag_here", "_law_many"] spLRing := by
  refine F.ok scL_ring (fun vs H Q E h => ?_) (fun cdv A outer s H vs Q E hr h => ?_)
  · obtain ⟨b, m, rfl, _⟩ := h
    rfl
  · obtain ⟨b, m, rfl, hb, hm1, hm2, k⟩ := h
    refine ⟨_, (pss_cons (ps_set (i := 2) scL_ring.nd rfl (.inr rfl) (pe_lst (pa_cons (pe_cc C__law_draw (hr.mono (by decide)) (by rfl) (pa_cons (pv 0) (pa_cons pe_int pa_nil))) pa_nil)))
      (pss_cons (ps_for PassesOwn.never rfl (pi_range1 (by rfl) T.b_range (pa_cons (pe_op op_sub (pv 1) pe_int) pa_nil)) (pg_name (i := 3) scL_ring.nd rfl (.inl rfl))
        (pss_one (ps_expr (pe_bm PySem.F.plainAttrs_list PySem.F.slot_list_append PySem.F.type_list_append mt_append (pv 2) (pa_cons (pe_op op_mod (pe_callTy call_int1 (by rfl) T.b_int (by decide +kernel) (pa_cons (pe_op op_add (pe_op op_add (pe_ix ix_list (pv 2) (pe_un un_neg pe_int) (fun _ _ => rfl)) pe_int) (pe_cc C__law_draw (hr.mono (by decide)) (by rfl) (pa_cons (pv 0) (pa_cons pe_int pa_nil)))) pa_nil)) pe_int) pa_nil)))))
      (pss_cons (ps_setLc (i := 4) (own := [("_law_spot", 5)]) (g := gName 5) (tt := tTest (tOp (rIn K true) (tVar 5) (tLst (tCons (tOp (rIxL K) (tVar 2) (tUn (rU fun i => .int (-i)) (tC (.int 1)))) (tCons (tOp (rIxL K) (tVar 2) (tC (.int 0))) tNil))))) (te := tVar 5) rfl scL_ring.nd rfl rfl (sw_true rfl rfl rfl (by decide +kernel)) (pi_range1 (by rfl) T.b_range (pa_cons pe_int pa_nil)) (blkOk_by (N := ["_law_bag_here", "_law_many", "_law_spots", "_law_turn_here", "_law_left", "_law_spot"]) (sc := defScope sL_ring) (by decide +kernel)) (fun _ _ _ _ _ => (pg_name (i := 5) scL_ring.nd rfl (.inl rfl))) (fun _ _ _ _ _ => (pts_one (pt_cmpR op_notIn_seq (pv 5) (pe_lst (pa_cons (pe_ix ix_list (pv 2) (pe_un un_neg pe_int) (fun _ _ => rfl)) (pa_cons (pe_ix ix_list (pv 2) pe_int (fun _ _ => rfl)) pa_nil))) (by rfl)))) (fun _ _ _ _ _ => (pv 5)))
      (pss_cons (ps_expr (pe_bm PySem.F.plainAttrs_list PySem.F.slot_list_append PySem.F.type_list_append mt_append (pv 2) (pa_cons (pe_ix ix_list (pv 4) (pe_cc C__law_draw (hr.mono (by decide)) (by rfl) (pa_cons (pv 0) (pa_cons (pe_callB (r := rLenQ K) (id := "len") (call_lenQ (K := K) rfl) (by rfl) T.b_len PySem.boot_len (pa_cons (pv 4) pa_nil)) pa_nil))) (fun _ _ => rfl)) pa_nil)))
      (pss_one (ps_ret (pe_lc (own := [("_law_spot", 5)]) (g := gName 5) (tt := tYes) (te := tTup (tCons (tOp (rI CDiv fun i j => .int (i / j)) (tVar 5) (tC (.int 5))) (tCons (tOp (rI0 fun i j => .int (i - j)) (tVar 5) (tOp (rI CMul fun i j => .int (i * j)) (tOp (rI CDiv fun i j => .int (i / j)) (tVar 5) (tC (.int 5))) (tC (.int 5)))) tNil))) rfl scL_ring.nd (pi_list (pv 2)) (blkOk_by (N := ["_law_bag_here", "_law_many", "_law_spots", "_law_turn_here", "_law_left", "_law_spot"]) (sc := defScope sL_ring) (by decide +kernel)) (fun _ _ _ _ _ => (pg_name (i := 5) scL_ring.nd rfl (.inl rfl))) (fun _ _ _ _ _ => pts_nil) (fun _ _ _ _ _ => (pe_tup (pa_cons (pe_op op_fdiv (pv 5) pe_int) (pa_cons (pe_op op_sub (pv 5) (pe_op op_mul (pe_op op_fdiv (pv 5) pe_int) pe_int)) pa_nil))))))))))), ?_⟩
    refine ⟨_, rfl, b, 25, rfl, hb, by decide, by decide, fun d H1 d0 d1 B1 => ⟨by show 1 ≤ sizeLine; decide, fun q hq => ?_⟩⟩
    have hqH : H q = none := B1.free hb hq
    have nqb : q ≠ b := bag_ne hb hqH
    have keepq : ∀ {H2 H3 : Hp} {o : HO}, Bk b H2 H3 → H2 q = some o → H3 q = some o := fun B e => B.keep q _ nqb e
    refine ⟨_, rfl, _, _, rfl, rfl, ?_⟩
    refine ⟨_, rfl, by omega, by omega, for_range (lo := 0) (n := (m - 2).toNat) (fun i σ H2 => ∃ (y3 : Option V) (zs : List Int), σ = [some (.ref b), some (.int m), some (.ref q), y3, none, none] ∧ Bk b H H2 ∧ H2 q = some (.lst (zs.map V.int)) ∧ zs.length = i + 1 ∧ (∀ z ∈ zs, 0 ≤ z ∧ z < 25) ∧ Adj zs)
      ⟨none, [d], rfl, (B1.fresh hq), upd_same, rfl, fun z hz => by rw [List.mem_singleton] at hz; omega, fun j x y _ hy => by simp at hy⟩ ?_ ?_⟩
    · rintro i σ H2 hi ⟨y3, zs, rfl, B2, hz, hzl, hzb, hadj⟩
      obtain ⟨zs0, l, ezs, hl, hat⟩ := last2 (zs := zs) (by omega)
      have bl0 := hzb l hl
      refine ⟨_, rfl, .inl ⟨rfl, _, SqL.of hz⟩, _, rfl, 1, rfl, q, _, _, _, rfl, rfl, SqL.of hz, hat, _, _, rfl, rfl, ?_⟩
      refine ⟨_, rfl, b, 24, rfl, B2.bag, by decide, by decide, fun e H3 e0 e1 B3 => ?_⟩
      refine ⟨_, _, rfl, rfl, .inl ⟨_, rfl, _, _, rfl, rfl, (by show (0 : Int) < 25; decide), ?_⟩⟩
      have hz3 := keepq B3 hz
      refine ⟨q, _, _, rfl, rfl, hz3, by rw [List.length_map]; exact Nat.lt_of_le_of_lt (m := 100) (by omega) (by decide), ?_⟩
      refine ⟨_, zs ++ [(l + 1 + e) % 25], rfl, (B2.trans B3).putN hb hqH, by rw [upd_same, List.map_append]; rfl, by rw [List.length_append, hzl]; rfl, fun z hz => ?_, by rw [ezs] at hadj ⊢; exact hadj.snoc (by omega)⟩
      rcases List.mem_append.mp hz with hz | hz
      · exact hzb z hz
      · rw [List.mem_singleton] at hz
        omega
    · rintro σ H2 ⟨y3, zs, rfl, B2, hz, hzl, hzb, hadj⟩
      obtain ⟨zs0, l, ezs, hl, hat⟩ := last2 (zs := zs) (by omega)
      obtain ⟨f0, hf0, hf, hft⟩ := first2 (zs := zs) (by omega)
      have bl := hzb l hl
      have bf := hzb f0 hf
      refine ⟨_, rfl, by omega, by omega, fun D hD => ?_⟩
      have hDH : H D = none := B2.free hb hD
      have nDb : D ≠ b := bag_ne hb hDH
      have nDq : q ≠ D := fun z => by rw [← z, hz] at hD; cases hD
      refine lc_range (lo := 0) (n := (25 : Int).toNat) (fun i H3 => ∃ acc : List Int, H3 D = some (.lst (acc.map V.int)) ∧ Bk b H H3 ∧ H3 q = some (.lst (zs.map V.int)) ∧ (∀ z ∈ acc, (0 ≤ z ∧ z < 25) ∧ z ≠ l ∧ z ≠ f0) ∧ acc.length ≤ i ∧ (i : Int) - (if l < i then 1 else 0) - (if f0 < i then 1 else 0) ≤ acc.length)
        ⟨[], upd_same, B2.putN hb hDH, by rw [upd_ne nDq]; exact hz, fun z hz => (List.not_mem_nil hz).elim, Nat.zero_le _, by show (0 : Int) - _ - _ ≤ 0; split <;> split <;> omega⟩ ?_ ?_
      · rintro i H3 hi ⟨acc, hacc, B3, hq3, hab, hal, hac⟩
        refine ⟨rfl, ?_⟩
        refine ⟨_, rfl, _, rfl, 1, rfl, q, _, _, _, rfl, rfl, SqL.of hq3, hat, _, rfl, q, _, _, _, rfl, rfl, SqL.of hq3, hft, by show 2 ≤ sizeLine; decide, fun u hu => ?_⟩
        have nuD : D ≠ u := fun z => by rw [← z, hacc] at hu; cases hu
        have nuq : q ≠ u := fun z => by rw [← z, hq3] at hu; cases hu
        refine ⟨u, _, rfl, .inl (SqL.of upd_same), rfl, rfl, _, rfl, ite2 (fun h1 => ?_) (fun h1 => ?_)⟩
        all_goals rw [if_pos rfl, in_two'] at h1
        · have h1 : ¬ (l = 0 + (i : Int) ∨ f0 = 0 + (i : Int)) := fun z => by rw [decide_eq_true z] at h1; cases h1
          refine ⟨_, rfl, acc.map V.int, by rw [upd_ne nuD]; exact hacc, by rw [List.length_map]; exact Nat.lt_of_le_of_lt (m := 100) (by omega) (by decide), ?_⟩
          refine ⟨acc ++ [0 + (i : Int)], by rw [upd_same, List.map_append]; rfl, (B3.fresh hu).putN hb hDH, by rw [upd_ne nDq, upd_ne nuq]; exact hq3, fun z hz => ?_, by rw [List.length_append]; show acc.length + 1 ≤ _; omega, ?_⟩
          · rcases List.mem_append.mp hz with hz | hz
            · exact hab z hz
            · rw [List.mem_singleton] at hz
              exact ⟨by omega, fun q => h1 (.inl (by omega)), fun q => h1 (.inr (by omega))⟩
          · rw [List.length_append]
            show ((i + 1 : Nat) : Int) - _ - _ ≤ ((acc.length + 1 : Nat) : Int)
            split at hac <;> split at hac <;> split <;> split <;> omega
        · have h1 : l = 0 + (i : Int) ∨ f0 = 0 + (i : Int) := by
            rcases Decidable.em (l = 0 + (i : Int) ∨ f0 = 0 + (i : Int)) with z | z
            · exact z
            · rw [decide_eq_false z] at h1
              exact absurd rfl h1
          refine ⟨acc, by rw [upd_ne nuD]; exact hacc, B3.fresh hu, by rw [upd_ne nuq]; exact hq3, hab, by omega, ?_⟩
          split at hac <;> split at hac <;> split <;> split <;> omega
      · rintro H3 ⟨acc, hacc, B3, hq3, hab, hal, hac⟩
        have hn0 : 1 ≤ acc.length := by split at hac <;> split at hac <;> omega
        have hn1 : acc.length ≤ 25 := hal
        refine ⟨_, rfl, .inl ⟨rfl, _, SqL.of hq3⟩, _, rfl, _, rfl, _, rfl, D, _, rfl, .inl (SqL.of hacc), ?_⟩
        refine ⟨b, _, rfl, B3.bag, by rw [List.length_map]; omega, by rw [List.length_map]; exact Int.lt_of_le_of_lt (b := 100) (by omega) (by decide), fun e H4 e0 e1 B4 => ?_⟩
        rw [List.length_map] at e1
        have hacc4 := B4.keep D _ nDb hacc
        have hq4 := keepq B4 hq3
        obtain ⟨z, hzm, hz4⟩ := atI_intsM (ns := acc) e0 e1
        obtain ⟨bz, bzl, bzf⟩ := hab z hzm
        refine ⟨D, _, _, _, rfl, rfl, SqL.of hacc4, hz4, ?_⟩
        refine ⟨q, _, _, rfl, rfl, hq4, by rw [List.length_map]; exact Nat.lt_of_le_of_lt (m := 100) (by omega) (by decide), ?_⟩
        have BB := ((B3.trans B4).putN hb hqH (o := .lst (zs.map V.int ++ [V.int z])))
        have hq5 : (upd H4 q (.lst (zs.map V.int ++ [V.int z]))) q = some (.lst ((zs ++ [z]).map V.int)) := by rw [upd_same, List.map_append]; rfl
        have hb5 : ∀ y ∈ zs ++ [z], 0 ≤ y ∧ y < 25 := fun y hy => by
          rcases List.mem_append.mp hy with hy | hy
          · exact hzb y hy
          · rw [List.mem_singleton] at hy
            omega
        have hl5 : (zs ++ [z]).length = (m - 2).toNat + 2 := by rw [List.length_append, hzl]; rfl
        have hn5 : NbrC ((zs ++ [z]).map spotP) := by
          refine nbr_of (f := f0) (l := z) (by omega) ?_ ?_ ?_ bzf
          · rw [ezs] at hadj ⊢
            exact hadj.snoc (fun q => bzl q.symm)
          · rw [List.getElem?_append_left (by omega)]
            exact hf0
          · rw [List.length_append, List.length_singleton, Nat.add_sub_cancel, List.getElem?_append_right (Nat.le_refl _), Nat.sub_self]
            rfl
        revert BB hq5 hb5 hl5 hn5
        generalize zs ++ [z] = ys
        generalize upd H4 q (.lst (zs.map V.int ++ [V.int z])) = H5
        intro BB hq5 hb5 hl5 hn5
        refine ⟨_, rfl, q, rfl, ⟨_, SqL.of hq5⟩, fun G hG => ?_⟩
        have hGH : H G = none := BB.free hb hG
        have nGq : q ≠ G := fun z => by rw [← z, hq5] at hG; cases hG
        refine lc_list (K := K) (a := q) (xs := ys.map V.int) (fun i H6 => ∃ ls, H6 G = some (.lst ls) ∧ AllAt CornT H6 ls ((ys.take i).map spotP) ∧ Bk b H H6 ∧ H6 q = some (.lst (ys.map V.int)))
          ⟨[], upd_same, trivial, BB.putN hb hGH, by rw [upd_ne nGq]; exact hq5⟩ (fun i H6 _ ⟨_, _, _, _, h6⟩ => SqL.of h6) ?_ ?_
        · rintro i x H6 hx ⟨ls, hls, hall, B6, hq6⟩
          rw [List.getElem?_map] at hx
          cases hy : ys[i]? with
          | none => rw [hy] at hx; cases hx
          | some y =>
            rw [hy] at hx
            cases hx
            have by0 := hb5 y (List.mem_of_getElem? hy)
            have hlen : ls.length ≤ 100 := by
              rw [hall.len, List.length_map, List.length_take]
              omega
            refine ⟨rfl, _, rfl, _, _, rfl, rfl, ⟨by decide, by decide⟩, _, rfl, _, rfl, _, _, rfl, rfl, ⟨by decide, by decide⟩, _, _, rfl, rfl, .inr ⟨by decide, by decide⟩, _, _, rfl, rfl, by show 2 ≤ sizeLine; decide, fun p hp => ?_⟩
            obtain ⟨p1, p2, p3, p4⟩ := all_push (f := ptV) (y := spotP y) (tv := [.int (y / 5), .int (y - y / 5 * 5)]) hls hall hp rfl
            refine ⟨ls, p3, Nat.lt_of_le_of_lt hlen (by decide), _, p1, ?_, (B6.fresh hp).putN hb hGH, p4 _ _ nGq hq6⟩
            rw [List.take_add_one, hy, List.map_append]
            exact p2
        · rintro H6 ⟨ls, hls, hall, B6, hq6⟩
          rw [List.length_map, List.take_of_length_le (Nat.le_refl _)] at hall
          refine k G H6 ls _ hGH B6 hls hall ⟨?_, ?_, hn5⟩
          · rw [List.length_map]
            omega
          · rintro p hp
            obtain ⟨y, hy, rfl⟩ := List.mem_map.mp hp
            have := hb5 y hy
            unfold spotP Cell
            dsimp only
            omega
/-! ### _law_rings -/
def spLRings : Sp := fun vs H Q _ => ∃ (b : Addr), vs = [.ref b] ∧ IsBag H b ∧ ∀ (p : Addr) (H' : Hp) (xs : List V) (rs : List (List Pt)), H p = none → Bk b H H' → H' p = some (.lst xs) → AllAt RingL H' xs rs → rs.length ≤ 3 → (∀ ps ∈ rs, Ring8 ps) → Q (.ref p) H'
abbrev sL_rings : Stmt := topS 38
theorem scL_rings : FnScope ["_law_bag_here", "_law_found", "_law_turn_here"] ["_law_bag_here"] (defScope sL_rings) := ⟨rfl, rfl, rfl, by decide +kernel, rfl, by decide +kernel, by decide +kernel⟩
theorem Bk.ringL {b : Addr} {H H' : Hp} (hb : IsBag H b) (x : Bk b H H') {v : V} {ps : List Pt} (h : RingL H v ps) : RingL H' v ps ∨ v = .ref b := by
  obtain ⟨r, xs, e, q, a⟩ := h
  by_cases z : r = b
  · exact .inr (by rw [e, z])
  · exact .inl ⟨r, xs, e, x.keep _ _ z q, a.imp fun _ _ => x.cornT hb⟩
theorem ok_lrings {f : Addr} {fd : FuncData} (F : Fun K "_law_rings" "_law_rings" sL_rings f fd) (T : Txt K mg) (C__law_draw : CallOk P w K mg base 1 "_law_draw" ["_law_bag_here", "_law_many"] spDraw) (C__law_ring : CallOk P w K mg base 2 "_law_ring" ["_law_bag_here", "_law_many"] spLRing) : FnOk P w K mg base CX0 3 f fd ["_law_bag_here"] spLRings := by
  refine F.ok scL_rings (fun vs H Q E h => ?_) (fun cdv A outer s H vs Q E hr h => ?_)
  · obtain ⟨b, rfl, _⟩ := h
    rfl
  · obtain ⟨b, rfl, hb, k⟩ := h
    refine ⟨_, (pss_cons (ps_set (i := 1) scL_rings.nd rfl (.inl rfl) (pe_lst pa_nil))
      (pss_cons (ps_for PassesOwn.never rfl (pi_range1 (by rfl) T.b_range (pa_cons (pe_op op_add pe_int (pe_cc C__law_draw (hr.mono (by decide)) (by rfl) (pa_cons (pv 0) (pa_cons pe_int pa_nil)))) pa_nil)) (pg_name (i := 2) scL_rings.nd rfl (.inl rfl))
        (pss_one (ps_expr (pe_bm PySem.F.plainAttrs_list PySem.F.slot_list_append PySem.F.type_list_append mt_append (pv 1) (pa_cons (pe_cc C__law_ring (hr.mono (by decide)) (by rfl) (pa_cons (pv 0) (pa_cons (pe_op op_add pe_int (pe_cc C__law_draw (hr.mono (by decide)) (by rfl) (pa_cons (pv 0) (pa_cons pe_int pa_nil)))) pa_nil))) pa_nil)))))
      (pss_one (ps_ret (pv 1))))), ?_⟩
    refine ⟨by show 0 ≤ sizeLine; decide, fun q hq => ?_⟩
    have nqb : q ≠ b := bag_ne hb hq
    have B0 : Bk b H (upd H q (.lst [])) := (Bk.refl hb).putN hb hq
    refine ⟨_, rfl, b, 3, rfl, B0.bag, by decide, by decide, fun d H1 d0 d1 B1 => ?_⟩
    refine ⟨_, _, rfl, rfl, _, rfl, by omega, by omega, for_range (lo := 0) (n := (1 + d).toNat) (fun i σ H2 => ∃ (y2 : Option V) (ls : List V) (rs : List (List Pt)), σ = [some (.ref b), some (.ref q), y2] ∧ Bk b H H2 ∧ H2 q = some (.lst ls) ∧ AllAt (fun H v ps => RingL H v ps ∧ v ≠ .ref b ∧ v ≠ .ref q) H2 ls rs ∧ rs.length = i ∧ ∀ ps ∈ rs, Ring8 ps)
      ⟨none, [], [], rfl, B0.trans B1, B1.keep _ _ nqb upd_same, trivial, rfl, fun z hz => (List.not_mem_nil hz).elim⟩ ?_ ?_⟩
    · rintro i σ H2 hi ⟨y2, ls, rs, rfl, B2, hls, hall, hrl, hr8⟩
      refine ⟨_, rfl, .inl ⟨rfl, _, SqL.of hls⟩, _, rfl, _, rfl, b, 6, rfl, B2.bag, by decide, by decide, fun e H3 e0 e1 B3 => ?_⟩
      refine ⟨_, _, rfl, rfl, b, 3 + e, rfl, B3.bag, by omega, by omega, fun p H4 xs ps hp B4 hx hps h8 => ?_⟩
      have B5 := B3.trans B4
      have hp2 : H2 p = none := B3.free B2.bag hp
      have npq : p ≠ q := fun z => by rw [z, hls] at hp2; cases hp2
      have hls4 := B5.keep q _ nqb hls
      have hll : ls.length ≤ 100 := by rw [hall.len, hrl]; omega
      refine ⟨q, _, _, rfl, rfl, hls4, Nat.lt_of_le_of_lt hll (by decide), ?_⟩
      have put : ∀ {v : V} {ps : List Pt}, RingL H4 v ps → v ≠ .ref q → RingL (upd H4 q (.lst (ls ++ [V.ref p]))) v ps := fun {v ps} ⟨r, xs, e, h1, h2⟩ nq => by
        refine ⟨r, xs, e, ?_, h2.imp fun _ _ => TupAt.mono (Tups.lst hls4)⟩
        rw [upd_ne (fun z => nq (by rw [e, z]))]
        exact h1
      refine ⟨_, ls ++ [.ref p], rs ++ [ps], rfl, (B2.trans B5).putN hb hq, upd_same, ?_, by rw [List.length_append, hrl]; rfl, fun z hz => ?_⟩
      · refine AllAt.snoc (AllAt.imp (fun v ps h => ?_) hall) ⟨put ⟨p, xs, rfl, hx, hps⟩ (fun z => npq (V.ref.inj z)), fun z => bag_ne B2.bag hp2 (V.ref.inj z), fun z => npq (V.ref.inj z)⟩
        obtain ⟨h1, h2, h3⟩ := h
        rcases B5.ringL B2.bag h1 with h1 | h1
        · exact ⟨put h1 h3, h2, h3⟩
        · exact absurd h1 h2
      · rcases List.mem_append.mp hz with hz | hz
        · exact hr8 z hz
        · rw [List.mem_singleton] at hz
          rw [hz]
          exact h8
    · rintro σ H2 ⟨y2, ls, rs, rfl, B2, hls, hall, hrl, hr8⟩
      exact ⟨_, rfl, k q H2 ls rs hq B2 hls (hall.imp fun _ _ h => h.1) (by omega) hr8⟩
end
end Pa
set_option maxRecDepth 100000
set_option maxHeartbeats 4000000
namespace Pa
open PySem PySem.Spec PyProof.Rows L2 Win
/-! ### data, for == and != -/
def ptD (p : Pt) : PyData := .tuple [.int p.1, .int p.2]
def sdD (p q : Pt) : PyData := .tuple [ptD p, ptD q]
theorem ptD_lay (p : Pt) : (ptD p).canLay0 = true := by simp [ptD, PyData.canLay0, PyData.canLayAll0]
theorem sdD_lay (p q : Pt) : (sdD p q).canLay0 = true := by simp [sdD, PyData.canLay0, PyData.canLayAll0, ptD_lay]
theorem sdD_shaped (p q : Pt) : SeqAt.shaped (sdD p q) = true := by simp [SeqAt.shaped, sdD, ptD, PyData.canLay0, PyData.canLayAll0, PyData.depth, PyData.depthAll]
theorem dp_pt {K : PySem.W.Frag} {H : Hp} {t : Addr} {p : Pt} (h : H t = some (.tup (ptV p))) : Dp K H (.ref t) (ptD p) := .tup (SqT.of h) (.cons (.int _) (.cons (.int _) .nil))
theorem dp_ptT {K : PySem.W.Frag} {H : Hp} {v : V} {p : Pt} (h : CornT H v p) : Dp K H v (ptD p) := by
  obtain ⟨t, rfl, h⟩ := h
  exact dp_pt h
theorem dp_sd {K : PySem.W.Frag} {H : Hp} {v : V} {p q : Pt} (h : SideAt H v p q) : Dp K H v (sdD p q) := by
  obtain ⟨t, a, b, rfl, h1, h2, h3⟩ := h
  exact .tup (SqT.of h1) (.cons (dp_pt h2) (.cons (dp_pt h3) .nil))
theorem nNe (a : V) : ¬ ((!decide (a = a)) = true) := by
  rw [decide_eq_true rfl]
  decide
end Pa
set_option maxRecDepth 100000
set_option maxHeartbeats 4000000
namespace Pa
open PySem PySem.Spec PyProof.Rows L2 Win
/-! ### a list that is made item by item, each item new -/
def hide (D : Addr) (H : Hp) : Hp := fun b => if b = D then none else H b
theorem hide_sub (D : Addr) (H : Hp) : Same (hide D H) H := fun b u e => by
  unfold hide at e
  split at e
  · cases e
  · exact e
theorem hide_keep {D : Addr} {G H : Hp} (s : Same G H) (h : G D = none) : Same G (hide D H) := fun b u e => by
  unfold hide
  rw [if_neg (ne_of_none e h)]
  exact s b u e
theorem hide_put {D l : Addr} {H : Hp} {o o2 : HO} (hl : l ≠ D) : hide D (upd (upd H l o) D o2) = upd (hide D H) l o := by
  funext b
  unfold hide
  by_cases h1 : b = D
  · rw [if_pos h1, upd_ne (by rw [h1]; exact Ne.symm hl), if_pos h1]
  · rw [if_neg h1, upd_ne h1]
    by_cases h2 : b = l
    · rw [h2, upd_same, upd_same]
    · rw [upd_ne h2, upd_ne h2, if_neg h1]
theorem lc_made {α : Type} {K : PySem.W.Frag} {R : Hp → V → α → Prop} {a : Addr} {xs : List V} {ys : List α} {n5 : Nat} {te : TE} {σ : L2.St} {H1 : Hp} {D : Addr} {Qd : Hp → Prop} (hR : ∀ {H H' : Hp} {v : V} {y : α}, Same H H' → R H v y → R H' v y)
    (ha : H1 a = some (.lst xs)) (hD : H1 D = none) (hl : xs.length = ys.length) (hz : ys.length ≤ 100) (hw : ∀ x, wipe ((wipe σ [n5]).set n5 (some x)) [n5] = wipe σ [n5])
    (el : ∀ (i : Nat) x y (H3 : Hp) (Q : VK), xs[i]? = some x → ys[i]? = some y → Same H1 H3 → (∀ l o, H3 l = none → (∀ H5, Same H1 H5 → H5 l = some o → R H5 (.ref l) y) → Q (.ref l) (upd H3 l o)) → te ((wipe σ [n5]).set n5 (some x)) H3 Q)
    (hd : ∀ ls H', H' D = some (.lst ls) → AllAt R H' ls ys → Same H1 H' → Qd H') :
    ∃ W : Nat → Nat → Hp → Prop, (∃ m, W 0 m (upd H1 D (.lst []))) ∧ ∀ i m H, W i m H →
      ((Itl K a).stop i H ∧ Qd H) ∨ ((Itl K a).go i H ∧ ∃ Nx : Hp → Prop, (∀ H', Nx H' → ∃ m', m' < m ∧ W (i + 1) m' H') ∧ ∀ x H', (Itl K a).yld i H x H' → gName n5 x (wipe σ [n5]) H' fun σ2 H2 => wipe σ2 [n5] = wipe σ [n5] ∧ tYes σ2 H2 fun b H3 =>
        if b = true then te σ2 H3 fun y H4 => ∃ acc, H4 D = some (.lst acc) ∧ acc.length < sizeLine ∧ Nx (upd H4 D (.lst (acc ++ [y]))) else Nx H3) := by
  refine lc_list (K := K) (a := a) (xs := xs) (fun i H3 => ∃ ls, H3 D = some (.lst ls) ∧ AllAt R (hide D H3) ls (ys.take i) ∧ Same H1 (hide D H3)) ⟨[], upd_same, by rw [List.take_zero]; trivial, hide_keep (same_new hD) hD⟩
    (fun i H3 _ ⟨_, _, _, s3⟩ => SqL.of (hide_sub D H3 _ _ (s3 _ _ ha))) ?_ ?_
  · rintro i x H3 hx ⟨ls, hls, hall, s3⟩
    have hi : i < ys.length := by
      have := (List.getElem?_eq_some_iff.mp hx).1
      omega
    obtain ⟨y, hy⟩ : ∃ y, ys[i]? = some y := ⟨_, List.getElem?_eq_getElem hi⟩
    have s31 : Same H1 H3 := fun b u e => hide_sub D H3 _ _ (s3 b u e)
    refine ⟨hw x, el i x y H3 _ hx hy s31 fun l o hlo hq => ?_⟩
    have nlD : l ≠ D := fun z => by rw [z, hls] at hlo; cases hlo
    have hln : (hide D H3) l = none := by unfold hide; rw [if_neg nlD]; exact hlo
    refine ⟨ls, by rw [upd_ne (Ne.symm nlD)]; exact hls, Nat.lt_of_le_of_lt (m := 100) (by rw [hall.len, List.length_take]; omega) (by decide), ls ++ [.ref l], upd_same, ?_, ?_⟩
    · rw [hide_put nlD, List.take_add_one, hy]
      exact AllAt.snoc (hall.mono fun _ _ => hR (same_new hln)) (hq _ (s3.trans (same_new hln)) upd_same)
    · rw [hide_put nlD]
      exact s3.trans (same_new hln)
  · rintro H3 ⟨ls, hls, hall, s3⟩
    rw [hl, List.take_of_length_le (Nat.le_refl _)] at hall
    exact hd ls H3 hls (hall.mono fun _ _ => hR (hide_sub D H3)) fun b u e => hide_sub D H3 _ _ (s3 b u e)
/-! ### rings as data -/
def rgD (ps : List Pt) : PyData := .list (ps.map ptD)
def rsD (rs : List (List Pt)) : PyData := .list (rs.map rgD)
theorem lay_map {α : Type} {f : α → PyData} (h : ∀ x, (f x).canLay0 = true) : ∀ xs : List α, PyData.canLayAll0 (xs.map f) = true
  | [] => by simp [PyData.canLayAll0]
  | x :: xs => by simp [PyData.canLayAll0, h x, lay_map h xs]
theorem dep_map {α : Type} {f : α → PyData} {d : Nat} (h : ∀ x, (f x).depth ≤ d) : ∀ xs : List α, PyData.depthAll (xs.map f) ≤ d
  | [] => by simp [PyData.depthAll]
  | x :: xs => by
    have h1 := dep_map h xs
    have h2 := h x
    simp only [List.map_cons, PyData.depthAll]
    omega
theorem ptD_dep (p : Pt) : (ptD p).depth ≤ 1 := by simp [ptD, PyData.depth, PyData.depthAll]
theorem rgD_lay (ps : List Pt) : (rgD ps).canLay0 = true := by simp only [rgD, PyData.canLay0]; exact lay_map ptD_lay ps
theorem rgD_dep (ps : List Pt) : (rgD ps).depth ≤ 2 := by
  have := dep_map ptD_dep ps
  simp only [rgD, PyData.depth]
  omega
theorem rsD_shaped (rs : List (List Pt)) : SeqAt.shaped (rsD rs) = true := by
  have h1 : (rsD rs).canLay0 = true := by simp only [rsD, PyData.canLay0]; exact lay_map rgD_lay rs
  have h2 : (rsD rs).depth ≤ 64 := by
    have := dep_map rgD_dep rs
    simp only [rsD, PyData.depth]
    omega
  show ((rsD rs).canLay0 && decide ((rsD rs).depth ≤ 64)) = true
  rw [h1, decide_eq_true h2]
  rfl
theorem dp_all {α : Type} {K : PySem.W.Frag} {R : Hp → V → α → Prop} {f : α → PyData} {H : Hp} (h : ∀ v y, R H v y → Dp K H v (f y)) : ∀ {xs : List V} {ys : List α}, AllAt R H xs ys → DpAll K H xs (ys.map f)
  | [], [], _ => .nil
  | _ :: _, _ :: _, hh => .cons (h _ _ hh.1) (dp_all h hh.2)
  | [], _ :: _, hh => hh.elim
  | _ :: _, [], hh => hh.elim
theorem dp_rg {K : PySem.W.Frag} {H : Hp} {v : V} {ps : List Pt} (h : RingL H v ps) : Dp K H v (rgD ps) := by
  obtain ⟨r, xs, rfl, h1, h2⟩ := h
  exact .lst (SqL.of h1) (dp_all (fun _ _ => dp_ptT) h2)
theorem dp_rs {K : PySem.W.Frag} {H : Hp} {p : Addr} {xs : List V} {rs : List (List Pt)} (h : H p = some (.lst xs)) (ha : AllAt RingL H xs rs) : Dp K H (.ref p) (rsD rs) := .lst (SqL.of h) (dp_all (fun _ _ => dp_rg) ha)
theorem good8 {rs : List (List Pt)} (h3 : rs.length ≤ 3) (h8 : ∀ ps ∈ rs, Ring8 ps) : GoodRs rs := by
  refine ⟨by omega, fun ps hp => ⟨?_, fun p hpp => ?_⟩⟩
  · have := (h8 ps hp).1
    omega
  · have := (h8 ps hp).2.1 p hpp
    unfold Cell at this
    unfold SmallP
    omega
theorem good_rev {rs : List (List Pt)} (h : GoodRs rs) : GoodRs (rs.map List.reverse) := by
  refine ⟨by rw [List.length_map]; exact h.1, fun ps hp => ?_⟩
  obtain ⟨qs, hq, rfl⟩ := List.mem_map.mp hp
  rw [List.length_reverse]
  exact ⟨(h.2 qs hq).1, fun p hpp => (h.2 qs hq).2 p (List.mem_reverse.mp hpp)⟩
theorem AllAt.rev {α : Type} {R : Hp → V → α → Prop} {H : Hp} : ∀ {xs : List V} {ys : List α}, AllAt R H xs ys → AllAt R H xs.reverse ys.reverse
  | [], [], _ => trivial
  | _ :: _, _ :: _, h => by
    rw [List.reverse_cons, List.reverse_cons]
    exact AllAt.snoc (AllAt.rev h.2) h.1
  | [], _ :: _, h => h.elim
  | _ :: _, [], h => h.elim
def RingV (H : Hp) (v : V) (ps : List Pt) : Prop := RingL H v ps.reverse
def RingT (H : Hp) (v : V) (ps : List Pt) : Prop := ∃ r xs, v = .ref r ∧ H r = some (.tup xs) ∧ AllAt CornT H xs ps
theorem RingT.mono {H H' : Hp} (s : Same H H') {v : V} {ps : List Pt} (h : RingT H v ps) : RingT H' v ps := by
  obtain ⟨t, xs, e, q, a⟩ := h
  exact ⟨t, xs, e, s _ _ q, a.mono fun _ _ => CornT.mono s⟩
theorem RingT.at {H : Hp} {v : V} {ps : List Pt} (h : RingT H v ps) : RingAt H v ps := by
  obtain ⟨t, xs, e, q, a⟩ := h
  exact ⟨t, xs, e, .inr q, a.imp fun _ _ => CornT.at⟩
theorem AllAt.mapR {α β : Type} {R : Hp → V → α → Prop} {S : Hp → V → β → Prop} {f : α → β} {H : Hp} (h : ∀ v y, R H v y → S H v (f y)) : ∀ {xs : List V} {ys : List α}, AllAt R H xs ys → AllAt S H xs (ys.map f)
  | [], [], _ => trivial
  | _ :: _, _ :: _, hh => ⟨h _ _ hh.1, AllAt.mapR h hh.2⟩
  | [], _ :: _, hh => hh.elim
  | _ :: _, [], hh => hh.elim
end Pa
set_option maxRecDepth 100000
set_option maxHeartbeats 4000000
namespace Pa
open PySem PySem.Spec PyProof.Rows L2 Win
/-! ### rows of ink -/
structure R4 where
  a : Bool
  b : Bool
  c : Bool
  d : Bool
def chN (x : Bool) : Nat := if x = true then 35 else 46
def chS (x : Bool) : Str := if x = true then "#" else "."
def R4.s (r : R4) : Str := ⟨#[chN r.a, chN r.b, chN r.c, chN r.d]⟩
def R4.lft (r : R4) : Int := if r.a = true then 0 else if r.b = true then 1 else if r.c = true then 2 else if r.d = true then 3 else -1
def R4.rgt (r : R4) : Int := if r.d = true then 3 else if r.c = true then 2 else if r.b = true then 1 else if r.a = true then 0 else -1
def R4.bit (r : R4) : Nat → Bool
  | 0 => r.a
  | 1 => r.b
  | 2 => r.c
  | _ => r.d
def R4.plN (r : R4) : Nat → List Int
  | 0 => []
  | n + 1 => r.plN n ++ if r.bit n = true then [(n : Int)] else []
def R4.all (p : R4 → Bool) : Bool := [true, false].all fun a => [true, false].all fun b => [true, false].all fun c => [true, false].all fun d => p ⟨a, b, c, d⟩
theorem R4.of {p : R4 → Bool} (h : R4.all p = true) (r : R4) : p r = true := by
  obtain ⟨a, b, c, d⟩ := r
  have m : ∀ x : Bool, x ∈ [true, false] := fun x => by cases x <;> simp
  exact List.all_eq_true.mp (List.all_eq_true.mp (List.all_eq_true.mp (List.all_eq_true.mp h a (m a)) b (m b)) c (m c)) d (m d)
theorem find_row (r : R4) : Txt.find r.s "#" = r.lft := of_decide_eq_true (R4.of (p := fun r => decide (Txt.find r.s "#" = r.lft)) (by decide +kernel) r)
theorem rfind_row (r : R4) : Txt.rfind r.s "#" = r.rgt := of_decide_eq_true (R4.of (p := fun r => decide (Txt.rfind r.s "#" = r.rgt)) (by decide +kernel) r)
theorem join_row (r : R4) : Txt.join "" [chS r.a, chS r.b, chS r.c, chS r.d] = r.s := of_decide_eq_true (R4.of (p := fun r => decide (Txt.join "" [chS r.a, chS r.b, chS r.c, chS r.d] = r.s)) (by decide +kernel) r)
theorem size_row (r : R4) : (([chS r.a, chS r.b, chS r.c, chS r.d].map (·.length)).sum + [chS r.a, chS r.b, chS r.c, chS r.d].length * ("" : Str).length) ≤ 16777216 := of_decide_eq_true (R4.of (p := fun r => decide ((([chS r.a, chS r.b, chS r.c, chS r.d].map (·.length)).sum + [chS r.a, chS r.b, chS r.c, chS r.d].length * ("" : Str).length) ≤ 16777216)) (by decide +kernel) r)
theorem ends_row (r : R4) : -1 ≤ r.lft ∧ r.lft ≤ r.rgt ∧ r.rgt ≤ 3 ∧ (r.rgt < 0 → r.lft < 0) ∧ (r.lft < 0 → r.rgt < 0) := of_decide_eq_true (R4.of (p := fun r => decide (-1 ≤ r.lft ∧ r.lft ≤ r.rgt ∧ r.rgt ≤ 3 ∧ (r.rgt < 0 → r.lft < 0) ∧ (r.lft < 0 → r.rgt < 0))) (by decide +kernel) r)
/-- the places of ink -/
theorem pl_row (r : R4) : (∀ x ∈ r.plN 4, 0 ≤ x ∧ x ≤ r.rgt) ∧ (r.rgt < 0 → r.plN 4 = []) ∧ (0 ≤ r.rgt → r.rgt ∈ r.plN 4 ∧ atI ((r.plN 4).map V.int) 0 = some (.int r.lft) ∧ atI ((r.plN 4).map V.int) (-1) = some (.int r.rgt)) := by
  obtain ⟨a, b, c, d⟩ := r
  cases a <;> cases b <;> cases c <;> cases d <;> (refine ⟨by decide, fun h => ?_, fun h => ?_⟩) <;> first | rfl | exact ⟨by decide, rfl, rfl⟩ | exact absurd h (by decide)
/-- behind the last ink of a row that is cut at s -/
theorem cut_row (r : R4) (s : Nat) (hs : s ≤ 4) (h : r.rgt + 1 ≤ (s : Int)) : (!(Builtin.Str.occurrences (cutS r.s none (some (s : Int))) "#" 0 (cutS r.s none (some (s : Int))).length 1).isEmpty) = decide (0 ≤ r.rgt) ∧
    (0 ≤ r.rgt → ((cutS r.s none (some (s : Int))).length : Int) - ((Txt.rstripChars (cutS r.s none (some (s : Int))) ".").length : Int) = (s : Int) - r.rgt - 1) := by
  have k := R4.of (p := fun r => (List.range 5).all fun s => decide (r.rgt + 1 ≤ (s : Int) → (!(Builtin.Str.occurrences (cutS r.s none (some (s : Int))) "#" 0 (cutS r.s none (some (s : Int))).length 1).isEmpty) = decide (0 ≤ r.rgt) ∧
    (0 ≤ r.rgt → ((cutS r.s none (some (s : Int))).length : Int) - ((Txt.rstripChars (cutS r.s none (some (s : Int))) ".").length : Int) = (s : Int) - r.rgt - 1))) (by decide +kernel) r
  exact of_decide_eq_true (List.all_eq_true.mp k s (List.mem_range.mpr (by omega))) h
theorem lead_row (r : R4) : (!(Builtin.Str.occurrences r.s "#" 0 r.s.length 1).isEmpty) = decide (0 ≤ r.lft) ∧ (0 ≤ r.lft → (r.s.length : Int) - ((Txt.lstripChars r.s ".").length : Int) = r.lft) :=
  of_decide_eq_true (R4.of (p := fun r => decide ((!(Builtin.Str.occurrences r.s "#" 0 r.s.length 1).isEmpty) = decide (0 ≤ r.lft) ∧ (0 ≤ r.lft → (r.s.length : Int) - ((Txt.lstripChars r.s ".").length : Int) = r.lft))) (by decide +kernel) r)
theorem at_row (r : R4) (x : Nat) (hx : x < 4) : atI r.s.cps.toList (x : Int) = some (chN (r.bit x)) := by
  match x, hx with
  | 0, _ => rfl
  | 1, _ => rfl
  | 2, _ => rfl
  | 3, _ => rfl
theorem ch_eq (x : Bool) : decide (V.str ⟨#[chN x]⟩ = V.str "#") = x := by cases x <;> decide +kernel
theorem row_ok (r : R4) : PyData.strOk r.s = true := R4.of (p := fun r => PyData.strOk r.s) (by decide +kernel) r
theorem row_len (r : R4) : r.s.length = 4 := rfl
def I4 := Nat → R4
def inkV (k : I4) : List V := [.str (k 0).s, .str (k 1).s, .str (k 2).s, .str (k 3).s]
def inkD (k : I4) : PyData := .tuple [.str (k 0).s, .str (k 1).s, .str (k 2).s, .str (k 3).s]
theorem inkD_lay (k : I4) : (inkD k).canLay0 = true := by simp [inkD, PyData.canLay0, PyData.canLayAll0, row_ok]
theorem inkD_shaped (k : I4) : SeqAt.shaped (inkD k) = true := by simp [SeqAt.shaped, inkD, PyData.canLay0, PyData.canLayAll0, PyData.depth, PyData.depthAll, row_ok]
theorem dp_ink {K : PySem.W.Frag} {H : Hp} {t : Addr} {k : I4} (h : H t = some (.tup (inkV k))) : Dp K H (.ref t) (inkD k) := .tup (SqT.of h) (.cons (.str _) (.cons (.str _) (.cons (.str _) (.cons (.str _) .nil))))
theorem at_ink (k : I4) (y : Nat) (hy : y < 4) : (inkV k)[y]? = some (.str (k y).s) := by
  match y, hy with
  | 0, _ => rfl
  | 1, _ => rfl
  | 2, _ => rfl
  | 3, _ => rfl
def stp (k : I4) : Int := max (max ((k 0).rgt + 1) ((k 1).rgt + 1)) (max ((k 2).rgt + 1) ((k 3).rgt + 1))
theorem stp_ge (k : I4) (y : Nat) (hy : y < 4) : (k y).rgt + 1 ≤ stp k := by
  unfold stp
  match y, hy with
  | 0, _ => omega
  | 1, _ => omega
  | 2, _ => omega
  | 3, _ => omega
theorem stp_is (k : I4) : ∃ y, y < 4 ∧ stp k = (k y).rgt + 1 := by
  unfold stp
  have h : ∀ a b : Int, max a b = a ∨ max a b = b := fun a b => by omega
  rcases h (max ((k 0).rgt + 1) ((k 1).rgt + 1)) (max ((k 2).rgt + 1) ((k 3).rgt + 1)) with e | e <;> rw [e]
  · rcases h ((k 0).rgt + 1) ((k 1).rgt + 1) with e | e <;> rw [e]
    · exact ⟨0, by decide, rfl⟩
    · exact ⟨1, by decide, rfl⟩
  · rcases h ((k 2).rgt + 1) ((k 3).rgt + 1) with e | e <;> rw [e]
    · exact ⟨2, by decide, rfl⟩
    · exact ⟨3, by decide, rfl⟩
theorem stp_le (k : I4) : 0 ≤ stp k ∧ stp k ≤ 4 := by
  obtain ⟨y, _, e⟩ := stp_is k
  have := ends_row (k y)
  omega
/-- a greatest one is the step -/
theorem stp_max {k : I4} {ns : List Int} {m c : Int} (hm : m ∈ ns) (hx : ∀ y ∈ ns, y ≤ m) (up : ∀ z ∈ ns, z + c ≤ stp k) (att : stp k - c ∈ ns) : m + c = stp k := by
  have h1 := up m hm
  have h2 := hx _ att
  omega
theorem stp_rows {k : I4} {m : Int} (c : Int) (hm : m ∈ (List.range 4).map fun y => (k y).rgt + c) (hx : ∀ y ∈ (List.range 4).map fun y => (k y).rgt + c, y ≤ m) : m + (1 - c) = stp k := by
  refine stp_max hm hx (fun z hz => ?_) ?_
  · obtain ⟨y, hy, rfl⟩ := List.mem_map.mp hz
    have := stp_ge k y (List.mem_range.mp hy)
    omega
  · obtain ⟨y, hy, e⟩ := stp_is k
    exact List.mem_map.mpr ⟨y, List.mem_range.mpr hy, by omega⟩
def farN (k : I4) : Nat → List Int
  | 0 => [0]
  | n + 1 => farN k n ++ ((k n).plN 4).map (· + 1)
theorem far_in {k : I4} {z : Int} : ∀ {n : Nat}, n ≤ 4 → z ∈ farN k n → z ≤ stp k
  | 0, _, h => by
    rw [List.mem_singleton.mp h]
    exact (stp_le k).1
  | n + 1, hn, h => by
    rcases List.mem_append.mp h with h | h
    · exact far_in (by omega) h
    · obtain ⟨x, hx, rfl⟩ := List.mem_map.mp h
      have h1 := (pl_row (k n)).1 x hx
      have h2 := stp_ge k n (by omega)
      omega
theorem far_zero (k : I4) : ∀ n, (0 : Int) ∈ farN k n
  | 0 => List.mem_cons_self
  | n + 1 => List.mem_append_left _ (far_zero k n)
theorem far_mem {k : I4} {y : Nat} {x : Int} (hx : x ∈ (k y).plN 4) : ∀ n, y < n → x + 1 ∈ farN k n
  | 0, h => absurd h (Nat.not_lt_zero _)
  | n + 1, h => by
    by_cases e : y = n
    · rw [← e]
      exact List.mem_append_right _ (List.mem_map.mpr ⟨x, hx, rfl⟩)
    · exact List.mem_append_left _ (far_mem hx n (by omega))
theorem stp_far {k : I4} {m : Int} (hm : m ∈ farN k 4) (hx : ∀ y ∈ farN k 4, y ≤ m) : m = stp k := by
  have := stp_max (c := 0) hm hx (fun z hz => by rw [Int.add_zero]; exact far_in (Nat.le_refl _) hz) (by
    rw [Int.sub_zero]
    obtain ⟨y, hy, e⟩ := stp_is k
    by_cases h : 0 ≤ (k y).rgt
    · rw [e]
      exact far_mem ((pl_row (k y)).2.2 h).1 4 hy
    · have := (stp_le k).1
      have : stp k = 0 := by omega
      rw [this]
      exact far_zero k 4)
  omega
/-- a place, or none -/
def optV (x : Int) : V := if x < 0 then .non else .int x
/-- what stands between two inks -/
def blk (l r : I4) (y : Nat) (gap : Int) : V := if (l y).rgt < 0 ∨ (r y).lft < 0 then .non else .int (stp l + gap + (r y).lft - (l y).rgt - 1)
end Pa
set_option maxRecDepth 100000
set_option maxHeartbeats 4000000
namespace Pa
open PySem PySem.Spec PyProof.Rows L2 Win
theorem same_put {D : Addr} {H H1 : Hp} {o : HO} (hD : H D = none) (s : Same H H1) : Same H (upd H1 D o) := fun b u e => by
  rw [upd_ne (ne_of_none e hD)]
  exact s b u e
theorem intNon (z : Int) : ¬ (decide (V.int z = V.non) = true) := fun h => by
  have := of_decide_eq_true h
  cases this
theorem optN {z : Int} (h : z < 0) : optV z = .non := by unfold optV; rw [if_pos h]
theorem optI {z : Int} (h : ¬ z < 0) : optV z = .int z := by unfold optV; rw [if_neg h]
structure Txt2 (mg : Str → Option Value) : Prop where
  g_GRID : ∃ t, mg "GRID" = some (.int 4 t)
def inkB (x y : Nat) (rs : List (List Pt)) : Bool := !decide (V.int (wind x y rs) = V.int 0)
def wInk (rs : List (List Pt)) : I4 := fun y => ⟨inkB 0 y rs, inkB 1 y rs, inkB 2 y rs, inkB 3 y rs⟩
def rowL (rs : List (List Pt)) (y : Nat) (n : Nat) : List V := (List.range n).map fun x => V.str (chS (inkB x y rs))
theorem rowL_succ (rs : List (List Pt)) (y n : Nat) : rowL rs y (n + 1) = rowL rs y n ++ [V.str (chS (inkB n y rs))] := by
  unfold rowL
  rw [List.range_succ, List.map_append]
  rfl
theorem rowL_len (rs : List (List Pt)) (y n : Nat) : (rowL rs y n).length = n := by unfold rowL; simp
theorem rowL_4 (rs : List (List Pt)) (y : Nat) : rowL rs y 4 = [chS (wInk rs y).a, chS (wInk rs y).b, chS (wInk rs y).c, chS (wInk rs y).d].map V.str := rfl
def inkL (k : I4) (n : Nat) : List V := (List.range n).map fun y => V.str (k y).s
theorem inkL_succ (k : I4) (n : Nat) : inkL k (n + 1) = inkL k n ++ [V.str (k n).s] := by
  unfold inkL
  rw [List.range_succ, List.map_append]
  rfl
theorem inkL_len (k : I4) (n : Nat) : (inkL k n).length = n := by unfold inkL; simp
def rgtL (k : I4) (c : Int) (n : Nat) : List Int := (List.range n).map fun y => (k y).rgt + c
theorem rgtL_succ (k : I4) (c : Int) (n : Nat) : rgtL k c (n + 1) = rgtL k c n ++ [(k n).rgt + c] := by
  unfold rgtL
  rw [List.range_succ, List.map_append]
  rfl
theorem rgtL_len (k : I4) (c : Int) (n : Nat) : (rgtL k c n).length = n := by unfold rgtL; simp
section
variable {P : Program} {w : World} {K : PySem.W.Frag} {mg : Str → Option Value} {base : Heap}
/-! ### _ink_row, ink_of -/
def spInkRow : Sp := fun vs H Q _ => ∃ (v : V) (rs : List (List Pt)) (y : Nat), vs = [v, .int y] ∧ RingsAt H v rs ∧ GoodRs rs ∧ y < 4 ∧ ∀ H', Same H H' → Q (.str (wInk rs y).s) H'
abbrev s_ink_row : Stmt := topS 22
theorem sc_ink_row : FnScope ["rings", "y", "x"] ["rings", "y"] (defScope s_ink_row) := ⟨rfl, rfl, rfl, by decide +kernel, rfl, by decide +kernel, by decide +kernel⟩
theorem ok_inkrow {f : Addr} {fd : FuncData} (F : Fun K "_ink_row" "_ink_row" s_ink_row f fd) (T : Txt K mg) (T2 : Txt2 mg) (C_winding : CallOk P w K mg base 4 "winding" ["rings", "x", "y"] spWinding) : FnOk P w K mg base CX0 5 f fd ["rings", "y"] spInkRow := by
  refine F.ok sc_ink_row (fun vs H Q E h => ?_) (fun cdv A outer s H vs Q E hr h => ?_)
  · obtain ⟨v, rs, y, rfl, _⟩ := h
    rfl
  · obtain ⟨v, rs, y, rfl, hv, good, hy, k⟩ := h
    obtain ⟨tk, hG⟩ := T2.g_GRID
    refine ⟨_, (pss_one (ps_ret (pe_join pe_str (pe_lc (own := [("x", 2)]) (g := gName 2) (tt := tYes) rfl sc_ink_row.nd (pi_range1 (by rfl) T.b_range (pa_cons (pe_glob (v := .int 4) (by rfl) hG ⟨_, rfl⟩) pa_nil)) (blkOk_by (N := ["rings", "y", "x"]) (sc := defScope s_ink_row) (by decide +kernel)) (fun _ _ _ _ _ => (pg_name (i := 2) sc_ink_row.nd rfl (.inl rfl))) (fun _ _ _ _ _ => pts_nil) (fun _ _ _ _ _ => (pe_ifExp (pt_cmpR op_ne (pe_cc C_winding (hr.mono (by decide)) (by rfl) (pa_cons (pv 0) (pa_cons (pv 2) (pa_cons (pv 1) pa_nil)))) pe_int (nomark _)) pe_str pe_str)))))), ?_⟩
    refine ⟨⟨_, rfl⟩, 4, rfl, by decide, by decide, fun D hD => lc_range (lo := 0) (n := (4 : Int).toNat) (fun i H3 => H3 D = some (.lst (rowL rs y i)) ∧ Same H H3) ⟨upd_same, same_new hD⟩ ?_ ?_⟩
    · rintro i H3 hi ⟨h3, s3⟩
      have hi4 : i < 4 := hi
      refine ⟨rfl, ?_⟩
      refine ⟨_, rfl, _, rfl, _, rfl, v, rs, _, _, rfl, hv.mono s3, good, by omega, by omega, fun H4 s4 => ?_⟩
      refine ⟨rfl, _, rfl, ?_⟩
      have ei : (0 : Int) + (i : Int) = (i : Int) := Int.zero_add _
      rw [ei]
      have fin : ∀ c : Str, c = chS (inkB i y rs) → ∃ acc, H4 D = some (.lst acc) ∧ acc.length < sizeLine ∧ (upd H4 D (.lst (acc ++ [V.str c]))) D = some (.lst (rowL rs y (i + 1))) ∧ Same H (upd H4 D (.lst (acc ++ [V.str c]))) := fun c e =>
        ⟨_, s4 _ _ h3, by rw [rowL_len]; exact Nat.lt_trans hi4 (by decide), by rw [upd_same, rowL_succ, e], same_put hD (s3.trans s4)⟩
      refine ite2 (fun h => fin _ ?_) (fun h => fin _ ?_)
      · unfold inkB chS
        rw [if_pos h]
      · unfold inkB chS
        rw [if_neg h]
    · rintro H3 ⟨h3, s3⟩
      have e : rowL rs y (4 : Int).toNat = [chS (wInk rs y).a, chS (wInk rs y).b, chS (wInk rs y).c, chS (wInk rs y).d].map V.str := rowL_4 rs y
      rw [e] at h3
      refine ⟨"", D, _, rfl, rfl, .inl (SqL.of h3), size_row _, ?_⟩
      rw [join_row]
      exact k H3 s3
def spInkOf : Sp := fun vs H Q _ => ∃ (v : V) (rs : List (List Pt)), vs = [v] ∧ RingsAt H v rs ∧ GoodRs rs ∧ ∀ t H', H t = none → Same H H' → H' t = some (.tup (inkV (wInk rs))) → Q (.ref t) H'
abbrev sink_of : Stmt := topS 21
theorem scink_of : FnScope ["rings", "y"] ["rings"] (defScope sink_of) := ⟨rfl, rfl, rfl, by decide +kernel, rfl, by decide +kernel, by decide +kernel⟩
theorem ok_inkof {f : Addr} {fd : FuncData} (F : Fun K "ink_of" "ink_of" sink_of f fd) (T : Txt K mg) (T2 : Txt2 mg) (C__ink_row : CallOk P w K mg base 5 "_ink_row" ["rings", "y"] spInkRow) : FnOk P w K mg base CX0 6 f fd ["rings"] spInkOf := by
  refine F.ok scink_of (fun vs H Q E h => ?_) (fun cdv A outer s H vs Q E hr h => ?_)
  · obtain ⟨v, rs, rfl, _⟩ := h
    rfl
  · obtain ⟨v, rs, rfl, hv, good, k⟩ := h
    obtain ⟨tk, hG⟩ := T2.g_GRID
    refine ⟨_, (pss_one (ps_ret (pe_callTy (r := rTupQ K) (T := "tuple") (call_tupQ (K := K) rfl) (by rfl) T.b_tuple (by decide +kernel) (pa_cons (pe_lc (own := [("y", 1)]) (g := gName 1) (tt := tYes) (te := tCall spInkRow [] E0 (tCons (tVar 0) (tCons (tVar 1) tNil))) rfl scink_of.nd (pi_range1 (by rfl) T.b_range (pa_cons (pe_glob (v := .int 4) (by rfl) hG ⟨_, rfl⟩) pa_nil)) (blkOk_by (N := ["rings", "y"]) (sc := defScope sink_of) (by decide +kernel)) (fun _ _ _ _ _ => (pg_name (i := 1) scink_of.nd rfl (.inl rfl))) (fun _ _ _ _ _ => pts_nil) (fun _ _ _ _ _ => (pe_cc C__ink_row (hr.mono (by decide)) (by rfl) (pa_cons (pv 0) (pa_cons (pv 1) pa_nil))))) pa_nil)))), ?_⟩
    refine ⟨4, rfl, by decide, by decide, fun D hD => lc_range (lo := 0) (n := (4 : Int).toNat) (fun i H3 => H3 D = some (.lst (inkL (wInk rs) i)) ∧ Same H H3) ⟨upd_same, same_new hD⟩ ?_ ?_⟩
    · rintro i H3 hi ⟨h3, s3⟩
      have hi4 : i < 4 := hi
      refine ⟨rfl, ?_⟩
      have ei : (0 : Int) + (i : Int) = (i : Int) := Int.zero_add _
      refine ⟨_, rfl, _, rfl, v, rs, i, by rw [ei]; rfl, hv.mono s3, good, hi4, fun H4 s4 => ?_⟩
      exact ⟨_, s4 _ _ h3, by rw [inkL_len]; exact Nat.lt_trans hi4 (by decide), by rw [upd_same, inkL_succ], same_put hD (s3.trans s4)⟩
    · rintro H3 ⟨h3, s3⟩
      exact ⟨D, _, rfl, .inl ⟨SqL.of h3, fun t ht => k t _ (s3.free ht) (s3.trans (same_new ht)) upd_same⟩⟩
/-! ### leftmost, rightmost, step_of, blanks -/
def spCol : Sp := fun vs H Q _ => ∃ i : Int, vs = [.int i] ∧ Q (optV i) H
abbrev s_column_or_none : Stmt := topS 25
theorem sc_column_or_none : FnScope ["column"] ["column"] (defScope s_column_or_none) := ⟨rfl, rfl, rfl, by decide +kernel, rfl, by decide +kernel, by decide +kernel⟩
theorem ok_col {f : Addr} {fd : FuncData} (F : Fun K "_column_or_none" "_column_or_none" s_column_or_none f fd) : FnOk P w K mg base CX0 1 f fd ["column"] spCol := by
  refine F.ok sc_column_or_none (fun vs H Q E h => ?_) (fun cdv A outer s H vs Q E hr h => ?_)
  · obtain ⟨i, rfl, _⟩ := h
    rfl
  · obtain ⟨i, rfl, k⟩ := h
    refine ⟨_, (pss_one (ps_ret (pe_ifExp (pt_cmpR op_lt (pv 0) pe_int (nomark _)) pe_non (pv 0)))), ?_⟩
    unfold optV at k
    refine ⟨_, rfl, _, _, rfl, rfl, _, rfl, ite2 (fun h => ?_) (fun h => ⟨_, rfl, ?_⟩)⟩
    · rw [if_pos (of_decide_eq_true h)] at k
      exact k
    · rw [if_neg (fun z => h (decide_eq_true z))] at k
      exact k
def spEnd (g : R4 → Int) : Sp := fun vs H Q _ => ∃ (t : Addr) (k : I4) (y : Nat), vs = [.ref t, .int y] ∧ H t = some (.tup (inkV k)) ∧ y < 4 ∧ Q (optV (g (k y))) H
abbrev sleftmost : Stmt := topS 23
theorem scleftmost : FnScope ["ink", "row"] ["ink", "row"] (defScope sleftmost) := ⟨rfl, rfl, rfl, by decide +kernel, rfl, by decide +kernel, by decide +kernel⟩
theorem ok_left {f : Addr} {fd : FuncData} (F : Fun K "leftmost" "leftmost" sleftmost f fd) (C__column_or_none : CallOk P w K mg base 1 "_column_or_none" ["column"] spCol) : FnOk P w K mg base CX0 2 f fd ["ink", "row"] (spEnd R4.lft) := by
  refine F.ok scleftmost (fun vs H Q E h => ?_) (fun cdv A outer s H vs Q E hr h => ?_)
  · obtain ⟨t, i, y, rfl, _⟩ := h
    rfl
  · obtain ⟨t, i, y, rfl, ht, hy, k⟩ := h
    refine ⟨_, (pss_one (ps_ret (pe_cc C__column_or_none (hr.mono (by decide)) (by rfl) (pa_cons (pe_m1 PySem.F.slot_str_find PySem.F.type_str_find mt_find (pe_ix ix_tup (pv 0) (pv 1) (fun _ _ => rfl)) pe_str) pa_nil)))), ?_⟩
    refine ⟨_, rfl, _, rfl, t, _, _, _, rfl, rfl, SqT.of ht, atI_nat (at_ink i y hy), ⟨_, rfl⟩, _, _, rfl, rfl, ?_⟩
    refine ⟨_, rfl, ?_⟩
    rw [find_row]
    exact k
abbrev srightmost : Stmt := topS 24
theorem scrightmost : FnScope ["ink", "row"] ["ink", "row"] (defScope srightmost) := ⟨rfl, rfl, rfl, by decide +kernel, rfl, by decide +kernel, by decide +kernel⟩
theorem ok_right {f : Addr} {fd : FuncData} (F : Fun K "rightmost" "rightmost" srightmost f fd) (C__column_or_none : CallOk P w K mg base 1 "_column_or_none" ["column"] spCol) : FnOk P w K mg base CX0 2 f fd ["ink", "row"] (spEnd R4.rgt) := by
  refine F.ok scrightmost (fun vs H Q E h => ?_) (fun cdv A outer s H vs Q E hr h => ?_)
  · obtain ⟨t, i, y, rfl, _⟩ := h
    rfl
  · obtain ⟨t, i, y, rfl, ht, hy, k⟩ := h
    refine ⟨_, (pss_one (ps_ret (pe_cc C__column_or_none (hr.mono (by decide)) (by rfl) (pa_cons (pe_m1 PySem.F.slot_str_rfind PySem.F.type_str_rfind mt_rfind (pe_ix ix_tup (pv 0) (pv 1) (fun _ _ => rfl)) pe_str) pa_nil)))), ?_⟩
    refine ⟨_, rfl, _, rfl, t, _, _, _, rfl, rfl, SqT.of ht, atI_nat (at_ink i y hy), ⟨_, rfl⟩, _, _, rfl, rfl, ?_⟩
    refine ⟨_, rfl, ?_⟩
    rw [rfind_row]
    exact k
def spStep : Sp := fun vs H Q _ => ∃ (t : Addr) (k : I4), vs = [.ref t] ∧ H t = some (.tup (inkV k)) ∧ ∀ H', Same H H' → Q (.int (stp k)) H'
abbrev sstep_of : Stmt := topS 26
theorem scstep_of : FnScope ["ink", "cells"] ["ink"] (defScope sstep_of) := ⟨rfl, rfl, rfl, by decide +kernel, rfl, by decide +kernel, by decide +kernel⟩
theorem ok_step {f : Addr} {fd : FuncData} (F : Fun K "step_of" "step_of" sstep_of f fd) (T : Txt K mg) : FnOk P w K mg base CX0 1 f fd ["ink"] spStep := by
  refine F.ok scstep_of (fun vs H Q E h => ?_) (fun cdv A outer s H vs Q E hr h => ?_)
  · obtain ⟨t, i, rfl, _⟩ := h
    rfl
  · obtain ⟨t, i, rfl, ht, k⟩ := h
    refine ⟨_, (pss_one (ps_ret (pe_callB (cr_max rfl) (by rfl) T.b_max (by decide +kernel) (pa_cons (pe_lc (own := [("cells", 1)]) (g := gName 1) (tt := tYes) rfl scstep_of.nd (pi_tup (pv 0)) (blkOk_by (N := ["ink", "cells"]) (sc := defScope sstep_of) (by decide +kernel)) (fun _ _ _ _ _ => (pg_name (i := 1) scstep_of.nd rfl (.inl rfl))) (fun _ _ _ _ _ => pts_nil) (fun _ _ _ _ _ => (pe_op op_add (pe_m1 PySem.F.slot_str_rfind PySem.F.type_str_rfind mt_rfind (pv 1) pe_str) pe_int))) pa_nil)))), ?_⟩
    refine ⟨_, rfl, t, rfl, ⟨_, SqT.of ht⟩, fun D hD => lc_tup (K := K) (a := t) (xs := inkV i) (fun n H3 => H3 D = some (.lst ((rgtL i 1 n).map V.int)) ∧ Same H H3) ⟨upd_same, same_new hD⟩ (fun n H3 _ ⟨_, s3⟩ => SqT.of (s3 _ _ ht)) ?_ ?_⟩
    · rintro n x H3 hx ⟨h3, s3⟩
      have hn : n < 4 := (List.getElem?_eq_some_iff.mp hx).1
      rw [at_ink i n hn] at hx
      cases hx
      refine ⟨rfl, _, rfl, ⟨_, rfl⟩, _, _, rfl, rfl, _, _, rfl, rfl, ?_⟩
      rw [rfind_row]
      exact ⟨_, h3, by rw [List.length_map, rgtL_len]; exact Nat.lt_trans hn (by decide), by rw [upd_same, rgtL_succ, List.map_append]; rfl, same_put hD s3⟩
    · rintro H3 ⟨h3, s3⟩
      refine ⟨D, rgtL i 1 4, rfl, SqL.of h3, by rw [rgtL_len]; decide, fun m hm hx => ?_⟩
      have e := stp_rows 1 hm hx
      rw [show m = stp i by omega]
      exact k H3 s3
def spBlanks : Sp := fun vs H Q _ => ∃ (t u : Addr) (l r : I4) (y : Nat) (gap : Int), vs = [.ref t, .ref u, .int y, .int gap] ∧ H t = some (.tup (inkV l)) ∧ H u = some (.tup (inkV r)) ∧ y < 4 ∧ ∀ H', Same H H' → Q (blk l r y gap) H'
abbrev sblanks : Stmt := topS 27
theorem scblanks : FnScope ["left", "right", "row", "gap", "end", "begin"] ["left", "right", "row", "gap"] (defScope sblanks) := ⟨rfl, rfl, rfl, by decide +kernel, rfl, by decide +kernel, by decide +kernel⟩
theorem ok_blanks {f : Addr} {fd : FuncData} (F : Fun K "blanks" "blanks" sblanks f fd) (C_leftmost : CallOk P w K mg base 2 "leftmost" ["ink", "row"] (spEnd R4.lft)) (C_rightmost : CallOk P w K mg base 2 "rightmost" ["ink", "row"] (spEnd R4.rgt)) (C_step_of : CallOk P w K mg base 1 "step_of" ["ink"] spStep) : FnOk P w K mg base CX0 3 f fd ["left", "right", "row", "gap"] spBlanks := by
  refine F.ok scblanks (fun vs H Q E h => ?_) (fun cdv A outer s H vs Q E hr h => ?_)
  · obtain ⟨t, u, l, r, y, gap, rfl, _⟩ := h
    rfl
  · obtain ⟨t, u, l, r, y, gap, rfl, ht, hu, hy, k⟩ := h
    refine ⟨_, (pss_cons (ps_par (i := 4) (j := 5) (by rfl) scblanks.nd rfl rfl (by decide) rfl rfl (pa_cons (pe_cc C_rightmost (hr.mono (by decide)) (by rfl) (pa_cons (pv 0) (pa_cons (pv 2) pa_nil))) (pa_cons (pe_cc C_leftmost (hr.mono (by decide)) (by rfl) (pa_cons (pv 1) (pa_cons (pv 2) pa_nil))) pa_nil)) (by rfl))
      (pss_cons (ps_if (PW.pt (pw_or (pt_cmpR op_isN (pv 4) pe_non (nomark _)) (pw_or1 (pt_cmpR op_isN (pv 5) pe_non (nomark _)))))
        (pss_one (ps_ret pe_non))
        pss_nil)
      (pss_one (ps_ret (pe_op op_sub (pe_op op_sub (pe_op op_add (pe_op op_add (pe_cc C_step_of (hr.mono (by decide)) (by rfl) (pa_cons (pv 0) pa_nil)) (pv 3)) (pv 5)) (pv 4)) pe_int))))), ?_⟩
    refine ⟨_, rfl, _, rfl, t, l, y, rfl, ht, hy, _, rfl, _, rfl, u, r, y, rfl, hu, hy, _, _, rfl, ?_⟩
    by_cases h1 : (l y).rgt < 0
    · rw [optN h1]
      refine ⟨_, rfl, rfl, _, rfl, iteP (decide_eq_true rfl) (iteT ?_)⟩
      have k := k H (Same.refl H)
      unfold blk at k
      rw [if_pos (.inl h1)] at k
      exact k
    · rw [optI h1]
      refine ⟨_, rfl, rfl, _, rfl, iteQ (intNon _) ?_⟩
      by_cases h2 : (r y).lft < 0
      · rw [optN h2]
        refine ⟨_, rfl, rfl, _, rfl, iteP (decide_eq_true rfl) ?_⟩
        have k := k H (Same.refl H)
        unfold blk at k
        rw [if_pos (.inr h2)] at k
        exact k
      · rw [optI h2]
        refine ⟨_, rfl, rfl, _, rfl, iteQ (intNon _) ?_⟩
        refine ⟨_, rfl, t, l, rfl, ht, fun H' s' => ?_⟩
        have k := k H' s'
        unfold blk at k
        rw [if_neg (by omega)] at k
        exact ⟨_, rfl, _, _, rfl, rfl, _, rfl, _, _, rfl, rfl, _, rfl, _, _, rfl, rfl, _, _, rfl, rfl, k⟩
end
end Pa
set_option maxRecDepth 100000
set_option maxHeartbeats 4000000
namespace Pa
open PySem PySem.Spec PyProof.Rows L2 Win
section
variable {P : Program} {w : World} {K : PySem.W.Frag} {mg : Str → Option Value} {base : Heap}
/-! ### _law_ink -/
def spLInk : Sp := fun vs H Q _ => ∃ (r : Addr) (xs : List V) (rs : List (List Pt)), vs = [.ref r] ∧ H r = some (.lst xs) ∧ AllAt RingAt H xs rs ∧ GoodRs rs ∧ ∀ t H', H t = none → Same H H' → H' t = some (.tup (inkV (wInk rs))) → Q (.ref t) H'
abbrev sL_ink : Stmt := topS 41
theorem scL_ink : FnScope ["_law_rings_here", "_law_found", "_law_y", "_law_x"] ["_law_rings_here"] (defScope sL_ink) := ⟨rfl, rfl, rfl, by decide +kernel, rfl, by decide +kernel, by decide +kernel⟩
theorem ok_link {f : Addr} {fd : FuncData} (F : Fun K "_law_ink" "_law_ink" sL_ink f fd) (T : Txt K mg) (C__law_winding : CallOk P w K mg base 2 "_law_winding" ["_law_rings_here", "_law_x", "_law_y"] spLWind) : FnOk P w K mg base CX0 3 f fd ["_law_rings_here"] spLInk := by
  refine F.ok scL_ink (fun vs H Q E h => ?_) (fun cdv A outer s H vs Q E hr h => ?_)
  · obtain ⟨v, xs, rs, rfl, _⟩ := h
    rfl
  · obtain ⟨r, xs, rs, rfl, hr0, hxs, good, k⟩ := h
    refine ⟨_, (pss_cons (ps_set (i := 1) scL_ink.nd rfl (.inl rfl) (pe_lst pa_nil))
      (pss_cons (ps_for PassesOwn.never rfl (pi_range1 (by rfl) T.b_range (pa_cons pe_int pa_nil)) (pg_name (i := 2) scL_ink.nd rfl (.inr rfl))
        (pss_one (ps_expr (pe_bm PySem.F.plainAttrs_list PySem.F.slot_list_append PySem.F.type_list_append mt_append (pv 1) (pa_cons (pe_join pe_str (pe_lc (own := [("_law_x", 3)]) (g := gName 3) (tt := tYes) rfl scL_ink.nd (pi_range1 (by rfl) T.b_range (pa_cons pe_int pa_nil)) (blkOk_by (N := ["_law_rings_here", "_law_found", "_law_y", "_law_x"]) (sc := defScope sL_ink) (by decide +kernel)) (fun _ _ _ _ _ => (pg_name (i := 3) scL_ink.nd rfl (.inl rfl))) (fun _ _ _ _ _ => pts_nil) (fun _ _ _ _ _ => (pe_ifExp (pt_cmpR op_ne (pe_cc C__law_winding (hr.mono (by decide)) (by rfl) (pa_cons (pv 0) (pa_cons (pv 3) (pa_cons (pv 2) pa_nil)))) pe_int (nomark _)) pe_str pe_str)))) pa_nil)))))
      (pss_one (ps_ret (pe_callTy (r := rTupQ K) (T := "tuple") (call_tupQ (K := K) rfl) (by rfl) T.b_tuple (by decide +kernel) (pa_cons (pv 1) pa_nil)))))), ?_⟩
    refine ⟨by show 0 ≤ sizeLine; decide, fun q hq => ?_⟩
    refine ⟨4, rfl, by decide, by decide, for_range (lo := 0) (n := (4 : Int).toNat) (fun y σ H2 => ∃ (y2 : Option V), σ = [some (.ref r), some (.ref q), y2, none] ∧ Same H H2 ∧ H2 q = some (.lst (inkL (wInk rs) y))) ⟨none, rfl, same_new hq, upd_same⟩ ?_ ?_⟩
    · rintro y σ H2 hy ⟨y2, rfl, s2, h2⟩
      have hy4 : y < 4 := hy
      have ey : (0 : Int) + (y : Int) = (y : Int) := Int.zero_add _
      refine ⟨_, rfl, .inl ⟨rfl, _, SqL.of h2⟩, ⟨_, rfl⟩, 4, rfl, by decide, by decide, fun D hD => ?_⟩
      have hDH : H D = none := s2.free hD
      have nDq : q ≠ D := fun z => by rw [← z, h2] at hD; cases hD
      refine lc_range (lo := 0) (n := (4 : Int).toNat) (fun i H3 => H3 D = some (.lst (rowL rs y i)) ∧ Same H2 H3) ⟨upd_same, same_new hD⟩ ?_ ?_
      · rintro i H3 hi ⟨h3, s3⟩
        have hi4 : i < 4 := hi
        have s23 := s2.trans s3
        refine ⟨rfl, ?_⟩
        refine ⟨_, rfl, _, rfl, _, rfl, r, xs, rs, _, _, rfl, s23 _ _ hr0, hxs.mono fun _ _ => RingAt.mono s23, good, by omega, by omega, fun H4 s4 => ?_⟩
        refine ⟨rfl, _, rfl, ?_⟩
        have ei : (0 : Int) + (i : Int) = (i : Int) := Int.zero_add _
        rw [ei, ey]
        have fin : ∀ c : Str, c = chS (inkB i y rs) → ∃ acc, H4 D = some (.lst acc) ∧ acc.length < sizeLine ∧ (upd H4 D (.lst (acc ++ [V.str c]))) D = some (.lst (rowL rs y (i + 1))) ∧ Same H2 (upd H4 D (.lst (acc ++ [V.str c]))) := fun c e =>
          ⟨_, s4 _ _ h3, by rw [rowL_len]; exact Nat.lt_trans hi4 (by decide), by rw [upd_same, rowL_succ, e], same_put hD (s3.trans s4)⟩
        refine ite2 (fun h => fin _ ?_) (fun h => fin _ ?_)
        · unfold inkB chS
          rw [if_pos h]
        · unfold inkB chS
          rw [if_neg h]
      · rintro H3 ⟨h3, s3⟩
        have e : rowL rs y (4 : Int).toNat = [chS (wInk rs y).a, chS (wInk rs y).b, chS (wInk rs y).c, chS (wInk rs y).d].map V.str := rowL_4 rs y
        rw [e] at h3
        refine ⟨"", D, _, rfl, rfl, .inl (SqL.of h3), size_row _, ?_⟩
        rw [join_row]
        refine ⟨q, _, _, rfl, rfl, s3 _ _ h2, by rw [inkL_len]; exact Nat.lt_trans hy4 (by decide), ?_⟩
        exact ⟨_, rfl, same_put hq (s2.trans s3), by rw [upd_same, inkL_succ]⟩
    · rintro σ H2 ⟨y2, rfl, s2, h2⟩
      exact ⟨_, rfl, q, _, rfl, .inl ⟨SqL.of h2, fun t ht => k t _ (s2.free ht) (s2.trans (same_new ht)) upd_same⟩⟩
end
end Pa
set_option maxRecDepth 100000
set_option maxHeartbeats 4000000
namespace Pa
open PySem PySem.Spec PyProof.Rows L2 Win
/-! ### lists and tuples alike -/
theorem iOr_seq {K : PySem.W.Frag} {i : Nat} {σ : L2.St} {H : Hp} {a : Addr} {xs : List V} {R : It → Hp → Prop} (hi : σ[i]? = some (some (.ref a))) (h : SeqH H a xs) (f : ∀ (J : It) (G : Hp → Prop), Walk J xs.length G (YAt xs) → (∀ H', Same H H' → G H') → R J H) :
    iOr (iList K (tVar i)) (iTup K (tVar i)) σ H R := by
  rcases h with h | h
  · exact .inl ⟨_, hi, a, rfl, ⟨_, SqL.of h⟩, f _ _ walk_list fun H' s => SqL.of (s _ _ h)⟩
  · exact .inr ⟨_, hi, a, rfl, ⟨_, SqT.of h⟩, f _ _ walk_tup fun H' s => SqT.of (s _ _ h)⟩
/-- a list of trues -/
def truesV (n : Nat) : List V := List.replicate n (.bl true)
theorem truesV_succ (n : Nat) : truesV (n + 1) = truesV n ++ [.bl true] := List.replicate_succ'
theorem truesV_len (n : Nat) : (truesV n).length = n := List.length_replicate
theorem all_trues {K : PySem.W.Frag} {H : Hp} {D : Addr} {n : Nat} {Q : VK} (h : H D = some (.lst (truesV n))) (q : Q (.bl true) H) : rAll K [.ref D] H Q := by
  refine ⟨D, List.replicate n true, rfl, SqL.of (by rw [List.map_replicate]; exact h), ?_⟩
  have e : ((List.replicate n true).all id) = true := by simp
  rw [e]
  exact q
theorem lc_true {J : It} {n : Nat} {G : Hp → Prop} {Y : Nat → Hp → V → Hp → Prop} (w : Walk J n G Y) {g : TG} {te : TE} {vs : List Nat} {σ : L2.St} {H1 : Hp} {D : Addr} {Qd : Hp → Prop} (hn : n ≤ 1000) (hD : H1 D = none) (hG : ∀ H', Same H1 H' → G H')
    (hs : ∀ i x H H', i < n → Same H1 H → Y i H x H' → ∀ Q : VK, (∀ H4, Same H H4 → Q (.bl true) H4) → g x (wipe σ vs) H' fun σ2 H2 => wipe σ2 vs = wipe σ vs ∧ te σ2 H2 Q) (hd : ∀ H4, H4 D = some (.lst (truesV n)) → Same H1 H4 → Qd H4)
    (hg : ∀ x σ H (P P' : L2.St → Hp → Prop), (∀ σ2 H2, P σ2 H2 → P' σ2 H2) → g x σ H P → g x σ H P') :
    ∃ W : Nat → Nat → Hp → Prop, (∃ m, W 0 m (upd H1 D (.lst []))) ∧ ∀ i m H, W i m H →
      (J.stop i H ∧ Qd H) ∨ (J.go i H ∧ ∃ Nx : Hp → Prop, (∀ H', Nx H' → ∃ m', m' < m ∧ W (i + 1) m' H') ∧ ∀ x H', J.yld i H x H' → g x (wipe σ vs) H' fun σ2 H2 => wipe σ2 vs = wipe σ vs ∧ tYes σ2 H2 fun b H3 =>
        if b = true then te σ2 H3 fun y H4 => ∃ acc, H4 D = some (.lst acc) ∧ acc.length < sizeLine ∧ Nx (upd H4 D (.lst (acc ++ [y]))) else Nx H3) := by
  refine lc_it w (fun i H => H D = some (.lst (truesV i)) ∧ Same H1 H) ⟨upd_same, same_new hD⟩ (fun i H _ h => hG H h.2) ?_ fun H h => hd H h.1 h.2
  rintro i x H H' hi ⟨h1, h2⟩ y
  refine hg _ _ _ _ _ (fun σ2 H2 z => z) (hs i x H H' hi h2 y _ fun H4 s4 => ⟨_, s4 _ _ h1, by rw [truesV_len]; exact Nat.lt_of_lt_of_le hi (Nat.le_trans hn (by decide)), by rw [upd_same, truesV_succ], same_put hD (h2.trans s4)⟩)
def GoodC (p : Pt) : Prop := (0 ≤ p.1 ∧ p.1 ≤ 4) ∧ (0 ≤ p.2 ∧ p.2 ≤ 4)
/-- a ring that the document lets -/
def GoodR (ps : List Pt) : Prop := (3 ≤ ps.length ∧ ps.length ≤ 8) ∧ (∀ p ∈ ps, GoodC p) ∧ ∀ (j : Nat) p q, ps[j]? = some p → ps[(j + 1) % ps.length]? = some q → p ≠ q
def GoodO (rs : List (List Pt)) : Prop := (1 ≤ rs.length ∧ rs.length ≤ 3) ∧ ∀ ps ∈ rs, GoodR ps
theorem eqv_pt {p q : Pt} (h : p ≠ q) : PyData.eqv (ptD p) (ptD q) = false := by
  obtain ⟨a, b⟩ := p
  obtain ⟨c, d⟩ := q
  cases e : PyData.eqv (ptD (a, b)) (ptD (c, d)) with
  | false => rfl
  | true =>
    simp only [ptD, PyData.eqv, PyData.eqvAll, Bool.and_true, Bool.and_eq_true, beq_iff_eq] at e
    exact absurd (by rw [e.1, e.2]) h
theorem ptD_shaped (p : Pt) : SeqAt.shaped (ptD p) = true := by simp [SeqAt.shaped, ptD, PyData.canLay0, PyData.canLayAll0, PyData.depth, PyData.depthAll]
section
variable {P : Program} {w : World} {K : PySem.W.Frag} {mg : Str → Option Value} {base : Heap}
/-! ### checks -/
abbrev sis_integer : Stmt := topS 2
theorem scis_integer : FnScope ["value"] ["value"] (defScope sis_integer) := ⟨rfl, rfl, rfl, by decide +kernel, rfl, by decide +kernel, by decide +kernel⟩
theorem ok_isint {f : Addr} {fd : FuncData} (F : Fun K "is_integer" "is_integer" sis_integer f fd) (T : Txt K mg) : FnOk P w K mg base CX0 1 f fd ["value"] spNum := by
  refine F.ok scis_integer (fun vs H Q E h => ?_) (fun cdv A outer s H vs Q E hr h => ?_)
  · obtain ⟨i, rfl, _⟩ := h
    rfl
  · obtain ⟨i, rfl, k⟩ := h
    refine ⟨_, (pss_one (ps_ret (pe_and (pe_callB call_isi (by rfl) T.b_isinstance (by decide +kernel) (pa_cons (pv 0) (pa_cons (pe_bltn (v := .ty "int") (by rfl) T.b_int (by decide +kernel) rfl) pa_nil))) (pe_one (pe_not (pe_callB call_isi (by rfl) T.b_isinstance (by decide +kernel) (pa_cons (pv 0) (pa_cons (pe_bltn (v := .ty "bool") (by rfl) T.b_bool (by decide +kernel) rfl) pa_nil)))))))), ?_⟩
    refine ⟨_, rfl, _, _, _, _, true, rfl, .ty _, .base (.int _), kit_ty (by decide +kernel), _, rfl, iteT ?_⟩
    exact ⟨_, rfl, _, _, _, _, false, rfl, .ty _, .base (.int _), kit_ty (by decide +kernel), _, rfl, k⟩
def spIntFrom : Sp := fun vs H Q _ => ∃ i lo hi : Int, vs = [.int i, .int lo, .int hi] ∧ Q (.bl (decide (lo ≤ i ∧ i ≤ hi))) H
abbrev sis_integer_from : Stmt := topS 3
theorem scis_integer_from : FnScope ["value", "low", "high"] ["value", "low", "high"] (defScope sis_integer_from) := ⟨rfl, rfl, rfl, by decide +kernel, rfl, by decide +kernel, by decide +kernel⟩
theorem ok_intfrom {f : Addr} {fd : FuncData} (F : Fun K "is_integer_from" "is_integer_from" sis_integer_from f fd) (C_is_integer : CallOk P w K mg base 1 "is_integer" ["value"] spNum) : FnOk P w K mg base CX0 2 f fd ["value", "low", "high"] spIntFrom := by
  refine F.ok scis_integer_from (fun vs H Q E h => ?_) (fun cdv A outer s H vs Q E hr h => ?_)
  · obtain ⟨i, lo, hi, rfl, _⟩ := h
    rfl
  · obtain ⟨i, lo, hi, rfl, k⟩ := h
    refine ⟨_, (pss_one (ps_ret (pe_and (pe_cc C_is_integer (hr.mono (by decide)) (by rfl) (pa_cons (pv 0) pa_nil)) (pe_one (pe_chain op_le op_le (pv 1) (pv 0) (pv 2)))))), ?_⟩
    refine ⟨_, rfl, i, rfl, _, rfl, iteT ?_⟩
    refine ⟨_, rfl, _, rfl, _, _, rfl, rfl, _, rfl, ite2 (fun h => ?_) (fun h => ?_)⟩
    · have h := of_decide_eq_true h
      refine ⟨_, rfl, _, _, rfl, rfl, ?_⟩
      have e : decide (lo ≤ i ∧ i ≤ hi) = decide (i ≤ hi) := by
        by_cases h2 : i ≤ hi
        · rw [decide_eq_true h2, decide_eq_true ⟨h, h2⟩]
        · rw [decide_eq_false h2, decide_eq_false (fun z => h2 z.2)]
      rw [e] at k
      exact k
    · have h : ¬ lo ≤ i := fun z => h (decide_eq_true z)
      rw [decide_eq_false (fun z => h z.1)] at k
      exact k
def spIsRow : Sp := fun vs H Q _ => ∃ a xs, vs = [.ref a] ∧ SeqH H a xs ∧ ∀ H', Same H H' → Q (.bl true) H'
abbrev sis_row : Stmt := topS 4
theorem scis_row : FnScope ["value"] ["value"] (defScope sis_row) := ⟨rfl, rfl, rfl, by decide +kernel, rfl, by decide +kernel, by decide +kernel⟩
theorem ok_isrow {f : Addr} {fd : FuncData} (F : Fun K "is_row" "is_row" sis_row f fd) (T : Txt K mg) : FnOk P w K mg base CX0 1 f fd ["value"] spIsRow := by
  refine F.ok scis_row (fun vs H Q E h => ?_) (fun cdv A outer s H vs Q E hr h => ?_)
  · obtain ⟨a, xs, rfl, _⟩ := h
    rfl
  · obtain ⟨a, xs, rfl, hs, k⟩ := h
    refine ⟨_, (pss_one (ps_ret (pe_callB call_isiT (by rfl) T.b_isinstance (by decide +kernel) (pa_cons (pv 0) (pa_cons (pe_tup (pa_cons (pe_bltn (v := .ty "list") (by rfl) T.b_list (by decide +kernel) rfl) (pa_cons (pe_bltn (v := .ty "tuple") (by rfl) T.b_tuple (by decide +kernel) rfl) pa_nil))) pa_nil))))), ?_⟩
    refine ⟨_, rfl, (by show 2 ≤ sizeLine; decide), fun t ht => ?_⟩
    have st := same_new (o := .tup [.ty "list", .ty "tuple"]) ht
    rcases hs with h | h
    · exact ⟨_, t, _, _, [.type "list", .type "tuple"], true, rfl, upd_same, .cons (.ty _) (.cons (.ty _) .nil), .base (.lst (st _ _ h)), kitAny_cons (b := true) (kit_ty (by decide +kernel)) (fun e => nomatch e) (fun _ => rfl), k _ st⟩
    · exact ⟨_, t, _, _, [.type "list", .type "tuple"], true, rfl, upd_same, .cons (.ty _) (.cons (.ty _) .nil), .base (.tup (st _ _ h)), kitAny_cons (b := false) (kit_ty (by decide +kernel)) (fun _ => kitAny_cons (b := true) (kit_ty (by decide +kernel)) (fun e => nomatch e) fun _ => rfl) (fun e => nomatch e), k _ st⟩
/-! ### corners and rings, good ones -/
def spIsCorner : Sp := fun vs H Q _ => ∃ v p, vs = [v] ∧ CornerAt H v p ∧ GoodC p ∧ ∀ H', Same H H' → Q (.bl true) H'
abbrev s_is_corner : Stmt := topS 15
theorem sc_is_corner : FnScope ["thing", "number"] ["thing"] (defScope s_is_corner) := ⟨rfl, rfl, rfl, by decide +kernel, rfl, by decide +kernel, by decide +kernel⟩
theorem ok_iscorner {f : Addr} {fd : FuncData} (F : Fun K "_is_corner" "_is_corner" s_is_corner f fd) (T : Txt K mg) (T2 : Txt2 mg) (C_is_row : CallOk P w K mg base 1 "is_row" ["value"] spIsRow) (C_is_integer_from : CallOk P w K mg base 2 "is_integer_from" ["value", "low", "high"] spIntFrom) : FnOk P w K mg base CX0 3 f fd ["thing"] spIsCorner := by
  refine F.ok sc_is_corner (fun vs H Q E h => ?_) (fun cdv A outer s H vs Q E hr h => ?_)
  · obtain ⟨v, p, rfl, _⟩ := h
    rfl
  · obtain ⟨v, p, rfl, ⟨a, rfl, ha⟩, hp, k⟩ := h
    obtain ⟨tk, hG⟩ := T2.g_GRID
    refine ⟨_, (pss_cons (ps_if (PW.pt (pw_or (pt_not (pt_val (pe_cc C_is_row (hr.mono (by decide)) (by rfl) (pa_cons (pv 0) pa_nil)))) (pw_or1 (pt_cmpR op_ne (pe_callB (r := rLenQ K) (id := "len") (call_lenQ (K := K) rfl) (by rfl) T.b_len PySem.boot_len (pa_cons (pv 0) pa_nil)) pe_int (nomark _)))))
        (pss_one (ps_ret pe_bl))
        pss_nil)
      (pss_one (ps_ret (pe_callB (cr_all rfl) (by rfl) T.b_all (by decide +kernel) (pa_cons (pe_lc (own := [("number", 1)]) (wi := iOr (iList K (tVar 0)) (iTup K (tVar 0))) (g := gName 1) (tt := tYes) rfl sc_is_corner.nd (PI.either (pi_list (pv 0)) (pi_tup (pv 0))) (blkOk_by (N := ["thing", "number"]) (sc := defScope s_is_corner) (by decide +kernel)) (fun _ _ _ _ _ => (pg_name (i := 1) sc_is_corner.nd rfl (.inl rfl))) (fun _ _ _ _ _ => pts_nil) (fun _ _ _ _ _ => (pe_cc C_is_integer_from (hr.mono (by decide)) (by rfl) (pa_cons (pv 1) (pa_cons pe_int (pa_cons (pe_glob (v := .int 4) (by rfl) hG ⟨_, rfl⟩) pa_nil)))))) pa_nil))))), ?_⟩
    refine ⟨_, rfl, a, _, rfl, ha, fun H1 s1 => ⟨_, rfl, iteQ (by decide) ?_⟩⟩
    have ha1 := ha.mono fun o => s1 _ o
    refine ⟨_, rfl, a, _, rfl, ha1.sq, rfl, _, rfl, iteQ (nNe (.int 2)) ?_⟩
    refine iOr_seq rfl ha1 fun J G wk hG D hD => lc_true wk (by show 2 ≤ 1000; decide) hD hG (fun i x H2 H3 hi s2 ⟨e, hx⟩ Q' hQ => ?_) (fun H4 h4 s4 => all_trues h4 (k H4 (s1.trans s4))) (fun x σ H P P' h q => h _ _ q)
    rw [e]
    refine ⟨rfl, _, rfl, ?_⟩
    obtain ⟨⟨c1, c2⟩, c3, c4⟩ := hp
    match i, hi, hx with
    | 0, _, hx =>
      cases hx
      refine ⟨_, 0, 4, rfl, ?_⟩
      rw [decide_eq_true ⟨c1, c2⟩]
      exact hQ _ (Same.refl _)
    | 1, _, hx =>
      cases hx
      refine ⟨_, 0, 4, rfl, ?_⟩
      rw [decide_eq_true ⟨c3, c4⟩]
      exact hQ _ (Same.refl _)
end
end Pa
set_option maxRecDepth 100000
set_option maxHeartbeats 4000000
namespace Pa
open PySem PySem.Spec PyProof.Rows L2 Win
/-! ### a list that is collected item by item -/
theorem hide_putD {D : Addr} {H : Hp} {o : HO} : hide D (upd H D o) = hide D H := by
  funext b
  unfold hide
  by_cases h : b = D
  · rw [if_pos h, if_pos h]
  · rw [if_neg h, if_neg h, upd_ne h]
theorem hide_mono {D : Addr} {H H' : Hp} (s : Same H H') : Same (hide D H) (hide D H') := fun b u e => by
  unfold hide at e ⊢
  split at e
  · cases e
  · rename_i h
    rw [if_neg h]
    exact s b u e
theorem hide_at {D a : Addr} {H : Hp} {xs ls : List V} (hD : H D = some (.lst ls)) (h : H a = some (.tup xs)) : hide D H a = some (.tup xs) := by
  unfold hide
  rw [if_neg (fun z => by rw [z, hD] at h; cases h)]
  exact h
theorem CornT.hide {D : Addr} {H : Hp} {ls : List V} {v : V} {p : Pt} (hD : H D = some (.lst ls)) (h : CornT H v p) : CornT (hide D H) v p := by
  obtain ⟨t, e, q⟩ := h
  exact ⟨t, e, hide_at hD q⟩
theorem RingT.hide {D : Addr} {H : Hp} {ls : List V} {v : V} {ps : List Pt} (hD : H D = some (.lst ls)) (h : RingT H v ps) : RingT (hide D H) v ps := by
  obtain ⟨t, xs, e, q, a⟩ := h
  exact ⟨t, xs, e, hide_at hD q, a.imp fun _ _ => CornT.hide hD⟩
theorem lc_coll {α : Type} {R : Hp → V → α → Prop} {J : It} {G : Hp → Prop} {xs : List V} (w : Walk J xs.length G (YAt xs)) {ys : List α} {n5 : Nat} {te : TE} {σ : L2.St} {H1 : Hp} {D : Addr} {Qd : Hp → Prop} (hR : ∀ {H H' : Hp} {v : V} {y : α}, Same H H' → R H v y → R H' v y)
    (hG : ∀ H', Same H1 H' → G H') (hD : H1 D = none) (hl : xs.length = ys.length) (hz : ys.length ≤ 1000) (hw : ∀ x, wipe ((wipe σ [n5]).set n5 (some x)) [n5] = wipe σ [n5])
    (el : ∀ (i : Nat) x y (H3 : Hp) (Q : VK), xs[i]? = some x → ys[i]? = some y → Same H1 H3 → (∃ ls, H3 D = some (.lst ls)) → (∀ u H4, Same H3 H4 → R (hide D H4) u y → Q u H4) → te ((wipe σ [n5]).set n5 (some x)) H3 Q)
    (hd : ∀ ls H', H' D = some (.lst ls) → AllAt R H' ls ys → Same H1 H' → Qd H') :
    ∃ W : Nat → Nat → Hp → Prop, (∃ m, W 0 m (upd H1 D (.lst []))) ∧ ∀ i m H, W i m H →
      (J.stop i H ∧ Qd H) ∨ (J.go i H ∧ ∃ Nx : Hp → Prop, (∀ H', Nx H' → ∃ m', m' < m ∧ W (i + 1) m' H') ∧ ∀ x H', J.yld i H x H' → gName n5 x (wipe σ [n5]) H' fun σ2 H2 => wipe σ2 [n5] = wipe σ [n5] ∧ tYes σ2 H2 fun b H3 =>
        if b = true then te σ2 H3 fun y H4 => ∃ acc, H4 D = some (.lst acc) ∧ acc.length < sizeLine ∧ Nx (upd H4 D (.lst (acc ++ [y]))) else Nx H3) := by
  refine lc_it w (fun i H3 => ∃ ls, H3 D = some (.lst ls) ∧ AllAt R (hide D H3) ls (ys.take i) ∧ Same H1 (hide D H3)) ⟨[], upd_same, by rw [List.take_zero]; trivial, hide_keep (same_new hD) hD⟩
    (fun i H3 _ ⟨_, _, _, s3⟩ => hG H3 fun b u e => hide_sub D H3 _ _ (s3 b u e)) ?_ ?_
  · rintro i x H3 H3' hi ⟨ls, hls, hall, s3⟩ ⟨rfl, hx⟩
    have hi2 : i < ys.length := by omega
    obtain ⟨y, hy⟩ : ∃ y, ys[i]? = some y := ⟨_, List.getElem?_eq_getElem hi2⟩
    have s31 : Same H1 H3' := fun b u e => hide_sub D H3' _ _ (s3 b u e)
    refine ⟨hw x, el i x y H3' _ hx hy s31 ⟨ls, hls⟩ fun u H4 s4 hr => ?_⟩
    refine ⟨ls, s4 _ _ hls, Nat.lt_of_le_of_lt (m := 1000) (by rw [hall.len, List.length_take]; omega) (by decide), ls ++ [u], upd_same, ?_, ?_⟩
    · rw [hide_putD, List.take_add_one, hy]
      exact AllAt.snoc (hall.mono fun _ _ => hR (hide_mono s4)) hr
    · rw [hide_putD]
      exact s3.trans (hide_mono s4)
  · rintro H3 ⟨ls, hls, hall, s3⟩
    rw [hl, List.take_of_length_le (Nat.le_refl _)] at hall
    exact hd ls H3 hls (hall.mono fun _ _ => hR (hide_sub D H3)) fun b u e => hide_sub D H3 _ _ (s3 b u e)
section
variable {P : Program} {w : World} {K : PySem.W.Frag} {mg : Str → Option Value} {base : Heap}
/-! ### _is_ring, _ring_of, outline_of: of what is good -/
def spIsRing : Sp := fun vs H Q _ => ∃ v ps, vs = [v] ∧ RingAt H v ps ∧ GoodR ps ∧ ∀ H', Same H H' → Q (.bl true) H'
abbrev s_is_ring : Stmt := topS 16
theorem sc_is_ring : FnScope ["thing", "corner", "following"] ["thing"] (defScope s_is_ring) := ⟨rfl, rfl, rfl, by decide +kernel, rfl, by decide +kernel, by decide +kernel⟩
theorem ok_isring {f : Addr} {fd : FuncData} (F : Fun K "_is_ring" "_is_ring" s_is_ring f fd) (T : Txt K mg) (C_is_row : CallOk P w K mg base 1 "is_row" ["value"] spIsRow) (C__is_corner : CallOk P w K mg base 3 "_is_corner" ["thing"] spIsCorner) (C_each_side : WOk P w K mg base 2 "each_side" ["ring"] spSides) : FnOk P w K mg base CX0 4 f fd ["thing"] spIsRing := by
  refine F.ok sc_is_ring (fun vs H Q E h => ?_) (fun cdv A outer s H vs Q E hr h => ?_)
  · obtain ⟨v, ps, rfl, _⟩ := h
    rfl
  · obtain ⟨v, ps, rfl, ⟨a, xs, rfl, ha, hxs⟩, ⟨⟨g3, g8⟩, gc, gd⟩, k⟩ := h
    have hlen : xs.length = ps.length := hxs.len
    refine ⟨_, (pss_cons (ps_if (PW.pt (pw_or (pt_not (pt_val (pe_cc C_is_row (hr.mono (by decide)) (by rfl) (pa_cons (pv 0) pa_nil)))) (pw_or1 (pt_not (pt_chain op_le op_le pe_int (pe_callB (r := rLenQ K) (id := "len") (call_lenQ (K := K) rfl) (by rfl) T.b_len PySem.boot_len (pa_cons (pv 0) pa_nil)) pe_int)))))
        (pss_one (ps_ret pe_bl))
        pss_nil)
      (pss_cons (ps_if (pt_not (pt_val (pe_callB (cr_all rfl) (by rfl) T.b_all (by decide +kernel) (pa_cons (pe_lc (own := [("corner", 1)]) (wi := iOr (iList K (tVar 0)) (iTup K (tVar 0))) (g := gName 1) (tt := tYes) rfl sc_is_ring.nd (PI.either (pi_list (pv 0)) (pi_tup (pv 0))) (blkOk_by (N := ["thing", "corner", "following"]) (sc := defScope s_is_ring) (by decide +kernel)) (fun _ _ _ _ _ => (pg_name (i := 1) sc_is_ring.nd rfl (.inl rfl))) (fun _ _ _ _ _ => pts_nil) (fun _ _ _ _ _ => (pe_cc C__is_corner (hr.mono (by decide)) (by rfl) (pa_cons (pv 1) pa_nil)))) pa_nil))))
        (pss_one (ps_ret pe_bl))
        pss_nil)
      (pss_one (ps_ret (pe_callB (cr_all rfl) (by rfl) T.b_all (by decide +kernel) (pa_cons (pe_lcW (k := 2) (own := [("corner", 1), ("following", 2)]) (tw := tCallW spSides (tCons (tVar 0) tNil)) (g0 := gTup K 2 (gCons (gName 1) (gCons (gName 2) gNil))) (tt := tYes) (te := tOp (rNeD K) (tVar 1) (tVar 2)) rfl sc_is_ring.nd hr (pgw_cc C_each_side (hr.mono (by decide)) (by rfl) (pa_cons (pv 0) pa_nil)) (blkOk_by (N := ["thing", "corner", "following"]) (sc := defScope s_is_ring) (by decide +kernel)) (fun _ _ _ _ _ => (pg_tup rfl (pgs_cons (pg_name (i := 1) sc_is_ring.nd rfl (.inl rfl)) (pgs_cons (pg_name (i := 2) sc_is_ring.nd rfl (.inl rfl)) pgs_nil)))) (fun _ _ _ _ _ => pts_nil) (fun _ _ _ _ _ => (pe_cmpR (op_neD hr.units) (pv 1) (pv 2) (nomark _)))) pa_nil)))))), ?_⟩
    refine ⟨_, rfl, a, _, rfl, ha, fun H1 s1 => ⟨_, rfl, iteQ (by decide) ?_⟩⟩
    have ha1 := ha.mono fun o => s1 _ o
    have hx1 : AllAt CornerAt H1 xs ps := hxs.mono fun _ _ => CornerAt.mono s1
    refine ⟨_, rfl, a, _, rfl, ha1.sq, _, _, rfl, rfl, _, rfl, iteP (decide_eq_true (by omega)) ⟨_, _, rfl, rfl, _, rfl, ?_⟩⟩
    refine iteQ (by rw [decide_eq_true (by omega)]; decide) ?_
    refine iOr_seq rfl ha1 fun J G wk hG D hD => lc_true wk (by omega) hD hG (fun i x H2 H3 hi s2 ⟨e, hx⟩ Q' hQ => ?_) (fun H4 h4 s4 => ?_) (fun x σ H P P' h q => h _ _ q)
    · rw [e]
      obtain ⟨p, hp, hc⟩ := hx1.at hx
      exact ⟨rfl, _, rfl, x, p, rfl, hc.mono s2, gc p (List.mem_of_getElem? hp), fun H4 s4 => hQ H4 s4⟩
    refine tnil ?_
    show rAll K [V.ref D] H4 _
    refine all_trues h4 ?_
    refine ⟨_, rfl, iteQ (by decide) ?_⟩
    have hr4 : RingAt H4 (.ref a) ps := ⟨a, xs, rfl, ha1.mono fun o => s4 _ o, hx1.mono fun _ _ => CornerAt.mono s4⟩
    refine ⟨_, rfl, dataOf H4, ps.length, SideIt ps, dataOf_is H4, dataOf_sub H4, ⟨_, ps, rfl, hr4.data, rfl, by omega, rfl⟩, fun D2 hD2 => ?_⟩
    refine ⟨fun j H5 => H5 D2 = some (.lst (truesV j)) ∧ Same H4 H5, ⟨upd_same, same_new hD2⟩, fun H5 ⟨h5, s5⟩ => all_trues h5 (k H5 ((s1.trans s4).trans s5)), fun j H5 ⟨_, s5⟩ b o e => s5 b o (dataOf_sub H4 b o e), fun j H5 ⟨h5, _⟩ z => (by rw [h5] at z; cases z), ?_⟩
    rintro j hj H5 ⟨h5, s5⟩ x H6 s6 ⟨p, q, hp, hq, t, b, c, rfl, h1, h2, h3⟩
    refine ⟨t, _, rfl, SqT.of h1, rfl, _, _, rfl, _, _, rfl, rfl, rfl, ?_⟩
    refine ⟨_, rfl, _, rfl, ptD p, ptD q, dp_pt h2, dp_pt h3, ptD_shaped p, ptD_shaped q, _, s6 _ _ h5, by rw [truesV_len]; exact Nat.lt_of_lt_of_le hj (Nat.le_trans g8 (by decide)), ?_, same_put hD2 (s5.trans s6)⟩
    rw [eqv_pt (gd j p q hp hq), upd_same, truesV_succ]
    rfl
end
end Pa
set_option maxRecDepth 100000
set_option maxHeartbeats 4000000
namespace Pa
open PySem PySem.Spec PyProof.Rows L2 Win
theorem goodO_rs {rs : List (List Pt)} (h : GoodO rs) : GoodRs rs := by
  obtain ⟨⟨h1, h2⟩, h3⟩ := h
  refine ⟨by omega, fun ps hp => ?_⟩
  obtain ⟨⟨g1, g2⟩, g3, _⟩ := h3 ps hp
  refine ⟨by omega, fun p hpp => ?_⟩
  have := g3 p hpp
  unfold GoodC at this
  unfold SmallP
  omega
section
variable {P : Program} {w : World} {K : PySem.W.Frag} {mg : Str → Option Value} {base : Heap}
def spRingOf : Sp := fun vs H Q _ => ∃ v ps, vs = [v] ∧ RingAt H v ps ∧ ps.length ≤ 8 ∧ ∀ t H', H t = none → Same H H' → RingT H' (.ref t) ps → Q (.ref t) H'
abbrev s_ring_of : Stmt := topS 14
theorem sc_ring_of : FnScope ["ring", "corner"] ["ring"] (defScope s_ring_of) := ⟨rfl, rfl, rfl, by decide +kernel, rfl, by decide +kernel, by decide +kernel⟩
theorem ok_ringof {f : Addr} {fd : FuncData} (F : Fun K "_ring_of" "_ring_of" s_ring_of f fd) (T : Txt K mg) : FnOk P w K mg base CX0 1 f fd ["ring"] spRingOf := by
  refine F.ok sc_ring_of (fun vs H Q E h => ?_) (fun cdv A outer s H vs Q E hr h => ?_)
  · obtain ⟨v, ps, rfl, _⟩ := h
    rfl
  · obtain ⟨v, ps, rfl, ⟨a, xs, rfl, ha, hxs⟩, h8, k⟩ := h
    refine ⟨_, (pss_one (ps_ret (pe_callTy (r := rTupQ K) (T := "tuple") (call_tupQ (K := K) rfl) (by rfl) T.b_tuple (by decide +kernel) (pa_cons (pe_lc (own := [("corner", 1)]) (wi := iOr (iList K (tVar 0)) (iTup K (tVar 0))) (g := gName 1) (tt := tYes) (te := tCB (rTupQ K) (tCons (tVar 1) tNil)) rfl sc_ring_of.nd (PI.either (pi_list (pv 0)) (pi_tup (pv 0))) (blkOk_by (N := ["ring", "corner"]) (sc := defScope s_ring_of) (by decide +kernel)) (fun _ _ _ _ _ => (pg_name (i := 1) sc_ring_of.nd rfl (.inl rfl))) (fun _ _ _ _ _ => pts_nil) (fun _ _ _ _ _ => (pe_callTy (r := rTupQ K) (T := "tuple") (call_tupQ (K := K) rfl) (by rfl) T.b_tuple (by decide +kernel) (pa_cons (pv 1) pa_nil)))) pa_nil)))), ?_⟩
    refine iOr_seq rfl ha fun J G wk hG D hD => lc_coll wk (R := CornT) (ys := ps) (fun s h => CornT.mono s h) hG hD hxs.len (by omega) (fun _ => rfl) (fun i x y H3 Q' hx hy s3 ⟨ls, hls⟩ kq => ?_) (fun ls H' hls hall s' => ?_)
    · obtain ⟨p, hp, hc⟩ := hxs.at hx
      rw [hy] at hp
      cases hp
      refine ⟨_, rfl, tup_corner (hc.mono s3) fun b H4 s4 hb _ => kq _ H4 s4 ⟨b, rfl, hide_at (s4 _ _ hls) hb⟩⟩
    · refine tnil ?_
      refine ⟨D, ls, rfl, .inl ⟨SqL.of hls, fun t ht => ?_⟩⟩
      have st := same_new (o := .tup ls) ht
      exact k t _ (s'.free ht) (s'.trans st) ⟨t, ls, rfl, upd_same, hall.mono fun _ _ => CornT.mono st⟩
def OutT (H : Hp) (t : Addr) (rs : List (List Pt)) : Prop := ∃ xs, H t = some (.tup xs) ∧ AllAt RingT H xs rs
def spOutline : Sp := fun vs H Q _ => ∃ z v rs, vs = [.str z, v] ∧ RingsAt H v rs ∧ GoodO rs ∧ ∀ t H', Same H H' → OutT H' t rs → Q (.ref t) H'
abbrev soutline_of : Stmt := topS 13
theorem scoutline_of : FnScope ["letter", "thing", "number", "ring"] ["letter", "thing"] (defScope soutline_of) := ⟨rfl, rfl, rfl, by decide +kernel, rfl, by decide +kernel, by decide +kernel⟩
theorem ok_outline {f : Addr} {fd : FuncData} (F : Fun K "outline_of" "outline_of" soutline_of f fd) (T : Txt K mg) (C_is_row : CallOk P w K mg base 1 "is_row" ["value"] spIsRow) (C__is_ring : CallOk P w K mg base 4 "_is_ring" ["thing"] spIsRing) (C__ring_of : CallOk P w K mg base 1 "_ring_of" ["ring"] spRingOf) : FnOk P w K mg base CX0 5 f fd ["letter", "thing"] spOutline := by
  refine F.ok scoutline_of (fun vs H Q E h => ?_) (fun cdv A outer s H vs Q E hr h => ?_)
  · obtain ⟨z, v, rs, rfl, _⟩ := h
    rfl
  · obtain ⟨z, v, rs, rfl, ⟨a, xs, rfl, ha, hxs⟩, ⟨⟨g1, g3⟩, gr⟩, k⟩ := h
    have hlen : xs.length = rs.length := hxs.len
    refine ⟨_, (pss_cons (ps_if (PW.pt (pw_or (pt_not (pt_val (pe_cc C_is_row (hr.mono (by decide)) (by rfl) (pa_cons (pv 1) pa_nil)))) (pw_or1 (pt_not (pt_chain op_le op_le pe_int (pe_callB (r := rLenQ K) (id := "len") (call_lenQ (K := K) rfl) (by rfl) T.b_len PySem.boot_len (pa_cons (pv 1) pa_nil)) pe_int)))))
        (pss_one ps_never)
        pss_nil)
      (pss_cons (ps_for PassesOwn.never rfl (pi_range1 (by rfl) T.b_range (pa_cons (pe_callB (r := rLenQ K) (id := "len") (call_lenQ (K := K) rfl) (by rfl) T.b_len PySem.boot_len (pa_cons (pv 1) pa_nil)) pa_nil)) (pg_name (i := 2) scoutline_of.nd rfl (.inl rfl))
        (pss_one (ps_if (pt_not (pt_val (pe_cc C__is_ring (hr.mono (by decide)) (by rfl) (pa_cons (pe_ix (ix_seqQ (K := K) rfl) (pv 1) (pv 2) (fun _ _ => rfl)) pa_nil))))
          (pss_one ps_never)
          pss_nil)))
      (pss_one (ps_ret (pe_callTy (r := rTupQ K) (T := "tuple") (call_tupQ (K := K) rfl) (by rfl) T.b_tuple (by decide +kernel) (pa_cons (pe_lc (own := [("ring", 3)]) (wi := iOr (iList K (tVar 1)) (iTup K (tVar 1))) (g := gName 3) (tt := tYes) (te := tCall spRingOf [] E0 (tCons (tVar 3) tNil)) rfl scoutline_of.nd (PI.either (pi_list (pv 1)) (pi_tup (pv 1))) (blkOk_by (N := ["letter", "thing", "number", "ring"]) (sc := defScope soutline_of) (by decide +kernel)) (fun _ _ _ _ _ => (pg_name (i := 3) scoutline_of.nd rfl (.inl rfl))) (fun _ _ _ _ _ => pts_nil) (fun _ _ _ _ _ => (pe_cc C__ring_of (hr.mono (by decide)) (by rfl) (pa_cons (pv 3) pa_nil)))) pa_nil)))))), ?_⟩
    refine ⟨_, rfl, a, _, rfl, ha, fun H1 s1 => ⟨_, rfl, iteQ (by decide) ?_⟩⟩
    have ha1 := ha.mono fun o => s1 _ o
    have hx1 : AllAt RingAt H1 xs rs := hxs.mono fun _ _ => RingAt.mono s1
    refine ⟨_, rfl, a, _, rfl, ha1.sq, _, _, rfl, rfl, _, rfl, iteP (decide_eq_true (by omega)) ⟨_, _, rfl, rfl, _, rfl, ?_⟩⟩
    refine iteQ (by rw [decide_eq_true (by omega)]; decide) ?_
    refine ⟨_, rfl, a, _, rfl, ha1.sq, xs.length, rfl, by omega, by omega, ?_⟩
    refine for_range (lo := 0) (n := ((xs.length : Nat) : Int).toNat) (fun i σ H2 => ∃ y2 : Option V, σ = [some (.str z), some (.ref a), y2, none] ∧ Same H1 H2) ⟨none, rfl, Same.refl H1⟩ ?_ ?_
    · rintro i σ H2 hi ⟨y2, rfl, s2⟩
      have hi2 : i < xs.length := by omega
      have ei : (0 : Int) + (i : Int) = (i : Int) := Int.zero_add _
      obtain ⟨u, hu⟩ : ∃ u, xs[i]? = some u := ⟨_, List.getElem?_eq_getElem hi2⟩
      obtain ⟨ps, hps, hra⟩ := hx1.at hu
      refine ⟨_, rfl, _, rfl, ix_seqI (ha1.mono fun o => s2 _ o) ei hu ?_⟩
      exact ⟨u, ps, rfl, hra.mono s2, gr ps (List.mem_of_getElem? hps), fun H3 s3 => ⟨_, rfl, iteQ (by decide) ⟨_, rfl, s2.trans s3⟩⟩⟩
    · rintro σ H2 ⟨y2, rfl, s2⟩
      have hx2 : AllAt RingAt H2 xs rs := hx1.mono fun _ _ => RingAt.mono s2
      refine iOr_seq rfl (ha1.mono fun o => s2 _ o) fun J G wk hG D hD => lc_coll wk (R := RingT) (ys := rs) (fun s h => RingT.mono s h) hG hD hlen (by omega) (fun _ => rfl) (fun i x y H3 Q' hx hy s3 ⟨ls, hls⟩ kq => ?_) (fun ls H' hls hall s' => ?_)
      · obtain ⟨p, hp, hc⟩ := hx2.at hx
        rw [hy] at hp
        cases hp
        exact ⟨_, rfl, x, y, rfl, hc.mono s3, (gr y (List.mem_of_getElem? hy)).1.2, fun t H4 ht s4 hr4 => kq _ H4 s4 (hr4.hide (s4 _ _ hls))⟩
      · refine tnil ?_
        refine ⟨D, ls, rfl, .inl ⟨SqL.of hls, fun t ht => ?_⟩⟩
        have st := same_new (o := .tup ls) ht
        exact k t _ (((s1.trans s2).trans s').trans st) ⟨ls, upd_same, hall.mono fun _ _ => RingT.mono st⟩
def spChecked : Sp := fun vs H Q _ => ∃ z v rs, vs = [.str z, v] ∧ RingsAt H v rs ∧ GoodO rs ∧ 0 < stp (wInk rs) ∧ ∀ t H', Same H H' → H' t = some (.tup (inkV (wInk rs))) → Q (.ref t) H'
abbrev s_checked_ink : Stmt := topS 30
theorem sc_checked_ink : FnScope ["letter", "thing", "ink"] ["letter", "thing"] (defScope s_checked_ink) := ⟨rfl, rfl, rfl, by decide +kernel, rfl, by decide +kernel, by decide +kernel⟩
theorem ok_checked {f : Addr} {fd : FuncData} (F : Fun K "_checked_ink" "_checked_ink" s_checked_ink f fd) (C_ink_of : CallOk P w K mg base 6 "ink_of" ["rings"] spInkOf) (C_outline_of : CallOk P w K mg base 5 "outline_of" ["letter", "thing"] spOutline) (C_step_of : CallOk P w K mg base 1 "step_of" ["ink"] spStep) : FnOk P w K mg base CX0 7 f fd ["letter", "thing"] spChecked := by
  refine F.ok sc_checked_ink (fun vs H Q E h => ?_) (fun cdv A outer s H vs Q E hr h => ?_)
  · obtain ⟨z, v, rs, rfl, _⟩ := h
    rfl
  · obtain ⟨z, v, rs, rfl, hv, good, h0, k⟩ := h
    refine ⟨_, (pss_cons (ps_set (i := 2) sc_checked_ink.nd rfl (.inl rfl) (pe_cc C_ink_of (hr.mono (by decide)) (by rfl) (pa_cons (pe_cc C_outline_of (hr.mono (by decide)) (by rfl) (pa_cons (pv 0) (pa_cons (pv 1) pa_nil))) pa_nil)))
      (pss_cons (ps_if (pt_cmpR op_eq (pe_cc C_step_of (hr.mono (by decide)) (by rfl) (pa_cons (pv 2) pa_nil)) pe_int (nomark _))
        (pss_one ps_never)
        pss_nil)
      (pss_one (ps_ret (pv 2))))), ?_⟩
    refine ⟨_, rfl, _, rfl, z, v, rs, rfl, hv, good, fun t H1 s1 ⟨xs, ht, hx⟩ => ?_⟩
    refine ⟨_, rs, rfl, ⟨t, xs, rfl, .inr ht, hx.imp fun _ _ h => h.at⟩, goodO_rs good, fun u H2 hu s2 hi => ?_⟩
    refine ⟨_, rfl, u, _, rfl, hi, fun H3 s3 => ⟨rfl, _, rfl, iteQ (fun z => ?_) ⟨_, rfl, k u H3 ((s1.trans s2).trans s3) (s3 _ _ hi)⟩⟩⟩
    have := V.int.inj (of_decide_eq_true z)
    omega
end
end Pa
set_option maxRecDepth 100000
set_option maxHeartbeats 4000000
namespace Pa
open PySem PySem.Spec PyProof.Rows L2 Win
/-! ### gaps and bars -/
/-- a row is tight -/
def tb (l r : I4) (gap apart : Int) (y : Nat) : Prop := 0 ≤ (l y).rgt ∧ 0 ≤ (r y).lft ∧ stp l + gap + (r y).lft - (l y).rgt - 1 < apart
instance (l r : I4) (gap apart : Int) (y : Nat) : Decidable (tb l r gap apart y) := by unfold tb; exact inferInstance
/-- the first tight row -/
def Tight (l r : I4) (gap apart : Int) (y : Nat) : Prop := y < 4 ∧ tb l r gap apart y ∧ ∀ z, z < y → ¬ tb l r gap apart z
def Loose (l r : I4) (gap apart : Int) : Prop := ∀ y, y < 4 → ¬ tb l r gap apart y
theorem tb_bound {l r : I4} {gap apart : Int} {y : Nat} (hy : y < 4) (h : tb l r gap apart y) : gap < apart := by
  obtain ⟨h1, h2, h3⟩ := h
  have := stp_ge l y hy
  omega
theorem Tight.uniq {l r : I4} {gap apart : Int} {y z : Nat} (h : Tight l r gap apart y) (h' : Tight l r gap apart z) : y = z := by
  rcases Nat.lt_trichotomy y z with k | k | k
  · exact absurd h.2.1 (h'.2.2 y k)
  · exact k
  · exact absurd h'.2.1 (h.2.2 z k)
/-- the gap and the bar -/
def GapBar (l r : I4) (apart : Int) (g : Nat) (bar : V) : Prop := Loose l r g apart ∧ (∀ g', g' < g → ∃ y, Tight l r g' apart y) ∧ ((g = 0 ∧ bar = .non) ∨ ∃ m y, g = m + 1 ∧ Tight l r m apart y ∧ bar = .int y)
section
variable {P : Program} {w : World} {K : PySem.W.Frag} {mg : Str → Option Value} {base : Heap}
def spTight : Sp := fun vs H Q _ => ∃ (t u : Addr) (l r : I4) (gap apart : Int), vs = [.ref t, .ref u, .int gap, .int apart] ∧ H t = some (.tup (inkV l)) ∧ H u = some (.tup (inkV r)) ∧
  (∀ y H', Same H H' → Tight l r gap apart y → Q (.int (y : Nat)) H') ∧ ∀ H', Same H H' → Loose l r gap apart → Q .non H'
abbrev s_tight_row : Stmt := topS 32
theorem sc_tight_row : FnScope ["left", "right", "gap", "apart", "row", "between"] ["left", "right", "gap", "apart"] (defScope s_tight_row) := ⟨rfl, rfl, rfl, by decide +kernel, rfl, by decide +kernel, by decide +kernel⟩
theorem ok_tight {f : Addr} {fd : FuncData} (F : Fun K "_tight_row" "_tight_row" s_tight_row f fd) (T : Txt K mg) (T2 : Txt2 mg) (C_blanks : CallOk P w K mg base 3 "blanks" ["left", "right", "row", "gap"] spBlanks) : FnOk P w K mg base CX0 4 f fd ["left", "right", "gap", "apart"] spTight := by
  refine F.ok sc_tight_row (fun vs H Q E h => ?_) (fun cdv A outer s H vs Q E hr h => ?_)
  · obtain ⟨t, u, l, r, gap, apart, rfl, _⟩ := h
    rfl
  · obtain ⟨t, u, l, r, gap, apart, rfl, ht, hu, k1, k2⟩ := h
    obtain ⟨tk, hG⟩ := T2.g_GRID
    refine ⟨_, (pss_cons (ps_for PassesOwn.never rfl (pi_range1 (by rfl) T.b_range (pa_cons (pe_glob (v := .int 4) (by rfl) hG ⟨_, rfl⟩) pa_nil)) (pg_name (i := 4) sc_tight_row.nd rfl (.inl rfl))
        (pss_cons (ps_set (i := 5) sc_tight_row.nd rfl (.inl rfl) (pe_cc C_blanks (hr.mono (by decide)) (by rfl) (pa_cons (pv 0) (pa_cons (pv 1) (pa_cons (pv 4) (pa_cons (pv 2) pa_nil))))))
        (pss_one (ps_if (PW.pt (pw_and (pt_cmpR op_notN (pv 5) pe_non (nomark _)) (pw_and1 (pt_cmpR op_lt (pv 5) (pv 3) (nomark _)))))
          (pss_one (ps_ret (pv 4)))
          pss_nil))))
      (pss_one (ps_ret pe_non))), ?_⟩
    refine ⟨4, rfl, by decide, by decide, for_range (lo := 0) (n := (4 : Int).toNat) (fun y σ H2 => ∃ (y4 y5 : Option V), σ = [some (.ref t), some (.ref u), some (.int gap), some (.int apart), y4, y5] ∧ Same H H2 ∧ ∀ z, z < y → ¬ tb l r gap apart z) ⟨none, none, rfl, Same.refl H, fun z hz => absurd hz (Nat.not_lt_zero _)⟩ ?_ ?_⟩
    · rintro y σ H2 hy ⟨y4, y5, rfl, s2, hno⟩
      have hy4 : y < 4 := hy
      have ey : (0 : Int) + (y : Int) = (y : Int) := Int.zero_add _
      refine ⟨_, rfl, _, rfl, _, rfl, _, rfl, t, u, l, r, y, gap, by rw [ey]; rfl, s2 _ _ ht, s2 _ _ hu, hy4, fun H3 s3 => ?_⟩
      have s23 := s2.trans s3
      have nx : ¬ tb l r gap apart y → ∀ z, z < y + 1 → ¬ tb l r gap apart z := fun h z hz => by
        rcases Nat.lt_succ_iff_lt_or_eq.mp hz with q | q
        · exact hno z q
        · rw [q]
          exact h
      unfold blk
      by_cases h : (l y).rgt < 0 ∨ (r y).lft < 0
      · rw [if_pos h]
        have ht : ¬ tb l r gap apart y := fun z => by
          obtain ⟨z1, z2, _⟩ := z
          omega
        exact ⟨_, rfl, rfl, _, rfl, iteQ (nNe _) (iteQ (by decide) ⟨_, _, rfl, s23, nx ht⟩)⟩
      · rw [if_neg h]
        refine ⟨_, rfl, rfl, _, rfl, iteP (notF (decide_eq_false (fun z => by cases z))) ?_⟩
        refine ⟨_, rfl, _, rfl, _, _, rfl, rfl, _, rfl, ite2 (fun h2 => ?_) (fun h2 => ?_)⟩
        · have h2 := of_decide_eq_true h2
          rw [ey]
          exact ⟨_, rfl, k1 y H3 s23 ⟨hy4, ⟨by omega, by omega, h2⟩, hno⟩⟩
        · have h2 := fun z => h2 (decide_eq_true z)
          exact ⟨_, _, rfl, s23, nx fun z => h2 z.2.2⟩
    · rintro σ H2 ⟨y4, y5, rfl, s2, hno⟩
      exact k2 H2 s2 hno
def spGap : Sp := fun vs H Q _ => ∃ (t u : Addr) (l r : I4) (apart : Int), vs = [.ref t, .ref u, .int apart] ∧ H t = some (.tup (inkV l)) ∧ H u = some (.tup (inkV r)) ∧ apart ≤ 1000 ∧
  ∀ (g : Nat) (bar : V) (p : Addr) (H' : Hp), GapBar l r apart g bar → H p = none → Same H H' → H' p = some (.tup [.int g, bar]) → Q (.ref p) H'
abbrev s_gap_and_bar : Stmt := topS 31
theorem sc_gap_and_bar : FnScope ["left", "right", "apart", "gap", "bar", "row"] ["left", "right", "apart"] (defScope s_gap_and_bar) := ⟨rfl, rfl, rfl, by decide +kernel, rfl, by decide +kernel, by decide +kernel⟩
theorem ok_gap {f : Addr} {fd : FuncData} (F : Fun K "_gap_and_bar" "_gap_and_bar" s_gap_and_bar f fd) (C__tight_row : CallOk P w K mg base 4 "_tight_row" ["left", "right", "gap", "apart"] spTight) : FnOk P w K mg base CX0 5 f fd ["left", "right", "apart"] spGap := by
  refine F.ok sc_gap_and_bar (fun vs H Q E h => ?_) (fun cdv A outer s H vs Q E hr h => ?_)
  · obtain ⟨t, u, l, r, apart, rfl, _⟩ := h
    rfl
  · obtain ⟨t, u, l, r, apart, rfl, ht, hu, hap, k⟩ := h
    refine ⟨_, (pss_cons (ps_asg (pe_tup (pa_cons pe_int (pa_cons pe_non pa_nil))) (pg_tup rfl (pgs_cons (pg_name (i := 3) sc_gap_and_bar.nd rfl (.inl rfl)) (pgs_cons (pg_name (i := 4) sc_gap_and_bar.nd rfl (.inl rfl)) pgs_nil))))
      (pss_cons (ps_set (i := 5) sc_gap_and_bar.nd rfl (.inl rfl) (pe_cc C__tight_row (hr.mono (by decide)) (by rfl) (pa_cons (pv 0) (pa_cons (pv 1) (pa_cons (pv 3) (pa_cons (pv 2) pa_nil))))))
      (pss_cons (ps_while PassesOwn.never (pt_cmpR op_notN (pv 5) pe_non (nomark _))
        (pss_cons (ps_par (i := 3) (j := 4) (by rfl) sc_gap_and_bar.nd rfl rfl (by decide) rfl rfl (pa_cons (pe_op op_add (pv 3) pe_int) (pa_cons (pv 5) pa_nil)) (by rfl))
        (pss_one (ps_set (i := 5) sc_gap_and_bar.nd rfl (.inl rfl) (pe_cc C__tight_row (hr.mono (by decide)) (by rfl) (pa_cons (pv 0) (pa_cons (pv 1) (pa_cons (pv 3) (pa_cons (pv 2) pa_nil)))))))))
      (pss_one (ps_ret (pe_tup (pa_cons (pv 3) (pa_cons (pv 4) pa_nil)))))))), ?_⟩
    refine ⟨by show 2 ≤ sizeLine; decide, fun c hc => ?_⟩
    refine ⟨c, _, rfl, SqT.of upd_same, rfl, _, _, rfl, _, _, rfl, rfl, ?_⟩
    have sc := same_new (o := .tup [.int 0, .non]) hc
    have ht := sc _ _ ht
    have hu := sc _ _ hu
    have k := fun g bar p H' (h1 : GapBar l r apart g bar) h2 (h3 : Same _ H') h4 => k g bar p H' h1 (sc.free h2) (sc.trans h3) h4
    revert ht hu k
    generalize upd H c (.tup [.int 0, .non]) = H
    intro ht hu k
    -- the state ahead of a turn: the gap g, its bar, and the row that is tight at g (or none)
    let St := fun (g : Nat) (σ : L2.St) (H2 : Hp) => ∃ bar row, σ = [some (V.ref t), some (V.ref u), some (V.int apart), some (V.int (g : Int)), some bar, some row] ∧ Same H H2 ∧ (∀ g', g' < g → ∃ y, Tight l r g' apart y) ∧ ((g = 0 ∧ bar = .non) ∨ ∃ m y, g = m + 1 ∧ Tight l r m apart y ∧ bar = .int (y : Nat)) ∧
      ((∃ y : Nat, row = .int y ∧ Tight l r g apart y) ∨ (row = .non ∧ Loose l r g apart))
    have first : ∀ row H2, Same H H2 → ((∃ y : Nat, row = .int y ∧ Tight l r ((0 : Nat) : Int) apart y) ∨ (row = .non ∧ Loose l r ((0 : Nat) : Int) apart)) → St 0 [some (V.ref t), some (V.ref u), some (V.int apart), some (V.int ((0 : Nat) : Int)), some .non, some row] H2 := fun row H2 s2 h =>
      ⟨.non, row, rfl, s2, fun g' hg => absurd hg (Nat.not_lt_zero _), .inl ⟨rfl, rfl⟩, h⟩
    have loop : ∀ σ H2, St 0 σ H2 → tWhile (tTest (tOp (fun x y H Q => y = .non ∧ Q (.bl (!decide (x = .non))) H) (tVar 5) (tC .non))) (tSeq (tPar 3 4 (tCons (tOp (rI0 fun i j => .int (i + j)) (tVar 3) (tC (.int 1))) (tCons (tVar 5) tNil))) (tAsg (tCall spTight [] E0 (tCons (tVar 0) (tCons (tVar 1) (tCons (tVar 3) (tCons (tVar 2) tNil))))) (gName 5)))
        { nx := fun σ' H' => tRet (tTup (tCons (tVar 3) (tCons (tVar 4) tNil))) { nx := fun x H' => Q V.non H', rt := Q } σ' H', rt := Q } σ H2 := fun σ H2 h0 => by
      refine while_by (fun σ H2 => ∃ g, St g σ H2) (fun (σ : L2.St) _ => match σ[3]? with | some (some (V.int g)) => (apart - g).toNat | _ => 0) ⟨0, h0⟩ ?_ ?_
      · rintro σ H2 ⟨g, bar, row, rfl, s2, hb, hbar, hrow⟩
        rcases hrow with ⟨y, rfl, hy⟩ | ⟨rfl, hl⟩
        · refine ⟨_, rfl, rfl, _, rfl, iteP (notF (decide_eq_false (fun z => by cases z))) ?_⟩
          have hlt := tb_bound hy.1 hy.2.1
          refine ⟨_, rfl, _, _, rfl, rfl, _, rfl, _, _, rfl, ?_⟩
          have eg : (g : Int) + 1 = ((g + 1 : Nat) : Int) := by omega
          have hb' : ∀ g', g' < g + 1 → ∃ y, Tight l r g' apart y := fun g' hg => by
            rcases Nat.lt_succ_iff_lt_or_eq.mp hg with q | q
            · exact hb g' q
            · rw [q]
              exact ⟨y, hy⟩
          have fin : ∀ row H3, Same H2 H3 → ((∃ y : Nat, row = .int y ∧ Tight l r ((g : Int) + 1) apart y) ∨ (row = .non ∧ Loose l r ((g : Int) + 1) apart)) → (∃ g', St g' [some (V.ref t), some (V.ref u), some (V.int apart), some (V.int ((g : Int) + 1)), some (V.int (y : Nat)), some row] H3) ∧ (apart - ((g : Int) + 1)).toNat < (apart - (g : Int)).toNat := fun row H3 s3 hr3 => by
            refine ⟨⟨g + 1, .int (y : Nat), row, ?_, s2.trans s3, hb', .inr ⟨g, y, rfl, hy, rfl⟩, ?_⟩, by omega⟩
            · rw [eg]
            · rw [← eg]
              exact hr3
          refine ⟨_, rfl, _, rfl, _, rfl, _, rfl, t, u, l, r, (g : Int) + 1, apart, rfl, s2 _ _ ht, s2 _ _ hu, fun y' H3 s3 hy' => ?_, fun H3 s3 hl' => ?_⟩
          · exact fin _ H3 s3 (.inl ⟨y', rfl, hy'⟩)
          · exact fin _ H3 s3 (.inr ⟨rfl, hl'⟩)
        · refine ⟨_, rfl, rfl, _, rfl, iteQ (nNe _) ?_⟩
          refine ⟨_, rfl, _, rfl, by show 2 ≤ sizeLine; decide, fun p hp => k g bar p _ ⟨hl, hb, hbar⟩ (s2.free hp) (s2.trans (same_new hp)) upd_same⟩
      · rintro σ H Q1 Q2 hq ⟨x, hx, h1, h2⟩
        obtain ⟨b, e, q⟩ := h2
        exact ⟨x, hx, h1, b, e, hq _ _ q⟩
    refine ⟨_, rfl, _, rfl, _, rfl, _, rfl, t, u, l, r, 0, apart, rfl, ht, hu, fun y H2 s2 hy => ?_, fun H2 s2 hl => ?_⟩
    · exact loop _ H2 (first _ H2 s2 (.inl ⟨y, rfl, hy⟩))
    · exact loop _ H2 (first _ H2 s2 (.inr ⟨rfl, hl⟩))
end
end Pa
set_option maxRecDepth 100000
set_option maxHeartbeats 2000000
namespace L2
open PySem PySem.Spec PyProof.Rows
/-! ### zip of a text and a list or a tuple -/
def ItzX (x : Str) (S : Hp → List V → Prop) : It :=
  ⟨fun i H => ∃ (ys : List V) (c : Nat) (y : V), x.cps[i]? = some c ∧ S H ys ∧ ys[i]? = some y,
    fun i H v H' => ∃ T c y, v = .ref T ∧ H T = none ∧ H' = upd H T (.tup [.str ⟨#[c]⟩, y]) ∧ x.cps[i]? = some c ∧ ∀ ys, S H ys → ys[i]? = some y,
    fun i H => ∃ ys, S H ys ∧ i ≤ x.cps.size ∧ i ≤ ys.length ∧ (i = x.cps.size ∨ i = ys.length)⟩
theorem turn_zipXL {P : Program} {w : World} {K : PySem.W.Frag} {elts : List Expr} {kk : Nat} {tpos : Pos} {b z TI TO i1 i2 : Addr} {x : Str} {t : Tok} (D : ZipSep2 z TI TO i1 i2 [i1] [i2, b]) :
    Turn P w K (.Tuple elts kk tpos) (ItzX x fun H ys => SqL K H b ys) [z, TI, TO, i1, i2] z (fun i h => IsZip h z TI TO .none ∧ IsTupOf2 h TI (.ref i1) (.ref i2) ∧ (∃ a1 a2, IsTupOf2 h TO a1 a2) ∧ h.IsStrIter i1 (strIterType x) x t i ∧ h.IsListIter i2 b i) where
  mem := by simp
  obj := fun i h st c hc => by
    obtain ⟨hz, hTI, ⟨a1, a2, hTO⟩, ⟨o1, e1, _, d1⟩, ⟨o2, e2, _, d2⟩⟩ := st
    have e' : c = z ∨ c = TI ∨ c = TO ∨ c = i1 ∨ c = i2 := by simpa using hc
    rcases e' with q | q | q | q | q
    · rw [q]; exact ⟨_, hz, fun v q => nomatch q⟩
    · rw [q]; exact ⟨_, hTI, fun v q => nomatch q⟩
    · rw [q]; exact ⟨_, hTO, fun v q => nomatch q⟩
    · rw [q]; exact ⟨o1, e1, fun v q => by rw [d1] at q; cases q⟩
    · rw [q]; exact ⟨o2, e2, fun v q => by rw [d2] at q; cases q⟩
  keep := fun i h h' st k => by
    obtain ⟨hz, hTI, ⟨a1, a2, hTO⟩, ⟨o1, e1, r1⟩, h2⟩ := st
    exact ⟨k z (by simp) _ hz, k TI (by simp) _ hTI, ⟨a1, a2, k TO (by simp) _ hTO⟩, ⟨o1, k i1 (by simp) o1 e1, r1⟩, h2.at fun o q => k i2 (by simp) o q⟩
  item := by
    intro X hP hw hK hc i pins s σ H E I hf st hg
    subst hP hw hK
    obtain ⟨hz, hTI, ⟨a1, a2, hTO⟩, h1, h2⟩ := st
    obtain ⟨ys, c0, y, hcx, hqy, hy⟩ := hg
    obtain ⟨its2, rv2, p2, _⟩ := I.list hqy
    obtain ⟨u2, hu2, ru2⟩ := rv2.get hy
    have hzl : z < s.heap.objs.size := Heap.lt_size hz
    have n1 : i < x.cps.size := (Array.getElem?_eq_some_iff.mp hcx).1
    have n2 : i < its2.toArray.size := by
      rw [List.size_toArray]
      exact (List.getElem?_eq_some_iff.mp hu2).1
    have hne : b ≠ i2 := fun q => by
      obtain ⟨o2, e2, c2, d2⟩ := id h2
      obtain ⟨o3, e3, c3, _⟩ := p2.isList
      rw [q, e2] at e3
      cases e3
      rw [c2] at c3
      exact absurd c3 (by decide)
    refine wpAny_pyNext_zipD2_item D (Draws.text (show X.A.in1.handled = none from I.ok.hd hc) i1 x t) (Draws.list (show X.A.in1.handled = none from I.ok.hd hc) i2 b hne its2.toArray) hz hTI hTO h1 ⟨h2, p2.isList⟩ n1 n2 fun x1 x2 h' tk px1 px2 z' TO' hs1 hs2 hT hsz hk => ?_
    obtain ⟨c, tc, hc1, rfl⟩ := px1
    have eu : x2 = u2 := by
      have q : its2[i]? = some x2 := by simpa using px2
      rw [hu2] at q
      exact (Option.some.inj q).symm
    subst eu
    refine ⟨_, rfl, wpAny_letOwnedTupleGo_zip (s := { s with heap := h', toks := tk }) z' fun h'' z'' sb => ?_⟩
    have hT2 : h''.get? s.heap.objs.size = some { cls := .type "tuple", data := .seq #[.str ⟨#[c]⟩ tc, x2] } := (sb.2 _ (Nat.ne_of_gt hzl)).trans hT
    have new : ObjOk X.prog X.w (upd H s.heap.objs.size (.tup [.str ⟨#[c]⟩, y])) h'' s.heap.objs.size (.tup [.str ⟨#[c]⟩, y]) :=
      ⟨by show 2 ≤ sizeLine; decide, [.str ⟨#[c]⟩ tc, x2], .cons ⟨tc, rfl⟩ (.cons ru2 .nil), ⟨_, hT2, rfl, _, rfl⟩⟩
    have I1 : Inv X pins σ (upd H s.heap.objs.size (.tup [.str ⟨#[c]⟩, y])) { s with heap := h'', toks := tk } :=
      I.turnedNew (t' := tk) (ch := [z, TI, TO, i1, i2]) (fun c o hb q => (sb.2 c (fun q' => hb (by simp [q']))).trans (hk c o (fun q' => hb (by simp [q'])) (fun q' => hb (by simp [q'])) (fun q' => hb (by simp [q'])) (fun q' => hb (by simp [q'])) q)) hf (Nat.le_refl _) new
    refine ⟨.ref s.heap.objs.size, _, I1, rfl, ⟨_, c, y, rfl, I.hok.fresh (Nat.le_refl _), rfl, hc1, fun l hl => by rw [I.list_inj hl hqy]; exact hy⟩, ⟨z'', ?_, ⟨.str ⟨#[c]⟩ tc, x2, ?_⟩, ?_, ?_⟩, fun c hcm => ?_⟩
    · exact (sb.2 _ D.TIz).trans (hk _ _ D.TIz D.TITO D.TIi1 D.TIi2 hTI)
    · exact (sb.2 _ D.TOz).trans TO'
    · obtain ⟨o1, e1, r1⟩ := hs1
      exact ⟨o1, (sb.2 _ (Ne.symm D.zi1)).trans e1, r1⟩
    · exact hs2.1.at fun o q => (sb.2 _ (Ne.symm D.zi2)).trans q
    · have hlt : c < s.heap.objs.size := by
        have e' : c = z ∨ c = TI ∨ c = TO ∨ c = i1 ∨ c = i2 := by simpa using hcm
        rcases e' with q | q | q | q | q
        · rw [q]; exact hzl
        · rw [q]; exact Heap.lt_size hTI
        · rw [q]; exact Heap.lt_size hTO
        · rw [q]; obtain ⟨_, e1, _⟩ := h1; exact Heap.lt_size e1
        · rw [q]; obtain ⟨_, e2, _⟩ := h2; exact Heap.lt_size e2
      rw [upd_ne (Nat.ne_of_lt hlt)]
      exact (hf c hcm).1
  done := by
    intro X hP hw hK hc i pins s σ H E I hf st hg
    subst hP hw hK
    obtain ⟨hz, hTI, ⟨a1, a2, hTO⟩, h1, h2⟩ := st
    obtain ⟨ys, hqy, n1, n2, hend⟩ := hg
    obtain ⟨its2, rv2, p2, _⟩ := I.list hqy
    have l2 := rv2.length
    have hne : b ≠ i2 := fun q => by
      obtain ⟨o2, e2, c2, d2⟩ := id h2
      obtain ⟨o3, e3, c3, _⟩ := p2.isList
      rw [q, e2] at e3
      cases e3
      rw [c2] at c3
      exact absurd c3 (by decide)
    have sz : its2.toArray.size = ys.length := by rw [List.size_toArray]; omega
    exact wpAny_pyNext_zipD2_end D (Draws.text (show X.A.in1.handled = none from I.ok.hd hc) i1 x t) (Draws.list (show X.A.in1.handled = none from I.ok.hd hc) i2 b hne its2.toArray) hz hTI hTO h1 ⟨h2, p2.isList⟩ n1 (by rw [sz]; exact n2) (by rw [sz]; exact hend) fun h' tk hk => ⟨rfl, I.turnedL (t' := tk) (ch := [z, TI, TO, i1, i2]) (fun c o hb q =>
      hk c o (fun q' => hb (by simp [q'])) (fun q' => hb (by simp [q'])) (fun q' => hb (by simp [q'])) (fun q' => hb (by simp [q'])) q) hf⟩
  self := fun A i s Q E st h => wpAny_pyIter_zip st.1 h
theorem turn_zipXT {P : Program} {w : World} {K : PySem.W.Frag} {elts : List Expr} {kk : Nat} {tpos : Pos} {b z TI TO i1 i2 : Addr} {x : Str} {t : Tok} (D : ZipSep2 z TI TO i1 i2 [i1] [i2, b]) :
    Turn P w K (.Tuple elts kk tpos) (ItzX x fun H ys => SqT K H b ys) [z, TI, TO, i1, i2] z (fun i h => IsZip h z TI TO .none ∧ IsTupOf2 h TI (.ref i1) (.ref i2) ∧ (∃ a1 a2, IsTupOf2 h TO a1 a2) ∧ h.IsStrIter i1 (strIterType x) x t i ∧ h.IsTupleIter i2 b i) where
  mem := by simp
  obj := fun i h st c hc => by
    obtain ⟨hz, hTI, ⟨a1, a2, hTO⟩, ⟨o1, e1, _, d1⟩, ⟨o2, e2, _, d2⟩⟩ := st
    have e' : c = z ∨ c = TI ∨ c = TO ∨ c = i1 ∨ c = i2 := by simpa using hc
    rcases e' with q | q | q | q | q
    · rw [q]; exact ⟨_, hz, fun v q => nomatch q⟩
    · rw [q]; exact ⟨_, hTI, fun v q => nomatch q⟩
    · rw [q]; exact ⟨_, hTO, fun v q => nomatch q⟩
    · rw [q]; exact ⟨o1, e1, fun v q => by rw [d1] at q; cases q⟩
    · rw [q]; exact ⟨o2, e2, fun v q => by rw [d2] at q; cases q⟩
  keep := fun i h h' st k => by
    obtain ⟨hz, hTI, ⟨a1, a2, hTO⟩, ⟨o1, e1, r1⟩, h2⟩ := st
    exact ⟨k z (by simp) _ hz, k TI (by simp) _ hTI, ⟨a1, a2, k TO (by simp) _ hTO⟩, ⟨o1, k i1 (by simp) o1 e1, r1⟩, h2.at fun o q => k i2 (by simp) o q⟩
  item := by
    intro X hP hw hK hc i pins s σ H E I hf st hg
    subst hP hw hK
    obtain ⟨hz, hTI, ⟨a1, a2, hTO⟩, h1, h2⟩ := st
    obtain ⟨ys, c0, y, hcx, hqy, hy⟩ := hg
    obtain ⟨its2, rv2, p2, _⟩ := I.tuple hqy
    obtain ⟨u2, hu2, ru2⟩ := rv2.get hy
    have hzl : z < s.heap.objs.size := Heap.lt_size hz
    have n1 : i < x.cps.size := (Array.getElem?_eq_some_iff.mp hcx).1
    have n2 : i < its2.toArray.size := by
      rw [List.size_toArray]
      exact (List.getElem?_eq_some_iff.mp hu2).1
    have hne : b ≠ i2 := fun q => by
      obtain ⟨o2, e2, c2, d2⟩ := id h2
      obtain ⟨o3, e3, c3, _⟩ := p2
      rw [q, e2] at e3
      cases e3
      rw [c2] at c3
      exact absurd c3 (by decide)
    refine wpAny_pyNext_zipD2_item D (Draws.text (show X.A.in1.handled = none from I.ok.hd hc) i1 x t) (Draws.tuple (show X.A.in1.handled = none from I.ok.hd hc) i2 b hne its2.toArray) hz hTI hTO h1 ⟨h2, p2⟩ n1 n2 fun x1 x2 h' tk px1 px2 z' TO' hs1 hs2 hT hsz hk => ?_
    obtain ⟨c, tc, hc1, rfl⟩ := px1
    have eu : x2 = u2 := by
      have q : its2[i]? = some x2 := by simpa using px2
      rw [hu2] at q
      exact (Option.some.inj q).symm
    subst eu
    refine ⟨_, rfl, wpAny_letOwnedTupleGo_zip (s := { s with heap := h', toks := tk }) z' fun h'' z'' sb => ?_⟩
    have hT2 : h''.get? s.heap.objs.size = some { cls := .type "tuple", data := .seq #[.str ⟨#[c]⟩ tc, x2] } := (sb.2 _ (Nat.ne_of_gt hzl)).trans hT
    have new : ObjOk X.prog X.w (upd H s.heap.objs.size (.tup [.str ⟨#[c]⟩, y])) h'' s.heap.objs.size (.tup [.str ⟨#[c]⟩, y]) :=
      ⟨by show 2 ≤ sizeLine; decide, [.str ⟨#[c]⟩ tc, x2], .cons ⟨tc, rfl⟩ (.cons ru2 .nil), ⟨_, hT2, rfl, _, rfl⟩⟩
    have I1 : Inv X pins σ (upd H s.heap.objs.size (.tup [.str ⟨#[c]⟩, y])) { s with heap := h'', toks := tk } :=
      I.turnedNew (t' := tk) (ch := [z, TI, TO, i1, i2]) (fun c o hb q => (sb.2 c (fun q' => hb (by simp [q']))).trans (hk c o (fun q' => hb (by simp [q'])) (fun q' => hb (by simp [q'])) (fun q' => hb (by simp [q'])) (fun q' => hb (by simp [q'])) q)) hf (Nat.le_refl _) new
    refine ⟨.ref s.heap.objs.size, _, I1, rfl, ⟨_, c, y, rfl, I.hok.fresh (Nat.le_refl _), rfl, hc1, fun l hl => by rw [I.tuple_inj hl hqy]; exact hy⟩, ⟨z'', ?_, ⟨.str ⟨#[c]⟩ tc, x2, ?_⟩, ?_, ?_⟩, fun c hcm => ?_⟩
    · exact (sb.2 _ D.TIz).trans (hk _ _ D.TIz D.TITO D.TIi1 D.TIi2 hTI)
    · exact (sb.2 _ D.TOz).trans TO'
    · obtain ⟨o1, e1, r1⟩ := hs1
      exact ⟨o1, (sb.2 _ (Ne.symm D.zi1)).trans e1, r1⟩
    · exact hs2.1.at fun o q => (sb.2 _ (Ne.symm D.zi2)).trans q
    · have hlt : c < s.heap.objs.size := by
        have e' : c = z ∨ c = TI ∨ c = TO ∨ c = i1 ∨ c = i2 := by simpa using hcm
        rcases e' with q | q | q | q | q
        · rw [q]; exact hzl
        · rw [q]; exact Heap.lt_size hTI
        · rw [q]; exact Heap.lt_size hTO
        · rw [q]; obtain ⟨_, e1, _⟩ := h1; exact Heap.lt_size e1
        · rw [q]; obtain ⟨_, e2, _⟩ := h2; exact Heap.lt_size e2
      rw [upd_ne (Nat.ne_of_lt hlt)]
      exact (hf c hcm).1
  done := by
    intro X hP hw hK hc i pins s σ H E I hf st hg
    subst hP hw hK
    obtain ⟨hz, hTI, ⟨a1, a2, hTO⟩, h1, h2⟩ := st
    obtain ⟨ys, hqy, n1, n2, hend⟩ := hg
    obtain ⟨its2, rv2, p2, _⟩ := I.tuple hqy
    have l2 := rv2.length
    have hne : b ≠ i2 := fun q => by
      obtain ⟨o2, e2, c2, d2⟩ := id h2
      obtain ⟨o3, e3, c3, _⟩ := p2
      rw [q, e2] at e3
      cases e3
      rw [c2] at c3
      exact absurd c3 (by decide)
    have sz : its2.toArray.size = ys.length := by rw [List.size_toArray]; omega
    exact wpAny_pyNext_zipD2_end D (Draws.text (show X.A.in1.handled = none from I.ok.hd hc) i1 x t) (Draws.tuple (show X.A.in1.handled = none from I.ok.hd hc) i2 b hne its2.toArray) hz hTI hTO h1 ⟨h2, p2⟩ n1 (by rw [sz]; exact n2) (by rw [sz]; exact hend) fun h' tk hk => ⟨rfl, I.turnedL (t' := tk) (ch := [z, TI, TO, i1, i2]) (fun c o hb q =>
      hk c o (fun q' => hb (by simp [q'])) (fun q' => hb (by simp [q'])) (fun q' => hb (by simp [q'])) (fun q' => hb (by simp [q'])) q) hf⟩
  self := fun A i s Q E st h => wpAny_pyIter_zip st.1 h

def iZipX (K : PySem.W.Frag) (ta : TA) : TI := fun σ H R => ta σ H fun vs H1 => ∃ (x : Str) (b : Addr) (ys : List V), vs = [.str x, .ref b] ∧ ((SqL K H1 b ys ∧ R (ItzX x fun H ys => SqL K H b ys) H1) ∨ (SqT K H1 b ys ∧ R (ItzX x fun H ys => SqT K H b ys) H1))
theorem pi_zipX {X : Cx} {e e2 : Expr} {ta : TA} {p pos tpos : Pos} {elts : List Expr} {kk : Nat} (hg : Gl X "zip") (hm : X.mg "zip" = none) (ha : PA X [e, e2] ta)
    (hs : starEach [e, e2] X.env = (false, eval e X.env) :: starEach [e2] X.env := by rfl) (hpl : (backTo pos (starEach [e2] X.env)).any (·.1) = false := by rfl) :
    PI X (.Tuple elts kk tpos) (.Call (.Name "zip" p) [e, e2] [] pos) (iZipX X.K ta) := by
  refine ⟨fun pins s σ H R I h => ?_⟩
  refine Call_ (ld_blt I hg hm PyProof.Rows.boot_zip (PyProof.Rows.callWith_type1 (thn (ha.run pos pins s σ H _ I h) fun us s1 ⟨vs, H1, I1, r1, q1⟩ => ?_) hs hpl))
  obtain ⟨x, b, ys, ex, q1⟩ := q1
  subst ex
  cases r1 with
  | cons r rr =>
    cases rr with
    | cons r' rr =>
      cases rr
      obtain ⟨t, rfl⟩ := r
      cases r'
      have fresh5 : ∀ c, c ∈ [s1.heap.objs.size + 4, s1.heap.objs.size + 2, s1.heap.objs.size + 3, s1.heap.objs.size, s1.heap.objs.size + 1] → FpOk X pins H1 c := fun c hcm => by
        have e' : c = s1.heap.objs.size + 4 ∨ c = s1.heap.objs.size + 2 ∨ c = s1.heap.objs.size + 3 ∨ c = s1.heap.objs.size ∨ c = s1.heap.objs.size + 1 := by simpa using hcm
        have hle : s1.heap.objs.size ≤ c := by
          rcases e' with z | z | z | z | z
          · rw [z]; exact Nat.le_add_right _ _
          · rw [z]; exact Nat.le_add_right _ _
          · rw [z]; exact Nat.le_add_right _ _
          · rw [z]; exact Nat.le_refl _
          · rw [z]; exact Nat.le_add_right _ _
        exact I1.fpOk hle (I1.hok.fresh hle)
      have sep : ∀ {b : Addr}, b < s1.heap.objs.size → ZipSep2 (s1.heap.objs.size + 4) (s1.heap.objs.size + 2) (s1.heap.objs.size + 3) s1.heap.objs.size (s1.heap.objs.size + 1) [s1.heap.objs.size] [s1.heap.objs.size + 1, b] := fun {b} hb => by
        have far : ∀ k, s1.heap.objs.size + k ≠ b := fun k z => Nat.lt_irrefl _ (Nat.lt_of_lt_of_le hb (Nat.le_trans (Nat.le_add_right _ k) (Nat.le_of_eq z)))
        have two : ∀ {m k : Nat}, m ≠ k → s1.heap.objs.size + m ∉ [s1.heap.objs.size + k, b] := fun {m k} h z => by
          rcases List.mem_cons.mp z with z | z
          · exact h (Nat.add_left_cancel z)
          · exact far m (List.mem_singleton.mp z)
        exact ⟨by simp, by simp, by simp, by simp, by simp, by simp, by simp, by simp, by simp, two (by decide), two (by decide), two (m := 0) (by decide), by simp⟩
      rcases q1 with ⟨hqy, q⟩ | ⟨hqy, q⟩
      · obtain ⟨its2, rv2, p2, _⟩ := I1.list hqy
        refine zip_begins2 (begins_text x t) (begins_list b its2.toArray) trivial p2.isList fun h' hz hTI hTO h1 h2 hsz hk => wpAny_pyIter_zip hz ?_
        have I2 : Inv X pins σ H1 { s1 with heap := h' } := I1.kept (t' := s1.toks) hk
        exact ⟨s1.heap.objs.size + 4, [s1.heap.objs.size + 4, s1.heap.objs.size + 2, s1.heap.objs.size + 3, s1.heap.objs.size, s1.heap.objs.size + 1], _, _, H1, rfl, I2, turn_zipXL (sep p2.lt), ⟨hz, hTI, ⟨_, _, hTO⟩, ⟨_, h1, rfl, rfl⟩, ⟨_, h2, rfl, rfl⟩⟩, fresh5, q⟩
      · obtain ⟨its2, rv2, p2, _⟩ := I1.tuple hqy
        obtain ⟨o2, ho2, _⟩ := id p2
        refine zip_begins2 (begins_text x t) (begins_tuple b its2.toArray) trivial p2 fun h' hz hTI hTO h1 h2 hsz hk => wpAny_pyIter_zip hz ?_
        have I2 : Inv X pins σ H1 { s1 with heap := h' } := I1.kept (t' := s1.toks) hk
        exact ⟨s1.heap.objs.size + 4, [s1.heap.objs.size + 4, s1.heap.objs.size + 2, s1.heap.objs.size + 3, s1.heap.objs.size, s1.heap.objs.size + 1], _, _, H1, rfl, I2, turn_zipXT (sep (Heap.lt_size ho2)), ⟨hz, hTI, ⟨_, _, hTO⟩, ⟨_, h1, rfl, rfl⟩, ⟨_, h2, rfl, rfl⟩⟩, fresh5, q⟩
/-- what it hands out: n turns -/
theorem walk_zipX {x : Str} {S : Hp → List V → Prop} {ys : List V} : Walk (ItzX x S) (min x.cps.size ys.length) (fun H => S H ys) (fun i H v H' => ∃ T c y, v = .ref T ∧ H T = none ∧ H' = upd H T (.tup [.str ⟨#[c]⟩, y]) ∧ x.cps[i]? = some c ∧ ys[i]? = some y) :=
  ⟨fun i H hi q => ⟨ys, _, _, Array.getElem?_eq_getElem (by omega), q, List.getElem?_eq_getElem (by omega)⟩, fun H q => ⟨ys, q, by omega, by omega, by omega⟩, fun i H v H' hi q ⟨T, c, y, h1, h2, h3, h4, h5⟩ => ⟨T, c, y, h1, h2, h3, h4, h5 ys q⟩⟩
end L2
set_option maxRecDepth 100000
set_option maxHeartbeats 2000000
namespace L2
open PySem PySem.Spec PyProof.Rows
/-! ### {k: v for ta in ia for tb in ib} -/
abbrev dcE (kx vx ta ia tb ib : Expr) (sc : Scope) (ps : Pos) : Expr := .DictComp kx vx [⟨ta, ia, [], 0⟩, ⟨tb, ib, [], 0⟩] sc ps
section
variable {P : Program} {w : World} {A : Around} {R : Result → Shared → Prop} {s : Shared} {kx vx ta ia tb ib : Expr} {sc : Scope} {ps : Pos} {j d : Value} {D : Addr} {e : Env}
theorem dcTurnA : compTurn (dcE kx vx ta ia tb ib sc ps) 0 j d e = (do
      standAt ia.pos
      match ← pyNext j with
      | none => pure (.done .next)
      | some u =>
        letOwnedTupleGo ta j u
        assign ta e u
        let y ← eval ib e
        standAt ib.pos
        let y ← foldedSetIterable ib e y
        let _ ← runOwn (.compStart (dcE kx vx ta ia tb ib sc ps) 1 (← holding [y] (pyIter y)) d e) e
        again (.compLoop (dcE kx vx ta ia tb ib sc ps) 0 j d e)) := by rfl
theorem dcTurnB : compTurn (dcE kx vx ta ia tb ib sc ps) 1 j (.ref D) e = (do
      standAt ib.pos
      match ← pyNext j with
      | none => pure (.done .next)
      | some u =>
        letOwnedTupleGo tb j u
        assign tb e u
        (do
          let a ← eval kx e
          let b ← holding [a] (eval vx e)
          standAt { kx.pos with endLine := vx.pos.endLine, endCol := vx.pos.endCol }
          holding [a, b] (dictSet D a b))
        again (.compLoop (dcE kx vx ta ia tb ib sc ps) 1 j (.ref D) e)) := by rfl
theorem dcLoopA (hs : ∀ y, foldedSetIterable ib e y = pure y) (K : Nat → Shared → Prop)
    (turn : ∀ n s, K n s → wpAny (model P w) A (pyNext j) (fun r s1 => match r with
      | none => R (.ok .next) s1
      | some u => wpAny (model P w) A (letOwnedTupleGo ta j u) (fun _ s2 => wpAny (model P w) A (assign ta e u) (fun _ s3 => wpAny (model P w) A (eval ib e) (fun y s4 => wpAny (model P w) A (pyIter y) (fun j1 s5 =>
          codeAny (model P w) A (.compStart (dcE kx vx ta ia tb ib sc ps) 1 j1 d e) (fun r s' => match r with | .ok _ => ∃ m, m < n ∧ K m s' | .error _ => False) s5)
          (notedBy (model P w) A e fun q s' => R (.error q) s') s4) (notedBy (model P w) A e fun q s' => R (.error q) s') s3) (notedBy (model P w) A e fun q s' => R (.error q) s') s2) (notedBy (model P w) A e fun q s' => R (.error q) s') s1) (notedBy (model P w) A e fun q s' => R (.error q) s') s)
    (n : Nat) (h : K n s) : codeAny (model P w) A (.compLoop (dcE kx vx ta ia tb ib sc ps) 0 j d e) R s := by
  refine codeAny_loop rfl K (fun n s hK => ?_) n h
  show wpAny _ A ((compTurn (dcE kx vx ta ia tb ib sc ps) 0 j d e).onRaise _) _ _ s
  refine wpAny_noted ?_
  rw [dcTurnA]
  refine wpAny_bind (wpAny_standAt (wpAny_bind (wpAny_mono (turn n s hK) (fun r s1 h1 => ?_) fun _ _ q => q)))
  cases r with
  | none => exact wpAny_pure h1
  | some u =>
    refine wpAny_bind (wpAny_mono h1 (fun _ s2 h2 => ?_) fun _ _ q => q)
    refine wpAny_bind (wpAny_mono h2 (fun _ s3 h3 => ?_) fun _ _ q => q)
    refine wpAny_bind (wpAny_mono h3 (fun y s4 h4 => ?_) fun _ _ q => q)
    refine wpAny_bind (wpAny_standAt (wpAny_bind (wpAny_of_eq (hs y) ?_)))
    refine wpAny_bind (wpAny_holding (wpAny_mono h4 (fun j1 s5 h5 => ?_) fun _ _ q => q))
    refine wpAny_bind (wpAny_runOwn ?_)
    rw [Around.mark_none]
    refine codeAny_mono h5 fun r s' hr => ?_
    cases r with
    | ok f =>
      first
        | exact wpAny_pure ⟨rfl, hr⟩
        | exact wpAny_bind (wpAny_pure (wpAny_pure ⟨rfl, hr⟩))
    | error q => exact hr.elim
theorem dcLoopB (K : Nat → Shared → Prop)
    (turn : ∀ n s, K n s → wpAny (model P w) A (pyNext j) (fun r s1 => match r with
      | none => R (.ok .next) s1
      | some u => wpAny (model P w) A (letOwnedTupleGo tb j u) (fun _ s2 => wpAny (model P w) A (assign tb e u) (fun _ s3 => wpAny (model P w) A (eval kx e) (fun a s4 => wpAny (model P w) A (eval vx e) (fun b s5 =>
          wpAny (model P w) A (dictSet D a b) (fun _ s6 => ∃ m, m < n ∧ K m s6)
          (notedBy (model P w) A e fun q s' => R (.error q) s') s5) (notedBy (model P w) A e fun q s' => R (.error q) s') s4) (notedBy (model P w) A e fun q s' => R (.error q) s') s3) (notedBy (model P w) A e fun q s' => R (.error q) s') s2) (notedBy (model P w) A e fun q s' => R (.error q) s') s1) (notedBy (model P w) A e fun q s' => R (.error q) s') s)
    (n : Nat) (h : K n s) : codeAny (model P w) A (.compLoop (dcE kx vx ta ia tb ib sc ps) 1 j (.ref D) e) R s := by
  refine codeAny_loop rfl K (fun n s hK => ?_) n h
  show wpAny _ A ((compTurn (dcE kx vx ta ia tb ib sc ps) 1 j (.ref D) e).onRaise _) _ _ s
  refine wpAny_noted ?_
  rw [dcTurnB]
  refine wpAny_bind (wpAny_standAt (wpAny_bind (wpAny_mono (turn n s hK) (fun r s1 h1 => ?_) fun _ _ q => q)))
  cases r with
  | none => exact wpAny_pure h1
  | some u =>
    refine wpAny_bind (wpAny_mono h1 (fun _ s2 h2 => ?_) fun _ _ q => q)
    refine wpAny_bind (wpAny_mono h2 (fun _ s3 h3 => ?_) fun _ _ q => q)
    refine wpAny_bind (wpAny_bind (wpAny_mono h3 (fun a s4 h4 => ?_) fun _ _ q => q))
    refine wpAny_bind (wpAny_holding (wpAny_mono h4 (fun b s5 h5 => ?_) fun _ _ q => q))
    exact wpAny_bind (wpAny_standAt (wpAny_holding (wpAny_mono h5 (fun _ s6 h6 => wpAny_pure ⟨rfl, h6⟩) fun _ _ q => q)))
theorem dcStartB (h0 : codeAny (model P w) A (.compLoop (dcE kx vx ta ia tb ib sc ps) 1 j d e) R s)
    (h : wpAny (model P w) A (pyIter j) (fun j' s' => codeAny (model P w) A (.compLoop (dcE kx vx ta ia tb ib sc ps) 1 j' d e) R s') (notedBy (model P w) A e fun q s' => R (.error q) s') s) :
    codeAny (model P w) A (.compStart (dcE kx vx ta ia tb ib sc ps) 1 j d e) R s := by
  refine codeAny_of_tree ?_
  show wpAny _ _ ((compStart (dcE kx vx ta ia tb ib sc ps) 1 j d e).onRaise _) _ _ s
  refine wpAny_notedAt ?_
  unfold compStart
  show wpAny _ _ (ask >>= _) _ _ s
  refine wpAny_bind (wpAny_askSetting (wpAny_ite ?_))
  split
  · first
      | exact wpAny_bind (wpAny_pure (wpAny_pure (And.intro rfl h0)))
      | exact wpAny_pure (And.intro rfl h0)
  · refine wpAny_bind (wpAny_rule ?_)
    show wpAny _ _ (standAt ib.pos >>= _) _ _ s
    exact wpAny_bind (wpAny_standAt (wpAny_bind (wpAny_mono h (fun j' s' q => wpAny_pure (And.intro rfl q)) fun _ _ q => q)))
end
end L2
set_option maxRecDepth 100000
set_option maxHeartbeats 2000000
namespace L2
open PySem PySem.Spec PyProof.Rows
/-- {k: v for tg in it for tg1 in it1}, keys ints or texts -/
def tDc2 (wi : TI) (g : TG) (wi1 : TI) (g1 : TG) (tk tv : TE) (vs vs1 : List Nat) : TE := fun σ H Q => wi σ H fun J H1 => ∀ D, H1 D = none → ∃ W : Nat → Nat → Hp → Prop, (∃ m, W 0 m (upd H1 D (.dK []))) ∧ ∀ i m H, W i m H →
  (J.stop i H ∧ Q (.ref D) H) ∨ (J.go i H ∧ ∃ Nx : Hp → Prop, (∀ H', Nx H' → ∃ m', m' < m ∧ W (i + 1) m' H') ∧ ∀ x H', J.yld i H x H' → g x (wipe σ vs) H' fun σ2 H2 => wipe σ2 vs = wipe σ vs ∧
    wi1 σ2 H2 fun J1 H4 => ∃ W1 : Nat → Nat → Hp → Prop, (∃ m, W1 0 m H4) ∧ ∀ j k H, W1 j k H → (J1.stop j H ∧ Nx H) ∨ (J1.go j H ∧ ∃ Nx1 : Hp → Prop, (∀ H', Nx1 H' → ∃ k', k' < k ∧ W1 (j + 1) k' H') ∧ ∀ x H', J1.yld j H x H' →
      g1 x (wipe σ2 vs1) H' fun σ3 H5 => wipe σ3 vs1 = wipe σ2 vs1 ∧ tk σ3 H5 fun y H6 => tv σ3 H6 fun z H7 => ∃ kvs q, y = kV q ∧ H7 D = some (.dK kvs) ∧ kvs.length < sizeLine ∧ Nx1 (upd H7 D (.dK (putK kvs q z)))))
section
variable {X : Cx} {kx vx tg iter tg1 iter1 : Expr} {scope : Scope} {own : List (Str × Nat)} {vs1 : List Nat} {pos : Pos} {wi wi1 : TI} {g g1 : TG} {tk tv : TE}
theorem pe_dc2 (hc : X.calm = true) (hN : X.N.Nodup) (hi : PI X tg iter wi) (ok : BlkOk X.N X.env.scope scope own) (hv : ∀ i ∈ vs1, i ∈ own.map (·.2))
    (bg : ∀ s H C cl fp, PG (X.blk s H scope (compEnvC scope cl C X.env) fp) tg g) (bi : ∀ s H C cl fp, PI (X.blk s H scope (compEnvC scope cl C X.env) fp) tg1 iter1 wi1) (bg1 : ∀ s H C cl fp, PG (X.blk s H scope (compEnvC scope cl C X.env) fp) tg1 g1)
    (bk : ∀ s H C cl fp, PE (X.blk s H scope (compEnvC scope cl C X.env) fp) kx tk) (bv : ∀ s H C cl fp, PE (X.blk s H scope (compEnvC scope cl C X.env) fp) vx tv)
    (hs : ∀ x, foldedSetIterable iter X.env x = pure x := by intro _; rfl) (hs1 : ∀ env x, foldedSetIterable iter1 env x = pure x := by intro _ _; rfl) :
    PE X (.DictComp kx vx [⟨tg, iter, [], 0⟩, ⟨tg1, iter1, [], 0⟩] scope pos) (tDc2 wi g wi1 g1 tk tv (own.map (·.2)) vs1) := by
  refine ⟨fun pins sa σ Ha Q Ia hq => ?_⟩
  rw [arm_eval_DictComp]
  have clo : ∀ y ∈ scope.names, y.2 = .free → ∃ c, X.env.cells.lookup y.1 = some c := fun y hy e => (ok.free y hy e).elim (fun z => Ia.ok.has _ (.inl z)) fun z => Ia.ok.has _ (.inr z)
  refine wpAny_comprehension_free (use := none) rfl hs (closure_ok clo) ok.kind (fun y hy e => (ok.uniq y hy).trans (congrArg some e)) (thn (hi.run pins sa σ Ha _ Ia hq) fun _ sb hb => thn hb fun _ sd hd => ?_)
  obtain ⟨it, fp, tn, J, Hd, rfl, Id, T, td, fd, rest⟩ := hd
  refine wpAny_newObj_type (newEnv_comp ?_)
  -- the dict that is filled
  generalize edd : sd.heap.objs.size = dd
  have hdd : Hd dd = none := Id.hok.fresh (by omega)
  obtain ⟨W, ⟨m0, w0⟩, turn⟩ := rest dd hdd
  generalize ese : ({ sd with heap := sd.heap.push { cls := .type "dict", data := .dict #[] } } : Shared) = se
  have he : se.heap = sd.heap.push { cls := .type "dict", data := .dict #[] } := by rw [← ese]
  have Ie : Inv X pins σ (upd Hd dd (.dK [])) se := by
    rw [← ese]
    refine Id.laid (t' := sd.toks) (fun _ _ q => Heap.get?_push_of_some _ q) (by omega) ?_
    rw [← edd]
    exact dk_empty sd.heap Id.big
  have ke : ∀ b o, sd.heap.get? b = some o → se.heap.get? b = some o := fun b o q => by rw [he]; exact Heap.get?_push_of_some _ q
  have far : ∀ b ∈ fp, b < sd.heap.objs.size := fun b hb => let ⟨_, q, _⟩ := T.obj _ _ td b hb; Heap.lt_size q
  have fe : ∀ b ∈ fp, FpOk X pins (upd Hd dd (.dK [])) b ∧ b < se.heap.objs.size := fun b hb => by
    have l1 := far b hb
    refine ⟨⟨(upd_ne (Nat.ne_of_lt (by rw [← edd]; exact l1))).trans (fd b hb).1, (fd b hb).2⟩, ?_⟩
    rw [he, Heap.size_push]
    exact Nat.lt_succ_of_lt l1
  have te0 : tn 0 se.heap := T.keep _ _ _ td fun b _ o q => ke b o q
  have Ib := block_start Ie ok hN fe
  have xg := bg se (upd Hd dd (.dK [])) se.heap.objs.size (cellsFrom (se.heap.objs.size + 1) scope.names (cloFrom X.env.cells scope.names [])) fp
  have xi := bi se (upd Hd dd (.dK [])) se.heap.objs.size (cellsFrom (se.heap.objs.size + 1) scope.names (cloFrom X.env.cells scope.names [])) fp
  have xg1 := bg1 se (upd Hd dd (.dK [])) se.heap.objs.size (cellsFrom (se.heap.objs.size + 1) scope.names (cloFrom X.env.cells scope.names [])) fp
  have xk := bk se (upd Hd dd (.dK [])) se.heap.objs.size (cellsFrom (se.heap.objs.size + 1) scope.names (cloFrom X.env.cells scope.names [])) fp
  have xv := bv se (upd Hd dd (.dK [])) se.heap.objs.size (cellsFrom (se.heap.objs.size + 1) scope.names (cloFrom X.env.cells scope.names [])) fp
  have nfp : ∀ b ∈ fp, (upd Hd dd (.dK [])) b = none := fun b hb => (fe b hb).1.1
  show codeAny _ _ (.compStart _ 0 (.ref it) (.ref dd) (compEnvC scope (cellsFrom (se.heap.objs.size + 1) scope.names (cloFrom X.env.cells scope.names [])) se.heap.objs.size X.env)) _ { se with heap := pushCells (se.heap.push { cls := .type "dict", data := .dict #[] }) scope.names }
  generalize ece : compEnvC scope (cellsFrom (se.heap.objs.size + 1) scope.names (cloFrom X.env.cells scope.names [])) se.heap.objs.size X.env = ce at Ib xg xi xg1 xk xv ⊢
  have lce : ce.locals = se.heap.objs.size := by subst ece; rfl
  generalize eHe : upd Hd dd (.dK []) = He at Ie Ib xg xi xg1 xk xv w0 nfp fe
  generalize esf : ({ se with heap := pushCells (se.heap.push { cls := .type "dict", data := .dict #[] }) scope.names } : Shared) = sf at Ib ⊢
  have tf : tn 0 sf.heap := T.keep _ _ _ te0 fun b _ o q => by rw [← esf]; exact pushCells_keeps _ _ _ _ (Heap.get?_push_of_some _ q)
  have stays : ∀ {σ' : L2.St} {H' : Hp} {s' : Shared}, Inv (X.blk se He scope ce fp) [] σ' H' s' → (∀ b ∈ fp, H' b = none) → ∀ b ∈ fp, FpOk (X.blk se He scope ce fp) [] H' b := fun {σ' H' s'} I' hn b hb =>
    ⟨hn b hb, (I'.ok.exf b hb).1, I'.ok.exfs b hb, .inl hb, fun x c q => (I'.ok.exf b hb).2 x c q, fun p hp => (by cases hp)⟩
  have loop : codeAny (model X.prog X.w) X.A (.compLoop (dcE kx vx tg iter tg1 iter1 scope pos) 0 (.ref it) (.ref dd) ce) (compPost (model X.prog X.w) X.A X.xe none (EP X pins σ Q) (.ref dd) se.heap.objs.size) sf := by
    refine dcLoopA (hs1 ce) (fun m s' => ∃ i H', Inv (X.blk se He scope ce fp) [] (wipe σ (own.map (·.2))) H' s' ∧ tn i s'.heap ∧ (∀ b ∈ fp, H' b = none) ∧ W i m H') ?_ m0 ⟨0, He, Ib, tf, nfp, w0⟩
    rintro m s5 ⟨i, H5, I5, t5, n5, w5⟩
    rcases turn i m H5 w5 with ⟨stop, qq⟩ | ⟨go, Nx, hNx, step⟩
    · refine thnF (T.done (X.blk se He scope ce fp) rfl rfl rfl hc i [] s5 _ H5 (fun _ _ => False) I5 (stays I5 n5) t5 stop) fun r s6 ⟨er, I6⟩ => ?_
      subst er
      have I7 : Inv X pins σ H5 s6 := Ie.call' (ch := fp) I6.os I6.base I6.hok I6.bare fun b hb => let ⟨_, q1, _, q3, q4, q5⟩ := (fe b hb).1; ⟨q3, q1, q4, q5⟩
      have nC : H5 se.heap.objs.size = none := by
        have z := I6.free
        rw [show (X.blk se He scope ce fp).env.locals = se.heap.objs.size from lce] at z
        exact z
      obtain ⟨mp, hmp, _⟩ := I6.loc
      rw [show (X.blk se He scope ce fp).env.locals = se.heap.objs.size from lce] at hmp
      refine ⟨mp, hmp, fun h'' sb => ?_⟩
      obtain ⟨f0, f1, _, f3, f4, f5⟩ := Ie.fpOk (Nat.le_refl _) nC
      exact ⟨.ref dd, H5, I7.turned (t' := s6.toks) (fun b o hb q => (sb.2 b hb).trans q) f0 f1 f3 f4 f5, rfl, qq⟩
    · refine thnF (T.item (X.blk se He scope ce fp) rfl rfl rfl hc i [] s5 _ H5 (fun _ _ => False) I5 (stays I5 n5) t5 go) fun r s6 ⟨u, er, h6⟩ => ?_
      subst er
      refine thnF h6 fun _ s7 ⟨x, H7, I7, r7, y7, t7, n7⟩ => ?_
      refine thnF (xg.run _ s7 _ H7 x u _ (I7.pinned (stays I7 n7) (T.obj _ _ t7)) r7 (step x H7 y7)) fun _ s8 ⟨σ8, H8, I8, w8, q8⟩ => ?_
      have done : ∀ {σ9 : L2.St} {s' : Shared} {H' : Hp}, Inv (X.blk se He scope ce fp) ([] ++ pinsAt fp s7.heap) σ9 H' s' → σ9.length = σ.length → (∀ (j : Nat) v, (wipe σ (own.map (·.2)))[j]? = some (some v) → σ9[j]? = some (some v)) → Nx H' →
          ∃ m', m' < m ∧ ∃ i H', Inv (X.blk se He scope ce fp) [] (wipe σ (own.map (·.2))) H' s' ∧ tn i s'.heap ∧ (∀ b ∈ fp, H' b = none) ∧ W i m' H' := fun {σ9 s' H'} I' hl hk nx => by
        obtain ⟨m', hm, w'⟩ := hNx H' nx
        have pk : ∀ b ∈ fp, ∀ o, s7.heap.get? b = some o → s'.heap.get? b = some o ∧ H' b = none := fun b hb o q =>
          let z := I'.pin (b, o) (List.mem_append_right _ (List.mem_append_right _ (mem_pinsAt hb q)))
          ⟨z.1, z.2.1⟩
        refine ⟨m', hm, i + 1, H', (I'.unpinned (pins := [])).weak ((wipe_length _ _).trans hl.symm) hk, T.keep _ _ _ t7 fun b hb o q => (pk b hb o q).1, fun b hb => ?_, w'⟩
        obtain ⟨o, q, _⟩ := T.obj _ _ t7 b hb
        exact (pk b hb o q).2
      have l8 : σ8.length = σ.length := by rw [← wipe_length σ8 (own.map (·.2)), w8, wipe_length]
      have k8 : ∀ (j : Nat) v, (wipe σ (own.map (·.2)))[j]? = some (some v) → σ8[j]? = some (some v) ∧ j ∉ own.map (·.2) := fun j v q => by
        rw [← w8] at q
        exact wipe_some q
      refine thnF (xi.run _ s8 σ8 H8 _ I8 q8) fun _ s9 h9 => thnF h9 fun _ s10 h10 => ?_
      obtain ⟨jt, fq, un, J1, Hj, rfl, Ij, U, uj, fj, W1, ⟨k0, v0⟩, turn1⟩ := h10
      have rests : ∀ {H' : Hp}, (∀ b ∈ fq, H' b = none) → ∀ b ∈ fq, FpOk (X.blk se He scope ce fp) ([] ++ pinsAt fp s7.heap) H' b := fun hn b hb => ⟨hn b hb, (fj b hb).2⟩
      have inner : codeAny (model X.prog X.w) X.A (.compLoop (dcE kx vx tg iter tg1 iter1 scope pos) 1 (.ref jt) (.ref dd) ce)
          (fun r s' => match r with | .ok _ => ∃ m', m' < m ∧ ∃ i H', Inv (X.blk se He scope ce fp) [] (wipe σ (own.map (·.2))) H' s' ∧ tn i s'.heap ∧ (∀ b ∈ fp, H' b = none) ∧ W i m' H' | .error _ => False) s10 := by
        refine dcLoopB (fun k s' => ∃ j H', Inv (X.blk se He scope ce fp) ([] ++ pinsAt fp s7.heap) (wipe σ8 vs1) H' s' ∧ un j s'.heap ∧ (∀ b ∈ fq, H' b = none) ∧ W1 j k H') ?_ k0 ⟨0, Hj, Ij.weak (wipe_length _ _) (fun j v q => (wipe_some q).1), uj, fun b hb => (fj b hb).1, v0⟩
        rintro k s11 ⟨j, H11, I11, u11, n11, w11⟩
        rcases turn1 j k H11 w11 with ⟨stop1, nx⟩ | ⟨go1, Nx1, hNx1, step1⟩
        · refine thnF (U.done (X.blk se He scope ce fp) rfl rfl rfl hc j _ s11 (wipe σ8 vs1) H11 (fun _ _ => False) I11 (rests n11) u11 stop1) fun r s12 ⟨er, I12⟩ => ?_
          subst er
          exact done I12 ((wipe_length _ _).trans l8) (fun j v q => by
            obtain ⟨q1, q2⟩ := k8 j v q
            rw [wipe_out fun z => q2 (hv j z)]
            exact q1) nx
        · refine thnF (U.item (X.blk se He scope ce fp) rfl rfl rfl hc j _ s11 (wipe σ8 vs1) H11 (fun _ _ => False) I11 (rests n11) u11 go1) fun r s12 ⟨u1, er, h12⟩ => ?_
          subst er
          refine thnF h12 fun _ s13 ⟨x1, H13, I13, r13, y13, u13, n13⟩ => ?_
          refine thnF (xg1.run _ s13 (wipe σ8 vs1) H13 x1 u1 _ (I13.pinned (rests n13) (U.obj _ _ u13)) r13 (step1 x1 H13 y13)) fun _ s14 ⟨σ14, H14, I14, w14, q14⟩ => ?_
          refine thnF (xk.run _ s14 σ14 H14 _ I14 q14) fun a s15 ⟨ya, H15, I15, r15, q15⟩ => ?_
          refine thnF (xv.run _ s15 σ14 H15 _ I15 q15) fun b s16 ⟨yb, H16, I16, r16, kvs, q, ek, hD16, hz16, nx⟩ => ?_
          subst ek
          refine d_dictSet (X := X.blk se He scope ce fp) I16 hD16 hz16 r15 r16 fun s17 I17 => ?_
          obtain ⟨k', hk, w'⟩ := hNx1 _ nx
          have pk : ∀ b ∈ fq, ∀ o, s13.heap.get? b = some o → s17.heap.get? b = some o ∧ (upd H16 dd (.dK (putK kvs q yb))) b = none := fun b hb o e =>
            let z := I17.pin (b, o) (List.mem_append_right _ (List.mem_append_right _ (mem_pinsAt hb e)))
            ⟨z.1, z.2.1⟩
          refine ⟨k', hk, j + 1, _, I17.unpinned.weak (by rw [← w14, wipe_length]) (fun j v e => by rw [← w14] at e; exact (wipe_some e).1), U.keep _ _ _ u13 fun b hb o e => (pk b hb o e).1, fun b hb => ?_, w'⟩
          obtain ⟨o, e, _⟩ := U.obj _ _ u13 b hb
          exact (pk b hb o e).2
      exact dcStartB inner (U.self X.A 0 _ _ _ uj inner)
  exact codeAny_compStart_dict loop (T.self X.A 0 _ _ _ tf loop)
end
end L2
set_option maxRecDepth 100000
set_option maxHeartbeats 4000000
namespace Pa
open PySem PySem.Spec PyProof.Rows L2 Win
/-! ### dict comprehensions, read by words -/
theorem dc_walk {J : It} {n : Nat} {G : Hp → Prop} {Y : Nat → Hp → V → Hp → Prop} (w : Walk J n G Y) {g : TG} {tk tv : TE} {vs : List Nat} {σ : L2.St} {H1 : Hp} {D : Addr} {Qd : Hp → Prop} (Pv : Nat → Hp → Prop) (h0 : Pv 0 (upd H1 D (.dK []))) (hG : ∀ i H, Pv i H → G H)
    (hs : ∀ i x H H', i < n → Pv i H → Y i H x H' → g x (wipe σ vs) H' fun σ2 H2 => wipe σ2 vs = wipe σ vs ∧ tYes σ2 H2 fun b H3 => if b = true then tk σ2 H3 fun y H4 => tv σ2 H4 fun z H5 => ∃ kvs k, y = kV k ∧ H5 D = some (.dK kvs) ∧ kvs.length < sizeLine ∧ Pv (i + 1) (upd H5 D (.dK (putK kvs k z))) else Pv (i + 1) H3) (hd : ∀ H, Pv n H → Qd H) :
    ∃ W : Nat → Nat → Hp → Prop, (∃ m, W 0 m (upd H1 D (.dK []))) ∧ ∀ i m H, W i m H → (J.stop i H ∧ Qd H) ∨ (J.go i H ∧ ∃ Nx : Hp → Prop, (∀ H', Nx H' → ∃ m', m' < m ∧ W (i + 1) m' H') ∧ ∀ x H', J.yld i H x H' → g x (wipe σ vs) H' fun σ2 H2 => wipe σ2 vs = wipe σ vs ∧ tYes σ2 H2 fun b H3 =>
      if b = true then tk σ2 H3 fun y H4 => tv σ2 H4 fun z H5 => ∃ kvs k, y = kV k ∧ H5 D = some (.dK kvs) ∧ kvs.length < sizeLine ∧ Nx (upd H5 D (.dK (putK kvs k z))) else Nx H3) := by
  refine ⟨fun i m H => m = n - i ∧ i ≤ n ∧ Pv i H, ⟨n, by simp, Nat.zero_le _, h0⟩, ?_⟩
  rintro i m H ⟨rfl, hi, p⟩
  by_cases hlt : i < n
  · exact .inr ⟨w.goes i H hlt (hG i H p), Pv (i + 1), fun H' p' => ⟨n - (i + 1), by omega, rfl, hlt, p'⟩, fun x H' y => hs i x H H' hlt p (w.yields i H x H' hlt (hG i H p) y)⟩
  · have e : i = n := by omega
    subst e
    exact .inl ⟨w.stops H (hG _ H p), hd H p⟩
/-- two clauses, the second over a walk of its own -/
theorem dc2_walk {J : It} {n : Nat} {G : Hp → Prop} {Y : Nat → Hp → V → Hp → Prop} (w : Walk J n G Y) {g g1 : TG} {wi1 : TI} {tk tv : TE} {vs vs1 : List Nat} {σ : L2.St} {H1 : Hp} {D : Addr} {Qd : Hp → Prop} (Pv : Nat → Nat → Hp → Prop) (n1 : Nat) (h0 : Pv 0 0 (upd H1 D (.dK []))) (hG : ∀ i H, Pv i 0 H → G H)
    (hx : ∀ i H, Pv i n1 H → Pv (i + 1) 0 H)
    (hs : ∀ i x H H', i < n → Pv i 0 H → Y i H x H' → g x (wipe σ vs) H' fun σ2 H2 => wipe σ2 vs = wipe σ vs ∧ wi1 σ2 H2 fun J1 H4 => Pv i 0 H4 ∧ ∃ (G1 : Hp → Prop) (Y1 : Nat → Hp → V → Hp → Prop), Walk J1 n1 G1 Y1 ∧ (∀ j H, Pv i j H → G1 H) ∧
      ∀ j x H H', j < n1 → Pv i j H → Y1 j H x H' → g1 x (wipe σ2 vs1) H' fun σ3 H5 => wipe σ3 vs1 = wipe σ2 vs1 ∧ tk σ3 H5 fun y H6 => tv σ3 H6 fun z H7 => ∃ kvs q, y = kV q ∧ H7 D = some (.dK kvs) ∧ kvs.length < sizeLine ∧ Pv i (j + 1) (upd H7 D (.dK (putK kvs q z))))
    (mono : ∀ σ H (R R' : It → Hp → Prop), (∀ J H, R J H → R' J H) → wi1 σ H R → wi1 σ H R') (mg : ∀ x σ H (R R' : L2.St → Hp → Prop), (∀ σ H, R σ H → R' σ H) → g x σ H R → g x σ H R') (hd : ∀ H, Pv n 0 H → Qd H) :
    ∃ W : Nat → Nat → Hp → Prop, (∃ m, W 0 m (upd H1 D (.dK []))) ∧ ∀ i m H, W i m H → (J.stop i H ∧ Qd H) ∨ (J.go i H ∧ ∃ Nx : Hp → Prop, (∀ H', Nx H' → ∃ m', m' < m ∧ W (i + 1) m' H') ∧ ∀ x H', J.yld i H x H' → g x (wipe σ vs) H' fun σ2 H2 => wipe σ2 vs = wipe σ vs ∧
      wi1 σ2 H2 fun J1 H4 => ∃ W1 : Nat → Nat → Hp → Prop, (∃ m, W1 0 m H4) ∧ ∀ j k H, W1 j k H → (J1.stop j H ∧ Nx H) ∨ (J1.go j H ∧ ∃ Nx1 : Hp → Prop, (∀ H', Nx1 H' → ∃ k', k' < k ∧ W1 (j + 1) k' H') ∧ ∀ x H', J1.yld j H x H' →
        g1 x (wipe σ2 vs1) H' fun σ3 H5 => wipe σ3 vs1 = wipe σ2 vs1 ∧ tk σ3 H5 fun y H6 => tv σ3 H6 fun z H7 => ∃ kvs q, y = kV q ∧ H7 D = some (.dK kvs) ∧ kvs.length < sizeLine ∧ Nx1 (upd H7 D (.dK (putK kvs q z))))) := by
  refine ⟨fun i m H => m = n - i ∧ i ≤ n ∧ Pv i 0 H, ⟨n, by simp, Nat.zero_le _, h0⟩, ?_⟩
  rintro i m H ⟨rfl, hi, p⟩
  by_cases hlt : i < n
  · refine .inr ⟨w.goes i H hlt (hG i H p), Pv (i + 1) 0, fun H' p' => ⟨n - (i + 1), by omega, rfl, hlt, p'⟩, fun x H' y => mg _ _ _ _ _ (fun σ2 H2 ⟨e, q⟩ => ⟨e, mono _ _ _ _ (fun J1 H4 ⟨p4, G1, Y1, w1, hG1, hs1⟩ => ?_) q⟩) (hs i x H H' hlt p (w.yields i H x H' hlt (hG i H p) y))⟩
    refine ⟨fun j k H => k = n1 - j ∧ j ≤ n1 ∧ Pv i j H, ⟨n1, by simp, Nat.zero_le _, p4⟩, ?_⟩
    rintro j k H ⟨rfl, hj, pj⟩
    by_cases hlj : j < n1
    · exact .inr ⟨w1.goes j H hlj (hG1 j H pj), Pv i (j + 1), fun H' p' => ⟨n1 - (j + 1), by omega, rfl, hlj, p'⟩, fun x H' y => hs1 j x H H' hlj pj (w1.yields j H x H' hlj (hG1 j H pj) y)⟩
    · have e : j = n1 := by omega
      subst e
      exact .inl ⟨w1.stops H (hG1 _ H pj), hx i H pj⟩
  · have e : i = n := by omega
    subst e
    exact .inl ⟨w.stops H (hG _ H p), hd H p⟩
theorem valV_gone {kv : List (Key × V)} {k : Key} (h : ∀ p ∈ kv, p.1 ≠ k) : valV kv k = none := by
  induction kv with
  | nil => rfl
  | cons p r ih => rw [valV_neg (h p List.mem_cons_self)]; exact ih fun q hq => h q (List.mem_cons_of_mem _ hq)
theorem valV_here : ∀ {kv : List (Key × V)} {k : Key} {v : V} {j : Nat}, kv[j]? = some (k, v) → (∀ i p, i < j → kv[i]? = some p → p.1 ≠ k) → valV kv k = some v
  | [], _, _, _, h, _ => by simp at h
  | p :: r, k, v, 0, h, _ => by
    cases h
    exact valV_pos rfl
  | p :: r, k, v, j + 1, h, hn => by
    rw [valV_neg (hn 0 p (Nat.succ_pos _) rfl)]
    exact valV_here (j := j) (by simpa using h) fun i q hi e => hn (i + 1) q (Nat.succ_lt_succ hi) (by simpa using e)
/-! ### a face -/
structure TxF (K : PySem.W.Frag) (mg : Str → Option Value) (C : Addr) : Prop where
  b_zip : mg "zip" = none
  g_LETTERS : ∃ t, mg "LETTERS" = some (.str "abcd" t)
  cl : Cls K C
  nA : NoAttr K C "apart"
  nI : NoAttr K C "_inks"
  nF : NoAttr K C "_fits"
def letS (i : Nat) : Str := ⟨#[97 + i]⟩
def InkAt (H : Hp) (v : V) (k : I4) : Prop := TupAt H v (inkV k)
theorem InkAt.mono {H H' : Hp} (s : Same H H') {v : V} {k : I4} (h : InkAt H v k) : InkAt H' v k := TupAt.mono (Tups.of s) h
def FitAt (H : Hp) (v : V) (a b : I4) (apart : Int) : Prop := ∃ t g bar, v = .ref t ∧ H t = some (.tup [.int ((g : Nat) : Int), bar]) ∧ GapBar a b apart g bar
theorem FitAt.mono {H H' : Hp} (s : Same H H') {v : V} {a b : I4} {ap : Int} (h : FitAt H v a b ap) : FitAt H' v a b ap := by
  obtain ⟨t, g, bar, e, q, r⟩ := h
  exact ⟨t, g, bar, e, s _ _ q, r⟩
/-- the inks by letters, in their order -/
def KvI (H : Hp) (kv : List (Key × V)) (ks : List I4) : Prop := kv.length = ks.length ∧ ∀ (j : Nat) y, ks[j]? = some y → ∃ v, kv[j]? = some (.inr (letS j), v) ∧ InkAt H v y
def KvF (H : Hp) (kv : List (Key × V)) (ks : List I4) (apart : Int) (n m : Nat) : Prop := kv.length ≤ n * ks.length + m ∧ ∀ (i j : Nat) a b, ks[i]? = some a → ks[j]? = some b → (i < n ∨ (i = n ∧ j < m)) → ∃ v, valV kv (.inr (letS i ++ letS j)) = some v ∧ FitAt H v a b apart
def FaceAt (C : Addr) (H : Hp) (x : Addr) (apart : Int) (ks : List I4) : Prop := ∃ dx di df ik fk, H x = some (.ins C dx [("apart", .int apart), ("_inks", .ref di), ("_fits", .ref df)]) ∧ H di = some (.dK ik) ∧ H df = some (.dK fk) ∧ KvI H ik ks ∧ KvF H fk ks apart ks.length 0
theorem let_ne : ∀ i j : Nat, letS i = letS j → i = j := fun i j h => by
  have := congrArg (fun s : Str => s.cps[0]?) h
  simp [letS] at this
  exact this
theorem let2_ne : ∀ i j i' j' : Nat, letS i ++ letS j = letS i' ++ letS j' → i = i' ∧ j = j' := fun i j i' j' h => by
  have e : ∀ a b : Nat, letS a ++ letS b = ⟨#[97 + a, 97 + b]⟩ := fun a b => rfl
  rw [e, e] at h
  injection h with h
  have h := congrArg Array.toList h
  simp at h
  exact h
theorem KvI.mono {H H' : Hp} (s : Tups H H') {kv : List (Key × V)} {ks : List I4} (h : KvI H kv ks) : KvI H' kv ks := ⟨h.1, fun j y e => by
  obtain ⟨v, h1, h2⟩ := h.2 j y e
  exact ⟨v, h1, TupAt.mono s h2⟩⟩
theorem KvI.val {H : Hp} {kv : List (Key × V)} {ks : List I4} (h : KvI H kv ks) {j : Nat} {y : I4} (e : ks[j]? = some y) : ∃ v, valV kv (.inr (letS j)) = some v ∧ InkAt H v y := by
  obtain ⟨v, h1, h2⟩ := h.2 j y e
  refine ⟨v, valV_here h1 fun i p hi hp z => ?_, h2⟩
  have hl := (List.getElem?_eq_some_iff.mp e).1
  obtain ⟨v', h3, _⟩ := h.2 i _ (List.getElem?_eq_getElem (by omega))
  rw [h3] at hp
  cases hp
  have := let_ne _ _ (Sum.inr.inj z)
  omega
theorem KvI.push {H : Hp} {kv : List (Key × V)} {ks : List I4} {v : V} {y : I4} (h : KvI H kv ks) (hv : InkAt H v y) : KvI H (putK kv (.inr (letS ks.length)) v) (ks ++ [y]) := by
  have hn : valV kv (.inr (letS ks.length)) = none := valV_gone fun p hp z => by
    obtain ⟨i, hi⟩ := List.mem_iff_getElem?.mp hp
    have hl := (List.getElem?_eq_some_iff.mp hi).1
    rw [h.1] at hl
    obtain ⟨v', h3, _⟩ := h.2 i _ (List.getElem?_eq_getElem hl)
    rw [h3] at hi
    cases hi
    have := let_ne _ _ (Sum.inr.inj z)
    omega
  rw [putK_new v hn]
  refine ⟨by rw [List.length_append, List.length_append, h.1]; rfl, fun j z e => ?_⟩
  by_cases hj : j < ks.length
  · rw [List.getElem?_append_left hj] at e
    obtain ⟨v', h3, h4⟩ := h.2 j z e
    exact ⟨v', by rw [List.getElem?_append_left (by rw [h.1]; exact hj)]; exact h3, h4⟩
  · have hl := (List.getElem?_eq_some_iff.mp e).1
    rw [List.length_append, List.length_singleton] at hl
    have ej : j = ks.length := by omega
    subst ej
    rw [List.getElem?_append_right (Nat.le_refl _), Nat.sub_self] at e
    cases e
    exact ⟨v, by rw [List.getElem?_append_right (by rw [h.1]; exact Nat.le_refl _), h.1, Nat.sub_self]; rfl, hv⟩
theorem FitAt.tups {H H' : Hp} (s : Tups H H') {v : V} {a b : I4} {ap : Int} (h : FitAt H v a b ap) : FitAt H' v a b ap := by
  obtain ⟨t, g, bar, e, q, r⟩ := h
  exact ⟨t, g, bar, e, s _ _ q, r⟩
theorem KvF.mono {H H' : Hp} (s : Tups H H') {kv : List (Key × V)} {ks : List I4} {ap : Int} {n m : Nat} (h : KvF H kv ks ap n m) : KvF H' kv ks ap n m := ⟨h.1, fun i j a b ha hb q => by
  obtain ⟨v, h1, h2⟩ := h.2 i j a b ha hb q
  exact ⟨v, h1, h2.tups s⟩⟩
theorem KvF.row {H : Hp} {kv : List (Key × V)} {ks : List I4} {ap : Int} {n : Nat} (h : KvF H kv ks ap n ks.length) : KvF H kv ks ap (n + 1) 0 := ⟨by
  have := h.1
  rw [Nat.add_mul]
  omega, fun i j a b ha hb q => h.2 i j a b ha hb (by
    have := (List.getElem?_eq_some_iff.mp hb).1
    omega)⟩
theorem KvF.push {H : Hp} {kv : List (Key × V)} {ks : List I4} {ap : Int} {n m : Nat} {a b : I4} {v : V} (h : KvF H kv ks ap n m) (ha : ks[n]? = some a) (hb : ks[m]? = some b) (hv : FitAt H v a b ap) : KvF H (putK kv (.inr (letS n ++ letS m)) v) ks ap n (m + 1) := by
  refine ⟨?_, fun i j a' b' ha' hb' q => ?_⟩
  · have h1 := h.1
    have h2 := length_putK kv (.inr (letS n ++ letS m) : Key) v
    omega
  · rw [valV_put]
    by_cases e : i = n ∧ j = m
    · obtain ⟨rfl, rfl⟩ := e
      rw [ha] at ha'
      rw [hb] at hb'
      cases ha'
      cases hb'
      exact ⟨v, by rw [if_pos rfl], hv⟩
    · obtain ⟨v', h1, h2⟩ := h.2 i j a' b' ha' hb' (by omega)
      refine ⟨v', ?_, h2⟩
      rw [if_neg (fun z => ?_)]
      · exact h1
      · have := let2_ne _ _ _ _ (Sum.inr.inj z)
        omega
theorem RingsAt.data {H : Hp} {v : V} {rs : List (List Pt)} (h : RingsAt H v rs) : RingsAt (dataOf H) v rs := by
  obtain ⟨r, xs, e, q, a⟩ := h
  exact ⟨r, xs, e, q.data, a.imp fun _ _ => RingAt.data⟩
theorem data_keep {H H' : Hp} {x C dx : Addr} {fs : List (Str × V)} (hx : H x = some (.ins C dx fs)) (h : ∀ b o, b ≠ x → H b = some o → H' b = some o) : Same (dataOf H) H' := fun b o e => by
  refine h b o (fun z => ?_) (dataOf_sub H b o e)
  have := dataOf_sub H b o e
  rcases dataOf_is H b o e with ⟨xs, rfl⟩ | ⟨xs, rfl⟩ <;> (rw [z, hx] at this; cases this)
theorem abcd_at {i : Nat} {c : Nat} (h : ("abcd" : Str).cps[i]? = some c) : i < 4 ∧ c = 97 + i := by
  match i, h with
  | 0, h => exact ⟨by decide, (Option.some.inj h).symm⟩
  | 1, h => exact ⟨by decide, (Option.some.inj h).symm⟩
  | 2, h => exact ⟨by decide, (Option.some.inj h).symm⟩
  | 3, h => exact ⟨by decide, (Option.some.inj h).symm⟩
  | i + 4, h => cases h
/-- a def as it stands, whatever its defaults are -/
structure FunA (K : PySem.W.Frag) (x qual : Str) (st : Stmt) (f : Addr) (fd : FuncData) : Prop where
  ex : ∃ (oc : Value) (od : Option Addr) (dV kV doc pm : Value) (an : Option Addr) (cdv ct : Value) (osl : Array (Option Value)),
    fd = PySem.W.fnOf x qual (defArgs st) (defBody st) (defScope st) dV kV doc pm an cdv ct ∧ K.lookup f = some ⟨oc, od, .func fd, osl⟩ ∧ PySem.W.codeIn K cdv qual = true
theorem FunA.ok {P : Program} {w : World} {K : PySem.W.Frag} {mg : Str → Option Value} {base : Heap} {x qual : Str} {st : Stmt} {f : Addr} {fd : FuncData} {N ps : List Str} {k : Nat} {sp : Sp} (F : FunA K x qual st f fd) (S : FnScope N ps (defScope st)) (len : ∀ vs H Q E, sp vs H Q E → vs.length = ps.length)
    (hbody : ∀ (cdv : Value) (A : Around) (outer : List Env) (s : Shared) (H : Hp) (vs : List V) (Q : VK) (E : XK), Room k (A.deeper (envOfC qual (defScope st) s.heap.objs.size f cdv)) → sp vs H Q E →
      ∃ t, PSs (cxOf CX0 P w K mg base N qual (defScope st) f cdv A outer s H E).nox (defBody st) t ∧ t { nx := fun _ H' => Q .non H', rt := Q } (start N vs) H) : FnOk P w K mg base CX0 (k + 1) f fd ps sp := by
  obtain ⟨oc, od, dV, kV, doc, pm, an, cdv, ct, osl, rfl, lk, hcd⟩ := F.ex
  refine fn_of lk hcd S len fun A outer s H vs Q E hr hsp => ?_
  obtain ⟨t, h, q⟩ := hbody cdv A outer s H vs Q E hr hsp
  exact ⟨t, h.nox, q⟩
section
variable {P : Program} {w : World} {K : PySem.W.Frag} {mg : Str → Option Value} {base : Heap} {C : Addr}
def spFaceInit (C : Addr) : Sp := fun vs H Q _ => ∃ (x dx : Addr) (v : V) (apart : Int) (os : List (List (List Pt))) (xs : List V) (a : Addr), vs = [.ref x, v, .int apart] ∧ H x = some (.ins C dx []) ∧ v = .ref a ∧ SeqH H a xs ∧ AllAt RingsAt H xs os ∧ (1 ≤ os.length ∧ os.length ≤ 4) ∧ (∀ rs ∈ os, GoodO rs ∧ 0 < stp (wInk rs)) ∧ 0 ≤ apart ∧ apart ≤ 2 ∧
  ∀ H', (∀ b o, b ≠ x → H b = some o → H' b = some o) → FaceAt C H' x apart (os.map wInk) → Q .non H'
abbrev sFace___init__ : Stmt := inClass (topS 29) 0
theorem scFace___init__ : FnScope ["self", "outlines", "apart", "letter", "thing", "left", "right"] ["self", "outlines", "apart"] (defScope sFace___init__) := ⟨rfl, rfl, rfl, by decide +kernel, rfl, by decide +kernel, by decide +kernel⟩
theorem ok_faceinit {f : Addr} {fd : FuncData} (F : FunA K "__init__" "Face.__init__" sFace___init__ f fd) (T : Txt K mg) (TF : TxF K mg C) (C_is_row : CallOk P w K mg base 1 "is_row" ["value"] spIsRow) (C_is_integer_from : CallOk P w K mg base 2 "is_integer_from" ["value", "low", "high"] spIntFrom)
    (C__checked_ink : CallOk P w K mg base 7 "_checked_ink" ["letter", "thing"] spChecked) (C__gap_and_bar : CallOk P w K mg base 5 "_gap_and_bar" ["left", "right", "apart"] spGap) : FnOk P w K mg base CX0 8 f fd ["self", "outlines", "apart"] (spFaceInit C) := by
  refine F.ok scFace___init__ (fun vs H Q E h => ?_) (fun cdv A outer s H vs Q E hr h => ?_)
  · obtain ⟨x, dx, v, ap, os, xs, a, rfl, _⟩ := h
    rfl
  · obtain ⟨x, dx, v, ap, os, xs, a, rfl, hx, rfl, ha, hxs, ⟨n1, n4⟩, hgood, p0, p2, k⟩ := h
    obtain ⟨tl, hL⟩ := TF.g_LETTERS
    have hlen : xs.length = os.length := hxs.len
    refine ⟨_, (pss_cons (ps_if (pt_not (pt_val (pe_cc C_is_row (hr.mono (by decide)) (by rfl) (pa_cons (pv 1) pa_nil)))) (pss_one ps_never) pss_nil)
      (pss_cons (ps_if (pt_not (pt_chain op_le op_le pe_int (pe_callB (r := rLenQ K) (id := "len") (call_lenQ (K := K) rfl) (by rfl) T.b_len PySem.boot_len (pa_cons (pv 1) pa_nil)) (pe_callB call_len_str (by rfl) T.b_len PySem.boot_len (pa_cons (pe_glob (v := .str "abcd") (by rfl) hL ⟨_, rfl⟩) pa_nil)))) (pss_one ps_never) pss_nil)
      (pss_cons (ps_if (pt_not (pt_val (pe_cc C_is_integer_from (hr.mono (by decide)) (by rfl) (pa_cons (pv 2) (pa_cons pe_int (pa_cons pe_int pa_nil)))))) (pss_one ps_never) pss_nil)
      (pss_cons (ps_fld (pv 0) (pv 2) rfl)
      (pss_cons (ps_fld (pv 0) (pe_dc (own := [("letter", 3), ("thing", 4)]) (g := gTup K 2 (gCons (gName 3) (gCons (gName 4) gNil))) (tt := tYes) (tk := tVar 3) (tv := tCall spChecked [] E0 (tCons (tVar 3) (tCons (tVar 4) tNil))) rfl scFace___init__.nd (pi_zipX (by rfl) TF.b_zip (pa_cons (pe_glob (v := .str "abcd") (by rfl) hL ⟨_, rfl⟩) (pa_cons (pv 1) pa_nil)))
          (blkOk_by (N := ["self", "outlines", "apart", "letter", "thing", "left", "right"]) (sc := defScope sFace___init__) (by decide +kernel)) (fun _ _ _ _ _ => (pg_tup rfl (pgs_cons (pg_name (i := 3) scFace___init__.nd rfl (.inl rfl)) (pgs_cons (pg_name (i := 4) scFace___init__.nd rfl (.inl rfl)) pgs_nil)))) (fun _ _ _ _ _ => pts_nil) (fun _ _ _ _ _ => pv 3) (fun _ _ _ _ _ => pe_cc C__checked_ink (hr.mono (by decide)) (by rfl) (pa_cons (pv 3) (pa_cons (pv 4) pa_nil)))) rfl)
      (pss_one (ps_fld (pv 0) (pe_lock (pe_dc2 (own := [("left", 5), ("right", 6)]) (vs1 := [6]) (wi := iKeys (tFld K (tVar 0) "_inks")) (g := gName 5) (wi1 := iKeys (tFld K (tVar 0) "_inks")) (g1 := gName 6) (tk := tOp (fun x y H Q => ∃ i j, x = .str i ∧ y = .str j ∧ i.length + j.length ≤ sizeLine ∧ Q (.str (i ++ j)) H) (tVar 5) (tVar 6)) (tv := tCall spGap [] E0 (tCons (tDGet (tFld K (tVar 0) "_inks") (tVar 5)) (tCons (tDGet (tFld K (tVar 0) "_inks") (tVar 6)) (tCons (tVar 2) tNil))))
          rfl scFace___init__.nd (pi_keys (pe_fld (pv 0) rfl)) (blkOk_by (N := ["self", "outlines", "apart", "letter", "thing", "left", "right"]) (sc := defScope sFace___init__) (by decide +kernel)) (by decide) (fun _ _ _ _ _ => (pg_name (i := 5) scFace___init__.nd rfl (.inl rfl))) (fun _ _ _ _ _ => pi_keys (pe_fld (pv 0) rfl)) (fun _ _ _ _ _ => (pg_name (i := 6) scFace___init__.nd rfl (.inl rfl)))
          (fun _ _ _ _ _ => pe_op op_add_str (pv 5) (pv 6)) (fun _ _ _ _ _ => pe_cc C__gap_and_bar (hr.mono (by decide)) (by rfl) (pa_cons (pe_dget (Nat.lt_of_le_of_lt (Nat.add_le_add_left (by decide) _) hr.units) (pe_fld (pv 0) rfl) (pv 5) (fun _ _ => rfl)) (pa_cons (pe_dget (Nat.lt_of_le_of_lt (Nat.add_le_add_left (by decide) _) hr.units) (pe_fld (pv 0) rfl) (pv 6) (fun _ _ => rfl)) (pa_cons (pv 2) pa_nil)))))) rfl))))))), ?_⟩
    refine ⟨_, rfl, a, xs, rfl, ha, fun H1 s1 => ⟨_, rfl, iteQ (by decide) ?_⟩⟩
    have ha1 := ha.mono fun o => s1 _ o
    refine ⟨_, rfl, a, _, rfl, ha1.sq, _, _, rfl, rfl, _, rfl, iteP (decide_eq_true (by omega)) ⟨_, rfl, by show 4 ≤ sizeLine; decide, _, _, rfl, rfl, _, rfl, ?_⟩⟩
    refine iteQ (by rw [decide_eq_true (by show (xs.length : Int) ≤ ((4 : Nat) : Int); omega)]; decide) ?_
    refine ⟨_, rfl, ap, 0, 2, rfl, _, rfl, iteQ (by rw [decide_eq_true ⟨p0, p2⟩]; decide) ?_⟩
    have hx1 := s1 _ _ hx
    refine ⟨_, rfl, _, rfl, x, C, dx, _, rfl, hx1, TF.cl, TF.nA, by decide, ?_⟩
    -- what stays
    have kp2 : ∀ b o, b ≠ x → H b = some o → (upd H1 x (.ins C dx (putF "apart" (.int ap) []))) b = some o := fun b o hb e => by
      rw [upd_ne hb]
      exact s1 _ _ e
    have hx2 : (upd H1 x (.ins C dx (putF "apart" (.int ap) []))) x = some (.ins C dx [("apart", .int ap)]) := upd_same
    revert kp2 hx2
    generalize upd H1 x (.ins C dx (putF "apart" (.int ap) [])) = H2
    intro kp2 hx2
    have sd2 := data_keep hx kp2
    have had := ha.data
    have hxd : AllAt RingsAt (dataOf H) xs os := hxs.imp fun _ _ => RingsAt.data
    -- _inks
    have inks : ∀ {J : It} {G : Hp → Prop} (wk : Walk J os.length G (fun i H v H' => ∃ T c y, v = .ref T ∧ H T = none ∧ H' = upd H T (.tup [.str ⟨#[c]⟩, y]) ∧ ("abcd" : Str).cps[i]? = some c ∧ xs[i]? = some y)) (hG : ∀ H', Same H2 H' → G H') (D : Addr) (hD : H2 D = none) (Qd : Hp → Prop) (hQ : ∀ H' kv, Same H2 H' → H' D = some (.dK kv) → KvI H' kv (os.map wInk) → Qd H'),
        ∃ W : Nat → Nat → Hp → Prop, (∃ m, W 0 m (upd H2 D (.dK []))) ∧ ∀ i m H, W i m H → (J.stop i H ∧ Qd H) ∨ (J.go i H ∧ ∃ Nx : Hp → Prop, (∀ H', Nx H' → ∃ m', m' < m ∧ W (i + 1) m' H') ∧ ∀ z H', J.yld i H z H' → gTup K 2 (gCons (gName 3) (gCons (gName 4) gNil)) z (wipe [some (V.ref x), some (V.ref a), some (V.int ap), none, none, none, none] [3, 4]) H' fun σ2 H2 => wipe σ2 [3, 4] = wipe [some (V.ref x), some (V.ref a), some (V.int ap), none, none, none, none] [3, 4] ∧ tYes σ2 H2 fun b H3 =>
          if b = true then tVar 3 σ2 H3 fun y H4 => tCall spChecked [] E0 (tCons (tVar 3) (tCons (tVar 4) tNil)) σ2 H4 fun z H5 => ∃ kvs k, y = kV k ∧ H5 D = some (.dK kvs) ∧ kvs.length < sizeLine ∧ Nx (upd H5 D (.dK (putK kvs k z))) else Nx H3) := by
      intro J G wk hG D hD Qd hQ
      refine dc_walk wk (fun i H3 => Same H2 H3 ∧ ∃ kv, H3 D = some (.dK kv) ∧ KvI H3 kv ((os.take i).map wInk)) ⟨same_new hD, [], upd_same, rfl, fun j y e => by simp at e⟩ (fun i H3 h => hG H3 h.1) ?_ ?_
      · rintro i z H3 H4 hi ⟨s3, kv, hkv, hK⟩ ⟨T0, c, y, rfl, hT, rfl, hc, hy⟩
        obtain ⟨hi4, rfl⟩ := abcd_at hc
        have sT := same_new (o := .tup [.str ⟨#[97 + i]⟩, y]) hT
        refine ⟨T0, _, rfl, SqT.of upd_same, rfl, _, _, rfl, _, _, rfl, rfl, rfl, ?_⟩
        obtain ⟨rs, hrs, hrr⟩ := hxd.at hy
        obtain ⟨hgo, hst⟩ := hgood rs (List.mem_of_getElem? hrs)
        have s04 : Same (dataOf H) (upd H3 T0 (.tup [.str ⟨#[97 + i]⟩, y])) := (sd2.trans s3).trans sT
        refine ⟨_, rfl, _, rfl, _, rfl, _, y, rs, rfl, hrr.mono s04, hgo, hst, fun t H5 s5 ht => ?_⟩
        have s35 := sT.trans s5
        have hkv5 := s35 _ _ hkv
        have hK5 := hK.mono (Tups.of s35)
        have etk : (os.take (i + 1)).map wInk = (os.take i).map wInk ++ [wInk rs] := by rw [List.take_add_one, hrs, List.map_append]; rfl
        have eln : ((os.take i).map wInk).length = i := by rw [List.length_map, List.length_take]; omega
        have hkl : kv.length ≤ 4 := by rw [hK.1, eln]; omega
        refine ⟨kv, .inr (letS i), rfl, hkv5, Nat.lt_of_le_of_lt hkl (by decide), same_put hD (s3.trans s35), _, upd_same, ?_⟩
        have hp := hK5.push (v := .ref t) (y := wInk rs) ⟨t, rfl, ht⟩
        rw [eln, ← etk] at hp
        exact hp.mono (Tups.put fun ys e => by rw [hkv5] at e; cases e)
      · rintro H3 ⟨s3, kv, hkv, hK⟩
        rw [List.take_of_length_le (Nat.le_refl _)] at hK
        exact hQ H3 kv s3 hkv hK
    -- _fits, behind it
    have fits : ∀ (D : Addr) (kv : List (Key × V)) (H3 : Hp), H2 D = none → Same H2 H3 → H3 D = some (.dK kv) → KvI H3 kv (os.map wInk) → sFld K (tVar 0) (tLockE (tDc2 (iKeys (tFld K (tVar 0) "_inks")) (gName 5) (iKeys (tFld K (tVar 0) "_inks")) (gName 6) (tOp (fun x y H Q => ∃ i j, x = .str i ∧ y = .str j ∧ i.length + j.length ≤ sizeLine ∧ Q (.str (i ++ j)) H) (tVar 5) (tVar 6))
        (tCall spGap [] E0 (tCons (tDGet (tFld K (tVar 0) "_inks") (tVar 5)) (tCons (tDGet (tFld K (tVar 0) "_inks") (tVar 6)) (tCons (tVar 2) tNil)))) [5, 6] [6])) "_fits" { nx := fun x H' => Q V.non H', rt := Q } [some (V.ref x), some (V.ref a), some (V.int ap), none, none, none, none] (upd H3 x (.ins C dx [("apart", .int ap), ("_inks", .ref D)])) := by
      intro D kv H3 hD s3 hkv hK
      have hks : (os.map wInk).length = os.length := List.length_map ..
      have nxD : x ≠ D := fun z => by rw [z, hD] at hx2; cases hx2
      have hx3 := s3 _ _ hx2
      have hDM : (upd H3 x (.ins C dx [("apart", .int ap), ("_inks", .ref D)])) D = some (.dK kv) := by rw [upd_ne (Ne.symm nxD)]; exact hkv
      refine ⟨D, .dK kv, hDM, trivial, fun od => ?_⟩
      have hxL : (upd (upd H3 x (.ins C dx [("apart", .int ap), ("_inks", .ref D)])) D (.frz od (.dK kv))) x = some (.ins C dx [("apart", .int ap), ("_inks", .ref D)]) := by rw [upd_ne nxD, upd_same]
      have hDL : (upd (upd H3 x (.ins C dx [("apart", .int ap), ("_inks", .ref D)])) D (.frz od (.dK kv))) D = some (.frz od (.dK kv)) := upd_same
      have tL : Tups H3 (upd (upd H3 x (.ins C dx [("apart", .int ap), ("_inks", .ref D)])) D (.frz od (.dK kv))) := (Tups.ins hx3).trans (Tups.put fun ys e => by rw [hDM] at e; cases e)
      have kL : ∀ b o, b ≠ x → H b = some o → (upd (upd H3 x (.ins C dx [("apart", .int ap), ("_inks", .ref D)])) D (.frz od (.dK kv))) b = some o := fun b o hb e => by
        have e2 := kp2 b o hb e
        rw [upd_ne (ne_of_none e2 hD), upd_ne hb]
        exact s3 _ _ e2
      have hKL := hK.mono tL
      revert hxL hDL kL hKL
      generalize upd (upd H3 x (.ins C dx [("apart", .int ap), ("_inks", .ref D)])) D (.frz od (.dK kv)) = L
      intro hxL hDL kL hKL
      have wkeys : ∀ {o : Obj}, Walk (Itk D o kv) (os.map wInk).length (fun H => H D = some (.frz o (.dK kv))) (fun i H x H' => H' = H ∧ ∃ k v, kv[i]? = some (k, v) ∧ x = kV k) := fun {o} => by
        rw [← hK.1]
        exact walk_keys
      refine ⟨_, rfl, x, C, dx, _, .ref D, rfl, hxL, TF.cl, TF.nI, rfl, D, od, rfl, .inl ⟨kv, hDL, fun E hE => ?_⟩⟩
      refine dc2_walk wkeys (fun i j H' => Same L H' ∧ ∃ fk, H' E = some (.dK fk) ∧ KvF H' fk (os.map wInk) ap i j) (os.map wInk).length ⟨same_new hE, [], upd_same, Nat.zero_le _, fun i j a b _ _ q => by omega⟩ (fun i H' h => h.1 _ _ hDL) (fun i H' ⟨s5, fk, h5, hF⟩ => ⟨s5, fk, h5, hF.row⟩) ?_ ?_ (fun x σ H R R' h q => h _ _ q) ?_
      · rintro i z H5 H6 hi ⟨s5, fk, hfk, hF⟩ ⟨rfl, k1, v1, hk1, rfl⟩
        obtain ⟨a1, ha1⟩ : ∃ a1, (os.map wInk)[i]? = some a1 := ⟨_, List.getElem?_eq_getElem hi⟩
        obtain ⟨v1', e1, _⟩ := hKL.2 i a1 ha1
        rw [hk1] at e1
        cases e1
        refine ⟨rfl, _, rfl, x, C, dx, _, .ref D, rfl, s5 _ _ hxL, TF.cl, TF.nI, rfl, D, od, rfl, .inl ⟨kv, s5 _ _ hDL, ⟨s5, fk, hfk, hF⟩, _, _, wkeys, fun j H' h => h.1 _ _ hDL, ?_⟩⟩
        rintro j z2 H7 H8 hj ⟨s7, fk7, hfk7, hF7⟩ ⟨rfl, k2, v2, hk2, rfl⟩
        obtain ⟨b1, hb1⟩ : ∃ b1, (os.map wInk)[j]? = some b1 := ⟨_, List.getElem?_eq_getElem hj⟩
        obtain ⟨v2', e2, _⟩ := hKL.2 j b1 hb1
        rw [hk2] at e2
        cases e2
        obtain ⟨w1, q1, t1, rfl, ht1⟩ := hKL.val ha1
        obtain ⟨w2, q2, t2, rfl, ht2⟩ := hKL.val hb1
        refine ⟨rfl, _, rfl, _, rfl, letS i, letS j, rfl, rfl, by show 2 ≤ sizeLine; decide, ?_⟩
        refine ⟨_, rfl, x, C, dx, _, .ref D, rfl, s7 _ _ hxL, TF.cl, TF.nI, rfl, _, rfl, D, .ref t1, rfl, .inl ⟨kv, .inr (letS i), .inr ⟨od, s7 _ _ hDL⟩, rfl, q1.symm⟩, ?_⟩
        refine ⟨_, rfl, x, C, dx, _, .ref D, rfl, s7 _ _ hxL, TF.cl, TF.nI, rfl, _, rfl, D, .ref t2, rfl, .inl ⟨kv, .inr (letS j), .inr ⟨od, s7 _ _ hDL⟩, rfl, q2.symm⟩, ?_⟩
        refine ⟨_, rfl, t1, t2, a1, b1, ap, rfl, s7 _ _ ht1, s7 _ _ ht2, by omega, fun g bar p H9 gb hp s9 hp9 => ?_⟩
        have hfk9 := s9 _ _ hfk7
        have hsz : fk7.length < sizeLine := by
          have h1 := hF7.1
          have h2 : i * (os.map wInk).length ≤ 4 * 4 := Nat.mul_le_mul (by omega) (by omega)
          exact Nat.lt_of_le_of_lt (m := 100) (by omega) (by decide)
        refine ⟨fk7, .inr (letS i ++ letS j), rfl, hfk9, hsz, same_put hE (s7.trans s9), _, upd_same, ?_⟩
        have hh := (hF7.mono (Tups.of s9)).push ha1 hb1 (v := .ref p) ⟨p, g, bar, rfl, hp9, gb⟩
        exact hh.mono (Tups.put fun ys e => by rw [hfk9] at e; cases e)
      · rintro σ H' R R' h ⟨v, hv, a', C', dx', fs, v', e1, e2, e3, e4, e5, d, o, e6, q⟩
        refine ⟨v, hv, a', C', dx', fs, v', e1, e2, e3, e4, e5, d, o, e6, ?_⟩
        rcases q with ⟨kvs, g1, g2⟩ | ⟨kvs, g1, g2⟩
        · exact .inl ⟨kvs, g1, h _ _ g2⟩
        · exact .inr ⟨kvs, g1, h _ _ g2⟩
      · rintro H5 ⟨s5, fk, hfk, hF⟩
        have nED : E ≠ D := fun z => by rw [z, hDL] at hE; cases hE
        have nEx : E ≠ x := fun z => by rw [z, hxL] at hE; cases hE
        have hD5 := s5 _ _ hDL
        have hx5 := s5 _ _ hxL
        refine ⟨hD5, _, rfl, x, C, dx, _, rfl, by rw [upd_ne nxD]; exact hx5, TF.cl, TF.nF, by show 2 < 1000; decide, ?_⟩
        refine k _ (fun b o hb e => ?_) ⟨dx, D, E, kv, fk, upd_same, ?_, ?_, ?_, ?_⟩
        · have e5 := s5 _ _ (kL b o hb e)
          rw [upd_ne hb, upd_ne (fun z => by rw [z, hD5] at e5; have := kp2 b o hb e; rw [z, hD] at this; cases this)]
          exact e5
        · rw [upd_ne (Ne.symm nxD), upd_same]
        · rw [upd_ne nEx, upd_ne nED]
          exact hfk
        all_goals
          have tf : Tups H5 (upd (upd H5 D (.dK kv)) x (.ins C dx (putF "_fits" (.ref E) [("apart", .int ap), ("_inks", .ref D)]))) := (Tups.put fun ys e => by rw [hD5] at e; cases e).trans (Tups.put fun ys e => by rw [upd_ne nxD, hx5] at e; cases e)
        · exact (hKL.mono (Tups.of s5)).mono tf
        · exact hF.mono tf
    have hn4 : min ("abcd" : Str).cps.size xs.length = os.length := by
      show min 4 xs.length = os.length
      omega
    rcases had.mono (fun o => sd2 _ o) with h | h
    · have wz := walk_zipX (x := "abcd") (S := fun H ys => SqL K H a ys) (ys := xs)
      rw [hn4] at wz
      exact ⟨_, rfl, "abcd", a, xs, rfl, .inl ⟨SqL.of h, fun D hD => inks wz (fun H' s' => SqL.of (s' _ _ h)) D hD _ fun H' kv s' hkv hK => ⟨_, rfl, x, C, dx, _, rfl, s' _ _ hx2, TF.cl, TF.nI, by show 1 < 1000; decide, fits D kv H' hD s' hkv hK⟩⟩⟩
    · have wz := walk_zipX (x := "abcd") (S := fun H ys => SqT K H a ys) (ys := xs)
      rw [hn4] at wz
      exact ⟨_, rfl, "abcd", a, xs, rfl, .inr ⟨SqT.of h, fun D hD => inks wz (fun H' s' => SqT.of (s' _ _ h)) D hD _ fun H' kv s' hkv hK => ⟨_, rfl, x, C, dx, _, rfl, s' _ _ hx2, TF.cl, TF.nI, by show 1 < 1000; decide, fits D kv H' hD s' hkv hK⟩⟩⟩
end
end Pa
set_option maxRecDepth 100000
set_option maxHeartbeats 4000000
namespace Pa
open PySem PySem.Spec PyProof.Rows L2 Win
/-! ### tuple of a text, len of a dict -/
abbrev signsV (x : Str) : List V := x.cps.toList.map fun c => .str ⟨#[c]⟩
theorem vals_get : ∀ {xs : List V} {us : List Value}, xs.length = us.length → (∀ (j : Nat) x u, xs[j]? = some x → us[j]? = some u → RelV x u) → Vals xs us
  | [], [], _, _ => .nil
  | [], _ :: _, h, _ => nomatch h
  | _ :: _, [], h, _ => nomatch h
  | x :: xs, u :: us, h, k => .cons (k 0 x u rfl rfl) (vals_get (Nat.succ.inj h) fun j y v e1 e2 => k (j + 1) y v e1 e2)
theorem call_tupleS {X : Cx} (hc : X.calm = true) : CallR X (.type "tuple") (fun xs H Q => ∃ x : Str, xs = [.str x] ∧ x.cps.size ≤ sizeLine ∧ ∀ l, H l = none → Q (.ref l) (upd H l (.tup (signsV x)))) := by
  intro pins s σ H xs us Q I r h
  obtain ⟨x, rfl, hz, q⟩ := h
  obtain ⟨u, rfl, t, rfl⟩ := vals1 r
  refine call_tuple_str (I.ok.hd hc) x t (fun h' tk acc hk hacc => ?_) hz
  have hv : Vals (signsV x) acc.toList := by
    refine vals_get (by rw [List.length_map, Array.length_toList, Array.length_toList, hacc.1]) fun j y v e1 e2 => ?_
    obtain ⟨c, u, hc, rfl⟩ := hacc.2 j v (by simpa using e2)
    rw [List.getElem?_map] at e1
    have e3 : x.cps.toList[j]? = some c := by simpa using hc
    rw [e3] at e1
    obtain rfl := Option.some.inj e1
    exact ⟨u, rfl⟩
  have I1 : Inv X pins σ H { s with heap := h', toks := tk } := I.kept (t' := tk) hk
  have I2 : Inv X pins σ (upd H h'.objs.size (.tup (signsV x))) { s with heap := h'.push { cls := .type "tuple", data := .seq acc }, toks := tk } :=
    I1.laid (t' := tk) (fun b o e => Heap.get?_push_of_some _ e) (Nat.le_refl _) (show ObjOk X.prog X.w _ _ _ (.tup (signsV x)) from ⟨by rw [List.length_map, Array.length_toList]; exact hz, acc.toList, hv, ⟨_, Heap.get?_push_size _ rfl, rfl, 0, by simp⟩⟩)
  exact ⟨.ref h'.objs.size, _, I2, rfl, q _ (I1.hok.fresh (Nat.le_refl _))⟩
theorem call_lenD {X : Cx} : CallR X (.builtin "len") (fun xs H Q => ∃ p kvs, xs = [.ref p] ∧ Rd H p (.dK kvs) ∧ Q (.int kvs.length) H) := by
  intro pins s σ H xs us Q I r h
  obtain ⟨p, kvs, rfl, hp, q⟩ := h
  obtain ⟨u, rfl, ru⟩ := vals1 r
  cases ru
  exact d_len I hp fun t s' I' => ⟨.int kvs.length, H, I', ⟨t, rfl⟩, q⟩
def lettersOf (n : Nat) : Str := cutS "abcd" none (some (n : Int))
theorem letters_has {n i : Nat} (hn : n ≤ 4) (hi : i < n) : inV (.str (letS i)) (signsV (lettersOf n)) = true := by
  have h : ((List.range 5).all fun n => (List.range n).all fun i => inV (.str (letS i)) (signsV (lettersOf n))) = true := by decide +kernel
  exact List.all_eq_true.mp (List.all_eq_true.mp h n (List.mem_range.mpr (by omega))) i (List.mem_range.mpr hi)
theorem letters_size {n : Nat} : (lettersOf n).cps.size ≤ 4 := cutS_length "abcd" none (some (n : Int))
theorem signs_flat (x : Str) : (signsV x).all flatV = true := by
  rw [List.all_eq_true]
  intro v hv
  obtain ⟨c, _, rfl⟩ := List.mem_map.mp hv
  rfl
/-! ### methods and the property, by one fact each -/
structure MethOk (P : Program) (w : World) (K : PySem.W.Frag) (mg : Str → Option Value) (base : Heap) (C : Addr) (k : Nat) (m : Str) (ps : List Str) (sp : Sp) : Prop where
  ok : ∃ (f : Addr) (fd : FuncData), Meth K C m f ∧ Binds K fd ps [] ∧ FnOk P w K mg base CX0 k f fd ps sp
structure PropOk (P : Program) (w : World) (K : PySem.W.Frag) (mg : Str → Option Value) (base : Heap) (C : Addr) (k : Nat) (m : Str) (sp : Sp) : Prop where
  ok : ∃ (p g : Addr) (fd : FuncData), PropOf K C m p g ∧ Binds K fd ["self"] [] ∧ FnOk P w K mg base CX0 k g fd ["self"] sp
section
variable {X : Cx} {k : Nat} {ps : List Str} {sp : Sp} {m : Str} {C : Addr} {apos pos : Pos} {o e : Expr} {es : List Expr} {t : TA} {ta : TE} {pl : Sem Bool}
theorem pe_mc (he : PE X o ta) (c : Cls X.K C) (M : MethOk X.prog X.w X.K X.mg X.base C k m ps sp) (hr : Room k X.A) (ha : PA X (e :: es) t)
    (hst : starEach (e :: es) X.env = (false, eval e X.env) :: starEach es X.env := by rfl) (hpl : (backTo pos (starEach es X.env)).any (·.1) = false := by rfl)
    (ht : eval (.Call (.Attribute o m apos) (e :: es) [] pos) X.env = (do
      let z ← eval o X.env
      standAt apos.atName
      let (f, first) ← holding [z] (getMethod z m pl)
      callWith pos f first (backTo pos (starEach (e :: es) X.env)) (backToKw pos (keywordEach [] X.env))) := by rfl) :
    PE X (.Call (.Attribute o m apos) (e :: es) [] pos) (tMeth C m sp [] E0 ta t) := by
  obtain ⟨f, fd, h1, h2, h3⟩ := M.ok
  exact pe_meth he c h1 h3 hr h2 .nil pass0 ha hst hpl ht
theorem pe_po (he : PE X o ta) (c : Cls X.K C) (M : PropOk X.prog X.w X.K X.mg X.base C k m sp) (hr : Room (k + 1) X.A) (hab : attributeBase o m X.env (eval o X.env) = eval o X.env := by rfl) : PE X (.Attribute o m pos) (tProp C sp [] E0 ta) := by
  obtain ⟨p, g, fd, h1, h2, h3⟩ := M.ok
  exact pe_prop he c h1 h3 hr h2 .nil pass0 hab
end
section
variable {P : Program} {w : World} {K : PySem.W.Frag} {mg : Str → Option Value} {base : Heap} {C : Addr}
theorem FaceAt.mono {H H' : Hp} (s : Same H H') {x : Addr} {ap : Int} {ks : List I4} (h : FaceAt C H x ap ks) : FaceAt C H' x ap ks := by
  obtain ⟨dx, di, df, ik, fk, h1, h2, h3, h4, h5⟩ := h
  exact ⟨dx, di, df, ik, fk, s _ _ h1, s _ _ h2, s _ _ h3, h4.mono (Tups.of s), h5.mono (Tups.of s)⟩
def spLetters (C : Addr) : Sp := fun vs H Q _ => ∃ x ap ks, vs = [.ref x] ∧ FaceAt C H x ap ks ∧ Q (.str (lettersOf ks.length)) H
abbrev sFace_letters : Stmt := inClass (topS 29) 1
theorem scFace_letters : FnScope ["self"] ["self"] (defScope sFace_letters) := ⟨rfl, rfl, rfl, by decide +kernel, rfl, by decide +kernel, by decide +kernel⟩
theorem ok_letters {f : Addr} {fd : FuncData} (F : Fun K "letters" "Face.letters" sFace_letters f fd) (T : Txt K mg) (TF : TxF K mg C) : FnOk P w K mg base CX0 1 f fd ["self"] (spLetters C) := by
  refine F.ok scFace_letters (fun vs H Q E h => ?_) (fun cdv A outer s H vs Q E hr h => ?_)
  · obtain ⟨x, ap, ks, rfl, _⟩ := h
    rfl
  · obtain ⟨x, ap, ks, rfl, ⟨dx, di, df, ik, fk, h1, h2, h3, h4, h5⟩, k⟩ := h
    obtain ⟨tl, hL⟩ := TF.g_LETTERS
    refine ⟨_, (pss_one (ps_ret (pe_slice sl_str (pe_glob (v := .str "abcd") (by rfl) hL ⟨_, rfl⟩) po_none (po_some (pe_callB call_lenD (by rfl) T.b_len PySem.boot_len (pa_cons (pe_fld (pv 0) rfl) pa_nil)))))), ?_⟩
    refine ⟨_, rfl, x, C, dx, _, .ref di, rfl, h1, TF.cl, TF.nI, rfl, di, ik, rfl, .inl h2, _, rfl, _, rfl, by show 4 ≤ sizeLine; decide, ?_⟩
    rw [h4.1]
    exact k
def spCheck (C : Addr) : Sp := fun vs H Q _ => ∃ x ap ks i, vs = [.ref x, .str (letS i)] ∧ FaceAt C H x ap ks ∧ ks.length ≤ 4 ∧ i < ks.length ∧ ∀ H', Same H H' → Q .non H'
abbrev sFace__check : Stmt := inClass (topS 29) 7
theorem scFace__check : FnScope ["self", "letter"] ["self", "letter"] (defScope sFace__check) := ⟨rfl, rfl, rfl, by decide +kernel, rfl, by decide +kernel, by decide +kernel⟩
theorem ok_check {f : Addr} {fd : FuncData} (F : Fun K "_check" "Face._check" sFace__check f fd) (T : Txt K mg) (TF : TxF K mg C) (M_letters : PropOk P w K mg base C 1 "letters" (spLetters C)) : FnOk P w K mg base CX0 3 f fd ["self", "letter"] (spCheck C) := by
  refine F.ok scFace__check (fun vs H Q E h => ?_) (fun cdv A outer s H vs Q E hr h => ?_)
  · obtain ⟨x, ap, ks, i, rfl, _⟩ := h
    rfl
  · obtain ⟨x, ap, ks, i, rfl, hf, h4, hi, k⟩ := h
    refine ⟨_, (pss_one (ps_if (pt_cmpR op_notIn_seq (pv 1) (pe_callTy (call_tupleS rfl) (by rfl) T.b_tuple (by decide +kernel) (pa_cons (pe_po (pv 0) TF.cl M_letters (hr.mono (by decide))) pa_nil)) (by rfl))
        (pss_one ps_never)
        pss_nil)), ?_⟩
    obtain ⟨dx, di, df, ik, fk, h1, _⟩ := id hf
    refine ⟨_, rfl, _, rfl, x, dx, _, rfl, h1, x, ap, ks, rfl, hf, _, rfl, Nat.le_trans letters_size (by decide), fun l hl => ?_⟩
    refine ⟨l, _, rfl, .inr (SqT.of upd_same), rfl, signs_flat _, _, rfl, iteQ ?_ (k _ (same_new hl))⟩
    rw [if_pos rfl, letters_has h4 hi]
    decide
def spInk (C : Addr) : Sp := fun vs H Q _ => ∃ x ap ks i y, vs = [.ref x, .str (letS i)] ∧ FaceAt C H x ap ks ∧ ks.length ≤ 4 ∧ ks[i]? = some y ∧ ∀ t H', Same H H' → H' t = some (.tup (inkV y)) → Q (.ref t) H'
abbrev sFace_ink : Stmt := inClass (topS 29) 2
theorem scFace_ink : FnScope ["self", "letter"] ["self", "letter"] (defScope sFace_ink) := ⟨rfl, rfl, rfl, by decide +kernel, rfl, by decide +kernel, by decide +kernel⟩
theorem ok_ink {f : Addr} {fd : FuncData} (F : Fun K "ink" "Face.ink" sFace_ink f fd) (TF : TxF K mg C) (M__check : MethOk P w K mg base C 3 "_check" ["self", "letter"] (spCheck C)) : FnOk P w K mg base CX0 4 f fd ["self", "letter"] (spInk C) := by
  refine F.ok scFace_ink (fun vs H Q E h => ?_) (fun cdv A outer s H vs Q E hr h => ?_)
  · obtain ⟨x, ap, ks, i, y, rfl, _⟩ := h
    rfl
  · obtain ⟨x, ap, ks, i, y, rfl, hf, h4, hi, k⟩ := h
    refine ⟨_, (pss_cons (ps_expr (pe_mc (pv 0) TF.cl M__check (hr.mono (by decide)) (pa_cons (pv 1) pa_nil)))
      (pss_one (ps_ret (pe_dget (Nat.lt_of_le_of_lt (Nat.add_le_add_left (by decide) _) hr.units) (pe_fld (pv 0) rfl) (pv 1) (fun _ _ => rfl))))), ?_⟩
    obtain ⟨dx, di, df, ik, fk, h1, h2, h3, hI, hF⟩ := id hf
    have hl := (List.getElem?_eq_some_iff.mp hi).1
    refine ⟨_, rfl, x, dx, _, rfl, h1, rfl, _, rfl, x, ap, ks, i, rfl, hf, h4, hl, fun H' s' => ?_⟩
    obtain ⟨v, q, t, rfl, ht⟩ := hI.val hi
    exact ⟨_, rfl, x, C, dx, _, .ref di, rfl, s' _ _ h1, TF.cl, TF.nI, rfl, _, rfl, di, .ref t, rfl, .inl ⟨ik, .inr (letS i), .inl (s' _ _ h2), rfl, q.symm⟩, k t H' s' (s' _ _ ht)⟩
def spStepF (C : Addr) : Sp := fun vs H Q _ => ∃ x ap ks i y, vs = [.ref x, .str (letS i)] ∧ FaceAt C H x ap ks ∧ ks.length ≤ 4 ∧ ks[i]? = some y ∧ ∀ H', Same H H' → Q (.int (stp y)) H'
abbrev sFace_step : Stmt := inClass (topS 29) 3
theorem scFace_step : FnScope ["self", "letter"] ["self", "letter"] (defScope sFace_step) := ⟨rfl, rfl, rfl, by decide +kernel, rfl, by decide +kernel, by decide +kernel⟩
theorem ok_stepF {f : Addr} {fd : FuncData} (F : Fun K "step" "Face.step" sFace_step f fd) (TF : TxF K mg C) (C_step_of : CallOk P w K mg base 1 "step_of" ["ink"] spStep) (M_ink : MethOk P w K mg base C 4 "ink" ["self", "letter"] (spInk C)) : FnOk P w K mg base CX0 5 f fd ["self", "letter"] (spStepF C) := by
  refine F.ok scFace_step (fun vs H Q E h => ?_) (fun cdv A outer s H vs Q E hr h => ?_)
  · obtain ⟨x, ap, ks, i, y, rfl, _⟩ := h
    rfl
  · obtain ⟨x, ap, ks, i, y, rfl, hf, h4, hi, k⟩ := h
    refine ⟨_, (pss_one (ps_ret (pe_cc C_step_of (hr.mono (by decide)) (by rfl) (pa_cons (pe_mc (pv 0) TF.cl M_ink (hr.mono (by decide)) (pa_cons (pv 1) pa_nil)) pa_nil)))), ?_⟩
    obtain ⟨dx, di, df, ik, fk, h1, h2, h3, hI, hF⟩ := id hf
    refine ⟨_, rfl, x, dx, _, rfl, h1, rfl, _, rfl, x, ap, ks, i, y, rfl, hf, h4, hi, fun t H' s' ht => ?_⟩
    exact ⟨t, y, rfl, ht, fun H'' s'' => k H'' (s'.trans s'')⟩
def spGapF (C : Addr) : Sp := fun vs H Q _ => ∃ x ap ks i j a b, vs = [.ref x, .str (letS i), .str (letS j)] ∧ FaceAt C H x ap ks ∧ ks.length ≤ 4 ∧ ks[i]? = some a ∧ ks[j]? = some b ∧ ∀ (g : Nat) bar H', Same H H' → GapBar a b ap g bar → Q (.int g) H'
abbrev sFace_gap : Stmt := inClass (topS 29) 4
theorem scFace_gap : FnScope ["self", "left", "right"] ["self", "left", "right"] (defScope sFace_gap) := ⟨rfl, rfl, rfl, by decide +kernel, rfl, by decide +kernel, by decide +kernel⟩
theorem ok_gapF {f : Addr} {fd : FuncData} (F : Fun K "gap" "Face.gap" sFace_gap f fd) (TF : TxF K mg C) (M__check : MethOk P w K mg base C 3 "_check" ["self", "letter"] (spCheck C)) : FnOk P w K mg base CX0 4 f fd ["self", "left", "right"] (spGapF C) := by
  refine F.ok scFace_gap (fun vs H Q E h => ?_) (fun cdv A outer s H vs Q E hr h => ?_)
  · obtain ⟨x, ap, ks, i, j, a, b, rfl, _⟩ := h
    rfl
  · obtain ⟨x, ap, ks, i, j, a, b, rfl, hf, h4, hi, hj, k⟩ := h
    refine ⟨_, (pss_cons (ps_expr (pe_mc (pv 0) TF.cl M__check (hr.mono (by decide)) (pa_cons (pv 1) pa_nil)))
      (pss_cons (ps_expr (pe_mc (pv 0) TF.cl M__check (hr.mono (by decide)) (pa_cons (pv 2) pa_nil)))
      (pss_one (ps_ret (pe_ix ix_tup (pe_dget (Nat.lt_of_le_of_lt (Nat.add_le_add_left (by decide) _) hr.units) (pe_fld (pv 0) rfl) (pe_op op_add_str (pv 1) (pv 2)) (fun _ _ => rfl)) pe_int (fun _ _ => rfl)))))), ?_⟩
    obtain ⟨dx, di, df, ik, fk, h1, h2, h3, hI, hF⟩ := id hf
    have hl := (List.getElem?_eq_some_iff.mp hi).1
    have hl2 := (List.getElem?_eq_some_iff.mp hj).1
    refine ⟨_, rfl, x, dx, _, rfl, h1, rfl, _, rfl, x, ap, ks, i, rfl, hf, h4, hl, fun H1 s1 => ?_⟩
    refine ⟨_, rfl, x, dx, _, rfl, s1 _ _ h1, rfl, _, rfl, x, ap, ks, j, rfl, hf.mono s1, h4, hl2, fun H2 s2 => ?_⟩
    have s12 := s1.trans s2
    obtain ⟨v, q, t, g, bar, rfl, ht, gb⟩ := hF.2 i j a b hi hj (.inl hl)
    refine ⟨_, rfl, x, C, dx, _, .ref df, rfl, s12 _ _ h1, TF.cl, TF.nF, rfl, _, rfl, _, rfl, letS i, letS j, rfl, rfl, by show 2 ≤ sizeLine; decide, df, .ref t, rfl, .inl ⟨fk, .inr (letS i ++ letS j), .inl (s12 _ _ h3), rfl, q.symm⟩, ?_⟩
    exact ⟨t, _, _, _, rfl, rfl, SqT.of (s12 _ _ ht), atI_nat (j := 0) rfl, k g bar H2 s12 gb⟩
end
end Pa
set_option maxRecDepth 100000
set_option maxHeartbeats 4000000
namespace Pa
open PySem PySem.Spec PyProof.Rows L2
/-! ### super().__init__('..') in an own error's __init__ -/
theorem mw_init {X : Cx} {pins : List (Addr × Obj)} {σ : List (Option V)} {H : Hp} {s : Shared} {u a C : Addr} {us : List Value} {A : Around} {Q : Value → Shared → Prop} {E : Value → Shared → Prop}
    (T : OexC X.K C) (I : Inv X pins σ H s) (hu : s.heap.get? u = some (PySem.W.kxs_mw "ValueError.__init__" a)) (e : H a = some (exo a C none)) (hl : us.length ≤ sizeLine) (h : ∀ s', Inv X pins σ H s' → Q .none s') :
    wpAny (model X.prog X.w) A (call (.ref u) us) Q E s := by
  obtain ⟨_, _, _, _, _, _, _, _, _, _, _, _, _, _, _, hC, _⟩ := T.cls
  obtain ⟨t1, ho⟩ := exo_at I.hok e
  obtain ⟨hp, g, d, t, os⟩ := s
  apply wpAny_call
  apply codeAny_of_tree
  show wpAny _ A.in1 (callAny (.ref u) ⟨us, []⟩) _ _ _
  unfold callAny
  refine wpAny_bind (wpAny_load hu ?_)
  have c1 : (Value.type "method-wrapper" == Value.type "method" || Value.type "method-wrapper" == Value.type "builtin_function_or_method" || Value.type "method-wrapper" == Value.type "method-wrapper") = true := by decide
  simp only [PySem.W.kxs_mw, c1, if_true]
  refine PySem.W.KFB.if_so (by decide) ?_
  refine wpAny_bind (PySem.W.check_bound_init F.excBase_ValueError.toExcCallFacts (I.kIn _ _ hC) ho rfl (wpAny_bind (wpAny_pure (wpAny_pure ⟨plainId_quiet F.excBase_ValueError.init.plain _, codeAny_builtin F.excBase_ValueError.initEntry ?_⟩))))
  refine PySem.W.exc_init_tree (cls := .ref C) (t0 := t1) (dv := none) (c2 := .none) (c3 := .none) (b4 := .bool false) ho hl fun h' k hx _ => ?_
  have J := I.write (t' := t) (x := a) (e := a) (o := exo a C none) (by rw [e]; trivial) (.inl rfl) k ⟨_, hx⟩ (exo_ok hx)
  have eu : upd H a (exo a C none) = H := funext fun b => by
    by_cases hb : b = a
    · rw [hb, upd_same, e]
    · exact upd_ne hb
  rw [eu] at J
  exact h _ J
end Pa
set_option maxRecDepth 100000
set_option maxHeartbeats 4000000
namespace Pa
open PySem PySem.Spec PyProof.Rows L2
/-- the names of such an __init__, without those that are not its own -/
def supScope0 (fld : Str) : Scope := { kind := .function, names := [("self", .local), (fld, .local)], isGenerator := false, isCoroutine := false, more := [] }
def supScope (fld : Str) : Scope := { kind := .function, names := [("self", .local), (fld, .local), ("__class__", .free), ("super", .globalImplicit)], isGenerator := false, isCoroutine := false, more := [] }
/-- class X(..): def __init__(self, f): super().__init__('..'); self.f = f -/
def spSup (C : Addr) (fld : Str) : Sp := fun vs H Q _ => ∃ (a : Addr) (v : V), vs = [.ref a, v] ∧ H a = some (exo a C none) ∧
  ∀ dx, H dx = none → dx ≠ a → Q .non (upd (upd H dx (exd dx [(fld, v)])) a (exo a C (some dx)))
structure SupCls (P : Program) (K : PySem.W.Frag) (mg : Str → Option Value) (C : Addr) (fld : Str) : Prop where
  oex : OexC K C
  noF : PySem.W.findIn K (.ref C) fld = some none
  ve : PySem.W.subIn K (.ref C) (.type "ValueError") = some true
  own : PySem.W.mroIn K C (.ref C) = some true
  sup : PySem.W.ks_superIn K C C "__init__" = some (some (.builtin "ValueError.__init__"))
  third : PySem.W.nsIn K cStatics "thirdparty.any" = some none
  mgS : mg "super" = none
  top : (P.main.scope.names.lookup ("super" : Str)).isSome = false
theorem sup_go {X : Cx} {pins : List (Addr × Obj)} {σ : List (Option V)} {H : Hp} {s : Shared} {A : Around} {Q : Value → Shared → Prop} {E : Value → Shared → Prop} {C f cc cda a : Addr} {qual fld tx : Str} {params : Arguments} {body : List Stmt} {dV kV doc pm ct oc ccl cl : Value} {an od cdd cld : Option Addr} {osl ccs csl : Array (Option Value)}
    {vs0 : Array Value} {file : Str} {tf : Tok} {ar : Arg} {p0 p1 p3 p4 : Pos} {whole : Sem Value} {pl : Sem Bool} {bdy : List Stmt} (T : SupCls X.prog X.K X.mg C fld) (I : Inv X pins σ H s) (L : Addr)
    (lk : X.K.lookup f = some ⟨oc, od, .func (PySem.W.fnX "__init__" qual params body (supScope fld) [("__class__", cc)] dV kV doc pm an (.ref cda) ct), osl⟩)
    (hcode : X.K.lookup cda = some ⟨ccl, cdd, .fields vs0, ccs⟩) (hvs : vs0[2]? = some (.str file tf)) (hfile : ((X.prog.main.file : Str) == file) = true) (hcell : X.K.lookup cc = some ⟨cl, cld, .cell (some (.ref C)), csl⟩)
    (hp : (params.posonlyargs ++ params.args).head? = some ar) (har : ar.arg = ("self" : Str)) (hf1 : (("super" : Str) == fld) = false) (hf2 : (("__class__" : Str) == fld) = false) {m : Str → Option Value} (hns : s.heap.Ns L m) (hm : m "self" = some (.ref a)) (ha : H a = some (exo a C none)) (h : ∀ s', Inv X pins σ H s' → Q .none s') :
    PySem.wpAt (model X.prog X.w) A (.func bdy (PySem.W.ksEnv qual (supScope fld) L f (.ref cda) cc)) (attributeBase (.Call (.Name "super" p0) [] [] p1) "__init__" (PySem.W.ksEnv qual (supScope fld) L f (.ref cda) cc) whole)
      (fun ov s₁ => wpAny (model X.prog X.w) A (getMethod ov "__init__" pl) (fun fx s₂ => wpAny (model X.prog X.w) A (callWith p4 fx.1 fx.2 (backTo p4 (starEach [.Constant (.str tx) 0 p3] (PySem.W.ksEnv qual (supScope fld) L f (.ref cda) cc))) []) Q E s₂) E s₁) E s := by
  obtain ⟨nmC, qC, NC, bsC, bmC, snC, subC, abC, colC, ddC, k0, k1, k2, k3, k5, hC, hbm⟩ := T.oex.cls
  obtain ⟨t1, ho⟩ := exo_at I.hok ha
  have KI := I.kIn
  have hCi : PySem.W.clsIn X.K C = some { name := nmC, bases := bsC, mro := .ref C :: bmC, ns := NC, qualname := qC, hasDict := true, slotNames := snC, subclasses := subC, abstract := abC, collection := colC, hasDel := false } := by unfold PySem.W.clsIn; rw [hC] <;> rfl
  obtain ⟨mb, hmb, hmb2⟩ := I.mod.blt
  have hsup0 : (("super" : Str)) ≠ "__name__" := by decide
  refine PySem.ks_wpAt_super_base (env := PySem.W.ksEnv qual (supScope fld) L f (.ref cda) cc) (of := ⟨oc, od, .func (PySem.W.fnX "__init__" qual params body (supScope fld) [("__class__", cc)] dV kV doc pm an (.ref cda) ct), osl⟩) ?a1 ?a2 rfl rfl (KI _ _ lk) rfl hp rfl (KI _ _ hcode) rfl hvs hfile T.top ?_
  case a1 =>
    show List.lookup ("super" : Str) [(("self" : Str), NameKind.local), (fld, .local), ("__class__", .free), ("super", .globalImplicit)] = some .globalImplicit
    simp only [List.lookup_cons, hf1]
    rfl
  case a2 =>
    show List.lookup ("__class__" : Str) [(("self" : Str), NameKind.local), (fld, .local), ("__class__", .free), ("super", .globalImplicit)] = some .free
    simp only [List.lookup_cons, hf2]
    rfl
  have kS : (PySem.W.ksEnv qual (supScope fld) L f (.ref cda) cc).kindOf "super" = some .globalImplicit := by
    show List.lookup ("super" : Str) [(("self" : Str), NameKind.local), (fld, .local), ("__class__", .free), ("super", .globalImplicit)] = some .globalImplicit
    simp only [List.lookup_cons, hf1]
    rfl
  have kC : (PySem.W.ksEnv qual (supScope fld) L f (.ref cda) cc).kindOf "__class__" = some .free := by
    show List.lookup ("__class__" : Str) [(("self" : Str), NameKind.local), (fld, .local), ("__class__", .free), ("super", .globalImplicit)] = some .free
    simp only [List.lookup_cons, hf2]
    rfl
  have kL : (PySem.W.ksEnv qual (supScope fld) L f (.ref cda) cc).kindOf ar.arg = some .local := by rw [har]; rfl
  have hC2 := KI _ _ hC
  refine PySem.W.ks_loadName_global rfl kS (PySem.Calls.loadGlobal_builtin (env := PySem.W.ksEnv qual (supScope fld) L f (.ref cda) cc) (I.mod.glob.keeps I.bk) T.mgS (hmb.keeps I.bk) (hmb2 _ hsup0) ⟨rfl, ?_⟩)
  refine PySem.wpAny_loadName_free rfl kC rfl ⟨_, KI _ _ hcell, rfl⟩ ?_
  refine PySem.wpAny_loadName_local rfl kL hns (by rw [har]; exact hm) ?_
  obtain ⟨hp0, g, d, t, os⟩ := s
  refine PySem.ks_wpAny_isType_cls hC2 rfl ⟨rfl, ?_⟩
  refine PySem.ks_wpAny_call_super hC2 rfl ho rfl (fun c z => by cases z) (PySem.W.looks_mroIn KI T.own) (fun h2 hso k2 => ?_)
  have J0 : Inv X pins σ H ⟨h2, g, d, t, os⟩ := I.un (t' := t) (Un.kept k2) (I.hok.kept k2)
  have hne : a ≠ C := fun z => by
    have w := KI _ _ hC
    rw [← z] at w
    exact absurd (w.symm.trans ho) (fun y => by cases y)
  have ho2 := k2 _ _ ho
  have IA : PySem.W.InstAt h2 a { cls := .ref C, dict := none, data := .fields #[.ref t1, .none, .none, .none, .bool false, .none] } C none := ⟨ho2, rfl, rfl, trivial⟩
  have hsp := T.sup
  unfold PySem.W.ks_superIn at hsp
  rw [hCi] at hsp
  refine PySem.W.kxs_getMethod PySem.W.kxs_ValueError hso (PySem.W.looks_opaque J0.kIn T.third) (l₀ := Value.ref C :: bmC) ((PySem.W.looks_clsIn J0.kIn hCi).andThen .now) rfl J0.kIn hsp (IA.type.andThen (PySem.W.looks_subIn J0.kIn T.ve)) hne (by decide) ?_
  have k3 : ∀ (b : Addr) (o : Obj), h2.get? b = some o → (h2.push (PySem.W.kxs_mw "ValueError.__init__" a)).get? b = some o := fun b o e => Heap.get?_push_of_some _ e
  have J1 : Inv X pins σ H ⟨h2.push (PySem.W.kxs_mw "ValueError.__init__" a), g, d, t + 1, os⟩ := J0.un (t' := t + 1) (Un.kept k3) (J0.hok.kept k3)
  have hu : (h2.push (PySem.W.kxs_mw "ValueError.__init__" a)).get? h2.objs.size = some (PySem.W.kxs_mw "ValueError.__init__" a) := Heap.get?_push_size _ rfl
  refine PySem.W.kxs_callWith (i := "ValueError.__init__") (x := a) rfl (PySem.Calls.evalArgs_plain ?_)
  show wpAny _ _ (spliced ((false, eval (.Constant (.str tx) 0 p3) _) :: [])) _ _ _
  refine PySem.Calls.spliced_cons (PySem.wpAny_Constant_str (PySem.Calls.spliced_nil ⟨hu, ?_⟩))
  exact mw_init T.oex (J1.tok _) hu ha (by rw [sizeLine_eq]; show 1 ≤ 16777216; decide) h
theorem sup_fn {P : Program} {w : World} {K : PySem.W.Frag} {mg : Str → Option Value} {base : Heap} {CX : CXT} {k : Nat} {C f cc cda : Addr} {qual fld tx : Str} {params : Arguments} {body : List Stmt} {dV kV doc pm ct oc ccl cl : Value} {an od cdd cld : Option Addr} {osl ccs csl : Array (Option Value)}
    {vs0 : Array Value} {file : Str} {tf : Tok} {ar : Arg} {p0 p1 p2 p3 p4 p5 q1 q2 q3 q4 : Pos} (T : SupCls P K mg C fld)
    (lk : K.lookup f = some ⟨oc, od, .func (PySem.W.fnX "__init__" qual params body (supScope fld) [("__class__", cc)] dV kV doc pm an (.ref cda) ct), osl⟩) (hcd : PySem.W.codeIn K (.ref cda) qual = true)
    (hcode : K.lookup cda = some ⟨ccl, cdd, .fields vs0, ccs⟩) (hvs : vs0[2]? = some (.str file tf)) (hfile : ((P.main.file : Str) == file) = true) (hcell : K.lookup cc = some ⟨cl, cld, .cell (some (.ref C)), csl⟩)
    (hp : (params.posonlyargs ++ params.args).head? = some ar) (har : ar.arg = ("self" : Str)) (hb0 : body = [.Expr (.Call (.Attribute (.Call (.Name "super" p0) [] [] p1) "__init__" p2) [.Constant (.str tx) 0 p3] [] p4) p5, .Assign [.Attribute (.Name "self" q1) fld q2] (.Name fld q3) q4])
    {pl : Env → Sem Bool} (hmc : ∀ env, eval (.Call (.Attribute (.Call (.Name "super" p0) [] [] p1) "__init__" p2) [.Constant (.str tx) 0 p3] [] p4) env = (do
      let ov ← attributeBase (.Call (.Name "super" p0) [] [] p1) "__init__" env (eval (.Call (.Name "super" p0) [] [] p1) env)
      standAt p2.atName
      let (f, first) ← holding [ov] (getMethod ov "__init__" (pl env))
      callWith p4 f first (backTo p4 (starEach [.Constant (.str tx) 0 p3] env)) []))
    (hsw : ∀ env, swapsWith (.Name fld q3) (some (.Attribute (.Name "self" q1) fld q2)) q4.line env = pure false) (hf1 : (("super" : Str) == fld) = false) (hf2 : (("__class__" : Str) == fld) = false) (hne : fld ≠ ("self" : Str)) (hdb : (fld == ("__debug__" : Str)) = false) :
    FnOk P w K mg base CX (k + 1) f (PySem.W.fnX "__init__" qual params body (supScope fld) [("__class__", cc)] dV kV doc pm an (.ref cda) ct) ["self", fld] (spSup C fld) := by
  refine ⟨fun vs H Q E ⟨a, v, e, _⟩ => by rw [e]; rfl, fun A outer s H args us vs Q E hr e0 hb r hsp => ?_⟩
  obtain ⟨a, v, rfl, ha, q⟩ := hsp
  obtain ⟨u1, u2, rfl, ru1, ru2⟩ := vals2 r
  obtain rfl : u1 = Value.ref a := ru1
  have KX : K.In s.heap := e0.mod.kin.keeps fun b o e => (e0.bs b o e).1
  have lim : s.heap.NoLimit := e0.mod.nolimit.keeps fun b o e => (e0.bs b o e).1
  have hne' : ((fld : Str) == ("self" : Str)) = false := by simp [hne]
  refine PySem.ks_codeAny_call_defAt (body := body) (binds := [("self", .ref a), (fld, u2)]) hr.depth (KX _ _ lk) rfl lim (PySem.W.codeRec_of KX hcd) rfl hb ?_ ?_ (fun h₁ hns hk₁ => ?_) rfl rfl rfl
  · intro x hx
    simp only [PySem.W.fnX, supScope, List.mem_cons, List.not_mem_nil, or_false] at hx
    rcases hx with rfl | rfl | rfl | rfl <;> (intro z; cases z)
  · intro x hx
    simp only [List.mem_cons, List.not_mem_nil, or_false] at hx
    rcases hx with rfl | rfl
    · rfl
    · show List.lookup fld [(("self" : Str), NameKind.local), (fld, .local), ("__class__", .free), ("super", .globalImplicit)] = some .local
      simp [List.lookup_cons, hne']
  have eb : h₁.Ns s.heap.objs.size (bindL (envOfC qual (supScope0 fld) s.heap.objs.size f (.ref cda)).kindOf ([("self" : Str), fld].zip [Value.ref a, u2]) fun _ => none) := by
    have k1 : (envOfC qual (supScope0 fld) s.heap.objs.size f (.ref cda)).kindOf "self" = some .local := rfl
    have k2 : (envOfC qual (supScope0 fld) s.heap.objs.size f (.ref cda)).kindOf fld = some .local := by
      show List.lookup fld [(("self" : Str), NameKind.local), (fld, .local)] = some .local
      simp [List.lookup_cons, hne']
    have ef : (bindL (envOfC qual (supScope0 fld) s.heap.objs.size f (.ref cda)).kindOf ([("self" : Str), fld].zip [Value.ref a, u2]) fun _ => none) = fun x => List.lookup x ([(("self" : Str), Value.ref a), (fld, u2)].reverse) := by
      funext y
      show bindL _ [(("self" : Str), Value.ref a), (fld, u2)] _ y = List.lookup y [(fld, u2), (("self" : Str), Value.ref a)]
      simp only [bindL, k1, k2, if_true, List.lookup_cons, List.lookup_nil]
      by_cases h1 : y = fld
      · subst h1; simp
      · by_cases h2 : y = ("self" : Str)
        · subst h2
          rw [beq_eq_false_iff_ne.mpr h1]
          simp [h1]
        · rw [beq_eq_false_iff_ne.mpr h1, beq_eq_false_iff_ne.mpr h2]
          simp [h1, h2]
    rw [ef]
    exact hns
  have S0 : FnScope ["self", fld] ["self", fld] (supScope0 fld) := by
    refine ⟨rfl, rfl, rfl, ?_, rfl, fun x hx => ?_, fun y hy => ?_⟩
    · simp only [List.nodup_cons, List.mem_cons, List.not_mem_nil, or_false, not_false_eq_true, List.nodup_nil, and_true]
      exact fun z => hne z.symm
    · left
      simp only [List.mem_cons, List.not_mem_nil, or_false] at hx
      rcases hx with e | e
      · rw [e]; rfl
      · rw [e]
        show List.lookup fld [(("self" : Str), NameKind.local), (fld, .local)] = some .local
        simp [List.lookup_cons, hne']
    · simp only [supScope0, List.mem_cons, List.not_mem_nil, or_false] at hy
      rcases hy with rfl | rfl <;> (intro z; cases z)
  have ec : cellsFrom (s.heap.objs.size + 1) (supScope0 fld).names [] = [] := rfl
  have I : Inv (cxOf CX P w K mg base ["self", fld] qual (supScope0 fld) f (.ref cda) A outer s H E) [] (start ["self", fld] [.ref a, v]) H { s with heap := h₁, toks := s.toks + 2 } :=
    inv_start S0 hr.hd e0 rfl r ⟨⟨⟨h₁, _, rfl⟩, eb, hk₁, Nat.le_refl _⟩, (fun n c hc => by rw [ec] at hc; simp at hc), (by rw [ec]; exact List.Pairwise.nil), (fun n c hc => by rw [ec] at hc; simp at hc)⟩
  obtain ⟨oD, cdC, hC1, hC2, hCi⟩ : ∃ oD cdC, K.lookup C = some oD ∧ oD.data = .cls cdC ∧ PySem.W.clsIn K C = some cdC := by
    obtain ⟨_, _, _, _, _, _, _, _, _, _, _, _, _, _, _, hC, _⟩ := T.oex.cls
    exact ⟨_, _, hC, rfl, by unfold PySem.W.clsIn; rw [hC] <;> rfl⟩
  have henv : callEnv (PySem.W.fnX "__init__" qual params body (supScope fld) [("__class__", cc)] dV kV doc pm an (.ref cda) ct) s.heap.objs.size f = PySem.W.ksEnv qual (supScope fld) s.heap.objs.size f (.ref cda) cc := rfl
  rw [henv]
  generalize henv2 : PySem.W.ksEnv qual (supScope fld) s.heap.objs.size f (.ref cda) cc = env
  rw [hb0]
  refine PySem.ks_wpAt_execs_cons (PySem.ks_wpAt_Expr_any ?_ ?_ ?_)
  rotate_left
  · rw [← henv2]; rfl
  · rfl
  refine PySem.ks_wpAt_MethodCall (pl := pl env) ?_ (hmc env)
  rw [← henv2]
  have hself : (fun x => List.lookup x ([(("self" : Str), Value.ref a), (fld, u2)].reverse)) "self" = some (.ref a) := by
    show List.lookup ("self" : Str) [(fld, u2), (("self" : Str), Value.ref a)] = some (.ref a)
    have : (("self" : Str) == fld) = false := beq_eq_false_iff_ne.mpr fun z => hne z.symm
    simp only [List.lookup_cons, this]
    rfl
  refine sup_go (X := cxOf CX P w K mg base ["self", fld] qual (supScope0 fld) f (.ref cda) A outer s H E) T I s.heap.objs.size lk hcode hvs hfile hcell hp har hf1 hf2 hns hself ha (fun s' J => ?_)
  dsimp only
  obtain ⟨m', hns', hl'⟩ := J.loc
  obtain ⟨v1, rv1, lk1⟩ := hl' 0 "self" (.ref a) rfl rfl (.inl rfl)
  obtain rfl : v1 = Value.ref a := rv1
  have k2 : (envOfC qual (supScope0 fld) s.heap.objs.size f (.ref cda)).kindOf fld = some .local := by
    show List.lookup fld [(("self" : Str), NameKind.local), (fld, .local)] = some .local
    simp [List.lookup_cons, hne']
  obtain ⟨v2, rv2, lk2⟩ := hl' 1 fld v rfl rfl (.inl k2)
  have m1 : m' "self" = some (.ref a) := by
    rcases lk1 with ⟨_, z⟩ | ⟨z, _⟩
    · exact z
    · rcases z with z | z <;> cases z
  have m2 : m' fld = some v2 := by
    rcases lk2 with ⟨_, z⟩ | ⟨z, _⟩
    · exact z
    · rcases z with z | z <;> exact absurd (k2.symm.trans z) (fun y => by cases y)
  have e1 : (PySem.W.ksEnv qual (supScope fld) s.heap.objs.size f (.ref cda) cc).kindOf "self" = some .local := rfl
  have e2 : (PySem.W.ksEnv qual (supScope fld) s.heap.objs.size f (.ref cda) cc).kindOf fld = some .local := by
    show List.lookup fld [(("self" : Str), NameKind.local), (fld, .local), ("__class__", .free), ("super", .globalImplicit)] = some .local
    simp [List.lookup_cons, hne']
  refine PySem.ks_wpAt_execs_cons (PySem.wpAt_of_wpAny (plainObj_wpAny_Assign_Attribute ?_ (hsw _)))
  refine PySem.wpAny_Name (PySem.wpAny_loadName_local rfl e2 hns' m2 ?_) hdb
  refine PySem.wpAny_Name (PySem.wpAny_loadName_local rfl e1 hns' m1 ?_) (by decide)
  refine ost_new T.oex J ha T.noF rv2 (fun dx s'' hdx hdn J2 => ?_)
  refine PySem.wpAt_of_wpAny (wpAny_execs_nil ?_)
  exact ⟨.non, _, J2.os, J2.bare, J2.base, J2.hok, rfl, q dx hdx hdn⟩
end Pa
set_option maxRecDepth 100000
set_option maxHeartbeats 4000000
namespace Pa
open PySem PySem.Spec PyProof.Rows L2 Win
/-! ### errors -/
/-- an own error with one field, made by its own __init__ -/
structure ErrOk (P : Program) (w : World) (K : PySem.W.Frag) (mg : Str → Option Value) (base : Heap) (x fld : Str) (C : Addr) : Prop where
  oex : OexC K C
  gC : mg x = some (.ref C)
  ok : ∃ (fI : Addr) (fd : FuncData), PySem.W.findIn K (.ref C) "__init__" = some (some (.ref fI)) ∧ PySem.W.typeIn K (.ref fI) = some (.type "function") ∧ Binds K fd ["self", fld] [] ∧ FnOk P w K mg base CX0 1 fI fd ["self", fld] (spSup C fld)
theorem pmk_err {X : Cx} {x fld : Str} {C : Addr} {e : Expr} {ta : TA} {p pos : Pos} (T : ErrOk X.prog X.w X.K X.mg X.base x fld C) (hr : Room 2 X.A) (hg : Gl X x) (ha : PA X [e] ta)
    (hdb : (x == ("__debug__" : Str)) = false := by decide) (he : starEach [e] X.env = (false, eval e X.env) :: starEach [] X.env := by rfl) (hpl : (backTo pos (starEach [] X.env)).any (·.1) = false := by rfl) :
    PMk X (.Call (.Name x p) [e] [] pos) (tMkO C (spSup C fld) [] ta) := by
  obtain ⟨fI, fd, h1, h2, h3, h4⟩ := T.ok
  exact pmk_oex T.oex h1 h2 h4 hr h3 .nil pass0 hg T.gC ha hdb he hpl
/-- what a raised one leaves -/
theorem err_end {C a dx : Addr} {fld : Str} {v : V} {H : Hp} (ha : H a = none) (hne : dx ≠ a) : upd (del (upd (upd (upd H a (exo a C none)) dx (exd dx [(fld, v)])) a (exo a C (some dx))) a) dx (.xd [(fld, v)]) = upd H dx (.xd [(fld, v)]) := by
  funext b
  by_cases h1 : b = dx
  · subst h1
    rw [upd_same, upd_same]
  · rw [upd_ne h1, upd_ne h1]
    by_cases h2 : b = a
    · subst h2
      rw [del_same, ha]
    · rw [del_ne h2, upd_ne h2, upd_ne h1, upd_ne h2]
/-- the reading of raise X(v) -/
theorem err_read {C : Addr} {fld : Str} {v : V} {ta : TA} {σ : L2.St} {H : Hp} {Q : XK} (h : ∀ R : List V → Hp → Prop, R [v] H → ta σ H R) (q : ∀ dx, H dx = none → Q (.ref C) (some dx) (upd H dx (.xd [(fld, v)]))) : tMkO C (spSup C fld) [] ta σ H Q := by
  unfold tMkO
  refine h _ ⟨(by show 1 ≤ 1000; decide), fun a ha => ⟨a, v, rfl, upd_same, fun dx hdx hne => ⟨rfl, dx, [(fld, v)], upd_same, ?_, ?_, ?_⟩⟩⟩
  · rw [upd_ne hne, upd_same]
  · rw [upd_ne hne] at hdx
    exact hdx
  · rw [err_end ha hne]
    rw [upd_ne hne] at hdx
    exact q dx hdx
/-- the module's name x holds a def that may raise -/
structure CallOkX (P : Program) (w : World) (K : PySem.W.Frag) (mg : Str → Option Value) (base : Heap) (k : Nat) (x : Str) (ps : List Str) (sp : Sp) : Prop where
  ok : ∃ (f : Addr) (fd : FuncData), mg x = some (.ref f) ∧ PySem.W.keepIn K (.ref f) = true ∧ Binds K fd ps [] ∧ FnOk P w K mg base (L2.CX P w) k f fd ps sp
/-- f(e, ..) where what f lets out is taken as E -/
theorem pe_ccp {X : Cx} {E : XK} {k : Nat} {ps : List Str} {sp : Sp} {x : Str} {p pos : Pos} {e : Expr} {es : List Expr} {t : TA} (C : CallOkX X.prog X.w X.K X.mg X.base k x ps sp) (hr : Room k X.A) (hg : Gl X x) (hp : Passes (L2.CX X.prog X.w) X E) (ha : PA X (e :: es) t)
    (hdb : (x == ("__debug__" : Str)) = false := by decide) (he : starEach (e :: es) X.env = (false, eval e X.env) :: starEach es X.env := by rfl) (hpl : (backTo pos (starEach es X.env)).any (·.1) = false := by rfl) :
    PE X (.Call (.Name x p) (e :: es) [] pos) (tCallS sp (fun _ => E) t) := by
  obtain ⟨f, fd, h1, h2, h3, h4⟩ := C.ok
  exact pe_callS h4 hr hg h1 h2 h3 (fun σ pins H s e s' I c => hp pins σ H s e s' I c) ha hdb he hpl
/-- in a def that may raise -/
theorem passX {X : Cx} {E : XK} (tk : Takes X fun cls d _ H => E cls d H) : Passes (L2.CX X.prog X.w) X E := passes_call tk fun _ _ _ _ h => h
/-- what a bad word's error is -/
def BadE (CW : Addr) (H : Hp) (v : V) (E : XK) : Prop := ∀ H' dx, Same H H' → H dx = none → H' dx = some (.xd [("word", v)]) → E (.ref CW) (some dx) H'
theorem BadE.mono {CW : Addr} {H H' : Hp} {v : V} {E : XK} (s : Same H H') (h : BadE CW H v E) : BadE CW H' v E := fun H2 dx s2 hdx hx => h H2 dx (s.trans s2) (s.free hdx) hx
/-! ### isinstance(e, c) of a caught error with a dict -/
def rIsED (K : PySem.W.Frag) (D a : Addr) (cls : Value) (d : Option Addr) : List V → Hp → VK → Prop := fun xs H Q => ∃ (c : V) (cv : Value) (b : Bool) (dd : Addr) (fs : List (Str × V)), xs = [.ref a, c] ∧ cls = .ref D ∧ d = some dd ∧ H dd = some (.xd fs) ∧ (∀ u, RelV c u → u = cv) ∧ PySem.W.kitOne K (.ref D) cv = some b ∧ Q (.bl b) H
theorem call_isED {X : Cx} {a D : Addr} {oe : Obj} {cls : Value} {d : Option Addr} {pn : List (Addr × Obj)} (C : ExcC X.K D) (hz : Zc cls d oe) (hf : ∃ vs, oe.data = .fields vs) : CallR (X.suite a ((a, oe) :: pn)) (.builtin "isinstance") (rIsED X.K D a cls d) := by
  intro pins s σ H xs us Q I r h
  obtain ⟨c, cv, b, dd, fs, rfl, rfl, rfl, hdd, hcv, e, q⟩ := h
  cases r with
  | cons rx rr =>
    cases rr with
    | cons rt rr =>
      cases rr
      cases rx
      have ec := hcv _ rt
      subst ec
      obtain ⟨hget, _⟩ := I.pin (a, oe) (List.mem_append.mpr (.inl List.mem_cons_self))
      obtain ⟨vs, hv⟩ := hf
      have hx : ObjOk X.prog X.w H s.heap dd (.xd fs) := I.hok dd _ hdd
      obtain ⟨mA, hns, hr⟩ := hx
      obtain ⟨od, ho, hl⟩ := lookIn_ns hns
      have J : PySem.W.InstAt s.heap a oe D (some od) := ⟨hget, hz.1, by unfold PySem.W.notCls; rw [hv] <;> rfl, by rw [hz.2]; exact ho⟩
      obtain ⟨cdD, hcD, _⟩ := PySem.W.any_some C.hd
      exact PySem.W.kia_one (PySem.W.kitx_exc (by rw [hcD] <;> rfl) C.hg C.hk C.hs C.ha C.hn C.ht C.hm) I.kIn J e (fun z => nomatch z) fun tk => ⟨.bl b, H, I.kept (t' := tk) fun _ _ z => z, rfl, q⟩
theorem takes_len {X : Cx} {W : WX} (t : Takes X W) : Takes X (fun cls d σ H => σ.length = X.N.length → W cls d σ H) := fun u s' ⟨a, B, sI, pins, σ, H, cls, d, e, I, nb, up, sky, na, os, ag, w⟩ =>
  t u s' ⟨a, B, sI, pins, σ, H, cls, d, e, I, nb, up, sky, na, os, ag, w I.len⟩

/-! ### x not in a tuple of data -/
def rNotInT (K : PySem.W.Frag) : R2 := fun x y H Q => ∃ d ds, Dp K H x d ∧ Dp K H y (.tuple ds) ∧ SeqAt.shaped d = true ∧ SeqAt.shaped (.tuple ds) = true ∧ Q (.bl (!ds.any fun z => PyData.eqv z d)) H
theorem op_notInT {X : Cx} (hu : X.A.units + 65 < cLine) : OpR X (compareOp .NotIn) (rNotInT X.K) := by
  intro pins s σ H x y v u Q I rx ry h
  obtain ⟨d, ds, hd, he, sd, se, q⟩ := h
  obtain ⟨as, r1⟩ := Dp.reads I d x v hd rx
  obtain ⟨bs, r2⟩ := Dp.reads I (.tuple ds) y u he ry
  have hlay : PyData.canLayAll0 ds = true := by
    have := SeqAt.canLay_of_shaped se
    simpa only [PyData.canLay0] using this
  refine SeqAt.notIn_tuple_reads r2 r1 hlay (SeqAt.canLay_of_shaped sd) ?_ ⟨.bl _, H, I, rfl, q⟩
  have h1 := SeqAt.depth_of_shaped sd
  omega
/-! ### x(lambda: body, name) -/
def GivesTo2 (X : Cx) (Ng : List Str) (x : Str) (sg : Scope) (g : Addr) (cdg : Value) (bg : List Stmt) (a : Str) (q : Str) (TT : V → (XK → Hp → VK → Prop) → Hp → VK → Prop) : Prop :=
  ∀ (f c' : Addr) (v : V) (s : Shared) (H : Hp) (Q : VK) (tl : XK → Hp → VK → Prop),
    (∀ (W : WX) (pn : List (Addr × Obj)) (xe : Value → Shared → Prop) (p1 p2 : Pos), Takes ((cxOf C8.CX0 X.prog X.w X.K X.mg X.base Ng x sg g cdg X.A X.stack s H C8.E0).tr pn xe) W →
      PE ((cxOf C8.CX0 X.prog X.w X.K X.mg X.base Ng x sg g cdg X.A X.stack s H C8.E0).tr pn xe) (.Call (.Name a p1) [] [] p2) (fun σZ HZ Q => σZ[0]? = some (some (.ref f)) ∧ HZ c' = some (LamX.CodeO c' q) ∧ tl (WE W σZ) HZ Q)) →
    H c' = some (LamX.CodeO c' q) → TT v tl H Q →
    ∃ t, PSs (cxOf C8.CX0 X.prog X.w X.K X.mg X.base Ng x sg g cdg X.A X.stack s H C8.E0).nox bg t ∧ t { nx := fun _ H' => Q .non H', rt := Q } (L2.start Ng [.ref f, v]) H
def tLam2 (T : List (Addr × Str)) (TT : V → (XK → Hp → VK → Prop) → Hp → VK → Prop) (i : Nat) (t : XK → TE) : TE := fun σ H Q => LamX.Tabs T H ∧ ∃ v, σ[i]? = some (some v) ∧ ∀ H1, LamX.ExtN H H1 → LamX.Tabs T H1 → TT v (fun E H' Q' => t E σ H' Q') H1 Q
section
variable {X : Cx}
/-- a name of the def's: nothing moves -/
theorem name_still {pins : List (Addr × Obj)} {σ : L2.St} {H : Hp} {s : Shared} {i : Nat} {x : Str} {pos : Pos} {v : V} {R : Value → Shared → Prop} {E : Value → Shared → Prop} (hN : X.N[i]? = some x) (hv : Vis X.env.scope x) (I : Inv X pins σ H s) (e : σ[i]? = some (some v)) (h : ∀ u, RelV v u → R u s)
    (hd : (x == ("__debug__" : Str)) = false := by decide) (hcd : (x == ("__classdict__" : Str)) = false := by decide) : wpAny (model X.prog X.w) X.A (eval (.Name x pos) X.env) R E s := by
  obtain ⟨m, hn, hl⟩ := I.loc
  obtain ⟨u, r, l⟩ := hl i x v hN e hv
  have fin : R u s := h u r
  rcases l with ⟨hk, hm⟩ | ⟨hk, c, hc, hcell⟩
  · exact wpAny_Name (wpAny_loadName_local I.ok.kind hk hn hm fin) hd
  · rcases hk with hk | hk
    · exact wpAny_Name (wpAny_loadName_cell I.ok.kind hk hc hcell fin) hd
    · exact wpAny_Name (wpAny_loadName_free I.ok.kind hk hc hcell fin hcd) hd
/-- x(), in the def that got the lambda; what leaves it is told at the caller's own slots -/
theorem lam_called {pins : List (Addr × Obj)} {σ : L2.St} {H : Hp} {s : Shared} {CXg : CXT} {Eg : XK} {Ng : List Str} {qg : Str} {sg : Scope} {g f c' : Addr} {cdg pm ctv : Value} {params : Arguments} {body : Expr} {scope : Scope} {k i : Nat} {a : Str} {pn : List (Addr × Obj)} {xe : Value → Shared → Prop} {W : WX} {tb : XK → TE} {p1 p2 : Pos}
    (J0 : Inv X pins σ H s) (L : LamX.LamS X.env.scope scope) (fat : s.heap.get? f = some (PySem.W.kla_obj "<lambda>" (X.env.qual ++ "<lambda>") params body scope (cloFrom X.env.cells scope.names []) pm c' ctv)) (fnew : H f = none) (fout : f ∉ frs X.stack)
    (bare : bindArgs (PySem.W.kla_fn "<lambda>" (X.env.qual ++ "<lambda>") params body scope (cloFrom X.env.cells scope.names []) pm (.ref c') ctv) ⟨[], []⟩ = pure [])
    (tk : Takes ((cxOf CXg X.prog X.w X.K X.mg X.base Ng qg sg g cdg X.A X.stack s H Eg).tr pn xe) W) (room : Room (k + 1) (X.A.deeper (envOfC qg sg s.heap.objs.size g cdg)))
    (inner : ∀ (A : Around) (outer : List Env) (s : Shared) (H : Hp) (E : XK), Room k (A.deeper (LamX.lamEnv X scope s.heap.objs.size f c')) → PE (LamX.lamCx X A outer s H E scope f c') body (tb E))
    (ni : Ng[i]? = some a) (va : Vis sg a) (nd : (a == ("__debug__" : Str)) = false) (nc : (a == ("__classdict__" : Str)) = false) :
    PE ((cxOf CXg X.prog X.w X.K X.mg X.base Ng qg sg g cdg X.A X.stack s H Eg).tr pn xe) (.Call (.Name a p1) [] [] p2)
      (fun σZ HZ Q => σZ[i]? = some (some (.ref f)) ∧ HZ c' = some (LamX.CodeO c' (X.env.qual ++ "<lambda>")) ∧ tb (WE W σZ) σ HZ Q) := by
  constructor
  rintro pinsZ sZ σZ HZ Q JZ ⟨slot, code, rest⟩
  have look := (pe_var (pos := p1) (i := i) ni va nd nc).run pinsZ sZ σZ HZ (fun v H1 => v = .ref f ∧ H1 = HZ) JZ ⟨.ref f, slot, rfl, rfl⟩
  refine wpAny_Call_Name_kw (thn look ?_)
  rintro u t1 ⟨v, H1, J1, rv, ⟨rfl, rfl⟩⟩
  cases (show u = Value.ref f from rv)
  have fat1 := J1.base.keep f _ fat fnew fout (fun z => nomatch (show f ∈ ([] : List Addr) from z))
  obtain ⟨⟨oc, vs, tt, hoc, hdc, hvc⟩, _, _⟩ := J1.hok c' _ code
  have un : Un (frs X.stack) [] H H1 s.heap t1.heap := J1.base
  have ran : codeAny (model X.prog X.w) (X.A.deeper (envOfC qg sg s.heap.objs.size g cdg)) (.call (.ref f) ⟨[], []⟩) (CR (L2.CX X.prog X.w) (envOfC qg sg s.heap.objs.size g cdg :: X.stack) X.prog X.w H1 t1 Q (WE W σZ)) t1 := by
    refine PySem.W.kla_callFunE room.depth fat1 rfl L.co L.gen rfl ⟨c', oc, vs, tt, rfl, hoc, hdc, hvc⟩ ?_
    rw [bare]
    refine wpAny_pure (wpAny_newFunctionEnv (fun y hy => (L.own y hy).2) (fun y hy => absurd hy (by simp)) (fun hh hns hsb => ⟨J1.nolimit.fresh _ hsb, ?_⟩) L.kind)
    show codeAny _ _ (.expr body (LamX.lamEnv X scope t1.heap.objs.size f c')) _ _
    have kept : ∀ b o, t1.heap.get? b = some o → hh.get? b = some o := fun b o e => hsb.extBut b o (Nat.ne_of_lt (Heap.lt_size e)) (Heap.get?_push_of_some _ e)
    have Jin : Inv (LamX.lamCx X (X.A.deeper (envOfC qg sg s.heap.objs.size g cdg)) (envOfC qg sg s.heap.objs.size g cdg :: X.stack) t1 H1 (WE W σZ) scope f c') [] σ H1 { t1 with heap := hh, toks := t1.toks + ([] : List (Str × Value)).length } :=
      LamX.lam_start2 J0 L J1.env0 room.hd un hns kept
    have gone := (inner _ _ t1 H1 (WE W σZ) (room.deeper _)).run [] _ _ H1 Q Jin rest
    refine PySem.W.kla_codeExpr (wpAny_mono gone ?_ fun e s' hq => hq)
    rintro v s' ⟨w', H', J', rv, q⟩
    exact ⟨w', H', J'.os, J'.bare, J'.base, J'.hok, rv, q⟩
  refine PySem.W.callWith_F0 ⟨_, _, _, _, fat1⟩ (wpAny_call (codeAny_mono ran fun r s' hq => ?_))
  match r, hq with
  | .error e, hq => exact passAt tk σZ pinsZ H1 t1 e s' J1 hq
  | .ok (.ret u), hq => exact J1.after hq
  | .ok .next, hq => exact hq.elim
  | .ok .brk, hq => exact hq.elim
  | .ok .cont, hq => exact hq.elim
theorem pe_lamcall2 {T : List (Addr × Str)} {TT : V → (XK → Hp → VK → Prop) → Hp → VK → Prop} {x a a2 y : Str} {g c P : Addr} {k i : Nat} {pg : Arguments} {bg : List Stmt} {sg : Scope} {dV kV doc pm cdv ct oc : Value} {an od : Option Addr} {osl : Array (Option Value)} {Ng : List Str}
    {params : Arguments} {body : Expr} {scope : Scope} {t : XK → TE} {p lpos npos pos : Pos} (hg : Gl X x) (hm : X.mg x = some (.ref g)) (hk : PySem.W.keepIn X.K (.ref g) = true)
    (lk : X.K.lookup g = some ⟨oc, od, .func (PySem.W.fnOf x x pg bg sg dV kV doc pm an cdv ct), osl⟩) (hcg : PySem.W.codeIn X.K cdv x = true) (hb : L2.Binds X.K (PySem.W.fnOf x x pg bg sg dV kV doc pm an cdv ct) [a, a2] []) (Sg : FnScope Ng [a, a2] sg) (hNg : Ng[0]? = some a) (hva : Vis sg a)
    (hG : GivesTo2 X Ng x sg g cdv bg a (X.env.qual ++ "<lambda>") TT)
    (TB : LamX.TabB X.base X.mg c P) (hcode : X.env.code = .ref c) (hmT : (P, X.env.qual ++ "<lambda>") ∈ T) (hu : ∀ p ∈ T, p.1 = P → p.2 = X.env.qual ++ "<lambda>") (hr : Room (k + 2) X.A) (L : LamX.LamS X.env.scope scope) (hdef : defaultsOf params X.env = ([], []))
    (hbind : ∀ (q : Str) (cl : List (Str × Addr)) (pm cv ctv : Value), bindArgs (PySem.W.kla_fn "<lambda>" q params body scope cl pm cv ctv) ⟨[], []⟩ = pure [])
    (hbody : ∀ (A : Around) (outer : List Env) (s : Shared) (H : Hp) (E : XK) (f c' : Addr), Room k (A.deeper (LamX.lamEnv X scope s.heap.objs.size f c')) → PE (LamX.lamCx X A outer s H E scope f c') body (t E))
    (hNy : X.N[i]? = some y) (hvy : Vis X.env.scope y)
    (hdb : (x == ("__debug__" : Str)) = false := by decide) (hd : (a == ("__debug__" : Str)) = false := by decide) (hcd : (a == ("__classdict__" : Str)) = false := by decide) (hd2 : (y == ("__debug__" : Str)) = false := by decide) (hcd2 : (y == ("__classdict__" : Str)) = false := by decide) :
    PE X (.Call (.Name x p) [.Lambda params body scope lpos, .Name y npos] [] pos) (tLam2 T TT i t) := by
  refine ⟨fun pins s σ H Q I h => ?_⟩
  obtain ⟨hT, v, hv, h⟩ := h
  refine wpAny_Call_Name_kw (ld_glob I hg hm ?_ hdb)
  refine PySem.W.callWith_K (h₀ := X.base) I.ok.mod.kin hk ?_ (by rfl) (by rfl)
  show wpAny _ _ (spliced ((false, eval (.Lambda params body scope lpos) X.env) :: (false, eval (.Name y npos) X.env) :: backTo pos (starEach [] X.env))) _ _ s
  refine Calls.spliced_cons (LamX.lam_make2 I TB hcode hmT hu hT hdef (L.has I.ok) fun f c' pm' ctv H1 s' I1 eN T1 hf hfn hfr hco => ?_)
  refine Calls.spliced_cons (name_still hNy hvy I1 hv (fun u ru => ?_) hd2 hcd2)
  refine Calls.spliced_nil ⟨I1.kIn, ?_⟩
  have rc : codeAny (model X.prog X.w) X.A (.call (.ref g) ⟨[.ref f, u], []⟩) (CR C8.CX0 X.stack X.prog X.w H1 s' Q C8.E0) s' := by
    refine LamX.run_ofS (N := Ng) (ps := [a, a2]) (us := [.ref f, u]) (vs := [.ref f, v]) lk hcg Sg hr I1.env0 (hb s' [.ref f, u] I1.kIn rfl) (.cons rfl (.cons ru .nil)) rfl fun hr' => ?_
    obtain ⟨t', ht', hq'⟩ := hG f c' v s' H1 Q (fun E H' Q' => t E σ H' Q') (fun W pn xe p1 p2 tk => lam_called (i := 0) (tb := t) I1 L hf hfn hfr (hbind _ _ _ _ _) tk hr' (fun A outer s H E hr2 => hbody A outer s H E f c' hr2) hNg hva hd hcd) hco (h H1 eN T1)
    exact ⟨t', ht'.nox, hq'⟩
  refine wpAny_call (codeAny_mono rc fun r s2 hq => ?_)
  cases r with
  | error e => exact (show False from hq).elim
  | ok fl =>
    cases fl with
    | ret u => exact I1.after hq
    | next => exact False.elim hq
    | brk => exact False.elim hq
    | cont => exact False.elim hq
end
/-! ### methods that may raise; a face made with a default or by keyword -/
structure MethOkX (P : Program) (w : World) (K : PySem.W.Frag) (mg : Str → Option Value) (base : Heap) (C : Addr) (k : Nat) (m : Str) (ps : List Str) (sp : Sp) : Prop where
  ok : ∃ (f : Addr) (fd : FuncData), Meth K C m f ∧ Binds K fd ps [] ∧ FnOk P w K mg base (L2.CX P w) k f fd ps sp
structure FaceMk (P : Program) (w : World) (K : PySem.W.Frag) (mg : Str → Option Value) (base : Heap) (C : Addr) : Prop where
  ok : ∃ (f : Addr) (fd : FuncData) (ds its : List Value), Mk K C f ∧ mg "Face" = some (.ref C) ∧ Vals [.int 1] ds ∧ Binds K fd ["self", "outlines", "apart"] ds ∧ KBn K fd ["self", "outlines", "apart"] 2 ["apart"] (fun us ws => us ++ ws) (fun vs zs => vs ++ zs) ∧ FnOk P w K mg base CX0 8 f fd ["self", "outlines", "apart"] (spFaceInit C)
section
variable {X : Cx} {E : XK} {k : Nat} {ps : List Str} {sp : Sp} {m : Str} {C : Addr} {apos pos p : Pos} {o e : Expr} {es : List Expr} {kws : List Keyword} {t tk : TA} {ta : TE} {pl : Sem Bool}
theorem pe_mcX (he : PE X o ta) (c : Cls X.K C) (M : MethOkX X.prog X.w X.K X.mg X.base C k m ps sp) (hr : Room k X.A) (hp : Passes (L2.CX X.prog X.w) X E) (ha : PA X (e :: es) t)
    (hst : starEach (e :: es) X.env = (false, eval e X.env) :: starEach es X.env := by rfl) (hpl : (backTo pos (starEach es X.env)).any (·.1) = false := by rfl)
    (ht : eval (.Call (.Attribute o m apos) (e :: es) [] pos) X.env = (do
      let z ← eval o X.env
      standAt apos.atName
      let (f, first) ← holding [z] (getMethod z m pl)
      callWith pos f first (backTo pos (starEach (e :: es) X.env)) (backToKw pos (keywordEach [] X.env))) := by rfl) :
    PE X (.Call (.Attribute o m apos) (e :: es) [] pos) (tMeth C m sp [] E ta t) := by
  obtain ⟨f, fd, h1, h2, h3⟩ := M.ok
  exact pe_meth he c h1 h3 hr h2 .nil hp ha hst hpl ht
theorem pe_face1 (M : FaceMk X.prog X.w X.K X.mg X.base C) (hr : Room 9 X.A) (hg : Gl X "Face") (ha : PA X (e :: es) t)
    (he : starEach (e :: es) X.env = (false, eval e X.env) :: starEach es X.env := by rfl) (hpl : (backTo pos (starEach es X.env)).any (·.1) = false := by rfl) :
    PE X (.Call (.Name "Face" p) (e :: es) [] pos) (tMake C (spFaceInit C) [.int 1] E0 t) := by
  obtain ⟨f, fd, ds, its, h1, h2, h3, h4, h5, h6⟩ := M.ok
  exact pe_make h1 h6 hr hg h2 h4 h3 pass0 ha (by decide) he hpl
theorem pe_faceK (M : FaceMk X.prog X.w X.K X.mg X.base C) (hr : Room 9 X.A) (hg : Gl X "Face") (ha : PA X (e :: es) t) (hkw : PK X kws tk) (hall : (backToKw pos (keywordEach kws X.env)).all (·.1.isSome) = true := by rfl) (hks : (backToKw pos (keywordEach kws X.env)).filterMap (·.1) = (["apart"] : List Str) := by rfl)
    (he : starEach (e :: es) X.env = (false, eval e X.env) :: starEach es X.env := by rfl)
    (hpl : ((backTo pos (starEach (e :: es) X.env)).any (·.1) || (backToKw pos (keywordEach kws X.env)).any (·.1.isNone)) = false := by rfl) :
    PE X (.Call (.Name "Face" p) (e :: es) kws pos) (tMakeN C 1 1 (spFaceInit C) (fun vs zs => vs ++ zs) E0 t tk) := by
  obtain ⟨f, fd, ds, its, h1, h2, h3, h4, h5, h6⟩ := M.ok
  exact pe_makeN (n := 1) (ks := (["apart"] : List Str)) h1 h6 hr hg h2 h5 pass0 ha hkw hall hks (by decide) he hpl
end
end Pa
set_option maxRecDepth 100000
set_option maxHeartbeats 4000000
namespace Pa
open PySem PySem.Spec PyProof.Rows L2 Win
/-! ### boxes: what a rectangle inks, and how two meet -/
structure Box where
  l : Nat
  t : Nat
  r : Nat
  f : Nat
def Box.ok (b : Box) : Prop := b.l < b.r ∧ b.r ≤ 4 ∧ b.t < b.f ∧ b.f ≤ 4
def Box.ring (b : Box) : List Pt := [((b.l : Int), (b.t : Int)), ((b.r : Int), (b.t : Int)), ((b.r : Int), (b.f : Int)), ((b.l : Int), (b.f : Int))]
def Box.ink (b : Box) : I4 := wInk [b.ring]
def Box.has (b : Box) (y : Nat) : Prop := b.t ≤ y ∧ y < b.f
instance (b : Box) (y : Nat) : Decidable (b.has y) := by unfold Box.has; exact inferInstance
def rowOk (b : Box) (y : Nat) : Bool := decide ((b.ink y).lft = if b.has y then (b.l : Int) else -1) && decide ((b.ink y).rgt = if b.has y then (b.r : Int) - 1 else -1)
theorem rows_all : ((List.range 5).all fun l => (List.range 5).all fun t => (List.range 5).all fun r => (List.range 5).all fun f => (List.range 4).all fun y => !decide (l < r ∧ t < f) || rowOk ⟨l, t, r, f⟩ y) = true := by decide +kernel
theorem box_row {b : Box} (h : b.ok) {y : Nat} (hy : y < 4) : (b.ink y).lft = (if b.has y then (b.l : Int) else -1) ∧ (b.ink y).rgt = if b.has y then (b.r : Int) - 1 else -1 := by
  obtain ⟨l, t, r, f⟩ := b
  obtain ⟨h1, h2, h3, h4⟩ := h
  dsimp only at h1 h2 h3 h4
  have k := List.all_eq_true.mp (List.all_eq_true.mp (List.all_eq_true.mp (List.all_eq_true.mp (List.all_eq_true.mp rows_all l (List.mem_range.mpr (by omega))) t (List.mem_range.mpr (by omega))) r (List.mem_range.mpr (by omega))) f (List.mem_range.mpr (by omega))) y (List.mem_range.mpr hy)
  rw [decide_eq_true ⟨h1, h3⟩] at k
  unfold rowOk at k
  rw [Bool.not_true, Bool.false_or, Bool.and_eq_true] at k
  exact ⟨of_decide_eq_true k.1, of_decide_eq_true k.2⟩
theorem box_step {b : Box} (h : b.ok) : stp b.ink = (b.r : Int) := by
  obtain ⟨y, hy, e⟩ := stp_is b.ink
  have h1 := (box_row h hy).2
  obtain ⟨h5, h6, h7, h8⟩ := id h
  have h2 := stp_ge b.ink b.t (by omega)
  have h3 := (box_row h (y := b.t) (by omega)).2
  rw [if_pos ⟨Nat.le_refl _, h7⟩] at h3
  split at h1 <;> omega
theorem box_good {b : Box} (h : b.ok) : GoodO [b.ring] := by
  obtain ⟨l, t, r, f⟩ := b
  obtain ⟨h1, h2, h3, h4⟩ := h
  dsimp only at h1 h2 h3 h4
  refine ⟨by simp, fun ps hp => ?_⟩
  rw [List.mem_singleton.mp hp]
  refine ⟨by simp [Box.ring], fun p hp => ?_, fun j p q hj hq => ?_⟩
  · simp only [Box.ring, List.mem_cons, List.not_mem_nil, or_false] at hp
    unfold GoodC
    rcases hp with rfl | rfl | rfl | rfl <;> dsimp only <;> omega
  · match j, hj, hq with
    | 0, hj, hq => cases hj; cases hq; intro z; injection z with z1 z2; dsimp only at z1 z2; omega
    | 1, hj, hq => cases hj; cases hq; intro z; injection z with z1 z2; dsimp only at z1 z2; omega
    | 2, hj, hq => cases hj; cases hq; intro z; injection z with z1 z2; dsimp only at z1 z2; omega
    | 3, hj, hq => cases hj; rw [show (3 + 1) % (Box.ring ⟨l, t, r, f⟩).length = 0 by simp [Box.ring]] at hq; have hq : some ((l : Int), (t : Int)) = some q := hq; cases hq; intro z; injection z with z1 z2; dsimp only at z1 z2; omega
    | j + 4, hj, hq => cases hj
/-- two boxes' rows meet -/
def meets (a b : Box) : Prop := max a.t b.t < min a.f b.f
instance (a b : Box) : Decidable (meets a b) := by unfold meets; exact inferInstance
theorem tb_box {a b : Box} (ha : a.ok) (hb : b.ok) {gap ap : Int} {y : Nat} (hy : y < 4) : tb a.ink b.ink gap ap y ↔ a.has y ∧ b.has y ∧ gap + (b.l : Int) < ap := by
  have h1 := (box_row ha hy).2
  have h2 := (box_row hb hy).1
  have h3 := box_step ha
  unfold tb
  rw [h1, h2, h3]
  by_cases ea : a.has y
  · by_cases eb : b.has y
    · rw [if_pos ea, if_pos eb]
      refine ⟨fun ⟨_, _, q⟩ => ⟨ea, eb, by omega⟩, fun ⟨_, _, q⟩ => ⟨?_, by omega, by omega⟩⟩
      have := ha.1
      omega
    · rw [if_neg eb]
      exact ⟨fun ⟨_, q, _⟩ => absurd q (by omega), fun ⟨_, q, _⟩ => absurd q eb⟩
  · rw [if_neg ea]
    exact ⟨fun ⟨q, _⟩ => absurd q (by omega), fun ⟨q, _⟩ => absurd q ea⟩
theorem box_gap {a b : Box} (ha : a.ok) (hb : b.ok) {ap : Int} {g : Nat} {bar : V} (h : GapBar a.ink b.ink ap g bar) : (g : Int) = if meets a b then max 0 (ap - (b.l : Int)) else 0 := by
  obtain ⟨h1, h2, _⟩ := h
  by_cases hm : meets a b
  · rw [if_pos hm]
    have hy : max a.t b.t < 4 := by
      unfold meets at hm
      have := ha.2.2.2
      omega
    have hla : a.has (max a.t b.t) := by unfold Box.has; unfold meets at hm; omega
    have hlb : b.has (max a.t b.t) := by unfold Box.has; unfold meets at hm; omega
    have q1 := h1 (max a.t b.t) hy
    rw [tb_box ha hb hy] at q1
    have q1 : ¬ ((g : Int) + (b.l : Int) < ap) := fun z => q1 ⟨hla, hlb, z⟩
    cases g with
    | zero => omega
    | succ m =>
      obtain ⟨y, hy4, ht, _⟩ := h2 m (Nat.lt_succ_self m)
      rw [tb_box ha hb hy4] at ht
      omega
  · rw [if_neg hm]
    cases g with
    | zero => rfl
    | succ m =>
      obtain ⟨y, hy4, ht, _⟩ := h2 m (Nat.lt_succ_self m)
      rw [tb_box ha hb hy4] at ht
      exfalso
      apply hm
      obtain ⟨⟨q1, q2⟩, ⟨q3, q4⟩, _⟩ := ht
      unfold meets
      omega
end Pa
set_option maxRecDepth 100000
set_option maxHeartbeats 4000000
namespace Pa
open PySem PySem.Spec PyProof.Rows L2 Win

/-! ### ink or none -/
def joined (k : I4) : Str := Txt.join "" [(k 0).s, (k 1).s, (k 2).s, (k 3).s]
theorem join4 (a b c d : Str) : (Txt.join "" [a, b, c, d]).cps.toList = a.cps.toList ++ b.cps.toList ++ c.cps.toList ++ d.cps.toList := by
  show (a.cps ++ ("" : Str).cps ++ b.cps ++ ("" : Str).cps ++ c.cps ++ ("" : Str).cps ++ d.cps).toList = _
  have e : ("" : Str).cps.toList = [] := rfl
  simp [e]
theorem row_has (r : R4) : decide (35 ∈ r.s.cps.toList) = decide (0 ≤ r.rgt) := of_decide_eq_true (R4.of (p := fun r => decide (decide (35 ∈ r.s.cps.toList) = decide (0 ≤ r.rgt))) (by decide +kernel) r)
theorem row_has' (r : R4) : 35 ∈ r.s.cps.toList ↔ 0 ≤ r.rgt := by
  have h := row_has r
  constructor
  · intro q
    rw [decide_eq_true q] at h
    exact of_decide_eq_true h.symm
  · intro q
    rw [decide_eq_true q] at h
    exact of_decide_eq_true h
theorem inked_iff (k : I4) : 35 ∈ (joined k).cps.toList ↔ 0 < stp k := by
  unfold joined
  rw [join4, List.mem_append, List.mem_append, List.mem_append, row_has', row_has', row_has', row_has']
  constructor
  · intro h
    have h0 := stp_ge k 0 (by decide)
    have h1 := stp_ge k 1 (by decide)
    have h2 := stp_ge k 2 (by decide)
    have h3 := stp_ge k 3 (by decide)
    rcases h with ((h | h) | h) | h <;> omega
  · intro h
    obtain ⟨y, hy, e⟩ := stp_is k
    have : 0 ≤ (k y).rgt := by omega
    match y, hy, this with
    | 0, _, q => exact .inl (.inl (.inl q))
    | 1, _, q => exact .inl (.inl (.inr q))
    | 2, _, q => exact .inl (.inr q)
    | 3, _, q => exact .inr q
theorem nil_ink : ¬ 0 < stp (wInk []) := by decide +kernel
theorem good_of {rs : List (List Pt)} (h3 : rs.length ≤ 3) (h8 : ∀ ps ∈ rs, Ring8 ps) (hs : 0 < stp (wInk rs)) : GoodO rs := by
  refine ⟨⟨?_, h3⟩, fun ps hp => ⟨(h8 ps hp).1, fun p hpp => (h8 ps hp).2.1 p hpp, (h8 ps hp).2.2⟩⟩
  cases rs with
  | nil => exact absurd hs nil_ink
  | cons r rs => simp
section
variable {P : Program} {w : World} {K : PySem.W.Frag} {mg : Str → Option Value} {base : Heap}
def spOne : Sp := fun vs H Q _ => ∃ (b tl : Addr) (xs : List V), vs = [.ref b, .ref tl] ∧ IsBag H b ∧ H tl = some (.lst xs) ∧ tl ≠ b ∧ 1 ≤ xs.length ∧ xs.length ≤ 1000 ∧ ∀ (i : Nat) v H', xs[i]? = some v → Bk b H H' → Q v H'
abbrev sL_one : Stmt := topS 36
theorem scL_one : FnScope ["_law_bag_here", "_law_things"] ["_law_bag_here", "_law_things"] (defScope sL_one) := ⟨rfl, rfl, rfl, by decide +kernel, rfl, by decide +kernel, by decide +kernel⟩
theorem ok_one {f : Addr} {fd : FuncData} (F : Fun K "_law_one" "_law_one" sL_one f fd) (T : Txt K mg) (C__law_draw : CallOk P w K mg base 1 "_law_draw" ["_law_bag_here", "_law_many"] spDraw) : FnOk P w K mg base CX0 2 f fd ["_law_bag_here", "_law_things"] spOne := by
  refine F.ok scL_one (fun vs H Q E h => ?_) (fun cdv A outer s H vs Q E hr h => ?_)
  · obtain ⟨b, tl, xs, rfl, _⟩ := h
    rfl
  · obtain ⟨b, tl, xs, rfl, hb, htl, nb, h1, h2, k⟩ := h
    refine ⟨_, (pss_one (ps_ret (pe_ix ix_list (pv 1) (pe_cc C__law_draw (hr.mono (by decide)) (by rfl) (pa_cons (pv 0) (pa_cons (pe_callB (r := rLenQ K) (id := "len") (call_lenQ (K := K) rfl) (by rfl) T.b_len PySem.boot_len (pa_cons (pv 1) pa_nil)) pa_nil))) (fun _ _ => rfl)))), ?_⟩
    refine ⟨_, rfl, _, rfl, _, rfl, tl, _, rfl, .inl (SqL.of htl), b, _, rfl, hb, by omega, Int.lt_of_le_of_lt (b := 1000) (by omega) (by decide), fun d H1 d0 d1 B1 => ?_⟩
    obtain ⟨d, rfl⟩ : ∃ n : Nat, d = (n : Int) := ⟨d.toNat, by omega⟩
    have hd : d < xs.length := by omega
    have e : xs[d]? = some xs[d] := List.getElem?_eq_getElem hd
    exact ⟨tl, _, _, _, rfl, rfl, SqL.of (B1.keep _ _ nb htl), atI_nat e, k d _ H1 e B1⟩
def spInked : Sp := fun vs H Q _ => ∃ (b : Addr), vs = [.ref b] ∧ IsBag H b ∧ ∀ (p : Addr) (H' : Hp) (xs : List V) (rs : List (List Pt)), H p = none → Bk b H H' → H' p = some (.lst xs) → AllAt RingL H' xs rs → GoodO rs → 0 < stp (wInk rs) → (∀ ps ∈ rs, Ring8 ps) → Q (.ref p) H'
abbrev sL_inked : Stmt := topS 42
theorem scL_inked : FnScope ["_law_bag_here", "_law_rings_here", "_law_left", "_law_top"] ["_law_bag_here"] (defScope sL_inked) := ⟨rfl, rfl, rfl, by decide +kernel, rfl, by decide +kernel, by decide +kernel⟩
theorem ok_inked {f : Addr} {fd : FuncData} (F : Fun K "_law_inked" "_law_inked" sL_inked f fd) (T : Txt K mg) (C__law_draw : CallOk P w K mg base 1 "_law_draw" ["_law_bag_here", "_law_many"] spDraw) (C__law_rings : CallOk P w K mg base 3 "_law_rings" ["_law_bag_here"] spLRings) (C__law_ink : CallOk P w K mg base 3 "_law_ink" ["_law_rings_here"] spLInk) : FnOk P w K mg base CX0 4 f fd ["_law_bag_here"] spInked := by
  refine F.ok scL_inked (fun vs H Q E h => ?_) (fun cdv A outer s H vs Q E hr h => ?_)
  · obtain ⟨b, rfl, _⟩ := h
    rfl
  · obtain ⟨b, rfl, hb, k⟩ := h
    refine ⟨_, (pss_cons (ps_set (i := 1) scL_inked.nd rfl (.inl rfl) (pe_cc C__law_rings (hr.mono (by decide)) (by rfl) (pa_cons (pv 0) pa_nil)))
      (pss_cons (ps_if (pt_cmpR op_in_sign pe_str (pe_join pe_str (pe_cc C__law_ink (hr.mono (by decide)) (by rfl) (pa_cons (pv 1) pa_nil))) (by rfl))
        (pss_one (ps_ret (pv 1)))
        pss_nil)
      (pss_cons (ps_par (i := 2) (j := 3) (by rfl) scL_inked.nd rfl rfl (by decide) rfl rfl (pa_cons (pe_cc C__law_draw (hr.mono (by decide)) (by rfl) (pa_cons (pv 0) (pa_cons pe_int pa_nil))) (pa_cons (pe_cc C__law_draw (hr.mono (by decide)) (by rfl) (pa_cons (pv 0) (pa_cons pe_int pa_nil))) pa_nil)) (by rfl))
      (pss_one (ps_ret (pe_lst (pa_cons (pe_lst (pa_cons (pe_tup (pa_cons (pv 2) (pa_cons (pv 3) pa_nil))) (pa_cons (pe_tup (pa_cons (pe_op op_add (pv 2) pe_int) (pa_cons (pv 3) pa_nil))) (pa_cons (pe_tup (pa_cons (pe_op op_add (pv 2) pe_int) (pa_cons (pe_op op_add (pv 3) pe_int) pa_nil))) (pa_cons (pe_tup (pa_cons (pv 2) (pa_cons (pe_op op_add (pv 3) pe_int) pa_nil))) pa_nil))))) pa_nil))))))), ?_⟩
    refine ⟨_, rfl, b, rfl, hb, fun p H1 xs rs hp B1 hx hall h3 h8 => ?_⟩
    have hash : ("#" : Str) = ⟨#[35]⟩ := by decide
    refine ⟨⟨_, rfl⟩, _, rfl, p, xs, rs, rfl, hx, hall.imp fun _ _ => RingL.at, good8 h3 h8, fun t H2 ht s2 hit => ?_⟩
    refine ⟨"", t, [(wInk rs 0).s, (wInk rs 1).s, (wInk rs 2).s, (wInk rs 3).s], rfl, rfl, .inr (SqT.of hit), by simp [row_len]; decide, ?_⟩
    refine ⟨35, _, congrArg V.str hash, rfl, _, rfl, ?_⟩
    have B2 : Bk b H H2 := B1.trans ⟨by obtain ⟨g, x, c, e⟩ := B1.bag; exact ⟨g, x, c, s2 _ _ e⟩, fun q o _ e => s2 _ _ e⟩
    by_cases hs : 0 < stp (wInk rs)
    · refine iteP (decide_eq_true ((inked_iff _).mpr hs)) ?_
      exact ⟨_, rfl, k p H2 xs rs hp B2 (s2 _ _ hx) (hall.mono fun _ _ => RingL.mono s2) (good_of h3 h8 hs) hs h8⟩
    · refine iteQ (fun z => hs ((inked_iff _).mp (of_decide_eq_true z))) ?_
      refine ⟨_, rfl, b, 4, rfl, B2.bag, by omega, by omega, fun l H3 l0 l1 B3 => ?_⟩
      refine ⟨_, rfl, b, 4, rfl, B3.bag, by omega, by omega, fun u H4 u0 u1 B4 => ⟨_, _, rfl, ?_⟩⟩
      obtain ⟨l, rfl⟩ : ∃ n : Nat, l = (n : Int) := ⟨l.toNat, by omega⟩
      obtain ⟨u, rfl⟩ : ∃ n : Nat, u = (n : Int) := ⟨u.toNat, by omega⟩
      let bx : Box := ⟨l, u, l + 1, u + 1⟩
      have hbx : bx.ok := ⟨Nat.lt_succ_self l, by show l + 1 ≤ 4; omega, Nat.lt_succ_self u, by show u + 1 ≤ 4; omega⟩
      have BH := (B2.trans B3).trans B4
      refine ⟨_, rfl, _, rfl, by show 2 ≤ sizeLine; decide, fun t1 h1 => ⟨_, rfl, _, _, rfl, rfl, _, rfl, by show 2 ≤ sizeLine; decide, fun t2 h2 => ⟨_, rfl, _, _, rfl, rfl, _, rfl, _, _, rfl, rfl, by show 2 ≤ sizeLine; decide, fun t3 h3 => ⟨_, rfl, _, rfl, _, _, rfl, rfl, by show 2 ≤ sizeLine; decide, fun t4 h4 => ⟨by show 4 ≤ sizeLine; decide, fun r hr5 => ⟨by show 1 ≤ sizeLine; decide, fun o ho => ?_⟩⟩⟩⟩⟩⟩
      have x2 : ((l + 1 : Nat) : Int) = (l : Int) + 1 := by omega
      have y2 : ((u + 1 : Nat) : Int) = (u : Int) + 1 := by omega
      obtain ⟨G1, g1⟩ : ∃ G, G = upd H4 t1 (.tup [.int (l : Int), .int (u : Int)]) := ⟨_, rfl⟩
      have h2 : G1 t2 = none := by rw [g1]; exact h2
      obtain ⟨G2, g2⟩ : ∃ G, G = upd G1 t2 (.tup [.int ((l : Int) + 1), .int (u : Int)]) := ⟨_, rfl⟩
      have h3 : G2 t3 = none := by rw [g2, g1]; exact h3
      obtain ⟨G3, g3⟩ : ∃ G, G = upd G2 t3 (.tup [.int ((l : Int) + 1), .int ((u : Int) + 1)]) := ⟨_, rfl⟩
      have h4 : G3 t4 = none := by rw [g3, g2, g1]; exact h4
      obtain ⟨G4, g4⟩ : ∃ G, G = upd G3 t4 (.tup [.int (l : Int), .int ((u : Int) + 1)]) := ⟨_, rfl⟩
      have hr5 : G4 r = none := by rw [g4, g3, g2, g1]; exact hr5
      obtain ⟨G5, g5⟩ : ∃ G, G = upd G4 r (.lst [V.ref t1, .ref t2, .ref t3, .ref t4]) := ⟨_, rfl⟩
      have ho : G5 o = none := by rw [g5, g4, g3, g2, g1]; exact ho
      obtain ⟨G6, g6⟩ : ∃ G, G = upd G5 o (.lst [V.ref r]) := ⟨_, rfl⟩
      have s1 : Same H4 G1 := by rw [g1]; exact same_new h1
      have s2 : Same G1 G2 := by rw [g2]; exact same_new h2
      have s3 : Same G2 G3 := by rw [g3]; exact same_new h3
      have s4 : Same G3 G4 := by rw [g4]; exact same_new h4
      have s5 : Same G4 G5 := by rw [g5]; exact same_new hr5
      have s6 : Same G5 G6 := by rw [g6]; exact same_new ho
      have e1 : G6 t1 = some (.tup [.int (l : Int), .int (u : Int)]) := s6 _ _ (s5 _ _ (s4 _ _ (s3 _ _ (s2 _ _ (by rw [g1]; exact upd_same)))))
      have e2 : G6 t2 = some (.tup [.int ((l : Int) + 1), .int (u : Int)]) := s6 _ _ (s5 _ _ (s4 _ _ (s3 _ _ (by rw [g2]; exact upd_same))))
      have e3 : G6 t3 = some (.tup [.int ((l : Int) + 1), .int ((u : Int) + 1)]) := s6 _ _ (s5 _ _ (s4 _ _ (by rw [g3]; exact upd_same)))
      have e4 : G6 t4 = some (.tup [.int (l : Int), .int ((u : Int) + 1)]) := s6 _ _ (s5 _ _ (by rw [g4]; exact upd_same))
      have e5 : G6 r = some (.lst [V.ref t1, .ref t2, .ref t3, .ref t4]) := s6 _ _ (by rw [g5]; exact upd_same)
      have e6 : G6 o = some (.lst [V.ref r]) := by rw [g6]; exact upd_same
      have sG : Same H4 G6 := ((((s1.trans s2).trans s3).trans s4).trans s5).trans s6
      have ring : RingL G6 (.ref r) bx.ring := by
        refine ⟨r, _, rfl, e5, ⟨t1, rfl, e1⟩, ⟨t2, rfl, ?_⟩, ⟨t3, rfl, ?_⟩, ⟨t4, rfl, ?_⟩, trivial⟩
        · show G6 t2 = some (.tup [.int ((l + 1 : Nat) : Int), .int (u : Int)])
          rw [x2]; exact e2
        · show G6 t3 = some (.tup [.int ((l + 1 : Nat) : Int), .int ((u + 1 : Nat) : Int)])
          rw [x2, y2]; exact e3
        · show G6 t4 = some (.tup [.int (l : Int), .int ((u + 1 : Nat) : Int)])
          rw [y2]; exact e4
      have hst : 0 < stp (wInk [bx.ring]) := by
        have e := box_step hbx
        unfold Box.ink at e
        rw [e]
        have := hbx.1
        omega
      have hgo := box_good hbx
      have s15 : Same H4 G5 := (((s1.trans s2).trans s3).trans s4).trans s5
      have key : Q (.ref o) G6 := k o G6 [.ref r] [bx.ring] (BH.free hb (s15.free ho)) (BH.trans ⟨by obtain ⟨g, x, c, e⟩ := BH.bag; exact ⟨g, x, c, sG _ _ e⟩, fun q o _ e => sG _ _ e⟩) e6 ⟨ring, trivial⟩ hgo hst fun ps h => ⟨(hgo.2 ps h).1, fun p hp => (hgo.2 ps h).2.1 p hp, (hgo.2 ps h).2.2⟩
      subst g6 g5 g4 g3 g2 g1
      exact key
end
end Pa
/-! rings put otherwise: what they wind stays; core Lean -/
namespace Win
theorem path_app (f : Pt → Pt → Int) (p : Pt) (b : List Pt) : ∀ a : List Pt, path f (a ++ p :: b) = path f (a ++ [p]) + path f (p :: b)
  | [] => by
    show path f (p :: b) = path f [p] + path f (p :: b)
    have : path f [p] = 0 := rfl
    omega
  | [q] => by
    show f q p + path f (p :: b) = f q p + path f [p] + path f (p :: b)
    have : path f [p] = 0 := rfl
    omega
  | q :: r :: a => by
    have ih := path_app f p b (r :: a)
    show f q r + path f (r :: a ++ p :: b) = f q r + path f (r :: a ++ [p]) + path f (p :: b)
    rw [ih]
    omega
theorem around_one (f : Pt → Pt → Int) (z : Pt) (l : List Pt) : around f (l ++ [z]) = around f (z :: l) := (path_turn f z l).symm
/-- another corner first -/
theorem around_rot (f : Pt → Pt → Int) : ∀ a b : List Pt, around f (b ++ a) = around f (a ++ b)
  | [], b => by rw [List.append_nil, List.nil_append]
  | z :: a, b => by
    have e : b ++ z :: a = (b ++ [z]) ++ a := by simp
    rw [e, around_rot f a (b ++ [z])]
    have e2 : a ++ (b ++ [z]) = (a ++ b) ++ [z] := by simp
    rw [e2, around_one]
    rfl
/-- cut in two along a line between two corners -/
theorem around_cut (f : Pt → Pt → Int) (hf : ∀ p q, f p q = - f q p) (a b c : List Pt) (p q : Pt) : around f (p :: b ++ [q]) + around f (q :: c ++ (a ++ [p])) = around f (a ++ p :: b ++ q :: c) := by
  have e1 : around f (p :: b ++ [q]) = path f (p :: b ++ [q]) + f q p := by
    show path f (p :: b ++ [q] ++ [p]) = _
    have : p :: b ++ [q] ++ [p] = p :: b ++ [q, p] := by simp
    rw [this, path_two]
  have e2 : around f (q :: c ++ (a ++ [p])) = path f (q :: c ++ (a ++ [p])) + f p q := by
    show path f (q :: c ++ (a ++ [p]) ++ [q]) = _
    have h1 : q :: c ++ (a ++ [p]) ++ [q] = (q :: c ++ a) ++ [p, q] := by simp
    have h2 : q :: c ++ (a ++ [p]) = (q :: c ++ a) ++ [p] := by simp
    rw [h1, h2, path_two]
  have e3 : around f (a ++ p :: b ++ q :: c) = path f (p :: b ++ [q]) + path f (q :: c ++ (a ++ [p])) := by
    have h1 : a ++ p :: b ++ q :: c = a ++ (p :: b ++ q :: c) := by simp
    rw [h1, ← around_rot f a (p :: b ++ q :: c)]
    show path f (p :: b ++ q :: c ++ a ++ [p]) = _
    have h2 : p :: b ++ q :: c ++ a ++ [p] = p :: b ++ q :: (c ++ a ++ [p]) := by simp
    rw [h2, path_app]
    simp
  rw [e1, e2, e3, hf p q]
  omega
/-- one corner more, where the two new sides count what the old one counts -/
theorem around_more (f : Pt → Pt → Int) (a b : List Pt) (p m q : Pt) (r : List Pt) (hq : b ++ a ++ [p] = q :: r) (h : f p m + f m q = f p q) : around f (a ++ p :: m :: b) = around f (a ++ p :: b) := by
  rw [← around_rot f a (p :: m :: b), ← around_rot f a (p :: b)]
  show path f (p :: m :: b ++ a ++ [p]) = path f (p :: b ++ a ++ [p])
  have e1 : p :: m :: b ++ a ++ [p] = p :: m :: (b ++ a ++ [p]) := by simp
  have e2 : p :: b ++ a ++ [p] = p :: (b ++ a ++ [p]) := by simp
  rw [e1, e2, hq]
  show f p m + (f m q + path f (q :: r)) = f p q + path f (q :: r)
  omega
/-- there and back -/
theorem around_spike (f : Pt → Pt → Int) (hf : ∀ p q, f p q = - f q p) (a b : List Pt) (p m : Pt) : around f (a ++ p :: m :: p :: b) = around f (a ++ p :: b) := by
  rw [← around_rot f a (p :: m :: p :: b), ← around_rot f a (p :: b)]
  show path f (p :: m :: p :: b ++ a ++ [p]) = path f (p :: b ++ a ++ [p])
  show f p m + (f m p + path f (p :: b ++ a ++ [p])) = path f (p :: b ++ a ++ [p])
  rw [hf p m]
  omega
/-! ### corners on one line -/
def onLine (p m q : Pt) : Prop := (q.1 - p.1) * (m.2 - p.2) = (q.2 - p.2) * (m.1 - p.1)
theorem ff_line {x y : Int} {p m q : Pt} (h : onLine p m q) : ff x y p m + ff x y m q + ff x y q p = 0 := by
  unfold onLine at h
  unfold ff
  grind
theorem tri_line {x y : Int} {p m q : Pt} (h : onLine p m q) : tri x y p m q = 0 := by
  have e := ff_line (x := x) (y := y) h
  unfold tri
  split
  · rename_i k
    obtain ⟨k1, k2⟩ := k
    rcases turn_cases x y p m with ⟨t1, p1, z1⟩ | ⟨t1, p1, z1⟩ | t1
    · rw [t1] at k1 k2
      rcases turn_cases x y m q with ⟨t2, p2, z2⟩ | ⟨t2, _, _⟩ | t2
      · rcases turn_cases x y q p with ⟨t3, p3, z3⟩ | ⟨t3, _, _⟩ | t3
        · have := z1 (by omega)
          have := z2 (by omega)
          have := z3 (by omega)
          omega
        · omega
        · omega
      · omega
      · omega
    · rw [t1] at k1 k2
      rcases turn_cases x y m q with ⟨t2, _, _⟩ | ⟨t2, p2, z2⟩ | t2
      · omega
      · rcases turn_cases x y q p with ⟨t3, _, _⟩ | ⟨t3, p3, z3⟩ | t3
        · omega
        · have := z1 (by omega)
          have := z2 (by omega)
          have := z3 (by omega)
          omega
        · omega
      · omega
    · exact t1
  · rfl
theorem cnt_line {x y : Int} {p m q : Pt} (h : onLine p m q) : cnt x y p m + cnt x y m q = cnt x y p q := by
  have e := sum_tri x y p m q
  rw [tri_line h] at e
  have a := cnt_anti x y p q
  omega
/-! ### what a ring winds -/
theorem fan_rot (x y : Int) (a b : List Pt) : fan x y (b ++ a) = fan x y (a ++ b) := by
  rw [← fan_around, ← fan_around, around_rot]
theorem fan_rev (x y : Int) (l : List Pt) : fan x y l.reverse = - fan x y l := by
  rw [← fan_around, ← fan_around, around_rev _ (cnt_anti x y)]
theorem fan_cut (x y : Int) (a b c : List Pt) (p q : Pt) : fan x y (p :: b ++ [q]) + fan x y (q :: c ++ (a ++ [p])) = fan x y (a ++ p :: b ++ q :: c) := by
  rw [← fan_around, ← fan_around, ← fan_around, around_cut _ (cnt_anti x y)]
theorem fan_spike (x y : Int) (a b : List Pt) (p m : Pt) : fan x y (a ++ p :: m :: p :: b) = fan x y (a ++ p :: b) := by
  rw [← fan_around, ← fan_around, around_spike _ (cnt_anti x y)]
theorem fan_more (x y : Int) (a b : List Pt) (p m q : Pt) (r : List Pt) (hq : b ++ a ++ [p] = q :: r) (h : onLine p m q) : fan x y (a ++ p :: m :: b) = fan x y (a ++ p :: b) := by
  rw [← fan_around, ← fan_around, around_more _ a b p m q r hq (cnt_line h)]
end Win
set_option maxRecDepth 100000
set_option maxHeartbeats 4000000
namespace Pa
open PySem PySem.Spec PyProof.Rows L2
/-! ### dicts whose values are data, compared -/
/-- each key of ks is a key of ls; r: all their values are equal -/
inductive HitsD (K : PySem.W.Frag) (H : Hp) (ls : List (Key × V)) : List (Key × V) → Bool → Prop
  | nil : HitsD K H ls [] true
  | hit {p : Key × V} {ps : List (Key × V)} {u : V} {d e : PyData} {b : Bool} : valV ls p.1 = some u → Dp K H p.2 d → Dp K H u e → SeqAt.shaped d = true → SeqAt.shaped e = true → HitsD K H ls ps b → HitsD K H ls (p :: ps) (PyData.eqv d e && b)
theorem hitsD_run {X : Cx} {pins : List (Addr × Obj)} {σ : L2.St} {H : Hp} {s : Shared} (I : Inv X pins σ H s) {A : Around} (hu : A.units + 64 < cLine) {ls ks : List (Key × V)} {vb : List (Key × Value)} {r : Bool} (rb : KV ls vb) (h : HitsD X.K H ls ks r) : ∀ {va : List (Key × Value)}, KV ks va → PySem.W.KeqHits A s vb va r := by
  induction h with
  | nil =>
    intro va ra
    unfold KV at ra
    cases ra
    exact .nil
  | @hit p ps u d e b h1 h2 h3 h4 h5 _ ih =>
    intro va ra
    unfold KV at ra
    cases ra with
    | @cons _ q _ qs h t =>
      obtain ⟨g1, g2⟩ := h
      have rr : RelO (some u) (valueAt vb p.1) := by rw [← h1]; exact rb.val p.1
      obtain ⟨y, hy, ry⟩ := rr.some_of
      obtain ⟨k, v⟩ := q
      have g1' : p.1 = k := g1
      rw [g1'] at hy
      obtain ⟨as, r1⟩ := Dp.reads I d p.2 v h2 g2
      obtain ⟨bs, r2⟩ := Dp.reads I e u y h3 ry
      exact .hit hy (SeqAt.eqAt_reads d e A s v y as bs r1 r2 (SeqAt.canLay_of_shaped h4) (SeqAt.canLay_of_shaped h5) (SeqAt.room_of_shaped h4 hu)) (ih t)
def rEqKD (K : PySem.W.Frag) : R2 := fun x y H Q => ∃ a b ks ls r, x = .ref a ∧ y = .ref b ∧ H a = some (.dK ks) ∧ H b = some (.dK ls) ∧ (ks.length = ls.length → HitsD K H ls ks r) ∧ Q (.bl (ks.length == ls.length && r)) H
theorem op_eqKD {X : Cx} (hu : X.A.units + 65 < cLine) : OpR X (compareOp .Eq) (rEqKD X.K) := by
  intro pins s σ H x y v u Q I rx ry h
  obtain ⟨a, b, ks, ls, r, rfl, rfl, ea, eb, hp, q⟩ := h
  obtain rfl : v = Value.ref a := rx
  obtain rfl : u = Value.ref b := ry
  obtain ⟨_, ya, va, ra, da⟩ := (show ObjOk X.prog X.w H s.heap a (.dK ks) from I.hok a _ ea)
  obtain ⟨_, yb, vb, rb, db⟩ := (show ObjOk X.prog X.w H s.heap b (.dK ls) from I.hok b _ eb)
  have l1 : ks.length = va.length := ra.length
  have l2 : ls.length = vb.length := rb.length
  refine PySem.W.keq_eq (knd := mixKind X.prog X.w) (r := r) ya yb da db (by omega) (fun e => hitsD_run I (A := X.A.in1) (by show X.A.units + 1 + 64 < cLine; omega) rb (hp (by omega)) ra) ?_
  rw [← l1, ← l2]
  exact ⟨.bl _, H, I, rfl, q⟩
end Pa
set_option maxRecDepth 100000
set_option maxHeartbeats 4000000
/-! own == and != with any answer -/
namespace PkNe
open PySem PySem.Spec PyProof.Rows PySem.SeqAt
section
variable {M : Model} {prog : Program} {w : World} {A : Around} {E : Value → Shared → Prop} {s : Shared} {K : PySem.W.Frag} {x C f : Addr} {ox : Obj} {od : Option Obj} {y : Value}
theorem entry_ne {Q : Fin → Shared → Prop} (hu : A.units < cLine) (X : K.In s.heap) (I : PySem.W.InstAt s.heap x ox C od) (hs : PySem.W.findIn K (.ref C) "__eq__" = some (some (.ref f))) (hf : PySem.W.isFn K (.ref f) = true)
    (hcall : wpAny (model prog w) A (call (.ref f) [.ref x, y]) (fun v s' => ∃ b, v = .bool b ∧ Q (.done (.ret (.bool (!b)))) s') E s) :
    wpAny (model prog w) A (Builtin.«object.__ne__» ⟨[.ref x, y], []⟩) Q E s := by
  unfold Builtin.«object.__ne__»
  repeat (first
    | with_reducible refine wpAny_cRoomFor hu ?_
    | (refine wpAny_bind (m := callSpecialIfBound? (.ref x) (Str.ofString "__eq__") [y])
        (PySem.W.ifBound_K X I hs hf (wpAny_mono hcall (fun r s' hr => by
          obtain ⟨b, rfl, hq⟩ := hr
          repeat (first | exact hq | exact wpAny_pure hq | exact wpAny_truthy_bool hq | (refine wpAny_bind (m := truthy (.bool _)) (wpAny_truthy_bool ?_)) | wp_step)) fun _ _ e => e)))
    | wp_step)
theorem ifBound_objNe {args : List Value} {Q : Option Value → Shared → Prop} (X : K.In s.heap) (I : PySem.W.InstAt s.heap x ox C od) (hs : PySem.W.findIn K (.ref C) "__ne__" = some (some (.builtin "object.__ne__")))
    (h : wpAny M A (call (.builtin "object.__ne__") (.ref x :: args)) (fun v => Q (some v)) E s) : wpAny M A (callSpecialIfBound? (.ref x) "__ne__" args) Q E s := by
  simp only [callSpecialIfBound?, bindSpecialIfBound?]
  refine wpAny_holding (wpAny_bind (wpAny_bind (wpAny_bind (I.type.here ((PySem.W.looks_findIn X hs).here ?_)))))
  refine wpAny_bind (wpAny_askSetting (wpAny_ite ?_))
  have fin : wpAny M A (call (.builtin "object.__ne__") ([.ref x] ++ args) >>= fun v => pure (some v)) Q E s := wpAny_bind (wpAny_mono h (fun v s' h' => wpAny_pure h') fun _ _ h' => h')
  split
  · exact wpAny_bind (wpAny_of_eq (F.cmp_object.ne.bind _) (wpAny_pure (by exact fin)))
  · exact wpAny_tryCatch (wpAny_bind (wpAny_of_eq (F.cmp_object.ne.bind _) (wpAny_pure (by exact fin))))
theorem call_objNe {Q : Value → Shared → Prop} (hu : A.units + 1 < cLine) (X : K.In s.heap) (I : PySem.W.InstAt s.heap x ox C od) (hm : PySem.W.mroIn K C (.type "object") = some true) (hs : PySem.W.findIn K (.ref C) "__eq__" = some (some (.ref f))) (hf : PySem.W.isFn K (.ref f) = true)
    (hcall : wpAny (model prog w) A.in1 (call (.ref f) [.ref x, y]) (fun v s' => ∃ b, v = .bool b ∧ Q (.bool (!b)) s') E s) :
    wpAny (model prog w) A (call (.builtin "object.__ne__") [.ref x, y]) Q E s :=
  wpAny_call (codeAny_call_builtin F.cmp_object.ne.plain F.cmpEntry_ne (PySem.W.check_slot F.cmpKind_ne F.cmpSplit_ne (I.type.andThen (PySem.W.looks_mroIn X hm)) (F.cmpArgs_ne _ _)
    (entry_ne (A := A.in1) hu X I hs hf (wpAny_mono hcall (fun v s' hv => by
      obtain ⟨b, rfl, hq⟩ := hv
      first | exact ⟨b, rfl, wpAny_pure hq⟩ | exact ⟨b, rfl, hq⟩) fun _ _ e => e))))
/-- x != y by the own == of x's class -/
theorem rc_ne {tb : Value} {Q : Value → Shared → Prop} (hu : A.units + 1 < cLine) (X : K.In s.heap) (I : PySem.W.InstAt s.heap x ox C od) (hb : PySem.W.Looks (model prog w) s.heap (typeOf y) tb) (hn : PySem.W.notFirst K C tb = true) (hm : PySem.W.mroIn K C (.type "object") = some true)
    (h2 : PySem.W.findIn K (.ref C) "__ne__" = some (some (.builtin "object.__ne__"))) (hs : PySem.W.findIn K (.ref C) "__eq__" = some (some (.ref f))) (hf : PySem.W.isFn K (.ref f) = true)
    (hcall : wpAny (model prog w) A.in1 (call (.ref f) [.ref x, y]) (fun v s' => ∃ b, v = .bool b ∧ Q (.bool (!b)) s') E s) : wpAny (model prog w) A (richCompare .NotEq (.ref x) y) Q E s := by
  have one : wpAny (model prog w) A (tryCompare (.ref x) (cmpInfo .NotEq).2.1 y) (fun r s' => ∃ v, r = some v ∧ Q v s') E s := by
    unfold tryCompare
    refine wpAny_bind (ifBound_objNe X I h2 (call_objNe hu X I hm hs hf (wpAny_mono hcall (fun v s' hv => ?_) fun _ _ e => e)))
    obtain ⟨b, rfl, hq⟩ := hv
    exact ⟨b, rfl, wpAny_pure ⟨_, rfl, hq⟩⟩
  unfold richCompare
  simp only [oneThing_ref]
  refine wpAny_holding (wpAny_bind (wpAny_cRoomFor (Nat.lt_of_succ_lt hu) ?_))
  refine wpAny_bind (I.type.here (wpAny_bind (hb.here ?_)))
  have tail : wpAny (model prog w) A (tryCompare (.ref x) (cmpInfo .NotEq).2.1 y) (fun r s' => ∃ v, r = some v ∧ Q v s') E s := one
  split
  · rename_i q
    have e : PySem.W.subIn K tb (.ref C) = some false := by
      rcases Bool.or_eq_true_iff.mp hn with e | e
      · rw [beq_iff_eq.mp e] at q; simp at q
      · exact beq_iff_eq.mp e
    refine wpAny_bind ((PySem.W.looks_subIn X e).here ?_)
    simp only [Bool.false_eq_true, if_false]
    refine wpAny_bind (wpAny_mono tail (fun r s1 z => ?_) fun _ _ e => e)
    obtain ⟨v, rfl, hq⟩ := z
    first | exact wpAny_pure hq | exact wpAny_pure (wpAny_pure hq)
  · refine wpAny_bind (wpAny_pure ?_)
    simp only [Bool.false_eq_true, if_false]
    refine wpAny_bind (wpAny_mono tail (fun r s1 z => ?_) fun _ _ e => e)
    obtain ⟨v, rfl, hq⟩ := z
    first | exact wpAny_pure hq | exact wpAny_pure (wpAny_pure hq)
end
end PkNe
set_option maxRecDepth 100000
set_option maxHeartbeats 4000000
namespace Pa
open PySem PySem.Spec PyProof.Rows L2
/-- the own == of the class at C, by its def f -/
structure EqO (K : PySem.W.Frag) (C f : Addr) : Prop where
  eq : PySem.W.findIn K (.ref C) "__eq__" = some (some (.ref f))
  ne : PySem.W.findIn K (.ref C) "__ne__" = some (some (.builtin "object.__ne__"))
  fn : PySem.W.isFn K (.ref f) = true
  mro : PySem.W.mroIn K C (.type "object") = some true
/-- own ==, any answer, any right side -/
def rEqO (K : PySem.W.Frag) (C : Addr) (sp : Sp) (E : XK) (z : Bool) : R2 := fun x y H Q => ∃ a dx fs tb, x = .ref a ∧ H a = some (.ins C dx fs) ∧ TyX K H y tb ∧ PySem.W.notFirst K C tb = true ∧ sp [.ref a, y] H (fun v H' => ∃ b, v = .bl b ∧ Q (.bl (z != b)) H') E
section
variable {X : Cx} {CX : CXT} {n : Nat} {C f : Addr} {fd : FuncData} {ps : List Str} {sp : Sp} {E : XK}
theorem run_own {pins : List (Addr × Obj)} {σ : L2.St} {H : Hp} {s : Shared} {a : Addr} {y : V} {u : Value} {A : Around} {R : Value → Shared → Prop} {Q : VK} (F : FnOk X.prog X.w X.K X.mg X.base CX n f fd ps sp) (hb : Binds X.K fd ps []) (hx : Passes CX X E) (hA : A.frames = X.A.frames) (hr : Room n A) (I : Inv X pins σ H s) (ry : RelV y u)
    (hsp : sp [.ref a, y] H Q E) (hR : ∀ v H' w s', Inv X pins σ H' s' → RelV v w → Q v H' → R w s') : wpAny (model X.prog X.w) A (call (.ref f) [.ref a, u]) R X.xe s := by
  have e0 : Env0 X.prog X.w X.K X.mg X.base A X.stack s H := by
    have e := I.env0
    exact ⟨by rw [hA]; exact e.frames, e.mod, e.bs, e.bsz, e.funs, e.frf, e.hok, e.bare⟩
  have hl := F.len _ _ _ _ hsp
  have r2 : Vals [V.ref a, y] [Value.ref a, u] := .cons rfl (.cons ry .nil)
  refine wpAny_call (codeAny_mono (F.run A X.stack s H ⟨[.ref a, u], []⟩ [.ref a, u] [.ref a, y] _ E hr e0 (by
    have := hb s [.ref a, u] I.kIn (by simpa using hl)
    simpa using this) r2 hsp) fun r s' hq => ?_)
  cases r with
  | error e => exact hx pins σ H s e s' I hq
  | ok fl =>
    cases fl with
    | ret w =>
      obtain ⟨z, H', I', rz, q⟩ := I.after hq
      exact hR z H' w s' I' rz q
    | next => exact False.elim hq
    | brk => exact False.elim hq
    | cont => exact False.elim hq
theorem op_eqO (F : FnOk X.prog X.w X.K X.mg X.base CX n f fd ps sp) (hb : Binds X.K fd ps []) (hx : Passes CX X E) (hr : Room n X.A) (e : EqO X.K C f) : OpR X (compareOp .Eq) (rEqO X.K C sp E false) := by
  intro pins s σ H x y v u Q I rx ry h
  obtain ⟨a, dx, fs, tb, rfl, ha, ty, hn, hsp⟩ := h
  obtain rfl : v = Value.ref a := rx
  obtain ⟨mA, J, _⟩ := ins_get I.hok ha
  obtain ⟨od, J, _⟩ := J.look
  obtain ⟨P, Z, p, _⟩ := kit_of I ry ty
  obtain ⟨m, hF⟩ := I.fr
  show wpAny (model X.prog X.w) X.A (richCompare .Eq (.ref a) u) (EP X pins σ Q) X.xe s
  refine PySem.W.cmp_K (op := .Eq) (tb := tb) hr.units0 hF I.ok.mod.kin J (Z.ty _ _ I.kIn p) hn e.eq e.fn ?_
  refine run_own F hb hx rfl hr I ry hsp fun z H' w s' I' rz q => ?_
  obtain ⟨b, rfl, q⟩ := q
  obtain rfl : w = Value.bool b := rz
  have q2 : Q (.bl b) H' := by
    cases b <;> exact q
  exact ⟨.bl b, H', I', rfl, q2⟩
theorem op_neO (F : FnOk X.prog X.w X.K X.mg X.base CX n f fd ps sp) (hb : Binds X.K fd ps []) (hx : Passes CX X E) (hr : Room (n + 1) X.A) (e : EqO X.K C f) : OpR X (compareOp .NotEq) (rEqO X.K C sp E true) := by
  intro pins s σ H x y v u Q I rx ry h
  obtain ⟨a, dx, fs, tb, rfl, ha, ty, hn, hsp⟩ := h
  obtain rfl : v = Value.ref a := rx
  obtain ⟨mA, J, _⟩ := ins_get I.hok ha
  obtain ⟨od, J, _⟩ := J.look
  obtain ⟨P, Z, p, _⟩ := kit_of I ry ty
  show wpAny (model X.prog X.w) X.A (richCompare .NotEq (.ref a) u) (EP X pins σ Q) X.xe s
  refine PkNe.rc_ne (tb := tb) (by have := hr.in1.units0; exact Nat.lt_of_le_of_lt (Nat.le_refl _) this) I.kIn J (Z.ty _ _ I.kIn p) hn e.mro e.ne e.eq e.fn ?_
  refine run_own F hb hx rfl hr.in1 I ry hsp fun z H' w s' I' rz q => ?_
  obtain ⟨b, rfl, q⟩ := q
  obtain rfl : w = Value.bool b := rz
  have q2 : Q (.bl (!b)) H' := by
    cases b <;> exact q
  exact ⟨b, rfl, .bl (!b), H', I', rfl, q2⟩
end
end Pa
set_option maxRecDepth 100000
set_option maxHeartbeats 4000000
namespace Pa
open PySem PySem.Spec PyProof.Rows L2 Win
/-! ### faces compared -/
structure TxE (K : PySem.W.Frag) (mg : Str → Option Value) (C : Addr) : Prop where
  g : mg "Face" = some (.ref C)
  ha : PySem.W.findIn K (.ref C) "__class__" = some (some (.builtin "object.__class__"))
  hn : PySem.W.specialIn K (.builtin "object.__class__") "__get__" = some (some (.builtin "getset_descriptor.__get__"))
  htk : PySem.W.takesIn K (.builtin "object.__class__") = some true
  hm : PySem.W.mroIn K C (.type "object") = some true
  kc : PySem.W.kitOne K (.ref C) (.ref C) = some true
def inkE (a b : I4) : Bool := PyData.eqv (inkD a) (inkD b)
def inksE : List I4 → List I4 → Bool
  | a :: as, b :: bs => inkE a b && inksE as bs
  | [], [] => true
  | _, _ => false
theorem hitsD_inks {K : PySem.W.Frag} {H : Hp} {ik ik' : List (Key × V)} {ks' : List I4} (h' : KvI H ik' ks') : ∀ (n : Nat) (js : List I4) (jk : List (Key × V)), (∀ (j : Nat) y, js[j]? = some y → ∃ v, jk[j]? = some (.inr (letS (n + j)), v) ∧ InkAt H v y) → jk.length = js.length → n + js.length = ks'.length → HitsD K H ik' jk (inksE js (ks'.drop n))
  | n, [], [], _, _, hn => by
    rw [List.drop_of_length_le (by simpa using Nat.le_of_eq hn.symm)]
    exact .nil
  | n, y :: js, p :: jk, h, hl, hn => by
    obtain ⟨v, e, hi⟩ := h 0 y rfl
    have e : p = (.inr (letS n), v) := by simpa using e
    have hlt : n < ks'.length := by rw [List.length_cons] at hn; omega
    have ed : ks'.drop n = ks'[n] :: ks'.drop (n + 1) := List.drop_eq_getElem_cons hlt
    obtain ⟨u, q, hu⟩ := h'.val (List.getElem?_eq_getElem hlt)
    subst e
    rw [ed]
    obtain ⟨t, rfl, ht⟩ := hi
    obtain ⟨t', rfl, ht'⟩ := hu
    exact .hit q (dp_ink ht) (dp_ink ht') (inkD_shaped _) (inkD_shaped _) (hitsD_inks (ik := ik) h' (n + 1) js jk (fun j z hz => by
      obtain ⟨v2, e2, h2⟩ := h (j + 1) z (by simpa using hz)
      exact ⟨v2, by rw [show n + 1 + j = n + (j + 1) by omega]; simpa using e2, h2⟩) (by simpa using hl) (by rw [List.length_cons] at hn; omega))
  | n, [], _ :: _, _, hl, _ => by simp at hl
  | n, _ :: _, [], _, hl, _ => by simp at hl
def sameF (ap : Int) (ks : List I4) (ap' : Int) (ks' : List I4) : Bool := decide (ap = ap') && (ks.length == ks'.length && inksE ks ks')
section
variable {P : Program} {w : World} {K : PySem.W.Frag} {mg : Str → Option Value} {base : Heap} {C : Addr}
def spEqF (K : PySem.W.Frag) (C : Addr) : Sp := fun vs H Q _ => ∃ (x : Addr) (y : V) (ap : Int) (ks : List I4), vs = [.ref x, y] ∧ FaceAt C H x ap ks ∧
  ((∃ (x' : Addr) (ap' : Int) (ks' : List I4), y = .ref x' ∧ FaceAt C H x' ap' ks' ∧ Q (.bl (sameF ap ks ap' ks')) H) ∨ ∃ tb, TyX K H y tb ∧ PySem.W.kitOne K tb (.ref C) = some false ∧ Q (.bl false) H)
abbrev sFace___eq__ : Stmt := inClass (topS 29) 8
theorem scFace___eq__ : FnScope ["self", "other"] ["self", "other"] (defScope sFace___eq__) := ⟨rfl, rfl, rfl, by decide +kernel, rfl, by decide +kernel, by decide +kernel⟩
theorem ok_eqF {f : Addr} {fd : FuncData} (F : Fun K "__eq__" "Face.__eq__" sFace___eq__ f fd) (T : Txt K mg) (TF : TxF K mg C) (TE : TxE K mg C) : FnOk P w K mg base CX0 1 f fd ["self", "other"] (spEqF K C) := by
  refine F.ok scFace___eq__ (fun vs H Q E h => ?_) (fun cdv A outer s H vs Q E hr h => ?_)
  · obtain ⟨x, y, ap, ks, rfl, _⟩ := h
    rfl
  · obtain ⟨x, y, ap, ks, rfl, hf, k⟩ := h
    refine ⟨_, (pss_one (ps_ret (pe_and (pe_callB call_isi (by rfl) T.b_isinstance (by decide +kernel) (pa_cons (pv 1) (pa_cons (pe_glob (v := .ref C) (by rfl) TE.g rfl) pa_nil))) (pe_and (pe_cmpR op_eq (pe_fld (pv 0) rfl) (pe_fld (pv 1) rfl) (nomark _)) (pe_one (pe_cmpR (op_eqKD (by have := hr.un; show A.units + 3 + 65 < cLine; have h2 : (A.deeper (envOfC (Str.ofString "Face.__eq__") (defScope sFace___eq__) s.heap.objs.size f cdv)).units = A.units + 3 := rfl; omega)) (pe_fld (pv 0) rfl) (pe_fld (pv 1) rfl) (nomark _))))))), ?_⟩
    obtain ⟨dx, di, df, ik, fk, h1, h2, h3, hI, hF⟩ := id hf
    rcases k with ⟨x', ap', ks', rfl, hf', k⟩ | ⟨tb, ht, hk, k⟩
    · obtain ⟨dx', di', df', ik', fk', h1', h2', h3', hI', hF'⟩ := id hf'
      refine ⟨_, rfl, _, _, _, _, _, rfl, .own C, .base (.ins h1' TF.cl TE.ha TE.hn TE.htk TE.hm), TE.kc, _, rfl, iteT ?_⟩
      refine ⟨_, rfl, x, C, dx, _, _, rfl, h1, TF.cl, TF.nA, rfl, _, rfl, x', C, dx', _, _, rfl, h1', TF.cl, TF.nA, rfl, rfl, _, rfl, ?_⟩
      unfold sameF at k
      by_cases ea : ap = ap'
      · rw [decide_eq_true ea, Bool.true_and] at k
        rw [decide_eq_true (congrArg V.int ea)]
        refine iteT ?_
        refine ⟨_, rfl, x, C, dx, _, _, rfl, h1, TF.cl, TF.nI, rfl, _, rfl, x', C, dx', _, _, rfl, h1', TF.cl, TF.nI, rfl, _, _, ik, ik', inksE ks ks', rfl, rfl, h2, h2', fun e => ?_, ?_⟩
        · exact hitsD_inks (ik := ik) hI' 0 ks ik (fun j y hy => by rw [Nat.zero_add]; exact hI.2 j y hy) hI.1 (by rw [Nat.zero_add, ← hI.1, ← hI'.1]; exact e)
        · rw [hI.1, hI'.1]
          exact k
      · rw [decide_eq_false ea, Bool.false_and] at k
        rw [decide_eq_false (fun z => ea (V.int.inj z) : ¬ V.int ap = V.int ap')]
        exact iteF k
    · exact ⟨_, rfl, _, _, _, _, _, rfl, .own C, ht, hk, _, rfl, iteF k⟩
end
end Pa
set_option maxRecDepth 100000
set_option maxHeartbeats 4000000
namespace Pa
open PySem PySem.Spec PyProof.Rows L2 Win
/-- items one by one, over any walk -/
theorem lc_collW {α : Type} {R : Hp → V → α → Prop} {J : It} {G : Hp → Prop} {Y : Nat → Hp → V → Hp → Prop} {n : Nat} (w : Walk J n G Y) {ys : List α} {g : TG} {vs : List Nat} {te : TE} {σ : L2.St} {H1 : Hp} {D : Addr} {Qd : Hp → Prop} (hR : ∀ {H H' : Hp} {v : V} {y : α}, Same H H' → R H v y → R H' v y)
    (hG : ∀ H', Same H1 H' → G H') (hY : ∀ i H v H', Y i H v H' → Same H H') (hD : H1 D = none) (hl : n = ys.length) (hz : ys.length ≤ 1000)
    (el : ∀ (i : Nat) x y (H2 H3 : Hp) (Q : VK), Y i H2 x H3 → ys[i]? = some y → Same H1 H2 → (∃ ls, H2 D = some (.lst ls)) → (∀ u H4, Same H3 H4 → R (hide D H4) u y → Q u H4) → g x (wipe σ vs) H3 fun σ2 H2 => wipe σ2 vs = wipe σ vs ∧ te σ2 H2 Q)
    (hg : ∀ x σ H (P P' : L2.St → Hp → Prop), (∀ σ2 H2, P σ2 H2 → P' σ2 H2) → g x σ H P → g x σ H P')
    (hd : ∀ ls H', H' D = some (.lst ls) → AllAt R H' ls ys → Same H1 H' → Qd H') :
    ∃ W : Nat → Nat → Hp → Prop, (∃ m, W 0 m (upd H1 D (.lst []))) ∧ ∀ i m H, W i m H →
      (J.stop i H ∧ Qd H) ∨ (J.go i H ∧ ∃ Nx : Hp → Prop, (∀ H', Nx H' → ∃ m', m' < m ∧ W (i + 1) m' H') ∧ ∀ x H', J.yld i H x H' → g x (wipe σ vs) H' fun σ2 H2 => wipe σ2 vs = wipe σ vs ∧ tYes σ2 H2 fun b H3 =>
        if b = true then te σ2 H3 fun y H4 => ∃ acc, H4 D = some (.lst acc) ∧ acc.length < sizeLine ∧ Nx (upd H4 D (.lst (acc ++ [y]))) else Nx H3) := by
  refine lc_it w (fun i H3 => ∃ ls, H3 D = some (.lst ls) ∧ AllAt R (hide D H3) ls (ys.take i) ∧ Same H1 (hide D H3)) ⟨[], upd_same, by rw [List.take_zero]; trivial, hide_keep (same_new hD) hD⟩
    (fun i H3 _ ⟨_, _, _, s3⟩ => hG H3 fun b u e => hide_sub D H3 _ _ (s3 b u e)) ?_ ?_
  · rintro i x H3 H3' hi ⟨ls, hls, hall, s3⟩ hy'
    have hi2 : i < ys.length := by omega
    obtain ⟨y, hy⟩ : ∃ y, ys[i]? = some y := ⟨_, List.getElem?_eq_getElem hi2⟩
    have s31 : Same H1 H3 := fun b u e => hide_sub D H3 _ _ (s3 b u e)
    have s33 := hY _ _ _ _ hy'
    refine hg _ _ _ _ _ (fun σ2 H2 z => z) (el i x y H3 H3' _ hy' hy s31 ⟨ls, hls⟩ fun u H4 s4 hr => ?_)
    have s34 := s33.trans s4
    refine ⟨ls, s34 _ _ hls, Nat.lt_of_le_of_lt (m := 1000) (by rw [hall.len, List.length_take]; omega) (by decide), ls ++ [u], upd_same, ?_, ?_⟩
    · rw [hide_putD, List.take_add_one, hy]
      exact AllAt.snoc (hall.mono fun _ _ => hR (hide_mono s34)) hr
    · rw [hide_putD]
      exact s3.trans (hide_mono s34)
  · rintro H3 ⟨ls, hls, hall, s3⟩
    rw [hl, List.take_of_length_le (Nat.le_refl _)] at hall
    exact hd ls H3 hls (hall.mono fun _ _ => hR (hide_sub D H3)) fun b u e => hide_sub D H3 _ _ (s3 b u e)
theorem op_eqDQ {X : Cx} {K : PySem.W.Frag} (h : X.K = K) (hu : X.A.units + 64 < cLine) : OpR X (compareOp .Eq) (rEqD K) := by
  subst h
  exact op_eqD hu

theorem lets_get {n i : Nat} (hn : n ≤ 4) (hi : i < n) : (lettersOf n).cps[i]? = some (97 + i) := by
  have h : ((List.range 5).all fun n => (List.range n).all fun i => decide ((lettersOf n).cps[i]? = some (97 + i))) = true := by decide +kernel
  exact of_decide_eq_true (List.all_eq_true.mp (List.all_eq_true.mp h n (List.mem_range.mpr (by omega))) i (List.mem_range.mpr hi))
theorem lets_size {n : Nat} (hn : n ≤ 4) : (lettersOf n).cps.size = n := by
  have h : ((List.range 5).all fun n => decide ((lettersOf n).cps.size = n)) = true := by decide +kernel
  exact of_decide_eq_true (List.all_eq_true.mp h n (List.mem_range.mpr (by omega)))
theorem lets_in {m i : Nat} (hm : m ≤ 4) (hi : i < 4) : decide (97 + i ∈ (lettersOf m).cps.toList) = decide (i < m) := by
  have h : ((List.range 5).all fun m => (List.range 4).all fun i => decide (97 + i ∈ (lettersOf m).cps.toList) == decide (i < m)) = true := by decide +kernel
  exact eq_of_beq (List.all_eq_true.mp (List.all_eq_true.mp h m (List.mem_range.mpr (by omega))) i (List.mem_range.mpr hi))
/-- does the i-th letter's ink stand in the other face -/
def atF (ks ks' : List I4) (i : Nat) : Bool := match ks[i]?, ks'[i]? with
  | some a, some b => inkE b a
  | _, _ => false
def atFs (ks ks' : List I4) : List Bool := (List.range ks.length).map (atF ks ks')
def withinB (ap : Int) (ks : List I4) (ap' : Int) (ks' : List I4) : Bool := decide (ap = ap') && (atFs ks ks').all id
theorem all_bl {H : Hp} : ∀ {vs : List V} {bs : List Bool}, AllAt (fun _ v b => v = V.bl b) H vs bs → vs = bs.map V.bl
  | [], [], _ => rfl
  | _ :: _, _ :: _, h => by rw [List.map_cons, ← all_bl h.2, h.1]
  | [], _ :: _, h => h.elim
  | _ :: _, [], h => h.elim
section
variable {P : Program} {w : World} {K : PySem.W.Frag} {mg : Str → Option Value} {base : Heap} {C : Addr}
def spWithin (C : Addr) : Sp := fun vs H Q _ => ∃ (x x' : Addr) (ap ap' : Int) (ks ks' : List I4), vs = [.ref x, .ref x'] ∧ FaceAt C H x ap ks ∧ FaceAt C H x' ap' ks' ∧ ks.length ≤ 4 ∧ ks'.length ≤ 4 ∧ ∀ H', Same H H' → Q (.bl (withinB ap ks ap' ks')) H'
abbrev sFace_within : Stmt := inClass (topS 29) 6
theorem scFace_within : FnScope ["self", "other", "letter"] ["self", "other"] (defScope sFace_within) := ⟨rfl, rfl, rfl, by decide +kernel, rfl, by decide +kernel, by decide +kernel⟩
theorem ok_within {f : Addr} {fd : FuncData} (F : Fun K "within" "Face.within" sFace_within f fd) (T : Txt K mg) (TF : TxF K mg C) (M_letters : PropOk P w K mg base C 1 "letters" (spLetters C)) (M_ink : MethOk P w K mg base C 4 "ink" ["self", "letter"] (spInk C)) : FnOk P w K mg base CX0 5 f fd ["self", "other"] (spWithin C) := by
  refine F.ok scFace_within (fun vs H Q E h => ?_) (fun cdv A outer s H vs Q E hr h => ?_)
  · obtain ⟨x, x', ap, ap', ks, ks', rfl, _⟩ := h
    rfl
  · obtain ⟨x, x', ap, ap', ks, ks', rfl, hf, hf', h4, h4', k⟩ := h
    refine ⟨_, (pss_cons (ps_if (pt_cmpR op_ne (pe_fld (pv 0) rfl) (pe_fld (pv 1) rfl) (nomark _))
        (pss_one (ps_ret pe_bl))
        pss_nil)
      (pss_one (ps_ret (pe_callB (cr_all rfl) (by rfl) T.b_all (by decide +kernel) (pa_cons (pe_lc (own := [("letter", 2)]) (g := gName 2) (tt := tYes) rfl scFace_within.nd (pi_str (pe_po (pv 0) TF.cl M_letters (hr.mono (by decide)))) (blkOk_by (N := ["self", "other", "letter"]) (sc := defScope sFace_within) (by decide +kernel)) (fun _ _ _ _ _ => (pg_name (i := 2) scFace_within.nd rfl (.inl rfl))) (fun _ _ _ _ _ => pts_nil) (fun _ _ _ _ _ => (pe_and (pe_cmpR op_in_str (pv 2) (pe_po (pv 1) TF.cl M_letters (hr.mono (by decide))) (by rfl)) (pe_one (pe_cmpR (op_eqDQ (K := K) rfl (by have := hr.units; exact this)) (pe_mc (pv 1) TF.cl M_ink (hr.mono (by decide)) (pa_cons (pv 2) pa_nil)) (pe_mc (pv 0) TF.cl M_ink (hr.mono (by decide)) (pa_cons (pv 2) pa_nil)) (nomark _)))))) pa_nil))))), ?_⟩
    obtain ⟨dx, di, df, ik, fk, h1, _⟩ := id hf
    obtain ⟨dx', di', df', ik', fk', h1', _⟩ := id hf'
    refine ⟨_, rfl, x, C, dx, _, _, rfl, h1, TF.cl, TF.nA, rfl, _, rfl, x', C, dx', _, _, rfl, h1', TF.cl, TF.nA, rfl, rfl, _, rfl, ?_⟩
    unfold withinB at k
    by_cases ea : ap = ap'
    · rw [decide_eq_true ea] at k
      refine iteQ (by rw [decide_eq_true (congrArg V.int ea)]; decide) ?_
      refine ⟨_, rfl, x, dx, _, rfl, h1, x, ap, ks, rfl, hf, _, rfl, fun D hD => ?_⟩
      refine lc_collW (walk_str (z := lettersOf ks.length)) (R := fun _ v b => v = V.bl b) (ys := atFs ks ks') (fun _ h => h) (fun _ _ => trivial) (fun i H v H' h => by rw [h.1]; exact Same.refl H) hD (by unfold atFs; rw [lets_size h4, List.length_map, List.length_range]) (by unfold atFs; rw [List.length_map, List.length_range]; omega)
        (fun i v b H2 H3 Q2 hy hb s2 ⟨ls, hls⟩ kq => ?_) (fun x σ H P P' h q => h _ _ q) (fun ls H2 hls hal s2 => ?_)
      · obtain ⟨rfl, c, hc, rfl⟩ := hy
        have hi : i < ks.length := by
          have := (Array.getElem?_eq_some_iff.mp hc).1
          rw [lets_size h4] at this
          exact this
        rw [lets_get h4 hi] at hc
        cases hc
        unfold atFs at hb
        rw [List.getElem?_map, List.getElem?_range hi] at hb
        cases hb
        have ek : ks[i]? = some ks[i] := List.getElem?_eq_getElem hi
        have f2 : FaceAt C H3 x ap ks := hf.mono s2
        have f2' : FaceAt C H3 x' ap' ks' := hf'.mono s2
        refine ⟨rfl, _, rfl, _, rfl, x', dx', _, rfl, s2 _ _ h1', x', ap', ks', rfl, f2', ⟨#[97 + i]⟩, lettersOf ks'.length, rfl, rfl, ?_⟩
        rw [PySem.StrLaws.found_one, lets_in h4' (by omega)]
        by_cases hi' : i < ks'.length
        · have ek' : ks'[i]? = some ks'[i] := List.getElem?_eq_getElem hi'
          have ea : atF ks ks' i = inkE ks'[i] ks[i] := by unfold atF; rw [ek, ek']
          rw [decide_eq_true hi']
          refine ⟨_, rfl, iteT ?_⟩
          refine ⟨_, rfl, x', dx', _, rfl, s2 _ _ h1', rfl, _, rfl, x', ap', ks', i, _, rfl, f2', h4', ek', fun t H4 s4 ht => ?_⟩
          refine ⟨_, rfl, x, dx, _, rfl, s4 _ _ (s2 _ _ h1), rfl, _, rfl, x, ap, ks, i, _, rfl, f2.mono s4, h4, ek, fun u H5 s5 hu => ?_⟩
          refine ⟨_, _, dp_ink (s5 _ _ ht), dp_ink hu, inkD_shaped _, inkD_shaped _, kq _ _ (s4.trans s5) ?_⟩
          rw [ea]
          rfl
        · have ek' : ks'[i]? = none := List.getElem?_eq_none (by omega)
          have ea : atF ks ks' i = false := by unfold atF; rw [ek, ek']
          rw [decide_eq_false hi']
          exact ⟨_, rfl, iteF (kq _ _ (Same.refl _) (by rw [ea]))⟩
      · refine tnil ?_
        show rAll K [V.ref D] H2 _
        refine ⟨D, atFs ks ks', rfl, SqL.of (by rw [← all_bl hal]; exact hls), ?_⟩
        rw [Bool.true_and] at k
        exact k H2 s2
    · rw [decide_eq_false ea, Bool.false_and] at k
      refine iteP (by rw [decide_eq_false (fun z => ea (V.int.inj z) : ¬ V.int ap = V.int ap')]; rfl) ?_
      exact k H (Same.refl H)
end
end Pa
set_option maxRecDepth 100000
set_option maxHeartbeats 4000000
namespace Pa
open PySem PySem.Spec PyProof.Rows L2 Win
theorem GapBar.uniq {l r : I4} {ap : Int} {g g' : Nat} {bar bar' : V} (h : GapBar l r ap g bar) (h' : GapBar l r ap g' bar') : g = g' ∧ bar = bar' := by
  obtain ⟨h1, h2, h3⟩ := h
  obtain ⟨k1, k2, k3⟩ := h'
  have e : g = g' := by
    rcases Nat.lt_trichotomy g g' with q | q | q
    · obtain ⟨y, hy, ht, _⟩ := k2 g q
      exact absurd ht (h1 y hy)
    · exact q
    · obtain ⟨y, hy, ht, _⟩ := h2 g' q
      exact absurd ht (k1 y hy)
  subst e
  refine ⟨rfl, ?_⟩
  rcases h3 with ⟨e0, eb⟩ | ⟨m, y, em, ht, eb⟩
  · rcases k3 with ⟨_, eb'⟩ | ⟨m', y', em', _⟩
    · rw [eb, eb']
    · omega
  · rcases k3 with ⟨e0', _⟩ | ⟨m', y', em', ht', eb'⟩
    · omega
    · have : m = m' := by omega
      subst this
      rw [eb, eb', ht.uniq ht']
/-! ### inks that are the same -/
def EqI (a b : I4) : Prop := ∀ y, y < 4 → a y = b y
theorem EqI.sym {a b : I4} (h : EqI a b) : EqI b a := fun y hy => (h y hy).symm
theorem inkV_eq {a b : I4} (h : EqI a b) : inkV a = inkV b := by
  unfold inkV
  rw [h 0 (by decide), h 1 (by decide), h 2 (by decide), h 3 (by decide)]
theorem inkD_eq {a b : I4} (h : EqI a b) : inkD a = inkD b := by
  unfold inkD
  rw [h 0 (by decide), h 1 (by decide), h 2 (by decide), h 3 (by decide)]
theorem stp_eq {a b : I4} (h : EqI a b) : stp a = stp b := by
  unfold stp
  rw [h 0 (by decide), h 1 (by decide), h 2 (by decide), h 3 (by decide)]
theorem tb_iff {l r l' r' : I4} (h1 : EqI l l') (h2 : EqI r r') {gap ap : Int} {y : Nat} (hy : y < 4) : tb l r gap ap y ↔ tb l' r' gap ap y := by
  unfold tb
  rw [h1 y hy, h2 y hy, stp_eq h1]
theorem Tight.eqI {l r l' r' : I4} (h1 : EqI l l') (h2 : EqI r r') {gap ap : Int} {y : Nat} (h : Tight l r gap ap y) : Tight l' r' gap ap y :=
  ⟨h.1, (tb_iff h1 h2 h.1).mp h.2.1, fun z hz t => h.2.2 z hz ((tb_iff h1 h2 (Nat.lt_trans hz h.1)).mpr t)⟩
theorem GapBar.eqI {l r l' r' : I4} (h1 : EqI l l') (h2 : EqI r r') {ap : Int} {g : Nat} {bar : V} (h : GapBar l r ap g bar) : GapBar l' r' ap g bar := by
  obtain ⟨a, b, c⟩ := h
  refine ⟨fun y hy t => a y hy ((tb_iff h1 h2 hy).mpr t), fun g' hg => ?_, ?_⟩
  · obtain ⟨y, hy⟩ := b g' hg
    exact ⟨y, hy.eqI h1 h2⟩
  · rcases c with c | ⟨m, y, e, t, q⟩
    · exact .inl c
    · exact .inr ⟨m, y, e, t.eqI h1 h2, q⟩
theorem bar_scal {l r : I4} {ap : Int} {g : Nat} {bar : V} (h : GapBar l r ap g bar) : bar = .non ∨ ∃ y : Int, bar = .int y := by
  rcases h.2.2 with ⟨_, e⟩ | ⟨m, y, _, _, e⟩
  · exact .inl e
  · exact .inr ⟨_, e⟩
structure EqKs (ks ks' : List I4) : Prop where
  len : ks.length = ks'.length
  at_ : ∀ (i : Nat) a b, ks[i]? = some a → ks'[i]? = some b → EqI a b
section
variable {P : Program} {w : World} {K : PySem.W.Frag} {mg : Str → Option Value} {base : Heap} {C : Addr}
def spBarF (C : Addr) : Sp := fun vs H Q _ => ∃ x ap ks i j a b, vs = [.ref x, .str (letS i), .str (letS j)] ∧ FaceAt C H x ap ks ∧ ks.length ≤ 4 ∧ ks[i]? = some a ∧ ks[j]? = some b ∧ ∀ (g : Nat) bar H', Same H H' → GapBar a b ap g bar → Q bar H'
abbrev sFace_bar : Stmt := inClass (topS 29) 5
theorem scFace_bar : FnScope ["self", "left", "right"] ["self", "left", "right"] (defScope sFace_bar) := ⟨rfl, rfl, rfl, by decide +kernel, rfl, by decide +kernel, by decide +kernel⟩
theorem ok_barF {f : Addr} {fd : FuncData} (F : Fun K "bar" "Face.bar" sFace_bar f fd) (TF : TxF K mg C) (M__check : MethOk P w K mg base C 3 "_check" ["self", "letter"] (spCheck C)) : FnOk P w K mg base CX0 4 f fd ["self", "left", "right"] (spBarF C) := by
  refine F.ok scFace_bar (fun vs H Q E h => ?_) (fun cdv A outer s H vs Q E hr h => ?_)
  · obtain ⟨x, ap, ks, i, j, a, b, rfl, _⟩ := h
    rfl
  · obtain ⟨x, ap, ks, i, j, a, b, rfl, hf, h4, hi, hj, k⟩ := h
    refine ⟨_, (pss_cons (ps_expr (pe_mc (pv 0) TF.cl M__check (hr.mono (by decide)) (pa_cons (pv 1) pa_nil)))
      (pss_cons (ps_expr (pe_mc (pv 0) TF.cl M__check (hr.mono (by decide)) (pa_cons (pv 2) pa_nil)))
      (pss_one (ps_ret (pe_ix ix_tup (pe_dget (Nat.lt_of_le_of_lt (Nat.add_le_add_left (by decide) _) hr.units) (pe_fld (pv 0) rfl) (pe_op op_add_str (pv 1) (pv 2)) (fun _ _ => rfl)) pe_int (fun _ _ => rfl)))))), ?_⟩
    obtain ⟨dx, di, df, ik, fk, h1, h2, h3, hI, hF⟩ := id hf
    have hl := (List.getElem?_eq_some_iff.mp hi).1
    have hl2 := (List.getElem?_eq_some_iff.mp hj).1
    refine ⟨_, rfl, x, dx, _, rfl, h1, rfl, _, rfl, x, ap, ks, i, rfl, hf, h4, hl, fun H1 s1 => ?_⟩
    refine ⟨_, rfl, x, dx, _, rfl, s1 _ _ h1, rfl, _, rfl, x, ap, ks, j, rfl, hf.mono s1, h4, hl2, fun H2 s2 => ?_⟩
    have s12 := s1.trans s2
    obtain ⟨v, q, t, g, bar, rfl, ht, gb⟩ := hF.2 i j a b hi hj (.inl hl)
    refine ⟨_, rfl, x, C, dx, _, .ref df, rfl, s12 _ _ h1, TF.cl, TF.nF, rfl, _, rfl, _, rfl, letS i, letS j, rfl, rfl, by show 2 ≤ sizeLine; decide, df, .ref t, rfl, .inl ⟨fk, .inr (letS i ++ letS j), .inl (s12 _ _ h3), rfl, q.symm⟩, ?_⟩
    exact ⟨t, _, _, _, rfl, rfl, SqT.of (s12 _ _ ht), atI_nat (j := 1) rfl, k g bar H2 s12 gb⟩

def spSame (C : Addr) : Sp := fun vs H Q _ => ∃ (x x' : Addr) (ap : Int) (ks ks' : List I4), vs = [.ref x, .ref x'] ∧ FaceAt C H x ap ks ∧ FaceAt C H x' ap ks' ∧ ks.length ≤ 4 ∧ EqKs ks ks' ∧ ∀ H', Same H H' → Q (.bl true) H'
abbrev sL_same : Stmt := topS 47
theorem scL_same : FnScope ["_law_one_here", "_law_two", "_law_left", "_law_right"] ["_law_one_here", "_law_two"] (defScope sL_same) := ⟨rfl, rfl, rfl, by decide +kernel, rfl, by decide +kernel, by decide +kernel⟩
theorem ok_lsame {f : Addr} {fd : FuncData} (F : Fun K "_law_same" "_law_same" sL_same f fd) (TF : TxF K mg C) (M_letters : PropOk P w K mg base C 1 "letters" (spLetters C)) (M_ink : MethOk P w K mg base C 4 "ink" ["self", "letter"] (spInk C)) (M_step : MethOk P w K mg base C 5 "step" ["self", "letter"] (spStepF C))
    (M_gap : MethOk P w K mg base C 4 "gap" ["self", "left", "right"] (spGapF C)) (M_bar : MethOk P w K mg base C 4 "bar" ["self", "left", "right"] (spBarF C)) : FnOk P w K mg base CX0 6 f fd ["_law_one_here", "_law_two"] (spSame C) := by
  refine F.ok scL_same (fun vs H Q E h => ?_) (fun cdv A outer s H vs Q E hr h => ?_)
  · obtain ⟨x, x', ap, ks, ks', rfl, _⟩ := h
    rfl
  · obtain ⟨x, x', ap, ks, ks', rfl, hf, hf', h4, hE, k⟩ := h
    refine ⟨_, (pss_cons (ps_if (PW.pt (pw_or (pt_cmpR op_ne (pe_po (pv 0) TF.cl M_letters (hr.mono (by decide))) (pe_po (pv 1) TF.cl M_letters (hr.mono (by decide))) (nomark _)) (pw_or1 (pt_cmpR op_ne (pe_fld (pv 0) rfl) (pe_fld (pv 1) rfl) (nomark _)))))
        (pss_one (ps_ret pe_bl))
        pss_nil)
      (pss_cons (ps_for PassesOwn.never rfl (pi_str (pe_po (pv 0) TF.cl M_letters (hr.mono (by decide)))) (pg_name (i := 2) scL_same.nd rfl (.inl rfl))
        (pss_cons (ps_if (PW.pt (pw_or (pt_cmpR (op_neD hr.units) (pe_mc (pv 0) TF.cl M_ink (hr.mono (by decide)) (pa_cons (pv 2) pa_nil)) (pe_mc (pv 1) TF.cl M_ink (hr.mono (by decide)) (pa_cons (pv 2) pa_nil)) (nomark _)) (pw_or1 (pt_cmpR op_ne (pe_mc (pv 0) TF.cl M_step (hr.mono (by decide)) (pa_cons (pv 2) pa_nil)) (pe_mc (pv 1) TF.cl M_step (hr.mono (by decide)) (pa_cons (pv 2) pa_nil)) (nomark _)))))
          (pss_one (ps_ret pe_bl))
          pss_nil)
        (pss_one (ps_for PassesOwn.never rfl (pi_str (pe_po (pv 0) TF.cl M_letters (hr.mono (by decide)))) (pg_name (i := 3) scL_same.nd rfl (.inl rfl))
          (pss_one (ps_if (PW.pt (pw_or (pt_cmpR op_ne (pe_mc (pv 0) TF.cl M_gap (hr.mono (by decide)) (pa_cons (pv 2) (pa_cons (pv 3) pa_nil))) (pe_mc (pv 1) TF.cl M_gap (hr.mono (by decide)) (pa_cons (pv 2) (pa_cons (pv 3) pa_nil))) (nomark _)) (pw_or1 (pt_cmpR op_ne (pe_mc (pv 0) TF.cl M_bar (hr.mono (by decide)) (pa_cons (pv 2) (pa_cons (pv 3) pa_nil))) (pe_mc (pv 1) TF.cl M_bar (hr.mono (by decide)) (pa_cons (pv 2) (pa_cons (pv 3) pa_nil))) (nomark _)))))
            (pss_one (ps_ret pe_bl))
            pss_nil))))))
      (pss_one (ps_ret pe_bl)))), ?_⟩
    obtain ⟨dx, di, df, ik, fk, h1, _⟩ := id hf
    obtain ⟨dx', di', df', ik', fk', h1', _⟩ := id hf'
    have h4' : ks'.length ≤ 4 := by rw [← hE.len]; exact h4
    refine ⟨_, rfl, x, dx, _, rfl, h1, x, ap, ks, rfl, hf, _, rfl, x', dx', _, rfl, h1', x', ap, ks', rfl, hf', rfl, _, rfl, iteQ (by rw [hE.len, decide_eq_true rfl]; decide) ?_⟩
    refine ⟨_, rfl, x, C, dx, _, _, rfl, h1, TF.cl, TF.nA, rfl, _, rfl, x', C, dx', _, _, rfl, h1', TF.cl, TF.nA, rfl, rfl, _, rfl, iteQ (by rw [decide_eq_true rfl]; decide) ?_⟩
    refine ⟨_, rfl, x, dx, _, rfl, h1, x, ap, ks, rfl, hf, _, rfl, for_it (walk_str (z := lettersOf ks.length)) (fun i σ H' => ∃ (y2 y3 : Option V), σ = [some (.ref x), some (.ref x'), y2, y3] ∧ Same H H') ⟨_, _, rfl, Same.refl _⟩ (fun _ _ _ _ _ => trivial) ?_ ?_⟩
    · rintro i v σ H1 H2 hi ⟨y2, y3, rfl, s1⟩ ⟨rfl, c, hc, rfl⟩
      rw [lets_size h4] at hi
      rw [lets_get h4 hi] at hc
      cases hc
      have ea : ks[i]? = some ks[i] := List.getElem?_eq_getElem hi
      have eb : ks'[i]? = some (ks'[i]'(by rw [← hE.len]; exact hi)) := List.getElem?_eq_getElem _
      have hi1 := hE.at_ _ _ _ ea eb
      have f1 := hf.mono s1
      have f1' := hf'.mono s1
      refine ⟨_, rfl, x, dx, _, rfl, s1 _ _ h1, rfl, _, rfl, x, ap, ks, i, _, rfl, f1, h4, ea, fun t H3 s3 ht => ?_⟩
      refine ⟨_, rfl, x', dx', _, rfl, s3 _ _ (s1 _ _ h1'), rfl, _, rfl, x', ap, ks', i, _, rfl, f1'.mono s3, h4', eb, fun u H4 s4 hu => ?_⟩
      refine ⟨_, _, dp_ink (s4 _ _ ht), dp_ink hu, inkD_shaped _, inkD_shaped _, _, rfl, iteQ (by rw [inkD_eq hi1, SeqAt.eqv_refl _ (inkD_lay _)]; decide) ?_⟩
      have s14 := (s1.trans s3).trans s4
      refine ⟨_, rfl, x, dx, _, rfl, s14 _ _ h1, rfl, _, rfl, x, ap, ks, i, _, rfl, hf.mono s14, h4, ea, fun H5 s5 => ?_⟩
      have s15 := s14.trans s5
      refine ⟨_, rfl, x', dx', _, rfl, s15 _ _ h1', rfl, _, rfl, x', ap, ks', i, _, rfl, hf'.mono s15, h4', eb, fun H6 s6 => ?_⟩
      have s16 := s15.trans s6
      refine ⟨rfl, _, rfl, iteQ (by rw [stp_eq hi1, decide_eq_true rfl]; decide) ?_⟩
      refine ⟨_, rfl, x, dx, _, rfl, s16 _ _ h1, x, ap, ks, rfl, hf.mono s16, _, rfl, for_it (walk_str (z := lettersOf ks.length)) (fun j σ H' => ∃ (y3 : Option V), σ = [some (.ref x), some (.ref x'), some (.str ⟨#[97 + i]⟩), y3] ∧ Same H H') ⟨_, rfl, s16⟩ (fun _ _ _ _ _ => trivial) ?_ ?_⟩
      · rintro j v σ H7 H8 hj ⟨y3, rfl, s7⟩ ⟨rfl, c, hc, rfl⟩
        rw [lets_size h4] at hj
        rw [lets_get h4 hj] at hc
        cases hc
        have ea2 : ks[j]? = some ks[j] := List.getElem?_eq_getElem hj
        have eb2 : ks'[j]? = some (ks'[j]'(by rw [← hE.len]; exact hj)) := List.getElem?_eq_getElem _
        have hj1 := hE.at_ _ _ _ ea2 eb2
        refine ⟨_, rfl, x, dx, _, rfl, s7 _ _ h1, rfl, _, rfl, _, rfl, x, ap, ks, i, j, _, _, rfl, hf.mono s7, h4, ea, ea2, fun g bar H9 s9 gb => ?_⟩
        have s79 := s7.trans s9
        refine ⟨_, rfl, x', dx', _, rfl, s79 _ _ h1', rfl, _, rfl, _, rfl, x', ap, ks', i, j, _, _, rfl, hf'.mono s79, h4', eb, eb2, fun g' bar' H10 s10 gb' => ?_⟩
        obtain ⟨eg, ebar⟩ := (gb.eqI hi1 hj1).uniq gb'
        subst eg
        refine ⟨rfl, _, rfl, iteQ (by rw [decide_eq_true rfl]; decide) ?_⟩
        have s710 := s79.trans s10
        refine ⟨_, rfl, x, dx, _, rfl, s710 _ _ h1, rfl, _, rfl, _, rfl, x, ap, ks, i, j, _, _, rfl, hf.mono s710, h4, ea, ea2, fun g2 bar2 H11 s11 gb2 => ?_⟩
        have s711 := s710.trans s11
        refine ⟨_, rfl, x', dx', _, rfl, s711 _ _ h1', rfl, _, rfl, _, rfl, x', ap, ks', i, j, _, _, rfl, hf'.mono s711, h4', eb, eb2, fun g3 bar3 H12 s12 gb3 => ?_⟩
        obtain ⟨_, eb3⟩ := (gb2.eqI hi1 hj1).uniq gb3
        subst eb3
        refine ⟨?_, _, rfl, iteQ (by rw [decide_eq_true rfl]; decide) ?_⟩
        · rcases bar_scal gb2 with e | ⟨y, e⟩
          · rw [e]; rfl
          · rw [e]; rfl
        · exact ⟨_, rfl, s711.trans s12⟩
      · rintro σ H7 ⟨y3, rfl, s7⟩
        exact ⟨_, _, rfl, s7⟩
    · rintro σ H1 ⟨y2, y3, rfl, s1⟩
      exact k H1 s1
end
end Pa
set_option maxRecDepth 100000
set_option maxHeartbeats 4000000
namespace Pa
open PySem PySem.Spec PyProof.Rows L2 Win
/-- faces' own == -/
structure EqOk (P : Program) (w : World) (K : PySem.W.Frag) (mg : Str → Option Value) (base : Heap) (C : Addr) : Prop where
  nf : PySem.W.notFirst K C (.ref C) = true
  ok : ∃ (f : Addr) (fd : FuncData), EqO K C f ∧ Binds K fd ["self", "other"] [] ∧ FnOk P w K mg base CX0 1 f fd ["self", "other"] (spEqF K C)
theorem bne_f (b : Bool) : (false != b) = b := by cases b <;> rfl
theorem bne_t (b : Bool) : (true != b) = !b := by cases b <;> rfl
section
variable {P : Program} {w : World} {K : PySem.W.Frag} {mg : Str → Option Value} {base : Heap} {C : Addr}
def spEqSt (C : Addr) : Sp := fun vs H Q _ => ∃ (x x' : Addr) (ap ap' : Int) (ks ks' : List I4) (e : Bool), vs = [.ref x, .ref x', .bl e] ∧ FaceAt C H x ap ks ∧ FaceAt C H x' ap' ks' ∧ sameF ap ks ap' ks' = e ∧ sameF ap' ks' ap ks = e ∧ ∀ H', Same H H' → Q (.bl true) H'
abbrev sL_equal_stands : Stmt := topS 48
theorem scL_equal_stands : FnScope ["_law_one_here", "_law_two", "_law_is_equal", "_law_told"] ["_law_one_here", "_law_two", "_law_is_equal"] (defScope sL_equal_stands) := ⟨rfl, rfl, rfl, by decide +kernel, rfl, by decide +kernel, by decide +kernel⟩
theorem ok_leqst {f : Addr} {fd : FuncData} (F : Fun K "_law_equal_stands" "_law_equal_stands" sL_equal_stands f fd) (T : Txt K mg) (TF : TxF K mg C) (TE : TxE K mg C) (EQ : EqOk P w K mg base C) : FnOk P w K mg base CX0 3 f fd ["_law_one_here", "_law_two", "_law_is_equal"] (spEqSt C) := by
  refine F.ok scL_equal_stands (fun vs H Q E h => ?_) (fun cdv A outer s H vs Q E hr h => ?_)
  · obtain ⟨x, x', ap, ap', ks, ks', e, rfl, _⟩ := h
    rfl
  · obtain ⟨x, x', ap, ap', ks, ks', e, rfl, hf, hf', q1, q2, k⟩ := h
    obtain ⟨fe, fde, o1, o2, o3⟩ := EQ.ok
    refine ⟨_, (pss_cons (ps_for PassesOwn.never rfl (pi_list (pe_lst (pa_cons (pe_cmpR (op_eqO (E := E0) o3 o2 pass0 (hr.mono (by decide)) o1) (pv 0) (pv 1) (nomark _)) (pa_cons (pe_cmpR (op_eqO (E := E0) o3 o2 pass0 (hr.mono (by decide)) o1) (pv 1) (pv 0) (nomark _)) pa_nil)))) (pg_name (i := 3) scL_equal_stands.nd rfl (.inl rfl))
        (pss_one (ps_if (PW.pt (pw_or (pt_not (pt_val (pe_callB call_isi (by rfl) T.b_isinstance (by decide +kernel) (pa_cons (pv 3) (pa_cons (pe_bltn (v := .ty "bool") (by rfl) T.b_bool (by decide +kernel) rfl) pa_nil))))) (pw_or1 (pt_cmpR op_ne (pv 3) (pv 2) (nomark _)))))
          (pss_one (ps_ret pe_bl))
          pss_nil)))
      (pss_one (ps_ret (pe_cmpR op_ne (pe_cmpR (op_neO (E := E0) o3 o2 pass0 (hr.mono (by decide)) o1) (pv 0) (pv 1) (nomark _)) (pv 2) (nomark _))))), ?_⟩
    obtain ⟨dx, di, df, ik, fk, h1, _⟩ := id hf
    obtain ⟨dx', di', df', ik', fk', h1', _⟩ := id hf'
    refine ⟨_, rfl, _, rfl, x, dx, _, .ref C, rfl, h1, .base (.ins h1' TF.cl TE.ha TE.hn TE.htk TE.hm), EQ.nf, x, .ref x', ap, ks, rfl, hf, .inl ⟨x', ap', ks', rfl, hf', _, rfl, ?_⟩⟩
    refine ⟨_, rfl, _, rfl, x', dx', _, .ref C, rfl, h1', .base (.ins h1 TF.cl TE.ha TE.hn TE.htk TE.hm), EQ.nf, x', .ref x, ap', ks', rfl, hf', .inl ⟨x, ap, ks, rfl, hf, _, rfl, ?_⟩⟩
    rw [q1, q2, bne_f]
    refine ⟨by show 2 ≤ sizeLine; decide, fun D hD => ?_⟩
    have sD := same_new (o := .lst [.bl e, .bl e]) hD
    have hD1 : (upd H D (.lst [.bl e, .bl e])) D = some (.lst [.bl e, .bl e]) := upd_same
    generalize upd H D (.lst [.bl e, .bl e]) = H1 at sD hD1 ⊢
    refine ⟨D, rfl, ⟨_, SqL.of hD1⟩, for_it (walk_list (K := K) (a := D) (xs := [.bl e, .bl e])) (fun i σ H' => ∃ y3 : Option V, σ = [some (.ref x), some (.ref x'), some (.bl e), y3] ∧ H' = H1) ⟨_, rfl, rfl⟩ (fun _ _ _ _ ⟨_, _, q⟩ => by rw [q]; exact SqL.of hD1) ?_ ?_⟩
    · rintro i v σ H2 H3 hi ⟨y3, rfl, rfl⟩ ⟨rfl, hv⟩
      have ev : v = .bl e := by
        have := List.mem_of_getElem? hv
        simpa using this
      subst ev
      refine ⟨_, rfl, _, _, _, _, true, rfl, .ty _, .base (.bl _), kit_ty (by decide +kernel), _, rfl, iteQ (by decide) ?_⟩
      refine ⟨_, rfl, _, rfl, rfl, _, rfl, iteQ (by rw [decide_eq_true rfl]; decide) ?_⟩
      exact ⟨_, rfl, rfl⟩
    · rintro σ H2 ⟨y3, rfl, rfl⟩
      refine ⟨_, rfl, _, rfl, x, dx, _, .ref C, rfl, sD _ _ h1, .base (.ins (sD _ _ h1') TF.cl TE.ha TE.hn TE.htk TE.hm), EQ.nf, x, .ref x', ap, ks, rfl, hf.mono sD, .inl ⟨x', ap', ks', rfl, hf'.mono sD, _, rfl, ?_⟩⟩
      rw [q1, bne_t]
      refine ⟨_, rfl, rfl, ?_⟩
      have e1 : (!decide (V.bl (!e) = V.bl e)) = true := by cases e <;> decide
      rw [e1]
      exact k _ sD
end
end Pa
set_option maxRecDepth 100000
set_option maxHeartbeats 4000000
namespace Pa
open PySem PySem.Spec PyProof.Rows L2 Win
/-! ### inks as data -/
def inksD (ks : List I4) : PyData := .list (ks.map inkD)
theorem eqv_inksA : ∀ ks ks' : List I4, PyData.eqvAll (ks.map inkD) (ks'.map inkD) = (ks.length == ks'.length && inksE ks ks')
  | [], [] => by simp [PyData.eqvAll, inksE]
  | [], _ :: _ => by simp [PyData.eqvAll]
  | _ :: _, [] => by simp [PyData.eqvAll]
  | a :: as, b :: bs => by
    have ih := eqv_inksA as bs
    simp only [List.map_cons, PyData.eqvAll, ih, inksE, inkE, List.length_cons]
    have e : (as.length + 1 == bs.length + 1) = (as.length == bs.length) := by simp
    rw [e]
    cases (inkD a).eqv (inkD b) <;> cases (as.length == bs.length) <;> simp
theorem eqv_inks (ks ks' : List I4) : PyData.eqv (inksD ks) (inksD ks') = (ks.length == ks'.length && inksE ks ks') := by
  unfold inksD
  rw [PyData.eqv]
  exact eqv_inksA ks ks'
theorem inkE_comm (a b : I4) : inkE a b = inkE b a := by
  have c : ∀ x y : Str, (x == y) = (y == x) := fun x y => by
    rw [Bool.eq_iff_iff, beq_iff_eq, beq_iff_eq]
    exact eq_comm
  simp only [inkE, inkD, PyData.eqv, PyData.eqvAll]
  rw [c (a 0).s, c (a 1).s, c (a 2).s, c (a 3).s]
theorem atFs_cons (a b : I4) (ks ks' : List I4) : atFs (a :: ks) (b :: ks') = inkE b a :: atFs ks ks' := by
  unfold atFs
  rw [List.length_cons, List.range_succ_eq_map, List.map_cons, List.map_map]
  rfl
theorem atFs_all : ∀ ks ks' : List I4, (atFs ks ks').all id = PyData.eqvAll (ks.map inkD) ((ks'.take ks.length).map inkD)
  | [], ks' => by simp [atFs, PyData.eqvAll]
  | a :: ks, [] => by
    have : atFs (a :: ks) [] = false :: (List.range ks.length).map (atF (a :: ks) [] ∘ Nat.succ) := by
      unfold atFs
      rw [List.length_cons, List.range_succ_eq_map, List.map_cons, List.map_map]
      rfl
    rw [this]
    simp [PyData.eqvAll]
  | a :: ks, b :: ks' => by
    have ih := atFs_all ks ks'
    rw [atFs_cons, List.all_cons, ih, List.length_cons, List.take_succ_cons, List.map_cons, List.map_cons, PyData.eqvAll, inkE_comm]
    rfl
theorem inksD_shaped (ks : List I4) : SeqAt.shaped (inksD ks) = true := by
  have h1 : (inksD ks).canLay0 = true := by simp only [inksD, PyData.canLay0]; exact lay_map inkD_lay ks
  have h2 : (inksD ks).depth ≤ 64 := by
    have := dep_map (f := inkD) (d := 1) (fun k => by simp [inkD, PyData.depth, PyData.depthAll]) ks
    simp only [inksD, PyData.depth]
    omega
  show ((inksD ks).canLay0 && decide ((inksD ks).depth ≤ 64)) = true
  rw [h1, decide_eq_true h2]
  rfl
theorem dp_inks {K : PySem.W.Frag} {H : Hp} {p : Addr} {us : List V} {ks : List I4} (h : H p = some (.lst us)) (ha : AllAt InkAt H us ks) : Dp K H (.ref p) (inksD ks) := .lst (SqL.of h) (dp_all (R := InkAt) (fun v k ⟨t, e, q⟩ => by rw [e]; exact dp_ink q) ha)
theorem EqKs.data : ∀ {ks ks' : List I4}, EqKs ks ks' → ks.map inkD = ks'.map inkD := fun {ks ks'} h => by
  refine List.ext_getElem (by rw [List.length_map, List.length_map, h.len]) fun i h1 h2 => ?_
  rw [List.getElem_map, List.getElem_map]
  rw [List.length_map] at h1 h2
  exact inkD_eq (h.at_ i _ _ (List.getElem?_eq_getElem h1) (List.getElem?_eq_getElem h2))
theorem within_is {ap ap' : Int} {ks ks' js js' : List I4} (h : EqKs ks js) (h' : EqKs ks' js') : withinB ap ks ap' ks' = (decide (ap = ap') && PyData.eqv (inksD js) (inksD (js'.take js.length))) := by
  unfold withinB
  rw [atFs_all, h.data, h.len]
  have e : (ks'.take js.length).map inkD = (js'.take js.length).map inkD := by rw [List.map_take, List.map_take, h'.data]
  rw [e]
  unfold inksD
  rw [PyData.eqv]
theorem same_is {ap ap' : Int} {ks ks' js js' : List I4} (h : EqKs ks js) (h' : EqKs ks' js') : sameF ap ks ap' ks' = (decide (ap = ap') && PyData.eqv (inksD js) (inksD js')) := by
  unfold sameF
  rw [← eqv_inks]
  unfold inksD
  rw [h.data, h'.data]
section
variable {P : Program} {w : World} {K : PySem.W.Frag} {mg : Str → Option Value} {base : Heap} {C : Addr}
def spWithinSt (C : Addr) : Sp := fun vs H Q _ => ∃ (x x' il ol : Addr) (ap ap' : Int) (ks ks' js js' : List I4) (us ws : List V), vs = [.ref x, .ref x', .ref il, .ref ol, .bl (decide (ap = ap'))] ∧ FaceAt C H x ap ks ∧ FaceAt C H x' ap' ks' ∧ ks.length ≤ 4 ∧ ks'.length ≤ 4 ∧ EqKs ks js ∧ EqKs ks' js' ∧ H il = some (.lst us) ∧ AllAt InkAt H us js ∧ H ol = some (.lst ws) ∧ AllAt InkAt H ws js' ∧ ∀ H', Same H H' → Q (.bl true) H'
abbrev sL_within_stands : Stmt := topS 49
theorem scL_within_stands : FnScope ["_law_one_here", "_law_two", "_law_inks", "_law_others", "_law_is_near", "_law_told"] ["_law_one_here", "_law_two", "_law_inks", "_law_others", "_law_is_near"] (defScope sL_within_stands) := ⟨rfl, rfl, rfl, by decide +kernel, rfl, by decide +kernel, by decide +kernel⟩
theorem ok_lwithst {f : Addr} {fd : FuncData} (F : Fun K "_law_within_stands" "_law_within_stands" sL_within_stands f fd) (T : Txt K mg) (TF : TxF K mg C) (M_within : MethOk P w K mg base C 5 "within" ["self", "other"] (spWithin C)) : FnOk P w K mg base CX0 6 f fd ["_law_one_here", "_law_two", "_law_inks", "_law_others", "_law_is_near"] (spWithinSt C) := by
  refine F.ok scL_within_stands (fun vs H Q E h => ?_) (fun cdv A outer s H vs Q E hr h => ?_)
  · obtain ⟨x, x', il, ol, ap, ap', ks, ks', js, js', us, ws, rfl, _⟩ := h
    rfl
  · obtain ⟨x, x', il, ol, ap, ap', ks, ks', js, js', us, ws, rfl, hf, hf', h4, h4', hE, hE', hil, hus, hol, hws, k⟩ := h
    refine ⟨_, (pss_cons (ps_set (i := 5) scL_within_stands.nd rfl (.inl rfl) (pe_mc (pv 0) TF.cl M_within (hr.mono (by decide)) (pa_cons (pv 1) pa_nil)))
      (pss_one (ps_ret (pe_and (pe_callB call_isi (by rfl) T.b_isinstance (by decide +kernel) (pa_cons (pv 5) (pa_cons (pe_bltn (v := .ty "bool") (by rfl) T.b_bool (by decide +kernel) rfl) pa_nil))) (pe_one (pe_cmpR op_eq (pv 5) (pe_and (pv 4) (pe_one (pe_cmpR (op_eqD hr.units) (pv 2) (pe_slice sl_list (pv 3) po_none (po_some (pe_callB (r := rLenQ K) (id := "len") (call_lenQ (K := K) rfl) (by rfl) T.b_len PySem.boot_len (pa_cons (pv 2) pa_nil)))) (nomark _)))) (nomark _))))))), ?_⟩
    obtain ⟨dx, di, df, ik, fk, h1, _⟩ := id hf
    refine ⟨_, rfl, x, dx, _, rfl, h1, rfl, _, rfl, x, x', ap, ap', ks, ks', rfl, hf, hf', h4, h4', fun H1 s1 => ?_⟩
    rw [within_is hE hE']
    refine ⟨_, rfl, _, _, _, _, true, rfl, .ty _, .base (.bl _), kit_ty (by decide +kernel), _, rfl, iteT ?_⟩
    refine ⟨_, rfl, _, rfl, _, rfl, ?_⟩
    by_cases e : ap = ap'
    · rw [decide_eq_true e, Bool.true_and]
      refine iteT ?_
      refine ⟨_, rfl, _, rfl, _, rfl, il, us, rfl, .inl (SqL.of (s1 _ _ hil)), _, rfl, ol, ws, rfl, SqL.of (s1 _ _ hol), fun q hq => ?_⟩
      have sq := same_new (o := .lst (cutV ws none (some (us.length : Int)))) hq
      have ec : cutV ws none (some (us.length : Int)) = ws.take us.length := by
        unfold cutV
        rw [HT.sIx_nat, HT.sIx_none, Nat.sub_zero, List.drop_zero]
        by_cases hl : us.length ≤ ws.length
        · rw [Nat.min_eq_left hl]
        · rw [Nat.min_eq_right (by omega), List.take_of_length_le (i := us.length) (by omega), List.take_of_length_le (Nat.le_refl _)]
      have hq1 : (upd H1 q (.lst (cutV ws none (some (us.length : Int))))) q = some (.lst (ws.take js.length)) := by rw [upd_same, ec, hus.len]
      have s1q := s1.trans sq
      refine ⟨_, _, dp_inks (s1q _ _ hil) (hus.mono fun _ _ => InkAt.mono s1q), dp_inks hq1 ((AllAt.take js.length hws).mono fun _ _ => InkAt.mono s1q), inksD_shaped _, inksD_shaped _, rfl, ?_⟩
      rw [decide_eq_true rfl]
      exact k _ s1q
    · rw [decide_eq_false e, Bool.false_and]
      refine iteF ⟨rfl, ?_⟩
      rw [decide_eq_true rfl]
      exact k _ s1
end
end Pa
/-! neighbours that differ, put otherwise; core Lean -/
namespace Win
theorem path_nn (f : Pt → Pt → Int) (h : ∀ p q, 0 ≤ f p q) : ∀ l : List Pt, 0 ≤ path f l
  | [] => Int.le_refl _
  | [_] => Int.le_refl _
  | p :: q :: r => by
    have := path_nn f h (q :: r)
    have := h p q
    show 0 ≤ f p q + path f (q :: r)
    omega
theorem around_nn (f : Pt → Pt → Int) (h : ∀ p q, 0 ≤ f p q) : ∀ l : List Pt, 0 ≤ around f l
  | [] => Int.le_refl _
  | p :: r => path_nn f h (p :: r ++ [p])
theorem path_revS (f : Pt → Pt → Int) (hf : ∀ p q, f p q = f q p) : ∀ l : List Pt, path f l.reverse = path f l
  | [] => rfl
  | [a] => rfl
  | a :: b :: l => by
    have ih := path_revS f hf (b :: l)
    have e : (a :: b :: l).reverse = l.reverse ++ [b, a] := by simp
    rw [e, path_two]
    have e2 : (b :: l).reverse = l.reverse ++ [b] := by simp
    rw [e2] at ih
    show path f (l.reverse ++ [b]) + f b a = f a b + path f (b :: l)
    rw [ih, hf b a]
    omega
theorem around_revS (f : Pt → Pt → Int) (hf : ∀ p q, f p q = f q p) (l : List Pt) : around f l.reverse = around f l := by
  cases hl : l.reverse with
  | nil =>
    have : l = [] := by simpa using hl
    rw [this]
  | cons z t =>
    have e : l = t.reverse ++ [z] := by
      have := congrArg List.reverse hl
      simpa using this
    rw [e, ← path_turn]
    show path f (z :: t ++ [z]) = _
    have e2 : z :: t ++ [z] = (z :: (t.reverse ++ [z])).reverse := by simp
    rw [e2, path_revS f hf]
theorem around_cutS (f : Pt → Pt → Int) (a b c : List Pt) (p q : Pt) : around f (p :: b ++ [q]) + around f (q :: c ++ (a ++ [p])) = around f (a ++ p :: b ++ q :: c) + f q p + f p q := by
  have e1 : around f (p :: b ++ [q]) = path f (p :: b ++ [q]) + f q p := by
    show path f (p :: b ++ [q] ++ [p]) = _
    have : p :: b ++ [q] ++ [p] = p :: b ++ [q, p] := by simp
    rw [this, path_two]
  have e2 : around f (q :: c ++ (a ++ [p])) = path f (q :: c ++ (a ++ [p])) + f p q := by
    show path f (q :: c ++ (a ++ [p]) ++ [q]) = _
    have h1 : q :: c ++ (a ++ [p]) ++ [q] = (q :: c ++ a) ++ [p, q] := by simp
    have h2 : q :: c ++ (a ++ [p]) = (q :: c ++ a) ++ [p] := by simp
    rw [h1, h2, path_two]
  have e3 : around f (a ++ p :: b ++ q :: c) = path f (p :: b ++ [q]) + path f (q :: c ++ (a ++ [p])) := by
    have h1 : a ++ p :: b ++ q :: c = a ++ (p :: b ++ q :: c) := by simp
    rw [h1, ← around_rot f a (p :: b ++ q :: c)]
    show path f (p :: b ++ q :: c ++ a ++ [p]) = _
    have h2 : p :: b ++ q :: c ++ a ++ [p] = p :: b ++ q :: (c ++ a ++ [p]) := by simp
    rw [h2, path_app]
    simp
  rw [e1, e2, e3]
  omega
theorem around_moreS (f : Pt → Pt → Int) (a b : List Pt) (p m q : Pt) (r : List Pt) (hq : b ++ a ++ [p] = q :: r) : around f (a ++ p :: m :: b) + f p q = around f (a ++ p :: b) + f p m + f m q := by
  rw [← around_rot f a (p :: m :: b), ← around_rot f a (p :: b)]
  show path f (p :: m :: b ++ a ++ [p]) + f p q = path f (p :: b ++ a ++ [p]) + f p m + f m q
  have e1 : p :: m :: b ++ a ++ [p] = p :: m :: (b ++ a ++ [p]) := by simp
  have e2 : p :: b ++ a ++ [p] = p :: (b ++ a ++ [p]) := by simp
  rw [e1, e2, hq]
  show f p m + (f m q + path f (q :: r)) + f p q = f p q + path f (q :: r) + f p m + f m q
  omega
theorem around_spikeS (f : Pt → Pt → Int) (a b : List Pt) (p m : Pt) : around f (a ++ p :: m :: p :: b) = around f (a ++ p :: b) + f p m + f m p := by
  rw [← around_rot f a (p :: m :: p :: b), ← around_rot f a (p :: b)]
  show path f (p :: m :: p :: b ++ a ++ [p]) = path f (p :: b ++ a ++ [p]) + f p m + f m p
  show f p m + (f m p + path f (p :: b ++ a ++ [p])) = path f (p :: b ++ a ++ [p]) + f p m + f m p
  omega
/-- 1 where two corners are one -/
def ind (p q : Pt) : Int := if p = q then 1 else 0
theorem ind_nn (p q : Pt) : 0 ≤ ind p q := by unfold ind; split <;> decide
theorem ind_comm (p q : Pt) : ind p q = ind q p := by
  unfold ind
  by_cases h : p = q
  · rw [if_pos h, if_pos h.symm]
  · rw [if_neg h, if_neg (Ne.symm h)]
theorem ind_ne {p q : Pt} (h : p ≠ q) : ind p q = 0 := if_neg h
theorem ind_0 {p q : Pt} (h : ind p q = 0) : p ≠ q := fun e => by unfold ind at h; rw [if_pos e] at h; cases h
def nb (l : List Pt) : Prop := around ind l = 0
theorem sum_0 : ∀ {xs : List Int}, (∀ x ∈ xs, 0 ≤ x) → (xs.sum = 0 ↔ ∀ x ∈ xs, x = 0)
  | [], _ => ⟨(fun _ _ h => nomatch h), fun _ => rfl⟩
  | x :: xs, h => by
    have h0 := h x List.mem_cons_self
    have ht : ∀ y ∈ xs, 0 ≤ y := fun y hy => h y (List.mem_cons_of_mem _ hy)
    have ih := sum_0 ht
    have hs : 0 ≤ xs.sum := by
      clear ih h h0
      induction xs with
      | nil => exact Int.le_refl _
      | cons y ys ih =>
        rw [List.sum_cons]
        have a1 := ht y List.mem_cons_self
        have a2 := ih fun z hz => ht z (List.mem_cons_of_mem _ hz)
        omega
    rw [List.sum_cons]
    constructor
    · intro e y hy
      rcases List.mem_cons.mp hy with r | r
      · omega
      · exact ih.mp (by omega) y r
    · intro e
      have a1 := e x List.mem_cons_self
      have a2 := ih.mpr fun y hy => e y (List.mem_cons_of_mem _ hy)
      omega
theorem nb_iff (l : List Pt) : nb l ↔ ∀ (j : Nat) p q, l[j]? = some p → l[(j + 1) % l.length]? = some q → p ≠ q := by
  unfold nb
  rw [around_ix ind (0, 0), sum_0 (fun x hx => by obtain ⟨j, _, rfl⟩ := List.mem_map.mp hx; exact ind_nn _ _)]
  constructor
  · intro h j p q hp hq
    have hj := (List.getElem?_eq_some_iff.mp hp).1
    have k := h _ (List.mem_map.mpr ⟨j, List.mem_range.mpr hj, rfl⟩)
    rw [List.getD_eq_getElem?_getD, List.getD_eq_getElem?_getD, hp, hq] at k
    exact ind_0 k
  · intro h x hx
    obtain ⟨j, hj, rfl⟩ := List.mem_map.mp hx
    have hj := List.mem_range.mp hj
    have hm : (j + 1) % l.length < l.length := Nat.mod_lt _ (by omega)
    have k := h j _ _ (List.getElem?_eq_getElem hj) (List.getElem?_eq_getElem hm)
    rw [List.getD_eq_getElem?_getD, List.getD_eq_getElem?_getD, List.getElem?_eq_getElem hj, List.getElem?_eq_getElem hm]
    exact ind_ne k
theorem nb_rot {a b : List Pt} (h : nb (a ++ b)) : nb (b ++ a) := by unfold nb at h ⊢; rw [around_rot]; exact h
theorem nb_rev {l : List Pt} (h : nb l) : nb l.reverse := by unfold nb at h ⊢; rw [around_revS _ ind_comm]; exact h
theorem nb_cut {a b c : List Pt} {p q : Pt} (h : nb (a ++ p :: b ++ q :: c)) (hpq : p ≠ q) : nb (p :: b ++ [q]) ∧ nb (q :: c ++ (a ++ [p])) := by
  have e := around_cutS ind a b c p q
  unfold nb at h ⊢
  rw [h, ind_ne hpq, ind_ne (Ne.symm hpq)] at e
  have h1 := around_nn ind ind_nn (p :: b ++ [q])
  have h2 := around_nn ind ind_nn (q :: c ++ (a ++ [p]))
  omega
theorem nb_more {a b : List Pt} {p m q : Pt} {r : List Pt} (hq : b ++ a ++ [p] = q :: r) (h : nb (a ++ p :: b)) (h1 : p ≠ m) (h2 : m ≠ q) : nb (a ++ p :: m :: b) := by
  have e := around_moreS ind a b p m q r hq
  unfold nb at h ⊢
  rw [h, ind_ne h1, ind_ne h2] at e
  have k1 := around_nn ind ind_nn (a ++ p :: m :: b)
  have k2 := ind_nn p q
  omega
theorem nb_spike {a b : List Pt} {p m : Pt} (h : nb (a ++ p :: b)) (h1 : p ≠ m) : nb (a ++ p :: m :: p :: b) := by
  have e := around_spikeS ind a b p m
  unfold nb at h ⊢
  rw [h, ind_ne h1, ind_ne (Ne.symm h1)] at e
  omega
end Win
set_option maxRecDepth 100000
set_option maxHeartbeats 4000000
namespace Pa
open PySem PySem.Spec PyProof.Rows L2 Win
/-! ### rings that the document lets -/
def GR (ps : List Pt) : Prop := (3 ≤ ps.length ∧ ps.length ≤ 8) ∧ (∀ p ∈ ps, GoodC p) ∧ nb ps
def GRs (rs : List (List Pt)) : Prop := (1 ≤ rs.length ∧ rs.length ≤ 3) ∧ ∀ ps ∈ rs, GR ps
theorem GR.good {ps : List Pt} (h : GR ps) : GoodR ps := ⟨h.1, h.2.1, (nb_iff ps).mp h.2.2⟩
theorem GR.of {ps : List Pt} (h : GoodR ps) : GR ps := ⟨h.1, h.2.1, (nb_iff ps).mpr h.2.2⟩
theorem GRs.good {rs : List (List Pt)} (h : GRs rs) : GoodO rs := ⟨h.1, fun ps hp => (h.2 ps hp).good⟩
theorem GRs.of {rs : List (List Pt)} (h : GoodO rs) : GRs rs := ⟨h.1, fun ps hp => GR.of (h.2 ps hp)⟩
def WQ (rs rs' : List (List Pt)) : Prop := (∀ x y, wind x y rs' = wind x y rs) ∨ ∀ x y, wind x y rs' = - wind x y rs
theorem WQ.refl (rs : List (List Pt)) : WQ rs rs := .inl fun _ _ => rfl
theorem WQ.trans {a b c : List (List Pt)} (h : WQ a b) (k : WQ b c) : WQ a c := by
  rcases h with h | h <;> rcases k with k | k
  · exact .inl fun x y => by rw [k, h]
  · exact .inr fun x y => by rw [k, h]
  · exact .inr fun x y => by rw [k, h]
  · exact .inl fun x y => by rw [k, h, Int.neg_neg]
theorem WQ.ink {rs rs' : List (List Pt)} (h : WQ rs rs') : EqI (wInk rs) (wInk rs') := fun y _ => by
  have e : ∀ x : Nat, inkB x y rs = inkB x y rs' := fun x => by
    unfold inkB
    have d : ∀ i : Int, decide (V.int i = V.int 0) = decide (i = 0) := fun i => by
      by_cases q : i = 0
      · rw [decide_eq_true q, decide_eq_true (congrArg V.int q)]
      · rw [decide_eq_false q, decide_eq_false (fun z => q (V.int.inj z) : ¬ V.int i = V.int 0)]
    rw [d, d]
    rcases h with h | h
    · rw [h]
    · rw [h]
      have : decide (wind ((x : Nat) : Int) ((y : Nat) : Int) rs = 0) = decide (- wind ((x : Nat) : Int) ((y : Nat) : Int) rs = 0) := by
        by_cases q : wind ((x : Nat) : Int) ((y : Nat) : Int) rs = 0
        · rw [decide_eq_true q, decide_eq_true (by omega)]
        · rw [decide_eq_false q, decide_eq_false (by omega)]
      rw [this]
  show R4.mk (inkB 0 y rs) (inkB 1 y rs) (inkB 2 y rs) (inkB 3 y rs) = R4.mk (inkB 0 y rs') (inkB 1 y rs') (inkB 2 y rs') (inkB 3 y rs')
  rw [e 0, e 1, e 2, e 3]
theorem wind_app (x y : Int) (a b : List (List Pt)) : wind x y (a ++ b) = wind x y a + wind x y b := by
  unfold wind
  rw [List.map_append, List.sum_append]
theorem wind_one (x y : Int) (l : List Pt) : wind x y [l] = fan x y l := by
  unfold wind
  simp
section
variable {P : Program} {w : World} {K : PySem.W.Frag} {mg : Str → Option Value} {base : Heap} {C : Addr}
def spOnSide : Sp := fun vs H Q _ => ∃ v1 v2 p q, vs = [v1, v2] ∧ CornT H v1 p ∧ CornT H v2 q ∧ GoodC p ∧ GoodC q ∧ ∀ l ls ms H', H l = none → Same H H' → H' l = some (.lst ls) → AllAt CornT H' ls ms → (∀ m ∈ ms, onLine p m q ∧ GoodC m ∧ p ≠ m ∧ m ≠ q) → ms.length ≤ 25 → Q (.ref l) H'
abbrev sL_on_side : Stmt := topS 43
theorem scL_on_side : FnScope ["_law_start", "_law_stop", "_law_found", "_law_spot", "_law_x", "_law_y", "_law_straight", "_law_ahead"] ["_law_start", "_law_stop"] (defScope sL_on_side) := ⟨rfl, rfl, rfl, by decide +kernel, rfl, by decide +kernel, by decide +kernel⟩
theorem ok_onside {f : Addr} {fd : FuncData} (F : Fun K "_law_on_side" "_law_on_side" sL_on_side f fd) (T : Txt K mg) : FnOk P w K mg base CX0 1 f fd ["_law_start", "_law_stop"] spOnSide := by
  refine F.ok scL_on_side (fun vs H Q E h => ?_) (fun cdv A outer s H vs Q E hr h => ?_)
  · obtain ⟨v1, v2, p, q, rfl, _⟩ := h
    rfl
  · obtain ⟨v1, v2, p, q, rfl, ⟨a, rfl, ha⟩, ⟨b, rfl, hb⟩, gp, gq, k⟩ := h
    refine ⟨_, (pss_cons (ps_set (i := 2) scL_on_side.nd rfl (.inl rfl) (pe_lst pa_nil))
      (pss_cons (ps_for PassesOwn.never rfl (pi_range1 (by rfl) T.b_range (pa_cons pe_int pa_nil)) (pg_name (i := 3) scL_on_side.nd rfl (.inl rfl))
        (pss_cons (ps_par (i := 4) (j := 5) (by rfl) scL_on_side.nd rfl rfl (by decide) rfl rfl (pa_cons (pe_op op_fdiv (pv 3) pe_int) (pa_cons (pe_op op_sub (pv 3) (pe_op op_mul (pe_op op_fdiv (pv 3) pe_int) pe_int)) pa_nil)) (by rfl))
        (pss_cons (ps_set (i := 6) scL_on_side.nd rfl (.inl rfl) (pe_cmpR op_eq (pe_op op_mul (pe_op op_sub (pe_ix ix_tup (pv 1) pe_int (fun _ _ => rfl)) (pe_ix ix_tup (pv 0) pe_int (fun _ _ => rfl))) (pe_op op_sub (pv 5) (pe_ix ix_tup (pv 0) pe_int (fun _ _ => rfl)))) (pe_op op_mul (pe_op op_sub (pe_ix ix_tup (pv 1) pe_int (fun _ _ => rfl)) (pe_ix ix_tup (pv 0) pe_int (fun _ _ => rfl))) (pe_op op_sub (pv 4) (pe_ix ix_tup (pv 0) pe_int (fun _ _ => rfl)))) (nomark _)))
        (pss_cons (ps_set (i := 7) scL_on_side.nd rfl (.inl rfl) (pe_op op_add (pe_op op_mul (pe_op op_sub (pv 4) (pe_ix ix_tup (pv 0) pe_int (fun _ _ => rfl))) (pe_op op_sub (pe_ix ix_tup (pv 1) pe_int (fun _ _ => rfl)) (pv 4))) (pe_op op_mul (pe_op op_sub (pv 5) (pe_ix ix_tup (pv 0) pe_int (fun _ _ => rfl))) (pe_op op_sub (pe_ix ix_tup (pv 1) pe_int (fun _ _ => rfl)) (pv 5)))))
        (pss_one (ps_if (PW.pt (pw_and (pt_val (pv 6)) (pw_and1 (pt_cmpR op_gt (pv 7) pe_int (nomark _)))))
          (pss_one (ps_expr (pe_bm PySem.F.plainAttrs_list PySem.F.slot_list_append PySem.F.type_list_append mt_append (pv 2) (pa_cons (pe_tup (pa_cons (pv 4) (pa_cons (pv 5) pa_nil))) pa_nil))))
          pss_nil))))))
      (pss_one (ps_ret (pv 2))))), ?_⟩
    obtain ⟨p1, p2⟩ := p
    obtain ⟨q1, q2⟩ := q
    unfold GoodC at gp gq
    dsimp only at gp gq
    refine ⟨Nat.zero_le _, fun L hL => ?_⟩
    refine ⟨25, rfl, by decide, by decide, for_range (lo := 0) (n := (25 : Int).toNat) (fun i σ H' => ∃ (y3 y4 y5 y6 y7 : Option V) (ls : List V) (ms : List Pt), σ = [some (.ref a), some (.ref b), some (.ref L), y3, y4, y5, y6, y7] ∧ Same H H' ∧ H' L = some (.lst ls) ∧ AllAt CornT H' ls ms ∧ (∀ m ∈ ms, onLine (p1, p2) m (q1, q2) ∧ GoodC m ∧ (p1, p2) ≠ m ∧ m ≠ (q1, q2)) ∧ ms.length ≤ i)
      ⟨_, _, _, _, _, [], [], rfl, same_new hL, upd_same, trivial, (fun _ z => nomatch z), Nat.le_refl _⟩ ?_ ?_⟩
    · rintro i σ H1 hi ⟨y3, y4, y5, y6, y7, ls, ms, rfl, s1, hL1, hal, hms, hml⟩
      have hi25 : i < 25 := hi
      show gName 3 _ _ _ _
      rw [Int.zero_add]
      have ha1 := s1 _ _ ha
      have hb1 := s1 _ _ hb
      refine ⟨_, rfl, _, _, rfl, rfl, ⟨by decide, by decide⟩, ?_⟩
      refine ⟨_, rfl, _, rfl, _, _, rfl, rfl, ⟨by decide, by decide⟩, _, _, rfl, rfl, .inr ⟨by decide, by decide⟩, _, _, rfl, rfl, ⟨_, _, rfl, ?_⟩⟩
      obtain ⟨x, hx⟩ : ∃ x : Int, x = (i : Int) / 5 := ⟨_, rfl⟩
      obtain ⟨y, hy⟩ : ∃ y : Int, y = (i : Int) - x * 5 := ⟨_, rfl⟩
      have bx : 0 ≤ x ∧ x ≤ 4 := by omega
      have bY : 0 ≤ y ∧ y ≤ 4 := by omega
      dsimp only
      rw [← hx, ← hy]
      refine ⟨_, rfl, b, _, _, _, rfl, rfl, SqT.of hb1, atI_nat (j := 0) rfl, _, rfl, a, _, _, _, rfl, rfl, SqT.of ha1, atI_nat (j := 0) rfl, _, _, rfl, rfl, ?_⟩
      refine ⟨_, rfl, _, rfl, a, _, _, _, rfl, rfl, SqT.of ha1, atI_nat (j := 1) rfl, _, _, rfl, rfl, _, _, rfl, rfl, .inr ⟨by omega, by omega⟩, ?_⟩
      refine ⟨_, rfl, b, _, _, _, rfl, rfl, SqT.of hb1, atI_nat (j := 1) rfl, _, rfl, a, _, _, _, rfl, rfl, SqT.of ha1, atI_nat (j := 1) rfl, _, _, rfl, rfl, ?_⟩
      refine ⟨_, rfl, _, rfl, a, _, _, _, rfl, rfl, SqT.of ha1, atI_nat (j := 0) rfl, _, _, rfl, rfl, _, _, rfl, rfl, .inr ⟨by omega, by omega⟩, rfl, ?_⟩
      -- ahead
      refine ⟨_, rfl, _, rfl, a, _, _, _, rfl, rfl, SqT.of ha1, atI_nat (j := 0) rfl, _, _, rfl, rfl, ?_⟩
      refine ⟨_, rfl, b, _, _, _, rfl, rfl, SqT.of hb1, atI_nat (j := 0) rfl, _, rfl, _, _, rfl, rfl, _, _, rfl, rfl, .inr ⟨by omega, by omega⟩, ?_⟩
      refine ⟨_, rfl, _, rfl, a, _, _, _, rfl, rfl, SqT.of ha1, atI_nat (j := 1) rfl, _, _, rfl, rfl, ?_⟩
      refine ⟨_, rfl, b, _, _, _, rfl, rfl, SqT.of hb1, atI_nat (j := 1) rfl, _, rfl, _, _, rfl, rfl, _, _, rfl, rfl, .inr ⟨by omega, by omega⟩, _, _, rfl, rfl, ?_⟩
      refine ⟨_, rfl, _, rfl, ite2 (fun c1 => ?_) (fun c1 => ?_)⟩
      · refine ⟨_, rfl, _, _, rfl, rfl, _, rfl, ite2 (fun c2 => ?_) (fun c2 => ?_)⟩
        · have c1 := V.int.inj (of_decide_eq_true c1)
          have c2 := of_decide_eq_true c2
          dsimp only at c1 c2
          refine ⟨_, rfl, .inl ⟨rfl, _, SqL.of hL1⟩, ?_⟩
          refine ⟨_, rfl, _, rfl, by show 2 ≤ sizeLine; decide, fun t ht => ?_⟩
          obtain ⟨g1, g2, g3, g4⟩ := all_push (f := ptV) (y := ((x, y) : Pt)) (tv := [.int x, .int y]) hL1 hal ht rfl
          refine ⟨L, ls, _, rfl, rfl, ?_, Nat.lt_of_le_of_lt (m := 25) (by rw [hal.len]; omega) (by decide), ?_⟩
          · exact same_new ht _ _ hL1
          · refine ⟨_, _, _, _, _, _, ms ++ [(x, y)], rfl, ?_, g1, g2, fun m hm => ?_, by rw [List.length_append]; exact Nat.succ_le_succ hml⟩
            · exact same_put hL (s1.trans (same_new ht))
            · rcases List.mem_append.mp hm with hm | hm
              · exact hms m hm
              · rw [List.mem_singleton.mp hm]
                refine ⟨?_, ⟨bx, bY⟩, fun e => ?_, fun e => ?_⟩
                · unfold onLine
                  dsimp only
                  exact c1
                · injection e with e1 e2
                  subst e1 e2
                  simp at c2
                · injection e with e1 e2
                  subst e1 e2
                  simp at c2
        · exact ⟨_, _, _, _, _, ls, ms, rfl, s1, hL1, hal, hms, by omega⟩
      · exact ⟨_, _, _, _, _, ls, ms, rfl, s1, hL1, hal, hms, by omega⟩
    · rintro σ H1 ⟨y3, y4, y5, y6, y7, ls, ms, rfl, s1, hL1, hal, hms, hml⟩
      exact ⟨_, rfl, k L ls ms H1 hL s1 hL1 hal hms (by show ms.length ≤ 25; exact hml)⟩
end
end Pa
set_option maxRecDepth 100000
set_option maxHeartbeats 4000000
namespace Pa
open PySem PySem.Spec PyProof.Rows L2 Win
theorem cutV_to {p : Nat} (xs : List V) (h : p ≤ xs.length) : cutV xs none (some (p : Int)) = xs.take p := by
  unfold cutV
  rw [HT.sIx_nat, HT.sIx_none, Nat.min_eq_left h, Nat.sub_zero, List.drop_zero]
theorem cutV_from {p : Nat} (xs : List V) (h : p ≤ xs.length) : cutV xs (some (p : Int)) none = xs.drop p := by
  unfold cutV
  rw [HT.sIx_nat, HT.sIx_none, Nat.min_eq_left h]
  exact List.take_of_length_le (by rw [List.length_drop]; exact Nat.le_refl _)
theorem eqv_nilL (ds : List PyData) : PyData.eqv (.list ds) (.list []) = ds.isEmpty := by
  cases ds <;> simp [PyData.eqv, PyData.eqvAll]
theorem rgD_shaped (ps : List Pt) : SeqAt.shaped (rgD ps) = true := by
  have h1 := rgD_lay ps
  have h2 : (rgD ps).depth ≤ 64 := Nat.le_trans (rgD_dep ps) (by decide)
  show ((rgD ps).canLay0 && decide ((rgD ps).depth ≤ 64)) = true
  rw [h1, decide_eq_true h2]
  rfl
/-! ### one corner more -/
theorem split_at {ps : List Pt} {k : Nat} {p : Pt} (h : ps[k]? = some p) : ps = ps.take k ++ p :: ps.drop (k + 1) ∧ ps.take (k + 1) = ps.take k ++ [p] := by
  have hl := (List.getElem?_eq_some_iff.mp h).1
  have e2 : ps.take (k + 1) = ps.take k ++ [p] := by rw [List.take_add_one, h]; rfl
  refine ⟨?_, e2⟩
  have e := (List.take_append_drop (k + 1) ps).symm
  rw [e2] at e
  rw [List.append_assoc] at e
  exact e
theorem next_at {ps : List Pt} {k : Nat} {p q : Pt} (h : ps[k]? = some p) (hq : ps[if k + 1 < ps.length then k + 1 else 0]? = some q) : ∃ r, ps.drop (k + 1) ++ ps.take k ++ [p] = q :: r := by
  have hl := (List.getElem?_eq_some_iff.mp h).1
  by_cases c : k + 1 < ps.length
  · rw [if_pos c] at hq
    have e : ps.drop (k + 1) = q :: ps.drop (k + 2) := by
      rw [List.drop_eq_getElem_cons c]
      rw [List.getElem?_eq_getElem c] at hq
      cases hq
      rfl
    rw [e]
    exact ⟨_, rfl⟩
  · rw [if_neg c] at hq
    have e : ps.drop (k + 1) = [] := List.drop_of_length_le (by omega)
    rw [e, List.nil_append, ← (split_at h).2]
    cases ps with
    | nil => cases hq
    | cons z t =>
      cases hq
      exact ⟨_, rfl⟩
theorem more_GR {ps : List Pt} {k : Nat} {p m q : Pt} (g : GR ps) (h7 : ps.length ≤ 7) (h : ps[k]? = some p) (hq : ps[if k + 1 < ps.length then k + 1 else 0]? = some q) (gm : GoodC m) (ol : onLine p m q) (n1 : p ≠ m) (n2 : m ≠ q) :
    GR (ps.take (k + 1) ++ [m] ++ ps.drop (k + 1)) ∧ ∀ x y, fan x y (ps.take (k + 1) ++ [m] ++ ps.drop (k + 1)) = fan x y ps := by
  obtain ⟨e1, e2⟩ := split_at h
  obtain ⟨r, hr⟩ := next_at h hq
  have e3 : ps.take (k + 1) ++ [m] ++ ps.drop (k + 1) = ps.take k ++ p :: m :: ps.drop (k + 1) := by rw [e2]; simp
  have hnb : nb (ps.take k ++ p :: ps.drop (k + 1)) := by rw [← e1]; exact g.2.2
  rw [e3]
  refine ⟨⟨?_, fun z hz => ?_, nb_more hr hnb n1 n2⟩, fun x y => ?_⟩
  · have hl := congrArg List.length e1
    have := g.1
    simp only [List.length_append, List.length_cons] at hl ⊢
    omega
  · rcases List.mem_append.mp hz with hz | hz
    · exact g.2.1 z (List.mem_of_mem_take hz)
    · rcases List.mem_cons.mp hz with hz | hz
      · rw [hz]
        exact g.2.1 p (List.mem_of_getElem? h)
      · rcases List.mem_cons.mp hz with hz | hz
        · rw [hz]
          exact gm
        · exact g.2.1 z (List.mem_of_mem_drop hz)
  · rw [fan_more x y _ _ p m q r hr ol, ← e1]
theorem spike_GR {ps : List Pt} {k : Nat} {p m : Pt} (g : GR ps) (h6 : ps.length ≤ 6) (h : ps[k]? = some p) (gm : GoodC m) (n1 : p ≠ m) :
    GR (ps.take (k + 1) ++ [m, p] ++ ps.drop (k + 1)) ∧ ∀ x y, fan x y (ps.take (k + 1) ++ [m, p] ++ ps.drop (k + 1)) = fan x y ps := by
  obtain ⟨e1, e2⟩ := split_at h
  have e3 : ps.take (k + 1) ++ [m, p] ++ ps.drop (k + 1) = ps.take k ++ p :: m :: p :: ps.drop (k + 1) := by rw [e2]; simp
  have hnb : nb (ps.take k ++ p :: ps.drop (k + 1)) := by rw [← e1]; exact g.2.2
  have gp := g.2.1 p (List.mem_of_getElem? h)
  rw [e3]
  refine ⟨⟨?_, fun z hz => ?_, nb_spike hnb n1⟩, fun x y => ?_⟩
  · have hl := congrArg List.length e1
    have := g.1
    simp only [List.length_append, List.length_cons] at hl ⊢
    omega
  · rcases List.mem_append.mp hz with hz | hz
    · exact g.2.1 z (List.mem_of_mem_take hz)
    · rcases List.mem_cons.mp hz with hz | hz
      · rw [hz]; exact gp
      · rcases List.mem_cons.mp hz with hz | hz
        · rw [hz]; exact gm
        · rcases List.mem_cons.mp hz with hz | hz
          · rw [hz]; exact gp
          · exact g.2.1 z (List.mem_of_mem_drop hz)
  · rw [fan_spike, ← e1]
end Pa
set_option maxRecDepth 100000
set_option maxHeartbeats 4000000
namespace Pa
open PySem PySem.Spec PyProof.Rows L2 Win
theorem bag_sameS {b : Addr} {H H' : Hp} (s : Same H H') (h : IsBag H b) : IsBag H' b := by
  obtain ⟨g, x, c, e⟩ := h
  exact ⟨g, x, c, s _ _ e⟩
theorem bk_ofS {b : Addr} {H H' : Hp} (s : Same H H') (h : IsBag H b) : Bk b H H' := ⟨bag_sameS s h, fun q o _ e => s q o e⟩
section
variable {P : Program} {w : World} {K : PySem.W.Frag} {mg : Str → Option Value} {base : Heap} {C : Addr}
def spLen : Sp := fun vs H Q _ => ∃ b r xs ps, vs = [.ref b, .ref r] ∧ IsBag H b ∧ r ≠ b ∧ H r = some (.lst xs) ∧ AllAt CornT H xs ps ∧ GR ps ∧ ∀ r' xs' ps' H', Bk b H H' → r' ≠ b → H' r' = some (.lst xs') → AllAt CornT H' xs' ps' → GR ps' → (∀ x y, fan x y ps' = fan x y ps) → Q (.ref r') H'
abbrev sL_lengthened : Stmt := topS 45
theorem scL_lengthened : FnScope ["_law_bag_here", "_law_ring_here", "_law_k", "_law_between", "_law_far"] ["_law_bag_here", "_law_ring_here"] (defScope sL_lengthened) := ⟨rfl, rfl, rfl, by decide +kernel, rfl, by decide +kernel, by decide +kernel⟩
theorem ok_llen {f : Addr} {fd : FuncData} (F : Fun K "_law_lengthened" "_law_lengthened" sL_lengthened f fd) (T : Txt K mg) (C__law_draw : CallOk P w K mg base 1 "_law_draw" ["_law_bag_here", "_law_many"] spDraw) (C__law_one : CallOk P w K mg base 2 "_law_one" ["_law_bag_here", "_law_things"] spOne) (C__law_on_side : CallOk P w K mg base 1 "_law_on_side" ["_law_start", "_law_stop"] spOnSide) : FnOk P w K mg base CX0 3 f fd ["_law_bag_here", "_law_ring_here"] spLen := by
  refine F.ok scL_lengthened (fun vs H Q E h => ?_) (fun cdv A outer s H vs Q E hr h => ?_)
  · obtain ⟨b, r, xs, ps, rfl, _⟩ := h
    rfl
  · obtain ⟨b, r, xs, ps, rfl, hb, nrb, hx, hps, g, k⟩ := h
    refine ⟨_, (pss_cons (ps_set (i := 2) scL_lengthened.nd rfl (.inl rfl) (pe_cc C__law_draw (hr.mono (by decide)) (by rfl) (pa_cons (pv 0) (pa_cons (pe_callB (r := rLenQ K) (id := "len") (call_lenQ (K := K) rfl) (by rfl) T.b_len PySem.boot_len (pa_cons (pv 1) pa_nil)) pa_nil))))
      (pss_cons (ps_set (i := 3) scL_lengthened.nd rfl (.inl rfl) (pe_cc C__law_on_side (hr.mono (by decide)) (by rfl) (pa_cons (pe_ix ix_list (pv 1) (pv 2) (fun _ _ => rfl)) (pa_cons (pe_ix ix_list (pv 1) (pe_op op_mul (pe_op op_add (pv 2) pe_int) (pe_callTy call_int1 (by rfl) T.b_int (by decide +kernel) (pa_cons (pe_cmpR op_lt (pe_op op_add (pv 2) pe_int) (pe_callB (r := rLenQ K) (id := "len") (call_lenQ (K := K) rfl) (by rfl) T.b_len PySem.boot_len (pa_cons (pv 1) pa_nil)) (nomark _)) pa_nil))) (fun _ _ => rfl)) pa_nil))))
      (pss_cons (ps_if (pt_cmpR op_eq (pe_cc C__law_draw (hr.mono (by decide)) (by rfl) (pa_cons (pv 0) (pa_cons pe_int pa_nil))) pe_int (nomark _))
        (pss_cons (ps_if (PW.pt (pw_or (pt_cmpR (op_eqD hr.units) (pv 3) (pe_lst pa_nil) (nomark _)) (pw_or1 (pt_cmpR op_gt (pe_callB (r := rLenQ K) (id := "len") (call_lenQ (K := K) rfl) (by rfl) T.b_len PySem.boot_len (pa_cons (pv 1) pa_nil)) pe_int (nomark _)))))
          (pss_one (ps_ret (pv 1)))
          pss_nil)
        (pss_one (ps_ret (pe_op op_cat (pe_op op_cat (pe_slice sl_list (pv 1) po_none (po_some (pe_op op_add (pv 2) pe_int))) (pe_lst (pa_cons (pe_cc C__law_one (hr.mono (by decide)) (by rfl) (pa_cons (pv 0) (pa_cons (pv 3) pa_nil))) pa_nil))) (pe_slice sl_list (pv 1) (po_some (pe_op op_add (pv 2) pe_int)) po_none)))))
        pss_nil)
      (pss_cons (ps_set (i := 4) scL_lengthened.nd rfl (.inl rfl) (pe_tup (pa_cons (pe_cc C__law_draw (hr.mono (by decide)) (by rfl) (pa_cons (pv 0) (pa_cons pe_int pa_nil))) (pa_cons (pe_cc C__law_draw (hr.mono (by decide)) (by rfl) (pa_cons (pv 0) (pa_cons pe_int pa_nil))) pa_nil))))
      (pss_cons (ps_if (PW.pt (pw_or (pt_cmpR op_gt (pe_callB (r := rLenQ K) (id := "len") (call_lenQ (K := K) rfl) (by rfl) T.b_len PySem.boot_len (pa_cons (pv 1) pa_nil)) pe_int (nomark _)) (pw_or1 (pt_cmpR (op_eqD hr.units) (pv 4) (pe_ix ix_list (pv 1) (pv 2) (fun _ _ => rfl)) (nomark _)))))
        (pss_one (ps_ret (pv 1)))
        pss_nil)
      (pss_one (ps_ret (pe_op op_cat (pe_op op_cat (pe_slice sl_list (pv 1) po_none (po_some (pe_op op_add (pv 2) pe_int))) (pe_lst (pa_cons (pv 4) (pa_cons (pe_ix ix_list (pv 1) (pv 2) (fun _ _ => rfl)) pa_nil)))) (pe_slice sl_list (pv 1) (po_some (pe_op op_add (pv 2) pe_int)) po_none))))))))), ?_⟩
    have hlen := hps.len
    obtain ⟨⟨g3, g8⟩, gc, gn⟩ := id g
    refine ⟨_, rfl, _, rfl, r, xs, rfl, .inl (SqL.of hx), b, _, rfl, hb, by omega, Int.lt_of_le_of_lt (b := 1000) (by omega) (by decide), fun kk H1 k0 k1 B1 => ?_⟩
    obtain ⟨kk, rfl⟩ : ∃ n : Nat, kk = (n : Int) := ⟨kk.toNat, by omega⟩
    have hk : kk < ps.length := by omega
    have hx1 := B1.keep _ _ nrb hx
    have hps1 := hps.mono fun _ _ => Bk.cornT hb B1
    obtain ⟨v1, hv1, c1⟩ := hps1.to (List.getElem?_eq_getElem hk)
    have hj : (if kk + 1 < ps.length then kk + 1 else 0) < ps.length := by split <;> omega
    obtain ⟨v2, hv2, c2⟩ := hps1.to (List.getElem?_eq_getElem hj)
    have hpk : ps[kk]? = some ps[kk] := List.getElem?_eq_getElem hk
    have hpj : ps[if kk + 1 < ps.length then kk + 1 else 0]? = some (ps[if kk + 1 < ps.length then kk + 1 else 0]'hj) := List.getElem?_eq_getElem hj
    refine ⟨_, rfl, _, rfl, r, _, _, _, rfl, rfl, SqL.of hx1, atI_nat hv1, ?_⟩
    refine ⟨_, rfl, _, rfl, _, _, rfl, rfl, ?_⟩
    refine ⟨_, rfl, _, _, rfl, rfl, _, rfl, r, xs, rfl, .inl (SqL.of hx1), _, _, rfl, rfl, .inr ⟨_, rfl, _, _, rfl, rfl, .inr ⟨by split <;> decide, by split <;> decide⟩, ?_⟩⟩
    have ej : ((kk : Int) + 1) * (if (decide ((kk : Int) + 1 < (xs.length : Int))) = true then 1 else 0) = (((if kk + 1 < ps.length then kk + 1 else 0) : Nat) : Int) := by
      by_cases q : kk + 1 < ps.length
      · rw [if_pos q, if_pos (decide_eq_true (by omega))]
        omega
      · rw [if_neg q, if_neg (fun z => q (by have := of_decide_eq_true z; omega))]
        simp
    dsimp only
    rw [ej]
    refine ⟨r, _, _, _, rfl, rfl, SqL.of hx1, atI_nat hv2, v1, v2, _, _, rfl, c1, c2, gc _ (List.getElem_mem hk), gc _ (List.getElem_mem hj), fun L ls ms H2 hL s2 hL2 hms hprop hml => ?_⟩
    have B2 : Bk b H H2 := B1.trans (bk_ofS s2 B1.bag)
    have nLb : L ≠ b := bag_ne B1.bag hL
    have ek : (kk : Int) + 1 = ((kk + 1 : Nat) : Int) := by omega
    have cut1 : cutV xs none (some ((kk : Int) + 1)) = xs.take (kk + 1) := by rw [ek, cutV_to _ (by omega)]
    have cut2 : cutV xs (some ((kk : Int) + 1)) none = xs.drop (kk + 1) := by rw [ek, cutV_from _ (by omega)]
    refine ⟨_, rfl, b, 2, rfl, B2.bag, by decide, by decide, fun d H3 d0 d1 B3 => ⟨rfl, _, rfl, ite2 (fun c => ?_) (fun c => ?_)⟩⟩
    · have B4 := B2.trans B3
      have hx3 := B4.keep _ _ nrb hx
      have hps3 := hps.mono fun _ _ => Bk.cornT hb B4
      have hL3 := B3.keep _ _ nLb hL2
      have hms3 := hms.mono fun _ _ => Bk.cornT B2.bag B3
      refine ⟨_, rfl, Nat.zero_le _, fun q hq => ?_⟩
      have sq := same_new (o := .lst []) hq
      refine ⟨rgD ms, .list [], dp_rg ⟨L, ls, rfl, sq _ _ hL3, hms3.mono fun _ _ => CornT.mono sq⟩, .lst (SqL.of upd_same) .nil, rgD_shaped _, by decide +kernel, _, rfl, ?_⟩
      have B5 : Bk b H (upd H3 q (.lst [])) := B4.trans (bk_ofS sq B4.bag)
      have hx5 := sq _ _ hx3
      have hps5 := hps3.mono fun _ _ => CornT.mono sq
      have hL5 := sq _ _ hL3
      have hms5 := hms3.mono fun _ _ => CornT.mono sq
      generalize upd H3 q (.lst []) = H5 at B5 hx5 hps5 hL5 hms5 ⊢
      unfold rgD
      rw [eqv_nilL, List.isEmpty_map]
      refine ite2 (fun e1 => ⟨_, rfl, k r xs ps H5 B5 nrb hx5 hps5 g fun _ _ => rfl⟩) (fun e1 => ?_)
      refine ⟨_, rfl, r, xs, rfl, .inl (SqL.of hx5), _, _, rfl, rfl, _, rfl, ite2 (fun e2 => ⟨_, rfl, k r xs ps H5 B5 nrb hx5 hps5 g fun _ _ => rfl⟩) (fun e2 => ?_)⟩
      have h7 : ps.length ≤ 7 := by
        rcases Nat.lt_or_ge 7 ps.length with z | z
        · exact absurd (decide_eq_true (show ((xs.length : Nat) : Int) > 7 by omega)) e2
        · exact z
      have hm1 : 1 ≤ ms.length := by
        cases ms with
        | nil => exact absurd rfl e1
        | cons _ _ => exact Nat.succ_pos _
      refine ⟨_, rfl, _, rfl, _, _, rfl, rfl, _, rfl, r, xs, rfl, SqL.of hx5, fun a1 h1 => ?_⟩
      rw [cut1]
      have s1 := same_new (o := .lst (xs.take (kk + 1))) h1
      have B6 := B5.trans (bk_ofS s1 B5.bag)
      have n1b : a1 ≠ b := bag_ne B5.bag h1
      have ha1 : (upd H5 a1 (.lst (xs.take (kk + 1)))) a1 = some (.lst (xs.take (kk + 1))) := upd_same
      have hL6 := s1 _ _ hL5
      have hms6 := hms5.mono fun _ _ => CornT.mono s1
      generalize upd H5 a1 (.lst (xs.take (kk + 1))) = H6 at s1 B6 ha1 hL6 hms6 ⊢
      refine ⟨_, rfl, _, rfl, b, L, ls, rfl, B6.bag, hL6, nLb, by rw [hms.len]; exact hm1, by rw [hms.len]; omega, fun i v H7 hv B7 => ⟨by show 1 ≤ sizeLine; decide, fun a2 h2 => ?_⟩⟩
      obtain ⟨m, hm, cm⟩ := hms6.at hv
      have cm7 : CornT H7 v m := Bk.cornT B6.bag B7 cm
      have ha17 := B7.keep _ _ n1b ha1
      have B8 := B6.trans B7
      have s2' := same_new (o := .lst [v]) h2
      refine ⟨a1, a2, _, _, rfl, rfl, s2' _ _ ha17, upd_same, Nat.le_trans (m := 20) (by rw [List.length_take, List.length_singleton]; omega) (by decide), fun a3 h3 => ?_⟩
      have s3 := same_new (o := .lst (xs.take (kk + 1) ++ [v])) h3
      have s23 := s2'.trans s3
      have B9 := B8.trans (bk_ofS s23 B8.bag)
      have hx9 := B9.keep _ _ nrb hx
      refine ⟨_, rfl, _, rfl, _, _, rfl, rfl, _, rfl, r, xs, rfl, SqL.of hx9, fun a4 h4 => ?_⟩
      rw [cut2]
      have s4 := same_new (o := .lst (xs.drop (kk + 1))) h4
      refine ⟨a3, a4, _, _, rfl, rfl, s4 _ _ upd_same, upd_same, Nat.le_trans (m := 40) (by rw [List.length_append, List.length_take, List.length_drop, List.length_singleton]; omega) (by decide), fun a5 h5 => ?_⟩
      have s5 := same_new (o := .lst (xs.take (kk + 1) ++ [v] ++ xs.drop (kk + 1))) h5
      have B10 := B9.trans (bk_ofS (s4.trans s5) B9.bag)
      have n5b : a5 ≠ b := bag_ne (bag_sameS s4 B9.bag) h5
      have hpsE := hps.mono fun _ _ => Bk.cornT hb B10
      have cmE := CornT.mono ((s23.trans s4).trans s5) cm7
      obtain ⟨o1, o2, o3, o4⟩ := hprop m (List.mem_of_getElem? hm)
      obtain ⟨gm, gf⟩ := more_GR g h7 hpk hpj o2 o1 o3 o4
      exact k a5 _ (ps.take (kk + 1) ++ [m] ++ ps.drop (kk + 1)) _ B10 n5b upd_same (((hpsE.take (kk + 1)).snoc cmE).app (hpsE.drop (kk + 1))) gm gf
    · have B4 := B2.trans B3
      refine ⟨_, rfl, b, 5, rfl, B4.bag, by decide, by decide, fun fx H5 f0 f1 B5 => ?_⟩
      refine ⟨_, rfl, b, 5, rfl, B5.bag, by decide, by decide, fun fy H6 f2 f3 B6 => ⟨by show 2 ≤ sizeLine; decide, fun t ht => ?_⟩⟩
      have st := same_new (o := .tup [.int fx, .int fy]) ht
      have B7 : Bk b H (upd H6 t (.tup [.int fx, .int fy])) := ((B4.trans B5).trans B6).trans (bk_ofS st B6.bag)
      have ct : CornT (upd H6 t (.tup [.int fx, .int fy])) (.ref t) (fx, fy) := ⟨t, rfl, upd_same⟩
      generalize upd H6 t (.tup [.int fx, .int fy]) = H7 at B7 ct ⊢
      have hx7 := B7.keep _ _ nrb hx
      have hps7 := hps.mono fun _ _ => Bk.cornT hb B7
      refine ⟨_, rfl, r, xs, rfl, .inl (SqL.of hx7), _, _, rfl, rfl, _, rfl, ite2 (fun e2 => ⟨_, rfl, k r xs ps H7 B7 nrb hx7 hps7 g fun _ _ => rfl⟩) (fun e2 => ?_)⟩
      have h6 : ps.length ≤ 6 := by
        rcases Nat.lt_or_ge 6 ps.length with z | z
        · exact absurd (decide_eq_true (show ((xs.length : Nat) : Int) > 6 by omega)) e2
        · exact z
      obtain ⟨v7, hv7, c7⟩ := hps7.to hpk
      rw [hv1] at hv7
      cases hv7
      refine ⟨_, rfl, _, rfl, _, rfl, r, _, _, _, rfl, rfl, SqL.of hx7, atI_nat hv1, _, _, dp_ptT ct, dp_ptT c7, ptD_shaped _, ptD_shaped _, _, rfl, ite2 (fun e3 => ⟨_, rfl, k r xs ps H7 B7 nrb hx7 hps7 g fun _ _ => rfl⟩) (fun e3 => ?_)⟩
      have hne : ps[kk] ≠ (fx, fy) := fun z => e3 (by rw [z, SeqAt.eqv_refl _ (ptD_lay _)])
      refine ⟨_, rfl, _, rfl, _, _, rfl, rfl, _, rfl, r, xs, rfl, SqL.of hx7, fun a1 h1 => ?_⟩
      rw [cut1]
      have s1 := same_new (o := .lst (xs.take (kk + 1))) h1
      refine ⟨_, rfl, _, rfl, _, rfl, r, _, _, _, rfl, rfl, SqL.of (s1 _ _ hx7), atI_nat hv1, by show 2 ≤ sizeLine; decide, fun a2 h2 => ?_⟩
      have s2' := same_new (o := .lst [.ref t, v1]) h2
      refine ⟨a1, a2, _, _, rfl, rfl, s2' _ _ upd_same, upd_same, Nat.le_trans (m := 20) (by rw [List.length_take]; show min (kk + 1) xs.length + 2 ≤ 20; omega) (by decide), fun a3 h3 => ?_⟩
      have s3 := same_new (o := .lst (xs.take (kk + 1) ++ [.ref t, v1])) h3
      have s13 := (s1.trans s2').trans s3
      refine ⟨_, rfl, _, rfl, _, _, rfl, rfl, _, rfl, r, xs, rfl, SqL.of (s13 _ _ hx7), fun a4 h4 => ?_⟩
      rw [cut2]
      have s4 := same_new (o := .lst (xs.drop (kk + 1))) h4
      refine ⟨a3, a4, _, _, rfl, rfl, s4 _ _ upd_same, upd_same, Nat.le_trans (m := 40) (by rw [List.length_append, List.length_take, List.length_drop]; show min (kk + 1) xs.length + 2 + (xs.length - (kk + 1)) ≤ 40; omega) (by decide), fun a5 h5 => ?_⟩
      have s5 := same_new (o := .lst (xs.take (kk + 1) ++ [.ref t, v1] ++ xs.drop (kk + 1))) h5
      have s15 := (s13.trans s4).trans s5
      have B10 := B7.trans (bk_ofS s15 B7.bag)
      have n5b : a5 ≠ b := bag_ne (bag_sameS (s13.trans s4) B7.bag) h5
      have hpsE := hps.mono fun _ _ => Bk.cornT hb B10
      obtain ⟨gm, gf⟩ := spike_GR g h6 hpk (show GoodC (fx, fy) from ⟨⟨f0, by omega⟩, ⟨f2, by omega⟩⟩) hne
      exact k a5 _ (ps.take (kk + 1) ++ [(fx, fy), ps[kk]] ++ ps.drop (kk + 1)) _ B10 n5b upd_same (((hpsE.take (kk + 1)).app (xs' := [.ref t, v1]) (ys' := [(fx, fy), ps[kk]]) (show AllAt CornT _ [.ref t, v1] [(fx, fy), ps[kk]] from ⟨CornT.mono s15 ct, CornT.mono s15 c7, trivial⟩)).app (hpsE.drop (kk + 1))) gm gf
end
end Pa
set_option maxRecDepth 100000
set_option maxHeartbeats 4000000
namespace Pa
open PySem PySem.Spec PyProof.Rows L2 Win
/-! ### a ring cut in two -/
theorem split2 {ps : List Pt} {i k : Nat} {p q : Pt} (hik : i < k) (hp : ps[i]? = some p) (hq : ps[k]? = some q) : ∃ bb, ps = ps.take i ++ p :: bb ++ q :: ps.drop (k + 1) ∧ (ps.drop i).take (k + 1 - i) = p :: bb ++ [q] ∧ ps.drop k = q :: ps.drop (k + 1) := by
  have hk := (List.getElem?_eq_some_iff.mp hq).1
  have hi := (List.getElem?_eq_some_iff.mp hp).1
  have e1 := (split_at hp).1
  have dk : ps.drop k = q :: ps.drop (k + 1) := by
    rw [List.drop_eq_getElem_cons hk]
    rw [List.getElem?_eq_getElem hk] at hq
    cases hq
    rfl
  have di : ps.drop i = p :: ps.drop (i + 1) := by
    rw [List.drop_eq_getElem_cons hi]
    rw [List.getElem?_eq_getElem hi] at hp
    cases hp
    rfl
  have e2 : ps.drop (i + 1) = (ps.drop (i + 1)).take (k - (i + 1)) ++ q :: ps.drop (k + 1) := by
    have z := (List.take_append_drop (k - (i + 1)) (ps.drop (i + 1))).symm
    rw [List.drop_drop, show i + 1 + (k - (i + 1)) = k by omega, dk] at z
    exact z
  refine ⟨(ps.drop (i + 1)).take (k - (i + 1)), ?_, ?_, dk⟩
  · have := e1
    rw [e2] at this
    simpa using this
  · rw [di, show k + 1 - i = (k - i) + 1 by omega, List.take_succ_cons]
    have z : (ps.drop (i + 1)).take (k - i) = (ps.drop (i + 1)).take (k - (i + 1)) ++ [q] := by
      rw [show k - i = (k - (i + 1)) + 1 by omega, List.take_add_one, List.getElem?_drop, show i + 1 + (k - (i + 1)) = k by omega, hq]
      rfl
    rw [z]
    rfl
theorem cut_GR {ps : List Pt} {i k : Nat} {p q : Pt} (g : GR ps) (h2 : i + 2 ≤ k) (h3 : 2 + k ≤ ps.length + i) (hp : ps[i]? = some p) (hq : ps[k]? = some q) (n : p ≠ q) :
    GR ((ps.drop i).take (k + 1 - i)) ∧ GR (ps.drop k ++ ps.take (i + 1)) ∧ ∀ x y, fan x y ((ps.drop i).take (k + 1 - i)) + fan x y (ps.drop k ++ ps.take (i + 1)) = fan x y ps := by
  have hk := (List.getElem?_eq_some_iff.mp hq).1
  obtain ⟨bb, e1, e2, e3⟩ := split2 (by omega) hp hq
  have e4 : ps.drop k ++ ps.take (i + 1) = q :: ps.drop (k + 1) ++ (ps.take i ++ [p]) := by rw [e3, (split_at hp).2]
  have hnb : nb (ps.take i ++ p :: bb ++ q :: ps.drop (k + 1)) := by rw [← e1]; exact g.2.2
  obtain ⟨b1, b2⟩ := nb_cut hnb n
  have l1 : ((ps.drop i).take (k + 1 - i)).length = k + 1 - i := by rw [List.length_take, List.length_drop]; omega
  have l2 : (ps.drop k ++ ps.take (i + 1)).length = ps.length - k + (i + 1) := by rw [List.length_append, List.length_drop, List.length_take]; omega
  have g8 := g.1
  refine ⟨⟨by rw [l1]; omega, fun z hz => g.2.1 z (List.mem_of_mem_drop (List.mem_of_mem_take hz)), by rw [e2]; exact b1⟩, ⟨by rw [l2]; omega, fun z hz => ?_, by rw [e4]; exact b2⟩, fun x y => ?_⟩
  · rcases List.mem_append.mp hz with hz | hz
    · exact g.2.1 z (List.mem_of_mem_drop hz)
    · exact g.2.1 z (List.mem_of_mem_take hz)
  · rw [e2, e4, fan_cut, ← e1]
/-- one ring of a list put otherwise -/
theorem one_GRs {rs : List (List Pt)} {j : Nat} {ps : List Pt} {new : List (List Pt)} (g : GRs rs) (hj : rs[j]? = some ps) (hn : 1 ≤ new.length) (hl : rs.length + new.length ≤ 4) (hg : ∀ z ∈ new, GR z) : GRs (rs.take j ++ new ++ rs.drop (j + 1)) := by
  have hlt := (List.getElem?_eq_some_iff.mp hj).1
  refine ⟨?_, fun z hz => ?_⟩
  · rw [List.length_append, List.length_append, List.length_take, List.length_drop]
    omega
  · rcases List.mem_append.mp hz with hz | hz
    · rcases List.mem_append.mp hz with hz | hz
      · exact g.2 z (List.mem_of_mem_take hz)
      · exact hg z hz
    · exact g.2 z (List.mem_of_mem_drop hz)
theorem one_wind {rs : List (List Pt)} {j : Nat} {ps : List Pt} {new : List (List Pt)} (hj : rs[j]? = some ps) (x y : Int) (h : wind x y new = fan x y ps) : wind x y (rs.take j ++ new ++ rs.drop (j + 1)) = wind x y rs := by
  have e : rs = rs.take j ++ ([ps] ++ rs.drop (j + 1)) := by
    have hlt := (List.getElem?_eq_some_iff.mp hj).1
    have e2 : rs.take (j + 1) = rs.take j ++ [ps] := by rw [List.take_add_one, hj]; rfl
    have z := (List.take_append_drop (j + 1) rs).symm
    rw [e2, List.append_assoc] at z
    exact z
  have e3 : wind x y rs = wind x y (rs.take j) + (fan x y ps + wind x y (rs.drop (j + 1))) := by
    rw [← wind_one, ← wind_app, ← wind_app, ← e]
  rw [e3, wind_app, wind_app, h]
  omega
def RingP (b : Addr) (H : Hp) (v : V) (ps : List Pt) : Prop := ∃ r xs, v = .ref r ∧ r ≠ b ∧ H r = some (.lst xs) ∧ AllAt CornT H xs ps
theorem RingP.bk {b : Addr} {H H' : Hp} (hb : IsBag H b) (x : Bk b H H') {v : V} {ps : List Pt} (h : RingP b H v ps) : RingP b H' v ps := by
  obtain ⟨r, xs, e, n, h1, h2⟩ := h
  exact ⟨r, xs, e, n, x.keep _ _ n h1, h2.mono fun _ _ => Bk.cornT hb x⟩
theorem cutV_mid {i j : Nat} (xs : List V) (h1 : i ≤ xs.length) (h2 : j ≤ xs.length) : cutV xs (some (i : Int)) (some (j : Int)) = (xs.drop i).take (j - i) := by
  unfold cutV
  rw [HT.sIx_nat, HT.sIx_nat, Nat.min_eq_left h1, Nat.min_eq_left h2]
def CutT (H : Hp) (v : V) (c : Nat × Nat) : Prop := TupAt H v [.int (c.1 : Nat), .int (c.2 : Nat)]
def CutOk (ps : List Pt) (c : Nat × Nat) : Prop := c.1 + 2 ≤ c.2 ∧ 2 + c.2 ≤ ps.length + c.1 ∧ c.2 < ps.length ∧ ∃ p q, ps[c.1]? = some p ∧ ps[c.2]? = some q ∧ p ≠ q
theorem all_mapR {α β : Type} {f : α → β} {S : Hp → V → α → Prop} {R : Hp → V → β → Prop} {H H' : Hp} (g : ∀ v a, S H v a → R H' v (f a)) : ∀ {xs : List V} {as : List α}, AllAt S H xs as → AllAt R H' xs (as.map f)
  | [], [], _ => trivial
  | _ :: _, _ :: _, h => ⟨g _ _ h.1, all_mapR g h.2⟩
  | [], _ :: _, h => h.elim
  | _ :: _, [], h => h.elim
section
variable {P : Program} {w : World} {K : PySem.W.Frag} {mg : Str → Option Value} {base : Heap} {C : Addr}
def spCut : Sp := fun vs H Q _ => ∃ b r0 xs rs j, vs = [.ref b, .ref r0, .int (j : Nat)] ∧ IsBag H b ∧ r0 ≠ b ∧ H r0 = some (.lst xs) ∧ AllAt (RingP b) H xs rs ∧ GRs rs ∧ j < rs.length ∧ ∀ r1 xs' rs' H', Bk b H H' → r1 ≠ b → H' r1 = some (.lst xs') → AllAt (RingP b) H' xs' rs' → GRs rs' → WQ rs rs' → Q (.ref r1) H'
abbrev sL_cut : Stmt := topS 44
theorem scL_cut : FnScope ["_law_bag_here", "_law_rings_here", "_law_place", "_law_ring_here", "_law_cuts", "_law_i", "_law_k"] ["_law_bag_here", "_law_rings_here", "_law_place"] (defScope sL_cut) := ⟨rfl, rfl, rfl, by decide +kernel, rfl, by decide +kernel, by decide +kernel⟩
theorem ok_lcut {f : Addr} {fd : FuncData} (F : Fun K "_law_cut" "_law_cut" sL_cut f fd) (T : Txt K mg) (C__law_one : CallOk P w K mg base 2 "_law_one" ["_law_bag_here", "_law_things"] spOne) : FnOk P w K mg base CX0 3 f fd ["_law_bag_here", "_law_rings_here", "_law_place"] spCut := by
  refine F.ok scL_cut (fun vs H Q E h => ?_) (fun cdv A outer s H vs Q E hr h => ?_)
  · obtain ⟨b, r0, xs, rs, j, rfl, _⟩ := h
    rfl
  · obtain ⟨b, r0, xs, rs, j, rfl, hb, n0b, hx, hrs, g, hj, k⟩ := h
    refine ⟨_, (pss_cons (ps_par (i := 3) (j := 4) (by rfl) scL_cut.nd rfl rfl (by decide) rfl rfl (pa_cons (pe_ix ix_list (pv 1) (pv 2) (fun _ _ => rfl)) (pa_cons (pe_lst pa_nil) pa_nil)) (by rfl))
      (pss_cons (ps_for PassesOwn.never rfl (pi_range1 (by rfl) T.b_range (pa_cons (pe_callB (r := rLenQ K) (id := "len") (call_lenQ (K := K) rfl) (by rfl) T.b_len PySem.boot_len (pa_cons (pv 3) pa_nil)) pa_nil)) (pg_name (i := 5) scL_cut.nd rfl (.inl rfl))
        (pss_one (ps_for PassesOwn.never rfl (pi_range2 (by rfl) T.b_range (pa_cons (pe_op op_add (pv 5) pe_int) (pa_cons (pe_callB (r := rLenQ K) (id := "len") (call_lenQ (K := K) rfl) (by rfl) T.b_len PySem.boot_len (pa_cons (pv 3) pa_nil)) pa_nil))) (pg_name (i := 6) scL_cut.nd rfl (.inl rfl))
          (pss_one (ps_if (PW.pt (pw_and (pt_cmpR op_ge (pe_op op_add (pe_op op_sub (pe_callB (r := rLenQ K) (id := "len") (call_lenQ (K := K) rfl) (by rfl) T.b_len PySem.boot_len (pa_cons (pv 3) pa_nil)) (pv 6)) (pv 5)) pe_int (nomark _)) (pw_and1 (pt_cmpR (op_neD hr.units) (pe_ix ix_list (pv 3) (pv 5) (fun _ _ => rfl)) (pe_ix ix_list (pv 3) (pv 6) (fun _ _ => rfl)) (nomark _)))))
            (pss_one (ps_expr (pe_bm PySem.F.plainAttrs_list PySem.F.slot_list_append PySem.F.type_list_append mt_append (pv 4) (pa_cons (pe_tup (pa_cons (pv 5) (pa_cons (pv 6) pa_nil))) pa_nil))))
            pss_nil)))))
      (pss_cons (ps_if (PW.pt (pw_or (pt_cmpR (op_eqD hr.units) (pv 4) (pe_lst pa_nil) (nomark _)) (pw_or1 (pt_cmpR op_eq (pe_callB (r := rLenQ K) (id := "len") (call_lenQ (K := K) rfl) (by rfl) T.b_len PySem.boot_len (pa_cons (pv 1) pa_nil)) pe_int (nomark _)))))
        (pss_one (ps_ret (pv 1)))
        pss_nil)
      (pss_cons (ps_asg (pe_cc C__law_one (hr.mono (by decide)) (by rfl) (pa_cons (pv 0) (pa_cons (pv 4) pa_nil))) (pg_tup rfl (pgs_cons (pg_name (i := 5) scL_cut.nd rfl (.inl rfl)) (pgs_cons (pg_name (i := 6) scL_cut.nd rfl (.inl rfl)) pgs_nil))))
      (pss_one (ps_ret (pe_op op_cat (pe_op op_cat (pe_slice sl_list (pv 1) po_none (po_some (pv 2))) (pe_lst (pa_cons (pe_slice sl_list (pv 3) (po_some (pv 5)) (po_some (pe_op op_add (pv 6) pe_int))) (pa_cons (pe_op op_cat (pe_slice sl_list (pv 3) (po_some (pv 6)) po_none) (pe_slice sl_list (pv 3) po_none (po_some (pe_op op_add (pv 5) pe_int)))) pa_nil)))) (pe_slice sl_list (pv 1) (po_some (pe_op op_add (pv 2) pe_int)) po_none)))))))), ?_⟩
    have hlen := hrs.len
    have hpsj : rs[j]? = some rs[j] := List.getElem?_eq_getElem hj
    obtain ⟨v, hv, r, ys, rfl, nrb, hy, hps⟩ := hrs.to hpsj
    have gp := g.2 _ (List.getElem_mem hj)
    have hyl := hps.len
    generalize rs[j] = ps at hpsj hps gp hyl
    obtain ⟨⟨g3, g8⟩, gc, gn⟩ := id gp
    refine ⟨_, rfl, _, rfl, r0, _, _, _, rfl, rfl, SqL.of hx, atI_nat hv, Nat.zero_le _, fun L hL => ⟨_, _, rfl, ?_⟩⟩
    have nLb : L ≠ b := bag_ne hb hL
    have sL := same_new (o := .lst []) hL
    refine ⟨_, rfl, r, ys, rfl, .inl (SqL.of (sL _ _ hy)), _, rfl, by omega, by omega, for_range (lo := 0) (n := ((ys.length : Nat) : Int).toNat) (fun i σ H' => ∃ (y5 y6 : Option V) (ls : List V) (cs : List (Nat × Nat)), σ = [some (.ref b), some (.ref r0), some (.int (j : Int)), some (.ref r), some (.ref L), y5, y6] ∧ Same H H' ∧ H' L = some (.lst ls) ∧ AllAt CutT H' ls cs ∧ (∀ c ∈ cs, CutOk ps c) ∧ cs.length ≤ 8 * i) ⟨_, _, [], [], rfl, sL, upd_same, trivial, (fun _ z => nomatch z), Nat.le_refl _⟩ ?_ ?_⟩
    · rintro i σ H1 hi ⟨y5, y6, ls, cs, rfl, s1, hL1, hcs, hok, hcl⟩
      have hi8 : i < ps.length := by omega
      show gName 5 _ _ _ _
      rw [Int.zero_add]
      refine ⟨_, rfl, _, _, rfl, rfl, _, rfl, r, ys, rfl, .inl (SqL.of (s1 _ _ hy)), _, _, rfl, ⟨by omega, by omega, by omega, by omega⟩, ?_⟩
      refine for_range (lo := (i : Int) + 2) (n := ((ys.length : Int) - ((i : Int) + 2)).toNat) (fun m σ H' => ∃ (y6 : Option V) (ls : List V) (cs : List (Nat × Nat)), σ = [some (.ref b), some (.ref r0), some (.int (j : Int)), some (.ref r), some (.ref L), some (.int (i : Int)), y6] ∧ Same H H' ∧ H' L = some (.lst ls) ∧ AllAt CutT H' ls cs ∧ (∀ c ∈ cs, CutOk ps c) ∧ cs.length ≤ 8 * i + m) ⟨_, ls, cs, rfl, s1, hL1, hcs, hok, by omega⟩ ?_ ?_
      · rintro m σ H2 hm ⟨y6, ls, cs, rfl, s2, hL2, hcs, hok, hcl⟩
        obtain ⟨kk, hkk⟩ : ∃ kk : Nat, (i : Int) + 2 + (m : Int) = (kk : Int) := ⟨i + 2 + m, by omega⟩
        show gName 6 _ _ _ _
        rw [hkk]
        have hk8 : kk < ps.length := by omega
        obtain ⟨v1, hv1, c1⟩ := hps.to (List.getElem?_eq_getElem hi8)
        obtain ⟨v2, hv2, c2⟩ := hps.to (List.getElem?_eq_getElem hk8)
        have hy2 := s2 _ _ hy
        refine ⟨_, rfl, r, ys, rfl, .inl (SqL.of hy2), _, rfl, _, _, rfl, rfl, _, rfl, _, _, rfl, rfl, _, _, rfl, rfl, _, rfl, ite2 (fun q1 => ?_) (fun q1 => ⟨_, ls, cs, rfl, s2, hL2, hcs, hok, by omega⟩)⟩
        have q1 := of_decide_eq_true q1
        refine ⟨_, rfl, _, rfl, r, _, _, _, rfl, rfl, SqL.of hy2, atI_nat hv1, _, rfl, _, rfl, r, _, _, _, rfl, rfl, SqL.of hy2, atI_nat hv2, _, _, dp_ptT (CornT.mono s2 c1), dp_ptT (CornT.mono s2 c2), ptD_shaped _, ptD_shaped _, _, rfl, ite2 (fun q2 => ?_) (fun q2 => ⟨_, ls, cs, rfl, s2, hL2, hcs, hok, by omega⟩)⟩
        have hne : ps[i] ≠ ps[kk] := fun z => by
          rw [z, SeqAt.eqv_refl _ (ptD_lay _)] at q2
          cases q2
        refine ⟨_, rfl, .inl ⟨rfl, _, SqL.of hL2⟩, _, rfl, _, rfl, by show 2 ≤ sizeLine; decide, fun t ht => ?_⟩
        obtain ⟨g1, g2, g3, g4⟩ := all_push (f := fun c : Nat × Nat => [V.int (c.1 : Nat), .int (c.2 : Nat)]) (y := ((i, kk) : Nat × Nat)) (tv := [.int (i : Int), .int (kk : Int)]) hL2 hcs ht rfl
        refine ⟨L, ls, _, rfl, rfl, same_new ht _ _ hL2, Nat.lt_of_le_of_lt (m := 100) (by rw [AllAt.len hcs]; omega) (by decide), ?_⟩
        refine ⟨_, _, cs ++ [(i, kk)], rfl, same_put hL (s2.trans (same_new ht)), g1, g2, fun c hc => ?_, by rw [List.length_append]; exact Nat.succ_le_succ hcl⟩
        rcases List.mem_append.mp hc with hc | hc
        · exact hok c hc
        · rw [List.mem_singleton.mp hc]
          exact ⟨by show i + 2 ≤ kk; omega, by show 2 + kk ≤ ps.length + i; omega, hk8, _, _, List.getElem?_eq_getElem hi8, List.getElem?_eq_getElem hk8, hne⟩
      · rintro σ H2 ⟨y6, ls, cs, rfl, s2, hL2, hcs, hok, hcl⟩
        exact ⟨_, _, ls, cs, rfl, s2, hL2, hcs, hok, by omega⟩
    · rintro σ H1 ⟨y5, y6, ls, cs, rfl, s1, hL1, hcs, hok, hcl⟩
      have B1 : Bk b H H1 := bk_ofS s1 hb
      have hx1 := s1 _ _ hx
      have hrs1 := hrs.mono fun _ _ => RingP.bk hb B1
      have stay : Q (.ref r0) H1 := k r0 xs rs H1 B1 n0b hx1 hrs1 g (WQ.refl rs)
      refine ⟨_, rfl, Nat.zero_le _, fun q hq => ?_⟩
      have sq := same_new (o := .lst []) hq
      have hcp : AllAt CornT (upd H1 q (.lst [])) ls (cs.map fun c => (((c.1 : Nat) : Int), ((c.2 : Nat) : Int))) := all_mapR (S := CutT) (H := H1) (f := fun c : Nat × Nat => (((c.1 : Nat) : Int), ((c.2 : Nat) : Int))) (fun v c h => CornT.mono (p := (((c.1 : Nat) : Int), ((c.2 : Nat) : Int))) sq h) hcs
      refine ⟨rgD (cs.map fun c => (((c.1 : Nat) : Int), ((c.2 : Nat) : Int))), .list [], dp_rg ⟨L, ls, rfl, sq _ _ hL1, hcp⟩, .lst (SqL.of upd_same) .nil, rgD_shaped _, by decide +kernel, _, rfl, ?_⟩
      have B2 := B1.trans (bk_ofS sq B1.bag)
      have hx2 := sq _ _ hx1
      have hL2 := sq _ _ hL1
      have hrs2 := hrs.mono fun _ _ => RingP.bk hb B2
      have hcs2 : AllAt CutT (upd H1 q (.lst [])) ls cs := hcs.mono fun _ _ h => TupAt.mono (Tups.of sq) h
      have s2 := s1.trans sq
      generalize upd H1 q (.lst []) = H2 at B2 hx2 hL2 hrs2 hcs2 s2 ⊢
      unfold rgD
      rw [eqv_nilL, List.isEmpty_map, List.isEmpty_map]
      have stay2 : Q (.ref r0) H2 := k r0 xs rs H2 B2 n0b hx2 hrs2 g (WQ.refl rs)
      refine ite2 (fun e1 => ⟨_, rfl, stay2⟩) (fun e1 => ?_)
      refine ⟨_, rfl, r0, xs, rfl, .inl (SqL.of hx2), rfl, _, rfl, ite2 (fun e2 => ⟨_, rfl, stay2⟩) (fun e2 => ?_)⟩
      have hn3 : rs.length ≤ 2 := by
        have := g.1.2
        have : ¬ rs.length = 3 := fun z => e2 (decide_eq_true (by rw [hlen, z]; rfl))
        omega
      have hc1 : 1 ≤ cs.length := by
        cases cs with
        | nil => exact absurd rfl e1
        | cons _ _ => exact Nat.succ_pos _
      refine ⟨_, rfl, _, rfl, b, L, ls, rfl, B2.bag, hL2, nLb, by rw [AllAt.len hcs]; exact hc1, by rw [AllAt.len hcs]; omega, fun m w H3 hw B3 => ?_⟩
      obtain ⟨⟨ci, ck⟩, hc, t, rfl, ht⟩ := AllAt.at hcs2 hw
      obtain ⟨o1, o2, o3, p, q', hp, hq', hne⟩ := hok _ (List.mem_of_getElem? hc)
      dsimp only at o1 o2 o3 hp hq' ht
      have B4 := B2.trans B3
      have ntb : t ≠ b := fun z => by
        obtain ⟨_, _, _, e⟩ := B2.bag
        rw [z, e] at ht
        cases ht
      have ht3 := B3.keep _ _ ntb ht
      refine ⟨t, _, rfl, SqT.of ht3, rfl, _, _, rfl, _, _, rfl, rfl, ?_⟩
      have hx4 := B4.keep _ _ n0b hx
      have hy4 := B4.keep _ _ nrb hy
      have e1c : cutV xs none (some (j : Int)) = xs.take j := cutV_to _ (by omega)
      have e2c : cutV ys (some (ci : Int)) (some ((ck : Int) + 1)) = (ys.drop ci).take (ck + 1 - ci) := by rw [show (ck : Int) + 1 = ((ck + 1 : Nat) : Int) by omega, cutV_mid _ (by omega) (by omega)]
      have e3c : cutV ys (some (ck : Int)) none = ys.drop ck := cutV_from _ (by omega)
      have e4c : cutV ys none (some ((ci : Int) + 1)) = ys.take (ci + 1) := by rw [show (ci : Int) + 1 = ((ci + 1 : Nat) : Int) by omega, cutV_to _ (by omega)]
      have e5c : cutV xs (some ((j : Int) + 1)) none = xs.drop (j + 1) := by rw [show (j : Int) + 1 = ((j + 1 : Nat) : Int) by omega, cutV_from _ (by omega)]
      refine ⟨_, rfl, _, rfl, _, rfl, r0, xs, rfl, SqL.of hx4, fun a1 h1 => ?_⟩
      rw [e1c]
      have s1' := same_new (o := .lst (xs.take j)) h1
      refine ⟨_, rfl, _, rfl, _, rfl, _, rfl, _, _, rfl, rfl, _, rfl, r, ys, rfl, SqL.of (s1' _ _ hy4), fun a2 h2 => ?_⟩
      rw [e2c]
      have s2' := same_new (o := .lst ((ys.drop ci).take (ck + 1 - ci))) h2
      have s12 := s1'.trans s2'
      refine ⟨_, rfl, _, rfl, _, rfl, r, ys, rfl, SqL.of (s12 _ _ hy4), fun a3 h3 => ?_⟩
      rw [e3c]
      have s3' := same_new (o := .lst (ys.drop ck)) h3
      have s13 := s12.trans s3'
      refine ⟨_, rfl, _, rfl, _, _, rfl, rfl, _, rfl, r, ys, rfl, SqL.of (s13 _ _ hy4), fun a4 h4 => ?_⟩
      rw [e4c]
      have s4' := same_new (o := .lst (ys.take (ci + 1))) h4
      refine ⟨a3, a4, _, _, rfl, rfl, s4' _ _ upd_same, upd_same, Nat.le_trans (m := 40) (by rw [List.length_drop, List.length_take]; omega) (by decide), fun a5 h5 => ?_⟩
      have s5' := same_new (o := .lst (ys.drop ck ++ ys.take (ci + 1))) h5
      refine ⟨by show 2 ≤ sizeLine; decide, fun a6 h6 => ?_⟩
      have s6' := same_new (o := .lst [.ref a2, .ref a5]) h6
      have s26 := ((s3'.trans s4').trans s5').trans s6'
      refine ⟨a1, a6, _, _, rfl, rfl, s26 _ _ (s2' _ _ upd_same), upd_same, Nat.le_trans (m := 40) (by rw [List.length_take]; show min j xs.length + 2 ≤ 40; omega) (by decide), fun a7 h7 => ?_⟩
      have s7' := same_new (o := .lst (xs.take j ++ [.ref a2, .ref a5])) h7
      have s17 := (s12.trans s26).trans s7'
      refine ⟨_, rfl, _, rfl, _, _, rfl, rfl, _, rfl, r0, xs, rfl, SqL.of (s17 _ _ hx4), fun a8 h8 => ?_⟩
      rw [e5c]
      have s8' := same_new (o := .lst (xs.drop (j + 1))) h8
      refine ⟨a7, a8, _, _, rfl, rfl, s8' _ _ upd_same, upd_same, Nat.le_trans (m := 40) (by rw [List.length_append, List.length_take, List.length_drop]; show min j xs.length + 2 + (xs.length - (j + 1)) ≤ 40; omega) (by decide), fun a9 h9 => ?_⟩
      have s9' := same_new (o := .lst (xs.take j ++ [.ref a2, .ref a5] ++ xs.drop (j + 1))) h9
      have s89 := s8'.trans s9'
      have B9 := B4.trans (bk_ofS (s17.trans s89) B4.bag)
      have n9b : a9 ≠ b := bag_ne (bag_sameS (s17.trans s8') B4.bag) h9
      have n2b : a2 ≠ b := bag_ne (bag_sameS s1' B4.bag) h2
      have n5b : a5 ≠ b := bag_ne (bag_sameS (s13.trans s4') B4.bag) h5
      obtain ⟨G1, G2, G3⟩ := cut_GR gp o1 o2 hp hq' hne
      have hpsE := hps.mono fun _ _ => Bk.cornT hb B9
      have hrsE := hrs.mono fun _ _ => RingP.bk hb B9
      have p1 : RingP b _ (.ref a2) ((ps.drop ci).take (ck + 1 - ci)) := ⟨a2, _, rfl, n2b, s89 _ _ (s7' _ _ (s26 _ _ upd_same)), (hpsE.drop ci).take (ck + 1 - ci)⟩
      have p2 : RingP b _ (.ref a5) (ps.drop ck ++ ps.take (ci + 1)) := ⟨a5, _, rfl, n5b, s89 _ _ (s7' _ _ (s6' _ _ upd_same)), (hpsE.drop ck).app (hpsE.take (ci + 1))⟩
      refine k a9 _ (rs.take j ++ [(ps.drop ci).take (ck + 1 - ci), ps.drop ck ++ ps.take (ci + 1)] ++ rs.drop (j + 1)) _ B9 n9b upd_same (((hrsE.take j).app (xs' := [.ref a2, .ref a5]) (ys' := [(ps.drop ci).take (ck + 1 - ci), ps.drop ck ++ ps.take (ci + 1)]) (show AllAt (RingP b) _ [.ref a2, .ref a5] [_, _] from ⟨p1, p2, trivial⟩)).app (hrsE.drop (j + 1))) (one_GRs g hpsj (by simp) (by simp; omega) fun z hz => ?_) (.inl fun x y => one_wind hpsj x y ?_)
      · rcases List.mem_cons.mp hz with e | e
        · rw [e]; exact G1
        · rw [List.mem_singleton.mp e]; exact G2
      · have e : wind x y [(ps.drop ci).take (ck + 1 - ci), ps.drop ck ++ ps.take (ci + 1)] = fan x y ((ps.drop ci).take (ck + 1 - ci)) + fan x y (ps.drop ck ++ ps.take (ci + 1)) := by
          rw [← wind_one, ← wind_one, ← wind_app]
          rfl
        rw [e, G3]
end
end Pa
set_option maxRecDepth 100000
set_option maxHeartbeats 4000000
namespace Pa
open PySem PySem.Spec PyProof.Rows L2 Win
theorem pe_revQ {X : Cx} {K : PySem.W.Frag} (hK : X.K = K) {e : Expr} {te : TE} {k : Nat} {p1 p2 p3 pos : Pos} (he : PE X e te) : PE X (.Subscript e (.Slice none none (some (.UnaryOp .USub (.Constant (.int 1) k p1) p2)) p3) pos) (tRevL K te) := by subst hK; exact pe_revL he
theorem RingP.mono {b : Addr} {H H' : Hp} (s : Same H H') {v : V} {ps : List Pt} (h : RingP b H v ps) : RingP b H' v ps := by
  obtain ⟨r, xs, e, n, h1, h2⟩ := h
  exact ⟨r, xs, e, n, s _ _ h1, h2.mono fun _ _ => CornT.mono s⟩
theorem GRs.one {rs : List (List Pt)} {j : Nat} {ps ps' : List Pt} (g : GRs rs) (hj : rs[j]? = some ps) (h : GR ps') : GRs (rs.take j ++ [ps'] ++ rs.drop (j + 1)) := by
  have hlt := (List.getElem?_eq_some_iff.mp hj).1
  refine one_GRs g hj (Nat.le_refl _) ?_ fun z hz => by rw [List.mem_singleton.mp hz]; exact h
  have := g.1.2
  show rs.length + 1 ≤ 4
  omega
theorem WQ.one {rs : List (List Pt)} {j : Nat} {ps ps' : List Pt} (hj : rs[j]? = some ps) (h : ∀ x y, fan x y ps' = fan x y ps) : WQ rs (rs.take j ++ [ps'] ++ rs.drop (j + 1)) :=
  .inl fun x y => one_wind hj x y (by rw [wind_one, h])
theorem rot_GR {ps : List Pt} (g : GR ps) (k : Nat) : GR (ps.drop k ++ ps.take k) ∧ ∀ x y, fan x y (ps.drop k ++ ps.take k) = fan x y ps := by
  have e : ps.take k ++ ps.drop k = ps := List.take_append_drop k ps
  have l : (ps.drop k ++ ps.take k).length = ps.length := by
    have := congrArg List.length e
    rw [List.length_append] at this ⊢
    omega
  refine ⟨⟨by rw [l]; exact g.1, fun z hz => ?_, nb_rot (by rw [e]; exact g.2.2)⟩, fun x y => by rw [fan_rot, e]⟩
  rcases List.mem_append.mp hz with hz | hz
  · exact g.2.1 z (List.mem_of_mem_drop hz)
  · exact g.2.1 z (List.mem_of_mem_take hz)
theorem rev_GRs {rs : List (List Pt)} (g : GRs rs) : GRs (rs.map List.reverse) := by
  refine ⟨by rw [List.length_map]; exact g.1, fun z hz => ?_⟩
  obtain ⟨ps, hp, rfl⟩ := List.mem_map.mp hz
  obtain ⟨h1, h2, h3⟩ := g.2 ps hp
  exact ⟨by rw [List.length_reverse]; exact h1, fun p hp => h2 p (List.mem_reverse.mp hp), nb_rev h3⟩
theorem turn_GRs {rs : List (List Pt)} (g : GRs rs) (k : Nat) : GRs (rs.drop k ++ rs.take k) ∧ WQ rs (rs.drop k ++ rs.take k) := by
  have e : rs.take k ++ rs.drop k = rs := List.take_append_drop k rs
  have l : (rs.drop k ++ rs.take k).length = rs.length := by
    have := congrArg List.length e
    rw [List.length_append] at this ⊢
    omega
  refine ⟨⟨by rw [l]; exact g.1, fun z hz => ?_⟩, .inl fun x y => ?_⟩
  · rcases List.mem_append.mp hz with hz | hz
    · exact g.2 z (List.mem_of_mem_drop hz)
    · exact g.2 z (List.mem_of_mem_take hz)
  · have a1 := wind_app x y (rs.drop k) (rs.take k)
    have a2 := wind_app x y (rs.take k) (rs.drop k)
    rw [e] at a2
    omega
section
variable {P : Program} {w : World} {K : PySem.W.Frag} {mg : Str → Option Value} {base : Heap} {C : Addr}
def spOther : Sp := fun vs H Q _ => ∃ b r0 xs rs, vs = [.ref b, .ref r0] ∧ IsBag H b ∧ r0 ≠ b ∧ H r0 = some (.lst xs) ∧ AllAt (RingP b) H xs rs ∧ GRs rs ∧ ∀ r1 xs' rs' H', Bk b H H' → r1 ≠ b → H' r1 = some (.lst xs') → AllAt (RingP b) H' xs' rs' → GRs rs' → WQ rs rs' → Q (.ref r1) H'
abbrev sL_otherwise : Stmt := topS 46
theorem scL_otherwise : FnScope ["_law_bag_here", "_law_rings_here", "_law_way", "_law_place", "_law_first", "_law_ring_here"] ["_law_bag_here", "_law_rings_here"] (defScope sL_otherwise) := ⟨rfl, rfl, rfl, by decide +kernel, rfl, by decide +kernel, by decide +kernel⟩
theorem ok_lother {f : Addr} {fd : FuncData} (F : Fun K "_law_otherwise" "_law_otherwise" sL_otherwise f fd) (T : Txt K mg) (C__law_draw : CallOk P w K mg base 1 "_law_draw" ["_law_bag_here", "_law_many"] spDraw) (C__law_cut : CallOk P w K mg base 3 "_law_cut" ["_law_bag_here", "_law_rings_here", "_law_place"] spCut) (C__law_lengthened : CallOk P w K mg base 3 "_law_lengthened" ["_law_bag_here", "_law_ring_here"] spLen) : FnOk P w K mg base CX0 4 f fd ["_law_bag_here", "_law_rings_here"] spOther := by
  refine F.ok scL_otherwise (fun vs H Q E h => ?_) (fun cdv A outer s H vs Q E hr h => ?_)
  · obtain ⟨b, r0, xs, rs, rfl, _⟩ := h
    rfl
  · obtain ⟨b, r0, xs, rs, rfl, hb, n0b, hx, hrs, g, k⟩ := h
    refine ⟨_, (pss_cons (ps_par (i := 2) (j := 3) (by rfl) scL_otherwise.nd rfl rfl (by decide) rfl rfl (pa_cons (pe_cc C__law_draw (hr.mono (by decide)) (by rfl) (pa_cons (pv 0) (pa_cons pe_int pa_nil))) (pa_cons (pe_cc C__law_draw (hr.mono (by decide)) (by rfl) (pa_cons (pv 0) (pa_cons (pe_callB (r := rLenQ K) (id := "len") (call_lenQ (K := K) rfl) (by rfl) T.b_len PySem.boot_len (pa_cons (pv 1) pa_nil)) pa_nil))) pa_nil)) (by rfl))
      (pss_cons (ps_if (pt_cmpR op_eq (pv 2) pe_int (nomark _))
        (pss_cons (ps_set (i := 4) scL_otherwise.nd rfl (.inl rfl) (pe_cc C__law_draw (hr.mono (by decide)) (by rfl) (pa_cons (pv 0) (pa_cons (pe_callB (r := rLenQ K) (id := "len") (call_lenQ (K := K) rfl) (by rfl) T.b_len PySem.boot_len (pa_cons (pe_ix ix_list (pv 1) (pv 3) (fun _ _ => rfl)) pa_nil)) pa_nil))))
        (pss_one (ps_ret (pe_op op_cat (pe_op op_cat (pe_slice sl_list (pv 1) po_none (po_some (pv 3))) (pe_lst (pa_cons (pe_op op_cat (pe_slice sl_list (pe_ix ix_list (pv 1) (pv 3) (fun _ _ => rfl)) (po_some (pv 4)) po_none) (pe_slice sl_list (pe_ix ix_list (pv 1) (pv 3) (fun _ _ => rfl)) po_none (po_some (pv 4)))) pa_nil))) (pe_slice sl_list (pv 1) (po_some (pe_op op_add (pv 3) pe_int)) po_none)))))
        pss_nil)
      (pss_cons (ps_if (pt_cmpR op_eq (pv 2) pe_int (nomark _))
        (pss_one (ps_ret (pe_lc (own := [("_law_ring_here", 5)]) (g := gName 5) (tt := tYes) (te := tRevL K (tVar 5)) rfl scL_otherwise.nd (pi_list (pv 1)) (blkOk_by (N := ["_law_bag_here", "_law_rings_here", "_law_way", "_law_place", "_law_first", "_law_ring_here"]) (sc := defScope sL_otherwise) (by decide +kernel)) (fun _ _ _ _ _ => (pg_name (i := 5) scL_otherwise.nd rfl (.inl rfl))) (fun _ _ _ _ _ => pts_nil) (fun _ _ _ _ _ => (pe_revQ (K := K) rfl (pv 5))))))
        pss_nil)
      (pss_cons (ps_if (pt_cmpR op_eq (pv 2) pe_int (nomark _))
        (pss_one (ps_ret (pe_op op_cat (pe_slice sl_list (pv 1) (po_some (pv 3)) po_none) (pe_slice sl_list (pv 1) po_none (po_some (pv 3))))))
        pss_nil)
      (pss_cons (ps_if (pt_cmpR op_eq (pv 2) pe_int (nomark _))
        (pss_one (ps_ret (pe_cc C__law_cut (hr.mono (by decide)) (by rfl) (pa_cons (pv 0) (pa_cons (pv 1) (pa_cons (pv 3) pa_nil))))))
        pss_nil)
      (pss_one (ps_ret (pe_op op_cat (pe_op op_cat (pe_slice sl_list (pv 1) po_none (po_some (pv 3))) (pe_lst (pa_cons (pe_cc C__law_lengthened (hr.mono (by decide)) (by rfl) (pa_cons (pv 0) (pa_cons (pe_ix ix_list (pv 1) (pv 3) (fun _ _ => rfl)) pa_nil))) pa_nil))) (pe_slice sl_list (pv 1) (po_some (pe_op op_add (pv 3) pe_int)) po_none))))))))), ?_⟩
    have hlen := hrs.len
    obtain ⟨⟨g1, g3⟩, gr⟩ := id g
    refine ⟨_, rfl, b, 6, rfl, hb, by decide, by decide, fun way H1 w0 w1 B1 => ?_⟩
    have hx1 := B1.keep _ _ n0b hx
    refine ⟨_, rfl, _, rfl, r0, xs, rfl, .inl (SqL.of hx1), b, _, rfl, B1.bag, by omega, Int.lt_of_le_of_lt (b := 1000) (by omega) (by decide), fun j H2 j0 j1 B2' => ⟨_, _, rfl, ?_⟩⟩
    obtain ⟨j, rfl⟩ : ∃ m : Nat, j = (m : Int) := ⟨j.toNat, by omega⟩
    have hj : j < rs.length := by omega
    have B2 := B1.trans B2'
    have hx2 := B2.keep _ _ n0b hx
    have hrs2 := hrs.mono fun _ _ => RingP.bk hb B2
    have hpsj : rs[j]? = some rs[j] := List.getElem?_eq_getElem hj
    obtain ⟨v, hv, r, ys, rfl, nrb, hy2, hps2⟩ := hrs2.to hpsj
    have gp := gr _ (List.getElem_mem hj)
    have hyl := hps2.len
    generalize rs[j] = ps at hpsj hps2 gp hyl
    have c1 : cutV xs none (some (j : Int)) = xs.take j := cutV_to _ (by omega)
    have c2 : cutV xs (some (j : Int)) none = xs.drop j := cutV_from _ (by omega)
    have c3 : cutV xs (some ((j : Int) + 1)) none = xs.drop (j + 1) := by rw [show (j : Int) + 1 = ((j + 1 : Nat) : Int) by omega, cutV_from _ (by omega)]
    have g8 := gp.1
    refine ⟨_, rfl, rfl, _, rfl, ite2 (fun _ => ?_) (fun _ => ⟨_, rfl, rfl, _, rfl, ite2 (fun _ => ?_) (fun _ => ⟨_, rfl, rfl, _, rfl, ite2 (fun _ => ?_) (fun _ => ⟨_, rfl, rfl, _, rfl, ite2 (fun _ => ?_) (fun _ => ?_)⟩)⟩)⟩)⟩
    · refine ⟨_, rfl, _, rfl, _, rfl, r0, _, _, _, rfl, rfl, SqL.of hx2, atI_nat hv, r, ys, rfl, .inl (SqL.of hy2), b, _, rfl, B2.bag, by omega, Int.lt_of_le_of_lt (b := 1000) (by omega) (by decide), fun kk H3 k0 k1 B3 => ?_⟩
      obtain ⟨kk, rfl⟩ : ∃ m : Nat, kk = (m : Int) := ⟨kk.toNat, by omega⟩
      have B4 := B2.trans B3
      have hx3 := B4.keep _ _ n0b hx
      have hy3 := B3.keep _ _ nrb hy2
      have c4 : cutV ys (some (kk : Int)) none = ys.drop kk := cutV_from _ (by omega)
      have c5 : cutV ys none (some (kk : Int)) = ys.take kk := cutV_to _ (by omega)
      refine ⟨_, rfl, _, rfl, _, rfl, r0, xs, rfl, SqL.of hx3, fun a1 h1 => ?_⟩
      rw [c1]
      have s1 := same_new (o := .lst (xs.take j)) h1
      refine ⟨_, rfl, _, rfl, r0, _, _, _, rfl, rfl, SqL.of (s1 _ _ hx3), atI_nat hv, _, rfl, _, rfl, r, ys, rfl, SqL.of (s1 _ _ hy3), fun a2 h2 => ?_⟩
      rw [c4]
      have s2 := same_new (o := .lst (ys.drop kk)) h2
      have s12 := s1.trans s2
      refine ⟨_, rfl, _, rfl, r0, _, _, _, rfl, rfl, SqL.of (s12 _ _ hx3), atI_nat hv, _, rfl, _, rfl, r, ys, rfl, SqL.of (s12 _ _ hy3), fun a3 h3 => ?_⟩
      rw [c5]
      have s3 := same_new (o := .lst (ys.take kk)) h3
      refine ⟨a2, a3, _, _, rfl, rfl, s3 _ _ upd_same, upd_same, Nat.le_trans (m := 40) (by rw [List.length_drop, List.length_take]; omega) (by decide), fun a4 h4 => ?_⟩
      have s4 := same_new (o := .lst (ys.drop kk ++ ys.take kk)) h4
      refine ⟨by show 1 ≤ sizeLine; decide, fun a5 h5 => ?_⟩
      have s5 := same_new (o := .lst [.ref a4]) h5
      have s25 := ((s2.trans s3).trans s4).trans s5
      refine ⟨a1, a5, _, _, rfl, rfl, s25 _ _ upd_same, upd_same, Nat.le_trans (m := 40) (by rw [List.length_take]; show min j xs.length + 1 ≤ 40; omega) (by decide), fun a6 h6 => ?_⟩
      have s6 := same_new (o := .lst (xs.take j ++ [.ref a4])) h6
      have s16 := (s1.trans s25).trans s6
      refine ⟨_, rfl, _, rfl, _, _, rfl, rfl, _, rfl, r0, xs, rfl, SqL.of (s16 _ _ hx3), fun a7 h7 => ?_⟩
      rw [c3]
      have s7 := same_new (o := .lst (xs.drop (j + 1))) h7
      refine ⟨a6, a7, _, _, rfl, rfl, s7 _ _ upd_same, upd_same, Nat.le_trans (m := 40) (by rw [List.length_append, List.length_take, List.length_drop]; show min j xs.length + 1 + (xs.length - (j + 1)) ≤ 40; omega) (by decide), fun a8 h8 => ?_⟩
      have s8 := same_new (o := .lst (xs.take j ++ [.ref a4] ++ xs.drop (j + 1))) h8
      have s18 := (s16.trans s7).trans s8
      have B9 := B4.trans (bk_ofS s18 B4.bag)
      have hrsE := hrs.mono fun _ _ => RingP.bk hb B9
      have hpsE := hps2.mono fun _ _ => CornT.mono s18 ∘ Bk.cornT B2.bag B3
      have n4b : a4 ≠ b := bag_ne (bag_sameS (s12.trans s3) B4.bag) h4
      obtain ⟨t1, t2⟩ := rot_GR gp kk
      exact k a8 _ (rs.take j ++ [ps.drop kk ++ ps.take kk] ++ rs.drop (j + 1)) _ B9 (bag_ne (bag_sameS (s16.trans s7) B4.bag) h8) upd_same (((hrsE.take j).snoc ⟨a4, _, rfl, n4b, s8 _ _ (s7 _ _ (s6 _ _ (s5 _ _ upd_same))), (hpsE.drop kk).app (hpsE.take kk)⟩).app (hrsE.drop (j + 1))) (g.one hpsj t1) (WQ.one hpsj t2)
    · -- backward
      refine ⟨_, rfl, r0, rfl, ⟨_, SqL.of hx2⟩, fun D hD => ?_⟩
      have nDb : D ≠ b := bag_ne B2.bag hD
      refine lc_collW (J := Itl K r0) (G := fun H' => SqL K H' r0 xs) (walk_list (xs := xs)) (R := fun H v ps => RingP b H v ps.reverse) (ys := rs) (fun {_ _ _ ps} s h => RingP.mono (ps := ps.reverse) s h) (fun H' s => SqL.of (s _ _ hx2)) (fun i H v H' h => by rw [h.1]; exact Same.refl H) hD hlen (by omega)
        (fun i v ps H3 H4 Q2 hy hq s3 ⟨ls, hls⟩ kq => ?_) (fun x σ H P P' h q => h _ _ q) (fun ls H3 hls hal s3 => ?_)
      · obtain ⟨rfl, hw⟩ := hy
        obtain ⟨ps', hp', r', zs, rfl, nr', hr', hz⟩ := hrs2.at hw
        rw [hq] at hp'
        cases hp'
        refine ⟨rfl, _, rfl, r', zs, rfl, SqL.of (s3 _ _ hr'), fun l hl => ?_⟩
        have sl := same_new (o := .lst zs.reverse) hl
        refine kq _ _ sl ⟨l, zs.reverse, rfl, bag_ne (bag_sameS s3 B2.bag) hl, ?_, ?_⟩
        · unfold hide
          rw [if_neg (fun z => by rw [z, hls] at hl; cases hl)]
          exact upd_same
        · exact (AllAt.rev (hz.mono fun _ _ => CornT.mono (s3.trans sl))).imp fun v p ⟨t, e, q⟩ => ⟨t, e, hide_at (sl _ _ hls) q⟩
      · exact k D ls (rs.map List.reverse) H3 (B2.trans (bk_ofS s3 B2.bag)) nDb hls (all_mapR (S := fun H v ps => RingP b H v ps.reverse) (R := RingP b) (fun _ _ h => h) hal) (rev_GRs g) (.inr fun x y => wind_rev x y rs)
    · -- another ring first
      refine ⟨_, rfl, _, rfl, _, rfl, r0, xs, rfl, SqL.of hx2, fun a1 h1 => ?_⟩
      rw [c2]
      have s1 := same_new (o := .lst (xs.drop j)) h1
      refine ⟨_, rfl, _, rfl, _, rfl, r0, xs, rfl, SqL.of (s1 _ _ hx2), fun a2 h2 => ?_⟩
      rw [c1]
      have s2 := same_new (o := .lst (xs.take j)) h2
      refine ⟨a1, a2, _, _, rfl, rfl, s2 _ _ upd_same, upd_same, Nat.le_trans (m := 40) (by rw [List.length_drop, List.length_take]; omega) (by decide), fun a3 h3 => ?_⟩
      have s13 := (s1.trans s2).trans (same_new (o := .lst (xs.drop j ++ xs.take j)) h3)
      have B3 := B2.trans (bk_ofS s13 B2.bag)
      have hrsE := hrs.mono fun _ _ => RingP.bk hb B3
      obtain ⟨t1, t2⟩ := turn_GRs g j
      exact k a3 _ (rs.drop j ++ rs.take j) _ B3 (bag_ne (bag_sameS (s1.trans s2) B2.bag) h3) upd_same ((hrsE.drop j).app (hrsE.take j)) t1 t2
    · -- cut
      exact ⟨_, rfl, _, rfl, _, rfl, b, r0, xs, rs, j, rfl, B2.bag, n0b, hx2, hrs2, g, hj, fun r1 xs' rs' H' B n1 hx' hr' g' q => k r1 xs' rs' H' (B2.trans B) n1 hx' hr' g' q⟩
    · refine ⟨_, rfl, _, rfl, _, rfl, r0, xs, rfl, SqL.of hx2, fun a1 h1 => ?_⟩
      rw [c1]
      have s1 := same_new (o := .lst (xs.take j)) h1
      have B3 := B2.trans (bk_ofS s1 B2.bag)
      have n1b : a1 ≠ b := bag_ne B2.bag h1
      refine ⟨_, rfl, _, rfl, _, rfl, r0, _, _, _, rfl, rfl, SqL.of (s1 _ _ hx2), atI_nat hv, b, r, ys, ps, rfl, B3.bag, nrb, s1 _ _ hy2, hps2.mono fun _ _ => CornT.mono s1, gp, fun a4 zs ps' H4 B4' n4b h4 hzs g4 f4 => ?_⟩
      have B4 := B3.trans B4'
      have ha1 := B4'.keep _ _ n1b (show _ = some (HO.lst (xs.take j)) from upd_same)
      refine ⟨by show 1 ≤ sizeLine; decide, fun a5 h5 => ?_⟩
      have s5 := same_new (o := .lst [.ref a4]) h5
      refine ⟨a1, a5, _, _, rfl, rfl, s5 _ _ ha1, upd_same, Nat.le_trans (m := 40) (by rw [List.length_take]; show min j xs.length + 1 ≤ 40; omega) (by decide), fun a6 h6 => ?_⟩
      have s6 := same_new (o := .lst (xs.take j ++ [.ref a4])) h6
      have s56 := s5.trans s6
      have hx4 := B4.keep _ _ n0b hx
      refine ⟨_, rfl, _, rfl, _, _, rfl, rfl, _, rfl, r0, xs, rfl, SqL.of (s56 _ _ hx4), fun a7 h7 => ?_⟩
      rw [c3]
      have s7 := same_new (o := .lst (xs.drop (j + 1))) h7
      refine ⟨a6, a7, _, _, rfl, rfl, s7 _ _ upd_same, upd_same, Nat.le_trans (m := 40) (by rw [List.length_append, List.length_take, List.length_drop]; show min j xs.length + 1 + (xs.length - (j + 1)) ≤ 40; omega) (by decide), fun a8 h8 => ?_⟩
      have s8 := same_new (o := .lst (xs.take j ++ [.ref a4] ++ xs.drop (j + 1))) h8
      have s58 := (s56.trans s7).trans s8
      have B9 := B4.trans (bk_ofS s58 B4.bag)
      have hrsE := hrs.mono fun _ _ => RingP.bk hb B9
      exact k a8 _ (rs.take j ++ [ps'] ++ rs.drop (j + 1)) _ B9 (bag_ne (bag_sameS (s56.trans s7) B4.bag) h8) upd_same (((hrsE.take j).snoc ⟨a4, _, rfl, n4b, s58 _ _ h4, hzs.mono fun _ _ => CornT.mono s58⟩).app (hrsE.drop (j + 1))) (g.one hpsj g4) (WQ.one hpsj f4)
end
end Pa
set_option maxRecDepth 100000
set_option maxHeartbeats 4000000
namespace Pa
open PySem PySem.Spec PyProof.Rows L2 Win
theorem at_state {D : Ends} {σ : L2.St} {H : Hp} (σ' : L2.St) (e : σ = σ') (h : D.nx σ' H) : D.nx σ H := e ▸ h
def tByE (t : TE) : TE := fun σ H Q => ∃ R : V → Hp → Prop, (∀ Q' : V → Hp → Prop, (∀ v H', R v H' → Q' v H') → t σ H Q') ∧ ∀ v H', R v H' → Q v H'
theorem pe_by {X : Cx} {e : Expr} {t : TE} (h : PE X e t) : PE X e (tByE t) := ⟨fun pins s σ H Q I ⟨_, f, q⟩ => h.run pins s σ H Q I (f Q q)⟩
/-- made by their class's name -/
structure MakeOk (P : Program) (w : World) (K : PySem.W.Frag) (mg : Str → Option Value) (base : Heap) (C : Addr) (k : Nat) (x : Str) (ps : List Str) (sp : Sp) : Prop where
  ok : ∃ (f : Addr) (fd : FuncData), Mk K C f ∧ mg x = some (.ref C) ∧ Binds K fd ps [] ∧ FnOk P w K mg base CX0 k f fd ps sp
theorem pe_mkC {X : Cx} {k : Nat} {C : Addr} {ps : List Str} {sp : Sp} {x : Str} {p pos : Pos} {e : Expr} {es : List Expr} {t : TA} (M : MakeOk X.prog X.w X.K X.mg X.base C k x ps sp) (hr : Room (k + 1) X.A) (hg : Gl X x) (ha : PA X (e :: es) t)
    (hdb : (x == ("__debug__" : Str)) = false := by decide) (he : starEach (e :: es) X.env = (false, eval e X.env) :: starEach es X.env := by rfl) (hpl : (backTo pos (starEach es X.env)).any (·.1) = false := by rfl) :
    PE X (.Call (.Name x p) (e :: es) [] pos) (tMake C sp [] E0 t) := by
  obtain ⟨f, fd, h1, h2, h3, h4⟩ := M.ok
  exact pe_make h1 h4 hr hg h2 h3 .nil pass0 ha hdb he hpl
/-- all but what F names and the tables stays; all that is no list and no table -/
structure Kg (F : Addr → Prop) (H H' : Hp) : Prop where
  keep : ∀ q o, ¬ F q → (∀ ps, o ≠ .tbl ps) → H q = some o → H' q = some o
  oth : ∀ q o, (∀ xs, o ≠ .lst xs) → (∀ ps, o ≠ .tbl ps) → H q = some o → H' q = some o
section
variable {F : Addr → Prop} {H H' H'' : Hp} {b p C x : Addr}
theorem Kg.trans (x : Kg F H H') (y : Kg F H' H'') : Kg F H H'' := ⟨fun q o h1 h2 e => y.keep q o h1 h2 (x.keep q o h1 h2 e), fun q o h1 h2 e => y.oth q o h1 h2 (x.oth q o h1 h2 e)⟩
theorem Kg.of (s : Same H H') : Kg F H H' := ⟨fun q o _ _ e => s q o e, fun q o _ _ e => s q o e⟩
theorem Kg.put {ls : List V} {o : HO} (h : H p = some (.lst ls)) (f : F p) : Kg F H (upd H p o) := ⟨fun q u n _ e => by rw [upd_ne (fun z => n (by rw [z]; exact f))]; exact e, fun q u n _ e => by
  rw [upd_ne (fun z => by
    rw [z, h] at e
    cases e
    exact n _ rfl)]
  exact e⟩
theorem Kg.tups (k : Kg F H H') : Tups H H' := fun t xs e => k.oth t (.tup xs) (fun _ z => nomatch z) (fun _ z => nomatch z) e
theorem FaceAt.kg {ap : Int} {ks : List I4} (s : Kg F H H') (h : FaceAt C H x ap ks) : FaceAt C H' x ap ks := by
  obtain ⟨dx, di, df, ik, fk, h1, h2, h3, h4, h5⟩ := h
  exact ⟨dx, di, df, ik, fk, s.oth _ _ (fun _ z => nomatch z) (fun _ z => nomatch z) h1, s.oth _ _ (fun _ z => nomatch z) (fun _ z => nomatch z) h2, s.oth _ _ (fun _ z => nomatch z) (fun _ z => nomatch z) h3, h4.mono s.tups, h5.mono s.tups⟩
end
theorem one_to {ns : Nat} (h : ns ≤ 63) : ∃ J : Nat, J ≤ 64 ∧ (if (if (ns : Int) < (2 : Int) then (ns : Int) else 2) > 1 then (if (ns : Int) < (2 : Int) then (ns : Int) else 2) else 1) = (J : Int) := by
  by_cases h1 : (ns : Int) < (2 : Int)
  · rw [if_pos h1]
    by_cases h2 : (ns : Int) > 1
    · rw [if_pos h2]
      exact ⟨ns, by omega, rfl⟩
    · rw [if_neg h2]
      exact ⟨1, by omega, rfl⟩
  · rw [if_neg h1, if_pos (by decide)]
    exact ⟨2, by omega, rfl⟩
theorem ext_seqL {K : PySem.W.Frag} {H H' : Hp} {p : Addr} {xs : List V} (e : LamX.ExtN H H') (h : SqL K H p xs) : SqL K H' p xs := by
  rcases h with (h | ⟨o, h⟩) | h
  · exact .inl (.inl (e _ _ h fun _ q => nomatch q))
  · exact .inl (.inr ⟨o, e _ _ h fun _ q => nomatch q⟩)
  · exact .inr h
/-! ### outlines that stand among lists that grow -/
def RingF (F : Addr → Prop) (H : Hp) (v : V) (ps : List Pt) : Prop := ∃ r xs, v = .ref r ∧ ¬ F r ∧ H r = some (.lst xs) ∧ AllAt CornT H xs ps
def OutP (F : Addr → Prop) (H : Hp) (v : V) (rs : List (List Pt)) : Prop := ∃ r xs, v = .ref r ∧ ¬ F r ∧ H r = some (.lst xs) ∧ AllAt (RingF F) H xs rs
section
variable {F G : Addr → Prop} {H H' : Hp} {b : Addr} {v : V} {ps : List Pt} {rs : List (List Pt)}
theorem RingF.kg (k : Kg F H H') (h : RingF F H v ps) : RingF F H' v ps := by
  obtain ⟨r, xs, e, n, h1, h2⟩ := h
  exact ⟨r, xs, e, n, k.keep _ (.lst xs) n (fun _ z => nomatch z) h1, h2.mono fun _ _ => TupAt.mono k.tups⟩
theorem OutP.kg (k : Kg F H H') (h : OutP F H v rs) : OutP F H' v rs := by
  obtain ⟨r, xs, e, n, h1, h2⟩ := h
  exact ⟨r, xs, e, n, k.keep _ (.lst xs) n (fun _ z => nomatch z) h1, h2.mono fun _ _ => RingF.kg k⟩
theorem RingF.l (h : RingF F H v ps) : RingL H v ps := by
  obtain ⟨r, xs, e, n, h1, h2⟩ := h
  exact ⟨r, xs, e, h1, h2⟩
theorem OutP.at (h : OutP F H v rs) : RingsAt H v rs := by
  obtain ⟨r, xs, e, n, h1, h2⟩ := h
  exact ⟨r, xs, e, .inl h1, h2.imp fun _ _ h => h.l.at⟩
theorem OutP.less (f : ∀ q, G q → F q) (h : OutP F H v rs) : OutP G H v rs := by
  obtain ⟨r, xs, e, n, h1, h2⟩ := h
  exact ⟨r, xs, e, fun z => n (f _ z), h1, h2.imp fun _ _ ⟨r, xs, e, n, h1, h2⟩ => ⟨r, xs, e, fun z => n (f _ z), h1, h2⟩⟩
/-- a list whose first item is no corner is no ring -/
theorem ring_is {r : Addr} (h : RingL H (.ref r) ps) (h3 : 3 ≤ ps.length) : ∃ t xs, H r = some (.lst (.ref t :: xs)) ∧ ∃ ys, H t = some (.tup ys) := by
  obtain ⟨r', xs, e, h1, h2⟩ := h
  cases e
  match xs, ps, h2, h3 with
  | v :: xs, p :: ps, h2, _ =>
    obtain ⟨⟨t, rfl, ht⟩, _⟩ := h2
    exact ⟨t, xs, h1, _, ht⟩
  | [], p :: ps, h2, _ => exact h2.elim
theorem ring_nb {r : Addr} (hb : IsBag H b) (h : RingL H (.ref r) ps) (h3 : 3 ≤ ps.length) : r ≠ b := fun z => by
  obtain ⟨t, xs, h1, _⟩ := ring_is h h3
  obtain ⟨_, _, _, e⟩ := hb
  rw [z, e] at h1
  cases h1
theorem ring_no {r O : Addr} {ls : List V} {rss : List (List (List Pt))} (hO : H O = some (.lst ls)) (ha : AllAt (OutP F) H ls rss) (h : RingL H (.ref r) ps) (h3 : 3 ≤ ps.length) : r ≠ O := fun z => by
  obtain ⟨t, xs, h1, ys, h2⟩ := ring_is h h3
  rw [z, hO] at h1
  cases h1
  obtain ⟨rs, _, r', xs', e, _, h3, _⟩ := ha.at (i := 0) rfl
  cases e
  rw [h2] at h3
  cases h3
/-- a new outline -/
theorem out_of {O1 O2 p : Addr} {l1 l2 : List V} {r1 r2 : List (List (List Pt))} {xs : List V} (hb : IsBag H b) (h1 : H O1 = some (.lst l1)) (a1 : AllAt (OutP F) H l1 r1) (h2 : H O2 = some (.lst l2)) (a2 : AllAt (OutP F) H l2 r2) (hp : p ≠ b ∧ p ≠ O1 ∧ p ≠ O2)
    (hx : H p = some (.lst xs)) (ha : AllAt RingL H xs rs) (g : GRs rs) : OutP (fun q => q = b ∨ q = O1 ∨ q = O2) H (.ref p) rs := by
  refine ⟨p, xs, rfl, fun z => ?_, hx, ?_⟩
  · rcases z with z | z | z
    · exact hp.1 z
    · exact hp.2.1 z
    · exact hp.2.2 z
  · have all : ∀ {xs : List V} {rs : List (List Pt)}, (∀ ps ∈ rs, GR ps) → AllAt RingL H xs rs → AllAt (RingF fun q => q = b ∨ q = O1 ∨ q = O2) H xs rs := fun {xs rs} => by
      induction rs generalizing xs with
      | nil =>
        intro _ h
        cases xs with
        | nil => trivial
        | cons _ _ => exact h.elim
      | cons ps rs ih =>
        intro gg h
        cases xs with
        | nil => exact h.elim
        | cons v xs =>
          obtain ⟨hr, ht⟩ := h
          have g3 := (gg ps List.mem_cons_self).1.1
          refine ⟨?_, ih (fun z hz => gg z (List.mem_cons_of_mem _ hz)) ht⟩
          obtain ⟨r, ys, e, k1, k2⟩ := id hr
          subst e
          refine ⟨r, ys, rfl, fun z => ?_, k1, k2⟩
          rcases z with z | z | z
          · exact ring_nb hb hr g3 z
          · exact ring_no h1 a1 hr g3 z
          · exact ring_no h2 a2 hr g3 z
    exact all g.2 ha
end
/-- where the law stands: the source, two lists of outlines -/
structure LS (b O1 O2 : Addr) (H1 H : Hp) (l1 l2 : List V) (r1 r2 : List (List (List Pt))) : Prop where
  s : Same H1 H
  bag : IsBag H b
  h1 : H O1 = some (.lst l1)
  a1 : AllAt (OutP fun q => q = b ∨ q = O1 ∨ q = O2) H l1 r1
  h2 : H O2 = some (.lst l2)
  a2 : AllAt (OutP fun q => q = b ∨ q = O1 ∨ q = O2) H l2 r2
  g1 : ∀ rs ∈ r1, GRs rs ∧ 0 < stp (wInk rs)
  g2 : ∀ rs ∈ r2, GRs rs ∧ 0 < stp (wInk rs)
theorem kg_bk {F : Addr → Prop} {b : Addr} {H H' : Hp} (hb : IsBag H b) (x : Bk b H H') (f : F b) : Kg F H H' := ⟨fun q o n _ e => x.keep q o (fun z => n (by rw [z]; exact f)) e, fun q o n _ e => x.keep q o (fun z => by
  obtain ⟨_, _, _, e2⟩ := hb
  rw [z, e2] at e
  cases e
  exact n _ rfl) e⟩
section
variable {b O1 O2 : Addr} {H1 H H' : Hp} {l1 l2 : List V} {r1 r2 : List (List (List Pt))} {v : V} {rs : List (List Pt)}
theorem LS.bk (L : LS b O1 O2 H1 H l1 l2 r1 r2) (nb : H1 b = none) (n1 : O1 ≠ b) (n2 : O2 ≠ b) (B : Bk b H H') : LS b O1 O2 H1 H' l1 l2 r1 r2 := by
  have k : Kg (fun q => q = b ∨ q = O1 ∨ q = O2) H H' := kg_bk L.bag B (.inl rfl)
  exact ⟨fun q o e => B.keep q o (fun z => by rw [z, nb] at e; cases e) (L.s q o e), B.bag, B.keep _ _ n1 L.h1, L.a1.mono fun _ _ => OutP.kg k, B.keep _ _ n2 L.h2, L.a2.mono fun _ _ => OutP.kg k, L.g1, L.g2⟩
theorem LS.same (L : LS b O1 O2 H1 H l1 l2 r1 r2) (s : Same H H') : LS b O1 O2 H1 H' l1 l2 r1 r2 :=
  ⟨L.s.trans s, bag_sameS s L.bag, s _ _ L.h1, L.a1.mono fun _ _ => OutP.kg (Kg.of s), s _ _ L.h2, L.a2.mono fun _ _ => OutP.kg (Kg.of s), L.g1, L.g2⟩
theorem LS.push1 (L : LS b O1 O2 H1 H l1 l2 r1 r2) (f1 : H1 O1 = none) (n1 : O1 ≠ b) (n12 : O1 ≠ O2) (hv : OutP (fun q => q = b ∨ q = O1 ∨ q = O2) H v rs) (hg : GRs rs ∧ 0 < stp (wInk rs)) : LS b O1 O2 H1 (upd H O1 (.lst (l1 ++ [v]))) (l1 ++ [v]) l2 (r1 ++ [rs]) r2 := by
  have k : Kg (fun q => q = b ∨ q = O1 ∨ q = O2) H (upd H O1 (.lst (l1 ++ [v]))) := Kg.put L.h1 (.inr (.inl rfl))
  refine ⟨same_put f1 L.s, ?_, upd_same, (AllAt.snoc L.a1 hv).mono fun _ _ => OutP.kg k, by rw [upd_ne (Ne.symm n12)]; exact L.h2, L.a2.mono fun _ _ => OutP.kg k, fun z hz => ?_, L.g2⟩
  · obtain ⟨g, y, c, e⟩ := L.bag
    exact ⟨g, y, c, by rw [upd_ne (Ne.symm n1)]; exact e⟩
  · rcases List.mem_append.mp hz with hz | hz
    · exact L.g1 z hz
    · rw [List.mem_singleton.mp hz]
      exact hg
theorem LS.push2 (L : LS b O1 O2 H1 H l1 l2 r1 r2) (f2 : H1 O2 = none) (n2 : O2 ≠ b) (n12 : O1 ≠ O2) (hv : OutP (fun q => q = b ∨ q = O1 ∨ q = O2) H v rs) (hg : GRs rs ∧ 0 < stp (wInk rs)) : LS b O1 O2 H1 (upd H O2 (.lst (l2 ++ [v]))) l1 (l2 ++ [v]) r1 (r2 ++ [rs]) := by
  have k : Kg (fun q => q = b ∨ q = O1 ∨ q = O2) H (upd H O2 (.lst (l2 ++ [v]))) := Kg.put L.h2 (.inr (.inr rfl))
  refine ⟨same_put f2 L.s, ?_, by rw [upd_ne n12]; exact L.h1, L.a1.mono fun _ _ => OutP.kg k, upd_same, (AllAt.snoc L.a2 hv).mono fun _ _ => OutP.kg k, L.g1, fun z hz => ?_⟩
  · obtain ⟨g, y, c, e⟩ := L.bag
    exact ⟨g, y, c, by rw [upd_ne (Ne.symm n2)]; exact e⟩
  · rcases List.mem_append.mp hz with hz | hz
    · exact L.g2 z hz
    · rw [List.mem_singleton.mp hz]
      exact hg
end
/-! ### the outlines put otherwise -/
theorem OutP.more {F : Addr → Prop} {H : Hp} {T : Addr} (hT : H T = none) {v : V} {rs : List (List Pt)} (h : OutP F H v rs) : OutP (fun q => F q ∨ q = T) H v rs := by
  have nT : ∀ {r : Addr} {o : HO}, H r = some o → r ≠ T := fun {r o} e z => by rw [z, hT] at e; cases e
  obtain ⟨r, xs, e, n, h1, h2⟩ := h
  exact ⟨r, xs, e, fun z => Or.elim z n (nT h1), h1, h2.imp fun _ _ ⟨r, xs, e, n, h1, h2⟩ => ⟨r, xs, e, fun z => Or.elim z n (nT h1), h1, h2⟩⟩
theorem out_no {F : Addr → Prop} {H : Hp} {O : Addr} {ls xs : List V} {rss : List (List (List Pt))} {rs : List (List Pt)} {b : Addr} (hO : H O = some (.lst ls)) (ha : AllAt (OutP F) H ls rss) (hg : ∀ z ∈ rss, GRs z) {r : Addr} (hr : H r = some (.lst xs)) (hx : AllAt (RingP b) H xs rs) (g : GRs rs) : r ≠ O := fun z => by
  rw [z, hO] at hr
  cases hr
  cases rs with
  | nil => exact absurd g.1.1 (by decide)
  | cons ps rs =>
    cases ls with
    | nil => exact hx.elim
    | cons v xs =>
      obtain ⟨⟨q, ys, rfl, _, hq, hc⟩, _⟩ := hx
      obtain ⟨t, ys', e1, zs, e2⟩ := ring_is (H := H) (ps := ps) ⟨q, ys, rfl, hq, hc⟩ (g.2 ps List.mem_cons_self).1.1
      obtain ⟨rs0, hr0, r', xs', e, _, h3, h4⟩ := ha.at (i := 0) rfl
      cases e
      rw [e1] at h3
      cases h3
      have g0 := (hg rs0 (List.mem_of_getElem? hr0)).1.1
      cases rs0 with
      | nil => exact absurd g0 (by decide)
      | cons p0 rs0 =>
        obtain ⟨⟨q', ws, e, _, h5, _⟩, _⟩ := h4
        cases e
        rw [e2] at h5
        cases h5
structure LT (b O1 O2 T : Addr) (H1 H : Hp) (l1 l2 tl : List V) (r1 r2 ts : List (List (List Pt))) : Prop where
  s : Same H1 H
  bag : IsBag H b
  h1 : H O1 = some (.lst l1)
  a1 : AllAt (OutP fun q => (q = b ∨ q = O1 ∨ q = O2) ∨ q = T) H l1 r1
  h2 : H O2 = some (.lst l2)
  a2 : AllAt (OutP fun q => (q = b ∨ q = O1 ∨ q = O2) ∨ q = T) H l2 r2
  hT : H T = some (.lst tl)
  aT : AllAt (OutP fun q => (q = b ∨ q = O1 ∨ q = O2) ∨ q = T) H tl ts
  g1 : ∀ rs ∈ r1, GRs rs ∧ 0 < stp (wInk rs)
  g2 : ∀ rs ∈ r2, GRs rs ∧ 0 < stp (wInk rs)
  gT : ∀ rs ∈ ts, GRs rs
  wq : ∀ (k : Nat) rs rs', r1[k]? = some rs → ts[k]? = some rs' → WQ rs rs'
section
variable {b O1 O2 T : Addr} {H1 H H' : Hp} {l1 l2 tl : List V} {r1 r2 ts : List (List (List Pt))}
theorem LS.turned (L : LS b O1 O2 H1 H l1 l2 r1 r2) (hT : H T = none) : LT b O1 O2 T H1 (upd H T (.lst [])) l1 l2 [] r1 r2 [] := by
  have s := same_new (o := .lst []) hT
  exact ⟨L.s.trans s, bag_sameS s L.bag, s _ _ L.h1, L.a1.imp fun _ _ h => (h.more hT).kg (Kg.of s), s _ _ L.h2, L.a2.imp fun _ _ h => (h.more hT).kg (Kg.of s), upd_same, trivial, L.g1, L.g2, (fun _ z => nomatch z), fun k rs rs' _ e => by simp at e⟩
theorem LT.bk (L : LT b O1 O2 T H1 H l1 l2 tl r1 r2 ts) (nb : H1 b = none) (n1 : O1 ≠ b) (n2 : O2 ≠ b) (nT : T ≠ b) (B : Bk b H H') : LT b O1 O2 T H1 H' l1 l2 tl r1 r2 ts := by
  have k : Kg (fun q => (q = b ∨ q = O1 ∨ q = O2) ∨ q = T) H H' := kg_bk L.bag B (.inl (.inl rfl))
  exact ⟨fun q o e => B.keep q o (fun z => by rw [z, nb] at e; cases e) (L.s q o e), B.bag, B.keep _ _ n1 L.h1, L.a1.mono fun _ _ => OutP.kg k, B.keep _ _ n2 L.h2, L.a2.mono fun _ _ => OutP.kg k, B.keep _ _ nT L.hT, L.aT.mono fun _ _ => OutP.kg k, L.g1, L.g2, L.gT, L.wq⟩
end
section
variable {b O1 O2 T : Addr} {H1 H H' : Hp} {l1 l2 tl : List V} {r1 r2 ts : List (List (List Pt))}
theorem LT.same (L : LT b O1 O2 T H1 H l1 l2 tl r1 r2 ts) (s : Same H H') : LT b O1 O2 T H1 H' l1 l2 tl r1 r2 ts :=
  ⟨L.s.trans s, bag_sameS s L.bag, s _ _ L.h1, L.a1.mono fun _ _ => OutP.kg (Kg.of s), s _ _ L.h2, L.a2.mono fun _ _ => OutP.kg (Kg.of s), s _ _ L.hT, L.aT.mono fun _ _ => OutP.kg (Kg.of s), L.g1, L.g2, L.gT, L.wq⟩
theorem LT.out (L : LT b O1 O2 T H1 H l1 l2 tl r1 r2 ts) {q : Addr} {xs : List V} {rs : List (List Pt)} (hq : q ≠ b) (hx : H q = some (.lst xs)) (ha : AllAt (RingP b) H xs rs) (g : GRs rs) : OutP (fun q => (q = b ∨ q = O1 ∨ q = O2) ∨ q = T) H (.ref q) rs := by
  refine ⟨q, xs, rfl, fun z => ?_, hx, ?_⟩
  · rcases z with (z | z | z) | z
    · exact hq z
    · exact out_no L.h1 L.a1 (fun y hy => (L.g1 y hy).1) hx ha g z
    · exact out_no L.h2 L.a2 (fun y hy => (L.g2 y hy).1) hx ha g z
    · exact out_no L.hT L.aT L.gT hx ha g z
  · have all : ∀ {xs : List V} {rs : List (List Pt)}, (∀ ps ∈ rs, GR ps) → AllAt (RingP b) H xs rs → AllAt (RingF fun q => (q = b ∨ q = O1 ∨ q = O2) ∨ q = T) H xs rs := fun {xs rs} => by
      induction rs generalizing xs with
      | nil =>
        intro _ h
        cases xs with
        | nil => trivial
        | cons _ _ => exact h.elim
      | cons ps rs ih =>
        intro gg h
        cases xs with
        | nil => exact h.elim
        | cons v xs =>
          obtain ⟨hr, ht⟩ := h
          have g3 := (gg ps List.mem_cons_self).1.1
          refine ⟨?_, ih (fun z hz => gg z (List.mem_cons_of_mem _ hz)) ht⟩
          obtain ⟨r, ys, e, nb, k1, k2⟩ := hr
          subst e
          have hl : RingL H (.ref r) ps := ⟨r, ys, rfl, k1, k2⟩
          refine ⟨r, ys, rfl, fun z => ?_, k1, k2⟩
          rcases z with (z | z | z) | z
          · exact nb z
          · exact ring_no L.h1 L.a1 hl g3 z
          · exact ring_no L.h2 L.a2 hl g3 z
          · exact ring_no L.hT L.aT hl g3 z
    exact all g.2 ha
theorem LT.push {v : V} {rs' : List (List Pt)} (L : LT b O1 O2 T H1 H l1 l2 tl r1 r2 ts) (fT : H1 T = none) (nb : T ≠ b) (n1 : O1 ≠ T) (n2 : O2 ≠ T) (hv : OutP (fun q => (q = b ∨ q = O1 ∨ q = O2) ∨ q = T) H v rs') (g : GRs rs') (w : ∀ rs, r1[ts.length]? = some rs → WQ rs rs') :
    LT b O1 O2 T H1 (upd H T (.lst (tl ++ [v]))) l1 l2 (tl ++ [v]) r1 r2 (ts ++ [rs']) := by
  have k : Kg (fun q => (q = b ∨ q = O1 ∨ q = O2) ∨ q = T) H (upd H T (.lst (tl ++ [v]))) := Kg.put L.hT (.inr rfl)
  refine ⟨same_put fT L.s, ?_, by rw [upd_ne n1]; exact L.h1, L.a1.mono fun _ _ => OutP.kg k, by rw [upd_ne n2]; exact L.h2, L.a2.mono fun _ _ => OutP.kg k, upd_same, (AllAt.snoc L.aT hv).mono fun _ _ => OutP.kg k, L.g1, L.g2, fun z hz => ?_, fun k rs z e1 e2 => ?_⟩
  · obtain ⟨g, y, c, e⟩ := L.bag
    exact ⟨g, y, c, by rw [upd_ne (Ne.symm nb)]; exact e⟩
  · rcases List.mem_append.mp hz with hz | hz
    · exact L.gT z hz
    · rw [List.mem_singleton.mp hz]
      exact g
  · by_cases hk : k < ts.length
    · rw [List.getElem?_append_left hk] at e2
      exact L.wq k rs z e1 e2
    · rw [List.getElem?_append_right (by omega)] at e2
      obtain ⟨i, hi⟩ : ∃ i, k - ts.length = i := ⟨_, rfl⟩
      rw [hi] at e2
      match i, hi, e2 with
      | 0, hi, e2 =>
        have hk : k = ts.length := by omega
        rw [hk] at e1
        have ez : rs' = z := by simpa using e2
        rw [← ez]
        exact w rs e1
      | i + 1, _, e2 => simp at e2
theorem LT.eqk (L : LT b O1 O2 T H1 H l1 l2 tl r1 r2 ts) (hl : ts.length = r1.length) : EqKs (r1.map wInk) (ts.map wInk) := by
  refine ⟨by rw [List.length_map, List.length_map, hl], fun i a c ha hc => ?_⟩
  rw [List.getElem?_map] at ha hc
  cases e1 : r1[i]? with
  | none => rw [e1] at ha; cases ha
  | some rs =>
    cases e2 : ts[i]? with
    | none => rw [e2] at hc; cases hc
    | some rs' =>
      rw [e1] at ha
      rw [e2] at hc
      cases ha
      cases hc
      exact (L.wq i rs rs' e1 e2).ink
theorem LT.gT' (L : LT b O1 O2 T H1 H l1 l2 tl r1 r2 ts) (hl : ts.length = r1.length) : ∀ rs ∈ ts, GRs rs ∧ 0 < stp (wInk rs) := fun rs hrs => by
  refine ⟨L.gT rs hrs, ?_⟩
  obtain ⟨i, hi, e⟩ := List.getElem_of_mem hrs
  have e2 : ts[i]? = some rs := by rw [List.getElem?_eq_getElem hi, e]
  have hi1 : i < r1.length := by omega
  have e1 : r1[i]? = some r1[i] := List.getElem?_eq_getElem hi1
  rw [← stp_eq (L.wq i _ _ e1 e2).ink]
  exact (L.g1 _ (List.getElem_mem hi1)).2
end
theorem EqKs.rfl' (ks : List I4) : EqKs ks ks := ⟨rfl, fun i a b h k => by rw [h] at k; cases k; exact fun _ _ => rfl⟩
theorem EqKs.sym {a b : List I4} (h : EqKs a b) : EqKs b a := ⟨h.len.symm, fun i x y hx hy => (h.at_ i y x hy hx).sym⟩
theorem inksE_comm : ∀ a b : List I4, inksE a b = inksE b a
  | [], [] => rfl
  | [], _ :: _ => rfl
  | _ :: _, [] => rfl
  | x :: xs, y :: ys => by unfold inksE; rw [inkE_comm, inksE_comm xs ys]
theorem inksE_self : ∀ a : List I4, inksE a a = true
  | [] => rfl
  | x :: xs => by
    unfold inksE
    rw [inksE_self xs, show inkE x x = true from SeqAt.eqv_refl _ (inkD_lay x)]
    rfl
theorem eqv_self (ks : List I4) : PyData.eqv (inksD ks) (inksD ks) = true := by
  rw [eqv_inks, inksE_self, Bool.and_true]
  exact beq_self_eq_true _
theorem sameF_comm (ap ap' : Int) (ks ks' : List I4) : sameF ap ks ap' ks' = sameF ap' ks' ap ks := by
  unfold sameF
  rw [inksE_comm ks ks', show decide (ap = ap') = decide (ap' = ap) from decide_eq_decide.mpr ⟨Eq.symm, Eq.symm⟩, Bool.eq_iff_iff.mpr (show (ks.length == ks'.length) = true ↔ (ks'.length == ks.length) = true by simp only [beq_iff_eq]; exact ⟨Eq.symm, Eq.symm⟩)]
theorem decV (i j : Int) : decide (V.int i = V.int j) = decide (i = j) := by
  by_cases h : i = j
  · rw [decide_eq_true h, decide_eq_true (congrArg V.int h)]
  · rw [decide_eq_false h, decide_eq_false (fun z => h (V.int.inj z) : ¬ V.int i = V.int j)]
def otherTs : List String := ["NoneType", "tuple", "list", "str", "int"]
structure OthT (K : PySem.W.Frag) (C : Addr) : Prop where
  nf : ∀ T ∈ otherTs, PySem.W.notFirst K C (.type T) = true
  ko : ∀ T ∈ otherTs, PySem.W.kitOne K (.type T) (.ref C) = some false
section
variable {P : Program} {w : World} {K : PySem.W.Frag} {mg : Str → Option Value} {base : Heap} {C : Addr}
def spLaw (K : PySem.W.Frag) : Sp := fun vs H Q _ => ∃ (a : Addr) (ns : List Int), vs = [.ref a] ∧ SqL K H a (ns.map V.int) ∧ ns.length ≤ 63 ∧ ∀ H', Q (.bl true) H'
abbrev slaw : Stmt := topS 50
theorem sclaw : FnScope ["_law_script", "_law_at", "_law_bag_here", "_law_outlines", "_law_others", "_law_turn_here", "_law_is_new", "_law_turned", "_law_outline", "_law_again", "_law_step", "_law_apart", "_law_far", "_law_one_here", "_law_two", "_law_three", "_law_inks", "_law_more", "_law_is_near", "_law_thing"] ["_law_script"] (defScope slaw) := ⟨rfl, rfl, rfl, by decide +kernel, rfl, by decide +kernel, by decide +kernel⟩
theorem ok_law {f : Addr} {fd : FuncData} (F : Fun K "law" "law" slaw f fd) (T : Txt K mg) (TF : TxF K mg C) (TE : TxE K mg C) (OT : OthT K C) (EQ : EqOk P w K mg base C) (M_Face : MakeOk P w K mg base C 8 "Face" ["self", "outlines", "apart"] (spFaceInit C)) (M_letters : PropOk P w K mg base C 1 "letters" (spLetters C)) (M_within : MethOk P w K mg base C 5 "within" ["self", "other"] (spWithin C))
    (C__law_bag : CallOk P w K mg base 1 "_law_bag" ["_law_script", "_law_at"] (spBag K)) (C__law_draw : CallOk P w K mg base 1 "_law_draw" ["_law_bag_here", "_law_many"] spDraw) (C__law_inked : CallOk P w K mg base 4 "_law_inked" ["_law_bag_here"] spInked) (C__law_ink : CallOk P w K mg base 3 "_law_ink" ["_law_rings_here"] spLInk)
    (C__law_otherwise : CallOk P w K mg base 4 "_law_otherwise" ["_law_bag_here", "_law_rings_here"] spOther) (C__law_same : CallOk P w K mg base 6 "_law_same" ["_law_one_here", "_law_two"] (spSame C)) (C__law_equal_stands : CallOk P w K mg base 3 "_law_equal_stands" ["_law_one_here", "_law_two", "_law_is_equal"] (spEqSt C))
    (C__law_within_stands : CallOk P w K mg base 6 "_law_within_stands" ["_law_one_here", "_law_two", "_law_inks", "_law_others", "_law_is_near"] (spWithinSt C)) : FnOk P w K mg base CX0 10 f fd ["_law_script"] (spLaw K) := by
  refine F.ok sclaw (fun vs H Q E h => ?_) (fun cdv A outer s H vs Q E hr h => ?_)
  · obtain ⟨a, ns, rfl, _⟩ := h
    rfl
  · obtain ⟨a, ns, rfl, hS, hns, k⟩ := h
    obtain ⟨fe, fde, o1, o2, o3⟩ := EQ.ok
    refine ⟨_, (pss_cons (ps_for PassesOwn.never rfl (pi_range1 (by rfl) T.b_range (pa_cons (pe_by (pe_callB (call_max2 rfl) (by rfl) T.b_max (by decide +kernel) (pa_cons pe_int (pa_cons (pe_callB (call_min2 rfl) (by rfl) T.b_min (by decide +kernel) (pa_cons pe_int (pa_cons (pe_callB (r := rLenQ K) (id := "len") (call_lenQ (K := K) rfl) (by rfl) T.b_len PySem.boot_len (pa_cons (pv 0) pa_nil)) pa_nil))) pa_nil)))) pa_nil)) (pg_name (i := 1) sclaw.nd rfl (.inl rfl))
        (pss_cons (ps_set (i := 2) sclaw.nd rfl (.inl rfl) (pe_cc C__law_bag (hr.mono (by decide)) (by rfl) (pa_cons (pv 0) (pa_cons (pv 1) pa_nil))))
        (pss_cons (ps_par (i := 3) (j := 4) (by rfl) sclaw.nd rfl rfl (by decide) rfl rfl (pa_cons (pe_lst pa_nil) (pa_cons (pe_lst pa_nil) pa_nil)) (by rfl))
        (pss_cons (ps_for PassesOwn.never rfl (pi_range1 (by rfl) T.b_range (pa_cons (pe_op op_add pe_int (pe_cc C__law_draw (hr.mono (by decide)) (by rfl) (pa_cons (pv 2) (pa_cons pe_int pa_nil)))) pa_nil)) (pg_name (i := 5) sclaw.nd rfl (.inl rfl))
          (pss_one (ps_expr (pe_bm PySem.F.plainAttrs_list PySem.F.slot_list_append PySem.F.type_list_append mt_append (pv 3) (pa_cons (pe_cc C__law_inked (hr.mono (by decide)) (by rfl) (pa_cons (pv 2) pa_nil)) pa_nil)))))
        (pss_cons (ps_for PassesOwn.never rfl (pi_range1 (by rfl) T.b_range (pa_cons (pe_op op_add pe_int (pe_cc C__law_draw (hr.mono (by decide)) (by rfl) (pa_cons (pv 2) (pa_cons pe_int pa_nil)))) pa_nil)) (pg_name (i := 5) sclaw.nd rfl (.inl rfl))
          (pss_cons (ps_set (i := 6) sclaw.nd rfl (.inl rfl) (pe_by (pe_or (pe_cmpR op_eq (pe_cc C__law_draw (hr.mono (by decide)) (by rfl) (pa_cons (pv 2) (pa_cons pe_int pa_nil))) pe_int (nomark _)) (pe_one (pe_cmpR op_ge (pv 5) (pe_callB (r := rLenQ K) (id := "len") (call_lenQ (K := K) rfl) (by rfl) T.b_len PySem.boot_len (pa_cons (pv 3) pa_nil)) (nomark _))))))
          (pss_one (ps_expr (pe_bm PySem.F.plainAttrs_list PySem.F.slot_list_append PySem.F.type_list_append mt_append (pv 4) (pa_cons (pe_by (pe_ifExp (pt_val (pv 6)) (pe_cc C__law_inked (hr.mono (by decide)) (by rfl) (pa_cons (pv 2) pa_nil)) (pe_ix ix_list (pv 3) (pv 5) (fun _ _ => rfl)))) pa_nil))))))
        (pss_cons (ps_set (i := 7) sclaw.nd rfl (.inl rfl) (pe_lst pa_nil))
        (pss_cons (ps_for PassesOwn.never rfl (pi_list (pv 3)) (pg_name (i := 8) sclaw.nd rfl (.inl rfl))
          (pss_cons (ps_set (i := 9) sclaw.nd rfl (.inl rfl) (pv 8))
          (pss_cons (ps_for PassesOwn.never rfl (pi_range1 (by rfl) T.b_range (pa_cons (pe_op op_add pe_int (pe_cc C__law_draw (hr.mono (by decide)) (by rfl) (pa_cons (pv 2) (pa_cons pe_int pa_nil)))) pa_nil)) (pg_name (i := 10) sclaw.nd rfl (.inl rfl))
            (pss_one (ps_set (i := 9) sclaw.nd rfl (.inl rfl) (pe_cc C__law_otherwise (hr.mono (by decide)) (by rfl) (pa_cons (pv 2) (pa_cons (pv 9) pa_nil))))))
          (pss_one (ps_expr (pe_bm PySem.F.plainAttrs_list PySem.F.slot_list_append PySem.F.type_list_append mt_append (pv 7) (pa_cons (pv 9) pa_nil)))))))
        (pss_cons (ps_par (i := 11) (j := 12) (by rfl) sclaw.nd rfl rfl (by decide) rfl rfl (pa_cons (pe_cc C__law_draw (hr.mono (by decide)) (by rfl) (pa_cons (pv 2) (pa_cons pe_int pa_nil))) (pa_cons (pe_cc C__law_draw (hr.mono (by decide)) (by rfl) (pa_cons (pv 2) (pa_cons pe_int pa_nil))) pa_nil)) (by rfl))
        (pss_cons (ps_par3 (i := 13) (j := 14) (l := 15) (by rfl) sclaw.nd rfl rfl rfl (by decide) (by decide) (by decide) rfl rfl rfl (pa_cons (pe_mkC M_Face (hr.mono (by decide)) (by rfl) (pa_cons (pv 3) (pa_cons (pv 11) pa_nil))) (pa_cons (pe_mkC M_Face (hr.mono (by decide)) (by rfl) (pa_cons (pv 7) (pa_cons (pv 11) pa_nil))) (pa_cons (pe_mkC M_Face (hr.mono (by decide)) (by rfl) (pa_cons (pv 4) (pa_cons (pv 12) pa_nil))) pa_nil))) (by rfl))
        (pss_cons (ps_if (PW.pt (pw_or (pt_not (pt_val (pe_cc C__law_same (hr.mono (by decide)) (by rfl) (pa_cons (pv 13) (pa_cons (pv 14) pa_nil))))) (pw_or1 (pt_not (pt_val (pe_cc C__law_equal_stands (hr.mono (by decide)) (by rfl) (pa_cons (pv 13) (pa_cons (pv 14) (pa_cons pe_bl pa_nil)))))))))
          (pss_one (ps_ret pe_bl))
          pss_nil)
        (pss_cons (ps_if (PW.pt (pw_or (pt_cmpR op_notBl (pe_mc (pv 13) TF.cl M_within (hr.mono (by decide)) (pa_cons (pv 14) pa_nil)) pe_bl (nomark _)) (pw_or1 (pt_cmpR op_notBl (pe_mc (pv 14) TF.cl M_within (hr.mono (by decide)) (pa_cons (pv 13) pa_nil)) pe_bl (nomark _)))))
          (pss_one (ps_ret pe_bl))
          pss_nil)
        (pss_cons (ps_par (i := 16) (j := 17) (by rfl) sclaw.nd rfl rfl (by decide) rfl rfl (pa_cons (pe_lc (own := [("_law_outline", 8)]) (g := gName 8) (tt := tYes) (te := tCall spLInk [] E0 (tCons (tVar 8) tNil)) rfl sclaw.nd (pi_list (pv 3)) (blkOk_by (N := ["_law_script", "_law_at", "_law_bag_here", "_law_outlines", "_law_others", "_law_turn_here", "_law_is_new", "_law_turned", "_law_outline", "_law_again", "_law_step", "_law_apart", "_law_far", "_law_one_here", "_law_two", "_law_three", "_law_inks", "_law_more", "_law_is_near", "_law_thing"]) (sc := defScope slaw) (by decide +kernel)) (fun _ _ _ _ _ => (pg_name (i := 8) sclaw.nd rfl (.inl rfl))) (fun _ _ _ _ _ => pts_nil) (fun _ _ _ _ _ => (pe_cc C__law_ink (hr.mono (by decide)) (by rfl) (pa_cons (pv 8) pa_nil)))) (pa_cons (pe_lc (own := [("_law_outline", 8)]) (g := gName 8) (tt := tYes) (te := tCall spLInk [] E0 (tCons (tVar 8) tNil)) rfl sclaw.nd (pi_list (pv 4)) (blkOk_by (N := ["_law_script", "_law_at", "_law_bag_here", "_law_outlines", "_law_others", "_law_turn_here", "_law_is_new", "_law_turned", "_law_outline", "_law_again", "_law_step", "_law_apart", "_law_far", "_law_one_here", "_law_two", "_law_three", "_law_inks", "_law_more", "_law_is_near", "_law_thing"]) (sc := defScope slaw) (by decide +kernel)) (fun _ _ _ _ _ => (pg_name (i := 8) sclaw.nd rfl (.inl rfl))) (fun _ _ _ _ _ => pts_nil) (fun _ _ _ _ _ => (pe_cc C__law_ink (hr.mono (by decide)) (by rfl) (pa_cons (pv 8) pa_nil)))) pa_nil)) (by rfl))
        (pss_cons (ps_set (i := 18) sclaw.nd rfl (.inl rfl) (pe_cmpR op_eq (pv 11) (pv 12) (nomark _)))
        (pss_cons (ps_if (pt_not (pt_val (pe_cc C__law_equal_stands (hr.mono (by decide)) (by rfl) (pa_cons (pv 14) (pa_cons (pv 15) (pa_cons (pe_by (pe_and (pv 18) (pe_one (pe_cmpR (op_eqD hr.units) (pv 16) (pv 17) (nomark _))))) pa_nil))))))
          (pss_one (ps_ret pe_bl))
          pss_nil)
        (pss_cons (ps_if (pt_not (pt_val (pe_cc C__law_within_stands (hr.mono (by decide)) (by rfl) (pa_cons (pv 14) (pa_cons (pv 15) (pa_cons (pv 16) (pa_cons (pv 17) (pa_cons (pv 18) pa_nil))))))))
          (pss_one (ps_ret pe_bl))
          pss_nil)
        (pss_cons (ps_if (pt_not (pt_val (pe_cc C__law_within_stands (hr.mono (by decide)) (by rfl) (pa_cons (pv 15) (pa_cons (pv 14) (pa_cons (pv 17) (pa_cons (pv 16) (pa_cons (pv 18) pa_nil))))))))
          (pss_one (ps_ret pe_bl))
          pss_nil)
        (pss_one (ps_for PassesOwn.never rfl (pi_list (pe_lst (pa_cons pe_non (pa_cons (pe_callTy call_tuple_of (by rfl) T.b_tuple (by decide +kernel) (pa_cons (pv 16) pa_nil)) (pa_cons (pv 3) (pa_cons (pe_po (pv 13) TF.cl M_letters (hr.mono (by decide))) (pa_cons (pv 11) pa_nil))))))) (pg_name (i := 19) sclaw.nd rfl (.inl rfl))
          (pss_one (ps_if (PW.pt (pw_or (pt_cmpR op_notBl (pe_cmpR (op_eqO (E := E0) o3 o2 pass0 (hr.mono (by decide)) o1) (pv 13) (pv 19) (nomark _)) pe_bl (nomark _)) (pw_or1 (pt_cmpR op_notBl (pe_cmpR (op_neO (E := E0) o3 o2 pass0 (hr.mono (by decide)) o1) (pv 13) (pv 19) (nomark _)) pe_bl (nomark _)))))
            (pss_one (ps_ret pe_bl))
            pss_nil))))))))))))))))))))
      (pss_one (ps_ret pe_bl))), ?_⟩
    have hll : (ns.map V.int).length = ns.length := List.length_map ..
    obtain ⟨J, hJ1, hJ2⟩ := one_to (ns := (ns.map V.int).length) (by omega)
    refine ⟨fun v H' => v = .int (J : Int) ∧ H' = H, fun Q' hQ => ⟨_, rfl, a, _, rfl, .inl hS, _, _, rfl, _, _, rfl, hQ _ _ ⟨congrArg V.int hJ2, rfl⟩⟩, ?_⟩
    rintro v H' ⟨rfl, eH⟩
    obtain rfl := eH.symm
    refine ⟨_, rfl, by omega, by omega, for_range (lo := 0) (n := ((J : Nat) : Int).toNat) (fun i σ H' => ∃ (y1 y2 y3 y4 y5 y6 y7 y8 y9 y10 y11 y12 y13 y14 y15 y16 y17 y18 y19 : Option V), σ = [some (.ref a), y1, y2, y3, y4, y5, y6, y7, y8, y9, y10, y11, y12, y13, y14, y15, y16, y17, y18, y19] ∧ Same H H')
      ⟨none, none, none, none, none, none, none, none, none, none, none, none, none, none, none, none, none, none, none, rfl, Same.refl H⟩ ?_ ?_⟩
    · rintro i σ H1 hi ⟨y1, y2, y3, y4, y5, y6, y7, y8, y9, y10, y11, y12, y13, y14, y15, y16, y17, y18, y19, rfl, s1⟩
      have hi' : i < 64 := by omega
      show gName 1 _ _ _ _
      rw [Int.zero_add]
      have hS1 : SqL K H1 a (ns.map V.int) := ext_seqL (LamX.ExtN.of s1) hS
      refine ⟨_, rfl, _, rfl, a, (i : Int), ns, rfl, hS1, by omega, by omega, fun b H2 nb hb2 kb => ?_⟩
      have s2 : Same H1 H2 := fun q o e => kb q o (fun r => by rw [r] at e; rw [e] at nb; cases nb) e
      refine ⟨Nat.zero_le _, fun O1 hO1 => ⟨Nat.zero_le _, fun O2 hO2 => ⟨_, _, rfl, ?_⟩⟩⟩
      have sA := same_new (o := .lst []) hO1
      have sB := same_new (o := .lst []) hO2
      have n1 : O1 ≠ b := bag_ne hb2 hO1
      have n2 : O2 ≠ b := bag_ne (bag_sameS sA hb2) hO2
      have n12 : O1 ≠ O2 := fun z => by rw [← z, upd_same] at hO2; cases hO2
      have f1 : H1 O1 = none := s2.free hO1
      have f2 : H1 O2 = none := (s2.trans sA).free hO2
      have L0 : LS b O1 O2 H1 (upd (upd H2 O1 (.lst [])) O2 (.lst [])) [] [] [] [] := ⟨(s2.trans sA).trans sB, bag_sameS (sA.trans sB) hb2, sB _ _ upd_same, trivial, upd_same, trivial, (fun _ z => nomatch z), (fun _ z => nomatch z)⟩
      generalize upd (upd H2 O1 (.lst [])) O2 (.lst []) = H3 at L0 ⊢
      clear sA sB hO1 hO2 kb s2 hb2
      -- outlines
      refine ⟨_, rfl, b, 4, rfl, L0.bag, by decide, by decide, fun d H4 d0 d1 B4 => ⟨_, _, rfl, rfl, _, rfl, by omega, by omega, ?_⟩⟩
      have L4 := L0.bk nb n1 n2 B4
      refine for_range (lo := 0) (n := ((1 : Int) + d).toNat) (fun m σ H' => ∃ (y5 : Option V) (l1 : List V) (r1 : List (List (List Pt))), σ = [some (.ref a), some (.int (i : Int)), some (.ref b), some (.ref O1), some (.ref O2), y5, y6, y7, y8, y9, y10, y11, y12, y13, y14, y15, y16, y17, y18, y19] ∧ LS b O1 O2 H1 H' l1 [] r1 [] ∧ r1.length = m)
        ⟨_, [], [], rfl, L4, rfl⟩ ?_ ?_
      · rintro m σ H5 hm ⟨y5, l1, r1, rfl, L5, hrl⟩
        have hm4 : m < 4 := by omega
        refine ⟨_, rfl, .inl ⟨rfl, _, SqL.of L5.h1⟩, _, rfl, b, rfl, L5.bag, fun p H6 xs rs hp B6 hx hall hgo hst h8 => ?_⟩
        have L6 := L5.bk nb n1 n2 B6
        have hv := out_of L6.bag L6.h1 L6.a1 L6.h2 L6.a2 ⟨bag_ne L5.bag hp, (fun z => by rw [z, L5.h1] at hp; cases hp), (fun z => by rw [z, L5.h2] at hp; cases hp)⟩ hx hall (GRs.of hgo)
        refine ⟨O1, l1, _, rfl, rfl, L6.h1, Nat.lt_of_le_of_lt (m := 4) (by rw [L6.a1.len]; omega) (by decide), ?_⟩
        exact ⟨_, _, r1 ++ [rs], rfl, L6.push1 f1 n1 n12 hv ⟨GRs.of hgo, hst⟩, by rw [List.length_append, hrl]; rfl⟩
      rintro σ H5 ⟨y5, l1, r1, rfl, L5, hrl⟩
      have h14 : 1 ≤ r1.length ∧ r1.length ≤ 4 := by omega
      -- others
      refine ⟨_, rfl, b, 4, rfl, L5.bag, by decide, by decide, fun d2 H6 d20 d21 B6 => ⟨_, _, rfl, rfl, _, rfl, by omega, by omega, ?_⟩⟩
      have L6 := L5.bk nb n1 n2 B6
      refine for_range (lo := 0) (n := ((1 : Int) + d2).toNat) (fun m σ H' => ∃ (y5 y6 : Option V) (l2 : List V) (r2 : List (List (List Pt))), σ = [some (.ref a), some (.int (i : Int)), some (.ref b), some (.ref O1), some (.ref O2), y5, y6, y7, y8, y9, y10, y11, y12, y13, y14, y15, y16, y17, y18, y19] ∧ LS b O1 O2 H1 H' l1 l2 r1 r2 ∧ r2.length = m)
        ⟨_, _, [], [], rfl, L6, rfl⟩ ?_ ?_
      · rintro m σ H7 hm ⟨y5, y6, l2, r2, rfl, L7, hrl2⟩
        have hm4 : m < 4 := by omega
        show gName 5 _ _ _ _
        rw [Int.zero_add]
        refine ⟨fun v H' => ∃ e : Bool, v = .bl e ∧ LS b O1 O2 H1 H' l1 l2 r1 r2 ∧ (e = false → m < r1.length), fun Q' hQ => ?_, ?_⟩
        · refine ⟨_, rfl, b, 4, rfl, L7.bag, by decide, by decide, fun e H8 e0 e1 B8 => ?_⟩
          have L8 := L7.bk nb n1 n2 B8
          refine ⟨rfl, _, rfl, ite2 (fun c => hQ _ _ ⟨_, rfl, L8, fun z => by first | exact nomatch z | (rw [c] at z; cases z)⟩) (fun c => ?_)⟩
          refine ⟨_, rfl, _, rfl, O1, l1, rfl, .inl (SqL.of L8.h1), _, _, rfl, rfl, hQ _ _ ⟨_, rfl, L8, fun z => ?_⟩⟩
          have hl := L8.a1.len
          have := of_decide_eq_false z
          omega
        · rintro v H8 ⟨e, rfl, L8, he⟩
          refine ⟨_, rfl, .inl ⟨rfl, _, SqL.of L8.h2⟩, ?_⟩
          refine ⟨fun v H' => ∃ rs, LS b O1 O2 H1 H' l1 l2 r1 r2 ∧ OutP (fun q => q = b ∨ q = O1 ∨ q = O2) H' v rs ∧ GRs rs ∧ 0 < stp (wInk rs), fun Q' hQ => ?_, ?_⟩
          · refine ⟨_, rfl, _, rfl, ?_⟩
            cases e with
            | true =>
              refine iteT ?_
              refine ⟨_, rfl, b, rfl, L8.bag, fun p H9 xs rs hp B9 hx hall hgo hst h8 => ?_⟩
              have L9 := L8.bk nb n1 n2 B9
              exact hQ _ _ ⟨rs, L9, out_of L9.bag L9.h1 L9.a1 L9.h2 L9.a2 ⟨bag_ne L8.bag hp, (fun z => by rw [z, L8.h1] at hp; cases hp), (fun z => by rw [z, L8.h2] at hp; cases hp)⟩ hx hall (GRs.of hgo), GRs.of hgo, hst⟩
            | false =>
              refine iteF ?_
              have hm1 := he rfl
              obtain ⟨w, hw, ho⟩ := L8.a1.to (List.getElem?_eq_getElem hm1)
              obtain ⟨q1, q2⟩ := L8.g1 _ (List.getElem_mem hm1)
              exact ⟨_, rfl, _, rfl, O1, _, _, _, rfl, rfl, SqL.of L8.h1, atI_nat hw, hQ _ _ ⟨_, L8, ho, q1, q2⟩⟩
          · rintro w H9 ⟨rs, L9, ho, q1, q2⟩
            refine ⟨O2, l2, _, rfl, rfl, L9.h2, Nat.lt_of_le_of_lt (m := 4) (by rw [L9.a2.len]; omega) (by decide), ?_⟩
            exact ⟨_, _, _, r2 ++ [rs], rfl, L9.push2 f2 n2 n12 ho ⟨q1, q2⟩, by rw [List.length_append, hrl2]; rfl⟩
      rintro σ H7 ⟨y5, y6, l2, r2, rfl, L7, hrl2⟩
      have h24 : 1 ≤ r2.length ∧ r2.length ≤ 4 := by omega
      -- turned
      refine ⟨Nat.zero_le _, fun T hT => ?_⟩
      have nTb : T ≠ b := bag_ne L7.bag hT
      have nT1 : O1 ≠ T := fun z => by rw [← z, L7.h1] at hT; cases hT
      have nT2 : O2 ≠ T := fun z => by rw [← z, L7.h2] at hT; cases hT
      have fT : H1 T = none := L7.s.free hT
      have LT0 := L7.turned hT
      have hrl1 := L7.a1.len
      generalize upd H7 T (.lst []) = H8 at LT0 ⊢
      clear L7 hT
      refine at_state [some (.ref a), some (.int (i : Int)), some (.ref b), some (.ref O1), some (.ref O2), y5, y6, some (.ref T), y8, y9, y10, y11, y12, y13, y14, y15, y16, y17, y18, y19] rfl ?_
      refine ⟨_, rfl, O1, rfl, ⟨_, SqL.of LT0.h1⟩, for_it (walk_list (K := K) (a := O1) (xs := l1)) (fun m σ H' => ∃ (y8 y9 y10 : Option V) (tl : List V) (ts : List (List (List Pt))), σ = [some (.ref a), some (.int (i : Int)), some (.ref b), some (.ref O1), some (.ref O2), y5, y6, some (.ref T), y8, y9, y10, y11, y12, y13, y14, y15, y16, y17, y18, y19] ∧ LT b O1 O2 T H1 H' l1 l2 tl r1 r2 ts ∧ ts.length = m)
        ⟨_, _, _, [], [], rfl, LT0, rfl⟩ (fun m σ H' _ ⟨_, _, _, _, _, _, q, _⟩ => SqL.of q.h1) ?_ ?_⟩
      · rintro m v σ H90 H9 hm ⟨y8, y9, y10, tl, ts, rfl, L9, htl⟩ ⟨rfl, hv⟩
        obtain ⟨rs, hrs, q0, xs0, rfl, hq0, hx0, hall0⟩ := L9.a1.at hv
        have hq0b : q0 ≠ b := fun z => hq0 (.inl (.inl z))
        have g0 := L9.g1 rs (List.mem_of_getElem? hrs)
        have hall0' : AllAt (RingP b) H9 xs0 rs := hall0.imp fun v ps ⟨r, ys, e, n, k1, k2⟩ => ⟨r, ys, e, fun z => n (.inl (.inl z)), k1, k2⟩
        refine ⟨_, rfl, ?_⟩
        refine ⟨_, rfl, b, 5, rfl, L9.bag, by decide, by decide, fun d H10 d0 d1 B10 => ⟨_, _, rfl, rfl, _, rfl, by omega, by omega, ?_⟩⟩
        have L10 := L9.bk nb n1 n2 nTb B10
        refine for_range (lo := 0) (n := ((1 : Int) + d).toNat) (fun st σ H' => ∃ (y10 : Option V) (q : Addr) (xs : List V) (rs' : List (List Pt)), σ = [some (.ref a), some (.int (i : Int)), some (.ref b), some (.ref O1), some (.ref O2), y5, y6, some (.ref T), some (.ref q0), some (.ref q), y10, y11, y12, y13, y14, y15, y16, y17, y18, y19] ∧ LT b O1 O2 T H1 H' l1 l2 tl r1 r2 ts ∧ q ≠ b ∧ H' q = some (.lst xs) ∧ AllAt (RingP b) H' xs rs' ∧ GRs rs' ∧ WQ rs rs')
          ⟨_, q0, xs0, rs, rfl, L10, hq0b, B10.keep _ _ hq0b hx0, hall0'.mono fun _ _ => RingP.bk L9.bag B10, g0.1, WQ.refl rs⟩ ?_ ?_
        · rintro st σ H11 hst ⟨y10, q, xs, rs', rfl, L11, hqb, hx, hall, g, wq⟩
          show gName 10 _ _ _ _
          refine ⟨_, rfl, _, rfl, b, q, xs, rs', rfl, L11.bag, hqb, hx, hall, g, fun q2 xs2 rs2 H12 B12 hq2 hx2 hall2 g2 wq2 => ?_⟩
          exact ⟨_, q2, xs2, rs2, rfl, L11.bk nb n1 n2 nTb B12, hq2, hx2, hall2, g2, wq.trans wq2⟩
        · rintro σ H11 ⟨y10, q, xs, rs', rfl, L11, hqb, hx, hall, g, wq⟩
          refine ⟨_, rfl, .inl ⟨rfl, _, SqL.of L11.hT⟩, _, rfl, T, tl, _, rfl, rfl, L11.hT, Nat.lt_of_le_of_lt (m := 4) (by rw [L11.aT.len]; omega) (by decide), ?_⟩
          exact ⟨_, _, _, _, ts ++ [rs'], rfl, L11.push fT nTb nT1 nT2 (L11.out hqb hx hall g) g (fun rs0 e => by rw [htl, hrs] at e; cases e; exact wq), by rw [List.length_append, htl]; rfl⟩
      rintro σ H9 ⟨y8, y9, y10, tl, ts, rfl, L9, htl⟩
      have hts : ts.length = r1.length := by rw [htl]; exact hrl1
      -- apart, far
      refine ⟨_, rfl, b, 3, rfl, L9.bag, by decide, by decide, fun ap H10 p0 p1 B10 => ⟨_, rfl, b, 3, rfl, B10.bag, by decide, by decide, fun fa H11 f0 f1 B11 => ⟨_, _, rfl, ?_⟩⟩⟩
      have L11 := L9.bk nb n1 n2 nTb (B10.trans B11)
      clear L9 B10 B11
      refine at_state [some (.ref a), some (.int (i : Int)), some (.ref b), some (.ref O1), some (.ref O2), y5, y6, some (.ref T), y8, y9, y10, some (.int ap), some (.int fa), y13, y14, y15, y16, y17, y18, y19] rfl ?_
      -- three faces
      refine ⟨_, rfl, _, rfl, fun x1 dx1 hx1 hdx1 hne1 => ?_⟩
      have sx1 : Same H11 (upd (upd H11 dx1 (.own x1)) x1 (.ins C dx1 [])) := (same_new hdx1).trans (same_new (by rw [upd_ne (Ne.symm hne1)]; exact hx1))
      have LA := L11.same sx1
      refine ⟨x1, dx1, .ref O1, ap, r1, l1, O1, rfl, upd_same, rfl, .inl LA.h1, LA.a1.imp (fun _ _ h => h.at), h14, fun rs hrs => ⟨(LA.g1 rs hrs).1.good, (LA.g1 rs hrs).2⟩, p0, by omega, fun H12 hk1 hF1 => ⟨rfl, ?_⟩⟩
      have s12 : Same H11 H12 := fun q o e => hk1 q o (ne_of_none e hx1) (sx1 q o e)
      have L12 := L11.same s12
      clear sx1 LA hk1 hx1 hdx1 hne1 s12 L11
      refine ⟨_, rfl, _, rfl, fun x2 dx2 hx2 hdx2 hne2 => ?_⟩
      have sx2 : Same H12 (upd (upd H12 dx2 (.own x2)) x2 (.ins C dx2 [])) := (same_new hdx2).trans (same_new (by rw [upd_ne (Ne.symm hne2)]; exact hx2))
      have LA := L12.same sx2
      refine ⟨x2, dx2, .ref T, ap, ts, tl, T, rfl, upd_same, rfl, .inl LA.hT, LA.aT.imp (fun _ _ h => h.at), by omega, fun rs hrs => ⟨(LA.gT' hts rs hrs).1.good, (LA.gT' hts rs hrs).2⟩, p0, by omega, fun H13 hk2 hF2 => ⟨rfl, ?_⟩⟩
      have s13 : Same H12 H13 := fun q o e => hk2 q o (ne_of_none e hx2) (sx2 q o e)
      have L13 := L12.same s13
      have hF1 := hF1.mono s13
      clear sx2 LA hk2 hx2 hdx2 hne2 s13 L12
      refine ⟨_, rfl, _, rfl, fun x3 dx3 hx3 hdx3 hne3 => ?_⟩
      have sx3 : Same H13 (upd (upd H13 dx3 (.own x3)) x3 (.ins C dx3 [])) := (same_new hdx3).trans (same_new (by rw [upd_ne (Ne.symm hne3)]; exact hx3))
      have LA := L13.same sx3
      refine ⟨x3, dx3, .ref O2, fa, r2, l2, O2, rfl, upd_same, rfl, .inl LA.h2, LA.a2.imp (fun _ _ h => h.at), h24, fun rs hrs => ⟨(LA.g2 rs hrs).1.good, (LA.g2 rs hrs).2⟩, f0, by omega, fun H14 hk3 hF3 => ⟨rfl, ?_⟩⟩
      have s14 : Same H13 H14 := fun q o e => hk3 q o (ne_of_none e hx3) (sx3 q o e)
      have L14 := L13.same s14
      have hF1 := hF1.mono s14
      have hF2 := hF2.mono s14
      clear sx3 LA hk3 hx3 hdx3 hne3 s14 L13
      refine ⟨_, _, _, rfl, ?_⟩
      refine at_state [some (.ref a), some (.int (i : Int)), some (.ref b), some (.ref O1), some (.ref O2), y5, y6, some (.ref T), y8, y9, y10, some (.int ap), some (.int fa), some (.ref x1), some (.ref x2), some (.ref x3), y16, y17, y18, y19] rfl ?_
      have k1 : (r1.map wInk).length ≤ 4 := by rw [List.length_map]; exact h14.2
      have k2 : (ts.map wInk).length ≤ 4 := by rw [List.length_map, hts]; exact h14.2
      have k3 : (r2.map wInk).length ≤ 4 := by rw [List.length_map]; exact h24.2
      have E12 := L14.eqk hts
      obtain ⟨e1, di1, df1, ik1, fk1, h1, _⟩ := id hF1
      obtain ⟨e2, di2, df2, ik2, fk2, h2, _⟩ := id hF2
      -- the same, equal
      refine ⟨_, rfl, _, rfl, x1, x2, ap, r1.map wInk, ts.map wInk, rfl, hF1, hF2, k1, E12, fun H15 s15 => ⟨_, rfl, iteQ (by decide) ?_⟩⟩
      have q12 : sameF ap (r1.map wInk) ap (ts.map wInk) = true := by
        rw [same_is (EqKs.rfl' _) E12.sym, eqv_self, decide_eq_true rfl]
        rfl
      refine ⟨_, rfl, _, rfl, x1, x2, ap, ap, r1.map wInk, ts.map wInk, true, rfl, hF1.mono s15, hF2.mono s15, q12, by rw [sameF_comm]; exact q12, fun H16 s16' => ⟨_, rfl, iteQ (by decide) ?_⟩⟩
      have s16 := s15.trans s16'
      -- within
      have w12 : withinB ap (r1.map wInk) ap (ts.map wInk) = true := by
        rw [within_is (EqKs.rfl' _) E12.sym, List.take_length, eqv_self, decide_eq_true rfl]
        rfl
      have w21 : withinB ap (ts.map wInk) ap (r1.map wInk) = true := by
        rw [within_is E12.sym (EqKs.rfl' _), List.take_length, eqv_self, decide_eq_true rfl]
        rfl
      refine ⟨_, rfl, x1, e1, _, rfl, s16 _ _ h1, rfl, _, rfl, x1, x2, ap, ap, _, _, rfl, hF1.mono s16, hF2.mono s16, k1, k2, fun H17 s17' => ?_⟩
      rw [w12]
      refine ⟨_, _, rfl, rfl, _, rfl, iteQ (by decide) ?_⟩
      have s17 := s16.trans s17'
      refine ⟨_, rfl, x2, e2, _, rfl, s17 _ _ h2, rfl, _, rfl, x2, x1, ap, ap, _, _, rfl, hF2.mono s17, hF1.mono s17, k2, k1, fun H18 s18' => ?_⟩
      rw [w21]
      refine ⟨_, _, rfl, rfl, _, rfl, iteQ (by decide) ?_⟩
      have s18 := s17.trans s18'
      have L18 := L14.same s18
      have hF1 := hF1.mono s18
      have hF2 := hF2.mono s18
      have hF3 := hF3.mono s18
      have h1 := s18 _ _ h1
      clear s15 s16' s16 s17' s17 s18' s18 L14 h2
      -- inks
      refine ⟨_, rfl, O1, rfl, ⟨l1, SqL.of L18.h1⟩, fun D1 hD1 => ?_⟩
      refine lc_collW (J := Itl K O1) (G := fun H' => SqL K H' O1 l1) (walk_list (xs := l1)) (R := fun H v rs => InkAt H v (wInk rs)) (ys := r1) (fun s h => InkAt.mono s h) (fun H' s => SqL.of (s _ _ L18.h1)) (fun i H v H' h => by rw [h.1]; exact Same.refl H) hD1 L18.a1.len (by omega)
          (fun m v rs H20 H21 Q2 hy hb s20 ⟨ls2, hls2⟩ kq => ?_) (fun x σ H P P' h q => h _ _ q) (fun us H19 hus hin s19 => ?_)
      · obtain ⟨rfl, hv⟩ := hy
        obtain ⟨rs', hrs, r, xs, rfl, _, hx, hall⟩ := (L18.same s20).a1.at hv
        rw [hb] at hrs
        cases hrs
        refine ⟨rfl, _, rfl, r, xs, rs, rfl, hx, hall.imp (fun _ _ h => h.l.at), goodO_rs (L18.g1 rs (List.mem_of_getElem? hb)).1.good, fun t H22 ht0 s22 ht => ?_⟩
        exact kq _ _ s22 ⟨t, rfl, hide_at (s22 _ _ hls2) ht⟩
      have L19 := L18.same s19
      have hF1 := hF1.mono s19
      have hF2 := hF2.mono s19
      have hF3 := hF3.mono s19
      have h1 := s19 _ _ h1
      have hin : AllAt InkAt H19 us (r1.map wInk) := all_mapR (S := fun H v rs => InkAt H v (wInk rs)) (fun v rs h => h) hin
      clear s19 L18
      refine ⟨_, rfl, O2, rfl, ⟨l2, SqL.of L19.h2⟩, fun D2 hD2 => ?_⟩
      refine lc_collW (J := Itl K O2) (G := fun H' => SqL K H' O2 l2) (walk_list (xs := l2)) (R := fun H v rs => InkAt H v (wInk rs)) (ys := r2) (fun s h => InkAt.mono s h) (fun H' s => SqL.of (s _ _ L19.h2)) (fun i H v H' h => by rw [h.1]; exact Same.refl H) hD2 L19.a2.len (by omega)
          (fun m v rs H20 H21 Q2 hy hb s20 ⟨ls2, hls2⟩ kq => ?_) (fun x σ H P P' h q => h _ _ q) (fun ws H23 hws hin2 s23 => ?_)
      · obtain ⟨rfl, hv⟩ := hy
        obtain ⟨rs', hrs, r, xs, rfl, _, hx, hall⟩ := (L19.same s20).a2.at hv
        rw [hb] at hrs
        cases hrs
        refine ⟨rfl, _, rfl, r, xs, rs, rfl, hx, hall.imp (fun _ _ h => h.l.at), goodO_rs (L19.g2 rs (List.mem_of_getElem? hb)).1.good, fun t H22 ht0 s22 ht => ?_⟩
        exact kq _ _ s22 ⟨t, rfl, hide_at (s22 _ _ hls2) ht⟩
      have L23 := L19.same s23
      have hF1 := hF1.mono s23
      have hF2 := hF2.mono s23
      have hF3 := hF3.mono s23
      have h1 := s23 _ _ h1
      have hin := hin.mono (R := InkAt) fun _ _ => InkAt.mono s23
      have hus := s23 _ _ hus
      have hin2 : AllAt InkAt H23 ws (r2.map wInk) := all_mapR (S := fun H v rs => InkAt H v (wInk rs)) (fun v rs h => h) hin2
      clear s23 L19
      refine ⟨_, _, rfl, ?_⟩
      refine ⟨_, rfl, _, rfl, rfl, ?_⟩
      refine at_state [some (.ref a), some (.int (i : Int)), some (.ref b), some (.ref O1), some (.ref O2), y5, y6, some (.ref T), y8, y9, y10, some (.int ap), some (.int fa), some (.ref x1), some (.ref x2), some (.ref x3), some (.ref D1), some (.ref D2), some (.bl (decide (ap = fa))), y19] (by rw [← decV]; rfl) ?_
      -- equal as the inks tell
      refine ⟨_, rfl, _, rfl, fun v H' => v = .bl (decide (ap = fa) && PyData.eqv (inksD (r1.map wInk)) (inksD (r2.map wInk))) ∧ H' = H23, fun Q' hQ => ?_, ?_⟩
      · refine ⟨_, rfl, _, rfl, ?_⟩
        by_cases e : ap = fa
        · rw [decide_eq_true e, Bool.true_and] at hQ
          rw [decide_eq_true e]
          exact iteT ⟨_, rfl, _, rfl, _, _, dp_inks hus hin, dp_inks hws hin2, inksD_shaped _, inksD_shaped _, hQ _ _ ⟨rfl, rfl⟩⟩
        · rw [decide_eq_false e, Bool.false_and] at hQ
          rw [decide_eq_false e]
          exact iteF (hQ _ _ ⟨rfl, rfl⟩)
      rintro v H' ⟨rfl, eH⟩
      obtain rfl := eH.symm
      have q23 : sameF ap (ts.map wInk) fa (r2.map wInk) = (decide (ap = fa) && PyData.eqv (inksD (r1.map wInk)) (inksD (r2.map wInk))) := same_is E12.sym (EqKs.rfl' _)
      refine ⟨x2, x3, ap, fa, ts.map wInk, r2.map wInk, _, rfl, hF2, hF3, q23, by rw [sameF_comm]; exact q23, fun H24 s24 => ⟨_, rfl, iteQ (by decide) ?_⟩⟩
      -- within as the inks tell
      refine ⟨_, rfl, _, rfl, _, rfl, _, rfl, _, rfl, x2, x3, D1, D2, ap, fa, _, _, r1.map wInk, r2.map wInk, us, ws, rfl, hF2.mono s24, hF3.mono s24, k2, k3, E12.sym, EqKs.rfl' _, s24 _ _ hus, hin.mono fun _ _ => InkAt.mono s24, s24 _ _ hws, hin2.mono fun _ _ => InkAt.mono s24, fun H25 s25' => ⟨_, rfl, iteQ (by decide) ?_⟩⟩
      have s25 := s24.trans s25'
      refine ⟨_, rfl, _, rfl, _, rfl, _, rfl, _, rfl, x3, x2, D2, D1, fa, ap, _, _, r2.map wInk, r1.map wInk, ws, us, by rw [show decide (ap = fa) = decide (fa = ap) from decide_eq_decide.mpr ⟨Eq.symm, Eq.symm⟩]; rfl, hF3.mono s25, hF2.mono s25, k3, k2, EqKs.rfl' _, E12.sym, s25 _ _ hws, hin2.mono fun _ _ => InkAt.mono s25, s25 _ _ hus, hin.mono fun _ _ => InkAt.mono s25, fun H26 s26' => ⟨_, rfl, iteQ (by decide) ?_⟩⟩
      have s26 := s25.trans s26'
      have L26 := L23.same s26
      have hF1 := hF1.mono s26
      have h1 := s26 _ _ h1
      have hus := s26 _ _ hus
      clear s24 s25' s25 s26' s26 L23 hF2 hF3
      -- nothing else is equal
      refine ⟨_, rfl, D1, us, rfl, .inl ⟨SqL.of hus, fun tp htp => ?_⟩⟩
      have st := same_new (o := .tup us) htp
      have htp1 : (upd H26 tp (.tup us)) tp = some (.tup us) := upd_same
      generalize upd H26 tp (.tup us) = H27 at st htp1 ⊢
      refine ⟨_, rfl, _, rfl, x1, e1, _, rfl, st _ _ h1, x1, ap, r1.map wInk, rfl, hF1.mono st, _, rfl, by show 5 ≤ sizeLine; decide, fun D hD => ?_⟩
      obtain ⟨th, eth⟩ : ∃ th : List V, [V.non, V.ref tp, V.ref O1, V.str (lettersOf (r1.map wInk).length), V.int ap] = th := ⟨_, rfl⟩
      have sD := same_new (o := .lst th) hD
      have hDD : (upd H27 D (.lst th)) D = some (.lst th) := upd_same
      rw [eth]
      generalize upd H27 D (.lst th) = H28 at sD hDD ⊢
      have st28 := st.trans sD
      have L28 := L26.same st28
      have hF1 := hF1.mono st28
      have h1 := st28 _ _ h1
      have htp2 := sD _ _ htp1
      clear L26 st sD htp1 hus st28 hD htp
      have all : ∀ v ∈ th, ∃ Y, Y ∈ otherTs ∧ TyX K H28 v (.type Y) := fun v hv => by
        rw [← eth] at hv
        simp only [List.mem_cons, List.not_mem_nil, or_false] at hv
        rcases hv with rfl | rfl | rfl | rfl | rfl
        · exact ⟨"NoneType", by decide, .base .non⟩
        · exact ⟨"tuple", by decide, .base (.tup htp2)⟩
        · exact ⟨"list", by decide, .base (.lst L28.h1)⟩
        · exact ⟨"str", by decide, .base (.str _)⟩
        · exact ⟨"int", by decide, .base (.int _)⟩
      refine ⟨D, rfl, ⟨_, SqL.of hDD⟩, for_it (walk_list (K := K) (a := D) (xs := th)) (fun m σ H' => ∃ y19 : Option V, σ = [some (.ref a), some (.int (i : Int)), some (.ref b), some (.ref O1), some (.ref O2), y5, y6, some (.ref T), y8, y9, y10, some (.int ap), some (.int fa), some (.ref x1), some (.ref x2), some (.ref x3), some (.ref D1), some (.ref D2), some (.bl (decide (ap = fa))), y19] ∧ H' = H28)
        ⟨_, rfl, rfl⟩ (fun _ _ _ _ ⟨_, _, q⟩ => by rw [q]; exact SqL.of hDD) ?_ ?_⟩
      · rintro m v σ H2 H3 hm ⟨y19, rfl, rfl⟩ ⟨rfl, hv⟩
        obtain ⟨Y, hY, ht⟩ := all v (List.mem_of_getElem? hv)
        refine ⟨_, rfl, _, rfl, x1, e1, _, _, rfl, h1, ht, OT.nf Y hY, x1, v, ap, _, rfl, hF1, .inr ⟨_, ht, OT.ko Y hY, _, rfl, ?_⟩⟩
        refine ⟨_, _, rfl, rfl, _, rfl, iteQ (by decide) ?_⟩
        refine ⟨_, rfl, _, rfl, x1, e1, _, _, rfl, h1, ht, OT.nf Y hY, x1, v, ap, _, rfl, hF1, .inr ⟨_, ht, OT.ko Y hY, _, rfl, ?_⟩⟩
        refine ⟨_, _, rfl, rfl, _, rfl, iteQ (by decide) ?_⟩
        exact ⟨_, rfl, rfl⟩
      · rintro σ H2 ⟨y19, rfl, rfl⟩
        exact ⟨_, _, _, _, _, _, _, _, _, _, _, _, _, _, _, _, _, _, _, rfl, s1.trans L28.s⟩
    · rintro σ H1 ⟨y1, y2, y3, y4, y5, y6, y7, y8, y9, y10, y11, y12, y13, y14, y15, y16, y17, y18, y19, rfl, s1⟩
      exact k H1
end
end Pa
set_option maxRecDepth 100000
set_option maxHeartbeats 4000000
namespace Pa
open PySem PySem.Spec PyProof.Rows L2 Win
theorem kitOne_self (K : PySem.W.Frag) (t : Value) : PySem.W.kitOne K t t = some true := by
  unfold PySem.W.kitOne
  exact if_pos (beq_self_eq_true t)
theorem kitOne_ref {K : PySem.W.Frag} {T : String} {C : Addr} (h : PySem.W.isClsIn K C = true) (ht : PySem.W.typeIn K (.ref C) = some (.type "type")) (hs : PySem.W.subIn K (.type T) (.ref C) = some false) : PySem.W.kitOne K (.type T) (.ref C) = some false := by
  have n : (Value.type T == Value.ref C) = false := by
    cases e : (Value.type T == Value.ref C)
    · rfl
    · exact absurd (eq_of_beq e) (by intro z; cases z)
  unfold PySem.W.kitOne PySem.W.kitCls
  rw [if_neg (by rw [n]; decide)]
  simp only []
  rw [if_pos (by rw [Bool.and_eq_true]; exact ⟨h, beq_iff_eq.mpr ht⟩)]
  exact hs
/-! ### what the top has written -/
theorem all_mk {l : PySem.W.OpenLaw} {w : World} {K : PySem.W.Frag} {h : Heap} {mg : Str → Option Value} {fa C TD f0 f1 f2 f3 f4 f5 f6 f7 f8 f9 f10 f11 f12 f13 f14 f15 f16 f17 f18 f19 f20 f21 f22 f23 f24 f25 f26 f27 f28 f29 f30 f31 f32 f33 f34 f35 f36 f37 f38 f39 f40 f41 f42 f43 f44 f45 pp45 : Addr} (X : K.In h) (G : h.Ns mainGlobals mg) (hfa : mg "law" = some (.ref fa))
    {od0 an0 od1 an1 od2 an2 od3 an3 od4 an4 od5 an5 od6 an6 od7 an7 od8 an8 od9 an9 od10 an10 od11 an11 od12 an12 od13 an13 od14 an14 od15 an15 od16 an16 od17 an17 od18 an18 od19 an19 od20 an20 od21 an21 od22 an22 od23 an23 od24 an24 od25 an25 od26 an26 od27 an27 od28 an28 od29 an29 od30 an30 od31 an31 od32 an32 od33 an33 od34 an34 od35 an35 od36 an36 od37 an37 od38 an38 od39 an39 od40 an40 od41 an41 od42 an42 od43 an43 od44 an44 od45 an45 : Option Addr} {sl0 sl1 sl2 sl3 sl4 sl5 sl6 sl7 sl8 sl9 sl10 sl11 sl12 sl13 sl14 sl15 sl16 sl17 sl18 sl19 sl20 sl21 sl22 sl23 sl24 sl25 sl26 sl27 sl28 sl29 sl30 sl31 sl32 sl33 sl34 sl35 sl36 sl37 sl38 sl39 sl40 sl41 sl42 sl43 sl44 sl45 : Array (Option Value)} {oc0 kV0 dc0 pm0 cd0 ct0 oc1 kV1 dc1 pm1 cd1 ct1 oc2 kV2 dc2 pm2 cd2 ct2 oc3 kV3 dc3 pm3 cd3 ct3 oc4 kV4 dc4 pm4 cd4 ct4 oc5 kV5 dc5 pm5 cd5 ct5 oc6 kV6 dc6 pm6 cd6 ct6 oc7 kV7 dc7 pm7 cd7 ct7 oc8 kV8 dc8 pm8 cd8 ct8 oc9 kV9 dc9 pm9 cd9 ct9 oc10 kV10 dc10 pm10 cd10 ct10 oc11 kV11 dc11 pm11 cd11 ct11 oc12 kV12 dc12 pm12 cd12 ct12 oc13 kV13 dc13 pm13 cd13 ct13 oc14 kV14 dc14 pm14 cd14 ct14 oc15 kV15 dc15 pm15 cd15 ct15 oc16 kV16 dc16 pm16 cd16 ct16 oc17 kV17 dc17 pm17 cd17 ct17 oc18 kV18 dc18 pm18 cd18 ct18 oc19 kV19 dc19 pm19 cd19 ct19 oc20 kV20 dc20 pm20 cd20 ct20 oc21 kV21 dc21 pm21 cd21 ct21 oc22 kV22 dc22 pm22 cd22 ct22 oc23 kV23 dc23 pm23 cd23 ct23 oc24 kV24 dc24 pm24 cd24 ct24 oc25 kV25 dc25 pm25 cd25 ct25 oc26 kV26 dc26 pm26 cd26 ct26 oc27 kV27 dc27 pm27 cd27 ct27 oc28 kV28 dc28 pm28 cd28 ct28 oc29 kV29 dc29 pm29 cd29 ct29 oc30 kV30 dc30 pm30 cd30 ct30 oc31 kV31 dc31 pm31 cd31 ct31 oc32 kV32 dc32 pm32 cd32 ct32 oc33 kV33 dc33 pm33 cd33 ct33 oc34 kV34 dc34 pm34 cd34 ct34 oc35 kV35 dc35 pm35 cd35 ct35 oc36 kV36 dc36 pm36 cd36 ct36 oc37 kV37 dc37 pm37 cd37 ct37 oc38 kV38 dc38 pm38 cd38 ct38 oc39 kV39 dc39 pm39 cd39 ct39 oc40 kV40 dc40 pm40 cd40 ct40 oc41 kV41 dc41 pm41 cd41 ct41 oc42 kV42 dc42 pm42 cd42 ct42 oc43 kV43 dc43 pm43 cd43 ct43 oc44 kV44 dc44 pm44 cd44 ct44 oc45 kV45 dc45 pm45 cd45 ct45 : Value}
    {tn : Nat} {tk0 tkG tkL : Tok} {rs45 : List Value}
    (aC : PySem.W.nsIn K mainGlobals "Face" = some (some (.ref C)))
    (aG : PySem.W.nsIn K mainGlobals "GRID" = some (some (.int 4 tkG))) (aL : PySem.W.nsIn K mainGlobals "LETTERS" = some (some (.str (Str.ofString "abcd") tkL)))
    (a0 : PySem.W.nsIn K mainGlobals "is_integer" = some (some (.ref f0)))
    (l0 : K.lookup f0 = some ⟨oc0, od0, .func (PySem.W.fnOf "is_integer" "is_integer" (defArgs sis_integer) (defBody sis_integer) (defScope sis_integer) .none kV0 dc0 pm0 an0 cd0 ct0), sl0⟩) (c0 : PySem.W.codeIn K cd0 "is_integer" = true) (k0 : PySem.W.keepIn K (.ref f0) = true)
    (a1 : PySem.W.nsIn K mainGlobals "is_integer_from" = some (some (.ref f1)))
    (l1 : K.lookup f1 = some ⟨oc1, od1, .func (PySem.W.fnOf "is_integer_from" "is_integer_from" (defArgs sis_integer_from) (defBody sis_integer_from) (defScope sis_integer_from) .none kV1 dc1 pm1 an1 cd1 ct1), sl1⟩) (c1 : PySem.W.codeIn K cd1 "is_integer_from" = true) (k1 : PySem.W.keepIn K (.ref f1) = true)
    (a2 : PySem.W.nsIn K mainGlobals "is_row" = some (some (.ref f2)))
    (l2 : K.lookup f2 = some ⟨oc2, od2, .func (PySem.W.fnOf "is_row" "is_row" (defArgs sis_row) (defBody sis_row) (defScope sis_row) .none kV2 dc2 pm2 an2 cd2 ct2), sl2⟩) (c2 : PySem.W.codeIn K cd2 "is_row" = true) (k2 : PySem.W.keepIn K (.ref f2) = true)
    (a3 : PySem.W.nsIn K mainGlobals "outline_of" = some (some (.ref f3)))
    (l3 : K.lookup f3 = some ⟨oc3, od3, .func (PySem.W.fnOf "outline_of" "outline_of" (defArgs soutline_of) (defBody soutline_of) (defScope soutline_of) .none kV3 dc3 pm3 an3 cd3 ct3), sl3⟩) (c3 : PySem.W.codeIn K cd3 "outline_of" = true) (k3 : PySem.W.keepIn K (.ref f3) = true)
    (a4 : PySem.W.nsIn K mainGlobals "_ring_of" = some (some (.ref f4)))
    (l4 : K.lookup f4 = some ⟨oc4, od4, .func (PySem.W.fnOf "_ring_of" "_ring_of" (defArgs s_ring_of) (defBody s_ring_of) (defScope s_ring_of) .none kV4 dc4 pm4 an4 cd4 ct4), sl4⟩) (c4 : PySem.W.codeIn K cd4 "_ring_of" = true) (k4 : PySem.W.keepIn K (.ref f4) = true)
    (a5 : PySem.W.nsIn K mainGlobals "_is_corner" = some (some (.ref f5)))
    (l5 : K.lookup f5 = some ⟨oc5, od5, .func (PySem.W.fnOf "_is_corner" "_is_corner" (defArgs s_is_corner) (defBody s_is_corner) (defScope s_is_corner) .none kV5 dc5 pm5 an5 cd5 ct5), sl5⟩) (c5 : PySem.W.codeIn K cd5 "_is_corner" = true) (k5 : PySem.W.keepIn K (.ref f5) = true)
    (a6 : PySem.W.nsIn K mainGlobals "_is_ring" = some (some (.ref f6)))
    (l6 : K.lookup f6 = some ⟨oc6, od6, .func (PySem.W.fnOf "_is_ring" "_is_ring" (defArgs s_is_ring) (defBody s_is_ring) (defScope s_is_ring) .none kV6 dc6 pm6 an6 cd6 ct6), sl6⟩) (c6 : PySem.W.codeIn K cd6 "_is_ring" = true) (k6 : PySem.W.keepIn K (.ref f6) = true)
    (a7 : PySem.W.nsIn K mainGlobals "each_side" = some (some (.ref f7)))
    (l7 : K.lookup f7 = some ⟨oc7, od7, .func (PySem.W.fnOf "each_side" "each_side" (defArgs seach_side) (defBody seach_side) (defScope seach_side) .none kV7 dc7 pm7 an7 cd7 ct7), sl7⟩) (c7 : PySem.W.codeIn K cd7 "each_side" = true) (k7 : PySem.W.keepIn K (.ref f7) = true)
    (a8 : PySem.W.nsIn K mainGlobals "winding" = some (some (.ref f8)))
    (l8 : K.lookup f8 = some ⟨oc8, od8, .func (PySem.W.fnOf "winding" "winding" (defArgs swinding) (defBody swinding) (defScope swinding) .none kV8 dc8 pm8 an8 cd8 ct8), sl8⟩) (c8 : PySem.W.codeIn K cd8 "winding" = true) (k8 : PySem.W.keepIn K (.ref f8) = true)
    (a9 : PySem.W.nsIn K mainGlobals "_count_of" = some (some (.ref f9)))
    (l9 : K.lookup f9 = some ⟨oc9, od9, .func (PySem.W.fnOf "_count_of" "_count_of" (defArgs s_count_of) (defBody s_count_of) (defScope s_count_of) .none kV9 dc9 pm9 an9 cd9 ct9), sl9⟩) (c9 : PySem.W.codeIn K cd9 "_count_of" = true) (k9 : PySem.W.keepIn K (.ref f9) = true)
    (a10 : PySem.W.nsIn K mainGlobals "ink_of" = some (some (.ref f10)))
    (l10 : K.lookup f10 = some ⟨oc10, od10, .func (PySem.W.fnOf "ink_of" "ink_of" (defArgs sink_of) (defBody sink_of) (defScope sink_of) .none kV10 dc10 pm10 an10 cd10 ct10), sl10⟩) (c10 : PySem.W.codeIn K cd10 "ink_of" = true) (k10 : PySem.W.keepIn K (.ref f10) = true)
    (a11 : PySem.W.nsIn K mainGlobals "_ink_row" = some (some (.ref f11)))
    (l11 : K.lookup f11 = some ⟨oc11, od11, .func (PySem.W.fnOf "_ink_row" "_ink_row" (defArgs s_ink_row) (defBody s_ink_row) (defScope s_ink_row) .none kV11 dc11 pm11 an11 cd11 ct11), sl11⟩) (c11 : PySem.W.codeIn K cd11 "_ink_row" = true) (k11 : PySem.W.keepIn K (.ref f11) = true)
    (a12 : PySem.W.nsIn K mainGlobals "leftmost" = some (some (.ref f12)))
    (l12 : K.lookup f12 = some ⟨oc12, od12, .func (PySem.W.fnOf "leftmost" "leftmost" (defArgs sleftmost) (defBody sleftmost) (defScope sleftmost) .none kV12 dc12 pm12 an12 cd12 ct12), sl12⟩) (c12 : PySem.W.codeIn K cd12 "leftmost" = true) (k12 : PySem.W.keepIn K (.ref f12) = true)
    (a13 : PySem.W.nsIn K mainGlobals "rightmost" = some (some (.ref f13)))
    (l13 : K.lookup f13 = some ⟨oc13, od13, .func (PySem.W.fnOf "rightmost" "rightmost" (defArgs srightmost) (defBody srightmost) (defScope srightmost) .none kV13 dc13 pm13 an13 cd13 ct13), sl13⟩) (c13 : PySem.W.codeIn K cd13 "rightmost" = true) (k13 : PySem.W.keepIn K (.ref f13) = true)
    (a14 : PySem.W.nsIn K mainGlobals "_column_or_none" = some (some (.ref f14)))
    (l14 : K.lookup f14 = some ⟨oc14, od14, .func (PySem.W.fnOf "_column_or_none" "_column_or_none" (defArgs s_column_or_none) (defBody s_column_or_none) (defScope s_column_or_none) .none kV14 dc14 pm14 an14 cd14 ct14), sl14⟩) (c14 : PySem.W.codeIn K cd14 "_column_or_none" = true) (k14 : PySem.W.keepIn K (.ref f14) = true)
    (a15 : PySem.W.nsIn K mainGlobals "step_of" = some (some (.ref f15)))
    (l15 : K.lookup f15 = some ⟨oc15, od15, .func (PySem.W.fnOf "step_of" "step_of" (defArgs sstep_of) (defBody sstep_of) (defScope sstep_of) .none kV15 dc15 pm15 an15 cd15 ct15), sl15⟩) (c15 : PySem.W.codeIn K cd15 "step_of" = true) (k15 : PySem.W.keepIn K (.ref f15) = true)
    (a16 : PySem.W.nsIn K mainGlobals "blanks" = some (some (.ref f16)))
    (l16 : K.lookup f16 = some ⟨oc16, od16, .func (PySem.W.fnOf "blanks" "blanks" (defArgs sblanks) (defBody sblanks) (defScope sblanks) .none kV16 dc16 pm16 an16 cd16 ct16), sl16⟩) (c16 : PySem.W.codeIn K cd16 "blanks" = true) (k16 : PySem.W.keepIn K (.ref f16) = true)
    (a17 : PySem.W.nsIn K mainGlobals "_checked_ink" = some (some (.ref f17)))
    (l17 : K.lookup f17 = some ⟨oc17, od17, .func (PySem.W.fnOf "_checked_ink" "_checked_ink" (defArgs s_checked_ink) (defBody s_checked_ink) (defScope s_checked_ink) .none kV17 dc17 pm17 an17 cd17 ct17), sl17⟩) (c17 : PySem.W.codeIn K cd17 "_checked_ink" = true) (k17 : PySem.W.keepIn K (.ref f17) = true)
    (a18 : PySem.W.nsIn K mainGlobals "_gap_and_bar" = some (some (.ref f18)))
    (l18 : K.lookup f18 = some ⟨oc18, od18, .func (PySem.W.fnOf "_gap_and_bar" "_gap_and_bar" (defArgs s_gap_and_bar) (defBody s_gap_and_bar) (defScope s_gap_and_bar) .none kV18 dc18 pm18 an18 cd18 ct18), sl18⟩) (c18 : PySem.W.codeIn K cd18 "_gap_and_bar" = true) (k18 : PySem.W.keepIn K (.ref f18) = true)
    (a19 : PySem.W.nsIn K mainGlobals "_tight_row" = some (some (.ref f19)))
    (l19 : K.lookup f19 = some ⟨oc19, od19, .func (PySem.W.fnOf "_tight_row" "_tight_row" (defArgs s_tight_row) (defBody s_tight_row) (defScope s_tight_row) .none kV19 dc19 pm19 an19 cd19 ct19), sl19⟩) (c19 : PySem.W.codeIn K cd19 "_tight_row" = true) (k19 : PySem.W.keepIn K (.ref f19) = true)
    (a20 : PySem.W.nsIn K mainGlobals "_law_bag" = some (some (.ref f20)))
    (l20 : K.lookup f20 = some ⟨oc20, od20, .func (PySem.W.fnOf "_law_bag" "_law_bag" (defArgs sBag) (defBody sBag) (defScope sBag) .none kV20 dc20 pm20 an20 cd20 ct20), sl20⟩) (c20 : PySem.W.codeIn K cd20 "_law_bag" = true) (k20 : PySem.W.keepIn K (.ref f20) = true)
    (a21 : PySem.W.nsIn K mainGlobals "_law_draw" = some (some (.ref f21)))
    (l21 : K.lookup f21 = some ⟨oc21, od21, .func (PySem.W.fnOf "_law_draw" "_law_draw" (defArgs sDraw) (defBody sDraw) (defScope sDraw) .none kV21 dc21 pm21 an21 cd21 ct21), sl21⟩) (c21 : PySem.W.codeIn K cd21 "_law_draw" = true) (k21 : PySem.W.keepIn K (.ref f21) = true)
    (a22 : PySem.W.nsIn K mainGlobals "_law_one" = some (some (.ref f22)))
    (l22 : K.lookup f22 = some ⟨oc22, od22, .func (PySem.W.fnOf "_law_one" "_law_one" (defArgs sL_one) (defBody sL_one) (defScope sL_one) .none kV22 dc22 pm22 an22 cd22 ct22), sl22⟩) (c22 : PySem.W.codeIn K cd22 "_law_one" = true) (k22 : PySem.W.keepIn K (.ref f22) = true)
    (a23 : PySem.W.nsIn K mainGlobals "_law_ring" = some (some (.ref f23)))
    (l23 : K.lookup f23 = some ⟨oc23, od23, .func (PySem.W.fnOf "_law_ring" "_law_ring" (defArgs sL_ring) (defBody sL_ring) (defScope sL_ring) .none kV23 dc23 pm23 an23 cd23 ct23), sl23⟩) (c23 : PySem.W.codeIn K cd23 "_law_ring" = true) (k23 : PySem.W.keepIn K (.ref f23) = true)
    (a24 : PySem.W.nsIn K mainGlobals "_law_rings" = some (some (.ref f24)))
    (l24 : K.lookup f24 = some ⟨oc24, od24, .func (PySem.W.fnOf "_law_rings" "_law_rings" (defArgs sL_rings) (defBody sL_rings) (defScope sL_rings) .none kV24 dc24 pm24 an24 cd24 ct24), sl24⟩) (c24 : PySem.W.codeIn K cd24 "_law_rings" = true) (k24 : PySem.W.keepIn K (.ref f24) = true)
    (a25 : PySem.W.nsIn K mainGlobals "_law_turn" = some (some (.ref f25)))
    (l25 : K.lookup f25 = some ⟨oc25, od25, .func (PySem.W.fnOf "_law_turn" "_law_turn" (defArgs sL_turn) (defBody sL_turn) (defScope sL_turn) .none kV25 dc25 pm25 an25 cd25 ct25), sl25⟩) (c25 : PySem.W.codeIn K cd25 "_law_turn" = true) (k25 : PySem.W.keepIn K (.ref f25) = true)
    (a26 : PySem.W.nsIn K mainGlobals "_law_winding" = some (some (.ref f26)))
    (l26 : K.lookup f26 = some ⟨oc26, od26, .func (PySem.W.fnOf "_law_winding" "_law_winding" (defArgs sL_winding) (defBody sL_winding) (defScope sL_winding) .none kV26 dc26 pm26 an26 cd26 ct26), sl26⟩) (c26 : PySem.W.codeIn K cd26 "_law_winding" = true) (k26 : PySem.W.keepIn K (.ref f26) = true)
    (a27 : PySem.W.nsIn K mainGlobals "_law_ink" = some (some (.ref f27)))
    (l27 : K.lookup f27 = some ⟨oc27, od27, .func (PySem.W.fnOf "_law_ink" "_law_ink" (defArgs sL_ink) (defBody sL_ink) (defScope sL_ink) .none kV27 dc27 pm27 an27 cd27 ct27), sl27⟩) (c27 : PySem.W.codeIn K cd27 "_law_ink" = true) (k27 : PySem.W.keepIn K (.ref f27) = true)
    (a28 : PySem.W.nsIn K mainGlobals "_law_inked" = some (some (.ref f28)))
    (l28 : K.lookup f28 = some ⟨oc28, od28, .func (PySem.W.fnOf "_law_inked" "_law_inked" (defArgs sL_inked) (defBody sL_inked) (defScope sL_inked) .none kV28 dc28 pm28 an28 cd28 ct28), sl28⟩) (c28 : PySem.W.codeIn K cd28 "_law_inked" = true) (k28 : PySem.W.keepIn K (.ref f28) = true)
    (a29 : PySem.W.nsIn K mainGlobals "_law_on_side" = some (some (.ref f29)))
    (l29 : K.lookup f29 = some ⟨oc29, od29, .func (PySem.W.fnOf "_law_on_side" "_law_on_side" (defArgs sL_on_side) (defBody sL_on_side) (defScope sL_on_side) .none kV29 dc29 pm29 an29 cd29 ct29), sl29⟩) (c29 : PySem.W.codeIn K cd29 "_law_on_side" = true) (k29 : PySem.W.keepIn K (.ref f29) = true)
    (a30 : PySem.W.nsIn K mainGlobals "_law_cut" = some (some (.ref f30)))
    (l30 : K.lookup f30 = some ⟨oc30, od30, .func (PySem.W.fnOf "_law_cut" "_law_cut" (defArgs sL_cut) (defBody sL_cut) (defScope sL_cut) .none kV30 dc30 pm30 an30 cd30 ct30), sl30⟩) (c30 : PySem.W.codeIn K cd30 "_law_cut" = true) (k30 : PySem.W.keepIn K (.ref f30) = true)
    (a31 : PySem.W.nsIn K mainGlobals "_law_lengthened" = some (some (.ref f31)))
    (l31 : K.lookup f31 = some ⟨oc31, od31, .func (PySem.W.fnOf "_law_lengthened" "_law_lengthened" (defArgs sL_lengthened) (defBody sL_lengthened) (defScope sL_lengthened) .none kV31 dc31 pm31 an31 cd31 ct31), sl31⟩) (c31 : PySem.W.codeIn K cd31 "_law_lengthened" = true) (k31 : PySem.W.keepIn K (.ref f31) = true)
    (a32 : PySem.W.nsIn K mainGlobals "_law_otherwise" = some (some (.ref f32)))
    (l32 : K.lookup f32 = some ⟨oc32, od32, .func (PySem.W.fnOf "_law_otherwise" "_law_otherwise" (defArgs sL_otherwise) (defBody sL_otherwise) (defScope sL_otherwise) .none kV32 dc32 pm32 an32 cd32 ct32), sl32⟩) (c32 : PySem.W.codeIn K cd32 "_law_otherwise" = true) (k32 : PySem.W.keepIn K (.ref f32) = true)
    (a33 : PySem.W.nsIn K mainGlobals "_law_same" = some (some (.ref f33)))
    (l33 : K.lookup f33 = some ⟨oc33, od33, .func (PySem.W.fnOf "_law_same" "_law_same" (defArgs sL_same) (defBody sL_same) (defScope sL_same) .none kV33 dc33 pm33 an33 cd33 ct33), sl33⟩) (c33 : PySem.W.codeIn K cd33 "_law_same" = true) (k33 : PySem.W.keepIn K (.ref f33) = true)
    (a34 : PySem.W.nsIn K mainGlobals "_law_equal_stands" = some (some (.ref f34)))
    (l34 : K.lookup f34 = some ⟨oc34, od34, .func (PySem.W.fnOf "_law_equal_stands" "_law_equal_stands" (defArgs sL_equal_stands) (defBody sL_equal_stands) (defScope sL_equal_stands) .none kV34 dc34 pm34 an34 cd34 ct34), sl34⟩) (c34 : PySem.W.codeIn K cd34 "_law_equal_stands" = true) (k34 : PySem.W.keepIn K (.ref f34) = true)
    (a35 : PySem.W.nsIn K mainGlobals "_law_within_stands" = some (some (.ref f35)))
    (l35 : K.lookup f35 = some ⟨oc35, od35, .func (PySem.W.fnOf "_law_within_stands" "_law_within_stands" (defArgs sL_within_stands) (defBody sL_within_stands) (defScope sL_within_stands) .none kV35 dc35 pm35 an35 cd35 ct35), sl35⟩) (c35 : PySem.W.codeIn K cd35 "_law_within_stands" = true) (k35 : PySem.W.keepIn K (.ref f35) = true)
    (a36 : PySem.W.nsIn K mainGlobals "law" = some (some (.ref f36)))
    (l36 : K.lookup f36 = some ⟨oc36, od36, .func (PySem.W.fnOf "law" "law" (defArgs slaw) (defBody slaw) (defScope slaw) .none kV36 dc36 pm36 an36 cd36 ct36), sl36⟩) (c36 : PySem.W.codeIn K cd36 "law" = true) (k36 : PySem.W.keepIn K (.ref f36) = true)
    (a37 : PySem.W.findIn K (.ref C) "__init__" = some (some (.ref f37))) (i37 : PySem.W.isFn K (.ref f37) = true)
    (l37 : K.lookup f37 = some ⟨oc37, od37, .func (PySem.W.fnOf "__init__" "Face.__init__" (defArgs sFace___init__) (defBody sFace___init__) (defScope sFace___init__) (.ref TD) kV37 dc37 pm37 an37 cd37 ct37), sl37⟩) (c37 : PySem.W.codeIn K cd37 "Face.__init__" = true) (k37 : PySem.W.keepIn K (.ref f37) = true)
    (a38 : PySem.W.findIn K (.ref C) "ink" = some (some (.ref f38))) (i38 : PySem.W.isFn K (.ref f38) = true)
    (l38 : K.lookup f38 = some ⟨oc38, od38, .func (PySem.W.fnOf "ink" "Face.ink" (defArgs sFace_ink) (defBody sFace_ink) (defScope sFace_ink) .none kV38 dc38 pm38 an38 cd38 ct38), sl38⟩) (c38 : PySem.W.codeIn K cd38 "Face.ink" = true) (k38 : PySem.W.keepIn K (.ref f38) = true)
    (a39 : PySem.W.findIn K (.ref C) "step" = some (some (.ref f39))) (i39 : PySem.W.isFn K (.ref f39) = true)
    (l39 : K.lookup f39 = some ⟨oc39, od39, .func (PySem.W.fnOf "step" "Face.step" (defArgs sFace_step) (defBody sFace_step) (defScope sFace_step) .none kV39 dc39 pm39 an39 cd39 ct39), sl39⟩) (c39 : PySem.W.codeIn K cd39 "Face.step" = true) (k39 : PySem.W.keepIn K (.ref f39) = true)
    (a40 : PySem.W.findIn K (.ref C) "gap" = some (some (.ref f40))) (i40 : PySem.W.isFn K (.ref f40) = true)
    (l40 : K.lookup f40 = some ⟨oc40, od40, .func (PySem.W.fnOf "gap" "Face.gap" (defArgs sFace_gap) (defBody sFace_gap) (defScope sFace_gap) .none kV40 dc40 pm40 an40 cd40 ct40), sl40⟩) (c40 : PySem.W.codeIn K cd40 "Face.gap" = true) (k40 : PySem.W.keepIn K (.ref f40) = true)
    (a41 : PySem.W.findIn K (.ref C) "bar" = some (some (.ref f41))) (i41 : PySem.W.isFn K (.ref f41) = true)
    (l41 : K.lookup f41 = some ⟨oc41, od41, .func (PySem.W.fnOf "bar" "Face.bar" (defArgs sFace_bar) (defBody sFace_bar) (defScope sFace_bar) .none kV41 dc41 pm41 an41 cd41 ct41), sl41⟩) (c41 : PySem.W.codeIn K cd41 "Face.bar" = true) (k41 : PySem.W.keepIn K (.ref f41) = true)
    (a42 : PySem.W.findIn K (.ref C) "within" = some (some (.ref f42))) (i42 : PySem.W.isFn K (.ref f42) = true)
    (l42 : K.lookup f42 = some ⟨oc42, od42, .func (PySem.W.fnOf "within" "Face.within" (defArgs sFace_within) (defBody sFace_within) (defScope sFace_within) .none kV42 dc42 pm42 an42 cd42 ct42), sl42⟩) (c42 : PySem.W.codeIn K cd42 "Face.within" = true) (k42 : PySem.W.keepIn K (.ref f42) = true)
    (a43 : PySem.W.findIn K (.ref C) "_check" = some (some (.ref f43))) (i43 : PySem.W.isFn K (.ref f43) = true)
    (l43 : K.lookup f43 = some ⟨oc43, od43, .func (PySem.W.fnOf "_check" "Face._check" (defArgs sFace__check) (defBody sFace__check) (defScope sFace__check) .none kV43 dc43 pm43 an43 cd43 ct43), sl43⟩) (c43 : PySem.W.codeIn K cd43 "Face._check" = true) (k43 : PySem.W.keepIn K (.ref f43) = true)
    (a44 : PySem.W.findIn K (.ref C) "__eq__" = some (some (.ref f44))) (i44 : PySem.W.isFn K (.ref f44) = true)
    (l44 : K.lookup f44 = some ⟨oc44, od44, .func (PySem.W.fnOf "__eq__" "Face.__eq__" (defArgs sFace___eq__) (defBody sFace___eq__) (defScope sFace___eq__) .none kV44 dc44 pm44 an44 cd44 ct44), sl44⟩) (c44 : PySem.W.codeIn K cd44 "Face.__eq__" = true) (k44 : PySem.W.keepIn K (.ref f44) = true)
    (a45 : PySem.W.findIn K (.ref C) "letters" = some (some (.ref pp45))) (g45 : PySem.W.specialIn K (.ref pp45) "__get__" = some (some (.builtin "property.__get__"))) (t45 : PySem.W.takesIn K (.ref pp45) = some true) (r45 : PySem.W.recIn K pp45 "property" = some (.ref f45 :: rs45))
    (l45 : K.lookup f45 = some ⟨oc45, od45, .func (PySem.W.fnOf "letters" "Face.letters" (defArgs sFace_letters) (defBody sFace_letters) (defScope sFace_letters) .none kV45 dc45 pm45 an45 cd45 ct45), sl45⟩) (c45 : PySem.W.codeIn K cd45 "Face.letters" = true) (k45 : PySem.W.keepIn K (.ref f45) = true)
    (lT : K.lookup TD = some ⟨.type "tuple", none, .seq #[.int 1 tk0] tn, #[]⟩)
    (pg : PySem.W.plainGet K C Str.empty = true) (hd : PySem.W.hasDictIn K C = true) (po : PySem.W.plainOver K C = true) (sa : PySem.W.findIn K (.ref C) "__setattr__" = some (some (.builtin "object.__setattr__"))) (mk : PySem.W.makesIn K C = true) (kc : PySem.W.keepIn K (.ref C) = true)
    (nA : PySem.W.findIn K (.ref C) "apart" = some none)
    (nI : PySem.W.findIn K (.ref C) "_inks" = some none)
    (nF : PySem.W.findIn K (.ref C) "_fits" = some none)
    (e1 : PySem.W.findIn K (.ref C) "__class__" = some (some (.builtin "object.__class__"))) (e2 : PySem.W.specialIn K (.builtin "object.__class__") "__get__" = some (some (.builtin "getset_descriptor.__get__"))) (e3 : PySem.W.takesIn K (.builtin "object.__class__") = some true) (e4 : PySem.W.mroIn K C (.type "object") = some true)
    (e5 : PySem.W.findIn K (.ref C) "__ne__" = some (some (.builtin "object.__ne__"))) (e6 : PySem.W.isClsIn K C = true) (e7 : PySem.W.typeIn K (.ref C) = some (.type "type"))
    (s0 : PySem.W.subIn K (.type "NoneType") (.ref C) = some false)
    (s1 : PySem.W.subIn K (.type "tuple") (.ref C) = some false)
    (s2 : PySem.W.subIn K (.type "list") (.ref C) = some false)
    (s3 : PySem.W.subIn K (.type "str") (.ref C) = some false)
    (s4 : PySem.W.subIn K (.type "int") (.ref C) = some false)
    (z_len : PySem.W.nsIn K mainGlobals "len" = some none)
    (z_range : PySem.W.nsIn K mainGlobals "range" = some none)
    (z_int : PySem.W.nsIn K mainGlobals "int" = some none)
    (z_abs : PySem.W.nsIn K mainGlobals "abs" = some none)
    (z_enumerate : PySem.W.nsIn K mainGlobals "enumerate" = some none)
    (z_isinstance : PySem.W.nsIn K mainGlobals "isinstance" = some none)
    (z_bool : PySem.W.nsIn K mainGlobals "bool" = some none)
    (z_list : PySem.W.nsIn K mainGlobals "list" = some none)
    (z_tuple : PySem.W.nsIn K mainGlobals "tuple" = some none)
    (z_max : PySem.W.nsIn K mainGlobals "max" = some none)
    (z_min : PySem.W.nsIn K mainGlobals "min" = some none)
    (z_all : PySem.W.nsIn K mainGlobals "all" = some none)
    (z_sum : PySem.W.nsIn K mainGlobals "sum" = some none)
    (z_zip : PySem.W.nsIn K mainGlobals "zip" = some none)
    : ∃ fd : FuncData, (∀ (s : Shared) (u : Value), BindsTo s fd ⟨[u], []⟩ [("_law_script", u)]) ∧ ∀ base : Heap, K.In base → base.Ns mainGlobals mg → FnOk l.prog w K mg base CX0 10 fa fd ["_law_script"] (spLaw K) := by
  have e := hfa.symm.trans (PySem.W.mg_of X G a36)
  cases e
  have T : Txt K mg := ⟨(PySem.W.mg_none_of X G z_len), (PySem.W.mg_none_of X G z_range), (PySem.W.mg_none_of X G z_int), (PySem.W.mg_none_of X G z_abs), (PySem.W.mg_none_of X G z_enumerate), (PySem.W.mg_none_of X G z_isinstance), (PySem.W.mg_none_of X G z_bool), (PySem.W.mg_none_of X G z_list), (PySem.W.mg_none_of X G z_tuple), (PySem.W.mg_none_of X G z_max), (PySem.W.mg_none_of X G z_min), (PySem.W.mg_none_of X G z_all), (PySem.W.mg_none_of X G z_sum)⟩
  have T2 : Txt2 mg := ⟨⟨_, PySem.W.mg_of X G aG⟩⟩
  have TF : TxF K mg C := ⟨(PySem.W.mg_none_of X G z_zip), ⟨_, PySem.W.mg_of X G aL⟩, ⟨pg, hd, po, sa⟩, nA, nI, nF⟩
  have TE : TxE K mg C := ⟨PySem.W.mg_of X G aC, e1, e2, e3, e4, kitOne_self _ _⟩
  have OT : OthT K C := by
    refine ⟨fun T hT => ?_, fun T hT => ?_⟩
    all_goals simp only [otherTs, List.mem_cons, List.not_mem_nil, or_false] at hT
    · rcases hT with rfl | rfl | rfl | rfl | rfl
      · simp [PySem.W.notFirst, s0]
      · simp [PySem.W.notFirst, s1]
      · simp [PySem.W.notFirst, s2]
      · simp [PySem.W.notFirst, s3]
      · simp [PySem.W.notFirst, s4]
    · rcases hT with rfl | rfl | rfl | rfl | rfl
      · exact kitOne_ref e6 e7 s0
      · exact kitOne_ref e6 e7 s1
      · exact kitOne_ref e6 e7 s2
      · exact kitOne_ref e6 e7 s3
      · exact kitOne_ref e6 e7 s4
  have F0 := fun_mk (st := sis_integer) l0 c0 k0
  have b0 := F0.binds (ps := ["value"]) fun _ _ _ _ _ _ us hl => match us, hl with | [_], _ => rfl
  have F1 := fun_mk (st := sis_integer_from) l1 c1 k1
  have b1 := F1.binds (ps := ["value", "low", "high"]) fun _ _ _ _ _ _ us hl => match us, hl with | [_, _, _], _ => rfl
  have F2 := fun_mk (st := sis_row) l2 c2 k2
  have b2 := F2.binds (ps := ["value"]) fun _ _ _ _ _ _ us hl => match us, hl with | [_], _ => rfl
  have F3 := fun_mk (st := soutline_of) l3 c3 k3
  have b3 := F3.binds (ps := ["letter", "thing"]) fun _ _ _ _ _ _ us hl => match us, hl with | [_, _], _ => rfl
  have F4 := fun_mk (st := s_ring_of) l4 c4 k4
  have b4 := F4.binds (ps := ["ring"]) fun _ _ _ _ _ _ us hl => match us, hl with | [_], _ => rfl
  have F5 := fun_mk (st := s_is_corner) l5 c5 k5
  have b5 := F5.binds (ps := ["thing"]) fun _ _ _ _ _ _ us hl => match us, hl with | [_], _ => rfl
  have F6 := fun_mk (st := s_is_ring) l6 c6 k6
  have b6 := F6.binds (ps := ["thing"]) fun _ _ _ _ _ _ us hl => match us, hl with | [_], _ => rfl
  have F7 := fun_mk (st := seach_side) l7 c7 k7
  have b7 := F7.binds (ps := ["ring"]) fun _ _ _ _ _ _ us hl => match us, hl with | [_], _ => rfl
  have F8 := fun_mk (st := swinding) l8 c8 k8
  have b8 := F8.binds (ps := ["rings", "x", "y"]) fun _ _ _ _ _ _ us hl => match us, hl with | [_, _, _], _ => rfl
  have F9 := fun_mk (st := s_count_of) l9 c9 k9
  have b9 := F9.binds (ps := ["side", "x", "y"]) fun _ _ _ _ _ _ us hl => match us, hl with | [_, _, _], _ => rfl
  have F10 := fun_mk (st := sink_of) l10 c10 k10
  have b10 := F10.binds (ps := ["rings"]) fun _ _ _ _ _ _ us hl => match us, hl with | [_], _ => rfl
  have F11 := fun_mk (st := s_ink_row) l11 c11 k11
  have b11 := F11.binds (ps := ["rings", "y"]) fun _ _ _ _ _ _ us hl => match us, hl with | [_, _], _ => rfl
  have F12 := fun_mk (st := sleftmost) l12 c12 k12
  have b12 := F12.binds (ps := ["ink", "row"]) fun _ _ _ _ _ _ us hl => match us, hl with | [_, _], _ => rfl
  have F13 := fun_mk (st := srightmost) l13 c13 k13
  have b13 := F13.binds (ps := ["ink", "row"]) fun _ _ _ _ _ _ us hl => match us, hl with | [_, _], _ => rfl
  have F14 := fun_mk (st := s_column_or_none) l14 c14 k14
  have b14 := F14.binds (ps := ["column"]) fun _ _ _ _ _ _ us hl => match us, hl with | [_], _ => rfl
  have F15 := fun_mk (st := sstep_of) l15 c15 k15
  have b15 := F15.binds (ps := ["ink"]) fun _ _ _ _ _ _ us hl => match us, hl with | [_], _ => rfl
  have F16 := fun_mk (st := sblanks) l16 c16 k16
  have b16 := F16.binds (ps := ["left", "right", "row", "gap"]) fun _ _ _ _ _ _ us hl => match us, hl with | [_, _, _, _], _ => rfl
  have F17 := fun_mk (st := s_checked_ink) l17 c17 k17
  have b17 := F17.binds (ps := ["letter", "thing"]) fun _ _ _ _ _ _ us hl => match us, hl with | [_, _], _ => rfl
  have F18 := fun_mk (st := s_gap_and_bar) l18 c18 k18
  have b18 := F18.binds (ps := ["left", "right", "apart"]) fun _ _ _ _ _ _ us hl => match us, hl with | [_, _, _], _ => rfl
  have F19 := fun_mk (st := s_tight_row) l19 c19 k19
  have b19 := F19.binds (ps := ["left", "right", "gap", "apart"]) fun _ _ _ _ _ _ us hl => match us, hl with | [_, _, _, _], _ => rfl
  have F20 := fun_mk (st := sBag) l20 c20 k20
  have b20 := F20.binds (ps := ["_law_script", "_law_at"]) fun _ _ _ _ _ _ us hl => match us, hl with | [_, _], _ => rfl
  have F21 := fun_mk (st := sDraw) l21 c21 k21
  have b21 := F21.binds (ps := ["_law_bag_here", "_law_many"]) fun _ _ _ _ _ _ us hl => match us, hl with | [_, _], _ => rfl
  have F22 := fun_mk (st := sL_one) l22 c22 k22
  have b22 := F22.binds (ps := ["_law_bag_here", "_law_things"]) fun _ _ _ _ _ _ us hl => match us, hl with | [_, _], _ => rfl
  have F23 := fun_mk (st := sL_ring) l23 c23 k23
  have b23 := F23.binds (ps := ["_law_bag_here", "_law_many"]) fun _ _ _ _ _ _ us hl => match us, hl with | [_, _], _ => rfl
  have F24 := fun_mk (st := sL_rings) l24 c24 k24
  have b24 := F24.binds (ps := ["_law_bag_here"]) fun _ _ _ _ _ _ us hl => match us, hl with | [_], _ => rfl
  have F25 := fun_mk (st := sL_turn) l25 c25 k25
  have b25 := F25.binds (ps := ["_law_start", "_law_stop", "_law_x", "_law_y"]) fun _ _ _ _ _ _ us hl => match us, hl with | [_, _, _, _], _ => rfl
  have F26 := fun_mk (st := sL_winding) l26 c26 k26
  have b26 := F26.binds (ps := ["_law_rings_here", "_law_x", "_law_y"]) fun _ _ _ _ _ _ us hl => match us, hl with | [_, _, _], _ => rfl
  have F27 := fun_mk (st := sL_ink) l27 c27 k27
  have b27 := F27.binds (ps := ["_law_rings_here"]) fun _ _ _ _ _ _ us hl => match us, hl with | [_], _ => rfl
  have F28 := fun_mk (st := sL_inked) l28 c28 k28
  have b28 := F28.binds (ps := ["_law_bag_here"]) fun _ _ _ _ _ _ us hl => match us, hl with | [_], _ => rfl
  have F29 := fun_mk (st := sL_on_side) l29 c29 k29
  have b29 := F29.binds (ps := ["_law_start", "_law_stop"]) fun _ _ _ _ _ _ us hl => match us, hl with | [_, _], _ => rfl
  have F30 := fun_mk (st := sL_cut) l30 c30 k30
  have b30 := F30.binds (ps := ["_law_bag_here", "_law_rings_here", "_law_place"]) fun _ _ _ _ _ _ us hl => match us, hl with | [_, _, _], _ => rfl
  have F31 := fun_mk (st := sL_lengthened) l31 c31 k31
  have b31 := F31.binds (ps := ["_law_bag_here", "_law_ring_here"]) fun _ _ _ _ _ _ us hl => match us, hl with | [_, _], _ => rfl
  have F32 := fun_mk (st := sL_otherwise) l32 c32 k32
  have b32 := F32.binds (ps := ["_law_bag_here", "_law_rings_here"]) fun _ _ _ _ _ _ us hl => match us, hl with | [_, _], _ => rfl
  have F33 := fun_mk (st := sL_same) l33 c33 k33
  have b33 := F33.binds (ps := ["_law_one_here", "_law_two"]) fun _ _ _ _ _ _ us hl => match us, hl with | [_, _], _ => rfl
  have F34 := fun_mk (st := sL_equal_stands) l34 c34 k34
  have b34 := F34.binds (ps := ["_law_one_here", "_law_two", "_law_is_equal"]) fun _ _ _ _ _ _ us hl => match us, hl with | [_, _, _], _ => rfl
  have F35 := fun_mk (st := sL_within_stands) l35 c35 k35
  have b35 := F35.binds (ps := ["_law_one_here", "_law_two", "_law_inks", "_law_others", "_law_is_near"]) fun _ _ _ _ _ _ us hl => match us, hl with | [_, _, _, _, _], _ => rfl
  have F36 := fun_mk (st := slaw) l36 c36 k36
  have F38 := fun_mk (st := sFace_ink) l38 c38 k38
  have b38 := F38.binds (ps := ["self", "letter"]) fun _ _ _ _ _ _ us hl => match us, hl with | [_, _], _ => rfl
  have F39 := fun_mk (st := sFace_step) l39 c39 k39
  have b39 := F39.binds (ps := ["self", "letter"]) fun _ _ _ _ _ _ us hl => match us, hl with | [_, _], _ => rfl
  have F40 := fun_mk (st := sFace_gap) l40 c40 k40
  have b40 := F40.binds (ps := ["self", "left", "right"]) fun _ _ _ _ _ _ us hl => match us, hl with | [_, _, _], _ => rfl
  have F41 := fun_mk (st := sFace_bar) l41 c41 k41
  have b41 := F41.binds (ps := ["self", "left", "right"]) fun _ _ _ _ _ _ us hl => match us, hl with | [_, _, _], _ => rfl
  have F42 := fun_mk (st := sFace_within) l42 c42 k42
  have b42 := F42.binds (ps := ["self", "other"]) fun _ _ _ _ _ _ us hl => match us, hl with | [_, _], _ => rfl
  have F43 := fun_mk (st := sFace__check) l43 c43 k43
  have b43 := F43.binds (ps := ["self", "letter"]) fun _ _ _ _ _ _ us hl => match us, hl with | [_, _], _ => rfl
  have F44 := fun_mk (st := sFace___eq__) l44 c44 k44
  have b44 := F44.binds (ps := ["self", "other"]) fun _ _ _ _ _ _ us hl => match us, hl with | [_, _], _ => rfl
  have F45 := fun_mk (st := sFace_letters) l45 c45 k45
  have b45 := F45.binds (ps := ["self"]) fun _ _ _ _ _ _ us hl => match us, hl with | [_], _ => rfl
  have FA : FunA K "__init__" "Face.__init__" sFace___init__ f37 _ := ⟨⟨_, _, _, _, _, _, _, _, _, _, rfl, l37, c37⟩⟩
  have FD : FunD K "__init__" "Face.__init__" (defArgs sFace___init__) (defBody sFace___init__) (defScope sFace___init__) [.int 1] [] f37 _ := ⟨⟨_, _, _, _, _, _, _, _, _, _, rfl, l37, c37, .inr ⟨(fun z => nomatch z), TD, _, [.int 1 tk0], _, rfl, lT, rfl, .cons ⟨_, rfl⟩ .nil⟩, .inl rfl⟩, k37⟩
  obtain ⟨dsI, hdsI, bI⟩ := FD.binds1 (ps := ["self", "outlines", "apart"]) 3 1 (fun z => nomatch z) rfl fun T kV doc pm an cdv ct us its h1 h2 => match us, its, h1, h2 with
    | [_, _, _], [_], _, _ => ⟨_, rfl, rfl⟩
  cases hdsI
  refine ⟨PySem.W.fnOf "law" "law" (defArgs slaw) (defBody slaw) (defScope slaw) .none kV36 dc36 pm36 an36 cd36 ct36, fun s v => .of_eq rfl, fun base _ _ => ?_⟩
  have C_each_side : WOk l.prog w K mg base 2 "each_side" ["ring"] spSides := ⟨⟨f7, _, PySem.W.mg_of X G a7, k7, b7, wf_each_side F7 T⟩⟩
  have C__count_of : CallOk l.prog w K mg base 1 "_count_of" ["side", "x", "y"] (spCount K) := call_ok (PySem.W.mg_of X G a9) k9 b9 (ok_count_of F9 T)
  have C_winding : CallOk l.prog w K mg base 4 "winding" ["rings", "x", "y"] spWinding := call_ok (PySem.W.mg_of X G a8) k8 b8 (ok_winding F8 T C_each_side C__count_of)
  have C__law_bag : CallOk l.prog w K mg base 1 "_law_bag" ["_law_script", "_law_at"] (spBag K) := call_ok (PySem.W.mg_of X G a20) k20 b20 (ok_bag F20 (PySem.W.mg_none_of X G z_int) (PySem.W.mg_none_of X G z_abs) (PySem.W.mg_none_of X G z_len) (PySem.W.mg_none_of X G z_enumerate))
  have C__law_draw : CallOk l.prog w K mg base 1 "_law_draw" ["_law_bag_here", "_law_many"] spDraw := call_ok (PySem.W.mg_of X G a21) k21 b21 (ok_draw F21 (PySem.W.mg_none_of X G z_int))
  have C__ink_row : CallOk l.prog w K mg base 5 "_ink_row" ["rings", "y"] spInkRow := call_ok (PySem.W.mg_of X G a11) k11 b11 (ok_inkrow F11 T T2 C_winding)
  have C_ink_of : CallOk l.prog w K mg base 6 "ink_of" ["rings"] spInkOf := call_ok (PySem.W.mg_of X G a10) k10 b10 (ok_inkof F10 T T2 C__ink_row)
  have C__column_or_none : CallOk l.prog w K mg base 1 "_column_or_none" ["column"] spCol := call_ok (PySem.W.mg_of X G a14) k14 b14 (ok_col F14)
  have C_leftmost : CallOk l.prog w K mg base 2 "leftmost" ["ink", "row"] (spEnd R4.lft) := call_ok (PySem.W.mg_of X G a12) k12 b12 (ok_left F12 C__column_or_none)
  have C_rightmost : CallOk l.prog w K mg base 2 "rightmost" ["ink", "row"] (spEnd R4.rgt) := call_ok (PySem.W.mg_of X G a13) k13 b13 (ok_right F13 C__column_or_none)
  have C_step_of : CallOk l.prog w K mg base 1 "step_of" ["ink"] spStep := call_ok (PySem.W.mg_of X G a15) k15 b15 (ok_step F15 T)
  have C_blanks : CallOk l.prog w K mg base 3 "blanks" ["left", "right", "row", "gap"] spBlanks := call_ok (PySem.W.mg_of X G a16) k16 b16 (ok_blanks F16 C_leftmost C_rightmost C_step_of)
  have C_is_integer : CallOk l.prog w K mg base 1 "is_integer" ["value"] spNum := call_ok (PySem.W.mg_of X G a0) k0 b0 (ok_isint F0 T)
  have C_is_integer_from : CallOk l.prog w K mg base 2 "is_integer_from" ["value", "low", "high"] spIntFrom := call_ok (PySem.W.mg_of X G a1) k1 b1 (ok_intfrom F1 C_is_integer)
  have C_is_row : CallOk l.prog w K mg base 1 "is_row" ["value"] spIsRow := call_ok (PySem.W.mg_of X G a2) k2 b2 (ok_isrow F2 T)
  have C__is_corner : CallOk l.prog w K mg base 3 "_is_corner" ["thing"] spIsCorner := call_ok (PySem.W.mg_of X G a5) k5 b5 (ok_iscorner F5 T T2 C_is_row C_is_integer_from)
  have C__is_ring : CallOk l.prog w K mg base 4 "_is_ring" ["thing"] spIsRing := call_ok (PySem.W.mg_of X G a6) k6 b6 (ok_isring F6 T C_is_row C__is_corner C_each_side)
  have C__ring_of : CallOk l.prog w K mg base 1 "_ring_of" ["ring"] spRingOf := call_ok (PySem.W.mg_of X G a4) k4 b4 (ok_ringof F4 T)
  have C_outline_of : CallOk l.prog w K mg base 5 "outline_of" ["letter", "thing"] spOutline := call_ok (PySem.W.mg_of X G a3) k3 b3 (ok_outline F3 T C_is_row C__is_ring C__ring_of)
  have C__checked_ink : CallOk l.prog w K mg base 7 "_checked_ink" ["letter", "thing"] spChecked := call_ok (PySem.W.mg_of X G a17) k17 b17 (ok_checked F17 C_ink_of C_outline_of C_step_of)
  have C__tight_row : CallOk l.prog w K mg base 4 "_tight_row" ["left", "right", "gap", "apart"] spTight := call_ok (PySem.W.mg_of X G a19) k19 b19 (ok_tight F19 T T2 C_blanks)
  have C__gap_and_bar : CallOk l.prog w K mg base 5 "_gap_and_bar" ["left", "right", "apart"] spGap := call_ok (PySem.W.mg_of X G a18) k18 b18 (ok_gap F18 C__tight_row)
  have M_Face : MakeOk l.prog w K mg base C 8 "Face" ["self", "outlines", "apart"] (spFaceInit C) := ⟨f37, _, ⟨mk, a37, i37, kc⟩, PySem.W.mg_of X G aC, bI, ok_faceinit FA T TF C_is_row C_is_integer_from C__checked_ink C__gap_and_bar⟩
  have M_letters : PropOk l.prog w K mg base C 1 "letters" (spLetters C) := ⟨pp45, f45, _, ⟨a45, g45, t45, ⟨_, r45⟩⟩, b45, ok_letters F45 T TF⟩
  have M__check : MethOk l.prog w K mg base C 3 "_check" ["self", "letter"] (spCheck C) := ⟨f43, _, ⟨a43, i43, k43⟩, b43, ok_check F43 T TF M_letters⟩
  have M_ink : MethOk l.prog w K mg base C 4 "ink" ["self", "letter"] (spInk C) := ⟨f38, _, ⟨a38, i38, k38⟩, b38, ok_ink F38 TF M__check⟩
  have M_step : MethOk l.prog w K mg base C 5 "step" ["self", "letter"] (spStepF C) := ⟨f39, _, ⟨a39, i39, k39⟩, b39, ok_stepF F39 TF C_step_of M_ink⟩
  have M_gap : MethOk l.prog w K mg base C 4 "gap" ["self", "left", "right"] (spGapF C) := ⟨f40, _, ⟨a40, i40, k40⟩, b40, ok_gapF F40 TF M__check⟩
  have M_bar : MethOk l.prog w K mg base C 4 "bar" ["self", "left", "right"] (spBarF C) := ⟨f41, _, ⟨a41, i41, k41⟩, b41, ok_barF F41 TF M__check⟩
  have M_within : MethOk l.prog w K mg base C 5 "within" ["self", "other"] (spWithin C) := ⟨f42, _, ⟨a42, i42, k42⟩, b42, ok_within F42 T TF M_letters M_ink⟩
  have EQ : EqOk l.prog w K mg base C := ⟨by simp [PySem.W.notFirst], f44, _, ⟨a44, e5, i44, e4⟩, b44, ok_eqF F44 T TF TE⟩
  have C__law_one : CallOk l.prog w K mg base 2 "_law_one" ["_law_bag_here", "_law_things"] spOne := call_ok (PySem.W.mg_of X G a22) k22 b22 (ok_one F22 T C__law_draw)
  have C__law_ring : CallOk l.prog w K mg base 2 "_law_ring" ["_law_bag_here", "_law_many"] spLRing := call_ok (PySem.W.mg_of X G a23) k23 b23 (ok_lring F23 T C__law_draw)
  have C__law_rings : CallOk l.prog w K mg base 3 "_law_rings" ["_law_bag_here"] spLRings := call_ok (PySem.W.mg_of X G a24) k24 b24 (ok_lrings F24 T C__law_draw C__law_ring)
  have C__law_turn : CallOk l.prog w K mg base 1 "_law_turn" ["_law_start", "_law_stop", "_law_x", "_law_y"] spTurn := call_ok (PySem.W.mg_of X G a25) k25 b25 (ok_lturn F25 T)
  have C__law_winding : CallOk l.prog w K mg base 2 "_law_winding" ["_law_rings_here", "_law_x", "_law_y"] spLWind := call_ok (PySem.W.mg_of X G a26) k26 b26 (ok_lwinding F26 T C__law_turn)
  have C__law_ink : CallOk l.prog w K mg base 3 "_law_ink" ["_law_rings_here"] spLInk := call_ok (PySem.W.mg_of X G a27) k27 b27 (ok_link F27 T C__law_winding)
  have C__law_inked : CallOk l.prog w K mg base 4 "_law_inked" ["_law_bag_here"] spInked := call_ok (PySem.W.mg_of X G a28) k28 b28 (ok_inked F28 T C__law_draw C__law_rings C__law_ink)
  have C__law_on_side : CallOk l.prog w K mg base 1 "_law_on_side" ["_law_start", "_law_stop"] spOnSide := call_ok (PySem.W.mg_of X G a29) k29 b29 (ok_onside F29 T)
  have C__law_cut : CallOk l.prog w K mg base 3 "_law_cut" ["_law_bag_here", "_law_rings_here", "_law_place"] spCut := call_ok (PySem.W.mg_of X G a30) k30 b30 (ok_lcut F30 T C__law_one)
  have C__law_lengthened : CallOk l.prog w K mg base 3 "_law_lengthened" ["_law_bag_here", "_law_ring_here"] spLen := call_ok (PySem.W.mg_of X G a31) k31 b31 (ok_llen F31 T C__law_draw C__law_one C__law_on_side)
  have C__law_otherwise : CallOk l.prog w K mg base 4 "_law_otherwise" ["_law_bag_here", "_law_rings_here"] spOther := call_ok (PySem.W.mg_of X G a32) k32 b32 (ok_lother F32 T C__law_draw C__law_cut C__law_lengthened)
  have C__law_same : CallOk l.prog w K mg base 6 "_law_same" ["_law_one_here", "_law_two"] (spSame C) := call_ok (PySem.W.mg_of X G a33) k33 b33 (ok_lsame F33 TF M_letters M_ink M_step M_gap M_bar)
  have C__law_equal_stands : CallOk l.prog w K mg base 3 "_law_equal_stands" ["_law_one_here", "_law_two", "_law_is_equal"] (spEqSt C) := call_ok (PySem.W.mg_of X G a34) k34 b34 (ok_leqst F34 T TF TE EQ)
  have C__law_within_stands : CallOk l.prog w K mg base 6 "_law_within_stands" ["_law_one_here", "_law_two", "_law_inks", "_law_others", "_law_is_near"] (spWithinSt C) := call_ok (PySem.W.mg_of X G a35) k35 b35 (ok_lwithst F35 T TF M_within)
  exact ok_law F36 T TF TE OT EQ M_Face M_letters M_within C__law_bag C__law_draw C__law_inked C__law_ink C__law_otherwise C__law_same C__law_equal_stands C__law_within_stands
theorem walk_law {l : PySem.W.OpenLaw} {q : Program} {loose : List Str} {XP : (Str → Option Value) → Heap → Prop} {YP : World → Heap → Prop} {d : DefRec} {K : Params → PySem.W.Frag} (hmost : l.most = some 63) (hdf : d.params.defaults = [])
    (hin : ∀ (w : World) (h : Heap), YP w h → (K w.params).In h)
    (all : ∀ (w : World) (mg : Str → Option Value) (fa : Addr) (h : Heap), (K w.params).In h → h.Ns mainGlobals mg → mg d.name = some (.ref fa) →
      ∃ fd : FuncData, (∀ (s : Shared) (u : Value), BindsTo s fd ⟨[u], []⟩ [("_law_script", u)]) ∧ ∀ base : Heap, (K w.params).In base → base.Ns mainGlobals mg → FnOk l.prog w (K w.params) mg base CX0 10 fa fd ["_law_script"] (spLaw (K w.params))) :
    PySem.W.WalkO q loose XP YP l.row.toRowW d [] (fun f vs => PySem.call f vs) :=
  L2.walk_of (n := 63) (k := 10) (x := "_law_script") (CX := fun _ => CX0) (sp := fun w => spLaw (K w.params)) hmost (by decide) hdf ⟨rfl, by decide, by decide⟩ hin all (fun _ _ a ns hl _ hS => ⟨a, ns, rfl, hS, hl, fun _ => rfl⟩) fun _ _ _ _ _ z => z
end Pa
open PySem PySem.W PyProof.Rows in
set_option maxRecDepth 100000 in
set_option maxHeartbeats 0 in
theorem PySem.Challenge.cw_pressalike_k04_whole_outlines_put_otherw_holds : PySem.Challenge.rw_pressalike_k04_whole_outlines_put_otherw.Holds := by
  w_on; o_law; k_head; (case hw => w_witness2)
  k_fill
  refine Pa.walk_law (l := PySem.Challenge.rw_pressalike_k04_whole_outlines_put_otherw) rfl rfl (fun w h Y => PySem.W.kIn_of Y) ?F
  case F =>
    intro w mg fa h KX G hmg
    refine' Pa.all_mk KX G hmg ?aC ?aG ?aL ?a0 ?l0 ?c0 ?k0 ?a1 ?l1 ?c1 ?k1 ?a2 ?l2 ?c2 ?k2 ?a3 ?l3 ?c3 ?k3 ?a4 ?l4 ?c4 ?k4 ?a5 ?l5 ?c5 ?k5 ?a6 ?l6 ?c6 ?k6 ?a7 ?l7 ?c7 ?k7 ?a8 ?l8 ?c8 ?k8 ?a9 ?l9 ?c9 ?k9 ?a10 ?l10 ?c10 ?k10 ?a11 ?l11 ?c11 ?k11 ?a12 ?l12 ?c12 ?k12 ?a13 ?l13 ?c13 ?k13 ?a14 ?l14 ?c14 ?k14 ?a15 ?l15 ?c15 ?k15 ?a16 ?l16 ?c16 ?k16 ?a17 ?l17 ?c17 ?k17 ?a18 ?l18 ?c18 ?k18 ?a19 ?l19 ?c19 ?k19 ?a20 ?l20 ?c20 ?k20 ?a21 ?l21 ?c21 ?k21 ?a22 ?l22 ?c22 ?k22 ?a23 ?l23 ?c23 ?k23 ?a24 ?l24 ?c24 ?k24 ?a25 ?l25 ?c25 ?k25 ?a26 ?l26 ?c26 ?k26 ?a27 ?l27 ?c27 ?k27 ?a28 ?l28 ?c28 ?k28 ?a29 ?l29 ?c29 ?k29 ?a30 ?l30 ?c30 ?k30 ?a31 ?l31 ?c31 ?k31 ?a32 ?l32 ?c32 ?k32 ?a33 ?l33 ?c33 ?k33 ?a34 ?l34 ?c34 ?k34 ?a35 ?l35 ?c35 ?k35 ?a36 ?l36 ?c36 ?k36 ?a37 ?i37 ?l37 ?c37 ?k37 ?a38 ?i38 ?l38 ?c38 ?k38 ?a39 ?i39 ?l39 ?c39 ?k39 ?a40 ?i40 ?l40 ?c40 ?k40 ?a41 ?i41 ?l41 ?c41 ?k41 ?a42 ?i42 ?l42 ?c42 ?k42 ?a43 ?i43 ?l43 ?c43 ?k43 ?a44 ?i44 ?l44 ?c44 ?k44 ?a45 ?g45 ?t45 ?r45 ?l45 ?c45 ?k45 ?lT ?pg ?hd ?po ?sa ?mk ?kc ?nA ?nI ?nF ?e1 ?e2 ?e3 ?e4 ?e5 ?e6 ?e7 ?s0 ?s1 ?s2 ?s3 ?s4 ?z_len ?z_range ?z_int ?z_abs ?z_enumerate ?z_isinstance ?z_bool ?z_list ?z_tuple ?z_max ?z_min ?z_all ?z_sum ?z_zip
    (case aC => k_is)
    (case aG => k_is)
    (case aL => k_is)
    (case a0 => k_is)
    (case l0 => k_is)
    (case c0 => k_is)
    (case k0 => k_is)
    (case a1 => k_is)
    (case l1 => k_is)
    (case c1 => k_is)
    (case k1 => k_is)
    (case a2 => k_is)
    (case l2 => k_is)
    (case c2 => k_is)
    (case k2 => k_is)
    (case a3 => k_is)
    (case l3 => k_is)
    (case c3 => k_is)
    (case k3 => k_is)
    (case a4 => k_is)
    (case l4 => k_is)
    (case c4 => k_is)
    (case k4 => k_is)
    (case a5 => k_is)
    (case l5 => k_is)
    (case c5 => k_is)
    (case k5 => k_is)
    (case a6 => k_is)
    (case l6 => k_is)
    (case c6 => k_is)
    (case k6 => k_is)
    (case a7 => k_is)
    (case l7 => k_is)
    (case c7 => k_is)
    (case k7 => k_is)
    (case a8 => k_is)
    (case l8 => k_is)
    (case c8 => k_is)
    (case k8 => k_is)
    (case a9 => k_is)
    (case l9 => k_is)
    (case c9 => k_is)
    (case k9 => k_is)
    (case a10 => k_is)
    (case l10 => k_is)
    (case c10 => k_is)
    (case k10 => k_is)
    (case a11 => k_is)
    (case l11 => k_is)
    (case c11 => k_is)
    (case k11 => k_is)
    (case a12 => k_is)
    (case l12 => k_is)
    (case c12 => k_is)
    (case k12 => k_is)
    (case a13 => k_is)
    (case l13 => k_is)
    (case c13 => k_is)
    (case k13 => k_is)
    (case a14 => k_is)
    (case l14 => k_is)
    (case c14 => k_is)
    (case k14 => k_is)
    (case a15 => k_is)
    (case l15 => k_is)
    (case c15 => k_is)
    (case k15 => k_is)
    (case a16 => k_is)
    (case l16 => k_is)
    (case c16 => k_is)
    (case k16 => k_is)
    (case a17 => k_is)
    (case l17 => k_is)
    (case c17 => k_is)
    (case k17 => k_is)
    (case a18 => k_is)
    (case l18 => k_is)
    (case c18 => k_is)
    (case k18 => k_is)
    (case a19 => k_is)
    (case l19 => k_is)
    (case c19 => k_is)
    (case k19 => k_is)
    (case a20 => k_is)
    (case l20 => k_is)
    (case c20 => k_is)
    (case k20 => k_is)
    (case a21 => k_is)
    (case l21 => k_is)
    (case c21 => k_is)
    (case k21 => k_is)
    (case a22 => k_is)
    (case l22 => k_is)
    (case c22 => k_is)
    (case k22 => k_is)
    (case a23 => k_is)
    (case l23 => k_is)
    (case c23 => k_is)
    (case k23 => k_is)
    (case a24 => k_is)
    (case l24 => k_is)
    (case c24 => k_is)
    (case k24 => k_is)
    (case a25 => k_is)
    (case l25 => k_is)
    (case c25 => k_is)
    (case k25 => k_is)
    (case a26 => k_is)
    (case l26 => k_is)
    (case c26 => k_is)
    (case k26 => k_is)
    (case a27 => k_is)
    (case l27 => k_is)
    (case c27 => k_is)
    (case k27 => k_is)
    (case a28 => k_is)
    (case l28 => k_is)
    (case c28 => k_is)
    (case k28 => k_is)
    (case a29 => k_is)
    (case l29 => k_is)
    (case c29 => k_is)
    (case k29 => k_is)
    (case a30 => k_is)
    (case l30 => k_is)
    (case c30 => k_is)
    (case k30 => k_is)
    (case a31 => k_is)
    (case l31 => k_is)
    (case c31 => k_is)
    (case k31 => k_is)
    (case a32 => k_is)
    (case l32 => k_is)
    (case c32 => k_is)
    (case k32 => k_is)
    (case a33 => k_is)
    (case l33 => k_is)
    (case c33 => k_is)
    (case k33 => k_is)
    (case a34 => k_is)
    (case l34 => k_is)
    (case c34 => k_is)
    (case k34 => k_is)
    (case a35 => k_is)
    (case l35 => k_is)
    (case c35 => k_is)
    (case k35 => k_is)
    (case a36 => k_is)
    (case l36 => k_is)
    (case c36 => k_is)
    (case k36 => k_is)
    (case a37 => k_is)
    (case i37 => k_is)
    (case l37 => k_is)
    (case c37 => k_is)
    (case k37 => k_is)
    (case a38 => k_is)
    (case i38 => k_is)
    (case l38 => k_is)
    (case c38 => k_is)
    (case k38 => k_is)
    (case a39 => k_is)
    (case i39 => k_is)
    (case l39 => k_is)
    (case c39 => k_is)
    (case k39 => k_is)
    (case a40 => k_is)
    (case i40 => k_is)
    (case l40 => k_is)
    (case c40 => k_is)
    (case k40 => k_is)
    (case a41 => k_is)
    (case i41 => k_is)
    (case l41 => k_is)
    (case c41 => k_is)
    (case k41 => k_is)
    (case a42 => k_is)
    (case i42 => k_is)
    (case l42 => k_is)
    (case c42 => k_is)
    (case k42 => k_is)
    (case a43 => k_is)
    (case i43 => k_is)
    (case l43 => k_is)
    (case c43 => k_is)
    (case k43 => k_is)
    (case a44 => k_is)
    (case i44 => k_is)
    (case l44 => k_is)
    (case c44 => k_is)
    (case k44 => k_is)
    (case a45 => k_is)
    (case g45 => k_is)
    (case t45 => k_is)
    (case r45 => k_is)
    (case l45 => k_is)
    (case c45 => k_is)
    (case k45 => k_is)
    (case lT => k_is)
    (case pg => k_is)
    (case hd => k_is)
    (case po => k_is)
    (case sa => k_is)
    (case mk => k_is)
    (case kc => k_is)
    (case nA => k_is)
    (case nI => k_is)
    (case nF => k_is)
    (case e1 => k_is)
    (case e2 => k_is)
    (case e3 => k_is)
    (case e4 => k_is)
    (case e5 => k_is)
    (case e6 => k_is)
    (case e7 => k_is)
    (case s0 => k_is)
    (case s1 => k_is)
    (case s2 => k_is)
    (case s3 => k_is)
    (case s4 => k_is)
    (case z_len => k_is)
    (case z_range => k_is)
    (case z_int => k_is)
    (case z_abs => k_is)
    (case z_enumerate => k_is)
    (case z_isinstance => k_is)
    (case z_bool => k_is)
    (case z_list => k_is)
    (case z_tuple => k_is)
    (case z_max => k_is)
    (case z_min => k_is)
    (case z_all => k_is)
    (case z_sum => k_is)
    (case z_zip => k_is)
