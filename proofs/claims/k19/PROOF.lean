import PyProof.Rows.All
import Wide.All
import OpenK.AllK
import Wide.FinOn
import HandS.ForMost
import HandS.Wide
import HandS.Walk
import HandS.TupAny
import HandS.IsInst
import HandS.Star
import HandS.Defaults
import KE.KParD
import HandS.OwnEq
import PyProof.InstEq
import PyProof.DictUpdate
import KE.KStar
import HandS.MakeKw
import KE.KDictZip
import HandS.Zip0
import HandS.Zip
import HandS.More
import HandS.TupLe
import HandS.NoneIn
import HandS.Flow
import HandS.RaiseMore
import HandS.ClsMeth
import PyProof.ListStr
import HandS.OwnIter
import KE.KDictIter
import HandS.Ends
import PyProof.ReprHeadsTuple
import HandS.ExcInit
import KE.KExcSuper
import HandS.ExcOwn
import HandS.ExcField
import HandS.WordsExc
import KE.KRevSl
import PyProof.StrLawsChain
import PyProof.StrLawsTight
import HandS.FStr
import HandS.Conv
import PyProof.FString
import PyProof.FString4
import PyProof.CallStr
import HandS.ExcIs
import HandS.Lambda
import KE.KExcIs
import PyProof.ReprRoads
import PyProof.ReprText
import PySem.Challenge.RW_pressalike_k19_texts_of_sheets
set_option Elab.async false
set_option linter.all false
set_option maxRecDepth 100000
set_option maxHeartbeats 4000000
namespace Pa
open PySem PySem.Spec PyProof.Rows L2
/-! ### calls of defs, by one fact each -/
/-- the module's name x holds a def that keeps the promise sp -/
structure CallOk (P : Program) (w : World) (K : PySem.W.Frag) (mg : Str → Option Value) (base : Heap) (k : Nat) (x : Str) (ps : List Str) (sp : Sp) : Prop where
  ok : ∃ (f : Addr) (fd : FuncData), mg x = some (.ref f) ∧ PySem.W.keepIn K (.ref f) = true ∧ Binds K fd ps [] ∧ FnOk P w K mg base CX0 k f fd ps sp
theorem CallOk.imp {P : Program} {w : World} {K : PySem.W.Frag} {mg : Str → Option Value} {base : Heap} {k : Nat} {x : Str} {ps : List Str} {sp sp' : Sp} (C : CallOk P w K mg base k x ps sp) (h : ∀ vs H Q E, sp' vs H Q E → sp vs H Q E) : CallOk P w K mg base k x ps sp' := by
  obtain ⟨f, fd, h1, h2, h3, h4⟩ := C.ok
  exact ⟨f, fd, h1, h2, h3, h4.imp h⟩
theorem call_ok {P : Program} {w : World} {K : PySem.W.Frag} {mg : Str → Option Value} {base : Heap} {k : Nat} {x : Str} {ps : List Str} {sp : Sp} {f : Addr} {fd : FuncData} (m : mg x = some (.ref f)) (kp : PySem.W.keepIn K (.ref f) = true) (b : Binds K fd ps []) (F : FnOk P w K mg base CX0 k f fd ps sp) :
    CallOk P w K mg base k x ps sp := ⟨f, fd, m, kp, b, F⟩
section
variable {X : Cx} {k : Nat} {ps : List Str} {sp : Sp} {x : Str} {p pos : Pos} {e : Expr} {es : List Expr} {t : TA}
theorem pe_cc (C : CallOk X.prog X.w X.K X.mg X.base k x ps sp) (hr : Room k X.A) (hg : Gl X x) (ha : PA X (e :: es) t) (hdb : (x == ("__debug__" : Str)) = false := by decide)
    (he : starEach (e :: es) X.env = (false, eval e X.env) :: starEach es X.env := by rfl) (hpl : (backTo pos (starEach es X.env)).any (·.1) = false := by rfl) : PE X (.Call (.Name x p) (e :: es) [] pos) (tCall sp [] E0 t) := by
  obtain ⟨f, fd, h1, h2, h3, h4⟩ := C.ok
  exact pe_call h4 hr hg h1 h2 h3 .nil pass0 ha hdb he hpl
theorem pe_cc0 (C : CallOk X.prog X.w X.K X.mg X.base k x ps sp) (hr : Room k X.A) (hg : Gl X x) (hdb : (x == ("__debug__" : Str)) = false := by decide) : PE X (.Call (.Name x p) [] [] pos) (tCall sp [] E0 tNil) := by
  obtain ⟨f, fd, h1, h2, h3, h4⟩ := C.ok
  exact pe_call0 h4 hr hg h1 h2 h3 .nil pass0 hdb
end
def topS (i : Nat) : Stmt := PySem.Challenge.pw_pressalike_k19_texts_of_sheets.main.body.getD i (.Pass ⟨0, 0, 0, 0⟩)
abbrev sL_one : Stmt := topS 34
abbrev sBag : Stmt := topS 32
abbrev sDraw : Stmt := topS 33
theorem scBag : FnScope ["_law_script", "_law_at", "_law_great", "_law_mixed", "_law_place", "_law_cell"] ["_law_script", "_law_at"] (defScope sBag) := ⟨rfl, rfl, rfl, by decide +kernel, rfl, by decide +kernel, by decide +kernel⟩
theorem scDraw : FnScope ["_law_bag_here", "_law_many", "_law_digit"] ["_law_bag_here", "_law_many"] (defScope sDraw) := ⟨rfl, rfl, rfl, by decide +kernel, rfl, by decide +kernel, by decide +kernel⟩
theorem atI_ints {ns : List Int} {i : Int} (h0 : 0 ≤ i) (h : i < (ns.length : Int)) : ∃ z : Int, atI (ns.map V.int) i = some (.int z) := by
  obtain ⟨n, rfl⟩ : ∃ n : Nat, i = (n : Int) := ⟨i.toNat, by omega⟩
  have hn : n < ns.length := by omega
  exact ⟨ns[n], atI_nat (j := n) (by rw [List.getElem?_map, List.getElem?_eq_getElem hn]; rfl)⟩
theorem join1 {α : Type} {G : α → Prop} {T : Prop} (h : (∀ y, G y) → T) (g : ∀ y, G y) : T := h g
/-- a source of draws stands at b -/
def IsBag (H : Hp) (b : Addr) : Prop := ∃ g x c : Int, H b = some (.lst [.int g, .int x, .int c])
/-- at most the source at b has changed -/
structure Bk (b : Addr) (H H' : Hp) : Prop where
  bag : IsBag H' b
  keep : ∀ q o, q ≠ b → H q = some o → H' q = some o
theorem Bk.trans {b : Addr} {H H1 H2 : Hp} (x : Bk b H H1) (y : Bk b H1 H2) : Bk b H H2 := ⟨y.bag, fun q o hq e => y.keep q o hq (x.keep q o hq e)⟩
theorem Bk.seqL {K : PySem.W.Frag} {b p : Addr} {H H' : Hp} {xs : List V} (x : Bk b H H') (h : SqL K H p xs) (hp : p ≠ b) : SqL K H' p xs := by
  rcases h with (h | ⟨o, h⟩) | h
  · exact .inl (.inl (x.keep _ _ hp h))
  · exact .inl (.inr ⟨o, x.keep _ _ hp h⟩)
  · exact .inr h
theorem Bk.seqT {K : PySem.W.Frag} {b p : Addr} {H H' : Hp} {xs : List V} (x : Bk b H H') (h : SqT K H p xs) (hp : p ≠ b) : SqT K H' p xs := by
  rcases h with (h | ⟨o, h⟩) | h
  · exact .inl (.inl (x.keep _ _ hp h))
  · exact .inl (.inr ⟨o, x.keep _ _ hp h⟩)
  · exact .inr h
/-- a new object beside it -/
theorem Bk.fresh {b p : Addr} {H H' : Hp} {o : HO} (x : Bk b H H') (h : H' p = none) : Bk b H (upd H' p o) := by
  obtain ⟨⟨g, y, c, e⟩, kp⟩ := x
  exact ⟨⟨g, y, c, by rw [upd_ne (ne_of_none e h)]; exact e⟩, fun q u hq eq => by rw [upd_ne (ne_of_none (kp q u hq eq) h)]; exact kp q u hq eq⟩
theorem Bk.free {b p : Addr} {H H' : Hp} (x : Bk b H H') (hb : IsBag H b) (h : H' p = none) : H p = none := by
  cases e : H p with
  | none => rfl
  | some o =>
    by_cases q : p = b
    · obtain ⟨g, y, c, e2⟩ := x.bag
      rw [q, e2] at h
      cases h
    · rw [x.keep p o q e] at h
      cases h
def spDraw : Sp := fun vs H Q _ => ∃ (b : Addr) (m : Int), vs = [.ref b, .int m] ∧ IsBag H b ∧ 1 ≤ m ∧ m < 2 ^ 200 ∧
  ∀ (d : Int) (H' : Hp), 0 ≤ d → d < m → Bk b H H' → Q (.int d) H'
section
variable {P : Program} {w : World} {K : PySem.W.Frag} {mg : Str → Option Value} {base : Heap}
theorem ok_draw {f : Addr} {fd : FuncData} (F : Fun K "_law_draw" "_law_draw" sDraw f fd) (mi : mg "int" = none) : FnOk P w K mg base CX0 1 f fd ["_law_bag_here", "_law_many"] spDraw := by
  refine F.ok scDraw (fun vs H Q E h => ?_) (fun cdv A outer s H vs Q E hr h => ?_)
  · obtain ⟨b, m, rfl, _⟩ := h
    rfl
  · obtain ⟨b, m, rfl, ⟨g, x, c, hb⟩, h1, h2, k⟩ := h
    have nd := scDraw.nd
    refine ⟨_, pss_cons (ps_if (pt_cmpR op_gt (pe_ix ix_list (pv 0) pe_int (fun _ _ => rfl)) pe_int (nomark _))
        (pss_cons (ps_set (i := 2) nd rfl (.inl rfl) (pe_op op_mod (pe_callTy call_int1 (by rfl) mi (by decide +kernel) (pa_cons (pe_ix ix_list (pv 0) pe_int (fun _ _ => rfl)) pa_nil)) (pv 1)))
        (pss_cons (ps_asg (pe_op op_fdivW (pe_ix ix_list (pv 0) pe_int (fun _ _ => rfl)) (pv 1)) (pg_sub (pv 0) pe_int set_list))
        (pss_one (ps_ret (pv 2))))) pss_nil)
      (pss_cons (ps_asg (pe_op op_add (pe_ix ix_list (pv 0) pe_int (fun _ _ => rfl)) pe_int) (pg_sub (pv 0) pe_int set_list))
      (pss_cons (ps_asg (pe_op op_mod (pe_callTy call_int1 (by rfl) mi (by decide +kernel) (pa_cons (pe_op op_add (pe_op op_add (pe_op op_mul (pe_ix ix_list (pv 0) pe_int (fun _ _ => rfl)) pe_int) (pe_op op_mul pe_int (pe_ix ix_list (pv 0) pe_int (fun _ _ => rfl)))) pe_int) pa_nil)) pe_int) (pg_sub (pv 0) pe_int set_list))
      (pss_one (ps_ret (pe_op op_mod (pe_op op_fdiv (pe_callTy call_int1 (by rfl) mi (by decide +kernel) (pa_cons (pe_op op_mod (pe_callTy call_int1 (by rfl) mi (by decide +kernel) (pa_cons (pe_op op_add (pe_op op_mul (pe_ix ix_list (pv 0) pe_int (fun _ _ => rfl)) pe_int) (pe_op op_mul pe_int (pe_ix ix_list (pv 0) pe_int (fun _ _ => rfl)))) pa_nil)) pe_int) pa_nil)) pe_int) (pv 1)))))), ?_⟩
    have i0 : ∀ {z0 z1 z2 : V}, atI [z0, z1, z2] 0 = some z0 := fun {z0 z1 z2} => atI_nat (j := 0) rfl
    have i1 : ∀ {z0 z1 z2 : V}, atI [z0, z1, z2] 1 = some z1 := fun {z0 z1 z2} => atI_nat (j := 1) rfl
    have i2 : ∀ {z0 z1 z2 : V}, atI [z0, z1, z2] 2 = some z2 := fun {z0 z1 z2} => atI_nat (j := 2) rfl
    -- if bag[0] > 0
    refine ⟨_, rfl, b, _, _, _, rfl, rfl, SqL.of hb, i0, _, _, rfl, rfl, _, rfl, ite2 (fun hg => ?_) (fun hg => ?_)⟩
    · -- digit = int(bag[0]) % many; bag[0] = bag[0] // many; return digit
      refine ⟨_, rfl, b, _, _, _, rfl, rfl, SqL.of hb, i0, .inl ⟨_, rfl, _, rfl, _, _, rfl, rfl, (by show (0 : Int) < m; omega), ?_⟩⟩
      refine ⟨_, rfl, b, _, _, _, rfl, rfl, SqL.of hb, i0, _, rfl, _, _, rfl, rfl, wide_div (b := 200) (by omega) (by omega) (by decide) (by decide), ?_⟩
      refine ⟨_, rfl, b, _, _, 0, rfl, rfl, hb, rfl, ?_⟩
      refine ⟨_, rfl, k _ _ (Int.emod_nonneg _ (by omega)) (Int.emod_lt_of_pos _ (by omega)) ⟨⟨_, _, _, upd_same⟩, fun q o hq e => by rw [upd_ne hq]; exact e⟩⟩
    · refine ⟨_, rfl, b, _, _, _, rfl, rfl, SqL.of hb, i2, _, _, rfl, rfl, ?_⟩
      refine ⟨_, rfl, b, _, _, 2, rfl, rfl, hb, rfl, ?_⟩
      have hb2 : (upd H b (.lst [.int g, .int x, .int (c + 1)])) b = some (.lst [.int g, .int x, .int (c + 1)]) := upd_same
      refine ⟨_, rfl, b, _, _, _, rfl, rfl, SqL.of hb2, i1, _, _, rfl, rfl, .inr (by decide), _, rfl, b, _, _, _, rfl, rfl, SqL.of hb2, i2, _, _, rfl, rfl, .inl (by decide), ?_⟩
      refine ⟨_, _, rfl, rfl, _, _, rfl, rfl, .inl ⟨_, rfl, _, _, rfl, rfl, (by show (0 : Int) < 2147483647; decide), ?_⟩⟩
      refine ⟨_, rfl, b, _, _, 1, rfl, rfl, hb2, rfl, ?_⟩
      have hb3 : ∀ z : Int, (upd (upd H b (.lst [.int g, .int x, .int (c + 1)])) b (.lst [.int g, .int z, .int (c + 1)])) b = some (.lst [.int g, .int z, .int (c + 1)]) := fun z => upd_same
      refine ⟨_, rfl, b, _, _, _, rfl, rfl, SqL.of (hb3 _), i1, _, _, rfl, rfl, .inr (by decide), _, rfl, b, _, _, _, rfl, rfl, SqL.of (hb3 _), i2, _, _, rfl, rfl, .inl (by decide), ?_⟩
      refine ⟨_, _, rfl, rfl, .inl ⟨_, rfl, _, _, rfl, rfl, (by show (0 : Int) < 2147483629; decide), .inl ⟨_, rfl, _, _, rfl, rfl, ⟨by decide, by decide⟩, _, rfl, _, _, rfl, rfl, (by show (0 : Int) < m; omega), ?_⟩⟩⟩
      refine k _ _ (Int.emod_nonneg _ (by omega)) (Int.emod_lt_of_pos _ (by omega)) ⟨⟨_, _, _, hb3 _⟩, fun q o hq e => by rw [upd_ne hq, upd_ne hq]; exact e⟩
/-- a new source of draws -/
def spBag (K : PySem.W.Frag) : Sp := fun vs H Q _ => ∃ (a : Addr) (i : Int) (ns : List Int), vs = [.ref a, .int i] ∧ SqL K H a (ns.map V.int) ∧ 0 ≤ i ∧ i ≤ 1000 ∧
  ∀ (b : Addr) (H' : Hp), H b = none → IsBag H' b → (∀ q o, q ≠ b → H q = some o → H' q = some o) → Q (.ref b) H'
theorem ok_bag {f : Addr} {fd : FuncData} (F : Fun K "_law_bag" "_law_bag" sBag f fd) (mi : mg "int" = none) (ma : mg "abs" = none) (ml : mg "len" = none) (me : mg "enumerate" = none) : FnOk P w K mg base CX0 1 f fd ["_law_script", "_law_at"] (spBag K) := by
  refine F.ok scBag (fun vs H Q E h => ?_) (fun cdv A outer s H vs Q E hr h => ?_)
  · obtain ⟨a, i, ns, rfl, _⟩ := h
    rfl
  · obtain ⟨a, ix, ns, rfl, hS, h0, h1, k⟩ := h
    have nd := scBag.nd
    refine ⟨_, pss_cons (ps_set (i := 2) nd rfl (.inl rfl) (pe_ifExp (pt_cmpR op_lt (pv 1) (pe_callB call_len_seq (by rfl) ml PySem.boot_len (pa_cons (pv 0) pa_nil)) (nomark _))
          (pe_callB call_abs (by rfl) ma (by decide +kernel) (pa_cons (pe_callTy call_int1 (by rfl) mi (by decide +kernel) (pa_cons (pe_ix ix_list (pv 0) (pv 1) (fun _ _ => rfl)) pa_nil)) pa_nil)) pe_int))
      (pss_cons (ps_set (i := 3) nd rfl (.inl rfl) (pe_op op_add pe_int (pe_op op_mul pe_int (pv 1))))
      (pss_cons (ps_for PassesOwn.never rfl (pi_enum (by rfl) me (pa_cons (pe_slice sl_list (pv 0) po_none (po_some pe_int)) pa_nil)) (pg_tup rfl (pgs_cons (pg_name (i := 4) nd rfl (.inl rfl)) (pgs_cons (pg_name (i := 5) nd rfl (.inl rfl)) pgs_nil)))
        (pss_one (ps_set (i := 3) nd rfl (.inl rfl) (pe_op op_mod (pe_callTy call_int1 (by rfl) mi (by decide +kernel) (pa_cons (pe_op op_add (pe_op op_add (pe_op op_mul (pv 3) pe_int)
            (pe_op op_mod (pe_callTy call_int1 (by rfl) mi (by decide +kernel) (pa_cons (pv 5) pa_nil)) pe_int)) (pe_op op_mul pe_int (pv 4))) pa_nil)) pe_int))))
      (pss_one (ps_ret (pe_lst (pa_cons (pe_ifExp (pt_cmpR op_ge (pv 2) (pe_op op_pow pe_int pe_int) (nomark _)) (pv 2) pe_int) (pa_cons (pv 3) (pa_cons pe_int pa_nil)))))))), ?_⟩
    refine join1 (α := Int) (G := ?G) (fun bag_rest => ?br) (fun y => ?fin)
    case br =>
      refine ⟨_, rfl, _, rfl, a, _, rfl, .inl hS, _, _, rfl, rfl, _, rfl, ite2 (fun hc => ?_) (fun hc => ?_)⟩
      · have hc' : ix < ((ns.map V.int).length : Int) := of_decide_eq_true hc
        rw [List.length_map] at hc'
        obtain ⟨z, hz⟩ := atI_ints h0 hc'
        refine ⟨_, rfl, _, rfl, a, _, _, _, rfl, rfl, hS, hz, .inl ⟨_, rfl, _, rfl, ?_⟩⟩
        generalize (if z < 0 then -z else z) = y
        exact bag_rest y
      · exact bag_rest 0
    case fin =>
      -- mixed = 1009 + 77 * at
      refine ⟨_, rfl, _, _, rfl, rfl, .inl (by decide), _, _, rfl, rfl, ?_⟩
      -- enumerate(script[:63])
      refine ⟨_, rfl, _, rfl, a, _, rfl, hS, fun c nc => ?_⟩
      have sc : Same H (upd H c (.lst (cutV (ns.map V.int) none (some 63)))) := fun q o e => by rw [upd_ne (ne_of_none e nc)]; exact e
      have hints : ∀ x ∈ cutV (ns.map V.int) none (some 63), ∃ z : Int, x = .int z := fun x hx => by
        have hm := List.mem_of_mem_drop (List.mem_of_mem_take hx)
        obtain ⟨z, _, e⟩ := List.mem_map.mp hm
        exact ⟨z, e.symm⟩
      revert sc hints
      generalize cutV (ns.map V.int) none (some 63) = cs
      intro sc hints
      refine ⟨c, cs, rfl, SqL.of upd_same, for_it (walk_enum (xs := cs)) (fun i σ H2 => ∃ (m : Int) (y4 y5 : Option V), σ = [some (.ref a), some (.int ix), some (.int y), some (.int m), y4, y5] ∧ Same H H2 ∧ SqL K H2 c cs) ⟨_, none, none, rfl, sc, SqL.of upd_same⟩ ?_ ?_ ?_⟩
      · rintro i σ H2 _ ⟨m, y4, y5, rfl, s2, hc2⟩
        exact hc2
      · rintro i x σ H2 H3 hi ⟨m, y4, y5, rfl, s2, hc2⟩ ⟨T, x1, x2, rfl, nT, rfl, e1, e2⟩
        obtain ⟨z, rfl⟩ := hints _ (List.mem_of_getElem? e2)
        cases e1
        have s3 : Same H2 (upd H2 T (.tup [.int (i : Nat), .int z])) := fun q o e => by rw [upd_ne (ne_of_none e nT)]; exact e
        refine ⟨T, _, rfl, SqT.of upd_same, rfl, _, _, rfl, _, _, rfl, rfl, ?_⟩
        refine ⟨_, rfl, _, _, rfl, rfl, .inr (by decide), _, rfl, .inl ⟨_, rfl, _, _, rfl, rfl, (by show (0 : Int) < 2147483629; decide), ?_⟩⟩
        refine ⟨_, _, rfl, rfl, _, rfl, _, _, rfl, rfl, .inl (by decide), _, _, rfl, rfl, .inl ⟨_, rfl, _, _, rfl, rfl, (by show (0 : Int) < 2147483647; decide), ?_⟩⟩
        exact ⟨_, _, _, rfl, s2.trans s3, s3.seq hc2⟩
      · rintro σ H2 ⟨m, y4, y5, rfl, s2, hc2⟩
        -- return [.., mixed, 0]
        refine ⟨_, rfl, _, _, rfl, rfl, ⟨by decide, by decide, by decide⟩, _, _, rfl, rfl, _, rfl, ite2 (fun hc => ⟨_, rfl, ?_⟩) (fun hc => ?_)⟩
        all_goals
          refine ⟨_, rfl, (by show 3 ≤ sizeLine; decide), fun b nb => ?_⟩
          have nbH : H b = none := s2.free nb
          exact k b _ nbH ⟨_, _, _, upd_same⟩ fun q o hq e => by rw [upd_ne hq]; exact s2 _ _ e
/-- one of some things -/
def spOne (K : PySem.W.Frag) : Sp := fun vs H Q _ => ∃ (b p : Addr) (xs : List V), vs = [.ref b, .ref p] ∧ IsBag H b ∧ b ≠ p ∧ xs ≠ [] ∧ xs.length ≤ 1000 ∧ (SqL K H p xs ∨ SqT K H p xs) ∧
  ∀ (v : V) (H' : Hp), v ∈ xs → Bk b H H' → Q v H'
theorem scL_one : FnScope ["_law_bag_here", "_law_things"] ["_law_bag_here", "_law_things"] (defScope sL_one) := ⟨rfl, rfl, rfl, by decide +kernel, rfl, by decide +kernel, by decide +kernel⟩
theorem ok_one {f : Addr} {fd : FuncData} (F : Fun K "_law_one" "_law_one" sL_one f fd) (C__law_draw : CallOk P w K mg base 1 "_law_draw" ["_law_bag_here", "_law_many"] spDraw) (ml : mg "len" = none) : FnOk P w K mg base CX0 2 f fd ["_law_bag_here", "_law_things"] (spOne K) := by
  refine F.ok scL_one (fun vs H Q E h => ?_) (fun cdv A outer s H vs Q E hr h => ?_)
  · obtain ⟨b, p, xs, rfl, _⟩ := h
    rfl
  · obtain ⟨b, p, xs, rfl, hb, hbp, hne, hlen, hs, k⟩ := h
    have hp : 0 < xs.length := List.length_pos_iff.mpr hne
    refine ⟨_, (pss_one (ps_ret (pe_ix ix_seq (pv 1) (pe_cc C__law_draw (hr.mono (by decide)) (by rfl) (pa_cons (pv 0) (pa_cons (pe_callB call_len_seq (by rfl) ml PySem.boot_len (pa_cons (pv 1) pa_nil)) pa_nil))) (fun _ _ => rfl)))), ?_⟩
    refine ⟨_, rfl, _, rfl, _, rfl, p, xs, rfl, hs, b, _, rfl, hb, by omega, by omega, fun d H' h0 h1 B => ?_⟩
    obtain ⟨n, rfl⟩ : ∃ n : Nat, d = (n : Int) := ⟨d.toNat, by omega⟩
    have hn : n < xs.length := by omega
    have at' : atI xs ((n : Nat) : Int) = some xs[n] := atI_nat (j := n) (List.getElem?_eq_getElem hn)
    rcases hs with hs | hs
    · exact .inl ⟨p, xs, _, _, rfl, rfl, B.seqL hs hbp.symm, at', k _ _ (List.getElem_mem hn) B⟩
    · exact .inr (.inl ⟨p, xs, _, _, rfl, rfl, B.seqT hs hbp.symm, at', k _ _ (List.getElem_mem hn) B⟩)
end
end Pa
set_option maxRecDepth 100000
set_option maxHeartbeats 4000000
namespace Pa
open PySem PySem.Spec PyProof.Rows L2
/-! ### a def with keyword-only parameters and **d: what it binds -/
theorem update_last (h : Heap) (f : Obj → Obj) (o : Obj) : (h.push o).update h.objs.size f = h.push (f o) := by
  obtain ⟨objs, life⟩ := h
  simp only [Heap.update, Heap.push, Heap.mk.injEq, and_true]
  apply Array.ext_getElem?
  intro i
  simp only [Array.getElem?_modify, Array.getElem?_push, Array.size_push]
  by_cases hi : i = objs.size
  · subst hi; simp
  · rw [if_neg (fun e => hi e.symm), if_neg hi, if_neg hi]
def fillD (dv : Str → Value) : List Str → List (Str × Value) → List (Str × Value)
  | [], S => S
  | k :: ks, S => fillD dv ks (if (S.lookup k).isNone = true then S ++ [(k, dv k)] else S)
theorem lookup_app {α : Type} (n : Str) : ∀ (S T : List (Str × α)), (S ++ T).lookup n = (S.lookup n).or (T.lookup n)
  | [], T => by simp
  | (k, v) :: S, T => by
    rw [List.cons_append, List.lookup_cons, List.lookup_cons]
    cases n == k with
    | true => rfl
    | false => exact lookup_app n S T
theorem lookup_fill (dv : Str → Value) (n : Str) : ∀ (ks : List Str) (S : List (Str × Value)), (fillD dv ks S).lookup n = (S.lookup n).or (if n ∈ ks then some (dv n) else none)
  | [], S => by simp [fillD]
  | k :: ks, S => by
    unfold fillD
    rw [lookup_fill dv n ks]
    by_cases h : (S.lookup k).isNone = true
    · rw [if_pos h, lookup_app]
      by_cases e : n = k
      · subst e
        have h : S.lookup n = none := by simpa using h
        rw [h, List.lookup_cons, beq_self_eq_true, if_pos List.mem_cons_self]
        rfl
      · have e2 : (n == k) = false := beq_eq_false_iff_ne.mpr e
        rw [List.lookup_cons, e2, List.lookup_nil]
        simp only [List.mem_cons, e, false_or]
        cases S.lookup n <;> rfl
    · rw [if_neg h]
      by_cases e : n = k
      · subst e
        cases q : S.lookup n with
        | none => rw [q] at h; exact absurd rfl h
        | some v => rfl
      · simp only [List.mem_cons, e, false_or]
theorem bind_loop {F : (Str × Value) → (List (Str × Value) × List (Str × Value)) → Sem (ForInStep (List (Str × Value) × List (Str × Value)))} {own : Str → Bool} : ∀ (kw : List (Str × Value)) (st : List (Str × Value) × List (Str × Value)),
    (∀ x ∈ kw, ∀ st, own x.1 = true → st.1.lookup x.1 = none → F x st = pure (.yield (st.1 ++ [(x.1, x.2)], st.2))) →
    (∀ x ∈ kw, ∀ st, own x.1 = false → F x st = pure (.yield (st.1, st.2 ++ [(x.1, x.2)]))) →
    (kw.map (·.1)).Nodup → (∀ x ∈ kw, st.1.lookup x.1 = none) → forIn kw st F = pure (st.1 ++ kw.filter (fun x => own x.1), st.2 ++ kw.filter (fun x => !own x.1))
  | [], st, _, _, _, _ => by simp
  | x :: kw, st, h1, h2, hn, hl => by
    obtain ⟨hn1, hn2⟩ := List.nodup_cons.mp (show (x.1 :: kw.map (·.1)).Nodup from hn)
    rw [List.forIn_cons]
    have hne : ∀ y ∈ kw, (y.1 == x.1) = false := fun y hy => beq_eq_false_iff_ne.mpr fun e => hn1 (by rw [← e]; exact List.mem_map_of_mem hy)
    cases ho : own x.1 with
    | true =>
      rw [h1 x List.mem_cons_self st ho (hl x List.mem_cons_self)]
      show forIn kw (st.1 ++ [(x.1, x.2)], st.2) F = _
      rw [bind_loop kw (st.1 ++ [(x.1, x.2)], st.2) (fun y hy => h1 y (List.mem_cons_of_mem _ hy)) (fun y hy => h2 y (List.mem_cons_of_mem _ hy)) hn2 (fun y hy => ?_)]
      · rw [List.filter_cons, if_pos (by rw [ho]), List.filter_cons, if_neg (by rw [ho]; decide)]
        simp
      · show (st.1 ++ [(x.1, x.2)]).lookup y.1 = none
        rw [lookup_app, hl y (List.mem_cons_of_mem _ hy), List.lookup_cons, hne y hy]
        rfl
    | false =>
      rw [h2 x List.mem_cons_self st ho]
      show forIn kw (st.1, st.2 ++ [(x.1, x.2)]) F = _
      rw [bind_loop kw (st.1, st.2 ++ [(x.1, x.2)]) (fun y hy => h1 y (List.mem_cons_of_mem _ hy)) (fun y hy => h2 y (List.mem_cons_of_mem _ hy)) hn2 (fun y hy => hl y (List.mem_cons_of_mem _ hy))]
      rw [List.filter_cons, if_neg (by rw [ho]; decide), List.filter_cons, if_pos (by rw [ho]; decide)]
      simp
theorem def_loop {M : Model} {A : Around} {E : Value → Shared → Prop} {s : Shared} {F : Str → (List (Str × Value) × List Str) → Sem (ForInStep (List (Str × Value) × List Str))} {dv : Str → Value} : ∀ (ks : List Str) (S : List (Str × Value)) (Q : List (Str × Value) × List Str → Shared → Prop),
    (∀ k ∈ ks, ∀ S (R : ForInStep (List (Str × Value) × List Str) → Shared → Prop), R (.yield (if (S.lookup k).isNone = true then S ++ [(k, dv k)] else S, [])) s → wpAny M A (F k (S, [])) R E s) →
    Q (fillD dv ks S, []) s → wpAny M A (forIn ks (S, []) F) Q E s
  | [], S, Q, _, h => by rw [List.forIn_nil]; exact wpAny_pure h
  | k :: ks, S, Q, hF, h => by
    rw [List.forIn_cons]
    refine wpAny_bind (hF k List.mem_cons_self S _ ?_)
    exact def_loop ks _ Q (fun k' hk' => hF k' (List.mem_cons_of_mem _ hk')) h
section
variable {prog : Program} {w : World} {A : Around} {E : Value → Shared → Prop}
open PySem.W in
theorem ns_fill {Q : PUnit → Shared → Prop} {h0 : Heap} : ∀ (ex : List (Str × Value)) (s : Shared) (es : List DictEntry) (n : Nat), s.heap = h0.push (dictOf es n) →
    (∀ e ∈ es, ∀ x ∈ ex, e.key.isStr x.1 = false) → (∀ e ∈ es, e.refKey = false) → (ex.map (·.1)).Nodup →
    Q ⟨⟩ { s with heap := h0.push (dictOf (es ++ kwEs w.params s.toks ex) (n + ex.length)), toks := s.toks + ex.length } →
    wpAny (model prog w) A (forIn ex PUnit.unit fun x _ => (nsSet h0.objs.size x.1 x.2 >>= fun _ => pure (ForInStep.yield PUnit.unit))) Q E s
  | [], s, es, n, eh, _, _, _, h => by
    rw [List.forIn_nil]
    refine wpAny_pure ?_
    have e : ({ s with heap := h0.push (dictOf (es ++ kwEs w.params s.toks []) (n + ([] : List (Str × Value)).length)), toks := s.toks + ([] : List (Str × Value)).length } : Shared) = s := by
      show ({ s with heap := h0.push (dictOf (es ++ []) n), toks := s.toks } : Shared) = s
      rw [List.append_nil, ← eh]
    rw [e] at h
    exact h
  | x :: r, s, es, n, eh, hs, hr, hn, h => by
    obtain ⟨hn1, hn2⟩ := List.nodup_cons.mp (show (x.1 :: r.map (·.1)).Nodup from hn)
    rw [List.forIn_cons]
    have D : s.heap.get? h0.objs.size = some (dictOf es n) := by rw [eh]; exact Heap.get?_push_size _ rfl
    have e1 : es.any (·.key.isStr x.1) = false := by
      cases q : es.any (·.key.isStr x.1) with
      | false => rfl
      | true => obtain ⟨e, he, z⟩ := List.any_eq_true.mp q; rw [hs e he x List.mem_cons_self] at z; cases z
    have e2 : es.any (·.refKey) = false := by
      cases q : es.any (·.refKey) with
      | false => rfl
      | true => obtain ⟨e, he, z⟩ := List.any_eq_true.mp q; rw [hr e he] at z; cases z
    have e : ∀ t : Tok, Obj.putName x.1 (PyData.keyHash w.params x.1) (.str x.1 t) x.2 (dictOf es n) = dictOf (es ++ [⟨PyData.keyHash w.params x.1, .str x.1 t, x.2⟩]) (n + 1) := fun t => by
      rw [putName_dict, putL_new (fun e he => hs e he x List.mem_cons_self)]
      show dictOf _ (if es.any (·.key.isStr x.1) then n else n + 1) = _
      rw [e1, if_neg Bool.false_ne_true]
    have c : aRefKeyMayBeTheName x.1 es.toArray = false := by
      rw [aRefKeyMayBeTheName_at, ← Array.any_toList, ← Array.any_toList]
      show (!es.any (·.key.isStr x.1) && es.any (·.refKey)) = false
      rw [e2, Bool.and_false]
    refine wpAny_bind (wpAny_bind ?_)
    unfold nsSet
    refine wpAny_bind (wpAny_bind (wpAny_askSetting (wpAny_pure (wpAny_bind (wpAny_mkText (wpAny_bind (wpAny_loadPart D ?_)))))))
    dsimp only
    rw [c]
    refine wpAny_updatePart D ?_
    refine wpAny_pure ?_
    have eh2 : s.heap.update h0.objs.size (Obj.putName x.1 (PyData.keyHash w.params x.1) (.str x.1 s.toks) x.2) = h0.push (dictOf (es ++ [⟨PyData.keyHash w.params x.1, .str x.1 s.toks, x.2⟩]) (n + 1)) := by
      rw [eh, update_last, e]
    show wpAny (model prog w) A (forIn r PUnit.unit fun x _ => (nsSet h0.objs.size x.1 x.2 >>= fun _ => pure (ForInStep.yield PUnit.unit))) Q E { s with heap := s.heap.update h0.objs.size (Obj.putName x.1 (PyData.keyHash w.params x.1) (.str x.1 s.toks) x.2), toks := s.toks + 1 }
    rw [eh2]
    refine ns_fill r { s with heap := h0.push (dictOf (es ++ [⟨PyData.keyHash w.params x.1, .str x.1 s.toks, x.2⟩]) (n + 1)), toks := s.toks + 1 } _ _ rfl (fun e he y hy => ?_) (fun e he => ?_) hn2 ?_
    · rcases List.mem_append.mp he with he | he
      · exact hs e he y (List.mem_cons_of_mem _ hy)
      · obtain rfl := List.mem_singleton.mp he
        show (x.1 == y.1) = false
        exact beq_eq_false_iff_ne.mpr fun q => hn1 (by rw [q]; exact List.mem_map_of_mem hy)
    · rcases List.mem_append.mp he with he | he
      · exact hr e he
      · obtain rfl := List.mem_singleton.mp he
        rfl
    · have t1 : s.toks + 1 + r.length = s.toks + (r.length + 1) := by omega
      have t2 : n + 1 + r.length = n + (r.length + 1) := by omega
      show Q ⟨⟩ { s with heap := h0.push (dictOf ((es ++ [⟨PyData.keyHash w.params x.1, .str x.1 s.toks, x.2⟩]) ++ kwEs w.params (s.toks + 1) r) (n + 1 + r.length)), toks := s.toks + 1 + r.length }
      rw [t1, t2, List.append_assoc]
      exact h
end
end Pa
set_option maxRecDepth 100000
set_option maxHeartbeats 4000000
namespace Pa
open PySem PySem.Spec PyProof.Rows L2
theorem lookup_own {own : Str → Bool} {k : Str} (ho : own k = true) : ∀ kw : List (Str × Value), (kw.filter fun x => own x.1).lookup k = kw.lookup k
  | [] => rfl
  | x :: kw => by
    rw [List.filter_cons]
    by_cases h : own x.1 = true
    · rw [if_pos h, List.lookup_cons, List.lookup_cons, lookup_own ho kw]
    · rw [if_neg h, lookup_own ho kw, List.lookup_cons]
      have : (k == x.1) = false := beq_eq_false_iff_ne.mpr fun e => h (by rw [← e]; exact ho)
      rw [this]
section
variable {prog : Program} {w : World} {A : Around} {E : Value → Shared → Prop} {K : PySem.W.Frag} {s : Shared}
theorem bnd_kw {Q : List (Str × Value) → Shared → Prop} {P : Arguments} {p1 p2 sa : Arg} {kas : List Arg} {kd : List (Option Expr)} {nm qn : Str} {body : List Stmt} {sc : Scope} {doc pm cdv ct : Value} {an : Option Addr} {a b : Value} {kw : List (Str × Value)} {D0 : Addr} {dv : Str → Value}
    (hP : P = { posonlyargs := [], args := [p1, p2], vararg := none, kwonlyargs := kas, kw_defaults := kd, kwarg := some sa, defaults := [] })
    (KX : K.In s.heap) (h12 : p1.arg ≠ p2.arg) (hk1 : ∀ k ∈ kas.map (·.arg), k ≠ p1.arg ∧ k ≠ p2.arg) (hk2 : ∀ x ∈ kw, x.1 ≠ p1.arg ∧ x.1 ≠ p2.arg) (hnd : (kw.map (·.1)).Nodup)
    (hd : ∀ k ∈ kas.map (·.arg), PySem.W.nsIn K D0 k = some (some (dv k))) (hlen : kw.length ≤ sizeLine)
    (h : ∀ t', Q ([(p1.arg, a), (p2.arg, b)] ++ (kas.map (·.arg)).map (fun k => (k, (kw.lookup k).getD (dv k))) ++ [(sa.arg, .ref s.heap.objs.size)])
      { s with heap := s.heap.push (PySem.W.dictOf (PySem.W.kwEs w.params s.toks (kw.filter fun x => !(kas.map (·.arg)).contains x.1)) (kw.filter fun x => !(kas.map (·.arg)).contains x.1).length), toks := t' }) :
    wpAny (model prog w) A (bindArgs (PySem.W.fnOf nm qn P body sc .none (.ref D0) doc pm an cdv ct) ⟨[a, b], kw⟩) Q E s := by
  subst hP
  have b21 : (p2.arg == p1.arg) = false := beq_eq_false_iff_ne.mpr (Ne.symm h12)
  unfold bindArgs PySem.W.fnOf
  dsimp only
  refine wpAny_bind (wpAny_of_eq (bind_loop (own := fun k => (kas.map (·.arg)).contains k) kw _ (fun x hx st ho hl => ?_) (fun x hx st ho => ?_) hnd (fun x hx => ?_)) ?_)
  · rw [if_pos (by rw [ho, Bool.or_true]), if_neg (by rw [hl]; decide)]
  · have e : ((List.map (fun x => x.arg) [p1, p2]).contains x.1) = false := by
      obtain ⟨n1, n2⟩ := hk2 x hx
      simp [n1, n2]
    rw [if_neg (by rw [e, ho]; decide), if_pos (show (some sa).isSome = true from rfl)]
  · obtain ⟨n1, n2⟩ := hk2 x hx
    show List.lookup x.1 [(p1.arg, a), (p2.arg, b)] = none
    rw [List.lookup_cons, beq_eq_false_iff_ne.mpr n1, List.lookup_cons, beq_eq_false_iff_ne.mpr n2, List.lookup_nil]
  dsimp only
  have hS : ∀ n, (([(p1.arg, a), (p2.arg, b)] ++ kw.filter fun x => (kas.map (·.arg)).contains x.1) : List (Str × Value)).lookup n = (([(p1.arg, a), (p2.arg, b)] : List (Str × Value)).lookup n).or ((kw.filter fun x => (kas.map (·.arg)).contains x.1).lookup n) := fun n => lookup_app n _ _
  have h1 : ([(p1.arg, a), (p2.arg, b)] : List (Str × Value)).lookup p1.arg = some a := by rw [List.lookup_cons, beq_self_eq_true]
  have h2 : ([(p1.arg, a), (p2.arg, b)] : List (Str × Value)).lookup p2.arg = some b := by rw [List.lookup_cons, b21, List.lookup_cons, beq_self_eq_true]
  refine wpAny_bind (wpAny_of_eq (a := none) rfl ?_)
  have g1 : ((([(p1.arg, a), (p2.arg, b)] ++ kw.filter fun x => (kas.map (·.arg)).contains x.1) : List (Str × Value)).lookup p1.arg) = some a := by rw [hS, h1]; rfl
  have g2 : ((([(p1.arg, a), (p2.arg, b)] ++ kw.filter fun x => (kas.map (·.arg)).contains x.1) : List (Str × Value)).lookup p2.arg) = some b := by rw [hS, h2]; rfl
  rw [if_neg (by simp), if_neg ?c1]
  case c1 =>
    show ¬ (!(List.filter (fun n => (List.lookup n ([(p1.arg, a), (p2.arg, b)] ++ kw.filter fun x => (kas.map (·.arg)).contains x.1)).isNone) [p1.arg, p2.arg]).isEmpty) = true
    rw [List.filter_cons, g1, List.filter_cons, g2]
    simp
  refine wpAny_bind (wpAny_of_eq (a := [(p1.arg, a), (p2.arg, b)] ++ kw.filter fun x => (kas.map (·.arg)).contains x.1) rfl ?_)
  refine wpAny_bind (def_loop (dv := dv) (kas.map (·.arg)) _ _ (fun k hk S R hR => ?_) ?_)
  · dsimp only
    by_cases hS0 : (List.lookup k S).isNone = true
    · rw [if_pos hS0] at hR ⊢
      refine wpAny_bind ((PySem.W.looks_nsIn KX (hd k hk)).here ?_)
      exact wpAny_pure hR
    · rw [if_neg hS0] at hR ⊢
      exact wpAny_pure hR
  dsimp only
  have hfl : (kw.filter fun x => !(kas.map (·.arg)).contains x.1).length ≤ sizeLine := Nat.le_trans (List.length_filter_le _ _) hlen
  rw [if_neg (by simp), if_neg (by
    simp only [List.nil_append]
    omega)]
  refine wpAny_bind (wpAny_alloc ?_)
  refine wpAny_bind (ns_fill (h0 := s.heap) _ { s with heap := s.heap.push { cls := .type "dict", data := .dict #[] } } [] 0 rfl (fun e he => by cases he) (fun e he => by cases he) ?_ ?_)
  · simp only [List.nil_append]
    exact (List.Sublist.map _ (List.filter_sublist)).nodup hnd
  refine wpAny_pure ?_
  have key : ∀ ks : List Str, (∀ k ∈ ks, k ∈ kas.map (·.arg)) → List.filterMap (fun n => Option.map (fun x => (n, x)) (List.lookup n (fillD dv (kas.map (·.arg)) ([(p1.arg, a), (p2.arg, b)] ++ kw.filter fun x => (kas.map (·.arg)).contains x.1)))) ks = ks.map (fun k => (k, (kw.lookup k).getD (dv k))) := by
    intro ks
    induction ks with
    | nil => intro _; rfl
    | cons k ks ih =>
      intro hm
      have hk := hm k List.mem_cons_self
      obtain ⟨n1, n2⟩ := hk1 k hk
      have l0 : ([(p1.arg, a), (p2.arg, b)] : List (Str × Value)).lookup k = none := by rw [List.lookup_cons, beq_eq_false_iff_ne.mpr n1, List.lookup_cons, beq_eq_false_iff_ne.mpr n2, List.lookup_nil]
      have l1 := lookup_own (own := fun x => (kas.map (·.arg)).contains x) (k := k) (by simpa using hk) kw
      have e1 : List.lookup k (fillD dv (kas.map (·.arg)) ([(p1.arg, a), (p2.arg, b)] ++ kw.filter fun x => (kas.map (·.arg)).contains x.1)) = some ((kw.lookup k).getD (dv k)) := by
        rw [lookup_fill, hS, l0, l1, if_pos hk]
        cases kw.lookup k <;> rfl
      rw [List.filterMap_cons, e1, ih (fun k' hk' => hm k' (List.mem_cons_of_mem _ hk'))]
      rfl
  have f1 : List.lookup p1.arg (fillD dv (kas.map (·.arg)) ([(p1.arg, a), (p2.arg, b)] ++ kw.filter fun x => (kas.map (·.arg)).contains x.1)) = some a := by rw [lookup_fill, g1]; rfl
  have f2 : List.lookup p2.arg (fillD dv (kas.map (·.arg)) ([(p1.arg, a), (p2.arg, b)] ++ kw.filter fun x => (kas.map (·.arg)).contains x.1)) = some b := by rw [lookup_fill, g2]; rfl
  have eF : List.filterMap (fun n => Option.map (fun x => (n, x)) (List.lookup n (fillD dv (kas.map (·.arg)) ([(p1.arg, a), (p2.arg, b)] ++ kw.filter fun x => (kas.map (·.arg)).contains x.1)))) (List.map (fun x : Arg => x.arg) [] ++ List.map (fun x : Arg => x.arg) [p1, p2] ++ kas.map (·.arg)) = [(p1.arg, a), (p2.arg, b)] ++ (kas.map (·.arg)).map (fun k => (k, (kw.lookup k).getD (dv k))) := by
    rw [List.filterMap_append, key _ fun k hk => hk]
    show List.filterMap _ [p1.arg, p2.arg] ++ _ = _
    rw [List.filterMap_cons, f1, List.filterMap_cons, f2]
    rfl
  rw [eF]
  simp only [List.nil_append, Nat.zero_add]
  exact h _
end
end Pa
set_option maxRecDepth 100000
set_option maxHeartbeats 4000000
namespace Pa
open PySem PySem.Spec PyProof.Rows L2 StX
/-- a def called with positional values and keywords -/
def FnKw (P : Program) (w : World) (K : PySem.W.Frag) (mg : Str → Option Value) (base : Heap) (CX : CXT) (k : Nat) (f : Addr) (sp : List V → List (Str × V) → Hp → VK → XK → Prop) : Prop :=
  ∀ (A : Around) (outer : List Env) (s : Shared) (H : Hp) (us : List Value) (kw : List (Str × Value)) (vs : List V) (zs : List (Str × V)) (Q : VK) (E : XK), Room k A → Env0 P w K mg base A outer s H → Vals vs us → KV zs kw → sp vs zs H Q E →
    codeAny (model P w) A (.call (.ref f) ⟨us, kw⟩) (CR CX outer P w H s Q E) s
theorem kv_keys {zs : List (Str × V)} {kw : List (Str × Value)} (h : KV zs kw) : zs.map (·.1) = kw.map (·.1) := by
  induction h with
  | nil => rfl
  | cons r _ ih => rw [List.map_cons, List.map_cons, ih, r.1]
theorem kv_len {zs : List (Str × V)} {kw : List (Str × Value)} (h : KV zs kw) : zs.length = kw.length := by
  have := congrArg List.length (kv_keys h)
  rwa [List.length_map, List.length_map] at this
theorem kv_filter {zs : List (Str × V)} {kw : List (Str × Value)} (p : Str → Bool) (h : KV zs kw) : KV (zs.filter fun x => p x.1) (kw.filter fun x => p x.1) := by
  induction h with
  | nil => exact .nil
  | @cons a b _ _ r _ ih =>
    rw [List.filter_cons, List.filter_cons, r.1]
    by_cases q : p b.1 = true
    · rw [if_pos q, if_pos q]; exact .cons r ih
    · rw [if_neg q, if_neg q]; exact ih
theorem kv_inr {zs : List (Str × V)} {kw : List (Str × Value)} (h : KV zs kw) : KV (zs.map fun x => ((Sum.inr x.1 : Key), x.2)) (kw.map fun x => ((Sum.inr x.1 : Key), x.2)) := by
  induction h with
  | nil => exact .nil
  | cons r _ ih => exact .cons ⟨congrArg Sum.inr r.1, r.2⟩ ih
theorem kv_look {zs : List (Str × V)} {kw : List (Str × Value)} {dV : V} {dv : Value} (k : Str) (h : KV zs kw) (hd : RelV dV dv) : RelV ((zs.lookup k).getD dV) ((kw.lookup k).getD dv) := by
  induction h with
  | nil => exact hd
  | @cons a b _ _ r _ ih =>
    rw [List.lookup_cons, List.lookup_cons, r.1]
    cases k == b.1 with
    | true => exact r.2
    | false => exact ih
section
variable {prog : Program} {w : World}
open PySem.W in
theorem kwEs_mix : ∀ (ex : List (Str × Value)) (t : Tok), Pairs (mixKind prog w) (kwEs w.params t ex) (ex.map fun x => ((Sum.inr x.1 : Key), x.2))
  | [], _ => Pairs.nil
  | x :: r, t => Pairs.cons (by simp [mixKind, keyIs, Value.isStrOf]) rfl (kwEs_mix r (t + 1))
open PySem.W in
theorem kw_dict {h : Heap} {ex : List (Str × Value)} (t : Tok) (n : Nat) (hn : (ex.map (·.1)).Nodup) : (h.push (dictOf (kwEs w.params t ex) n)).DictOf (mixKind prog w) h.objs.size (ex.map fun x => ((Sum.inr x.1 : Key), x.2)) :=
  ⟨_, (kwEs w.params t ex).toArray, n, Heap.get?_push_size _ rfl, ⟨rfl, rfl, rfl⟩, rfl, fun e he => by
    obtain ⟨k, u, hk, hh⟩ := kwEs_key ex t e (List.mem_toArray.mp he)
    exact ⟨Sum.inr k, by rw [hk]; simp [mixKind, keyIs, Value.isStrOf], hh.trans rfl⟩, kwEs_mix ex t, by
    rw [List.map_map]
    have e : ((fun x : Key × Value => x.1) ∘ fun x : Str × Value => ((Sum.inr x.1 : Key), x.2)) = (fun k : Str => (Sum.inr k : Key)) ∘ (fun x : Str × Value => x.1) := rfl
    rw [e, ← List.map_map]
    exact List.Pairwise.map _ (fun a b q => by simpa using q) hn⟩
end
section
variable {CX : CXT} {P : Program} {w : World} {K : PySem.W.Frag} {mg : Str → Option Value} {base : Heap} {k : Nat} {f : Addr} {name qual : Str} {params : Arguments} {body : List Stmt} {scope : Scope} {doc pm cdv ct oc : Value} {an od : Option Addr}
  {osl : Array (Option Value)} {N : List Str} {sp : Sp} {p1 p2 sa : Arg} {kas : List Arg} {kd : List (Option Expr)} {D0 : Addr} {dv : Str → Value} {dV : Str → V}
theorem vals_map {α : Type} {f : α → V} {g : α → Value} : ∀ (l : List α), (∀ x ∈ l, RelV (f x) (g x)) → Vals (l.map f) (l.map g)
  | [], _ => .nil
  | x :: l, h => .cons (h x List.mem_cons_self) (vals_map l fun y hy => h y (List.mem_cons_of_mem _ hy))
theorem fn_kw (lk : K.lookup f = some ⟨oc, od, .func (PySem.W.fnOf name qual params body scope .none (.ref D0) doc pm an cdv ct), osl⟩) (hcd : PySem.W.codeIn K cdv qual = true)
    (hP : params = { posonlyargs := [], args := [p1, p2], vararg := none, kwonlyargs := kas, kw_defaults := kd, kwarg := some sa, defaults := [] })
    (h12 : p1.arg ≠ p2.arg) (hk1 : ∀ k ∈ kas.map (·.arg), k ≠ p1.arg ∧ k ≠ p2.arg) (hd : ∀ k ∈ kas.map (·.arg), PySem.W.nsIn K D0 k = some (some (dv k)) ∧ RelV (dV k) (dv k))
    (S : FnScope N (p1.arg :: p2.arg :: (kas.map (·.arg) ++ [sa.arg])) scope) (hCX : CXUp CX)
    (hbody : ∀ (A : Around) (outer : List Env) (s : Shared) (H : Hp) (vs : List V) (Q : VK) (E : XK), Room k (A.deeper (envOfC qual scope s.heap.objs.size f cdv)) → sp vs H Q E →
      ∃ t, PSs (cxOf CX P w K mg base N qual scope f cdv A outer s H E) body t ∧ t { nx := fun _ H' => Q .non H', rt := Q } (start N vs) H) :
    FnKw P w K mg base CX (k + 1) f (fun vs zs H Q E => ∃ a b, vs = [a, b] ∧ (zs.map (·.1)).Nodup ∧ (∀ x ∈ zs, x.1 ≠ p1.arg ∧ x.1 ≠ p2.arg) ∧ zs.length ≤ sizeLine ∧
      ∀ d, H d = none → sp (a :: b :: ((kas.map (·.arg)).map (fun k => (zs.lookup k).getD (dV k)) ++ [V.ref d])) (upd H d (.dK ((zs.filter fun x => !(kas.map (·.arg)).contains x.1).map fun x => ((Sum.inr x.1 : Key), x.2)))) Q E) := by
  intro A outer s H us kw vs zs Q E hr e0 r rk hsp
  obtain ⟨a, b, rfl, hnd, hne, hlen, hq⟩ := hsp
  obtain ⟨ua, ub, rfl, ra, rb⟩ : ∃ ua ub, us = [ua, ub] ∧ RelV a ua ∧ RelV b ub := by
    cases r with
    | cons p q =>
      cases q with
      | cons p' q' =>
        cases q'
        exact ⟨_, _, rfl, p, p'⟩
  have KX : K.In s.heap := e0.mod.kin.keeps fun b o e => (e0.bs b o e).1
  have hn : H s.heap.objs.size = none := e0.hok.fresh (Nat.le_refl _)
  have ek := kv_keys rk
  have hl := kv_len rk
  refine run_bnd lk hcd S hr e0 (G := fun xs H2 => ∃ d, H d = none ∧ xs = a :: b :: ((kas.map (·.arg)).map (fun k => (zs.lookup k).getD (dV k)) ++ [V.ref d]) ∧ H2 = upd H d (.dK ((zs.filter fun x => !(kas.map (·.arg)).contains x.1).map fun x => ((Sum.inr x.1 : Key), x.2)))) (fun A' Ex Q' h => ?_) fun s2 H2 xs ⟨d, hp, ex, eH⟩ hr' => ?_
  · refine bnd_kw (dv := dv) hP KX h12 hk1 (fun x hx => ?_) (by rw [← ek]; exact hnd) (fun k hk => (hd k hk).1) (by omega) fun t' => ?_
    · have hm : x.1 ∈ zs.map (·.1) := by rw [ek]; exact List.mem_map_of_mem hx
      obtain ⟨y, hy, e⟩ := List.mem_map.mp hm
      rw [← e]
      exact hne y hy
    · have rf := kv_filter (fun y => !(kas.map (·.arg)).contains y) rk
      have hnf : ((kw.filter fun x => !(kas.map (·.arg)).contains x.1).map (·.1)).Nodup := (List.Sublist.map _ (List.filter_sublist)).nodup (by rw [← ek]; exact hnd)
      have new : ObjOk P w (upd H s.heap.objs.size (.dK ((zs.filter fun x => !(kas.map (·.arg)).contains x.1).map fun x => ((Sum.inr x.1 : Key), x.2)))) (s.heap.push (PySem.W.dictOf (PySem.W.kwEs w.params s.toks (kw.filter fun x => !(kas.map (·.arg)).contains x.1)) (kw.filter fun x => !(kas.map (·.arg)).contains x.1).length)) s.heap.objs.size
          (.dK ((zs.filter fun x => !(kas.map (·.arg)).contains x.1).map fun x => ((Sum.inr x.1 : Key), x.2))) :=
        ⟨by rw [List.length_map]; exact Nat.le_trans (List.length_filter_le _ _) hlen, beq_eq_false_iff_ne.mpr (Ne.symm (Nat.ne_of_lt (env0_big e0))), _, kv_inr rf, kw_dict _ _ hnf⟩
      have e1 := env0_laid e0 new
      have un := un_laid (fs := frs outer) (s := s) (o := PySem.W.dictOf (PySem.W.kwEs w.params s.toks (kw.filter fun x => !(kas.map (·.arg)).contains x.1)) (kw.filter fun x => !(kas.map (·.arg)).contains x.1).length) (u := .dK ((zs.filter fun x => !(kas.map (·.arg)).contains x.1).map fun x => ((Sum.inr x.1 : Key), x.2))) hn
      have z := h { s with heap := s.heap.push (PySem.W.dictOf (PySem.W.kwEs w.params s.toks (kw.filter fun x => !(kas.map (·.arg)).contains x.1)) (kw.filter fun x => !(kas.map (·.arg)).contains x.1).length), toks := t' } _ (a :: b :: ((kas.map (·.arg)).map (fun k => (zs.lookup k).getD (dV k)) ++ [V.ref s.heap.objs.size]))
        (ua :: ub :: ((kas.map (·.arg)).map (fun k => (kw.lookup k).getD (dv k)) ++ [Value.ref s.heap.objs.size])) ⟨e1.frames, e1.mod, e1.bs, e1.bsz, e1.funs, e1.frf, e1.hok, e1.bare⟩ un rfl
        (fun e s' => hCX outer s H _ _ E e s' un (fun b o q => Heap.get?_push_of_some _ q) rfl) (.cons ra (.cons rb (Vals.append (vals_map _ fun k hk => kv_look k rk (hd k hk).2) (.cons rfl .nil)))) (by simp [List.length_map]) ⟨_, hn, rfl, rfl⟩
      have ez : (p1.arg :: p2.arg :: (kas.map (·.arg) ++ [sa.arg])).zip (ua :: ub :: ((kas.map (·.arg)).map (fun k => (kw.lookup k).getD (dv k)) ++ [Value.ref s.heap.objs.size])) = [(p1.arg, ua), (p2.arg, ub)] ++ (kas.map (·.arg)).map (fun k => (k, (kw.lookup k).getD (dv k))) ++ [(sa.arg, Value.ref s.heap.objs.size)] := by
        rw [List.zip_cons_cons, List.zip_cons_cons, List.zip_append (by simp)]
        have : ∀ l : List Str, l.zip (l.map (fun k => (kw.lookup k).getD (dv k))) = l.map (fun k => (k, (kw.lookup k).getD (dv k))) := fun l => by
          induction l with
          | nil => rfl
          | cons x l ih => rw [List.map_cons, List.zip_cons_cons, ih, List.map_cons]
        rw [this]
        rfl
      rw [ez] at z
      exact z
  · subst ex eH
    exact hbody A outer s2 _ _ Q E hr' (hq d hp)
end
end Pa
set_option maxRecDepth 100000
set_option maxHeartbeats 4000000
/-! own == and != with any answer -/
namespace PkNe
open PySem PySem.Spec PyProof.Rows PySem.SeqAt
section
variable {M : Model} {prog : Program} {w : World} {A : Around} {E : Value → Shared → Prop} {s : Shared} {K : PySem.W.Frag} {x C f : Addr} {ox : Obj} {od : Option Obj} {y : Value}
theorem entry_ne {Q : Fin → Shared → Prop} (hu : A.units < cLine) (X : K.In s.heap) (I : PySem.W.InstAt s.heap x ox C od) (hs : PySem.W.findIn K (.ref C) "__eq__" = some (some (.ref f))) (hf : PySem.W.isFn K (.ref f) = true)
    (hcall : wpAny (model prog w) A (call (.ref f) [.ref x, y]) (fun v s' => ∃ b, v = .bool b ∧ Q (.done (.ret (.bool (!b)))) s') E s) :
    wpAny (model prog w) A (Builtin.«object.__ne__» ⟨[.ref x, y], []⟩) Q E s := by
  unfold Builtin.«object.__ne__»
  repeat (first
    | with_reducible refine wpAny_cRoomFor hu ?_
    | (refine wpAny_bind (m := callSpecialIfBound? (.ref x) (Str.ofString "__eq__") [y])
        (PySem.W.ifBound_K X I hs hf (wpAny_mono hcall (fun r s' hr => by
          obtain ⟨b, rfl, hq⟩ := hr
          repeat (first | exact hq | exact wpAny_pure hq | exact wpAny_truthy_bool hq | (refine wpAny_bind (m := truthy (.bool _)) (wpAny_truthy_bool ?_)) | wp_step)) fun _ _ e => e)))
    | wp_step)
theorem ifBound_objNe {args : List Value} {Q : Option Value → Shared → Prop} (X : K.In s.heap) (I : PySem.W.InstAt s.heap x ox C od) (hs : PySem.W.findIn K (.ref C) "__ne__" = some (some (.builtin "object.__ne__")))
    (h : wpAny M A (call (.builtin "object.__ne__") (.ref x :: args)) (fun v => Q (some v)) E s) : wpAny M A (callSpecialIfBound? (.ref x) "__ne__" args) Q E s := by
  simp only [callSpecialIfBound?, bindSpecialIfBound?]
  refine wpAny_holding (wpAny_bind (wpAny_bind (wpAny_bind (I.type.here ((PySem.W.looks_findIn X hs).here ?_)))))
  refine wpAny_bind (wpAny_askSetting (wpAny_ite ?_))
  have fin : wpAny M A (call (.builtin "object.__ne__") ([.ref x] ++ args) >>= fun v => pure (some v)) Q E s := wpAny_bind (wpAny_mono h (fun v s' h' => wpAny_pure h') fun _ _ h' => h')
  split
  · exact wpAny_bind (wpAny_of_eq (F.cmp_object.ne.bind _) (wpAny_pure (by exact fin)))
  · exact wpAny_tryCatch (wpAny_bind (wpAny_of_eq (F.cmp_object.ne.bind _) (wpAny_pure (by exact fin))))
theorem call_objNe {Q : Value → Shared → Prop} (hu : A.units + 1 < cLine) (X : K.In s.heap) (I : PySem.W.InstAt s.heap x ox C od) (hm : PySem.W.mroIn K C (.type "object") = some true) (hs : PySem.W.findIn K (.ref C) "__eq__" = some (some (.ref f))) (hf : PySem.W.isFn K (.ref f) = true)
    (hcall : wpAny (model prog w) A.in1 (call (.ref f) [.ref x, y]) (fun v s' => ∃ b, v = .bool b ∧ Q (.bool (!b)) s') E s) :
    wpAny (model prog w) A (call (.builtin "object.__ne__") [.ref x, y]) Q E s :=
  wpAny_call (codeAny_call_builtin F.cmp_object.ne.plain F.cmpEntry_ne (PySem.W.check_slot F.cmpKind_ne F.cmpSplit_ne (I.type.andThen (PySem.W.looks_mroIn X hm)) (F.cmpArgs_ne _ _)
    (entry_ne (A := A.in1) hu X I hs hf (wpAny_mono hcall (fun v s' hv => by
      obtain ⟨b, rfl, hq⟩ := hv
      first | exact ⟨b, rfl, wpAny_pure hq⟩ | exact ⟨b, rfl, hq⟩) fun _ _ e => e))))
/-- x != y by the own == of x's class -/
theorem rc_ne {tb : Value} {Q : Value → Shared → Prop} (hu : A.units + 1 < cLine) (X : K.In s.heap) (I : PySem.W.InstAt s.heap x ox C od) (hb : PySem.W.Looks (model prog w) s.heap (typeOf y) tb) (hn : PySem.W.notFirst K C tb = true) (hm : PySem.W.mroIn K C (.type "object") = some true)
    (h2 : PySem.W.findIn K (.ref C) "__ne__" = some (some (.builtin "object.__ne__"))) (hs : PySem.W.findIn K (.ref C) "__eq__" = some (some (.ref f))) (hf : PySem.W.isFn K (.ref f) = true)
    (hcall : wpAny (model prog w) A.in1 (call (.ref f) [.ref x, y]) (fun v s' => ∃ b, v = .bool b ∧ Q (.bool (!b)) s') E s) : wpAny (model prog w) A (richCompare .NotEq (.ref x) y) Q E s := by
  have one : wpAny (model prog w) A (tryCompare (.ref x) (cmpInfo .NotEq).2.1 y) (fun r s' => ∃ v, r = some v ∧ Q v s') E s := by
    unfold tryCompare
    refine wpAny_bind (ifBound_objNe X I h2 (call_objNe hu X I hm hs hf (wpAny_mono hcall (fun v s' hv => ?_) fun _ _ e => e)))
    obtain ⟨b, rfl, hq⟩ := hv
    exact ⟨b, rfl, wpAny_pure ⟨_, rfl, hq⟩⟩
  unfold richCompare
  simp only [oneThing_ref]
  refine wpAny_holding (wpAny_bind (wpAny_cRoomFor (Nat.lt_of_succ_lt hu) ?_))
  refine wpAny_bind (I.type.here (wpAny_bind (hb.here ?_)))
  have tail : wpAny (model prog w) A (tryCompare (.ref x) (cmpInfo .NotEq).2.1 y) (fun r s' => ∃ v, r = some v ∧ Q v s') E s := one
  split
  · rename_i q
    have e : PySem.W.subIn K tb (.ref C) = some false := by
      rcases Bool.or_eq_true_iff.mp hn with e | e
      · rw [beq_iff_eq.mp e] at q; simp at q
      · exact beq_iff_eq.mp e
    refine wpAny_bind ((PySem.W.looks_subIn X e).here ?_)
    simp only [Bool.false_eq_true, if_false]
    refine wpAny_bind (wpAny_mono tail (fun r s1 z => ?_) fun _ _ e => e)
    obtain ⟨v, rfl, hq⟩ := z
    first | exact wpAny_pure hq | exact wpAny_pure (wpAny_pure hq)
  · refine wpAny_bind (wpAny_pure ?_)
    simp only [Bool.false_eq_true, if_false]
    refine wpAny_bind (wpAny_mono tail (fun r s1 z => ?_) fun _ _ e => e)
    obtain ⟨v, rfl, hq⟩ := z
    first | exact wpAny_pure hq | exact wpAny_pure (wpAny_pure hq)
end
end PkNe
set_option maxRecDepth 100000
set_option maxHeartbeats 4000000
namespace Pa
open PySem PySem.Spec PyProof.Rows L2 StX
/-- the own == of the class at C, by its def f -/
structure EqO (K : PySem.W.Frag) (C f : Addr) : Prop where
  eq : PySem.W.findIn K (.ref C) "__eq__" = some (some (.ref f))
  ne : PySem.W.findIn K (.ref C) "__ne__" = some (some (.builtin "object.__ne__"))
  fn : PySem.W.isFn K (.ref f) = true
  mro : PySem.W.mroIn K C (.type "object") = some true
/-- own ==, any answer, any right side -/
def rEqO (K : PySem.W.Frag) (C : Addr) (sp : Sp) (E : XK) (z : Bool) : R2 := fun x y H Q => ∃ a dx fs tb, x = .ref a ∧ H a = some (.ins C dx fs) ∧ TyX K H y tb ∧ PySem.W.notFirst K C tb = true ∧ sp [.ref a, y] H (fun v H' => ∃ b, v = .bl b ∧ Q (.bl (z != b)) H') E
section
variable {X : Cx} {CX : CXT} {n : Nat} {C f : Addr} {fd : FuncData} {ps : List Str} {sp : Sp} {E : XK}
theorem run_own {pins : List (Addr × Obj)} {σ : L2.St} {H : Hp} {s : Shared} {a : Addr} {y : V} {u : Value} {A : Around} {R : Value → Shared → Prop} {Q : VK} (F : FnOk X.prog X.w X.K X.mg X.base CX n f fd ps sp) (hb : Binds X.K fd ps []) (hx : Passes CX X E) (hA : A.frames = X.A.frames) (hr : Room n A) (I : Inv X pins σ H s) (ry : RelV y u)
    (hsp : sp [.ref a, y] H Q E) (hR : ∀ v H' w s', Inv X pins σ H' s' → RelV v w → Q v H' → R w s') : wpAny (model X.prog X.w) A (call (.ref f) [.ref a, u]) R X.xe s := by
  have e0 : Env0 X.prog X.w X.K X.mg X.base A X.stack s H := by
    have e := I.env0
    exact ⟨by rw [hA]; exact e.frames, e.mod, e.bs, e.bsz, e.funs, e.frf, e.hok, e.bare⟩
  have hl := F.len _ _ _ _ hsp
  have r2 : Vals [V.ref a, y] [Value.ref a, u] := .cons rfl (.cons ry .nil)
  refine wpAny_call (codeAny_mono (F.run A X.stack s H ⟨[.ref a, u], []⟩ [.ref a, u] [.ref a, y] _ E hr e0 (by
    have := hb s [.ref a, u] I.kIn (by simpa using hl)
    simpa using this) r2 hsp) fun r s' hq => ?_)
  cases r with
  | error e => exact hx pins σ H s e s' I hq
  | ok fl =>
    cases fl with
    | ret w =>
      obtain ⟨z, H', I', rz, q⟩ := I.after hq
      exact hR z H' w s' I' rz q
    | next => exact False.elim hq
    | brk => exact False.elim hq
    | cont => exact False.elim hq
theorem op_eqO (F : FnOk X.prog X.w X.K X.mg X.base CX n f fd ps sp) (hb : Binds X.K fd ps []) (hx : Passes CX X E) (hr : Room n X.A) (e : EqO X.K C f) : OpR X (compareOp .Eq) (rEqO X.K C sp E false) := by
  intro pins s σ H x y v u Q I rx ry h
  obtain ⟨a, dx, fs, tb, rfl, ha, ty, hn, hsp⟩ := h
  obtain rfl : v = Value.ref a := rx
  obtain ⟨mA, J, _⟩ := ins_get I.hok ha
  obtain ⟨od, J, _⟩ := J.look
  obtain ⟨P, Z, p, _⟩ := kit_of I ry ty
  obtain ⟨m, hF⟩ := I.fr
  show wpAny (model X.prog X.w) X.A (richCompare .Eq (.ref a) u) (EP X pins σ Q) X.xe s
  refine PySem.W.cmp_K (op := .Eq) (tb := tb) hr.units0 hF I.ok.mod.kin J (Z.ty _ _ I.kIn p) hn e.eq e.fn ?_
  refine run_own F hb hx rfl hr I ry hsp fun z H' w s' I' rz q => ?_
  obtain ⟨b, rfl, q⟩ := q
  obtain rfl : w = Value.bool b := rz
  have q2 : Q (.bl b) H' := by
    cases b <;> exact q
  exact ⟨.bl b, H', I', rfl, q2⟩
theorem op_neO (F : FnOk X.prog X.w X.K X.mg X.base CX n f fd ps sp) (hb : Binds X.K fd ps []) (hx : Passes CX X E) (hr : Room (n + 1) X.A) (e : EqO X.K C f) : OpR X (compareOp .NotEq) (rEqO X.K C sp E true) := by
  intro pins s σ H x y v u Q I rx ry h
  obtain ⟨a, dx, fs, tb, rfl, ha, ty, hn, hsp⟩ := h
  obtain rfl : v = Value.ref a := rx
  obtain ⟨mA, J, _⟩ := ins_get I.hok ha
  obtain ⟨od, J, _⟩ := J.look
  obtain ⟨P, Z, p, _⟩ := kit_of I ry ty
  show wpAny (model X.prog X.w) X.A (richCompare .NotEq (.ref a) u) (EP X pins σ Q) X.xe s
  refine PkNe.rc_ne (tb := tb) (by have := hr.in1.units0; exact Nat.lt_of_le_of_lt (Nat.le_refl _) this) I.kIn J (Z.ty _ _ I.kIn p) hn e.mro e.ne e.eq e.fn ?_
  refine run_own F hb hx rfl hr.in1 I ry hsp fun z H' w s' I' rz q => ?_
  obtain ⟨b, rfl, q⟩ := q
  obtain rfl : w = Value.bool b := rz
  have q2 : Q (.bl (!b)) H' := by
    cases b <;> exact q
  exact ⟨b, rfl, .bl (!b), H', I', rfl, q2⟩
end
end Pa
set_option maxRecDepth 100000
set_option maxHeartbeats 4000000
/-! f(.., **d) -/
namespace PkKw
open PySem PySem.Spec PyProof.Rows
section
variable {prog : Program} {w : World} {K : Type} [DecidableEq K] {knd : KeyKind prog w K} {A : Around} {E : Value → Shared → Prop} {s : Shared}
theorem put_new {d : Addr} {kvs : List (K × Value)} {k : K} {key v : Value} {Q : Unit → Shared → Prop} (hkey : knd.is k key = true) (hm : s.heap.DictOf knd d kvs) (hnot : k ∉ kvs.map (·.1))
    (hQ : ∀ h', h'.DictOf knd d (kvs ++ [(k, v)]) → Heap.SameBut d s.heap h' → Q () { s with heap := h' }) (hsz : kvs.length ≤ sizeLine) :
    wpAny (model prog w) A (dictFind d key (knd.hash k)) (fun r s' => r = none ∧ s' = s) E s ∧ wpAny (model prog w) A (dictPut d (knd.hash k) key v) Q E s := by
  obtain ⟨o, es, ep, ho, hc, hd, hk, hp, hn⟩ := hm
  have hes : es.size ≤ sizeLine := by
    have e1 := hp.length
    have e2 : es.toList.length = es.size := by simp
    omega
  have hidx : (es.findIdx? fun e => knd.is k e.key) = kvs.findIdx? fun kv => decide (kv.1 = k) := by
    rw [← hp.findIdx k]; obtain ⟨l⟩ := es; simp
  have hi : (es.findIdx? fun e => knd.is k e.key) = none := by
    rw [hidx, List.findIdx?_eq_none_iff]
    intro x hx
    exact decide_eq_false fun e => hnot (List.mem_map.mpr ⟨x, hx, e⟩)
  refine ⟨wpAny_dictFind_of hkey ho hd hk ⟨hi, rfl⟩, ?_⟩
  unfold dictPut
  refine wpAny_bind (wpAny_dictFind_of hkey ho hd hk ?_)
  rw [hi]
  refine wpAny_updateDictKeys (hz := hes) ho hd (hQ _ ⟨_, _, ep + 1, Heap.get?_update_self _ ho (Obj.isFreed_of_dict (Obj.data_mapDictKeys hd _)),
      hc.mapDictKeys _, Obj.data_mapDictKeys hd _, hk.push hkey _, ?_, ?_⟩ (Heap.SameBut.update ..))
  · have := hp.append hkey (knd.hash k) v
    obtain ⟨l⟩ := es
    simpa using this
  · rw [List.map_append, List.nodup_append]
    refine ⟨hn, by simp, ?_⟩
    intro a ha b hb
    simp only [List.map_cons, List.map_nil, List.mem_singleton] at hb
    subst hb
    exact fun e => hnot (e ▸ ha)
theorem merge_new {d a : Addr} {kvs : List (K × Value)} {Q : Unit → Shared → Prop} (hne : d ≠ a) (haS : (a == sysModules) = false) (hd : s.heap.DictOf knd d []) (ha : s.heap.DictOf knd a kvs)
    (hQ : ∀ h', h'.DictOf knd d kvs → Heap.SameBut d s.heap h' → Q () { s with heap := h' }) (hsz : kvs.length ≤ sizeLine) : wpAny (model prog w) A (mergeMapping d (.ref a) true) Q E s := by
  obtain ⟨od, esd, epd, hod, hcd, hdd, hkd, hpd, hnd⟩ := id hd
  obtain ⟨oo, es, ep, hoo, hco, hdo, hko, hpo, hno⟩ := id ha
  have hlen : kvs.length = es.size := by rw [← hpo.length]; simp
  unfold mergeMapping
  refine wpAny_bind (wpAny_isInstance ha.typeIs isSubtype_dict_dict ?_)
  simp only [if_true]
  refine wpAny_bind (wpAny_specialOf ha.typeIs F.slot_dict_iter.lookup (wpAny_bind (wpAny_pure ?_)))
  simp only [beq_self_eq_true, haS, Bool.false_eq_true, if_false]
  refine wpAny_bind (wpAny_dictEntries hod hdd ?_)
  have he0 : esd = #[] := by
    have z := hpd.length
    exact Array.eq_empty_of_size_eq_zero (by simpa using z)
  rw [he0]
  simp only [Array.isEmpty_empty, if_true]
  refine wpAny_bind (wpAny_dictEntries hoo hdo ?_)
  refine wpAny_bind ?_
  rw [← Array.forIn_toList]
  refine wpAny_forIn_list _ (fun rest _ s' => s' = s ∧ ∀ e ∈ rest, carriedByValue e.key = true) _ ?_ ?_ _ _ ⟨rfl, fun e he => ?_⟩
  · rintro e rest b s' ⟨rfl, hall⟩
    have hc := hall e List.mem_cons_self
    have hr : ∀ x ∈ rest, carriedByValue x.key = true := fun x hx => hall x (List.mem_cons_of_mem _ hx)
    obtain ⟨eh, ek, ev⟩ := e
    cases ek <;> first | exact wpAny_pure ⟨rfl, hr⟩ | exact absurd hc (by simp [carriedByValue])
  · rintro b s' ⟨eqs, _⟩
    rw [eqs]
    refine wpAny_bind (wpAny_dictEntries hoo hdo ?_)
    refine wpAny_bind (wpAny_dictEpoch hoo hdo ?_)
    refine wpAny_bind ?_
    refine wpAny_forIn_list _
      (fun rest _ s' => ∃ h' i, s' = { s with heap := h' } ∧ rest = List.range' i (es.size - i) ∧ i ≤ es.size ∧ h'.DictOf knd d (kvs.take i) ∧ h'.get? a = some oo ∧ Heap.SameBut d s.heap h')
      _ ?_ ?_ _ _ ⟨s.heap, 0, rfl, by rw [List.range_eq_range', Nat.sub_zero], Nat.zero_le _, by simpa using hd, hoo, Heap.SameBut.refl _ _⟩
    · rintro x rest b s' ⟨h', i, rfl, hr, hi, hd', hoo', hs'⟩
      have hlt : i < es.size := by
        rcases Nat.lt_or_ge i es.size with h | h
        · exact h
        · rw [Nat.sub_eq_zero_of_le h] at hr; simp at hr
      obtain ⟨rfl, hrest⟩ : x = i ∧ rest = List.range' (i + 1) (es.size - (i + 1)) := by
        have e : es.size - i = (es.size - (i + 1)) + 1 := by omega
        rw [e, List.range'_succ] at hr
        injection hr with h1 h2
        exact ⟨h1, h2⟩
      refine wpAny_bind (wpAny_dictEntries hoo' hdo ?_)
      rw [Array.getElem?_eq_getElem hlt]
      obtain ⟨kv, hkv⟩ : ∃ kv, kvs[x]? = some kv := ⟨kvs[x]'(by rw [hlen]; exact hlt), List.getElem?_eq_getElem _⟩
      obtain ⟨k, v⟩ := kv
      obtain ⟨hkey, hval⟩ := hpo.get? (e := es[x]) (by simp [hlt]) hkv
      obtain ⟨k', hkey', hhash⟩ := hko es[x] (Array.getElem_mem hlt)
      obtain rfl : k' = k := knd.inj _ _ _ hkey' hkey
      have hnot : k' ∉ (kvs.take x).map (·.1) := by
        have hx : x < kvs.length := by rw [hlen]; exact hlt
        have e1 : kvs.take (x + 1) = kvs.take x ++ [(k', v)] := by rw [List.take_add_one, hkv]; rfl
        have n1 : ((kvs.take (x + 1)).map (·.1)).Nodup := (List.Sublist.map _ (List.take_sublist _ _)).nodup hno
        rw [e1, List.map_append, List.nodup_append] at n1
        exact fun hm => n1.2.2 k' hm k' (by simp) rfl
      have hmx : (kvs.take x).length ≤ sizeLine := by
        rw [List.length_take]; omega
      have put := fun Q hQ => put_new (prog := prog) (A := A) (E := E) (s := { s with heap := h' }) (v := v) (Q := Q) hkey hd' hnot hQ hmx
      show wpAny _ _ (holding [es[x].key, es[x].val] _ >>= _) _ _ _
      rw [hhash, hval]
      refine wpAny_bind (wpAny_holding (wpAny_bind (wpAny_mono (put (fun _ _ => True) fun _ _ _ => True.intro).1 (fun r s2 z => ?_) fun _ _ e => e)))
      obtain ⟨z1, z2⟩ := z
      subst z1
      subst z2
      simp only [Option.isSome_none, Bool.false_eq_true, if_false]
      refine (put _ fun h'' hd'' hs'' => ?_).2
      have hoo'' : h''.get? a = some oo := (hs''.2 a (Ne.symm hne)).trans hoo'
      refine wpAny_bind (wpAny_dictEpoch hoo'' hdo ?_)
      rw [if_neg (by simp)]
      have e1 : kvs.take (x + 1) = kvs.take x ++ [(k', v)] := by rw [List.take_add_one, hkv]; rfl
      exact wpAny_pure ⟨h'', x + 1, rfl, hrest, hlt, by rw [e1]; exact hd'', hoo'', hs'.trans hs''⟩
    · rintro b s' ⟨h', i, rfl, hr, hi, hd', hoo', hs'⟩
      have hin : i = es.size := by
        rcases Nat.lt_or_ge i es.size with h | h
        · have e : es.size - i = (es.size - (i + 1)) + 1 := by omega
          rw [e, List.range'_succ] at hr; exact nomatch hr
        · exact Nat.le_antisymm hi h
      refine wpAny_pure (hQ h' ?_ hs')
      rw [hin, ← hlen, List.take_length] at hd'; exact hd'
  · obtain ⟨k, hkey, _⟩ := hko e (Array.mem_toList_iff.mp he)
    exact knd.byValue k _ hkey
end
end PkKw
set_option maxRecDepth 100000
set_option maxHeartbeats 4000000
namespace PkKw
open PySem PySem.Spec PyProof.Rows
section
variable {prog : Program} {w : World} {K : Type} [DecidableEq K] {knd : KeyKind prog w K} {A : Around} {E : Value → Shared → Prop} {s : Shared}
theorem merged_kd {x : Sem Value} {f : Value} {pos : Pos} {Q : Addr → Shared → Prop}
    (h : wpAny (model prog w) A x (fun m s1 => ∃ a kvs, m = .ref a ∧ s.heap.objs.size ≠ a ∧ (a == sysModules) = false ∧ s1.heap.DictOf knd s.heap.objs.size [] ∧ s1.heap.DictOf knd a kvs ∧ kvs.length ≤ sizeLine ∧
      ∀ h', h'.DictOf knd s.heap.objs.size kvs → Heap.SameBut s.heap.objs.size s1.heap h' → Q s.heap.objs.size { s1 with heap := h' }) E { s with heap := s.heap.push { cls := .type "dict", data := .dict #[] } }) :
    wpAny (model prog w) A (mergedKeywords f [(none, (do let v ← x; standAt pos; pure v))]) Q E s := by
  unfold mergedKeywords
  refine wpAny_bind (wpAny_alloc ?_)
  refine wpAny_bind (wpAny_holding ?_)
  refine wpAny_bind ?_
  rw [List.forIn_cons]
  refine wpAny_bind ?_
  dsimp only
  refine wpAny_bind ?_
  rw [if_pos (by rfl)]
  refine wpAny_pure ?_
  refine wpAny_bind (wpAny_bind (wpAny_mono h (fun m s1 z => wpAny_bind (wpAny_standAt (wpAny_pure ?_))) fun _ _ e => e))
  obtain ⟨a, kvs, rfl, hne, haS, hd, ha, hsz, q⟩ := z
  refine wpAny_bind (wpAny_onRaise (wpAny_holding (wpAny_tryCatch (wpAny_onRaise (merge_new hne haS hd ha (fun h' hd' sb => ?_) hsz)))))
  refine wpAny_pure ?_
  refine wpAny_of_eq List.forIn_nil ?_
  rw [if_pos (by rfl)]
  exact wpAny_pure (wpAny_pure (q h' hd' sb))
end
section
variable {prog : Program} {w : World} {A : Around} {E : Value → Shared → Prop} {s : Shared}
theorem kwIn_loop {F : DictEntry → List (Str × Value) → Sem (ForInStep (List (Str × Value)))} (hF : ∀ e kw x t, e.key = .str x t → F e kw = pure (.yield (kw ++ [(x, e.val)]))) :
    ∀ (es : List DictEntry) (ex kw : List (Str × Value)), Pairs (L2.mixKind prog w) es (ex.map fun x => ((Sum.inr x.1 : L2.Key), x.2)) → forIn es kw F = pure (kw ++ ex)
  | [], ex, kw, h => by
    cases ex with
    | nil => rw [List.forIn_nil, List.append_nil]
    | cons x r => cases h
  | e :: es, ex, kw, h => by
    cases ex with
    | nil => cases h
    | cons x r =>
      cases h with
      | cons h1 h2 h3 =>
        obtain ⟨t, ht⟩ : ∃ t, e.key = .str x.1 t := Value.isStrOf_shape h1
        rw [List.forIn_cons, hF e kw x.1 t ht]
        show forIn es (kw ++ [(x.1, e.val)]) F = _
        rw [kwIn_loop hF es r _ h3, h2, List.append_assoc]
        rfl
theorem kwIn_kd {f : Value} {d : Addr} {ex : List (Str × Value)} {Q : List (Str × Value) → Shared → Prop} (hd : s.heap.DictOf (L2.mixKind prog w) d (ex.map fun x => ((Sum.inr x.1 : L2.Key), x.2))) (hq : Q ex s) :
    wpAny (model prog w) A (keywordsIn f d) Q E s := by
  obtain ⟨o, es, ep, ho, hc, hdat, hk, hp, hn⟩ := hd
  unfold keywordsIn
  refine wpAny_bind (wpAny_dictEntries ho hdat ?_)
  refine wpAny_bind ?_
  rw [← Array.forIn_toList, kwIn_loop (fun e kw x t he => ?_) es.toList ex [] hp]
  · exact wpAny_pure (wpAny_pure hq)
  · obtain ⟨eh, ek, ev⟩ := e
    simp only at he
    subst he
    rfl
theorem evalArgs_dstar {f : Value} {pos : Pos} {env : Env} {e g : Expr} {rest : List Expr} {kp : Pos} {Q : Args → Shared → Prop}
    (h : wpAny (model prog w) A (spliced (backTo pos (starEach (e :: rest) env))) (fun vs s0 => wpAny (model prog w) A (eval g env) (fun m s1 => ∃ a ex, m = .ref a ∧ s0.heap.objs.size ≠ a ∧ (a == sysModules) = false ∧
      s1.heap.DictOf (L2.mixKind prog w) s0.heap.objs.size [] ∧ s1.heap.DictOf (L2.mixKind prog w) a (ex.map fun x => ((Sum.inr x.1 : L2.Key), x.2)) ∧ ex.length ≤ sizeLine ∧
      ∀ h', h'.DictOf (L2.mixKind prog w) s0.heap.objs.size (ex.map fun x => ((Sum.inr x.1 : L2.Key), x.2)) → Heap.SameBut s0.heap.objs.size s1.heap h' → Q ⟨vs, ex⟩ { s1 with heap := h' }) E
        { s0 with heap := s0.heap.push { cls := .type "dict", data := .dict #[] } }) E s)
    (he : starEach (e :: rest) env = (false, eval e env) :: starEach rest env) :
    wpAny (model prog w) A (evalArgs f true (backTo pos (starEach (e :: rest) env)) (backToKw pos (keywordEach [⟨none, g, kp⟩] env))) Q E s := by
  rw [he] at h ⊢
  have hall : (backToKw pos (keywordEach [⟨none, g, kp⟩] env)).all (·.1.isSome) = false := rfl
  unfold evalArgs
  show wpAny (model prog w) A (spliced (backTo pos ((false, eval e env) :: starEach rest env)) >>= _) Q E s
  refine wpAny_bind (wpAny_mono h (fun vs s0 z => ?_) fun _ _ e => e)
  refine wpAny_holding ?_
  simp only [hall, Bool.false_eq_true, if_false]
  refine wpAny_bind (merged_kd (knd := L2.mixKind prog w) (wpAny_mono z (fun m s1 y => ?_) fun _ _ e => e))
  obtain ⟨a, ex, rfl, hne, haS, hd, ha, hsz, q⟩ := y
  refine ⟨a, _, rfl, hne, haS, hd, ha, by rw [List.length_map]; exact hsz, fun h' hd' sb => ?_⟩
  refine wpAny_bind (wpAny_pure ?_)
  refine wpAny_bind (wpAny_holding (kwIn_kd hd' ?_))
  exact wpAny_pure (q h' hd' sb)
/-- f(e, .., **g): the call's node -/
theorem callWith_dstar {K : PySem.W.Frag} {h₀ : Heap} {f : Value} {first : List Value} {pos : Pos} {env : Env} {e g : Expr} {rest : List Expr} {kp : Pos} {Q : Value → Shared → Prop} (_X : K.In h₀) (hk : PySem.W.keepIn K f = true)
    (h : wpAny (model prog w) A (spliced (backTo pos (starEach (e :: rest) env))) (fun vs s0 => wpAny (model prog w) A (eval g env) (fun m s1 => ∃ a ex, m = .ref a ∧ s0.heap.objs.size ≠ a ∧ (a == sysModules) = false ∧
      s1.heap.DictOf (L2.mixKind prog w) s0.heap.objs.size [] ∧ s1.heap.DictOf (L2.mixKind prog w) a (ex.map fun x => ((Sum.inr x.1 : L2.Key), x.2)) ∧ ex.length ≤ sizeLine ∧
      ∀ h', h'.DictOf (L2.mixKind prog w) s0.heap.objs.size (ex.map fun x => ((Sum.inr x.1 : L2.Key), x.2)) → Heap.SameBut s0.heap.objs.size s1.heap h' →
        K.In h' ∧ wpAny (model prog w) A (call f (first ++ vs) ex) Q E { s1 with heap := h' }) E
        { s0 with heap := s0.heap.push { cls := .type "dict", data := .dict #[] } }) E s)
    (he : starEach (e :: rest) env = (false, eval e env) :: starEach rest env) :
    wpAny (model prog w) A (callWith pos f first (backTo pos (starEach (e :: rest) env)) (backToKw pos (keywordEach [⟨none, g, kp⟩] env))) Q E s := by
  have hst : ((backTo pos (starEach (e :: rest) env)).any (·.1) || (backToKw pos (keywordEach [⟨none, g, kp⟩] env)).any (·.1.isNone)) = true := by
    rw [show (backToKw pos (keywordEach [⟨none, g, kp⟩] env)).any (·.1.isNone) = true from rfl, Bool.or_true]
  unfold callWith
  refine wpAny_bind (wpAny_holding (wpAny_mono (evalArgs_dstar (Q := fun a s₁ => K.In s₁.heap ∧ wpAny (model prog w) A (call f (first ++ a.pos) a.kw) Q E s₁) h he) (fun a s₁ h₁ => wpAny_bind (wpAny_standAt ?_)) fun _ _ x => x))
  obtain ⟨k, hk', L⟩ := PySem.W.keeps_K hk _ h₁.1
  simp only [hst]
  refine wpAny_bind (L.here ?_)
  have tail : ∀ {t : Sem Value}, wpAny (model prog w) A t Q E s₁ → wpAny (model prog w) A (t >>= fun r => holding [r] point >>= fun _ => pure r) Q E s₁ :=
    fun ht => wpAny_bind (wpAny_mono ht (fun r s₂ hr => wpAny_bind (wpAny_holding (wpAny_point (wpAny_pure hr)))) fun _ _ x => x)
  have marked (mk : Value) : wpAny (model prog w) A (callMarked mk f (first ++ a.pos) a.kw) Q E s₁ := by unfold callMarked; exact Calls.wpAny_keep h₁.2
  rcases hk' with rfl | rfl | rfl <;> dsimp only <;> first | exact tail (marked _) | exact tail (PySem.W.wpAny_operating h₁.2) | exact tail (wpAny_operateT h₁.2)
end
end PkKw
set_option maxRecDepth 100000
set_option maxHeartbeats 4000000
namespace Pa
open PySem PySem.Spec PyProof.Rows L2 StX
theorem kv_zip : ∀ (ks : List Str) {zs : List V} {ws : List Value}, Vals zs ws → KV (ks.zip zs) (ks.zip ws)
  | [], _, _, _ => by simp only [List.zip_nil_left]; exact .nil
  | k :: ks, _, _, .nil => .nil
  | k :: ks, _, _, .cons r rs => .cons ⟨rfl, r⟩ (kv_zip ks rs)
theorem kv_uninr : ∀ {zs : List (Str × V)} {vs : List (Key × Value)}, KV (zs.map fun x => ((Sum.inr x.1 : Key), x.2)) vs → ∃ ex : List (Str × Value), vs = ex.map (fun x => ((Sum.inr x.1 : Key), x.2)) ∧ KV zs ex
  | [], _, .nil => ⟨[], rfl, .nil⟩
  | z :: zs, v :: vs, .cons r rs => by
    obtain ⟨ex, e, q⟩ := kv_uninr rs
    obtain ⟨vk, vv⟩ := v
    obtain ⟨r1, r2⟩ := r
    simp only at r1 r2
    subst r1 e
    exact ⟨(z.1, vv) :: ex, rfl, .cons ⟨rfl, r2⟩ q⟩
/-- a promise of a def with keywords -/
abbrev SpK := List V → List (Str × V) → Hp → VK → XK → Prop
section
variable {X : Cx} {CX : CXT} {k i : Nat} {f C : Addr} {sp : SpK} {E : XK} {x : Str} {e g : Expr} {es : List Expr} {kws : List Keyword} {ks : List Str} {tg : TE} {t tk : TA} {p pos kp : Pos}
theorem run_makeKw {pins : List (Addr × Obj)} {σ : L2.St} {H : Hp} {s : Shared} {Q : VK} {us : List Value} {vs : List V} {kw : List (Str × Value)} {zs : List (Str × V)} (M : Mk X.K C f) (F : FnKw X.prog X.w X.K X.mg X.base CX k f sp) (hr : Room (k + 1) X.A) (hx : Passes CX X E) (I : Inv X pins σ H s) (r : Vals vs us) (rk : KV zs kw)
    (h : ∀ x dx, H x = Option.none → H dx = Option.none → dx ≠ x → sp (V.ref x :: vs) zs (upd (upd H dx (.own x)) x (.ins C dx [])) (fun v H2 => v = .non ∧ Q (.ref x) H2) E) :
    wpAny (model X.prog X.w) X.A (call (.ref C) us kw) (EP X pins σ Q) X.xe s := by
  have hq := h (s.heap.objs.size + 1) s.heap.objs.size (I.hok.fresh (Nat.le_succ _)) (I.hok.fresh (Nat.le_refl _)) (Nat.ne_of_lt (Nat.lt_succ_self _))
  have I2 := Inv.made (C := C) I
  have r2 : Vals (V.ref (s.heap.objs.size + 1) :: vs) (Value.ref (s.heap.objs.size + 1) :: us) := .cons rfl r
  refine wpAny_call (make_map (f := f) I.kIn M.makes M.init (beq_iff_eq.mp M.fn) (codeAny_mono (F _ X.stack _ _ (Value.ref (s.heap.objs.size + 1) :: us) kw _ zs _ E (hr.make C us kw) (I2.env0.make C us kw) r2 rk hq) fun r s' hq' => ?_))
  cases r with
  | error e => exact hx pins σ _ _ e s' I2 hq'
  | ok fl =>
    cases fl with
    | ret u =>
      obtain ⟨v, H', I3, rv, ev, q3⟩ := I2.after hq'
      subst ev
      exact ⟨rv, ⟨V.ref (s.heap.objs.size + 1), H', I3, rfl, q3⟩⟩
    | next => exact False.elim hq'
    | brk => exact False.elim hq'
    | cont => exact False.elim hq'
/-- C(e, .., k = v, ..), the class in the module -/
def tMakeKw (C : Addr) (ks : List Str) (sp : SpK) (E : XK) (t tk : TA) : TE := fun σ H Q => t σ H fun vs H1 => tk σ H1 fun zs H2 => ∀ x dx, H2 x = Option.none → H2 dx = Option.none → dx ≠ x →
  sp (V.ref x :: vs) (ks.zip zs) (upd (upd H2 dx (.own x)) x (.ins C dx [])) (fun v H3 => v = .non ∧ Q (.ref x) H3) E
theorem pe_makeKw (M : Mk X.K C f) (F : FnKw X.prog X.w X.K X.mg X.base CX k f sp) (hr : Room (k + 1) X.A) (hg : Gl X x) (hm : X.mg x = some (.ref C)) (hx : Passes CX X E)
    (ha : PA X (e :: es) t) (hkw : PK X kws tk) (hall : (backToKw pos (keywordEach kws X.env)).all (·.1.isSome) = true := by rfl) (hks : (backToKw pos (keywordEach kws X.env)).filterMap (·.1) = ks := by rfl)
    (hdb : (x == ("__debug__" : Str)) = false := by decide) (he : starEach (e :: es) X.env = (false, eval e X.env) :: starEach es X.env := by rfl)
    (hpl : ((backTo pos (starEach (e :: es) X.env)).any (·.1) || (backToKw pos (keywordEach kws X.env)).any (·.1.isNone)) = false := by rfl) :
    PE X (.Call (.Name x p) (e :: es) kws pos) (tMakeKw C ks sp E t tk) := by
  refine ⟨fun pins s σ H Q I h => ?_⟩
  refine wpAny_Call_Name_kw (ld_glob I hg hm ?_ hdb)
  refine PySem.W.callWith_KW (h₀ := X.base) I.ok.mod.kin M.kp hall (thn (ha.run pos pins s σ H _ I h) fun us s1 ⟨vs, H1, I1, r, q⟩ => ?_) hpl he
  refine thn (hkw.run pos pins s1 σ H1 _ I1 q) fun ws s2 ⟨zs, H2, I2, rz, q2⟩ => ⟨I2.kIn, ?_⟩
  rw [hks]
  exact run_makeKw M F hr hx I2 r (kv_zip ks rz) q2
/-- x(e, .., **g), x a local that holds the class at C -/
def tClsKw (i : Nat) (C : Addr) (sp : SpK) (E : XK) (t : TA) (tg : TE) : TE := fun σ H Q => σ[i]? = some (some (.ref C)) ∧ t σ H fun vs H1 => ∀ d, H1 d = Option.none → tg σ (upd H1 d (.dK [])) fun y H2 => ∃ a zs, y = .ref a ∧ a ≠ d ∧ H2 d = some (.dK []) ∧
  H2 a = some (.dK (zs.map fun x => ((Sum.inr x.1 : Key), x.2))) ∧ ∀ x dx, upd H2 d (.dK (zs.map fun x => ((Sum.inr x.1 : Key), x.2))) x = Option.none → upd H2 d (.dK (zs.map fun x => ((Sum.inr x.1 : Key), x.2))) dx = Option.none → dx ≠ x →
    sp (V.ref x :: vs) zs (upd (upd (upd H2 d (.dK (zs.map fun x => ((Sum.inr x.1 : Key), x.2)))) dx (.own x)) x (.ins C dx [])) (fun v H3 => v = .non ∧ Q (.ref x) H3) E
theorem pe_clsKw (M : Mk X.K C f) (F : FnKw X.prog X.w X.K X.mg X.base CX k f sp) (hr : Room (k + 1) X.A) (hN : X.N[i]? = some x) (hv : Vis X.env.scope x) (hx : Passes CX X E)
    (ha : PA X (e :: es) t) (hg : PE X g tg) (hdb : (x == ("__debug__" : Str)) = false := by decide) (hcd : (x == ("__classdict__" : Str)) = false := by decide)
    (he : starEach (e :: es) X.env = (false, eval e X.env) :: starEach es X.env := by rfl) :
    PE X (.Call (.Name x p) (e :: es) [⟨none, g, kp⟩] pos) (tClsKw i C sp E t tg) := by
  refine ⟨fun pins s σ H Q I h => ?_⟩
  obtain ⟨hs, ht⟩ := h
  refine wpAny_Call_Name_kw (thn ((pe_var (pos := p) hN hv hdb hcd).run pins s σ H (fun v H1 => v = .ref C ∧ H1 = H) I ⟨.ref C, hs, rfl, rfl⟩) fun u s1 ⟨v, H1, I1, r1, q1⟩ => ?_)
  obtain ⟨rfl, rfl⟩ := q1
  cases r1
  refine PkKw.callWith_dstar (h₀ := X.base) I.ok.mod.kin M.kp (thn (ha.run pos pins s1 σ _ _ I1 ht) fun us s0 ⟨vs, H2, I2, r, q⟩ => ?_) he
  have hn := I2.hok.fresh (Nat.le_refl s0.heap.objs.size)
  have I3 := I2.laid (a := s0.heap.objs.size) (o := .dK []) (t' := s0.toks) (fun _ _ q => Heap.get?_push_of_some _ q) (Nat.le_refl _) (dk_empty s0.heap I2.big)
  refine thn (hg.run pins _ σ _ _ I3 (q _ hn)) fun m s2 ⟨y, H3, I4, ry, a, zs, ey, hne, hd, ha', q2⟩ => ?_
  subst ey
  obtain rfl : m = Value.ref a := ry
  obtain ⟨z0, hz0, vs0, rel0, dd0⟩ := dk_of I4.hok hd
  obtain ⟨za, hza, vsa, rela, dda⟩ := dk_of I4.hok ha'
  obtain rfl : vs0 = [] := by cases rel0; rfl
  obtain ⟨ex, rfl, rk⟩ := kv_uninr rela
  have hl := Paired.length rk
  rw [List.length_map] at za
  refine ⟨a, ex, rfl, Ne.symm hne, hza, dd0, dda, by omega, fun h' hd' sb => ?_⟩
  have I5 : Inv X pins σ (upd H3 s0.heap.objs.size (.dK (zs.map fun x => ((Sum.inr x.1 : Key), x.2)))) { s2 with heap := h' } :=
    d_write (t' := s2.toks) I4 (by rw [hd]; exact True.intro) sb (let ⟨q, _, _, hq, _⟩ := hd'; ⟨q, hq⟩) (dk_new (by rw [List.length_map]; exact za) hz0 (kv_inr rk) hd')
  exact ⟨I5.kIn, run_makeKw M F hr hx I5 r rk q2⟩
end
end Pa
set_option maxRecDepth 100000
set_option maxHeartbeats 4000000
/-! dict(zip(a, b)): a a tuple, b a tuple or a list -/
namespace PkZ
open PySem PySem.Spec PyProof.Rows
section
variable {prog : Program} {w : World} {A : Around} {E : Value → Shared → Prop} {s : Shared}
/-- a place in a list or a tuple -/
inductive Cu (h : Heap) (it l : Addr) (k : Nat) (xs : Array Value) : Prop where
  | lst (a : h.IsListIter it l k) (b : h.IsList l xs) : Cu h it l k xs
  | tup (a : h.IsTupleIter it l k) (b : h.IsTuple l xs) : Cu h it l k xs
variable {it l : Addr} {k : Nat} {xs : Array Value} {x : Value}
theorem Cu.mv {h h' : Heap} (c : Cu h it l k xs) (e1 : ∀ o, h.get? it = some o → h'.get? it = some o) (e2 : ∀ o, h.get? l = some o → h'.get? l = some o) : Cu h' it l k xs := by
  cases c with
  | lst a b => exact .lst (a.at e1) (b.at e2)
  | tup a b => exact .tup (a.at e1) (b.at e2)
theorem Cu.off {h h' : Heap} {c : Addr} (C : Cu h it l k xs) (sb : Heap.ExtBut c h h') (n1 : it ≠ c) (n2 : l ≠ c) : Cu h' it l k xs := C.mv (fun o e => sb _ _ n1 e) fun o e => sb _ _ n2 e
theorem Cu.here {h : Heap} (c : Cu h it l k xs) : ∃ o, h.get? it = some o := by
  cases c with
  | lst a b => obtain ⟨o, e, _⟩ := a; exact ⟨o, e⟩
  | tup a b => obtain ⟨o, e, _⟩ := a; exact ⟨o, e⟩
theorem Cu.base {h : Heap} (c : Cu h it l k xs) : ∃ o, h.get? l = some o := by
  cases c with
  | lst a b => obtain ⟨o, e, _⟩ := b; exact ⟨o, e⟩
  | tup a b => obtain ⟨o, e, _⟩ := b; exact ⟨o, e⟩
theorem cu_item {Q : Value → Shared → Prop} (c : Cu s.heap it l k xs) (hn : l ≠ it) (hx : xs[k]? = some x) (hQ : ∀ h', Cu h' it l (k + 1) xs → Heap.SameBut it s.heap h' → Q x { s with heap := h' }) :
    wpAny (model prog w) A (Builtin.SmallTypes.nextOf (.ref it)) Q E s := by
  cases c with
  | lst a b => exact wpAny_nextOf_list_item a b hx fun h' a' sb => hQ h' (.lst a' (b.at fun o e => sb.extBut _ _ hn e)) sb
  | tup a b => exact RZ.nextOf_tuple_item a b hx fun h' a' sb => hQ h' (.tup a' (b.at fun o e => sb.extBut _ _ hn e)) sb
theorem cu_end {Q : Value → Shared → Prop} (hh : A.handled = none) (c : Cu s.heap it l k xs) (hx : xs[k]? = none)
    (hE : ∀ h' e, Heap.ExtBut it s.heap h' → (∃ o, h'.get? e = some o ∧ o.cls = .type "StopIteration") → E (.ref e) { s with heap := h' }) : wpAny (model prog w) A (Builtin.SmallTypes.nextOf (.ref it)) Q E s := by
  cases c with
  | lst a b => exact wpAny_nextOf_list_end hh a b hx hE
  | tup a b => exact RZ.nextOf_tuple_end hh a b hx hE
variable {z TI TO i1 i2 l1 l2 : Addr} {n : Nat} {ys : Array Value} {y : Value}
/-- the first pair -/
theorem zc_first {Q : Value → Shared → Prop} {a b : Value} (D : ZipApart z TI TO i1 i2 l1 l2) (hz : IsZip s.heap z TI TO .none) (hTI : IsPair s.heap TI (.ref i1) (.ref i2)) (hTO : IsPair s.heap TO a b)
    (c1 : Cu s.heap i1 l1 k xs) (c2 : Cu s.heap i2 l2 n ys) (hx : xs[k]? = some x) (hy : ys[n]? = some y)
    (hQ : ∀ h', IsZip h' z TI TO (rawInt s.heap.objs.size) → Cu h' i1 l1 (k + 1) xs → Cu h' i2 l2 (n + 1) ys → IsPair h' s.heap.objs.size x y →
      (∀ c o, c ≠ z → c ≠ TO → c ≠ i1 → c ≠ i2 → s.heap.get? c = some o → h'.get? c = some o) → Q (.ref s.heap.objs.size) { s with heap := h' }) :
    wpAny (model prog w) A (Builtin.«zip.__next__» ⟨[.ref z], []⟩) (fun fin s' => ∃ v, fin = .done (.ret v) ∧ Q v s') E s := by
  show wpAny _ _ (field (.ref z) 2 >>= _) _ _ _
  refine wpAny_bind (wpAny_field hz rfl (x := .bool false) rfl ?_)
  show wpAny _ _ (field (.ref z) 3 >>= _) _ _ _
  refine wpAny_bind (wpAny_field hz rfl (x := .ref TI) rfl ?_)
  refine wpAny_bind (wpAny_seqItems hTI rfl ?_)
  show wpAny _ _ (Builtin.SmallTypes.ownedTupleIsFree (.ref z) >>= _) _ _ _
  refine wpAny_bind ?_
  unfold Builtin.SmallTypes.ownedTupleIsFree
  refine wpAny_bind (wpAny_field hz rfl (x := .none) rfl (wpAny_pure ?_))
  simp only [if_true]
  refine wpAny_bind (wpAny_rule ?_)
  refine wpAny_bind (wpAny_field hz rfl (x := .ref TO) rfl ?_)
  refine wpAny_bind (wpAny_setField_rec hz (by simp) fun g1 z1 b1 => ?_)
  refine wpAny_bind ?_
  simp only [List.zipIdx_cons, List.zipIdx_nil, List.forIn_cons, List.forIn_nil]
  refine wpAny_bind (wpAny_bind (wpAny_onRaise ?_))
  show wpAny _ _ (Builtin.SmallTypes.nextOf (.ref i1) >>= _) _ _ _
  refine wpAny_bind (cu_item (c1.off b1.extBut D.i1z D.l1z) D.l1i1 hx fun g2 c1' b2 => wpAny_pure ?_)
  have t2 : IsPair g2 TO a b := b2.extBut _ _ D.TOi1 (b1.extBut _ _ D.TOz hTO)
  refine wpAny_bind (wpAny_seqItems t2 rfl ?_)
  refine wpAny_bind (wpAny_updateSeq_pair t2 fun g3 t3 b3 => ?_)
  replace t3 : IsPair g3 TO x b := t3
  refine wpAny_bind (wpAny_letGo (wpAny_pure ?_))
  refine wpAny_bind (wpAny_bind (wpAny_onRaise ?_))
  show wpAny _ _ (Builtin.SmallTypes.nextOf (.ref i2) >>= _) _ _ _
  refine wpAny_bind (cu_item (((c2.off b1.extBut D.i2z D.l2z).off b2.extBut D.i12.symm D.l2i1).off b3.extBut D.TOi2.symm D.l2TO) D.l2i2 hy fun g4 c2' b4 => wpAny_pure ?_)
  have t4 : IsPair g4 TO x b := b4.extBut _ _ D.TOi2 t3
  refine wpAny_bind (wpAny_seqItems t4 rfl ?_)
  refine wpAny_bind (wpAny_updateSeq_pair t4 fun g5 t5 b5 => ?_)
  replace t5 : IsPair g5 TO x y := t5
  refine wpAny_bind (wpAny_letGo (wpAny_pure (wpAny_pure ?_)))
  refine wpAny_bind (wpAny_seqItems t5 rfl ?_)
  refine wpAny_bind (wpAny_newTuple ?_)
  have hsz : g5.objs.size = s.heap.objs.size := by rw [b5.1, b4.1, b3.1, b2.1, b1.1]
  have z5 : IsZip g5 z TI TO .ellipsis := b5.extBut _ _ D.TOz.symm (b4.extBut _ _ D.i2z.symm (b3.extBut _ _ D.TOz.symm (b2.extBut _ _ D.i1z.symm z1)))
  have k5 : ∀ c o, c ≠ z → c ≠ TO → c ≠ i1 → c ≠ i2 → s.heap.get? c = some o → g5.get? c = some o := fun c o q1 q2 q3 q4 e =>
    b5.extBut _ _ q2 (b4.extBut _ _ q4 (b3.extBut _ _ q2 (b2.extBut _ _ q3 (b1.extBut _ _ q1 e))))
  have c15 := ((c1'.off b3.extBut D.TOi1.symm D.l1TO).off b4.extBut D.i12 D.l1i2).off b5.extBut D.TOi1.symm D.l1TO
  have c25 := c2'.off b5.extBut D.TOi2.symm D.l2TO
  have zl : z < g5.objs.size := Heap.lt_size z5
  show wpAny _ _ (Builtin.SmallTypes.ownedTupleHandOut (.ref z) (.ref g5.objs.size) >>= _) _ _ _
  refine wpAny_bind ?_
  unfold Builtin.SmallTypes.ownedTupleHandOut
  have z6 : IsZip (g5.push { cls := .type "tuple", data := .seq #[x, y] }) z TI TO .ellipsis := Heap.get?_push_of_some _ z5
  refine wpAny_bind (wpAny_setField_rec z6 (by simp) fun g7 z7 b7 => ?_)
  replace z7 : IsZip g7 z TI TO (rawInt g5.objs.size) := z7
  refine wpAny_setField_rec z7 (by simp) fun g8 z8 b8 => ?_
  replace z8 : IsZip g8 z TI TO (rawInt g5.objs.size) := z8
  have up : ∀ c o, c ≠ z → g5.get? c = some o → g8.get? c = some o := fun c o q1 e => b8.extBut _ _ q1 (b7.extBut _ _ q1 (Heap.get?_push_of_some _ e))
  have p8 : IsPair g8 g5.objs.size x y := b8.extBut _ _ (Nat.ne_of_gt zl) (b7.extBut _ _ (Nat.ne_of_gt zl) (Heap.get?_push_size _ rfl))
  rw [hsz] at z8 p8
  refine wpAny_pure ⟨_, rfl, ?_⟩
  show Q (.ref g5.objs.size) _
  rw [hsz]
  exact hQ g8 z8 (c15.mv (fun o e => up _ o D.i1z e) fun o e => up _ o D.l1z e) (c25.mv (fun o e => up _ o D.i2z e) fun o e => up _ o D.l2z e) p8 fun c o q1 q2 q3 q4 e => up c o q1 (k5 c o q1 q2 q3 q4 e)
/-- a later pair, the first one being held -/
theorem zc_next {Q : Value → Shared → Prop} {T : Addr} {f : Bool} {oT : Obj} (D : ZipApart z TI TO i1 i2 l1 l2) (hz : IsZipHeld s.heap z TI TO T f) (hT : s.heap.get? T = some oT) (hTI : IsPair s.heap TI (.ref i1) (.ref i2))
    (c1 : Cu s.heap i1 l1 k xs) (c2 : Cu s.heap i2 l2 n ys) (hx : xs[k]? = some x) (hy : ys[n]? = some y)
    (hQ : ∀ h', IsZipHeld h' z TI TO T true → Cu h' i1 l1 (k + 1) xs → Cu h' i2 l2 (n + 1) ys → IsPair h' s.heap.objs.size x y →
      (∀ c o, c ≠ z → c ≠ i1 → c ≠ i2 → s.heap.get? c = some o → h'.get? c = some o) → Q (.ref s.heap.objs.size) { s with heap := h' }) :
    wpAny (model prog w) A (Builtin.«zip.__next__» ⟨[.ref z], []⟩) (fun fin s' => ∃ v, fin = .done (.ret v) ∧ Q v s') E s := by
  show wpAny _ _ (field (.ref z) 2 >>= _) _ _ _
  refine wpAny_bind (wpAny_field hz rfl (x := .bool false) rfl ?_)
  show wpAny _ _ (field (.ref z) 3 >>= _) _ _ _
  refine wpAny_bind (wpAny_field hz rfl (x := .ref TI) rfl ?_)
  refine wpAny_bind (wpAny_seqItems hTI rfl ?_)
  show wpAny _ _ (Builtin.SmallTypes.ownedTupleIsFree (.ref z) >>= _) _ _ _
  refine wpAny_bind (wpAny_tupleHeld_zip hz hT fun g1 z1 b1 => ?_)
  simp only [Bool.false_eq_true, if_false]
  refine wpAny_bind ?_
  rw [← Array.forIn_toList]
  simp only [List.forIn_cons, List.forIn_nil]
  refine wpAny_bind (wpAny_bind (wpAny_holding ?_))
  show wpAny _ _ (Builtin.SmallTypes.nextOf (.ref i1) >>= _) _ _ _
  refine wpAny_bind (cu_item (s := { s with heap := g1 }) (c1.off b1.extBut D.i1z D.l1z) D.l1i1 hx fun g2 c1' b2 => wpAny_pure ?_)
  refine wpAny_pure ?_
  refine wpAny_bind (wpAny_bind (wpAny_holding ?_))
  show wpAny _ _ (Builtin.SmallTypes.nextOf (.ref i2) >>= _) _ _ _
  refine wpAny_bind (cu_item (s := { s with heap := g2 }) ((c2.off b1.extBut D.i2z D.l2z).off b2.extBut D.i12.symm D.l2i1) D.l2i2 hy fun g3 c2' b3 => wpAny_pure ?_)
  refine wpAny_pure (wpAny_pure ?_)
  show wpAny _ _ (newTuple [x, y] >>= _) _ _ _
  refine wpAny_bind (wpAny_newTuple ?_)
  have hsz : g3.objs.size = s.heap.objs.size := by rw [b3.1, b2.1, b1.1]
  have z3 : IsZipHeld g3 z TI TO T true := b3.extBut _ _ D.i2z.symm (b2.extBut _ _ D.i1z.symm z1)
  have k3 : ∀ c o, c ≠ z → c ≠ i1 → c ≠ i2 → s.heap.get? c = some o → g3.get? c = some o := fun c o q1 q2 q3 e => b3.extBut _ _ q3 (b2.extBut _ _ q2 (b1.extBut _ _ q1 e))
  have c13 := c1'.off b3.extBut D.i12 D.l1i2
  refine wpAny_pure ⟨_, rfl, ?_⟩
  show Q (.ref g3.objs.size) _
  have p : IsPair (g3.push { cls := .type "tuple", data := .seq #[x, y] }) g3.objs.size x y := Heap.get?_push_size _ rfl
  rw [hsz] at p ⊢
  exact hQ _ (Heap.get?_push_of_some _ z3) (c13.mv (fun o e => Heap.get?_push_of_some _ e) fun o e => Heap.get?_push_of_some _ e) (c2'.mv (fun o e => Heap.get?_push_of_some _ e) fun o e => Heap.get?_push_of_some _ e) p
    fun c o q1 q2 q3 e => Heap.get?_push_of_some _ (k3 c o q1 q2 q3 e)
theorem zc_end {Q : Fin → Shared → Prop} {T : Addr} {f : Bool} {oT : Obj} (hh : A.handled = none) (D : ZipApart z TI TO i1 i2 l1 l2) (hz : IsZipHeld s.heap z TI TO T f) (hT : s.heap.get? T = some oT) (hTI : IsPair s.heap TI (.ref i1) (.ref i2))
    (c1 : Cu s.heap i1 l1 k xs) (hend : xs[k]? = none)
    (hE : ∀ h' e, (∀ c o, c ≠ z → c ≠ i1 → c ≠ i2 → s.heap.get? c = some o → h'.get? c = some o) → (∃ o, h'.get? e = some o ∧ o.cls = .type "StopIteration") → E (.ref e) { s with heap := h' }) :
    wpAny (model prog w) A (Builtin.«zip.__next__» ⟨[.ref z], []⟩) Q E s := by
  show wpAny _ _ (field (.ref z) 2 >>= _) _ _ _
  refine wpAny_bind (wpAny_field hz rfl (x := .bool false) rfl ?_)
  show wpAny _ _ (field (.ref z) 3 >>= _) _ _ _
  refine wpAny_bind (wpAny_field hz rfl (x := .ref TI) rfl ?_)
  refine wpAny_bind (wpAny_seqItems hTI rfl ?_)
  show wpAny _ _ (Builtin.SmallTypes.ownedTupleIsFree (.ref z) >>= _) _ _ _
  refine wpAny_bind (wpAny_tupleHeld_zip hz hT fun g1 z1 b1 => ?_)
  simp only [Bool.false_eq_true, if_false]
  refine wpAny_bind ?_
  rw [← Array.forIn_toList]
  simp only [List.forIn_cons, List.forIn_nil]
  refine wpAny_bind (wpAny_bind (wpAny_holding ?_))
  show wpAny _ _ (Builtin.SmallTypes.nextOf (.ref i1) >>= _) _ _ _
  refine wpAny_bind (cu_end (s := { s with heap := g1 }) hh (c1.off b1.extBut D.i1z D.l1z) hend fun g2 e b2 he => ?_)
  exact hE g2 e (fun c o q1 q2 _ x => b2 _ _ q2 (b1.extBut _ _ q1 x)) he
end
end PkZ
set_option maxRecDepth 100000
set_option maxHeartbeats 4000000
namespace PkZ
open PySem PySem.Spec PyProof.Rows
section
variable {prog : Program} {w : World}
theorem arg_zip (z TI TO i1 i2 l1 l2 : Addr) (D : ZipApart z TI TO i1 i2 l1 l2) (xs ys : Array Value) (hl : xs.size = ys.size) (hp : 0 < xs.size) :
    PairArg prog w "zip" z [z, TI, TO, i1, i2, l1, l2] [z, TO, i1, i2] xs.size (fun i k v => xs[i]? = some k ∧ ys[i]? = some v)
      (fun h => IsZip h z TI TO .none ∧ IsPair h TI (.ref i1) (.ref i2) ∧ (∃ a b, IsPair h TO a b) ∧ Cu h i1 l1 0 xs ∧ Cu h i2 l2 0 ys) where
  type := fun s ok => ⟨_, ok.1, rfl⟩
  notDict := by decide
  keep := fun h h' ok hk => by
    obtain ⟨hz, hTI, ⟨a, b, hTO⟩, c1, c2⟩ := ok
    exact ⟨hk _ _ hz, hk _ _ hTI, ⟨a, b, hk _ _ hTO⟩, c1.mv (fun o e => hk _ o e) (fun o e => hk _ o e), c2.mv (fun o e => hk _ o e) fun o e => hk _ o e⟩
  there := fun h ok b hb => by
    obtain ⟨hz, hTI, ⟨a, c, hTO⟩, c1, c2⟩ := ok
    simp only [List.mem_cons, List.not_mem_nil, or_false] at hb
    rcases hb with rfl | rfl | rfl | rfl | rfl | rfl | rfl
    · exact ⟨_, hz⟩
    · exact ⟨_, hTI⟩
    · exact ⟨_, hTO⟩
    · exact c1.here
    · exact c2.here
    · exact c1.base
    · exact c2.base
  sub := fun b hb => by simp at hb ⊢; rcases hb with rfl | rfl | rfl | rfl <;> simp
  noKeys := fun A s Q E hA ok h => getAttrOr_miss_zip ok.1 rfl rfl rfl zip_no_keys (by decide +kernel) hA h
  iter := fun A s d Q E hA ok hd hdf h => by
    obtain ⟨hz, hTI, ⟨a, b, hTO⟩, c1, c2⟩ := ok
    simp only [List.mem_cons, List.not_mem_nil, or_false, not_or] at hdf
    obtain ⟨dz, dTI, dTO, di1, di2, dl1, dl2⟩ := hdf
    refine wpAny_pyIter_zip hz (h z [z, TO, i1, i2] (fun i h => IsPair h TI (.ref i1) (.ref i2) ∧ Cu h i1 l1 i xs ∧ Cu h i2 l2 i ys ∧
      ((i = 0 ∧ IsZip h z TI TO .none ∧ ∃ a b, IsPair h TO a b) ∨ ∃ T f oT, IsZipHeld h z TI TO T f ∧ h.get? T = some oT ∧ T ≠ z ∧ T ≠ i1 ∧ T ≠ i2 ∧ T ≠ d)) s.heap s.toks ?_
      ⟨hTI, c1, c2, .inl ⟨rfl, hz, a, b, hTO⟩⟩ (fun _ _ e => e) fun b hb => .inl hb)
    exact {
      off := fun hm => by
        simp only [List.mem_cons, List.not_mem_nil, or_false] at hm
        rcases hm with e | e | e | e
        · exact dz e
        · exact dTO e
        · exact di1 e
        · exact di2 e
      frame := fun i g1 g2 st hk => by
        obtain ⟨hTI, c1, c2, hz⟩ := st
        refine ⟨hk _ _ (Ne.symm dTI) hTI, c1.mv (fun o e => hk _ o (Ne.symm di1) e) (fun o e => hk _ o (Ne.symm dl1) e), c2.mv (fun o e => hk _ o (Ne.symm di2) e) (fun o e => hk _ o (Ne.symm dl2) e), ?_⟩
        rcases hz with ⟨hi, hz, a, b, hTO⟩ | ⟨T, f, oT, hz, hT, r1, r2, r3, r4⟩
        · exact .inl ⟨hi, hk _ _ (Ne.symm dz) hz, a, b, hk _ _ (Ne.symm dTO) hTO⟩
        · exact .inr ⟨T, f, oT, hk _ _ (Ne.symm dz) hz, hk _ _ r4 hT, r1, r2, r3, r4⟩
      item := fun i s₁ Q₁ E₁ hi st hds hQ => by
        obtain ⟨hTI, c1, c2, hz⟩ := st
        have ex := Array.getElem?_eq_getElem hi
        have ey := Array.getElem?_eq_getElem (show i < ys.size by omega)
        have lt : ∀ {c o}, s₁.heap.get? c = some o → s₁.heap.objs.size ≠ c := fun e => Nat.ne_of_gt (Heap.lt_size e)
        have n1 : s₁.heap.objs.size ≠ i1 := let ⟨_, e⟩ := c1.here; lt e
        have n2 : s₁.heap.objs.size ≠ i2 := let ⟨_, e⟩ := c2.here; lt e
        have hTy : s₁.TypeIs (.ref z) "zip" := by
          rcases hz with ⟨_, hz, _⟩ | ⟨_, _, _, hz, _⟩
          · exact ⟨_, hz, rfl⟩
          · exact ⟨_, hz, rfl⟩
        unfold pyNext
        refine wpAny_bind (wpAny_attempt (wpAny_callSpecial?_slot (name := Str.ofString "__next__") hTy F.slot_zip_next (wpAny_call_entry F.slot_zip_next hTy F.entry_zip_next ?_ (F.args_zip_next_1 _))))
        rcases hz with ⟨_, hz, a, b, hTO⟩ | ⟨T, f, oT, hz, hT, r1, r2, r3, r4⟩
        · refine zc_first D hz hTI hTO c1 c2 ex ey fun h' a1 a3 a4 a5 hk => wpAny_pure ?_
          exact hQ s₁.heap.objs.size _ _ h' s₁.toks ⟨ex, ey⟩ (.inl ⟨_, a5, rfl, _, rfl⟩)
            ⟨hk _ _ D.TIz D.TITO D.TIi1 D.TIi2 hTI, a3, a4, .inr ⟨s₁.heap.objs.size, false, _, a1, a5, lt hz, n1, n2, Nat.ne_of_gt hds⟩⟩
            fun c o hc e => hk c o (fun x => hc (by simp [x])) (fun x => hc (by simp [x])) (fun x => hc (by simp [x])) (fun x => hc (by simp [x])) e
        · refine zc_next D hz hT hTI c1 c2 ex ey fun h' a1 a3 a4 a5 hk => wpAny_pure ?_
          exact hQ s₁.heap.objs.size _ _ h' s₁.toks ⟨ex, ey⟩ (.inl ⟨_, a5, rfl, _, rfl⟩)
            ⟨hk _ _ D.TIz D.TIi1 D.TIi2 hTI, a3, a4, .inr ⟨T, true, oT, a1, hk _ _ r1 r2 r3 hT, r1, r2, r3, r4⟩⟩
            fun c o hc e => hk c o (fun x => hc (by simp [x])) (fun x => hc (by simp [x])) (fun x => hc (by simp [x])) e
      done := fun s₁ Q₁ E₁ st hQ => by
        obtain ⟨hTI, c1, c2, hz⟩ := st
        rcases hz with ⟨h0, _⟩ | ⟨T, f, oT, hz, hT, r1, r2, r3, r4⟩
        · exact absurd h0 (Nat.ne_of_gt hp)
        · have hTy : s₁.TypeIs (.ref z) "zip" := ⟨_, hz, rfl⟩
          unfold pyNext
          refine wpAny_bind (wpAny_attempt (wpAny_callSpecial?_slot (name := Str.ofString "__next__") hTy F.slot_zip_next
            (wpAny_call_entry F.slot_zip_next hTy F.entry_zip_next (zc_end hA D hz hT hTI c1 (Array.getElem?_eq_none (Nat.le_refl _)) fun h' e hk he => ?_) (F.args_zip_next_1 _))))
          obtain ⟨o, ho, hc⟩ := he
          refine wpAny_bind (wpAny_isInstance (T := "StopIteration") (b := true) ⟨o, ho, hc⟩ isSubtype_stop ?_)
          exact wpAny_pure (hQ h' s₁.toks fun c o hc e => hk c o (fun x => hc (by simp [x])) (fun x => hc (by simp [x])) (fun x => hc (by simp [x])) e) }
end
abbrev mz1 (h : Heap) (l1 : Addr) : Heap := h.push { cls := .type "tuple_iterator", data := .fields #[.ref l1, .int 0 0] }
abbrev mz2 (h : Heap) (l1 l2 : Addr) : Heap := (mz1 h l1).push { cls := .type "list_iterator", data := .fields #[.ref l2, .int 0 0] }
abbrev mz3 (h : Heap) (l1 l2 : Addr) : Heap := (mz2 h l1 l2).push { cls := .type "tuple", data := .seq #[.ref h.objs.size, .ref (mz1 h l1).objs.size] }
abbrev mz4 (h : Heap) (l1 l2 : Addr) : Heap := (mz3 h l1 l2).push { cls := .type "tuple", data := .seq #[.none, .none] }
abbrev mz5 (h : Heap) (l1 l2 : Addr) : Heap := (mz4 h l1 l2).push { cls := .type "zip", data := .fields #[.none, .bool false, .bool false, .ref (mz2 h l1 l2).objs.size, .ref (mz3 h l1 l2).objs.size] }
theorem meets_mz (l1 l2 : Addr) (xs ys : Array Value) :
    Meets (Builtin.«zip.__new__» ⟨[.type "zip", .ref l1, .ref l2], []⟩) (fun _ R s => s.heap.IsTuple l1 xs ∧ s.heap.IsList l2 ys ∧ R (.ok (.ret (.ref (mz4 s.heap l1 l2).objs.size))) { s with heap := mz5 s.heap l1 l2 }) :=
  .of_wp fun prog w A R s h => by
    obtain ⟨hp, g, d, tk, os⟩ := s; obtain ⟨hl1, hl2, h⟩ := h
    have hsub := sub_zip
    have hL1 : Heap.IsTuple (Shared.heap ⟨hp, g, d, tk, os⟩) l1 xs := hl1
    have hL2 : Heap.IsList (Shared.heap ⟨hp.push { cls := .type "tuple_iterator", data := .fields #[.ref l1, .int 0 0] }, g, d, tk, os⟩) l2 ys := Heap.IsList.push hl2 _
    wp_walk using wpAny_pyIter_tuple hL1, wpAny_pyIter_list hL2
    exact ⟨_, rfl, h⟩
section
variable {prog : Program} {w : World} {A : Around} {E : Value → Shared → Prop} {s : Shared}
/-- zip(a, b): a a tuple -/
theorem call_zc {l1 l2 : Addr} {xs ys : Array Value} {Q : Value → Shared → Prop} (hl1 : s.heap.IsTuple l1 xs) (hl2 : s.heap.IsTuple l2 ys ∨ s.heap.IsList l2 ys)
    (h : ∀ h', IsZip h' (s.heap.objs.size + 4) (s.heap.objs.size + 2) (s.heap.objs.size + 3) .none → IsPair h' (s.heap.objs.size + 2) (.ref s.heap.objs.size) (.ref (s.heap.objs.size + 1)) →
      (∃ a b, IsPair h' (s.heap.objs.size + 3) a b) → Cu h' s.heap.objs.size l1 0 xs → Cu h' (s.heap.objs.size + 1) l2 0 ys →
      (∀ c o, s.heap.get? c = some o → h'.get? c = some o) → Q (.ref (s.heap.objs.size + 4)) { s with heap := h' }) :
    wpAny (model prog w) A (call (.type "zip") [.ref l1, .ref l2]) Q E s := by
  rcases hl2 with hl2 | hl2
  · exact RZ.call_zipT hl1 hl2 fun h' a1 a2 a3 a4 a5 _ hk => h h' a1 a2 ⟨_, _, a3⟩ (.tup a4 (hl1.at fun o e => hk _ o e)) (.tup a5 (hl2.at fun o e => hk _ o e)) hk
  · refine callType_new F.called_zip (by decide) (F.typeCall_zip_2 _ _) (F.newCall_zip_2 _ _) (fun obj => F.args_object_init_3 obj _ _) F.entry_zip_new (meets_mz l1 l2 xs ys) ⟨hl1, hl2, ?_⟩
    have e1 : (mz1 s.heap l1).objs.size = s.heap.objs.size + 1 := Heap.size_push ..
    have e2 : (mz2 s.heap l1 l2).objs.size = s.heap.objs.size + 2 := by rw [Heap.size_push, e1]
    have e3 : (mz3 s.heap l1 l2).objs.size = s.heap.objs.size + 3 := by rw [Heap.size_push, e2]
    have e4 : (mz4 s.heap l1 l2).objs.size = s.heap.objs.size + 4 := by rw [Heap.size_push, e3]
    have g5 : (mz5 s.heap l1 l2).get? (mz4 s.heap l1 l2).objs.size = some _ := Heap.get?_push_size _ rfl
    have g4 : (mz5 s.heap l1 l2).get? (mz3 s.heap l1 l2).objs.size = some _ := Heap.get?_push_of_some _ (Heap.get?_push_size _ rfl)
    have g3 : (mz5 s.heap l1 l2).get? (mz2 s.heap l1 l2).objs.size = some _ := Heap.get?_push_of_some _ (Heap.get?_push_of_some _ (Heap.get?_push_size _ rfl))
    have g2 : (mz5 s.heap l1 l2).get? (mz1 s.heap l1).objs.size = some _ := Heap.get?_push_of_some _ (Heap.get?_push_of_some _ (Heap.get?_push_of_some _ (Heap.get?_push_size _ rfl)))
    have g1 : (mz5 s.heap l1 l2).get? s.heap.objs.size = some _ := Heap.get?_push_of_some _ (Heap.get?_push_of_some _ (Heap.get?_push_of_some _ (Heap.get?_push_of_some _ (Heap.get?_push_size _ rfl))))
    have hk : ∀ c o, s.heap.get? c = some o → (mz5 s.heap l1 l2).get? c = some o := fun c o x => Heap.get?_push_of_some _ (Heap.get?_push_of_some _ (Heap.get?_push_of_some _ (Heap.get?_push_of_some _ (Heap.get?_push_of_some _ x))))
    show _ ∧ _
    rw [e2, e3, e4] at g5
    rw [e1, e2] at g3
    rw [e3] at g4
    rw [e1] at g2
    rw [e4]
    exact ⟨⟨_, g5, rfl⟩, h _ g5 g3 ⟨_, _, g4⟩ (.tup ⟨_, g1, rfl, rfl⟩ (hl1.at fun o e => hk _ o e)) (.lst ⟨_, g2, rfl, rfl⟩ (hl2.at fun o e => hk _ o e)) hk⟩
end
end PkZ
namespace Pa
open PySem PySem.Spec PyProof.Rows L2 StX
/-- dict(zip(a, b)) -/
def tDZip (K : PySem.W.Frag) (ta : TA) : TE := fun σ H Q => ta σ H fun vs H1 => ∃ (a b : Addr) (ks : List Str) (ys : List V), vs = [.ref a, .ref b] ∧ SqT K H1 a (ks.map V.str) ∧ (SqT K H1 b ys ∨ SqL K H1 b ys) ∧ ks.length = ys.length ∧ 0 < ks.length ∧ ks.length ≤ sizeLine ∧ ks.Nodup ∧
  ∀ p, H1 p = Option.none → Q (.ref p) (upd H1 p (.dK ((ks.zip ys).map fun x => ((Sum.inr x.1 : Key), x.2))))
section
variable {X : Cx} {e e2 : Expr} {ta : TA} {p p2 pos pos2 : Pos}
theorem kvz : ∀ {ks : List Str} {ys : List V} {us ws : List Value}, Vals (ks.map V.str) us → Vals ys ws → KV ((ks.zip ys).map fun x => ((Sum.inr x.1 : Key), x.2)) ((ks.zip ws).map fun x => ((Sum.inr x.1 : Key), x.2))
  | [], _, _, _, _, _ => by simp only [List.zip_nil_left]; exact .nil
  | _ :: _, _, _, _, _, .nil => .nil
  | k :: ks, y :: ys, _, _, .cons r rs, .cons r' rs' => .cons ⟨rfl, r'⟩ (kvz rs rs')
theorem pe_dictzip (hcalm : X.calm = true) (hgd : Gl X "dict") (hmd : X.mg "dict" = none) (hgz : Gl X "zip") (hmz : X.mg "zip" = none) (ha : PA X [e, e2] ta)
    (hs : starEach [e, e2] X.env = (false, eval e X.env) :: starEach [e2] X.env := by rfl) (hpl : (backTo pos2 (starEach [e2] X.env)).any (·.1) = false := by rfl)
    (hs2 : starEach [.Call (.Name "zip" p2) [e, e2] [] pos2] X.env = [(false, eval (.Call (.Name "zip" p2) [e, e2] [] pos2) X.env)] := by rfl) :
    PE X (.Call (.Name "dict" p) [.Call (.Name "zip" p2) [e, e2] [] pos2] [] pos) (tDZip X.K ta) := by
  refine ⟨fun pins s σ H Q I h => ?_⟩
  refine Call_ (ld_blt I hgd hmd PyProof.Rows.boot_dict (PyProof.Rows.callWith_type1 (args_cons ?_) hs2 rfl))
  refine Call_ (ld_blt I hgz hmz PyProof.Rows.boot_zip (PyProof.Rows.callWith_type1 (thn (ha.run pos2 pins s σ H _ I h) fun us s1 ⟨vs, H1, I1, r1, q1⟩ => ?_) hs hpl))
  obtain ⟨a, b, ks, ys, ex, hx, hy, hl, h0, hz, hnd, q⟩ := q1
  subst ex
  cases r1 with
  | cons r rr =>
    cases rr with
    | cons r' rr =>
      cases rr
      cases r
      cases r'
      obtain ⟨its, rv, p1, _⟩ := I1.tuple hx
      obtain ⟨its2, rv2, p2'⟩ : ∃ its2 : List Value, Vals ys its2 ∧ (s1.heap.IsTuple b its2.toArray ∨ s1.heap.IsList b its2.toArray) := by
        rcases hy with hy | hy
        · obtain ⟨its2, rv2, p2, _⟩ := I1.tuple hy
          exact ⟨its2, rv2, .inl p2⟩
        · obtain ⟨its2, rv2, p2, _⟩ := I1.list hy
          exact ⟨its2, rv2, .inr p2.isList⟩
      have l1 := rv.length
      have l2 := rv2.length
      rw [List.length_map] at l1
      have la : a < s1.heap.objs.size := by obtain ⟨o, ho, _⟩ := id p1; exact Heap.lt_size ho
      have lb : b < s1.heap.objs.size := by
        rcases p2' with p2 | p2
        · obtain ⟨o, ho, _⟩ := id p2; exact Heap.lt_size ho
        · obtain ⟨o, ho, _⟩ := id p2; exact Heap.lt_size ho
      refine PkZ.call_zc (show s1.heap.IsTuple a its.toArray from p1) p2' fun h' a1 a2 a3 c1 c2 hk => ?_
      refine args_nil ?_
      have D := PySem.W.ktu_apart s1.heap.objs.size a b la lb
      have P := PkZ.arg_zip (prog := X.prog) (w := X.w) _ _ _ _ _ _ _ D its.toArray its2.toArray (by simp; omega) (by simp; omega)
      refine PySem.call_dict_pairs (knd := mixKind X.prog X.w) (kvs := (ks.zip its2).map fun x => ((Sum.inr x.1 : Key), x.2)) P (I1.ok.hd hcalm) ⟨a1, a2, a3, c1, c2⟩ ⟨by simp; omega, fun i key v hr => ?_⟩ (by simp; omega) fun h'' tk hd hk2 => ?_
      · obtain ⟨e1, e2⟩ := hr
        have e1' : its[i]? = some key := by simpa using e1
        have e2' : its2[i]? = some v := by simpa using e2
        have hi : i < ks.length := by
          have := (List.getElem?_eq_some_iff.mp e1').1
          omega
        obtain ⟨u, hu, ru⟩ := rv.get (i := i) (x := V.str ks[i]) (by rw [List.getElem?_map, List.getElem?_eq_getElem hi]; rfl)
        rw [e1'] at hu
        obtain rfl := Option.some.inj hu
        obtain ⟨t, rfl⟩ := ru
        refine ⟨Sum.inr ks[i], ?_, mixKind_str X.prog X.w _ t⟩
        rw [List.getElem?_map, (List.getElem?_zip_eq_some (z := (ks[i], v))).mpr ⟨List.getElem?_eq_getElem hi, e2'⟩]
        rfl
      · have hge4 : (s1.heap.objs.size : Nat) + 4 < h'.objs.size := Heap.lt_size a1
        have hge : s1.heap.objs.size ≤ h'.objs.size := Nat.le_of_lt (Nat.lt_of_le_of_lt (Nat.le_add_right _ 4) hge4)
        have hm : (h'.objs.size == sysModules) = false := beq_eq_false_iff_ne.mpr (Nat.ne_of_gt (Nat.lt_of_lt_of_le I1.big hge))
        have hnd2 : (((ks.zip its2).map fun x => ((Sum.inr x.1 : Key), x.2)).map (·.1)).Nodup := by
          rw [List.map_map]
          have e : ((fun x : Key × Value => x.1) ∘ fun x : Str × Value => ((Sum.inr x.1 : Key), x.2)) = (fun k : Str => (Sum.inr k : Key)) ∘ Prod.fst := rfl
          rw [e, ← List.map_map, List.map_fst_zip (by omega)]
          exact List.Pairwise.map _ (fun a b q => by simpa using q) hnd
        rw [PySem.merged_nil_of_nodup _ hnd2] at hd
        have kk : ∀ b u, s1.heap.get? b = some u → h''.get? b = some u := fun b u e => by
          have lt := Heap.lt_size e
          have hb : ∀ n : Nat, b ≠ s1.heap.objs.size + n := fun n q => by
            rw [q] at lt
            exact absurd lt (Nat.not_lt.mpr (Nat.le_add_right _ _))
          refine hk2 b u (fun hm => ?_) (hk b u e)
          simp only [List.mem_cons, List.not_mem_nil, or_false] at hm
          rcases hm with q | q | q | q
          · exact hb 4 q
          · exact hb 3 q
          · exact hb 0 q
          · exact hb 1 q
        exact ⟨.ref h'.objs.size, _, I1.laid (t' := tk) (o := .dK ((ks.zip ys).map fun x => ((Sum.inr x.1 : Key), x.2))) kk hge (dk_new (by simp; omega) hm (kvz rv rv2) hd), rfl, q _ (I1.hok.fresh hge)⟩
end
end Pa
set_option maxRecDepth 100000
set_option maxHeartbeats 4000000
namespace Pa
open PySem PySem.Spec PyProof.Rows L2
/-! ### either of two targets, two walks -/
def gOr (g1 g2 : TG) : TG := fun v σ H Q => g1 v σ H Q ∨ g2 v σ H Q
def iOr (w1 w2 : TI) : TI := fun σ H R => w1 σ H R ∨ w2 σ H R
theorem PG.either {X : Cx} {t : Expr} {g1 g2 : TG} (h1 : PG X t g1) (h2 : PG X t g2) : PG X t (gOr g1 g2) :=
  ⟨fun pins s σ H v u Q I r h => h.elim (h1.run pins s σ H v u Q I r) (h2.run pins s σ H v u Q I r)⟩
theorem PI.either {X : Cx} {tg e : Expr} {w1 w2 : TI} (h1 : PI X tg e w1) (h2 : PI X tg e w2) : PI X tg e (iOr w1 w2) :=
  ⟨fun pins s σ H R I h => h.elim (h1.run pins s σ H R I) (h2.run pins s σ H R I)⟩
theorem call_repr_ib {X : Cx} : CallR X (.builtin "repr") (fun xs H Q => (∃ i, xs = [.int i] ∧ i.natAbs.log2 < 1920 ∧ Q (.str (toString i)) H) ∨ ∃ b : Bool, xs = [.bl b] ∧ Q (.str (if b then "True" else "False")) H) := by
  intro pins s σ H xs us Q I r h
  rcases h with ⟨i, rfl, hz, q⟩ | ⟨b, rfl, q⟩
  · obtain ⟨u, rfl, t, rfl⟩ := vals1 r
    exact PySem.P.repr_of_int hz ⟨.str _, H, I.tok _, ⟨_, rfl⟩, q⟩
  · obtain ⟨u, rfl, rfl⟩ := vals1 r
    exact PySem.P.repr_of_bool ⟨.str _, H, I.tok _, ⟨_, rfl⟩, q⟩
/-! ### a rule's data -/
abbrev VN : List Str := ["face", "measure", "space", "kept", "page", "out"]
abbrev PN : List Str := ["kind", "mark", "parent", "above", "elder"]
def texts (n : Str) : List Str := if n = "mark" ∨ n = "above" then ["x", "y"] else ["A", "B", "C"]
def IsK (s : Str) : Prop := s = "" ∨ s = "A" ∨ s = "B" ∨ s = "C"
def IsM (s : Str) : Prop := s = "" ∨ s = "x" ∨ s = "y"
def PatOk (ps : List Str) : Prop := ∃ k m p a e, ps = [k, m, p, a, e] ∧ IsK k ∧ IsM m ∧ IsK p ∧ IsM a ∧ IsK e
def SetOk (n : Str) (v : V) : Prop := (n = "face" ∧ ∃ i : Int, v = .int i ∧ 0 ≤ i ∧ i ≤ 1) ∨ (n = "measure" ∧ ∃ i : Int, v = .int i ∧ 1 ≤ i ∧ i ≤ 6) ∨ (n = "space" ∧ ∃ i : Int, v = .int i ∧ 0 ≤ i ∧ i ≤ 2) ∨ ((n = "kept" ∨ n = "page" ∨ n = "out") ∧ ∃ b, v = .bl b)
/-- a tuple or a list of these values -/
def Seq (K : PySem.W.Frag) (H : Hp) (a : Addr) (xs : List V) : Prop := SqT K H a xs ∨ SqL K H a xs
/-! ### what the top has written -/
structure Txt (K : PySem.W.Frag) (w : World) (mg : Str → Option Value) (tv tp tk dl C : Addr) : Prop where
  b_len : mg "len" = none
  b_range : mg "range" = none
  b_int : mg "int" = none
  b_abs : mg "abs" = none
  b_enumerate : mg "enumerate" = none
  b_isinstance : mg "isinstance" = none
  b_bool : mg "bool" = none
  b_list : mg "list" = none
  b_tuple : mg "tuple" = none
  b_min : mg "min" = none
  b_all : mg "all" = none
  b_dict : mg "dict" = none
  b_zip : mg "zip" = none
  b_repr : mg "repr" = none
  g_KINDS : mg "KINDS" = some (.ref tk)
  g_VALUE_NAMES : mg "VALUE_NAMES" = some (.ref tv)
  g_PATTERN_NAMES : mg "PATTERN_NAMES" = some (.ref tp)
  g__LIMITS : mg "_LIMITS" = some (.ref dl)
  g_Rule : mg "Rule" = some (.ref C)
  vn : ∀ H, SqT K H tv (VN.map V.str)
  pn : ∀ H, SqT K H tp (PN.map V.str)
  kn : ∀ H, SqT K H tk ((["A", "B", "C"] : List Str).map V.str)
  lim : ∃ es n, KDict K w dl es n
  lims : ∀ n : Str, ∀ lo hi : Int, (n = "face" ∧ lo = 0 ∧ hi = 1) ∨ (n = "measure" ∧ lo = 1 ∧ hi = 6) ∨ (n = "space" ∧ lo = 0 ∧ hi = 2) → ∃ t, PySem.W.nsIn K dl n = some (some (.ref t)) ∧ ∀ H, SqT K H t [.int lo, .int hi]
  nolim : ∀ n : Str, n = "kept" ∨ n = "page" ∨ n = "out" → PySem.W.nsIn K dl n = some none
section
variable {P : Program} {w : World} {K : PySem.W.Frag} {mg : Str → Option Value} {base : Heap} {tv tp tk dl C : Addr}
def spIsInt : Sp := fun vs H Q _ => ∃ i : Int, vs = [.int i] ∧ Q (.bl true) H
abbrev sis_integer : Stmt := topS 6
theorem scis_integer : FnScope ["value"] ["value"] (defScope sis_integer) := ⟨rfl, rfl, rfl, by decide +kernel, rfl, by decide +kernel, by decide +kernel⟩
theorem ok_is_integer {f : Addr} {fd : FuncData} (F : Fun K "is_integer" "is_integer" sis_integer f fd) (T : Txt K w mg tv tp tk dl C) : FnOk P w K mg base CX0 1 f fd ["value"] spIsInt := by
  refine F.ok scis_integer (fun vs H Q E h => ?_) (fun cdv A outer s H vs Q E hr h => ?_)
  · obtain ⟨i, rfl, _⟩ := h
    rfl
  · obtain ⟨i, rfl, k⟩ := h
    refine ⟨_, (pss_one (ps_ret (pe_and (pe_callB call_isi (by rfl) T.b_isinstance (by decide +kernel) (pa_cons (pv 0) (pa_cons (pe_bltn (v := .ty "int") (by rfl) T.b_int (by decide +kernel) rfl) pa_nil))) (pe_one (pe_not (pe_callB call_isi (by rfl) T.b_isinstance (by decide +kernel) (pa_cons (pv 0) (pa_cons (pe_bltn (v := .ty "bool") (by rfl) T.b_bool (by decide +kernel) rfl) pa_nil)))))))), ?_⟩
    refine ⟨_, rfl, _, _, _, _, _, rfl, .ty _, .base (.int i), kit_ty (by decide +kernel), _, rfl, iteT ?_⟩
    exact ⟨_, rfl, _, _, _, _, _, rfl, .ty _, .base (.int i), kit_ty (r := false) (by decide +kernel), _, rfl, k⟩
def spIntFrom : Sp := fun vs H Q _ => ∃ i lo hi : Int, vs = [.int i, .int lo, .int hi] ∧ lo ≤ i ∧ i ≤ hi ∧ Q (.bl true) H
abbrev sis_integer_from : Stmt := topS 7
theorem scis_integer_from : FnScope ["value", "low", "high"] ["value", "low", "high"] (defScope sis_integer_from) := ⟨rfl, rfl, rfl, by decide +kernel, rfl, by decide +kernel, by decide +kernel⟩
theorem ok_int_from {f : Addr} {fd : FuncData} (F : Fun K "is_integer_from" "is_integer_from" sis_integer_from f fd) (C_is_integer : CallOk P w K mg base 1 "is_integer" ["value"] spIsInt) : FnOk P w K mg base CX0 2 f fd ["value", "low", "high"] spIntFrom := by
  refine F.ok scis_integer_from (fun vs H Q E h => ?_) (fun cdv A outer s H vs Q E hr h => ?_)
  · obtain ⟨i, lo, hi, rfl, _⟩ := h
    rfl
  · obtain ⟨i, lo, hi, rfl, h1, h2, k⟩ := h
    refine ⟨_, (pss_one (ps_ret (pe_and (pe_cc C_is_integer (hr.mono (by decide)) (by rfl) (pa_cons (pv 0) pa_nil)) (pe_one (pe_chain op_le op_le (pv 1) (pv 0) (pv 2)))))), ?_⟩
    refine ⟨_, rfl, i, rfl, _, rfl, iteT ⟨_, rfl, _, rfl, _, _, rfl, rfl, _, rfl, ?_⟩⟩
    rw [decide_eq_true h1]
    refine iteT ⟨_, rfl, _, _, rfl, rfl, ?_⟩
    show Q (.bl (decide (i ≤ hi))) H
    rw [decide_eq_true h2]
    exact k
end
/-! ### rows -/
theorem seq_ty {K : PySem.W.Frag} {H : Hp} {a : Addr} {xs : List V} (h : Seq K H a xs) : ∃ t : String, (t = "list" ∨ t = "tuple") ∧ TyX K H (.ref a) (.type t) := by
  rcases h with ((h | ⟨o, h⟩) | h) | ((h | ⟨o, h⟩) | h)
  · exact ⟨_, .inr rfl, .base (.tup h)⟩
  · exact ⟨_, .inr rfl, .fTuple h⟩
  · obtain ⟨o, its, n, e, c, _⟩ := h
    exact ⟨_, .inr rfl, .kTuple e c⟩
  · exact ⟨_, .inl rfl, .base (.lst h)⟩
  · exact ⟨_, .inl rfl, .base (.frz h)⟩
  · obtain ⟨o, its, n, e, c, _⟩ := h
    exact ⟨_, .inl rfl, .kList e c⟩
theorem Seq.ext {K : PySem.W.Frag} {H H' : Hp} {a : Addr} {xs : List V} (h : Seq K H a xs) (e : Ext H H') : Seq K H' a xs := h.imp (fun h => h.ext e) fun h => h.ext e
theorem inV_str (n : Str) : ∀ l : List Str, inV (.str n) (l.map V.str) = decide (n ∈ l)
  | [] => rfl
  | x :: l => by
    have ih := inV_str n l
    unfold inV at ih ⊢
    rw [List.map_cons, List.any_cons, ih]
    by_cases e : x = n
    · subst e
      simp [eqV]
    · have e2 : ¬ n = x := fun q => e q.symm
      simp [eqV, e, e2]
theorem flat_strs (l : List Str) : (l.map V.str).all flatV = true := by simp [flatV]
section
variable {P : Program} {w : World} {K : PySem.W.Frag} {mg : Str → Option Value} {base : Heap} {tv tp tk dl C : Addr}
def spIsRow (K : PySem.W.Frag) : Sp := fun vs H Q _ => ∃ (a : Addr) (xs : List V), vs = [.ref a] ∧ Seq K H a xs ∧ ∀ H', Ext H H' → Q (.bl true) H'
abbrev sis_row : Stmt := topS 8
theorem scis_row : FnScope ["value"] ["value"] (defScope sis_row) := ⟨rfl, rfl, rfl, by decide +kernel, rfl, by decide +kernel, by decide +kernel⟩
theorem ok_is_row {f : Addr} {fd : FuncData} (F : Fun K "is_row" "is_row" sis_row f fd) (T : Txt K w mg tv tp tk dl C) : FnOk P w K mg base CX0 1 f fd ["value"] (spIsRow K) := by
  refine F.ok scis_row (fun vs H Q E h => ?_) (fun cdv A outer s H vs Q E hr h => ?_)
  · obtain ⟨a, xs, rfl, _⟩ := h
    rfl
  · obtain ⟨a, xs, rfl, hs, k⟩ := h
    refine ⟨_, (pss_one (ps_ret (pe_callB call_isiT (by rfl) T.b_isinstance (by decide +kernel) (pa_cons (pv 0) (pa_cons (pe_tup (pa_cons (pe_bltn (v := .ty "list") (by rfl) T.b_list (by decide +kernel) rfl) (pa_cons (pe_bltn (v := .ty "tuple") (by rfl) T.b_tuple (by decide +kernel) rfl) pa_nil))) pa_nil))))), ?_⟩
    refine ⟨_, rfl, (by show 2 ≤ sizeLine; decide), fun t ht => ?_⟩
    obtain ⟨ty, ht2, hty⟩ := seq_ty (hs.ext (Ext.upd (o := .tup [.ty "list", .ty "tuple"]) ht))
    refine ⟨_, t, _, _, [.type "list", .type "tuple"], true, rfl, upd_same, .cons (.ty _) (.cons (.ty _) .nil), hty, ?_, k _ (Ext.upd ht)⟩
    rcases ht2 with rfl | rfl
    · exact kitAny_cons (b := true) (kit_ty (by decide +kernel)) (fun e => nomatch e) fun _ => rfl
    · exact kitAny_cons (b := false) (kit_ty (by decide +kernel)) (fun _ => kitAny_cons (b := true) (kit_ty (by decide +kernel)) (fun e => nomatch e) fun _ => rfl) fun e => nomatch e
def spTexts (K : PySem.W.Frag) : Sp := fun vs H Q _ => ∃ n : Str, vs = [.str n] ∧ ∀ p H', Ext H H' → SqT K H' p ((texts n).map V.str) → Q (.ref p) H'
abbrev stexts_for : Stmt := topS 15
theorem sctexts_for : FnScope ["name"] ["name"] (defScope stexts_for) := ⟨rfl, rfl, rfl, by decide +kernel, rfl, by decide +kernel, by decide +kernel⟩
theorem ok_texts {f : Addr} {fd : FuncData} (F : Fun K "texts_for" "texts_for" stexts_for f fd) (T : Txt K w mg tv tp tk dl C) : FnOk P w K mg base CX0 1 f fd ["name"] (spTexts K) := by
  refine F.ok sctexts_for (fun vs H Q E h => ?_) (fun cdv A outer s H vs Q E hr h => ?_)
  · obtain ⟨n, rfl, _⟩ := h
    rfl
  · obtain ⟨n, rfl, k⟩ := h
    refine ⟨_, (pss_one (ps_ret (pe_ifExp (pt_cmpR op_in_seq (pv 0) (pe_tup (pa_cons pe_str (pa_cons pe_str pa_nil))) (by rfl)) (pe_tup (pa_cons pe_str (pa_cons pe_str pa_nil))) (pe_glob (v := .ref tk) (by rfl) T.g_KINDS rfl)))), ?_⟩
    refine ⟨_, rfl, (by show 2 ≤ sizeLine; decide), fun t ht => ?_⟩
    have e1 := Ext.upd (o := .tup [.str "mark", .str "above"]) ht
    refine ⟨t, [.str "mark", .str "above"], rfl, .inr (SqT.of upd_same), rfl, rfl, ?_⟩
    have ev : inV (.str n) [.str "mark", .str "above"] = decide (n ∈ (["mark", "above"] : List Str)) := inV_str n ["mark", "above"]
    refine ⟨_, rfl, ?_⟩
    show if inV (.str n) [.str "mark", .str "above"] = true then _ else _
    rw [ev]
    by_cases hn : n = "mark" ∨ n = "above"
    · have hx : texts n = (["x", "y"] : List Str) := if_pos hn
      rw [hx] at k
      rw [decide_eq_true (by simpa using hn)]
      refine iteT ⟨(by show 2 ≤ sizeLine; decide), fun p hp => ?_⟩
      exact k p _ (e1.trans (Ext.upd hp)) (SqT.of upd_same)
    · have hx : texts n = (["A", "B", "C"] : List Str) := if_neg hn
      rw [hx] at k
      rw [decide_eq_false (by simpa using hn)]
      refine iteF ?_
      exact k tk _ e1 (T.kn _)
end
end Pa
set_option maxRecDepth 100000
set_option maxHeartbeats 4000000
namespace Pa
open PySem PySem.Spec PyProof.Rows L2 RZ
theorem strs_at {l : List Str} {i : Nat} {x : V} (h : (l.map V.str)[i]? = some x) : ∃ n, l[i]? = some n ∧ x = .str n := by
  rw [List.getElem?_map] at h
  cases e : l[i]? with
  | none => rw [e] at h; cases h
  | some n => rw [e] at h; exact ⟨n, rfl, (Option.some.inj h).symm⟩
theorem isK_in {s : Str} (h : IsK s) : s ∈ (["", "A", "B", "C"] : List Str) := by
  rcases h with rfl | rfl | rfl | rfl <;> decide
theorem isM_in {s : Str} (h : IsM s) : s ∈ (["", "x", "y"] : List Str) := by
  rcases h with rfl | rfl | rfl <;> decide
theorem pat_good {ps : List Str} (h : PatOk ps) {i : Nat} {n t : Str} (hn : PN[i]? = some n) (ht : ps[i]? = some t) : t ∈ (("" : Str) :: texts n) := by
  obtain ⟨k, m, p, a, e, rfl, hk, hm, hp, ha, he⟩ := h
  match i, hn, ht with
  | 0, hn, ht =>
    cases hn; cases ht
    exact isK_in hk
  | 1, hn, ht =>
    cases hn; cases ht
    exact isM_in hm
  | 2, hn, ht =>
    cases hn; cases ht
    exact isK_in hp
  | 3, hn, ht =>
    cases hn; cases ht
    exact isM_in ha
  | 4, hn, ht =>
    cases hn; cases ht
    exact isK_in he
  | i + 5, hn, _ => simp at hn
theorem pat_len {ps : List Str} (h : PatOk ps) : ps.length = 5 := by
  obtain ⟨k, m, p, a, e, rfl, _⟩ := h
  rfl
theorem texts_ne (n : Str) : texts n ≠ [] := by
  unfold texts
  split <;> simp
theorem texts_len (n : Str) : (texts n).length ≤ 3 := by
  unfold texts
  split <;> simp
section
variable {P : Program} {w : World} {K : PySem.W.Frag} {mg : Str → Option Value} {base : Heap} {tv tp tk dl C : Addr}
def spIsPat (K : PySem.W.Frag) : Sp := fun vs H Q _ => ∃ (a : Addr) (ps : List Str), vs = [.ref a] ∧ SqT K H a (ps.map V.str) ∧ PatOk ps ∧ ∀ H', Ext H H' → Q (.bl true) H'
abbrev s_is_pattern : Stmt := topS 17
theorem sc_is_pattern : FnScope ["pattern", "name", "text"] ["pattern"] (defScope s_is_pattern) := ⟨rfl, rfl, rfl, by decide +kernel, rfl, by decide +kernel, by decide +kernel⟩
theorem ok_is_pattern {f : Addr} {fd : FuncData} (F : Fun K "_is_pattern" "_is_pattern" s_is_pattern f fd) (T : Txt K w mg tv tp tk dl C) (C_texts_for : CallOk P w K mg base 1 "texts_for" ["name"] (spTexts K)) : FnOk P w K mg base CX0 2 f fd ["pattern"] (spIsPat K) := by
  refine F.ok sc_is_pattern (fun vs H Q E h => ?_) (fun cdv A outer s H vs Q E hr h => ?_)
  · obtain ⟨a, ps, rfl, _⟩ := h
    rfl
  · obtain ⟨a, ps, rfl, hs, hp, k⟩ := h
    refine ⟨_, (pss_cons (ps_for PassesOwn.never rfl (pi_zipA (by rfl) T.b_zip (pa_cons (pe_glob (v := .ref tp) (by rfl) T.g_PATTERN_NAMES rfl) (pa_cons (pv 0) pa_nil))) (pg_tup rfl (pgs_cons (pg_name (i := 1) sc_is_pattern.nd rfl (.inl rfl)) (pgs_cons (pg_name (i := 2) sc_is_pattern.nd rfl (.inl rfl)) pgs_nil)))
        (pss_one (ps_if (pt_cmpR op_notIn_seq (pv 2) (pe_op op_catA (pe_tup (pa_cons pe_str pa_nil)) (pe_cc C_texts_for (hr.mono (by decide)) (by rfl) (pa_cons (pv 1) pa_nil))) (by rfl))
          (pss_one (ps_ret pe_bl))
          pss_nil)))
      (pss_one (ps_ret pe_bl))), ?_⟩
    refine ⟨_, rfl, tp, a, _, _, rfl, .inr ⟨T.pn _, hs, ?_⟩⟩
    refine for_zipT (xs := PN.map V.str) (ys := ps.map V.str) (by rw [List.length_map, List.length_map, pat_len hp]; rfl) (fun i σ H' => Ext H H' ∧ ∃ x1 x2, σ = [some (.ref a), x1, x2]) ⟨Ext.rfl', _, _, rfl⟩ (fun i σ H' h => ⟨T.pn _, hs.ext h.1⟩) (fun i x y Tt σ H1 hx hy h hT => ?_) (fun σ H1 h => k _ h.1)
    obtain ⟨e, x1, x2, rfl⟩ := h
    obtain ⟨n, hn, rfl⟩ := strs_at hx
    obtain ⟨t, ht, rfl⟩ := strs_at hy
    have hg := pat_good hp hn ht
    have e1 := e.upd' (o := .tup [.str n, .str t]) hT
    refine ⟨_, _, rfl, SqT.of upd_same, rfl, _, _, rfl, _, _, rfl, rfl, ?_⟩
    refine ⟨_, rfl, (by show 1 ≤ sizeLine; decide), fun q hq => ?_⟩
    have e2 := e1.upd' (o := .tup [.str ""]) hq
    refine ⟨_, rfl, n, rfl, fun r H' er hsr => ?_⟩
    refine ⟨q, r, [.str ""], (texts n).map V.str, rfl, rfl, (SqT.of upd_same).ext er, hsr, ?_, (fun z => nomatch z), (fun _ z => absurd (List.map_eq_nil_iff.mp z) (texts_ne n)), fun _ _ u hu => ?_⟩
    · have := texts_len n
      rw [List.length_map]
      show 1 + (texts n).length ≤ sizeLine
      have : (4 : Nat) ≤ sizeLine := by decide
      omega
    refine ⟨u, _, rfl, .inr (SqT.of upd_same), rfl, flat_strs (("" : Str) :: texts n), ?_⟩
    have ev : inV (.str t) ([.str ""] ++ (texts n).map V.str) = true := by
      have := inV_str t (("" : Str) :: texts n)
      rw [decide_eq_true hg] at this
      exact this
    refine ⟨_, rfl, ?_⟩
    show if (!inV (.str t) ([.str ""] ++ (texts n).map V.str)) = true then _ else _
    rw [ev]
    refine iteF ?_
    exact ⟨(e2.trans er).upd' hu, _, _, rfl⟩
def spIsPair (K : PySem.W.Frag) : Sp := fun vs H Q _ => ∃ (a : Addr) (n : Str) (v : V), vs = [.ref a] ∧ Seq K H a [.str n, v] ∧ n ∈ VN ∧ ∀ H', Ext H H' → Q (.bl true) H'
abbrev s_is_pair : Stmt := topS 18
theorem sc_is_pair : FnScope ["pair"] ["pair"] (defScope s_is_pair) := ⟨rfl, rfl, rfl, by decide +kernel, rfl, by decide +kernel, by decide +kernel⟩
theorem ok_is_pair {f : Addr} {fd : FuncData} (F : Fun K "_is_pair" "_is_pair" s_is_pair f fd) (T : Txt K w mg tv tp tk dl C) (C_is_row : CallOk P w K mg base 1 "is_row" ["value"] (spIsRow K)) : FnOk P w K mg base CX0 2 f fd ["pair"] (spIsPair K) := by
  refine F.ok sc_is_pair (fun vs H Q E h => ?_) (fun cdv A outer s H vs Q E hr h => ?_)
  · obtain ⟨a, n, v, rfl, _⟩ := h
    rfl
  · obtain ⟨a, n, v, rfl, hs, hn, k⟩ := h
    refine ⟨_, (pss_one (ps_ret (pe_and (pe_cc C_is_row (hr.mono (by decide)) (by rfl) (pa_cons (pv 0) pa_nil)) (pe_and (pe_cmpR op_eq (pe_callB call_len_seq (by rfl) T.b_len PySem.boot_len (pa_cons (pv 0) pa_nil)) pe_int (nomark _)) (pe_one (pe_cmpR op_in_seq (pe_ix ix_seq (pv 0) pe_int (fun _ _ => rfl)) (pe_glob (v := .ref tv) (by rfl) T.g_VALUE_NAMES rfl) (by rfl))))))), ?_⟩
    refine ⟨_, rfl, a, _, rfl, hs, fun H1 e => ⟨_, rfl, iteT ?_⟩⟩
    have hs1 := hs.ext e
    refine ⟨_, rfl, a, _, rfl, hs1.symm, rfl, _, rfl, iteT ?_⟩
    have fin : ∃ p xs, V.ref tv = .ref p ∧ (SqL K H1 p xs ∨ SqT K H1 p xs) ∧ flatV (V.str n) = true ∧ xs.all flatV = true ∧ Q (.bl (inV (.str n) xs)) H1 := by
      refine ⟨tv, _, rfl, .inr (T.vn _), rfl, flat_strs VN, ?_⟩
      rw [inV_str n VN, decide_eq_true hn]
      exact k _ e
    refine ⟨_, rfl, ?_⟩
    rcases hs1 with h | h
    · exact .inr (.inl ⟨a, _, _, _, rfl, rfl, h, atI_nat (j := 0) rfl, fin⟩)
    · exact .inl ⟨a, _, _, _, rfl, rfl, h, atI_nat (j := 0) rfl, fin⟩
def spIsSet : Sp := fun vs H Q _ => ∃ (n : Str) (v : V), vs = [.str n, v] ∧ SetOk n v ∧ Q (.bl true) H
abbrev s_is_setting : Stmt := topS 19
theorem sc_is_setting : FnScope ["name", "value", "low", "high"] ["name", "value"] (defScope s_is_setting) := ⟨rfl, rfl, rfl, by decide +kernel, rfl, by decide +kernel, by decide +kernel⟩
theorem ok_is_setting {f : Addr} {fd : FuncData} (F : Fun K "_is_setting" "_is_setting" s_is_setting f fd) (T : Txt K w mg tv tp tk dl C) (C_is_integer_from : CallOk P w K mg base 2 "is_integer_from" ["value", "low", "high"] spIntFrom) : FnOk P w K mg base CX0 3 f fd ["name", "value"] spIsSet := by
  obtain ⟨es, en, D⟩ := T.lim
  refine F.ok sc_is_setting (fun vs H Q E h => ?_) (fun cdv A outer s H vs Q E hr h => ?_)
  · obtain ⟨n, v, rfl, _⟩ := h
    rfl
  · obtain ⟨n, v, rfl, hv, k⟩ := h
    refine ⟨_, (pss_cons (ps_if (pt_cmpR (op_in_kd D) (pv 0) (pe_glob (v := .ref dl) (by rfl) T.g__LIMITS rfl) (by rfl))
        (pss_cons (ps_asg (pe_ix ix_kdict (pe_glob (v := .ref dl) (by rfl) T.g__LIMITS rfl) (pv 0) (fun _ _ => rfl)) (pg_tup rfl (pgs_cons (pg_name (i := 2) sc_is_setting.nd rfl (.inl rfl)) (pgs_cons (pg_name (i := 3) sc_is_setting.nd rfl (.inl rfl)) pgs_nil))))
        (pss_one (ps_ret (pe_cc C_is_integer_from (hr.mono (by decide)) (by rfl) (pa_cons (pv 1) (pa_cons (pv 2) (pa_cons (pv 3) pa_nil)))))))
        pss_nil)
      (pss_one (ps_ret (pe_and (pe_cmpR op_in_seq (pv 0) (pe_glob (v := .ref tv) (by rfl) T.g_VALUE_NAMES rfl) (by rfl)) (pe_one (pe_or (pe_cmpR op_is_bl (pv 1) pe_bl (nomark _)) (pe_one (pe_cmpR op_is_bl (pv 1) pe_bl (nomark _))))))))), ?_⟩
    have hc : (∃ lo hi i : Int, ((n = "face" ∧ lo = 0 ∧ hi = 1) ∨ (n = "measure" ∧ lo = 1 ∧ hi = 6) ∨ (n = "space" ∧ lo = 0 ∧ hi = 2)) ∧ v = .int i ∧ lo ≤ i ∧ i ≤ hi) ∨ ((n = "kept" ∨ n = "page" ∨ n = "out") ∧ ∃ b, v = .bl b) := by
      rcases hv with ⟨hn, i, hv, h1, h2⟩ | ⟨hn, i, hv, h1, h2⟩ | ⟨hn, i, hv, h1, h2⟩ | h
      · exact .inl ⟨0, 1, i, .inl ⟨hn, rfl, rfl⟩, hv, h1, h2⟩
      · exact .inl ⟨1, 6, i, .inr (.inl ⟨hn, rfl, rfl⟩), hv, h1, h2⟩
      · exact .inl ⟨0, 2, i, .inr (.inr ⟨hn, rfl, rfl⟩), hv, h1, h2⟩
      · exact .inr h
    rcases hc with ⟨lo, hi, i, hc, rfl, h1, h2⟩ | ⟨hn, b, rfl⟩
    · obtain ⟨t, ht, hq⟩ := T.lims n lo hi hc
      refine ⟨_, rfl, n, _, rfl, rfl, ht, _, rfl, iteT ?_⟩
      refine ⟨_, rfl, dl, n, .ref t, rfl, rfl, ⟨es, en, _, D.at_, D.lit, ht, rfl⟩, ?_⟩
      exact ⟨t, _, rfl, hq _, rfl, _, _, rfl, _, _, rfl, rfl, _, rfl, _, rfl, _, rfl, i, lo, hi, rfl, h1, h2, k⟩
    · refine ⟨_, rfl, n, none, rfl, rfl, T.nolim n hn, _, rfl, iteF ?_⟩
      have hm : n ∈ VN := by rcases hn with rfl | rfl | rfl <;> decide
      refine ⟨_, rfl, tv, _, rfl, .inr (T.vn _), rfl, flat_strs VN, ?_⟩
      show ∃ c, V.bl (inV (.str n) (VN.map V.str)) = .bl c ∧ _
      rw [inV_str n VN, decide_eq_true hm]
      refine ⟨_, rfl, iteT ?_⟩
      cases b with
      | true => exact ⟨_, rfl, _, _, rfl, rfl, _, rfl, iteT k⟩
      | false => exact ⟨_, rfl, _, _, rfl, rfl, _, rfl, iteF ⟨_, rfl, _, _, rfl, rfl, k⟩⟩
end
end Pa
set_option maxRecDepth 100000
set_option maxHeartbeats 4000000
namespace Pa
open PySem PySem.Spec PyProof.Rows L2 RZ
/-! ### data and its == -/
theorem e_tt (a b : List PyData) : PyData.eqv (.tuple a) (.tuple b) = PyData.eqvAll a b := by rw [PyData.eqv]
theorem e_ll (a b : List PyData) : PyData.eqv (.list a) (.list b) = PyData.eqvAll a b := by rw [PyData.eqv]
theorem e_cons (x y : PyData) (xs ys : List PyData) : PyData.eqvAll (x :: xs) (y :: ys) = (PyData.eqv x y && PyData.eqvAll xs ys) := by rw [PyData.eqvAll]
theorem e_nil : PyData.eqvAll [] [] = true := by rw [PyData.eqvAll]
theorem e_nc (y : PyData) (ys : List PyData) : PyData.eqvAll [] (y :: ys) = false := by rw [PyData.eqvAll]
theorem e_cn (x : PyData) (xs : List PyData) : PyData.eqvAll (x :: xs) [] = false := by rw [PyData.eqvAll]
theorem e_ss (x y : Str) : PyData.eqv (.str x) (.str y) = (x == y) := by rw [PyData.eqv]
theorem e_ii (x y : Int) : PyData.eqv (.int x) (.int y) = (x == y) := by rw [PyData.eqv]
theorem e_bb (x y : Bool) : PyData.eqv (.bool x) (.bool y) = (x == y) := by rw [PyData.eqv]
def vD : V → PyData
  | .int i => .int i
  | .bl b => .bool b
  | .str x => .str x
  | _ => .none
def pairD (x : Str × V) : PyData := .tuple [.str x.1, vD x.2]
theorem set_eqv {n : Str} {u v : V} (hu : SetOk n u) (hv : SetOk n v) : PyData.eqv (vD u) (vD v) = decide (u = v) := by
  have int : ∀ i j : Int, PyData.eqv (vD (.int i)) (vD (.int j)) = decide (V.int i = V.int j) := fun i j => by
    show PyData.eqv (.int i) (.int j) = _
    rw [e_ii]
    by_cases e : i = j
    · subst e; simp
    · simp [e]
  have bl : ∀ i j : Bool, PyData.eqv (vD (.bl i)) (vD (.bl j)) = decide (V.bl i = V.bl j) := fun i j => by
    show PyData.eqv (.bool i) (.bool j) = _
    rw [e_bb]
    cases i <;> cases j <;> rfl
  have kd : (∃ i, u = .int i ∧ ∃ j, v = .int j) ∨ ∃ i, u = .bl i ∧ ∃ j, v = .bl j := by
    rcases hu with ⟨a, i, ha, _⟩ | ⟨a, i, ha, _⟩ | ⟨a, i, ha, _⟩ | ⟨a, b, ha⟩
    · rcases hv with ⟨c, j, hc, _⟩ | ⟨c, j, hc, _⟩ | ⟨c, j, hc, _⟩ | ⟨c, j, hc⟩
      · exact .inl ⟨i, ha, j, hc⟩
      · exact .inl ⟨i, ha, j, hc⟩
      · exact .inl ⟨i, ha, j, hc⟩
      · subst a; rcases c with c | c | c <;> exact absurd c (by decide)
    · rcases hv with ⟨c, j, hc, _⟩ | ⟨c, j, hc, _⟩ | ⟨c, j, hc, _⟩ | ⟨c, j, hc⟩
      · exact .inl ⟨i, ha, j, hc⟩
      · exact .inl ⟨i, ha, j, hc⟩
      · exact .inl ⟨i, ha, j, hc⟩
      · subst a; rcases c with c | c | c <;> exact absurd c (by decide)
    · rcases hv with ⟨c, j, hc, _⟩ | ⟨c, j, hc, _⟩ | ⟨c, j, hc, _⟩ | ⟨c, j, hc⟩
      · exact .inl ⟨i, ha, j, hc⟩
      · exact .inl ⟨i, ha, j, hc⟩
      · exact .inl ⟨i, ha, j, hc⟩
      · subst a; rcases c with c | c | c <;> exact absurd c (by decide)
    · rcases hv with ⟨c, j, hc, _⟩ | ⟨c, j, hc, _⟩ | ⟨c, j, hc, _⟩ | ⟨c, j, hc⟩
      · subst c; rcases a with a | a | a <;> exact absurd a (by decide)
      · subst c; rcases a with a | a | a <;> exact absurd a (by decide)
      · subst c; rcases a with a | a | a <;> exact absurd a (by decide)
      · exact .inr ⟨b, ha, j, hc⟩
  rcases kd with ⟨i, rfl, j, rfl⟩ | ⟨i, rfl, j, rfl⟩
  · exact int i j
  · exact bl i j
theorem pair_eqv {x y : Str × V} (hx : SetOk x.1 x.2) (hy : SetOk y.1 y.2) : PyData.eqv (pairD x) (pairD y) = decide (x = y) := by
  obtain ⟨n, u⟩ := x
  obtain ⟨m, v⟩ := y
  show PyData.eqv (.tuple [.str n, vD u]) (.tuple [.str m, vD v]) = _
  rw [e_tt, e_cons, e_cons, e_nil, e_ss, Bool.and_true]
  by_cases e : n = m
  · subst e
    rw [set_eqv hx hy]
    simp
  · simp [e]
theorem pairs_eqv : ∀ {xs ys : List (Str × V)}, (∀ x ∈ xs, SetOk x.1 x.2) → (∀ x ∈ ys, SetOk x.1 x.2) → PyData.eqvAll (xs.map pairD) (ys.map pairD) = decide (xs = ys)
  | [], [], _, _ => by rw [List.map_nil, e_nil]; simp
  | [], y :: ys, _, _ => by rw [List.map_nil, List.map_cons, e_nc]; simp
  | x :: xs, [], _, _ => by rw [List.map_nil, List.map_cons, e_cn]; simp
  | x :: xs, y :: ys, h1, h2 => by
    rw [List.map_cons, List.map_cons, e_cons, pair_eqv (h1 x List.mem_cons_self) (h2 y List.mem_cons_self), pairs_eqv (fun z hz => h1 z (List.mem_cons_of_mem _ hz)) fun z hz => h2 z (List.mem_cons_of_mem _ hz)]
    by_cases e1 : x = y
    · subst e1
      simp
    · simp [e1]
theorem strs_eqv : ∀ xs ys : List Str, PyData.eqvAll (xs.map PyData.str) (ys.map PyData.str) = decide (xs = ys)
  | [], [] => by rw [List.map_nil, e_nil]; simp
  | [], y :: ys => by rw [List.map_nil, List.map_cons, e_nc]; simp
  | x :: xs, [] => by rw [List.map_nil, List.map_cons, e_cn]; simp
  | x :: xs, y :: ys => by
    rw [List.map_cons, List.map_cons, e_cons, e_ss, strs_eqv]
    by_cases e1 : x = y
    · subst e1
      simp
    · simp [e1]
theorem can_all {α : Type} {f : α → PyData} : ∀ {xs : List α}, (∀ x ∈ xs, (f x).canLay0 = true) → PyData.canLayAll0 (xs.map f) = true
  | [], _ => rfl
  | x :: xs, h => by
    rw [List.map_cons, PyData.canLayAll0, h x List.mem_cons_self, can_all fun y hy => h y (List.mem_cons_of_mem _ hy)]
    rfl
theorem dep_all {α : Type} {f : α → PyData} {n : Nat} : ∀ {xs : List α}, (∀ x ∈ xs, (f x).depth ≤ n) → PyData.depthAll (xs.map f) ≤ n
  | [], _ => by rw [List.map_nil, PyData.depthAll]; exact Nat.zero_le _
  | x :: xs, h => by
    rw [List.map_cons, PyData.depthAll]
    exact Nat.max_le.mpr ⟨h x List.mem_cons_self, dep_all fun y hy => h y (List.mem_cons_of_mem _ hy)⟩
theorem sh_tup {α : Type} {f : α → PyData} {xs : List α} (h : ∀ x ∈ xs, (f x).canLay0 = true ∧ (f x).depth ≤ 2) : SeqAt.shaped (.tuple (xs.map f)) = true := by
  unfold SeqAt.shaped
  rw [PyData.canLay0, can_all fun x hx => (h x hx).1, PyData.depth]
  have := dep_all (n := 2) fun x hx => (h x hx).2
  simp only [Bool.true_and, decide_eq_true_eq]
  omega
theorem sh_lst {α : Type} {f : α → PyData} {xs : List α} (h : ∀ x ∈ xs, (f x).canLay0 = true ∧ (f x).depth ≤ 2) : SeqAt.shaped (.list (xs.map f)) = true := by
  unfold SeqAt.shaped
  rw [PyData.canLay0, can_all fun x hx => (h x hx).1, PyData.depth]
  have := dep_all (n := 2) fun x hx => (h x hx).2
  simp only [Bool.true_and, decide_eq_true_eq]
  omega
theorem okK {s : Str} (h : IsK s) : PyData.strOk s = true := by rcases h with rfl | rfl | rfl | rfl <;> decide +kernel
theorem okM {s : Str} (h : IsM s) : PyData.strOk s = true := by rcases h with rfl | rfl | rfl <;> decide +kernel
theorem pat_all {ps : List Str} (h : PatOk ps) : ∀ s ∈ ps, (PyData.str s).canLay0 = true ∧ (PyData.str s).depth ≤ 2 := by
  obtain ⟨k, m, p, a, e, rfl, hk, hm, hp, ha, he⟩ := h
  intro s hs
  refine ⟨?_, by rw [PyData.depth]; exact Nat.zero_le _⟩
  rw [PyData.canLay0]
  simp only [List.mem_cons, List.not_mem_nil, or_false] at hs
  rcases hs with rfl | rfl | rfl | rfl | rfl
  · exact okK hk
  · exact okM hm
  · exact okK hp
  · exact okM ha
  · exact okK he
theorem set_name {n : Str} {v : V} (h : SetOk n v) : n ∈ VN := by
  rcases h with ⟨rfl, _⟩ | ⟨rfl, _⟩ | ⟨rfl, _⟩ | ⟨rfl | rfl | rfl, _⟩ <;> decide
theorem name_ok {n : Str} (h : n ∈ VN) : PyData.strOk n = true := by
  simp only [List.mem_cons, List.not_mem_nil, or_false] at h
  rcases h with rfl | rfl | rfl | rfl | rfl | rfl <;> decide +kernel
theorem vD_lay {n : Str} {v : V} (h : SetOk n v) : (vD v).canLay0 = true ∧ (vD v).depth = 0 := by
  rcases h with ⟨_, i, rfl, _⟩ | ⟨_, i, rfl, _⟩ | ⟨_, i, rfl, _⟩ | ⟨_, b, rfl⟩ <;> exact ⟨by simp [vD, PyData.canLay0], by simp [vD, PyData.depth]⟩
theorem pair_lay {x : Str × V} (h : SetOk x.1 x.2) : (pairD x).canLay0 = true ∧ (pairD x).depth ≤ 2 := by
  obtain ⟨h1, h2⟩ := vD_lay h
  unfold pairD
  refine ⟨?_, ?_⟩
  · rw [PyData.canLay0, PyData.canLayAll0, PyData.canLayAll0, PyData.canLayAll0, PyData.canLay0, name_ok (set_name h), h1]
    rfl
  · simp [PyData.depth, PyData.depthAll, h2]
/-! ### a rule in the heap -/
def Sets (K : PySem.W.Frag) (H : Hp) (rs : List Addr) (sets : List (Str × V)) : Prop := Paired (fun r x => SqT K H r [.str x.1, x.2]) rs sets
theorem Sets.ext {K : PySem.W.Frag} {H H' : Hp} {rs : List Addr} {sets : List (Str × V)} (h : Sets K H rs sets) (e : Ext H H') : Sets K H' rs sets := by
  unfold Sets at *
  induction h with
  | nil => exact .nil
  | cons a _ ih => exact .cons (SqT.ext a e) ih
structure RuleAt (K : PySem.W.Frag) (C : Addr) (H : Hp) (a : Addr) (w : Int) (ps : List Str) (sets : List (Str × V)) : Prop where
  ex : ∃ dx pt st rs, H a = some (.ins C dx [("weight", .int w), ("pattern", .ref pt), ("settings", .ref st)]) ∧ SqT K H pt (ps.map V.str) ∧ SqT K H st (rs.map V.ref) ∧ Sets K H rs sets
theorem RuleAt.ext {K : PySem.W.Frag} {C : Addr} {H H' : Hp} {a : Addr} {w : Int} {ps : List Str} {sets : List (Str × V)} (h : RuleAt K C H a w ps sets) (e : Ext H H') : RuleAt K C H' a w ps sets := by
  obtain ⟨dx, pt, st, rs, h1, h2, h3, h4⟩ := h.ex
  exact ⟨dx, pt, st, rs, e _ _ h1, h2.ext e, h3.ext e, h4.ext e⟩
theorem dp_strs {K : PySem.W.Frag} {H : Hp} : ∀ ps : List Str, DpAll K H (ps.map V.str) (ps.map PyData.str)
  | [] => .nil
  | p :: ps => .cons (.str p) (dp_strs ps)
theorem dp_v {K : PySem.W.Frag} {H : Hp} {n : Str} {v : V} (h : SetOk n v) : Dp K H v (vD v) := by
  rcases h with ⟨_, i, rfl, _⟩ | ⟨_, i, rfl, _⟩ | ⟨_, i, rfl, _⟩ | ⟨_, b, rfl⟩
  · exact .int i
  · exact .int i
  · exact .int i
  · exact .bl b
theorem dp_sets {K : PySem.W.Frag} {H : Hp} {rs : List Addr} {sets : List (Str × V)} (h : Sets K H rs sets) (hs : ∀ x ∈ sets, SetOk x.1 x.2) : DpAll K H (rs.map V.ref) (sets.map pairD) := by
  unfold Sets at h
  induction h with
  | nil => exact .nil
  | @cons r x _ _ a _ ih => exact .cons (.tup a (.cons (.str x.1) (.cons (dp_v (hs x List.mem_cons_self)) .nil))) (ih fun y hy => hs y (List.mem_cons_of_mem _ hy))
/-- facts of the class -/
structure TxR (K : PySem.W.Frag) (C : Addr) : Prop where
  cl : Cls K C
  nw : PySem.W.findIn K (.ref C) "weight" = some none
  np : PySem.W.findIn K (.ref C) "pattern" = some none
  ns : PySem.W.findIn K (.ref C) "settings" = some none
  ha : PySem.W.findIn K (.ref C) "__class__" = some (some (.builtin "object.__class__"))
  hn : PySem.W.specialIn K (.builtin "object.__class__") "__get__" = some (some (.builtin "getset_descriptor.__get__"))
  htk : PySem.W.takesIn K (.builtin "object.__class__") = some true
  hm : PySem.W.mroIn K C (.type "object") = some true
  kc : PySem.W.kitOne K (.ref C) (.ref C) = some true
section
variable {P : Program} {w : World} {K : PySem.W.Frag} {mg : Str → Option Value} {base : Heap} {tv tp tk dl C : Addr}
def spSetting (K : PySem.W.Frag) (C : Addr) : Sp := fun vs H Q _ => ∃ (a : Addr) (n : Str) (wt : Int) (ps : List Str) (sets : List (Str × V)), vs = [.ref a, .str n] ∧ RuleAt K C H a wt ps sets ∧ Q ((sets.lookup n).getD .non) H
abbrev sRule_setting : Stmt := inClass (topS 16) 2
theorem scRule_setting : FnScope ["self", "name", "other", "value"] ["self", "name"] (defScope sRule_setting) := ⟨rfl, rfl, rfl, by decide +kernel, rfl, by decide +kernel, by decide +kernel⟩
theorem sets_at {K : PySem.W.Frag} {H : Hp} {rs : List Addr} {sets : List (Str × V)} (h : Sets K H rs sets) : ∀ {i : Nat} {x : V}, (rs.map V.ref)[i]? = some x → ∃ r y, x = .ref r ∧ sets[i]? = some y ∧ SqT K H r [.str y.1, y.2] := by
  unfold Sets at h
  induction h with
  | nil => intro i x e; simp at e
  | @cons r y _ _ a _ ih =>
    intro i x e
    cases i with
    | zero =>
      cases e
      exact ⟨r, y, rfl, rfl, a⟩
    | succ i => exact ih e
theorem lookup_take {sets : List (Str × V)} {n : Str} {i : Nat} {y : Str × V} (h : (sets.take i).lookup n = none) (hy : sets[i]? = some y) : (sets.take (i + 1)).lookup n = if n == y.1 then some y.2 else none := by
  rw [List.take_add_one, hy, lookup_app, h]
  show ([y] : List (Str × V)).lookup n = _
  rw [List.lookup_cons]
  cases n == y.1 <;> rfl
theorem ok_setting {f : Addr} {fd : FuncData} (F : Fun K "setting" "Rule.setting" sRule_setting f fd) (T : TxR K C) : FnOk P w K mg base CX0 1 f fd ["self", "name"] (spSetting K C) := by
  refine F.ok scRule_setting (fun vs H Q E h => ?_) (fun cdv A outer s H vs Q E hr h => ?_)
  · obtain ⟨a, n, wt, ps, sets, rfl, _⟩ := h
    rfl
  · obtain ⟨a, n, wt, ps, sets, rfl, hR, k⟩ := h
    obtain ⟨dx, pt, st, rs, h1, h2, h3, h4⟩ := hR.ex
    refine ⟨_, (pss_cons (ps_for PassesOwn.never rfl (pi_tup (pe_fld (pv 0) rfl)) (pg_tup rfl (pgs_cons (pg_name (i := 2) scRule_setting.nd rfl (.inl rfl)) (pgs_cons (pg_name (i := 3) scRule_setting.nd rfl (.inl rfl)) pgs_nil)))
        (pss_one (ps_if (pt_cmpR op_eq (pv 2) (pv 1) (nomark _))
          (pss_one (ps_ret (pv 3)))
          pss_nil)))
      (pss_one (ps_ret pe_non))), ?_⟩
    refine ⟨_, rfl, a, C, dx, _, _, rfl, h1, T.cl, T.ns, rfl, st, rfl, ⟨_, h3⟩, ?_⟩
    refine for_tup (xs := rs.map V.ref) (fun i σ H' => H' = H ∧ (sets.take i).lookup n = none ∧ ∃ x2 x3, σ = [some (.ref a), some (.str n), x2, x3]) ⟨rfl, by simp, _, _, rfl⟩ (fun i σ H' _ h => by rw [h.1]; exact h3) (fun i x σ H' hx h => ?_) (fun σ H' h => ?_)
    · obtain ⟨rfl, hl, x2, x3, rfl⟩ := h
      obtain ⟨r, y, rfl, hy, hq⟩ := sets_at h4 hx
      refine ⟨r, _, rfl, hq, rfl, _, _, rfl, _, _, rfl, rfl, ?_⟩
      refine ⟨_, rfl, _, rfl, rfl, _, rfl, ?_⟩
      have el := lookup_take hl hy
      by_cases e : y.1 = n
      · have : (n == y.1) = true := by rw [e]; exact beq_self_eq_true n
        rw [this, if_pos rfl] at el
        have e2 : sets.lookup n = some y.2 := by
          have e3 : sets = sets.take (i + 1) ++ sets.drop (i + 1) := (List.take_append_drop _ _).symm
          rw [e3, lookup_app, el]
          rfl
        rw [decide_eq_true (by rw [e] : V.str y.1 = V.str n)]
        refine iteT ⟨_, rfl, ?_⟩
        rw [e2] at k
        exact k
      · have : (n == y.1) = false := beq_eq_false_iff_ne.mpr fun q => e q.symm
        rw [this, if_neg Bool.false_ne_true] at el
        rw [decide_eq_false (fun q => e (V.str.inj q) : ¬ V.str y.1 = V.str n)]
        exact iteF ⟨rfl, el, _, _, rfl⟩
    · obtain ⟨rfl, hl, _⟩ := h
      have e : sets.length = rs.length := (Paired.length h4).symm
      rw [List.length_map, ← e, List.take_length] at hl
      rw [hl] at k
      exact k
end
end Pa
set_option maxRecDepth 100000
set_option maxHeartbeats 4000000
namespace Pa
open PySem PySem.Spec PyProof.Rows L2 RZ
/-- m stands in mk -/
def sub (m mk : Str) : Bool := !(Builtin.Str.occurrences mk m 0 mk.length 1).isEmpty
/-- whether a rule matches a piece -/
def matchB (ps : List Str) (kd mk c0 c1 c2 : Str) : Bool := match ps with
  | [k, m, p, a, e] => decide (k ∈ (["", kd] : List Str)) && (decide (p ∈ (["", c0] : List Str)) && (decide (e ∈ (["", c2] : List Str)) && (sub m mk && sub a c1)))
  | _ => false
section
variable {P : Program} {w : World} {K : PySem.W.Frag} {mg : Str → Option Value} {base : Heap} {tv tp tk dl C : Addr}
def spCallR (K : PySem.W.Frag) (C : Addr) : Sp := fun vs H Q _ => ∃ (a cx : Addr) (kd mk c0 c1 c2 : Str) (rest : List V) (wt : Int) (ps : List Str) (sets : List (Str × V)), vs = [.ref a, .str kd, .str mk, .ref cx] ∧ RuleAt K C H a wt ps sets ∧ PatOk ps ∧
  SqT K H cx (.str c0 :: .str c1 :: .str c2 :: rest) ∧ ∀ H', Ext H H' → Q (.bl (matchB ps kd mk c0 c1 c2)) H'
abbrev sRule___call__ : Stmt := inClass (topS 16) 3
theorem scRule___call__ : FnScope ["self", "kind", "marks", "context", "kind_text", "mark", "parent", "above", "elder"] ["self", "kind", "marks", "context"] (defScope sRule___call__) := ⟨rfl, rfl, rfl, by decide +kernel, rfl, by decide +kernel, by decide +kernel⟩
theorem ok_callR {f : Addr} {fd : FuncData} (F : Fun K "__call__" "Rule.__call__" sRule___call__ f fd) (T : TxR K C) : FnOk P w K mg base CX0 1 f fd ["self", "kind", "marks", "context"] (spCallR K C) := by
  refine F.ok scRule___call__ (fun vs H Q E h => ?_) (fun cdv A outer s H vs Q E hr h => ?_)
  · obtain ⟨a, cx, kd, mk, c0, c1, c2, rest, wt, ps, sets, rfl, _⟩ := h
    rfl
  · obtain ⟨a, cx, kd, mk, c0, c1, c2, rest, wt, ps, sets, rfl, hR, hp, hc, k⟩ := h
    obtain ⟨dx, pt, st, rs, h1, h2, h3, h4⟩ := hR.ex
    obtain ⟨pk, pm, pp, pa, pe, rfl, _⟩ := hp
    refine ⟨_, (pss_cons (ps_asg (pe_fld (pv 0) rfl) (pg_tup rfl (pgs_cons (pg_name (i := 4) scRule___call__.nd rfl (.inl rfl)) (pgs_cons (pg_name (i := 5) scRule___call__.nd rfl (.inl rfl)) (pgs_cons (pg_name (i := 6) scRule___call__.nd rfl (.inl rfl)) (pgs_cons (pg_name (i := 7) scRule___call__.nd rfl (.inl rfl)) (pgs_cons (pg_name (i := 8) scRule___call__.nd rfl (.inl rfl)) pgs_nil)))))))
      (pss_cons (ps_if (PW.pt (pw_or (pt_cmpR op_notIn_seq (pv 4) (pe_tup (pa_cons pe_str (pa_cons (pv 1) pa_nil))) (by rfl)) (pw_or (pt_cmpR op_notIn_seq (pv 6) (pe_tup (pa_cons pe_str (pa_cons (pe_ix ix_tup (pv 3) pe_int (fun _ _ => rfl)) pa_nil))) (by rfl)) (pw_or1 (pt_cmpR op_notIn_seq (pv 8) (pe_tup (pa_cons pe_str (pa_cons (pe_ix ix_tup (pv 3) pe_int (fun _ _ => rfl)) pa_nil))) (by rfl))))))
        (pss_one (ps_ret pe_bl))
        pss_nil)
      (pss_one (ps_ret (pe_and (pe_cmpR op_in_str (pv 5) (pv 2) (by rfl)) (pe_one (pe_cmpR op_in_str (pv 7) (pe_ix ix_tup (pv 3) pe_int (fun _ _ => rfl)) (by rfl)))))))), ?_⟩
    refine ⟨_, rfl, a, C, dx, _, _, rfl, h1, T.cl, T.np, rfl, pt, _, rfl, h2, rfl, _, _, rfl, _, _, rfl, _, _, rfl, _, _, rfl, _, _, rfl, rfl, ?_⟩
    have iv : ∀ x y : Str, inV (.str x) [.str "", .str y] = decide (x ∈ (["", y] : List Str)) := fun x y => inV_str x ["", y]
    refine ⟨_, rfl, _, rfl, (by show 2 ≤ sizeLine; decide), fun t ht => ⟨t, _, rfl, .inr (SqT.of upd_same), rfl, rfl, _, rfl, ?_⟩⟩
    have e1 := Ext.upd (o := .tup [.str "", .str kd]) ht
    show if (!inV (.str pk) [.str "", .str kd]) = true then _ else _
    rw [iv]
    by_cases qk : pk ∈ (["", kd] : List Str)
    · rw [decide_eq_true qk]
      refine iteF ?_
      refine ⟨_, rfl, _, rfl, cx, _, _, _, rfl, rfl, hc.ext e1, atI_nat (j := 0) rfl, (by show 2 ≤ sizeLine; decide), fun t2 ht2 => ⟨t2, _, rfl, .inr (SqT.of upd_same), rfl, rfl, _, rfl, ?_⟩⟩
      have e2 := e1.upd' (o := .tup [.str "", .str c0]) ht2
      show if (!inV (.str pp) [.str "", .str c0]) = true then _ else _
      rw [iv]
      by_cases qp : pp ∈ (["", c0] : List Str)
      · rw [decide_eq_true qp]
        refine iteF ?_
        refine ⟨_, rfl, _, rfl, cx, _, _, _, rfl, rfl, hc.ext e2, atI_nat (j := 2) rfl, (by show 2 ≤ sizeLine; decide), fun t3 ht3 => ⟨t3, _, rfl, .inr (SqT.of upd_same), rfl, rfl, _, rfl, ?_⟩⟩
        have e3 := e2.upd' (o := .tup [.str "", .str c2]) ht3
        show if (!inV (.str pe) [.str "", .str c2]) = true then _ else _
        rw [iv]
        have k3 := k _ e3
        unfold matchB at k3
        simp only at k3
        rw [decide_eq_true qk, decide_eq_true qp, Bool.true_and, Bool.true_and] at k3
        by_cases qe : pe ∈ (["", c2] : List Str)
        · rw [decide_eq_true qe] at k3 ⊢
          rw [Bool.true_and] at k3
          refine iteF ?_
          refine ⟨_, rfl, _, rfl, _, _, rfl, rfl, ?_⟩
          show ∃ c, V.bl (sub pm mk) = .bl c ∧ _
          refine ⟨_, rfl, ?_⟩
          cases hm : sub pm mk with
          | true =>
            rw [hm, Bool.true_and] at k3
            exact iteT ⟨_, rfl, _, rfl, cx, _, _, _, rfl, rfl, hc.ext e3, atI_nat (j := 1) rfl, _, _, rfl, rfl, k3⟩
          | false =>
            rw [hm, Bool.false_and] at k3
            exact iteF k3
        · rw [decide_eq_false qe] at k3 ⊢
          rw [Bool.false_and] at k3
          exact iteT k3
      · have k2 := k _ e2
        unfold matchB at k2
        simp only at k2
        rw [decide_eq_false qp, Bool.false_and, Bool.and_false] at k2
        rw [decide_eq_false qp]
        exact iteT k2
    · have k1 := k _ e1
      unfold matchB at k1
      simp only at k1
      rw [decide_eq_false qk, Bool.false_and] at k1
      rw [decide_eq_false qk]
      exact iteT k1
/-- settings that may stand -/
def SetsOk (sets : List (Str × V)) : Prop := ∀ x ∈ sets, SetOk x.1 x.2
def spEqR (K : PySem.W.Frag) (C : Addr) : Sp := fun vs H Q _ => ∃ (a : Addr) (y : V) (wt : Int) (ps : List Str) (sets : List (Str × V)), vs = [.ref a, y] ∧ RuleAt K C H a wt ps sets ∧ PatOk ps ∧ SetsOk sets ∧
  ((∃ (b : Addr) (w' : Int) (ps' : List Str) (sets' : List (Str × V)), y = .ref b ∧ RuleAt K C H b w' ps' sets' ∧ PatOk ps' ∧ SetsOk sets' ∧ Q (.bl (decide (wt = w' ∧ ps = ps' ∧ sets = sets'))) H) ∨ ∃ tb, TyX K H y tb ∧ PySem.W.kitOne K tb (.ref C) = some false ∧ Q (.bl false) H)
abbrev sRule___eq__ : Stmt := inClass (topS 16) 4
theorem scRule___eq__ : FnScope ["self", "other"] ["self", "other"] (defScope sRule___eq__) := ⟨rfl, rfl, rfl, by decide +kernel, rfl, by decide +kernel, by decide +kernel⟩
theorem ok_eqR {f : Addr} {fd : FuncData} (F : Fun K "__eq__" "Rule.__eq__" sRule___eq__ f fd) (T : TxR K C) (g : mg "Rule" = some (.ref C)) (bi : mg "isinstance" = none) : FnOk P w K mg base CX0 1 f fd ["self", "other"] (spEqR K C) := by
  refine F.ok scRule___eq__ (fun vs H Q E h => ?_) (fun cdv A outer s H vs Q E hr h => ?_)
  · obtain ⟨a, y, wt, ps, sets, rfl, _⟩ := h
    rfl
  · obtain ⟨a, y, wt, ps, sets, rfl, hR, hp, hs, k⟩ := h
    obtain ⟨dx, pt, st, rs, h1, h2, h3, h4⟩ := hR.ex
    refine ⟨_, (pss_cons (ps_if (pt_not (pt_val (pe_callB call_isi (by rfl) bi (by decide +kernel) (pa_cons (pv 1) (pa_cons (pe_glob (v := .ref C) (by rfl) g rfl) pa_nil)))))
        (pss_one (ps_ret pe_bl))
        pss_nil)
      (pss_one (ps_ret (pe_and (pe_cmpR op_eq (pe_fld (pv 0) rfl) (pe_fld (pv 1) rfl) (nomark _)) (pe_and (pe_cmpR (op_eqD hr.units) (pe_fld (pv 0) rfl) (pe_fld (pv 1) rfl) (nomark _)) (pe_one (pe_cmpR (op_eqD hr.units) (pe_fld (pv 0) rfl) (pe_fld (pv 1) rfl) (nomark _)))))))), ?_⟩
    rcases k with ⟨b, w', ps', sets', rfl, hR', hp', hs', k⟩ | ⟨tb, ht, hk, k⟩
    · obtain ⟨dx', pt', st', rs', h1', h2', h3', h4'⟩ := hR'.ex
      refine ⟨_, rfl, _, _, _, _, _, rfl, .own C, .base (.ins h1' T.cl T.ha T.hn T.htk T.hm), T.kc, _, rfl, iteF ?_⟩
      refine ⟨_, rfl, a, C, dx, _, _, rfl, h1, T.cl, T.nw, rfl, _, rfl, b, C, dx', _, _, rfl, h1', T.cl, T.nw, rfl, rfl, _, rfl, ?_⟩
      by_cases ew : wt = w'
      · subst ew
        rw [decide_eq_true (rfl : V.int wt = V.int wt)]
        refine iteT ?_
        refine ⟨_, rfl, a, C, dx, _, _, rfl, h1, T.cl, T.np, rfl, _, rfl, b, C, dx', _, _, rfl, h1', T.cl, T.np, rfl, _, _, .tup h2 (dp_strs _), .tup h2' (dp_strs _), sh_tup (pat_all hp), sh_tup (pat_all hp'), ?_⟩
        rw [e_tt, strs_eqv]
        refine ⟨_, rfl, ?_⟩
        by_cases ep : ps = ps'
        · rw [decide_eq_true ep]
          refine iteT ?_
          refine ⟨_, rfl, a, C, dx, _, _, rfl, h1, T.cl, T.ns, rfl, _, rfl, b, C, dx', _, _, rfl, h1', T.cl, T.ns, rfl, _, _, .tup h3 (dp_sets h4 hs), .tup h3' (dp_sets h4' hs'), sh_tup (fun x hx => pair_lay (hs x hx)), sh_tup (fun x hx => pair_lay (hs' x hx)), ?_⟩
          rw [e_tt, pairs_eqv hs hs']
          have e : decide (wt = wt ∧ ps = ps' ∧ sets = sets') = decide (sets = sets') := by simp [ep]
          rw [e] at k
          exact k
        · rw [decide_eq_false ep]
          refine iteF ?_
          have e : decide (wt = wt ∧ ps = ps' ∧ sets = sets') = false := by simp [ep]
          rw [e] at k
          exact k
      · rw [decide_eq_false (fun q => ew (V.int.inj q) : ¬ V.int wt = V.int w')]
        refine iteF ?_
        have e : decide (wt = w' ∧ ps = ps' ∧ sets = sets') = false := by simp [ew]
        rw [e] at k
        exact k
    · exact ⟨_, rfl, _, _, _, _, _, rfl, .own C, ht, hk, _, rfl, iteT k⟩
end
end Pa
set_option maxRecDepth 100000
set_option maxHeartbeats 4000000
namespace Pa
open PySem PySem.Spec PyProof.Rows L2 RZ StX
/-- a comprehension over a dict's keys -/
theorem lc_keys {d : Addr} {o : Obj} {kvs : List (Key × V)} {g : TG} {tt : TT} {te : TE} {vs : List Nat} {σ : L2.St} {H1 : Hp} {D : Addr} {Qd : Hp → Prop} (Pv : Nat → Hp → Prop) (h0 : Pv 0 (upd H1 D (.lst []))) (hl : ∀ i H, i ≤ kvs.length → Pv i H → H d = some (.frz o (.dK kvs)))
    (hs : ∀ i k v H, kvs[i]? = some (k, v) → Pv i H → g (kV k) (wipe σ vs) H fun σ2 H2 => wipe σ2 vs = wipe σ vs ∧ tt σ2 H2 fun b H3 =>
      if b = true then te σ2 H3 fun y H4 => ∃ acc, H4 D = some (.lst acc) ∧ acc.length < sizeLine ∧ Pv (i + 1) (upd H4 D (.lst (acc ++ [y]))) else Pv (i + 1) H3) (hd : ∀ H, Pv kvs.length H → Qd H) :
    ∃ W : Nat → Nat → Hp → Prop, (∃ m, W 0 m (upd H1 D (.lst []))) ∧ ∀ i m H, W i m H →
      ((Itk d o kvs).stop i H ∧ Qd H) ∨ ((Itk d o kvs).go i H ∧ ∃ Nx : Hp → Prop, (∀ H', Nx H' → ∃ m', m' < m ∧ W (i + 1) m' H') ∧ ∀ x H', (Itk d o kvs).yld i H x H' → g x (wipe σ vs) H' fun σ2 H2 => wipe σ2 vs = wipe σ vs ∧ tt σ2 H2 fun b H3 =>
        if b = true then te σ2 H3 fun y H4 => ∃ acc, H4 D = some (.lst acc) ∧ acc.length < sizeLine ∧ Nx (upd H4 D (.lst (acc ++ [y]))) else Nx H3) := by
  refine ⟨fun i m H => m = kvs.length - i ∧ i ≤ kvs.length ∧ Pv i H, ⟨kvs.length, by simp, Nat.zero_le _, h0⟩, ?_⟩
  rintro i m H ⟨rfl, hi, p⟩
  have q := hl i H hi p
  by_cases hlt : i < kvs.length
  · refine .inr ⟨⟨q, hlt⟩, Pv (i + 1), fun H' p' => ⟨kvs.length - (i + 1), by omega, rfl, hlt, p'⟩, fun x H' y => ?_⟩
    obtain ⟨rfl, k, v, e, rfl⟩ := y
    exact hs i k v H' e p
  · have e : i = kvs.length := by omega
    subst e
    exact .inl ⟨⟨q, Nat.le_refl _⟩, hd H p⟩
/-- the settings in the order of the names -/
def ord (sets : List (Str × V)) : List (Str × V) := VN.filterMap fun n => (sets.lookup n).map fun v => (n, v)
abbrev inr (sets : List (Str × V)) : List (Key × V) := sets.map fun x => ((Sum.inr x.1 : Key), x.2)
theorem val_inr (n : Str) : ∀ sets : List (Str × V), valV (inr sets) (Sum.inr n) = sets.lookup n
  | [] => rfl
  | x :: sets => by
    have ih := val_inr n sets
    unfold valV at ih ⊢
    rw [List.lookup_cons]
    show ((((Sum.inr x.1 : Key), x.2) :: inr sets).find? fun kv => decide (kv.1 = (Sum.inr n : Key))).map (·.2) = _
    rw [List.find?_cons]
    by_cases e : x.1 = n
    · subst e
      simp
    · have e2 : (n == x.1) = false := beq_eq_false_iff_ne.mpr fun q => e q.symm
      have e3 : decide ((Sum.inr x.1 : Key) = Sum.inr n) = false := decide_eq_false fun q => e (Sum.inr.inj q)
      rw [e2]
      simp only [e3]
      exact ih
theorem lookup_mem {sets : List (Str × V)} {n : Str} {v : V} (h : sets.lookup n = some v) : (n, v) ∈ sets := by
  induction sets with
  | nil => cases h
  | cons x sets ih =>
    rw [List.lookup_cons] at h
    by_cases e : n = x.1
    · subst e
      rw [beq_self_eq_true] at h
      simp only [Option.some.injEq] at h
      subst h
      exact List.mem_cons_self
    · rw [beq_eq_false_iff_ne.mpr e] at h
      exact List.mem_cons_of_mem _ (ih h)
theorem lookup_at {sets : List (Str × V)} (hn : (sets.map (·.1)).Nodup) {x : Str × V} (hx : x ∈ sets) : sets.lookup x.1 = some x.2 := by
  induction sets with
  | nil => cases hx
  | cons y sets ih =>
    obtain ⟨n1, n2⟩ := List.nodup_cons.mp (show (y.1 :: sets.map (·.1)).Nodup from hn)
    rw [List.lookup_cons]
    rcases List.mem_cons.mp hx with e | e
    · subst e
      rw [beq_self_eq_true]
    · have ne : (x.1 == y.1) = false := beq_eq_false_iff_ne.mpr fun q => n1 (by rw [← q]; exact List.mem_map_of_mem e)
      rw [ne]
      exact ih n2 e
theorem ord_ok {sets : List (Str × V)} (h : SetsOk sets) : SetsOk (ord sets) := by
  intro x hx
  unfold ord at hx
  obtain ⟨n, _, e⟩ := List.mem_filterMap.mp hx
  cases q : sets.lookup n with
  | none => rw [q] at e; cases e
  | some v =>
    rw [q] at e
    cases e
    exact h _ (lookup_mem q)
section
variable {P : Program} {w : World} {K : PySem.W.Frag} {mg : Str → Option Value} {base : Heap} {tv tp tk dl C : Addr}
/-- what __init__'s body promises, the names bound -/
def spInitB (K : PySem.W.Frag) (C : Addr) : Sp := fun vs H Q _ => ∃ (x d dx : Addr) (wt : Int) (k m p a e : Str) (sets : List (Str × V)), vs = [.ref x, .int wt, .str k, .str m, .str p, .str a, .str e, .ref d] ∧ x ≠ d ∧ H x = some (.ins C dx []) ∧ H d = some (.dK (inr sets)) ∧
  0 ≤ wt ∧ wt ≤ 9 ∧ PatOk [k, m, p, a, e] ∧ SetsOk sets ∧ (sets.map (·.1)).Nodup ∧ sets ≠ [] ∧ sets.length ≤ 100 ∧ ∀ H', (∀ q o, q ≠ x → H q = some o → H' q = some o) → RuleAt K C H' x wt [k, m, p, a, e] (ord sets) → Q .non H'
abbrev sRule___init__ : Stmt := inClass (topS 16) 0
theorem scRule___init__ : FnScope ["self", "weight", "kind", "mark", "parent", "above", "elder", "sets", "pattern", "name"] ["self", "weight", "kind", "mark", "parent", "above", "elder", "sets"] (defScope sRule___init__) := ⟨rfl, rfl, rfl, by decide +kernel, rfl, by decide +kernel, by decide +kernel⟩
end
theorem sqt_upd {K : PySem.W.Frag} {H : Hp} {r D : Addr} {xs : List V} {u o : HO} (h : SqT K H r xs) (hD : H D = some u) (h1 : ∀ ys, u ≠ .tup ys) (h2 : ∀ ob ys, u ≠ .frz ob (.tup ys)) : SqT K (upd H D o) r xs := by
  rcases h with (h | ⟨ob, h⟩) | h
  · refine .inl (.inl ?_)
    rw [upd_ne (fun q => by rw [q, hD] at h; exact h1 _ (Option.some.inj h))]
    exact h
  · refine .inl (.inr ⟨ob, ?_⟩)
    rw [upd_ne (fun q => by rw [q, hD] at h; exact h2 _ _ (Option.some.inj h))]
    exact h
  · exact .inr h
theorem sets_upd {K : PySem.W.Frag} {H : Hp} {D : Addr} {rs : List Addr} {sets : List (Str × V)} {u o : HO} (h : Sets K H rs sets) (hD : H D = some u) (h1 : ∀ ys, u ≠ .tup ys) (h2 : ∀ ob ys, u ≠ .frz ob (.tup ys)) : Sets K (upd H D o) rs sets := by
  unfold Sets at *
  induction h with
  | nil => exact .nil
  | cons a _ ih => exact .cons (sqt_upd a hD h1 h2) ih
theorem sets_app {K : PySem.W.Frag} {H : Hp} {rs : List Addr} {sets : List (Str × V)} {r : Addr} {x : Str × V} (h : Sets K H rs sets) (hx : SqT K H r [.str x.1, x.2]) : Sets K H (rs ++ [r]) (sets ++ [x]) := by
  unfold Sets at *
  induction h with
  | nil => exact .cons hx .nil
  | cons a _ ih => exact .cons a ih
/-- the names from the left -/
def ordN (ns : List Str) (sets : List (Str × V)) : List (Str × V) := ns.filterMap fun n => (sets.lookup n).map fun v => (n, v)
theorem ordN_len (ns : List Str) (sets : List (Str × V)) : (ordN ns sets).length ≤ ns.length := List.length_filterMap_le _ _
theorem ordN_succ {sets : List (Str × V)} {ns : List Str} {i : Nat} {n : Str} (h : ns[i]? = some n) : ordN (ns.take (i + 1)) sets = ordN (ns.take i) sets ++ (match sets.lookup n with | some v => [(n, v)] | none => []) := by
  unfold ordN
  rw [List.take_add_one, h, List.filterMap_append]
  congr 1
  show List.filterMap _ [n] = _
  cases e : sets.lookup n with
  | none => simp [e]
  | some v => simp [e]
section
variable {P : Program} {w : World} {K : PySem.W.Frag} {mg : Str → Option Value} {base : Heap} {tv tp tk dl C : Addr}
theorem init_body {f : Addr} {cdv : Value} {A : Around} {outer : List Env} {s : Shared} {H : Hp} {vs : List V} {Q : VK} {E : XK} (T : Txt K w mg tv tp tk dl C) (R : TxR K C) (C_is_integer_from : CallOk P w K mg base 2 "is_integer_from" ["value", "low", "high"] spIntFrom)
    (C__is_pattern : CallOk P w K mg base 2 "_is_pattern" ["pattern"] (spIsPat K)) (C__is_setting : CallOk P w K mg base 3 "_is_setting" ["name", "value"] spIsSet)
    (hr : Room 3 (A.deeper (envOfC "Rule.__init__" (defScope sRule___init__) s.heap.objs.size f cdv))) (h : spInitB K C vs H Q E) :
    ∃ t, PSs (cxOf CX0 P w K mg base ["self", "weight", "kind", "mark", "parent", "above", "elder", "sets", "pattern", "name"] "Rule.__init__" (defScope sRule___init__) f cdv A outer s H E) (defBody sRule___init__) t ∧
      t { nx := fun _ H' => Q .non H', rt := Q } (start ["self", "weight", "kind", "mark", "parent", "above", "elder", "sets", "pattern", "name"] vs) H := by
  obtain ⟨x, d, dx, wt, k, m, p, a, e, sets, rfl, hxd, hx, hd, h0, h9, hp, hs, hnd, hne, hlen, kq⟩ := h
  have hu := hu_of hr
  refine ⟨_, (pss_cons (ps_set (i := 8) scRule___init__.nd rfl (.inl rfl) (pe_tup (pa_cons (pv 2) (pa_cons (pv 3) (pa_cons (pv 4) (pa_cons (pv 5) (pa_cons (pv 6) pa_nil)))))))
      (pss_cons (ps_if (PW.pt (pw_or (pt_not (pt_val (pe_cc C_is_integer_from (hr.mono (by decide)) (by rfl) (pa_cons (pv 1) (pa_cons pe_int (pa_cons pe_int pa_nil)))))) (pw_or (pt_not (pt_val (pe_cc C__is_pattern (hr.mono (by decide)) (by rfl) (pa_cons (pv 8) pa_nil)))) (pw_or1 (pt_not (pt_truth (pv 7) (by intro _; rfl)))))))
        (pss_one ps_never)
        pss_nil)
      (pss_cons (ps_if (pt_not (pt_val (pe_callB (cr_all rfl) (by rfl) T.b_all (by decide +kernel) (pa_cons (pe_lock (pe_lc (own := [("name", 9)]) (g := gName 9) (tt := tYes) rfl scRule___init__.nd (pi_keys (pv 7)) (blkOk_by (N := ["self", "weight", "kind", "mark", "parent", "above", "elder", "sets", "pattern", "name"]) (sc := defScope sRule___init__) (by decide +kernel)) (fun _ _ _ _ _ => (pg_name (i := 9) scRule___init__.nd rfl (.inl rfl))) (fun _ _ _ _ _ => pts_nil) (fun _ _ _ _ _ => (pe_cc C__is_setting (hr.mono (by decide)) (by rfl) (pa_cons (pv 9) (pa_cons (pe_dget hu (pv 7) (pv 9) (fun _ _ => rfl)) pa_nil)))))) pa_nil))))
        (pss_one ps_never)
        pss_nil)
      (pss_cons (ps_fld (pv 0) (pv 1) rfl)
      (pss_cons (ps_fld (pv 0) (pv 8) rfl)
      (pss_one (ps_fld (pv 0) (pe_callTy call_tuple_of (by rfl) T.b_tuple (by decide +kernel) (pa_cons (pe_lc (own := [("name", 9)]) (g := gName 9) rfl scRule___init__.nd (pi_tup (pe_glob (v := .ref tv) (by rfl) T.g_VALUE_NAMES rfl)) (blkOk_by (N := ["self", "weight", "kind", "mark", "parent", "above", "elder", "sets", "pattern", "name"]) (sc := defScope sRule___init__) (by decide +kernel)) (fun _ _ _ _ _ => (pg_name (i := 9) scRule___init__.nd rfl (.inl rfl))) (fun _ _ _ _ _ => (pts_one (pt_cmp (pc_din hu (pv 9) (pv 7))))) (fun _ _ _ _ _ => (pe_tup (pa_cons (pv 9) (pa_cons (pe_dget hu (pv 7) (pv 9) (fun _ _ => rfl)) pa_nil))))) pa_nil)) rfl))))))), ?_⟩
  refine ⟨_, rfl, _, rfl, _, rfl, _, rfl, _, rfl, (by show 5 ≤ sizeLine; decide), fun pt hpt => ?_⟩
  have e1 := Ext.upd (o := .tup [.str k, .str m, .str p, .str a, .str e]) hpt
  refine ⟨_, rfl, wt, 0, 9, rfl, h0, h9, _, rfl, iteF ?_⟩
  refine ⟨_, rfl, pt, [k, m, p, a, e], rfl, SqT.of upd_same, hp, fun H2 e2 => ⟨_, rfl, iteF ?_⟩⟩
  have e12 := e1.trans e2
  have hpt2 : SqT K H2 pt [.str k, .str m, .str p, .str a, .str e] := (SqT.of upd_same).ext e2
  refine ⟨_, rfl, true, .inr (.inr ⟨inr sets, e12 _ _ hd, ?_⟩), iteF ?_⟩
  · cases sets with
    | nil => exact absurd rfl hne
    | cons z zs => rfl
  refine ⟨d, .dK (inr sets), e12 _ _ hd, True.intro, fun od => ?_⟩
  refine ⟨_, rfl, d, od, rfl, .inl ⟨inr sets, upd_same, fun D hD => ?_⟩⟩
  have hdD : d ≠ D := ne_of_none (upd_same (H := H2) (a := d) (o := .frz od (.dK (inr sets)))) hD
  refine lc_keys (d := d) (o := od) (kvs := inr sets) (fun i H' => (∀ q u, q ≠ D → upd H2 d (.frz od (.dK (inr sets))) q = some u → H' q = some u) ∧ H' D = some (.lst ((List.replicate i true).map V.bl))) ⟨fun q u hq e => by rw [upd_ne hq]; exact e, upd_same⟩ (fun i H' _ h => h.1 _ _ hdD upd_same) (fun i kk vv H' hkv h => ?_) (fun H' h => ?_)
  · obtain ⟨hk1, hk2⟩ := h
    rw [List.getElem?_map] at hkv
    obtain ⟨y, hy, e3⟩ : ∃ y, sets[i]? = some y ∧ ((Sum.inr y.1 : Key), y.2) = (kk, vv) := by
      cases q : sets[i]? with
      | none => rw [q] at hkv; cases hkv
      | some y => rw [q] at hkv; exact ⟨y, rfl, Option.some.inj hkv⟩
    cases e3
    have hm : y ∈ sets := List.mem_of_getElem? hy
    refine ⟨rfl, _, rfl, _, rfl, _, rfl, d, y.2, rfl, .inl ⟨inr sets, Sum.inr y.1, .inr ⟨od, hk1 _ _ hdD upd_same⟩, rfl, ?_⟩, y.1, y.2, rfl, hs y hm, _, hk2, ?_, fun q u hq e => ?_, ?_⟩
    · rw [val_inr, lookup_at hnd hm]
    · have hi := (List.getElem?_eq_some_iff.mp hy).1
      rw [List.length_map, List.length_replicate]
      exact Nat.lt_of_lt_of_le (by omega : i < 1000) (by decide)
    · rw [upd_ne hq]
      exact hk1 q u hq e
    · rw [upd_same, List.replicate_succ', List.map_append]
      rfl
  obtain ⟨hk1, hk2⟩ := h
  refine ⟨hk1 _ _ hdD upd_same, D, _, rfl, SqL.of (by rw [upd_ne (Ne.symm hdD)]; exact hk2), _, rfl, ?_⟩
  have ea : ∀ n, (List.replicate n true).all id = true := fun n => by
    induction n with
    | zero => rfl
    | succ n ih => rw [List.replicate_succ, List.all_cons, ih]; rfl
  rw [ea]
  refine iteF ?_
  have hD2 : H2 D = none := by
    rw [upd_ne (Ne.symm hdD)] at hD
    exact hD
  have e23 : Ext H2 (upd H' d (.dK (inr sets))) := fun q u e => by
    by_cases hqd : q = d
    · subst hqd
      rw [upd_same, ← e, e12 _ _ hd]
    · rw [upd_ne hqd]
      refine hk1 q u (ne_of_none e hD2) ?_
      rw [upd_ne hqd]
      exact e
  have e13 := e12.trans e23
  generalize upd H' d (.dK (inr sets)) = H3 at e23 e13 ⊢
  have hpt3 := hpt2.ext e23
  have hx3 := e13 _ _ hx
  have hd3 := e13 _ _ hd
  -- the fields
  refine ⟨_, rfl, _, rfl, x, C, dx, _, rfl, hx3, R.cl, R.nw, (by decide), ?_⟩
  refine ⟨_, rfl, _, rfl, x, C, dx, _, rfl, upd_same, R.cl, R.np, (by show 1 < 1000; decide), ?_⟩
  have hd5 : (upd (upd H3 x (.ins C dx (putF "weight" (.int wt) []))) x (.ins C dx (putF "pattern" (.ref pt) (putF "weight" (.int wt) [])))) d = some (.dK (inr sets)) := by
    rw [upd_ne (Ne.symm hxd), upd_ne (Ne.symm hxd)]
    exact hd3
  have hx5 : (upd (upd H3 x (.ins C dx (putF "weight" (.int wt) []))) x (.ins C dx (putF "pattern" (.ref pt) (putF "weight" (.int wt) [])))) x = some (.ins C dx [("weight", .int wt), ("pattern", .ref pt)]) := upd_same
  have hpt5 : SqT K (upd (upd H3 x (.ins C dx (putF "weight" (.int wt) []))) x (.ins C dx (putF "pattern" (.ref pt) (putF "weight" (.int wt) [])))) pt [.str k, .str m, .str p, .str a, .str e] :=
    sqt_upd (sqt_upd hpt3 hx3 (fun _ q => nomatch q) fun _ _ q => nomatch q) upd_same (fun _ q => nomatch q) fun _ _ q => nomatch q
  have k5 : ∀ q o, q ≠ x → H q = some o → (upd (upd H3 x (.ins C dx (putF "weight" (.int wt) []))) x (.ins C dx (putF "pattern" (.ref pt) (putF "weight" (.int wt) [])))) q = some o := fun q o hq e => by
    rw [upd_ne hq, upd_ne hq]
    exact e13 q o e
  generalize upd (upd H3 x (.ins C dx (putF "weight" (.int wt) []))) x (.ins C dx (putF "pattern" (.ref pt) (putF "weight" (.int wt) []))) = H5 at hd5 hx5 hpt5 k5 ⊢
  refine ⟨tv, rfl, ⟨_, T.vn _⟩, fun L hL => ?_⟩
  have hLx : x ≠ L := ne_of_none hx5 hL
  refine lc_tup (xs := VN.map V.str) (fun i H' => (∀ q u, q ≠ L → H5 q = some u → H' q = some u) ∧ ∃ rs, H' L = some (.lst (rs.map V.ref)) ∧ Sets K H' rs (ordN (VN.take i) sets)) ⟨fun q u hq e => by rw [upd_ne hq]; exact e, [], upd_same, .nil⟩ (fun i H' _ h => T.vn _) (fun i v H' hv h => ?_) (fun H' h => ?_)
  · obtain ⟨hk1, rs, hk2, hk3⟩ := h
    obtain ⟨n, hn, rfl⟩ := strs_at hv
    have hdl : d ≠ L := ne_of_none hd5 hL
    have hd' := hk1 _ _ hdl hd5
    refine ⟨rfl, _, rfl, _, rfl, d, sets.lookup n, rfl, .inl ⟨inr sets, Sum.inr n, .inl hd', rfl, (val_inr n sets).symm⟩, ?_⟩
    have es := ordN_succ (sets := sets) hn
    refine ⟨_, rfl, ?_⟩
    cases q : sets.lookup n with
    | none =>
      rw [q] at es
      refine iteF ?_
      refine ⟨hk1, rs, hk2, ?_⟩
      rw [es, List.append_nil]
      exact hk3
    | some v =>
      rw [q] at es
      refine iteT ⟨_, rfl, _, rfl, _, rfl, d, v, rfl, .inl ⟨inr sets, Sum.inr n, .inl hd', rfl, ?_⟩, (by show 2 ≤ sizeLine; decide), fun t ht => ?_⟩
      · rw [val_inr, q]
      have htL : L ≠ t := ne_of_none hk2 ht
      refine ⟨_, by rw [upd_ne htL]; exact hk2, ?_, fun q' u hq e => ?_, rs ++ [t], ?_, ?_⟩
      · have h1 := Paired.length hk3
        have h2 := ordN_len (VN.take i) sets
        have h3 : (VN.take i).length ≤ 6 := by rw [List.length_take]; exact Nat.min_le_right _ _
        rw [List.length_map, h1]
        exact Nat.lt_of_le_of_lt (Nat.le_trans h2 h3) (by decide)
      · rw [upd_ne hq, upd_ne (ne_of_none (hk1 q' u hq e) ht)]
        exact hk1 q' u hq e
      · rw [upd_same, List.map_append]
        rfl
      · rw [es]
        have h1 : Sets K (upd H' t (.tup [.str n, v])) rs (ordN (VN.take i) sets) := hk3.ext (Ext.upd ht)
        have h2 := sets_app (x := (n, v)) h1 (SqT.of upd_same)
        exact sets_upd (u := .lst (rs.map V.ref)) h2 (by rw [upd_ne htL]; exact hk2) (fun _ q => nomatch q) fun _ _ q => nomatch q
  obtain ⟨hk1, rs, hk2, hk3⟩ := h
  refine ⟨L, _, rfl, .inl ⟨SqL.of hk2, fun l hl => ?_⟩⟩
  have hxl : H' x = some (.ins C dx [("weight", .int wt), ("pattern", .ref pt)]) := hk1 _ _ hLx hx5
  have hpl : SqT K H' pt [.str k, .str m, .str p, .str a, .str e] := by
    rcases hpt5 with (q | ⟨ob, q⟩) | q
    · exact .inl (.inl (hk1 _ _ (ne_of_none q hL) q))
    · exact .inl (.inr ⟨ob, hk1 _ _ (ne_of_none q hL) q⟩)
    · exact .inr q
  have hxl2 : upd H' l (.tup (rs.map V.ref)) x = some (.ins C dx [("weight", .int wt), ("pattern", .ref pt)]) := (Ext.upd hl) _ _ hxl
  refine ⟨_, rfl, x, C, dx, _, rfl, hxl2, R.cl, R.ns, (by show 2 < 1000; decide), ?_⟩
  refine kq _ (fun q u hq e => ?_) ⟨dx, pt, l, rs, upd_same, ?_, ?_, ?_⟩
  · have h5 := k5 q u hq e
    rw [upd_ne hq]
    exact (Ext.upd hl) _ _ (hk1 q u (ne_of_none h5 hL) h5)
  · exact sqt_upd (hpl.ext (Ext.upd hl)) hxl2 (fun _ q => nomatch q) fun _ _ q => nomatch q
  · exact sqt_upd (SqT.of upd_same) hxl2 (fun _ q => nomatch q) fun _ _ q => nomatch q
  · have hk4 : Sets K H' rs (ord sets) := hk3
    exact sets_upd (hk4.ext (Ext.upd hl)) hxl2 (fun _ q => nomatch q) fun _ _ q => nomatch q
end
end Pa
set_option maxRecDepth 100000
set_option maxHeartbeats 4000000
namespace Pa
open PySem PySem.Spec PyProof.Rows L2 RZ StX
/-- what is left of the keywords -/
def restK (zs : List (Str × V)) : List (Str × V) := zs.filter fun x => !PN.contains x.1
def spInitK (K : PySem.W.Frag) (C : Addr) : SpK := fun vs zs H Q _ => ∃ (x dx : Addr) (wt : Int) (ps : List Str), vs = [.ref x, .int wt] ∧ (zs.map (·.1)).Nodup ∧ (∀ z ∈ zs, z.1 ∈ PN ∨ z.1 ∈ VN) ∧ zs.length ≤ 20 ∧ H x = some (.ins C dx []) ∧ 0 ≤ wt ∧ wt ≤ 9 ∧ PatOk ps ∧
  PN.map (fun k => (zs.lookup k).getD (.str "")) = ps.map V.str ∧ SetsOk (restK zs) ∧ restK zs ≠ [] ∧ ∀ H', (∀ q o, q ≠ x → H q = some o → H' q = some o) → RuleAt K C H' x wt ps (ord (restK zs)) → Q .non H'
section
variable {P : Program} {w : World} {K : PySem.W.Frag} {mg : Str → Option Value} {base : Heap} {tv tp tk dl C : Addr}
theorem ok_init {f D0 : Addr} {oc doc pm cdv ct : Value} {od an : Option Addr} {osl : Array (Option Value)} (T : Txt K w mg tv tp tk dl C) (R : TxR K C)
    (lk : K.lookup f = some ⟨oc, od, .func (PySem.W.fnOf "__init__" "Rule.__init__" (defArgs sRule___init__) (defBody sRule___init__) (defScope sRule___init__) .none (.ref D0) doc pm an cdv ct), osl⟩) (hcd : PySem.W.codeIn K cdv "Rule.__init__" = true)
    (hdf : ∀ k ∈ PN, ∃ t, PySem.W.nsIn K D0 k = some (some (.str "" t)))
    (C_is_integer_from : CallOk P w K mg base 2 "is_integer_from" ["value", "low", "high"] spIntFrom) (C__is_pattern : CallOk P w K mg base 2 "_is_pattern" ["pattern"] (spIsPat K)) (C__is_setting : CallOk P w K mg base 3 "_is_setting" ["name", "value"] spIsSet) :
    FnKw P w K mg base CX0 4 f (spInitK K C) := by
  have F := fn_kw (P := P) (w := w) (mg := mg) (base := base) (CX := CX0) (k := 3) (sp := spInitB K C) (dv := fun k => ((PySem.W.nsIn K D0 k).getD none).getD .none) (dV := fun _ => .str "") lk hcd rfl (by decide) (by decide +kernel) (fun k hk => ?_) scRule___init__ cxUp_none
    (fun A outer s H vs Q E hr h => init_body T R C_is_integer_from C__is_pattern C__is_setting hr h)
  · intro A outer s H us kw vs zs Q E hr e0 r rk hsp
    refine F A outer s H us kw vs zs Q E hr e0 r rk ?_
    obtain ⟨x, dx, wt, ps, rfl, hnd, hin, hlen, hx, h0, h9, hp, hps, hs, hne, kq⟩ := hsp
    refine ⟨_, _, rfl, hnd, fun z hz => ?_, Nat.le_trans hlen (by decide), fun d hd => ?_⟩
    · have hk : ∀ n : Str, n ∈ PN ∨ n ∈ VN → n ≠ "self" ∧ n ≠ "weight" := fun n hn => by
        simp only [List.mem_cons, List.not_mem_nil, or_false] at hn
        rcases hn with (q | q | q | q | q) | (q | q | q | q | q | q) <;> subst q <;> exact ⟨by decide, by decide⟩
      exact hk _ (hin z hz)
    · obtain ⟨k, m, p, a, e, rfl, hp'⟩ := id hp
      have hxd : x ≠ d := ne_of_none hx hd
      have e1 : PN.map (fun k => (zs.lookup k).getD (.str "")) = [V.str k, .str m, .str p, .str a, .str e] := hps
      refine ⟨x, d, dx, wt, k, m, p, a, e, restK zs, ?_, hxd, by rw [upd_ne hxd]; exact hx, upd_same, h0, h9, hp, hs, (List.Sublist.map _ List.filter_sublist).nodup hnd, hne, Nat.le_trans (List.length_filter_le _ _) (Nat.le_trans hlen (by decide)), fun H' hk hR => kq H' (fun q o hq e => hk q o hq ?_) hR⟩
      · show V.ref x :: V.int wt :: (PN.map (fun k => (zs.lookup k).getD (.str "")) ++ [V.ref d]) = _
        rw [e1]
        rfl
      · rw [upd_ne (ne_of_none e hd)]
        exact e
  · have hk' : k ∈ PN := hk
    obtain ⟨t, ht⟩ := hdf k hk'
    rw [ht]
    exact ⟨rfl, t, rfl⟩
end
end Pa
set_option maxRecDepth 100000
set_option maxHeartbeats 4000000
namespace Pa
open PySem PySem.Spec PyProof.Rows L2 RZ StX
/-- pairs, each a tuple or a list -/
def SetsQ (K : PySem.W.Frag) (H : Hp) (rs : List Addr) (sets : List (Str × V)) : Prop := Paired (fun r x => Seq K H r [.str x.1, x.2]) rs sets
theorem SetsQ.ext {K : PySem.W.Frag} {H H' : Hp} {rs : List Addr} {sets : List (Str × V)} (h : SetsQ K H rs sets) (e : Ext H H') : SetsQ K H' rs sets := by
  unfold SetsQ at *
  induction h with
  | nil => exact .nil
  | cons a _ ih => exact .cons (Seq.ext a e) ih
theorem Sets.q {K : PySem.W.Frag} {H : Hp} {rs : List Addr} {sets : List (Str × V)} (h : Sets K H rs sets) : SetsQ K H rs sets := by
  unfold Sets at h
  unfold SetsQ
  induction h with
  | nil => exact .nil
  | cons a _ ih => exact .cons (.inl a) ih
theorem setsQ_at {K : PySem.W.Frag} {H : Hp} {rs : List Addr} {sets : List (Str × V)} (h : SetsQ K H rs sets) : ∀ {i : Nat} {x : V}, (rs.map V.ref)[i]? = some x → ∃ r y, x = .ref r ∧ sets[i]? = some y ∧ Seq K H r [.str y.1, y.2] := by
  unfold SetsQ at h
  induction h with
  | nil => intro i x e; simp at e
  | @cons r y _ _ a _ ih =>
    intro i x e
    cases i with
    | zero =>
      cases e
      exact ⟨r, y, rfl, rfl, a⟩
    | succ i => exact ih e
theorem pi_seq {X : Cx} {tg e : Expr} {t : TE} (h : PE X e t) : PI X tg e (iOr (iTup X.K t) (iList X.K t)) := PI.either (pi_tup h) (pi_list h)
theorem putK_new {kvs : List (Key × V)} {k : Key} {v : V} (h : k ∉ kvs.map (·.1)) : putK kvs k v = kvs ++ [(k, v)] := by
  unfold putK
  rw [if_neg]
  rw [List.any_eq_true]
  rintro ⟨x, hx, e⟩
  exact h (List.mem_map.mpr ⟨x, hx, of_decide_eq_true e⟩)
theorem all_true : ∀ n : Nat, (List.replicate n true).all id = true := fun n => by
  induction n with
  | zero => rfl
  | succ n ih => rw [List.replicate_succ, List.all_cons, ih]; rfl
theorem inr_app (l : List (Str × V)) (y : Str × V) : inr (l ++ (some y).toList) = inr l ++ [((Sum.inr y.1 : Key), y.2)] := by
  show List.map _ (l ++ [y]) = _
  rw [List.map_append]
  rfl
/-- what the pattern gives -/
abbrev patK (k m p a e : Str) : List (Str × V) := [("kind", .str k), ("mark", .str m), ("parent", .str p), ("above", .str a), ("elder", .str e)]
theorem rest_pat {k m p a e : Str} {sets : List (Str × V)} (h : SetsOk sets) : restK (patK k m p a e ++ sets) = sets := by
  unfold restK
  rw [List.filter_append]
  have e1 : (patK k m p a e).filter (fun x => !PN.contains x.1) = [] := rfl
  rw [e1, List.nil_append, List.filter_eq_self]
  intro x hx
  have := set_name (h x hx)
  simp only [List.mem_cons, List.not_mem_nil, or_false] at this
  rcases this with q | q | q | q | q | q <;> rw [q] <;> rfl
theorem nodup_pat {k m p a e : Str} {sets : List (Str × V)} (h : SetsOk sets) (hn : (sets.map (·.1)).Nodup) : ((patK k m p a e ++ sets).map (·.1)).Nodup := by
  rw [List.map_append, List.nodup_append]
  refine ⟨(show PN.Nodup by decide), hn, fun x hx y hy q => ?_⟩
  subst q
  obtain ⟨z, hz, rfl⟩ := List.mem_map.mp hy
  have h1 := set_name (h z hz)
  have hx' : z.1 ∈ PN := hx
  simp only [List.mem_cons, List.not_mem_nil, or_false] at h1 hx'
  rcases h1 with q | q | q | q | q | q <;> rw [q] at hx' <;> rcases hx' with r | r | r | r | r <;> exact absurd r (by decide)
theorem sqt_back {K : PySem.W.Frag} {H : Hp} {r g : Addr} {xs : List V} {kvs : List (Key × V)} (h : SqT K (upd H g (.dK kvs)) r xs) (hg : H g = none) : SqT K H r xs := by
  have ne : ∀ u, upd H g (.dK kvs) r = some u → (∀ ks, u ≠ .dK ks) → H r = some u := fun u e n => by
    by_cases q : r = g
    · subst q
      rw [upd_same] at e
      exact absurd (Option.some.inj e).symm (n _)
    · rw [upd_ne q] at e
      exact e
  rcases h with (h | ⟨ob, h⟩) | h
  · exact .inl (.inl (ne _ h fun _ q => nomatch q))
  · exact .inl (.inr ⟨ob, ne _ h fun _ q => nomatch q⟩)
  · exact .inr h
theorem sql_back {K : PySem.W.Frag} {H : Hp} {r g : Addr} {xs : List V} {kvs : List (Key × V)} (h : SqL K (upd H g (.dK kvs)) r xs) (hg : H g = none) : SqL K H r xs := by
  have ne : ∀ u, upd H g (.dK kvs) r = some u → (∀ ks, u ≠ .dK ks) → H r = some u := fun u e n => by
    by_cases q : r = g
    · subst q
      rw [upd_same] at e
      exact absurd (Option.some.inj e).symm (n _)
    · rw [upd_ne q] at e
      exact e
  rcases h with (h | ⟨ob, h⟩) | h
  · exact .inl (.inl (ne _ h fun _ q => nomatch q))
  · exact .inl (.inr ⟨ob, ne _ h fun _ q => nomatch q⟩)
  · exact .inr h
section
variable {P : Program} {w : World} {K : PySem.W.Frag} {mg : Str → Option Value} {base : Heap} {tv tp tk dl C : Addr}
def spMade (K : PySem.W.Frag) (C : Addr) : Sp := fun vs H Q _ => ∃ (pp st : Addr) (wt : Int) (ps : List Str) (rs : List Addr) (sets : List (Str × V)), vs = [.ref C, .int wt, .ref pp, .ref st] ∧ Seq K H pp (ps.map V.str) ∧ PatOk ps ∧ 0 ≤ wt ∧ wt ≤ 9 ∧
  Seq K H st (rs.map V.ref) ∧ SetsQ K H rs sets ∧ SetsOk sets ∧ (sets.map (·.1)).Nodup ∧ sets ≠ [] ∧ sets.length ≤ 10 ∧ ∀ x H', H x = none → Ext H H' → RuleAt K C H' x wt ps (ord sets) → Q (.ref x) H'
theorem lc_pairs {st : Addr} {s0 s1 s2 s4 s5 s6 s7 : Option V} {H : Hp} {rs : List Addr} {sets : List (Str × V)} {Q : VK} (hseq : Seq K H st (rs.map V.ref)) (hp : SetsQ K H rs sets) (hok : SetsOk sets) (hl : sets.length ≤ 10)
    (k : ∀ D H', H D = none → Ext H H' → H' D = some (.lst ((List.replicate rs.length true).map V.bl)) → Q (.ref D) H') :
    tLc (iOr (iTup K (tVar 3)) (iList K (tVar 3))) (gName 4) tYes (tCall (spIsPair K) [] E0 (tCons (tVar 4) tNil)) [4] [s0, s1, s2, some (.ref st), s4, s5, s6, s7] H Q := by
  rcases hseq with hq | hq
  · refine .inl ⟨_, rfl, st, rfl, ⟨_, hq⟩, fun D hD => lc_tup (xs := rs.map V.ref) (fun i H' => (∀ q u, q ≠ D → H q = some u → H' q = some u) ∧ H' D = some (.lst ((List.replicate i true).map V.bl))) ⟨fun q u hq e => by rw [upd_ne hq]; exact e, upd_same⟩ (fun i H' _ h => hq.ext fun q u e => h.1 q u (ne_of_none e hD) e) (fun i v H' hv h => ?_) (fun H' h => ?_)⟩
    · obtain ⟨hk1, hk2⟩ := h
      have ex : Ext H H' := fun q u e => hk1 q u (ne_of_none e hD) e
      obtain ⟨r, y, rfl, hy, hr⟩ := setsQ_at hp hv
      have hm : y ∈ sets := List.mem_of_getElem? hy
      have hi := (List.getElem?_eq_some_iff.mp hy).1
      refine ⟨rfl, _, rfl, r, y.1, y.2, rfl, hr.ext ex, set_name (hok y hm), fun H2 e2 => ⟨_, e2 _ _ hk2, ?_, fun q u hq e => ?_, ?_⟩⟩
      · rw [List.length_map, List.length_replicate]
        exact Nat.lt_of_lt_of_le (by omega : i < 1000) (by decide)
      · rw [upd_ne hq]
        exact e2 _ _ (hk1 q u hq e)
      · rw [upd_same, List.replicate_succ', List.map_append]
        rfl
    · obtain ⟨hk1, hk2⟩ := h
      rw [List.length_map] at hk2
      exact k D H' hD (fun q u e => hk1 q u (ne_of_none e hD) e) hk2
  · refine .inr ⟨_, rfl, st, rfl, ⟨_, hq⟩, fun D hD => lc_list (xs := rs.map V.ref) (fun i H' => (∀ q u, q ≠ D → H q = some u → H' q = some u) ∧ H' D = some (.lst ((List.replicate i true).map V.bl))) ⟨fun q u hq e => by rw [upd_ne hq]; exact e, upd_same⟩ (fun i H' _ h => hq.ext fun q u e => h.1 q u (ne_of_none e hD) e) (fun i v H' hv h => ?_) (fun H' h => ?_)⟩
    · obtain ⟨hk1, hk2⟩ := h
      have ex : Ext H H' := fun q u e => hk1 q u (ne_of_none e hD) e
      obtain ⟨r, y, rfl, hy, hr⟩ := setsQ_at hp hv
      have hm : y ∈ sets := List.mem_of_getElem? hy
      have hi := (List.getElem?_eq_some_iff.mp hy).1
      refine ⟨rfl, _, rfl, r, y.1, y.2, rfl, hr.ext ex, set_name (hok y hm), fun H2 e2 => ⟨_, e2 _ _ hk2, ?_, fun q u hq e => ?_, ?_⟩⟩
      · rw [List.length_map, List.length_replicate]
        exact Nat.lt_of_lt_of_le (by omega : i < 1000) (by decide)
      · rw [upd_ne hq]
        exact e2 _ _ (hk1 q u hq e)
      · rw [upd_same, List.replicate_succ', List.map_append]
        rfl
    · obtain ⟨hk1, hk2⟩ := h
      rw [List.length_map] at hk2
      exact k D H' hD (fun q u e => hk1 q u (ne_of_none e hD) e) hk2
abbrev sRule_made : Stmt := inClass (topS 16) 1
theorem scRule_made : FnScope ["cls", "weight", "pattern", "settings", "pair", "given", "name", "value"] ["cls", "weight", "pattern", "settings"] (defScope sRule_made) := ⟨rfl, rfl, rfl, by decide +kernel, rfl, by decide +kernel, by decide +kernel⟩
theorem ok_made {f fi : Addr} {fd : FuncData} (F : Fun K "made" "Rule.made" sRule_made f fd) (T : Txt K w mg tv tp tk dl C) (C_is_row : CallOk P w K mg base 1 "is_row" ["value"] (spIsRow K)) (C__is_pair : CallOk P w K mg base 2 "_is_pair" ["pair"] (spIsPair K))
    (M : Mk K C fi) (Fi : FnKw P w K mg base CX0 4 fi (spInitK K C)) : FnOk P w K mg base CX0 6 f fd ["cls", "weight", "pattern", "settings"] (spMade K C) := by
  refine F.ok scRule_made (fun vs H Q E h => ?_) (fun cdv A outer s H vs Q E hr h => ?_)
  · obtain ⟨pp, st, wt, ps, rs, sets, rfl, _⟩ := h
    rfl
  · obtain ⟨pp, st, wt, ps, rs, sets, rfl, hpp, hp, h0, h9, hst, hq, hok, hnd, hne, hlen, kq⟩ := h
    have hu := hu_of hr
    refine ⟨_, (pss_cons (ps_if (PW.pt (pw_or (pt_not (pt_val (pe_cc C_is_row (hr.mono (by decide)) (by rfl) (pa_cons (pv 2) pa_nil)))) (pw_or1 (pt_cmpR op_ne (pe_callB call_len_seq (by rfl) T.b_len PySem.boot_len (pa_cons (pv 2) pa_nil)) (pe_callB call_len_seq (by rfl) T.b_len PySem.boot_len (pa_cons (pe_glob (v := .ref tp) (by rfl) T.g_PATTERN_NAMES rfl) pa_nil)) (nomark _)))))
        (pss_one ps_never)
        pss_nil)
      (pss_cons (ps_if (PW.pt (pw_or (pt_not (pt_val (pe_cc C_is_row (hr.mono (by decide)) (by rfl) (pa_cons (pv 3) pa_nil)))) (pw_or1 (pt_not (pt_val (pe_callB (cr_all rfl) (by rfl) T.b_all (by decide +kernel) (pa_cons (pe_lc (own := [("pair", 4)]) (g := gName 4) (tt := tYes) rfl scRule_made.nd (pi_seq (pv 3)) (blkOk_by (N := ["cls", "weight", "pattern", "settings", "pair", "given", "name", "value"]) (sc := defScope sRule_made) (by decide +kernel)) (fun _ _ _ _ _ => (pg_name (i := 4) scRule_made.nd rfl (.inl rfl))) (fun _ _ _ _ _ => pts_nil) (fun _ _ _ _ _ => (pe_cc C__is_pair (hr.mono (by decide)) (by rfl) (pa_cons (pv 4) pa_nil)))) pa_nil)))))))
        (pss_one ps_never)
        pss_nil)
      (pss_cons (ps_set (i := 5) scRule_made.nd rfl (.inl rfl) (pe_dictzip rfl (by rfl) T.b_dict (by rfl) T.b_zip (pa_cons (pe_glob (v := .ref tp) (by rfl) T.g_PATTERN_NAMES rfl) (pa_cons (pv 2) pa_nil))))
      (pss_cons (ps_for PassesOwn.never rfl (pi_seq (pv 3)) (PG.either (pg_tup rfl (pgs_cons (pg_name (i := 6) scRule_made.nd rfl (.inl rfl)) (pgs_cons (pg_name (i := 7) scRule_made.nd rfl (.inl rfl)) pgs_nil))) (pg_unl rfl (pgs_cons (pg_name (i := 6) scRule_made.nd rfl (.inl rfl)) (pgs_cons (pg_name (i := 7) scRule_made.nd rfl (.inl rfl)) pgs_nil))))
        (pss_cons (ps_if (pt_cmp (pc_din hu (pv 6) (pv 5)))
          (pss_one ps_never)
          pss_nil)
        (pss_one (ps_dput hu (pv 5) (pv 6) (pv 7) rfl))))
      (pss_one (ps_ret (pe_clsKw (i := 0) M Fi (hr.mono (by decide)) rfl (.inl rfl) pass0 (pa_cons (pv 1) pa_nil) (pv 5)))))))), ?_⟩
    obtain ⟨k, m, p, a, el, rfl, hp'⟩ := id hp
    refine ⟨_, rfl, pp, _, rfl, hpp, fun H1 e1 => ⟨_, rfl, iteF ?_⟩⟩
    have hpp1 := hpp.ext e1
    refine ⟨_, rfl, pp, _, rfl, hpp1.symm, tp, _, rfl, .inr (T.pn _), rfl, _, rfl, iteF ?_⟩
    refine ⟨_, rfl, st, _, rfl, hst.ext e1, fun H2 e2 => ⟨_, rfl, iteF ?_⟩⟩
    have e12 := e1.trans e2
    unfold tNot tB tCB tCons tNil
    refine lc_pairs (hst.ext e12) (hq.ext e12) hok hlen fun D H3 hD e3 hl3 => ?_
    refine ⟨D, _, rfl, SqL.of hl3, _, rfl, ?_⟩
    rw [all_true]
    refine iteF ?_
    have e13 := e12.trans e3
    have hpp3 := hpp.ext e13
    have hst3 := hst.ext e13
    have hq3 := hq.ext e13
    refine ⟨_, rfl, tp, pp, PN, _, rfl, T.pn _, hpp3, rfl, (by decide), (by decide), (by decide), fun g hg => ?_⟩
    have eg := Ext.upd (o := .dK (inr (patK k m p a el))) hg
    have hstg := hst3.ext eg
    have hqg := hq3.ext eg
    have hrs : rs.length = sets.length := Paired.length hq
    rcases hstg with hs' | hs'
    · have hs0' : SqT K H3 st (rs.map V.ref) := sqt_back hs' hg
      refine .inl ⟨_, rfl, st, rfl, ⟨_, hs'⟩, ?_⟩
      refine for_tup (xs := rs.map V.ref) (fun i σ H' => (∀ q u, q ≠ g → H3 q = some u → H' q = some u) ∧ H' g = some (.dK (inr (patK k m p a el ++ sets.take i))) ∧ ∃ x4 x6 x7, σ = [some (.ref C), some (.int wt), some (.ref pp), some (.ref st), x4, some (.ref g), x6, x7]) ⟨fun q u hq e => by rw [upd_ne hq]; exact e, upd_same, _, _, _, rfl⟩
        (fun i σ H' _ h => hs0'.ext fun q u e => h.1 q u (ne_of_none e hg) e) (fun i v σ H' hv h => ?_) (fun σ H' h => ?_)
      · obtain ⟨hk1, hk2, x4, x6, x7, rfl⟩ := h
        obtain ⟨r, y, rfl, hy, hr⟩ := setsQ_at (hq3.ext fun q u e => hk1 q u (ne_of_none e hg) e) hv
        have hm : y ∈ sets := List.mem_of_getElem? hy
        have hi := (List.getElem?_eq_some_iff.mp hy).1
        have hnd2 := nodup_pat (k := k) (m := m) (p := p) (a := a) (e := el) hok hnd
        have hnew0 : y.1 ∉ (patK k m p a el ++ sets.take i).map (·.1) := fun hc => by
          have e4 : sets = sets.take i ++ y :: sets.drop (i + 1) := by
            rw [← List.getElem?_eq_some_iff.mp hy |>.2, List.getElem_cons_drop, List.take_append_drop]
          rw [e4, ← List.append_assoc, List.map_append, List.nodup_append] at hnd2
          exact hnd2.2.2 y.1 hc y.1 (by simp) rfl
        have hnew : (Sum.inr y.1 : Key) ∉ (inr (patK k m p a el ++ sets.take i)).map (·.1) := fun hc => by
          rw [List.map_map] at hc
          obtain ⟨z, hz, e5⟩ := List.mem_map.mp hc
          exact hnew0 (List.mem_map.mpr ⟨z, hz, Sum.inr.inj e5⟩)
        have hv0 : none = valV (inr (patK k m p a el ++ sets.take i)) (Sum.inr y.1) := by
          rw [val_inr]
          cases q : (patK k m p a el ++ sets.take i).lookup y.1 with
          | none => rfl
          | some v => exact absurd (List.mem_map_of_mem (f := (·.1)) (lookup_mem q)) hnew0
        have hsz : (inr (patK k m p a el ++ sets.take i)).length < sizeLine := by
          rw [List.length_map, List.length_append, List.length_take]
          exact Nat.lt_of_lt_of_le (by show 5 + _ < 1000; omega) (by decide)
        rcases hr with hr | hr
        · refine .inl ⟨r, _, rfl, hr, rfl, _, _, rfl, _, _, rfl, rfl, ?_⟩
          refine ⟨_, rfl, _, rfl, g, none, rfl, .inl ⟨_, Sum.inr y.1, .inl hk2, rfl, hv0⟩, _, rfl, iteF ?_⟩
          refine ⟨_, rfl, _, rfl, _, rfl, g, _, rfl, .inl ⟨_, Sum.inr y.1, hk2, rfl, hsz, rfl⟩, ?_⟩
          refine ⟨fun q u hq e => by rw [upd_ne hq]; exact hk1 q u hq e, ?_, _, _, _, rfl⟩
          rw [upd_same, putK_new hnew, List.take_add_one, hy, ← List.append_assoc]
          exact congrArg (fun z => some (HO.dK z)) (inr_app _ y).symm
        · refine .inr ⟨r, _, rfl, hr, rfl, _, _, rfl, _, _, rfl, rfl, ?_⟩
          refine ⟨_, rfl, _, rfl, g, none, rfl, .inl ⟨_, Sum.inr y.1, .inl hk2, rfl, hv0⟩, _, rfl, iteF ?_⟩
          refine ⟨_, rfl, _, rfl, _, rfl, g, _, rfl, .inl ⟨_, Sum.inr y.1, hk2, rfl, hsz, rfl⟩, ?_⟩
          refine ⟨fun q u hq e => by rw [upd_ne hq]; exact hk1 q u hq e, ?_, _, _, _, rfl⟩
          rw [upd_same, putK_new hnew, List.take_add_one, hy, ← List.append_assoc]
          exact congrArg (fun z => some (HO.dK z)) (inr_app _ y).symm
      · obtain ⟨hk1, hk2, x4, x6, x7, rfl⟩ := h
        rw [List.length_map, hrs, List.take_length] at hk2
        refine ⟨rfl, _, rfl, fun d hd => ⟨_, rfl, g, patK k m p a el ++ sets, rfl, ne_of_none hk2 hd, upd_same, by rw [upd_ne (ne_of_none hk2 hd)]; exact hk2, fun x dx hx hdx hne2 => ?_⟩⟩
        have hxd : x ≠ dx := Ne.symm hne2
        refine ⟨x, dx, wt, [k, m, p, a, el], rfl, nodup_pat hok hnd, fun z hz => ?_, ?_, upd_same, h0, h9, hp, rfl, ?_, ?_, fun H5 hk5 hR => ⟨rfl, ?_⟩⟩
        · rcases List.mem_append.mp hz with hz | hz
          · left
            have : z.1 ∈ (patK k m p a el).map (·.1) := List.mem_map_of_mem hz
            exact this
          · exact .inr (set_name (hok z hz))
        · rw [List.length_append]
          show 5 + sets.length ≤ 20
          omega
        · rw [rest_pat hok]
          exact hok
        · rw [rest_pat hok]
          exact hne
        · rw [rest_pat hok] at hR
          have k4 : Ext H H' := fun q u e => by
            have e6 := e13 q u e
            exact hk1 q u (ne_of_none e6 hg) e6
          have k5 : Ext H H5 := fun q u e => by
            have e7 := k4 q u e
            have e8 : upd (upd H' d (.dK [])) d (.dK (inr (patK k m p a el ++ sets))) q = some u := by rw [upd_ne (ne_of_none e7 hd), upd_ne (ne_of_none e7 hd)]; exact e7
            have hqx : q ≠ x := ne_of_none e8 hx
            have hqd : q ≠ dx := ne_of_none e8 hdx
            refine hk5 q u hqx ?_
            rw [upd_ne hqx, upd_ne hqd]
            exact e8
          refine kq x H5 ?_ k5 hR
          cases q : H x with
          | none => rfl
          | some u =>
            have e7 := k4 x u q
            have e8 : upd (upd H' d (.dK [])) d (.dK (inr (patK k m p a el ++ sets))) x = some u := by rw [upd_ne (ne_of_none e7 hd), upd_ne (ne_of_none e7 hd)]; exact e7
            rw [hx] at e8
            cases e8
    · have hs0' : SqL K H3 st (rs.map V.ref) := sql_back hs' hg
      refine .inr ⟨_, rfl, st, rfl, ⟨_, hs'⟩, ?_⟩
      refine for_list (xs := rs.map V.ref) (fun i σ H' => (∀ q u, q ≠ g → H3 q = some u → H' q = some u) ∧ H' g = some (.dK (inr (patK k m p a el ++ sets.take i))) ∧ ∃ x4 x6 x7, σ = [some (.ref C), some (.int wt), some (.ref pp), some (.ref st), x4, some (.ref g), x6, x7]) ⟨fun q u hq e => by rw [upd_ne hq]; exact e, upd_same, _, _, _, rfl⟩
        (fun i σ H' _ h => hs0'.ext fun q u e => h.1 q u (ne_of_none e hg) e) (fun i v σ H' hv h => ?_) (fun σ H' h => ?_)
      · obtain ⟨hk1, hk2, x4, x6, x7, rfl⟩ := h
        obtain ⟨r, y, rfl, hy, hr⟩ := setsQ_at (hq3.ext fun q u e => hk1 q u (ne_of_none e hg) e) hv
        have hm : y ∈ sets := List.mem_of_getElem? hy
        have hi := (List.getElem?_eq_some_iff.mp hy).1
        have hnd2 := nodup_pat (k := k) (m := m) (p := p) (a := a) (e := el) hok hnd
        have hnew0 : y.1 ∉ (patK k m p a el ++ sets.take i).map (·.1) := fun hc => by
          have e4 : sets = sets.take i ++ y :: sets.drop (i + 1) := by
            rw [← List.getElem?_eq_some_iff.mp hy |>.2, List.getElem_cons_drop, List.take_append_drop]
          rw [e4, ← List.append_assoc, List.map_append, List.nodup_append] at hnd2
          exact hnd2.2.2 y.1 hc y.1 (by simp) rfl
        have hnew : (Sum.inr y.1 : Key) ∉ (inr (patK k m p a el ++ sets.take i)).map (·.1) := fun hc => by
          rw [List.map_map] at hc
          obtain ⟨z, hz, e5⟩ := List.mem_map.mp hc
          exact hnew0 (List.mem_map.mpr ⟨z, hz, Sum.inr.inj e5⟩)
        have hv0 : none = valV (inr (patK k m p a el ++ sets.take i)) (Sum.inr y.1) := by
          rw [val_inr]
          cases q : (patK k m p a el ++ sets.take i).lookup y.1 with
          | none => rfl
          | some v => exact absurd (List.mem_map_of_mem (f := (·.1)) (lookup_mem q)) hnew0
        have hsz : (inr (patK k m p a el ++ sets.take i)).length < sizeLine := by
          rw [List.length_map, List.length_append, List.length_take]
          exact Nat.lt_of_lt_of_le (by show 5 + _ < 1000; omega) (by decide)
        rcases hr with hr | hr
        · refine .inl ⟨r, _, rfl, hr, rfl, _, _, rfl, _, _, rfl, rfl, ?_⟩
          refine ⟨_, rfl, _, rfl, g, none, rfl, .inl ⟨_, Sum.inr y.1, .inl hk2, rfl, hv0⟩, _, rfl, iteF ?_⟩
          refine ⟨_, rfl, _, rfl, _, rfl, g, _, rfl, .inl ⟨_, Sum.inr y.1, hk2, rfl, hsz, rfl⟩, ?_⟩
          refine ⟨fun q u hq e => by rw [upd_ne hq]; exact hk1 q u hq e, ?_, _, _, _, rfl⟩
          rw [upd_same, putK_new hnew, List.take_add_one, hy, ← List.append_assoc]
          exact congrArg (fun z => some (HO.dK z)) (inr_app _ y).symm
        · refine .inr ⟨r, _, rfl, hr, rfl, _, _, rfl, _, _, rfl, rfl, ?_⟩
          refine ⟨_, rfl, _, rfl, g, none, rfl, .inl ⟨_, Sum.inr y.1, .inl hk2, rfl, hv0⟩, _, rfl, iteF ?_⟩
          refine ⟨_, rfl, _, rfl, _, rfl, g, _, rfl, .inl ⟨_, Sum.inr y.1, hk2, rfl, hsz, rfl⟩, ?_⟩
          refine ⟨fun q u hq e => by rw [upd_ne hq]; exact hk1 q u hq e, ?_, _, _, _, rfl⟩
          rw [upd_same, putK_new hnew, List.take_add_one, hy, ← List.append_assoc]
          exact congrArg (fun z => some (HO.dK z)) (inr_app _ y).symm
      · obtain ⟨hk1, hk2, x4, x6, x7, rfl⟩ := h
        rw [List.length_map, hrs, List.take_length] at hk2
        refine ⟨rfl, _, rfl, fun d hd => ⟨_, rfl, g, patK k m p a el ++ sets, rfl, ne_of_none hk2 hd, upd_same, by rw [upd_ne (ne_of_none hk2 hd)]; exact hk2, fun x dx hx hdx hne2 => ?_⟩⟩
        have hxd : x ≠ dx := Ne.symm hne2
        refine ⟨x, dx, wt, [k, m, p, a, el], rfl, nodup_pat hok hnd, fun z hz => ?_, ?_, upd_same, h0, h9, hp, rfl, ?_, ?_, fun H5 hk5 hR => ⟨rfl, ?_⟩⟩
        · rcases List.mem_append.mp hz with hz | hz
          · left
            have : z.1 ∈ (patK k m p a el).map (·.1) := List.mem_map_of_mem hz
            exact this
          · exact .inr (set_name (hok z hz))
        · rw [List.length_append]
          show 5 + sets.length ≤ 20
          omega
        · rw [rest_pat hok]
          exact hok
        · rw [rest_pat hok]
          exact hne
        · rw [rest_pat hok] at hR
          have k4 : Ext H H' := fun q u e => by
            have e6 := e13 q u e
            exact hk1 q u (ne_of_none e6 hg) e6
          have k5 : Ext H H5 := fun q u e => by
            have e7 := k4 q u e
            have e8 : upd (upd H' d (.dK [])) d (.dK (inr (patK k m p a el ++ sets))) q = some u := by rw [upd_ne (ne_of_none e7 hd), upd_ne (ne_of_none e7 hd)]; exact e7
            have hqx : q ≠ x := ne_of_none e8 hx
            have hqd : q ≠ dx := ne_of_none e8 hdx
            refine hk5 q u hqx ?_
            rw [upd_ne hqx, upd_ne hqd]
            exact e8
          refine kq x H5 ?_ k5 hR
          cases q : H x with
          | none => rfl
          | some u =>
            have e7 := k4 x u q
            have e8 : upd (upd H' d (.dK [])) d (.dK (inr (patK k m p a el ++ sets))) x = some u := by rw [upd_ne (ne_of_none e7 hd), upd_ne (ne_of_none e7 hd)]; exact e7
            rw [hx] at e8
            cases e8
end
end Pa
set_option maxRecDepth 100000
set_option maxHeartbeats 4000000
namespace Pa
open PySem PySem.Spec PyProof.Rows L2 RZ StX
abbrev signsV (x : Str) : List V := x.cps.toList.map fun c => .str ⟨#[c]⟩
theorem vals_get : ∀ {xs : List V} {us : List Value}, xs.length = us.length → (∀ (j : Nat) x u, xs[j]? = some x → us[j]? = some u → RelV x u) → Vals xs us
  | [], [], _, _ => .nil
  | [], _ :: _, h, _ => nomatch h
  | _ :: _, [], h, _ => nomatch h
  | x :: xs, u :: us, h, k => .cons (k 0 x u rfl rfl) (vals_get (Nat.succ.inj h) fun j y v e1 e2 => k (j + 1) y v e1 e2)
theorem call_list_sg {X : Cx} (hc : X.calm = true) : CallR X (.type "list") (fun xs H Q => ∃ x : Str, xs = [.str x] ∧ x.cps.size ≤ sizeLine ∧ ∀ l, H l = none → Q (.ref l) (upd H l (.lst (signsV x)))) := by
  intro pins s σ H xs us Q I r h
  obtain ⟨x, rfl, hz, q⟩ := h
  obtain ⟨u, rfl, t, rfl⟩ := vals1 r
  refine call_list_str (I.ok.hd hc) x t (hn := hz) fun h' tk acc c' hk hS hacc => ?_
  have hv : Vals (signsV x) acc.toList := by
    refine vals_get (by rw [List.length_map, Array.length_toList, Array.length_toList, hacc.1]) fun j y v e1 e2 => ?_
    obtain ⟨c, u, hc, rfl⟩ := hacc.2 j v (by simpa using e2)
    rw [List.getElem?_map] at e1
    have e3 : x.cps.toList[j]? = some c := by simpa using hc
    rw [e3] at e1
    obtain rfl := Option.some.inj e1
    exact ⟨u, rfl⟩
  exact ⟨.ref s.heap.objs.size, _, I.laid (t' := tk) (o := .lst (signsV x)) hk (Nat.le_refl _) (show ObjOk X.prog X.w _ h' _ (.lst (signsV x)) from ⟨by rw [List.length_map, Array.length_toList]; exact hz, acc.toList, c', hv, by simpa using hS⟩), rfl, q _ (I.hok.fresh (Nat.le_refl _))⟩
section
variable {P : Program} {w : World} {K : PySem.W.Frag} {mg : Str → Option Value} {base : Heap} {tv tp tk dl C : Addr}
def spFew (K : PySem.W.Frag) : Sp := fun vs H Q _ => ∃ (a : Addr) (n : Int) (ns : List Int), vs = [.ref a, .int n] ∧ SqL K H a (ns.map V.int) ∧ 0 ≤ n ∧ n ≤ 100 ∧ ∀ j H', 0 ≤ j → j ≤ n → Ext H H' → Q (.int j) H'
abbrev sL_few : Stmt := topS 35
theorem scL_few : FnScope ["_law_script", "_law_many"] ["_law_script", "_law_many"] (defScope sL_few) := ⟨rfl, rfl, rfl, by decide +kernel, rfl, by decide +kernel, by decide +kernel⟩
theorem dp_ints {K : PySem.W.Frag} {H : Hp} : ∀ ns : List Int, DpAll K H (ns.map V.int) (ns.map PyData.int)
  | [] => .nil
  | n :: ns => .cons (.int n) (dp_ints ns)
theorem ok_few {f : Addr} {fd : FuncData} (F : Fun K "_law_few" "_law_few" sL_few f fd) (T : Txt K w mg tv tp tk dl C) : FnOk P w K mg base CX0 1 f fd ["_law_script", "_law_many"] (spFew K) := by
  refine F.ok scL_few (fun vs H Q E h => ?_) (fun cdv A outer s H vs Q E hr h => ?_)
  · obtain ⟨a, n, ns, rfl, _⟩ := h
    rfl
  · obtain ⟨a, n, ns, rfl, hs, h0, h1, k⟩ := h
    refine ⟨_, (pss_one (ps_ret (pe_ifExp (pt_cmpR (op_neD hr.units) (pv 0) (pe_lst pa_nil) (nomark _)) (pv 1) (pe_callB (call_min2 rfl) (by rfl) T.b_min (by decide +kernel) (pa_cons (pv 1) (pa_cons pe_int pa_nil)))))), ?_⟩
    refine ⟨_, rfl, (by show 0 ≤ sizeLine; decide), fun l hl => ?_⟩
    have e := Ext.upd (o := .lst []) hl
    refine ⟨_, _, .lst (SqL.ext hs e) (dp_ints ns), .lst (SqL.of upd_same) .nil, sh_lst (fun x _ => ⟨by rw [PyData.canLay0], by rw [PyData.depth]; exact Nat.zero_le _⟩), by simp [SeqAt.shaped, PyData.canLay0, PyData.canLayAll0, PyData.depth, PyData.depthAll], ?_⟩
    refine ⟨_, rfl, ite2 (fun _ => ⟨_, rfl, k n _ h0 (Int.le_refl _) e⟩) (fun _ => ⟨_, rfl, _, _, rfl, ?_⟩)⟩
    refine k _ _ ?_ ?_ e
    · split <;> omega
    · split <;> omega
def spAsk : Sp := fun vs H Q _ => ∃ (b : Addr) (sg : Str), vs = [.ref b, .str sg] ∧ IsBag H b ∧ (sg = "BAC" ∨ sg = "xy") ∧ ∀ s H', (sg = "BAC" → IsK s) → (sg = "xy" → IsM s) → Bk b H H' → Q (.str s) H'
abbrev sL_ask : Stmt := topS 36
theorem scL_ask : FnScope ["_law_bag_here", "_law_signs"] ["_law_bag_here", "_law_signs"] (defScope sL_ask) := ⟨rfl, rfl, rfl, by decide +kernel, rfl, by decide +kernel, by decide +kernel⟩
theorem ok_ask {f : Addr} {fd : FuncData} (F : Fun K "_law_ask" "_law_ask" sL_ask f fd) (T : Txt K w mg tv tp tk dl C) (C__law_draw : CallOk P w K mg base 1 "_law_draw" ["_law_bag_here", "_law_many"] spDraw) : FnOk P w K mg base CX0 2 f fd ["_law_bag_here", "_law_signs"] spAsk := by
  refine F.ok scL_ask (fun vs H Q E h => ?_) (fun cdv A outer s H vs Q E hr h => ?_)
  · obtain ⟨b, sg, rfl, _⟩ := h
    rfl
  · obtain ⟨b, sg, rfl, hb, hsg, k⟩ := h
    refine ⟨_, (pss_one (ps_ret (pe_ifExp (pt_cmpR op_lt (pe_cc C__law_draw (hr.mono (by decide)) (by rfl) (pa_cons (pv 0) (pa_cons pe_int pa_nil))) pe_int (nomark _)) pe_str (pe_ix ix_str (pv 1) (pe_cc C__law_draw (hr.mono (by decide)) (by rfl) (pa_cons (pv 0) (pa_cons (pe_callB call_len_str (by rfl) T.b_len PySem.boot_len (pa_cons (pv 1) pa_nil)) pa_nil))) (fun _ _ => rfl))))), ?_⟩
    refine ⟨_, rfl, b, 5, rfl, hb, by decide, by decide, fun d H1 h0 h1 B1 => ⟨_, _, rfl, rfl, _, rfl, ite2 (fun _ => ?_) (fun _ => ?_)⟩⟩
    · exact k "" _ (fun _ => .inl rfl) (fun _ => .inl rfl) B1
    · rcases hsg with rfl | rfl
      · refine ⟨_, rfl, _, rfl, _, rfl, _, rfl, by decide, b, 3, rfl, B1.bag, by decide, by decide, fun d2 H2 h2 h3 B2 => ?_⟩
        rcases (by omega : d2 = 0 ∨ d2 = 1 ∨ d2 = 2) with rfl | rfl | rfl
        · exact ⟨_, _, _, rfl, rfl, by decide, atI_nat (j := 0) rfl, k "B" _ (fun _ => .inr (.inr (.inl rfl))) (fun q => absurd q (by decide)) (B1.trans B2)⟩
        · exact ⟨_, _, _, rfl, rfl, by decide, atI_nat (j := 1) rfl, k "A" _ (fun _ => .inr (.inl rfl)) (fun q => absurd q (by decide)) (B1.trans B2)⟩
        · exact ⟨_, _, _, rfl, rfl, by decide, atI_nat (j := 2) rfl, k "C" _ (fun _ => .inr (.inr (.inr rfl))) (fun q => absurd q (by decide)) (B1.trans B2)⟩
      · refine ⟨_, rfl, _, rfl, _, rfl, _, rfl, by decide, b, 2, rfl, B1.bag, by decide, by decide, fun d2 H2 h2 h3 B2 => ?_⟩
        rcases (by omega : d2 = 0 ∨ d2 = 1) with rfl | rfl
        · exact ⟨_, _, _, rfl, rfl, by decide, atI_nat (j := 0) rfl, k "x" _ (fun q => absurd q (by decide)) (fun _ => .inr (.inl rfl)) (B1.trans B2)⟩
        · exact ⟨_, _, _, rfl, rfl, by decide, atI_nat (j := 1) rfl, k "y" _ (fun q => absurd q (by decide)) (fun _ => .inr (.inr rfl)) (B1.trans B2)⟩
def spSet0 : Sp := fun vs H Q _ => ∃ (b : Addr) (n : Str), vs = [.ref b, .str n, .int 6] ∧ IsBag H b ∧ n ∈ VN ∧ ∀ v H', SetOk n v → Bk b H H' → Q v H'
abbrev sL_setting : Stmt := topS 37
theorem scL_setting : FnScope ["_law_bag_here", "_law_name", "_law_widest"] ["_law_bag_here", "_law_name", "_law_widest"] (defScope sL_setting) := ⟨rfl, rfl, rfl, by decide +kernel, rfl, by decide +kernel, by decide +kernel⟩
theorem ok_set0 {f : Addr} {fd : FuncData} (F : Fun K "_law_setting" "_law_setting" sL_setting f fd) (C__law_draw : CallOk P w K mg base 1 "_law_draw" ["_law_bag_here", "_law_many"] spDraw) : FnOk P w K mg base CX0 2 f fd ["_law_bag_here", "_law_name", "_law_widest"] spSet0 := by
  refine F.ok scL_setting (fun vs H Q E h => ?_) (fun cdv A outer s H vs Q E hr h => ?_)
  · obtain ⟨b, n, rfl, _⟩ := h
    rfl
  · obtain ⟨b, n, rfl, hb, hn, k⟩ := h
    refine ⟨_, (pss_cons (ps_if (pt_cmpR op_eq (pv 1) pe_str (nomark _))
        (pss_one (ps_ret (pe_cc C__law_draw (hr.mono (by decide)) (by rfl) (pa_cons (pv 0) (pa_cons pe_int pa_nil)))))
        pss_nil)
      (pss_cons (ps_if (pt_cmpR op_eq (pv 1) pe_str (nomark _))
        (pss_one (ps_ret (pe_op op_add pe_int (pe_cc C__law_draw (hr.mono (by decide)) (by rfl) (pa_cons (pv 0) (pa_cons (pv 2) pa_nil))))))
        pss_nil)
      (pss_cons (ps_if (pt_cmpR op_eq (pv 1) pe_str (nomark _))
        (pss_one (ps_ret (pe_cc C__law_draw (hr.mono (by decide)) (by rfl) (pa_cons (pv 0) (pa_cons pe_int pa_nil)))))
        pss_nil)
      (pss_one (ps_ret (pe_cmpR op_gt (pe_cc C__law_draw (hr.mono (by decide)) (by rfl) (pa_cons (pv 0) (pa_cons pe_int pa_nil))) pe_int (nomark _))))))), ?_⟩
    have ds : ∀ x : Str, decide (V.str n = V.str x) = decide (n = x) := fun x => by simp
    refine ⟨_, rfl, rfl, _, rfl, ?_⟩
    show if decide (V.str n = V.str "face") = true then _ else _
    rw [ds]
    by_cases q1 : n = "face"
    · rw [decide_eq_true q1]
      exact iteT ⟨_, rfl, b, 2, rfl, hb, by decide, by decide, fun d H1 h0 h1 B1 => k _ _ (.inl ⟨q1, d, rfl, h0, by omega⟩) B1⟩
    rw [decide_eq_false q1]
    refine iteF ⟨_, rfl, rfl, _, rfl, ?_⟩
    show if decide (V.str n = V.str "measure") = true then _ else _
    rw [ds]
    by_cases q2 : n = "measure"
    · rw [decide_eq_true q2]
      exact iteT ⟨_, rfl, _, rfl, b, 6, rfl, hb, by decide, by decide, fun d H1 h0 h1 B1 => ⟨_, _, rfl, rfl, k _ _ (.inr (.inl ⟨q2, 1 + d, rfl, by omega, by omega⟩)) B1⟩⟩
    rw [decide_eq_false q2]
    refine iteF ⟨_, rfl, rfl, _, rfl, ?_⟩
    show if decide (V.str n = V.str "space") = true then _ else _
    rw [ds]
    by_cases q3 : n = "space"
    · rw [decide_eq_true q3]
      exact iteT ⟨_, rfl, b, 3, rfl, hb, by decide, by decide, fun d H1 h0 h1 B1 => k _ _ (.inr (.inr (.inl ⟨q3, d, rfl, h0, by omega⟩))) B1⟩
    rw [decide_eq_false q3]
    refine iteF ⟨_, rfl, b, 3, rfl, hb, by decide, by decide, fun d H1 h0 h1 B1 => ⟨_, _, rfl, rfl, k _ _ (.inr (.inr (.inr ⟨?_, _, rfl⟩))) B1⟩⟩
    simp only [List.mem_cons, List.not_mem_nil, or_false] at hn
    rcases hn with q | q | q | q | q | q
    · exact absurd q q1
    · exact absurd q q2
    · exact absurd q q3
    · exact .inl q
    · exact .inr (.inl q)
    · exact .inr (.inr q)
end
end Pa
set_option maxRecDepth 100000
set_option maxHeartbeats 4000000
namespace Pa
open PySem PySem.Spec PyProof.Rows L2 RZ StX
theorem IsBag.lst {H : Hp} {b : Addr} (h : IsBag H b) : ∃ xs, H b = some (.lst xs) := by
  obtain ⟨g, x, c, e⟩ := h
  exact ⟨_, e⟩
theorem Bk.T {K : PySem.W.Frag} {b p : Addr} {H H' : Hp} {xs : List V} (B : Bk b H H') (hb : IsBag H b) (h : SqT K H p xs) : SqT K H' p xs := by
  obtain ⟨ys, hb⟩ := hb.lst
  rcases h with (h | ⟨o, h⟩) | h
  · exact .inl (.inl (B.keep _ _ (fun q => by rw [q, hb] at h; cases h) h))
  · exact .inl (.inr ⟨o, B.keep _ _ (fun q => by rw [q, hb] at h; cases h) h⟩)
  · exact .inr h
theorem Bk.S {K : PySem.W.Frag} {b : Addr} {H H' : Hp} {rs : List Addr} {sets : List (Str × V)} (B : Bk b H H') (hb : IsBag H b) (h : Sets K H rs sets) : Sets K H' rs sets := by
  unfold Sets at *
  induction h with
  | nil => exact .nil
  | cons a _ ih => exact .cons (B.T hb a) ih
theorem Bk.put {b D : Addr} {H H' : Hp} {o : HO} (B : Bk b H H') (hD : H D = none) (hn : D ≠ b) : Bk b H (upd H' D o) := by
  obtain ⟨⟨g, y, c, e⟩, kp⟩ := B
  exact ⟨⟨g, y, c, by rw [upd_ne (Ne.symm hn)]; exact e⟩, fun q u hq eq => by rw [upd_ne (ne_of_none eq hD)]; exact kp q u hq eq⟩
theorem Bk.of {b : Addr} {H H' : Hp} (hb : IsBag H b) (e : Ext H H') : Bk b H H' := by
  obtain ⟨g, y, c, h⟩ := hb
  exact ⟨⟨g, y, c, e _ _ h⟩, fun q o _ h => e q o h⟩
theorem fm_congr {α β : Type} {f g : α → Option β} : ∀ {l : List α}, (∀ x ∈ l, f x = g x) → l.filterMap f = l.filterMap g
  | [], _ => rfl
  | x :: l, h => by
    rw [List.filterMap_cons, List.filterMap_cons, h x List.mem_cons_self, fm_congr fun y hy => h y (List.mem_cons_of_mem _ hy)]
theorem fresh_ne {H : Hp} {b p : Addr} (hb : IsBag H b) (h : H p = none) : p ≠ b := fun q => by
  obtain ⟨ys, e⟩ := hb.lst
  rw [q, e] at h
  cases h
theorem inV_int (n : Int) : ∀ l : List Int, inV (.int n) (l.map V.int) = decide (n ∈ l)
  | [] => rfl
  | x :: l => by
    have ih := inV_int n l
    unfold inV at ih ⊢
    rw [List.map_cons, List.any_cons, ih]
    by_cases e : x = n
    · subst e
      simp [eqV]
    · have e2 : ¬ n = x := fun q => e q.symm
      simp [eqV, e, e2]
/-- the names in their order -/
def Sub (sets : List (Str × V)) : Prop := (sets.map (·.1)).Sublist VN
theorem ordN_sub : ∀ {ns : List Str} {sets : List (Str × V)}, ns.Nodup → (sets.map (·.1)).Sublist ns → ordN ns sets = sets
  | [], sets, _, h => by
    cases sets with
    | nil => rfl
    | cons x s => cases h
  | n :: ns, sets, hn, h => by
    obtain ⟨n1, n2⟩ := List.nodup_cons.mp hn
    cases sets with
    | nil =>
      have := ordN_sub (sets := []) n2 (List.nil_sublist _)
      unfold ordN at this ⊢
      rw [List.filterMap_cons]
      simpa using this
    | cons x s =>
      rw [List.map_cons] at h
      by_cases e : x.1 = n
      · have h2 : (s.map (·.1)).Sublist ns := by
          rw [e] at h
          exact List.cons_sublist_cons.mp h
        have ih := ordN_sub n2 h2
        unfold ordN at ih ⊢
        have e0 : ((x :: s).lookup n) = some x.2 := by
          rw [List.lookup_cons, ← e, beq_self_eq_true]
        rw [List.filterMap_cons, e0]
        show (n, x.2) :: _ = _
        rw [← e]
        congr 1
        have e3 : ns.filterMap (fun m => ((x :: s).lookup m).map fun v => (m, v)) = ns.filterMap (fun m => (s.lookup m).map fun v => (m, v)) := by
          refine fm_congr fun m hm => ?_
          have ne : (m == x.1) = false := beq_eq_false_iff_ne.mpr fun q => n1 (by rw [← e, ← q]; exact hm)
          rw [List.lookup_cons, ne]
        rw [e3]
        exact ih
      · have h2 : ((x :: s).map (·.1)).Sublist ns := by
          rw [List.map_cons]
          cases h with
          | cons _ h => exact h
          | cons_cons _ h => exact absurd rfl e
        have ih := ordN_sub n2 h2
        unfold ordN at ih ⊢
        have e0 : (x :: s).lookup n = none := by
          cases q : (x :: s).lookup n with
          | none => rfl
          | some v => exact absurd (h2.subset (List.mem_map_of_mem (f := (·.1)) (lookup_mem q))) n1
        rw [List.filterMap_cons, e0]
        exact ih
theorem ord_sub {sets : List (Str × V)} (h : Sub sets) : ord sets = sets := ordN_sub (by decide) h
theorem Sub.nodup {sets : List (Str × V)} (h : Sub sets) : (sets.map (·.1)).Nodup := List.Sublist.nodup h (by decide)
theorem Sub.len {sets : List (Str × V)} (h : Sub sets) : sets.length ≤ 6 := by
  have := h.length_le
  rwa [List.length_map] at this
/-- a row as data -/
structure RowAt (K : PySem.W.Frag) (H : Hp) (p : Addr) (w : Int) (ps : List Str) (sets : List (Str × V)) : Prop where
  ex : ∃ pt st rs, SqT K H p [.int w, .ref pt, .ref st] ∧ SqT K H pt (ps.map V.str) ∧ SqT K H st (rs.map V.ref) ∧ Sets K H rs sets
structure Good (w : Int) (ps : List Str) (sets : List (Str × V)) : Prop where
  w0 : 0 ≤ w
  w9 : w ≤ 9
  ps : PatOk ps
  ok : SetsOk sets
  sub : Sub sets
  ne : sets ≠ []
theorem RowAt.bk {K : PySem.W.Frag} {H H' : Hp} {b p : Addr} {w : Int} {ps : List Str} {sets : List (Str × V)} (h : RowAt K H p w ps sets) (hb : IsBag H b) (B : Bk b H H') : RowAt K H' p w ps sets := by
  obtain ⟨pt, st, rs, h1, h2, h3, h4⟩ := h.ex
  exact ⟨pt, st, rs, B.T hb h1, B.T hb h2, B.T hb h3, B.S hb h4⟩
theorem RowAt.ext {K : PySem.W.Frag} {H H' : Hp} {p : Addr} {w : Int} {ps : List Str} {sets : List (Str × V)} (h : RowAt K H p w ps sets) (e : Ext H H') : RowAt K H' p w ps sets := by
  obtain ⟨pt, st, rs, h1, h2, h3, h4⟩ := h.ex
  exact ⟨pt, st, rs, h1.ext e, h2.ext e, h3.ext e, h4.ext e⟩
section
variable {P : Program} {w : World} {K : PySem.W.Frag} {mg : Str → Option Value} {base : Heap} {tv tp tk dl C : Addr}
def spRow (K : PySem.W.Frag) : Sp := fun vs H Q _ => ∃ b : Addr, vs = [.ref b, .str "BAC", .int 6] ∧ IsBag H b ∧ ∀ p H' wt ps sets, Good wt ps sets → Bk b H H' → RowAt K H' p wt ps sets → Q (.ref p) H'
abbrev sL_rule_row : Stmt := topS 38
theorem scL_rule_row : FnScope ["_law_bag_here", "_law_kinds", "_law_widest", "_law_weight", "_law_pattern", "_law_names", "_law_chosen", "_law_turn", "_law_settings", "_law_at"] ["_law_bag_here", "_law_kinds", "_law_widest"] (defScope sL_rule_row) := ⟨rfl, rfl, rfl, by decide +kernel, rfl, by decide +kernel, by decide +kernel⟩
theorem four {d : Int} (h0 : 0 ≤ d) (h1 : d < 4) : ∃ z : Int, atI [V.int 1, .int 2, .int 0, .int 9] d = some (.int z) ∧ 0 ≤ z ∧ z ≤ 9 := by
  rcases (by omega : d = 0 ∨ d = 1 ∨ d = 2 ∨ d = 3) with rfl | rfl | rfl | rfl
  · exact ⟨1, atI_nat (j := 0) rfl, by decide, by decide⟩
  · exact ⟨2, atI_nat (j := 1) rfl, by decide, by decide⟩
  · exact ⟨0, atI_nat (j := 2) rfl, by decide, by decide⟩
  · exact ⟨9, atI_nat (j := 3) rfl, by decide, by decide⟩
theorem ok_row {f : Addr} {fd : FuncData} (F : Fun K "_law_rule_row" "_law_rule_row" sL_rule_row f fd) (T : Txt K w mg tv tp tk dl C) (C__law_draw : CallOk P w K mg base 1 "_law_draw" ["_law_bag_here", "_law_many"] spDraw) (C__law_ask : CallOk P w K mg base 2 "_law_ask" ["_law_bag_here", "_law_signs"] spAsk)
    (C__law_setting : CallOk P w K mg base 2 "_law_setting" ["_law_bag_here", "_law_name", "_law_widest"] spSet0) : FnOk P w K mg base CX0 3 f fd ["_law_bag_here", "_law_kinds", "_law_widest"] (spRow K) := by
  refine F.ok scL_rule_row (fun vs H Q E h => ?_) (fun cdv A outer s H vs Q E hr h => ?_)
  · obtain ⟨b, rfl, _⟩ := h
    rfl
  · obtain ⟨b, rfl, hb, k⟩ := h
    refine ⟨_, (pss_cons (ps_set (i := 3) scL_rule_row.nd rfl (.inl rfl) (pe_ifExp (pt_cmpR op_gt (pe_cc C__law_draw (hr.mono (by decide)) (by rfl) (pa_cons (pv 0) (pa_cons pe_int pa_nil))) pe_int (nomark _)) (pe_ix ix_list (pe_lst (pa_cons pe_int (pa_cons pe_int (pa_cons pe_int (pa_cons pe_int pa_nil))))) (pe_cc C__law_draw (hr.mono (by decide)) (by rfl) (pa_cons (pv 0) (pa_cons pe_int pa_nil))) (fun _ _ => rfl)) (pe_cc C__law_draw (hr.mono (by decide)) (by rfl) (pa_cons (pv 0) (pa_cons pe_int pa_nil)))))
      (pss_cons (ps_set (i := 4) scL_rule_row.nd rfl (.inl rfl) (pe_tup (pa_cons (pe_cc C__law_ask (hr.mono (by decide)) (by rfl) (pa_cons (pv 0) (pa_cons (pv 1) pa_nil))) (pa_cons (pe_cc C__law_ask (hr.mono (by decide)) (by rfl) (pa_cons (pv 0) (pa_cons pe_str pa_nil))) (pa_cons (pe_cc C__law_ask (hr.mono (by decide)) (by rfl) (pa_cons (pv 0) (pa_cons (pv 1) pa_nil))) (pa_cons (pe_cc C__law_ask (hr.mono (by decide)) (by rfl) (pa_cons (pv 0) (pa_cons pe_str pa_nil))) pa_nil))))))
      (pss_cons (ps_set (i := 4) scL_rule_row.nd rfl (.inl rfl) (pe_op op_catA (pv 4) (pe_tup (pa_cons (pe_cc C__law_ask (hr.mono (by decide)) (by rfl) (pa_cons (pv 0) (pa_cons (pv 1) pa_nil))) pa_nil))))
      (pss_cons (ps_set (i := 5) scL_rule_row.nd rfl (.inr rfl) (pe_lst (pa_cons pe_str (pa_cons pe_str (pa_cons pe_str (pa_cons pe_str (pa_cons pe_str (pa_cons pe_str pa_nil))))))))
      (pss_cons (ps_set (i := 6) scL_rule_row.nd rfl (.inr rfl) (pe_lc (own := [("_law_turn", 7)]) (g := gName 7) (tt := tYes) rfl scL_rule_row.nd (pi_range1 (by rfl) T.b_range (pa_cons (pe_op op_add pe_int (pe_cc C__law_draw (hr.mono (by decide)) (by rfl) (pa_cons (pv 0) (pa_cons pe_int pa_nil)))) pa_nil)) (blkOk_by (N := ["_law_bag_here", "_law_kinds", "_law_widest", "_law_weight", "_law_pattern", "_law_names", "_law_chosen", "_law_turn", "_law_settings", "_law_at"]) (sc := defScope sL_rule_row) (by decide +kernel)) (fun _ _ _ _ _ => (pg_name (i := 7) scL_rule_row.nd rfl (.inl rfl))) (fun _ _ _ _ _ => pts_nil) (fun _ _ _ _ _ => (pe_cc C__law_draw (hr.mono (by decide)) (by rfl) (pa_cons (pv 0) (pa_cons pe_int pa_nil))))))
      (pss_cons (ps_if (pt_cmpR op_eq (pe_cc C__law_draw (hr.mono (by decide)) (by rfl) (pa_cons (pv 0) (pa_cons pe_int pa_nil))) pe_int (nomark _))
        (pss_one (ps_set (i := 6) scL_rule_row.nd rfl (.inr rfl) (pe_lst (pa_cons pe_int (pa_cons pe_int (pa_cons pe_int (pa_cons pe_int (pa_cons pe_int (pa_cons pe_int pa_nil)))))))))
        pss_nil)
      (pss_cons (ps_setLc (i := 8) (own := [("_law_at", 9)]) (g := gName 9) rfl scL_rule_row.nd rfl rfl (sw_true rfl rfl rfl (by decide +kernel)) (pi_range1 (by rfl) T.b_range (pa_cons pe_int pa_nil)) (blkOk_by (N := ["_law_bag_here", "_law_kinds", "_law_widest", "_law_weight", "_law_pattern", "_law_names", "_law_chosen", "_law_turn", "_law_settings", "_law_at"]) (sc := defScope sL_rule_row) (by decide +kernel)) (fun _ _ _ _ _ => (pg_name (i := 9) scL_rule_row.nd rfl (.inl rfl))) (fun _ _ _ _ _ => (pts_one (pt_cmpR (r := rIn K false) op_in_seq (pv 9) (pv 6) (by rfl)))) (fun _ _ _ _ _ => (pe_tup (pa_cons (pe_ix (r := rIxL K) ix_list (pv 5) (pv 9) (fun _ _ => rfl)) (pa_cons (pe_cc C__law_setting (hr.mono (by decide)) (by rfl) (pa_cons (pv 0) (pa_cons (pe_ix (r := rIxL K) ix_list (pv 5) (pv 9) (fun _ _ => rfl)) (pa_cons (pv 2) pa_nil)))) pa_nil)))))
      (pss_one (ps_ret (pe_tup (pa_cons (pv 3) (pa_cons (pv 4) (pa_cons (pe_callTy call_tuple_of (by rfl) T.b_tuple (by decide +kernel) (pa_cons (pv 8) pa_nil)) pa_nil))))))))))))), ?_⟩
    refine join1 (α := { p : Int × Hp // 0 ≤ p.1 ∧ p.1 ≤ 9 ∧ Bk b H p.2 }) (G := ?G) (fun rest => ?br) (fun y => ?fin)
    case br =>
      refine ⟨_, rfl, b, 3, rfl, hb, by decide, by decide, fun d H1 h0 h1 B1 => ⟨_, _, rfl, rfl, _, rfl, ite2 (fun _ => ?_) (fun _ => ?_)⟩⟩
      · refine ⟨(by show 4 ≤ sizeLine; decide), fun l hl => ?_⟩
        have B2 := B1.fresh (o := .lst [.int 1, .int 2, .int 0, .int 9]) hl
        refine ⟨_, rfl, b, 4, rfl, B2.bag, by decide, by decide, fun d2 H2 h2 h3 B3 => ?_⟩
        obtain ⟨z, hz, z0, z9⟩ := four h2 h3
        have hlb : l ≠ b := fun q => by
          obtain ⟨ys, e⟩ := B1.bag.lst
          rw [q, e] at hl
          cases hl
        refine ⟨l, _, _, _, rfl, rfl, SqL.of (B3.keep _ _ hlb upd_same), hz, ?_⟩
        obtain ⟨y, e1, e2⟩ : ∃ y : { p : Int × Hp // 0 ≤ p.1 ∧ p.1 ≤ 9 ∧ Bk b H p.2 }, z = y.1.1 ∧ H2 = y.1.2 := ⟨⟨(z, H2), z0, z9, B2.trans B3⟩, rfl, rfl⟩
        rw [e1, e2]
        exact rest y
      · refine ⟨_, rfl, b, 10, rfl, B1.bag, by decide, by decide, fun d2 H2 h2 h3 B3 => ?_⟩
        obtain ⟨y, e1, e2⟩ : ∃ y : { p : Int × Hp // 0 ≤ p.1 ∧ p.1 ≤ 9 ∧ Bk b H p.2 }, d2 = y.1.1 ∧ H2 = y.1.2 := ⟨⟨(d2, H2), h2, by show d2 ≤ 9; omega, B1.trans B3⟩, rfl, rfl⟩
        rw [e1, e2]
        exact rest y
    case fin =>
      obtain ⟨⟨wt, Hw⟩, w0, w9, Bw⟩ := y
      simp only at w0 w9 Bw
      refine ⟨_, rfl, _, rfl, b, "BAC", rfl, Bw.bag, .inl rfl, fun s1 H1 q1 _ B1 => ?_⟩
      refine ⟨_, rfl, b, "xy", rfl, B1.bag, .inr rfl, fun s2 H2 _ q2 B2 => ?_⟩
      refine ⟨_, rfl, _, rfl, b, "BAC", rfl, B2.bag, .inl rfl, fun s3 H3 q3 _ B3 => ?_⟩
      refine ⟨_, rfl, b, "xy", rfl, B3.bag, .inr rfl, fun s4 H4 _ q4 B4 => ?_⟩
      refine ⟨(by show 4 ≤ sizeLine; decide), fun t ht => ?_⟩
      have B04 := (((Bw.trans B1).trans B2).trans B3).trans B4
      have B05 := B04.fresh (o := .tup [.str s1, .str s2, .str s3, .str s4]) ht
      refine ⟨_, rfl, _, rfl, _, rfl, b, "BAC", rfl, B05.bag, .inl rfl, fun s5 H5 q5 _ B5 => ⟨(by show 1 ≤ sizeLine; decide), fun t2 ht2 => ?_⟩⟩
      have ht5 := B5.T (K := K) B05.bag (SqT.of upd_same)
      refine ⟨t, t2, _, _, rfl, rfl, ht5.ext (Ext.upd ht2), SqT.of upd_same, (by show 4 + 1 ≤ sizeLine; decide), (fun z => nomatch z), (fun _ z => nomatch z), fun _ _ pt hpt => ?_⟩
      refine ⟨(by show 6 ≤ sizeLine; decide), fun nm hnm => ?_⟩
      have B06 := ((B05.trans B5).fresh (o := .tup [.str s5]) ht2).fresh (o := .tup [.str s1, .str s2, .str s3, .str s4, .str s5]) hpt
      have hpat : SqT K (upd (upd H5 t2 (.tup [.str s5])) pt (.tup [.str s1, .str s2, .str s3, .str s4, .str s5])) pt ([s1, s2, s3, s4, s5].map V.str) := SqT.of upd_same
      have B07 := B06.fresh (o := .lst (VN.map V.str)) hnm
      have hpat7 := hpat.ext (Ext.upd (o := .lst (VN.map V.str)) hnm)
      have hnm7 : upd (upd (upd H5 t2 (.tup [.str s5])) pt (.tup [.str s1, .str s2, .str s3, .str s4, .str s5])) nm (.lst (VN.map V.str)) nm = some (.lst (VN.map V.str)) := upd_same
      have hnb : nm ≠ b := fresh_ne B06.bag hnm
      change tSeq _ _ _ _ (upd (upd (upd H5 t2 (.tup [.str s5])) pt (.tup [.str s1, .str s2, .str s3, .str s4, .str s5])) nm (.lst (VN.map V.str)))
      generalize upd (upd (upd H5 t2 (.tup [.str s5])) pt (.tup [.str s1, .str s2, .str s3, .str s4, .str s5])) nm (.lst (VN.map V.str)) = Hn at B07 hpat7 hnm7 ⊢
      refine join1 (α := { p : Addr × List Int × Hp // Bk b Hn p.2.2 ∧ p.1 ≠ b ∧ p.2.2 p.1 = some (.lst (p.2.1.map V.int)) ∧ p.2.1 ≠ [] ∧ ∀ c ∈ p.2.1, (0 : Int) ≤ c ∧ c < 6 }) (G := ?G2) (fun rest => ?br2) (fun y => ?fin2)
      case br2 =>
        refine ⟨_, rfl, b, 2, rfl, B07.bag, by decide, by decide, fun d6 H6 e0 e1 B6 => ⟨_, _, rfl, rfl, 1 + d6, rfl, by omega, by omega, fun D hD => ?_⟩⟩
        have hDb : D ≠ b := fresh_ne B6.bag hD
        refine lc_range (lo := 0) (n := (1 + d6).toNat) (fun i H' => ∃ cs : List Int, cs.length = i ∧ (∀ c ∈ cs, (0 : Int) ≤ c ∧ c < 6) ∧ Bk b H6 H' ∧ H' D = some (.lst (cs.map V.int))) ⟨[], rfl, (fun c hc => nomatch hc), (Bk.of B6.bag Ext.rfl').put hD hDb, upd_same⟩ (fun i H' hi h => ?_) (fun H' h => ?_)
        · obtain ⟨cs, hl, hc, B, hd⟩ := h
          refine ⟨rfl, _, rfl, b, 6, rfl, B.bag, by decide, by decide, fun d H2 h0 h1 B2 => ⟨_, B2.keep _ _ hDb hd, ?_, cs ++ [d], ?_, fun c hc' => ?_, (B.trans B2).put hD hDb, ?_⟩⟩
          · rw [List.length_map, hl]
            exact Nat.lt_of_lt_of_le (by omega : i < 1000) (by decide)
          · rw [List.length_append, hl]
            rfl
          · rcases List.mem_append.mp hc' with q | q
            · exact hc c q
            · rw [List.mem_singleton.mp q]
              exact ⟨h0, h1⟩
          · rw [upd_same, List.map_append]
            rfl
        · obtain ⟨cs, hl, hc, B, hd⟩ := h
          refine ⟨_, rfl, b, 8, rfl, B.bag, by decide, by decide, fun d7 H7 f0 f1 B7 => ⟨rfl, _, rfl, ite2 (fun _ => ?tt) (fun _ => ?ff)⟩⟩
          case ff =>
            obtain ⟨y, e1, e2⟩ : ∃ y : { p : Addr × List Int × Hp // Bk b Hn p.2.2 ∧ p.1 ≠ b ∧ p.2.2 p.1 = some (.lst (p.2.1.map V.int)) ∧ p.2.1 ≠ [] ∧ ∀ c ∈ p.2.1, (0 : Int) ≤ c ∧ c < 6 }, D = y.1.1 ∧ H7 = y.1.2.2 :=
              ⟨⟨(D, cs, H7), (B6.trans B).trans B7, hDb, B7.keep _ _ hDb hd, (fun q => by rw [show cs = [] from q] at hl; simp at hl; omega), hc⟩, rfl, rfl⟩
            rw [e1, e2]
            exact rest y
          case tt =>
            refine ⟨(by show 6 ≤ sizeLine; decide), fun c6 hc6 => ?_⟩
            have hcb : c6 ≠ b := fresh_ne B7.bag hc6
            have BB := ((B6.trans B).trans B7).fresh (o := .lst (([0, 1, 2, 3, 4, 5] : List Int).map V.int)) hc6
            have hcc : upd H7 c6 (.lst (([0, 1, 2, 3, 4, 5] : List Int).map V.int)) c6 = some (.lst (([0, 1, 2, 3, 4, 5] : List Int).map V.int)) := upd_same
            obtain ⟨y, e1, e2⟩ : ∃ y : { p : Addr × List Int × Hp // Bk b Hn p.2.2 ∧ p.1 ≠ b ∧ p.2.2 p.1 = some (.lst (p.2.1.map V.int)) ∧ p.2.1 ≠ [] ∧ ∀ c ∈ p.2.1, (0 : Int) ≤ c ∧ c < 6 }, c6 = y.1.1 ∧ upd H7 c6 (.lst (([0, 1, 2, 3, 4, 5] : List Int).map V.int)) = y.1.2.2 :=
              ⟨⟨(c6, [0, 1, 2, 3, 4, 5], _), BB, hcb, hcc, (show ([0, 1, 2, 3, 4, 5] : List Int) ≠ [] by decide), (show ∀ c ∈ ([0, 1, 2, 3, 4, 5] : List Int), (0 : Int) ≤ c ∧ c < 6 by decide)⟩, rfl, rfl⟩
            have z := rest y
            rw [← e1, ← e2] at z
            exact z
      case fin2 =>
        obtain ⟨⟨cA, cs, H8⟩, B8, hcb, hc8, hcs, hcr⟩ := y
        simp only at B8 hcb hc8 hcs hcr
        have hnm8 := B8.keep _ _ hnb hnm7
        have hpat8 := B8.T (K := K) B07.bag hpat7
        refine ⟨6, rfl, by decide, by decide, fun L hL => ?_⟩
        have hLb : L ≠ b := fresh_ne B8.bag hL
        have hLn : nm ≠ L := ne_of_none hnm8 hL
        have hLc : cA ≠ L := ne_of_none hc8 hL
        refine lc_range (lo := 0) (n := 6) (fun i H' => ∃ (rs : List Addr) (sets : List (Str × V)), H' L = some (.lst (rs.map V.ref)) ∧ Sets K H' rs sets ∧ SetsOk sets ∧ (sets.map (·.1)).Sublist (VN.take i) ∧ (∀ c ∈ cs, c < (i : Int) → sets ≠ []) ∧ Bk b H8 H')
          ⟨[], [], upd_same, .nil, (fun x hx => nomatch hx), List.nil_sublist _, (fun c hc h => absurd (hcr c hc).1 (by omega)), (Bk.of B8.bag Ext.rfl').put hL hLb⟩ (fun i H' hi h => ?_) (fun H' h => ?_)
        · obtain ⟨rs, sets, hl, hS, hok, hsub, hne, B⟩ := h
          obtain ⟨n, hn⟩ : ∃ n, VN[i]? = some n := ⟨VN[i]'hi, List.getElem?_eq_getElem hi⟩
          have hnV : n ∈ VN := List.mem_of_getElem? hn
          have hn' : (VN.map V.str)[i]? = some (.str n) := by rw [List.getElem?_map, hn]; rfl
          have z0 : (0 : Int) + (i : Int) = (i : Int) := by omega
          have hnm' := B.keep _ _ hnb hnm8
          have hc' := B.keep _ _ hcb hc8
          have htk : VN.take (i + 1) = VN.take i ++ [n] := by rw [List.take_add_one, hn]; rfl
          refine ⟨rfl, _, rfl, _, rfl, cA, _, rfl, .inl (SqL.of hc'), rfl, by simp [flatV], ?_⟩
          refine ⟨_, rfl, ?_⟩
          show if inV (.int (0 + (i : Int))) (cs.map V.int) = true then _ else _
          rw [inV_int, z0]
          by_cases hm : (i : Int) ∈ cs
          · rw [decide_eq_true hm]
            refine iteT ?_
            refine ⟨_, rfl, _, rfl, nm, _, _, _, rfl, rfl, SqL.of hnm', atI_nat (j := i) hn', ?_⟩
            refine ⟨_, rfl, _, rfl, _, rfl, nm, _, _, _, rfl, rfl, SqL.of hnm', atI_nat (j := i) hn', _, rfl, b, n, rfl, B.bag, hnV, fun v H2 hv B2 => ⟨(by show 2 ≤ sizeLine; decide), fun t ht => ?_⟩⟩
            have hl2 := B2.keep _ _ hLb hl
            have htL : L ≠ t := ne_of_none hl2 ht
            refine ⟨_, by rw [upd_ne htL]; exact hl2, ?_, rs ++ [t], sets ++ [(n, v)], ?_, ?_, fun x hx => ?_, ?_, fun c _ _ q => ?_, ?_⟩
            · have h1 := Paired.length hS
              have h2 := hsub.length_le
              rw [List.length_map, List.length_take] at h2
              rw [List.length_map, h1]
              exact Nat.lt_of_le_of_lt (Nat.le_trans h2 (Nat.min_le_right _ _)) (by decide)
            · rw [upd_same, List.map_append]
              rfl
            · have h1 : Sets K (upd H2 t (.tup [.str n, v])) rs sets := (B2.S B.bag hS).ext (Ext.upd ht)
              exact sets_upd (u := .lst (rs.map V.ref)) (sets_app (x := (n, v)) h1 (SqT.of upd_same)) (by rw [upd_ne htL]; exact hl2) (fun _ q => nomatch q) fun _ _ q => nomatch q
            · rcases List.mem_append.mp hx with q | q
              · exact hok x q
              · rw [List.mem_singleton.mp q]
                exact hv
            · rw [htk, List.map_append]
              exact List.Sublist.append hsub (List.Sublist.refl _)
            · simp at q
            · exact ((B.trans B2).fresh ht).put hL hLb
          · rw [decide_eq_false hm]
            refine iteF ⟨rs, sets, hl, hS, hok, ?_, fun c hc h => hne c hc ?_, B⟩
            · rw [htk]
              exact hsub.trans (List.sublist_append_left _ _)
            · have : c ≠ (i : Int) := fun q => hm (by rw [← q]; exact hc)
              omega
        · obtain ⟨rs, sets, hl, hS, hok, hsub, hne, B⟩ := h
          refine ⟨_, rfl, _, rfl, _, rfl, L, _, rfl, .inl ⟨SqL.of hl, fun st hst => ⟨(by show 3 ≤ sizeLine; decide), fun p hp => ?_⟩⟩⟩
          have e1 := Ext.upd (o := .tup (rs.map V.ref)) hst
          have e2 := e1.upd' (o := .tup [.int wt, .ref pt, .ref st]) hp
          have BF := ((B04.fresh (o := .tup [.str s1, .str s2, .str s3, .str s4]) ht).trans B5)
          refine k p _ wt [s1, s2, s3, s4, s5] sets ⟨w0, w9, ⟨s1, s2, s3, s4, s5, rfl, q1 rfl, q2 rfl, q3 rfl, q4 rfl, q5 rfl⟩, hok, hsub, ?_⟩ ?_ ⟨pt, st, rs, SqT.of upd_same, ?_, (SqT.of upd_same).ext (Ext.upd hp), hS.ext e2⟩
          · obtain ⟨c, hc⟩ := List.exists_mem_of_ne_nil cs hcs
            exact hne c hc (by have := (hcr c hc).2; omega)
          · exact ((B07.trans B8).trans B).trans (Bk.of B.bag e2)
          · exact (B.T (K := K) B8.bag hpat8).ext e2
end
end Pa
set_option maxRecDepth 100000
set_option maxHeartbeats 4000000
namespace Pa
open PySem PySem.Spec PyProof.Rows L2 RZ StX ClX
/-- x, y, z = a, b, c with plain local names -/
def tPar3 (i j l : Nat) (ta : TA) : TS := fun D σ H => ta σ H fun vs H1 => ∃ u v w, vs = [u, v, w] ∧ D.nx (((σ.set i (some u)).set j (some v)).set l (some w)) H1
theorem ps_par3 {X : Cx} {i j l : Nat} {x y z : Str} {a b c : Expr} {ta : TA} {pos px py pz pt : Pos} {kt k2 pt2} (hc : X.calm = true) (hN : X.N.Nodup) (hi : X.N[i]? = some x) (hj : X.N[j]? = some y) (hl : X.N[l]? = some z) (hij : i ≠ j) (hil : i ≠ l) (hjl : j ≠ l)
    (hx : X.env.scope.names.lookup x = some .local) (hy : X.env.scope.names.lookup y = some .local) (hz : X.env.scope.names.lookup z = some .local) (ha : PA X [a, b, c] ta)
    (hw : swappedStores [.Tuple [.Name x px, .Name y py, .Name z pz] kt pt] (.Tuple [a, b, c] k2 pt2) X.env = pure (some [x, y, z]))
    (hs : swapsWithSole [.Tuple [.Name x px, .Name y py, .Name z pz] kt pt] (.Tuple [a, b, c] k2 pt2) pos.line X.env = pure false := by rfl) :
    PS X (.Assign [.Tuple [.Name x px, .Name y py, .Name z pz] kt pt] (.Tuple [a, b, c] k2 pt2) pos) (tPar3 i j l ta) := by
  refine ⟨fun pins s σ H D I h => ?_⟩
  rw [exec_Assign_arm]
  refine wpAny_bind (wpAny_standAt ?_)
  rw [hs]
  refine wpAny_bind (wpAny_pure ?_)
  rw [if_neg (by decide)]
  refine wpAny_bind (Tuple_ (thn (ha.run _ pins s σ H _ I h) fun us s1 ⟨vs, H1, I1, r1, q1⟩ => ?_))
  obtain ⟨u, v, w, e1, q1⟩ := q1
  subst e1
  obtain ⟨u1, u2, u3, rfl, ru, rv, rw'⟩ : ∃ u1 u2 u3, us = [u1, u2, u3] ∧ RelV u u1 ∧ RelV v u2 ∧ RelV w u3 := by
    cases r1 with
    | cons p q =>
      cases q with
      | cons p' q' =>
        cases q' with
        | cons p'' q'' =>
          cases q''
          exact ⟨_, _, _, rfl, p, p', p''⟩
  refine wpAny_newObj_type ?_ (by show 3 ≤ sizeLine; decide)
  have I2 : Inv X pins σ H1 { s1 with heap := s1.heap.push { cls := .type "tuple", data := .seq [u1, u2, u3].toArray } } := I1.kept (t' := s1.toks) fun b o e => Heap.get?_push_of_some _ e
  rw [hw]
  refine wpAny_bind (wpAny_pure ?_)
  show wpAny (model X.prog X.w) X.A (do rule "assign.swapped-stores"; let items ← unpackItems (.ref s1.heap.objs.size) 3 none; assignInOrder [fun v => bindName X.env z v, fun v => bindName X.env y v, fun v => bindName X.env x v] items.reverse; pure Flow.next) _ _ _
  refine wpAny_bind (wpAny_rule (wpAny_bind (unpackItems_tuple (items := #[u1, u2, u3]) (I.ok.hd hc) (IsTup.new s1.heap _) fun h' hx' => ?_)))
  have I3 := I2.kept (h' := h') (t' := s1.toks) fun b o e => hx' b o (Nat.ne_of_lt (Heap.lt_size e)) e
  show wpAny _ _ (assignInOrder [fun v => bindName X.env z v, fun v => bindName X.env y v, fun v => bindName X.env x v] [u3, u2, u1] >>= fun _ => pure Flow.next) _ _ _
  refine wpAny_bind (assignInOrder_cons (wpAny_bindName (store_ok I3 hN hl (.inl hz) rw' (fun s2 I4 => ?_) (.inr hz))))
  refine assignInOrder_cons (wpAny_bindName (store_ok I4 hN hj (.inl hy) rv (fun s3 I5 => ?_) (.inr hy)))
  refine assignInOrder_cons (wpAny_bindName (store_ok I5 hN hi (.inl hx) ru (fun s4 I6 => assignInOrder_nil (wpAny_pure ?_)) (.inr hx)))
  have e : ((σ.set l (some w)).set j (some v)).set i (some u) = ((σ.set i (some u)).set j (some v)).set l (some w) := by
    rw [List.set_comm _ _ (Ne.symm hjl), List.set_comm _ _ (Ne.symm hil), List.set_comm _ _ (Ne.symm hij)]
  rw [e] at I6
  exact ⟨_, H1, I6, q1⟩
/-- what the class's defs promise -/
structure RuleOk (P : Program) (w : World) (K : PySem.W.Frag) (mg : Str → Option Value) (base : Heap) (C : Addr) : Prop where
  mak : ∃ fi, Mk K C fi ∧ FnKw P w K mg base CX0 4 fi (spInitK K C)
  eq : ∃ fe fd, EqO K C fe ∧ FnOk P w K mg base CX0 1 fe fd ["self", "other"] (spEqR K C) ∧ Binds K fd ["self", "other"] []
  made : ∃ mc p fm, CRead K C mc ∧ CMet K C mc "made" p fm ∧ FnR P w K mg base CX0 6 fm (fun vs H Q E => spMade K C (vs ++ []) H Q E)
  call : ∃ fc, CallO K C fc ∧ FnR P w K mg base CX0 1 fc (fun vs H Q E => spCallR K C (vs ++ []) H Q E)
  nf : PySem.W.notFirst K C (.ref C) = true
section
variable {X : Cx} {C : Addr} {p pos apos : Pos} {e : Expr} {es : List Expr} {kws : List Keyword} {ks : List Str} {t tk : TA} {x : Str} {o : Expr} {ta : TE} {pl : Sem Bool}
theorem pe_mk (R : RuleOk X.prog X.w X.K X.mg X.base C) (hr : Room 5 X.A) (hg : Gl X x) (hm : X.mg x = some (.ref C)) (ha : PA X (e :: es) t) (hkw : PK X kws tk) (hall : (backToKw pos (keywordEach kws X.env)).all (·.1.isSome) = true := by rfl) (hks : (backToKw pos (keywordEach kws X.env)).filterMap (·.1) = ks := by rfl)
    (hdb : (x == ("__debug__" : Str)) = false := by decide) (he : starEach (e :: es) X.env = (false, eval e X.env) :: starEach es X.env := by rfl)
    (hpl : ((backTo pos (starEach (e :: es) X.env)).any (·.1) || (backToKw pos (keywordEach kws X.env)).any (·.1.isNone)) = false := by rfl) :
    PE X (.Call (.Name x p) (e :: es) kws pos) (tMakeKw C ks (spInitK X.K C) E0 t tk) := by
  obtain ⟨fi, M, F⟩ := R.mak
  exact pe_makeKw M F hr hg hm pass0 ha hkw hall hks hdb he hpl
theorem op_eqR (R : RuleOk X.prog X.w X.K X.mg X.base C) (hr : Room 1 X.A) : OpR X (compareOp .Eq) (rEqO X.K C (spEqR X.K C) E0 false) := by
  obtain ⟨fe, fd, e, F, b⟩ := R.eq
  exact op_eqO F b pass0 hr e
theorem op_neR (R : RuleOk X.prog X.w X.K X.mg X.base C) (hr : Room 2 X.A) : OpR X (compareOp .NotEq) (rEqO X.K C (spEqR X.K C) E0 true) := by
  obtain ⟨fe, fd, e, F, b⟩ := R.eq
  exact op_neO F b pass0 hr e
theorem pe_made (R : RuleOk X.prog X.w X.K X.mg X.base C) (he : PE X o ta) (hr : Room 6 X.A) (ha : PA X (e :: es) t)
    (hst : starEach (e :: es) X.env = (false, eval e X.env) :: starEach es X.env := by rfl) (hpl : (backTo pos (starEach es X.env)).any (·.1) = false := by rfl)
    (ht : eval (.Call (.Attribute o "made" apos) (e :: es) [] pos) X.env = (do
      let ov ← eval o X.env
      standAt apos.atName
      let (f, first) ← holding [ov] (getMethod ov "made" pl)
      callWith pos f first (backTo pos (starEach (e :: es) X.env)) (backToKw pos (keywordEach [] X.env))) := by rfl) :
    PE X (.Call (.Attribute o "made" apos) (e :: es) [] pos) (tCMeth C (fun vs H Q E => spMade X.K C (vs ++ []) H Q E) E0 ta t) := by
  obtain ⟨mc, p, fm, r, c, F⟩ := R.made
  exact pe_cmeth he r c F hr pass0 ha hst hpl ht
end
/-- two rules of the class compared -/
theorem eq_red {K : PySem.W.Frag} {C : Addr} {H : Hp} {a b : Addr} {wt w' : Int} {ps ps' : List Str} {sets sets' : List (Str × V)} {z : Bool} {Q : VK} (T : TxR K C) (nf : PySem.W.notFirst K C (.ref C) = true) (h1 : RuleAt K C H a wt ps sets) (h2 : RuleAt K C H b w' ps' sets') (p1 : PatOk ps) (p2 : PatOk ps') (s1 : SetsOk sets) (s2 : SetsOk sets')
    (k : Q (.bl (z != decide (wt = w' ∧ ps = ps' ∧ sets = sets'))) H) : rEqO K C (spEqR K C) E0 z (.ref a) (.ref b) H Q := by
  obtain ⟨dx, _, _, _, e1, _⟩ := h1.ex
  obtain ⟨dx', _, _, _, e2, _⟩ := h2.ex
  exact ⟨a, dx, _, _, rfl, e1, .base (.ins e2 T.cl T.ha T.hn T.htk T.hm), nf, a, _, wt, ps, sets, rfl, h1, p1, s1, .inl ⟨b, w', ps', sets', rfl, h2, p2, s2, _, rfl, k⟩⟩
/-- making by keywords -/
theorem mk_red {K : PySem.W.Frag} {C : Addr} {H : Hp} {wt : Int} {ks : List Str} {zs : List V} {ps : List Str} {sets : List (Str × V)} {Q : VK} (h0 : 0 ≤ wt) (h9 : wt ≤ 9) (hn : ((ks.zip zs).map (·.1)).Nodup) (hin : ∀ z ∈ ks.zip zs, z.1 ∈ PN ∨ z.1 ∈ VN) (hl : (ks.zip zs).length ≤ 20) (hp : PatOk ps)
    (hpat : PN.map (fun k => ((ks.zip zs).lookup k).getD (.str "")) = ps.map V.str) (hr : restK (ks.zip zs) = sets) (hs : SetsOk sets) (hne : sets ≠ []) (k : ∀ x H', H x = none → Ext H H' → RuleAt K C H' x wt ps (ord sets) → Q (.ref x) H') :
    ∀ x dx, H x = none → H dx = none → dx ≠ x → spInitK K C (.ref x :: [.int wt]) (ks.zip zs) (upd (upd H dx (.own x)) x (.ins C dx [])) (fun v H3 => v = .non ∧ Q (.ref x) H3) E0 := fun x dx hx hdx hd => by
  refine ⟨x, dx, wt, ps, rfl, hn, hin, hl, upd_same, h0, h9, hp, hpat, by rw [hr]; exact hs, by rw [hr]; exact hne, fun H' hk hR => ⟨rfl, k x H' hx (fun q u e => ?_) (by rw [hr] at hR; exact hR)⟩⟩
  have q1 := ne_of_none e hx
  have q2 := ne_of_none e hdx
  refine hk q u q1 ?_
  rw [upd_ne q1, upd_ne q2]
  exact e
theorem ord_ok2 {K : PySem.W.Frag} : True := True.intro
end Pa
set_option maxRecDepth 100000
set_option maxHeartbeats 4000000
/-! a walk over an own object whose __iter__ gives iter(a tuple) -/
namespace Pa
open PySem PySem.Spec PyProof.Rows L2 StX
/-- a fresh iterator over the tuple at a -/
def ITup (p a : Addr) : HO := .ext fun h => h.IsTupleIter p a 0
theorem itup_new {P : Program} {w : World} {H : Hp} {h : Heap} {p a : Addr} (x : h.IsTupleIter p a 0) : ObjOk P w H h p (ITup p a) := by
  refine ⟨x, ?_, fun g1 g2 y k => ?_⟩
  · obtain ⟨o, e, _⟩ := x
    exact ⟨o, e⟩
  · obtain ⟨o, e, r⟩ := y
    exact ⟨o, k o e, r⟩
/-- what is laid at p no longer told -/
theorem objok_drop {P : Program} {w : World} {H : Hp} {h : Heap} {p : Addr} {φ : Heap → Prop} : ∀ {o : HO} {a : Addr}, ObjOk P w (upd H p (.ext φ)) h a o → ObjOk P w H h a o
  | .lst _, _, x => x
  | .tup _, _, x => x
  | .dK _, _, x => x
  | .dT kvs, _, x => by
    obtain ⟨h1, h2, xs, h3, h4⟩ := x
    refine ⟨h1, h2, xs, L2.Paired.mapP h3 fun u v z => ⟨z.1, ?_, z.2.2⟩, h4⟩
    have e := z.2.1
    by_cases q : v.2.1 = p
    · rw [q, upd_same] at e
      cases e
    · rw [upd_ne q] at e
      exact e
  | .set _ _, _, x => x
  | .ins C dx fs, a, x => by
    obtain ⟨h1, r⟩ := x
    refine ⟨?_, r⟩
    by_cases q : dx = p
    · rw [q, upd_same] at h1
      cases h1
    · rw [upd_ne q] at h1
      exact h1
  | .own _, _, x => x
  | .xd _, _, x => x
  | .met _ _, _, x => x
  | .rng _ _, _, x => x
  | .frz o u, a, x => ⟨x.1, objok_drop (o := u) x.2⟩
  | .tbl _, _, x => x
  | .ext _, _, x => x
/-- a promise that may speak of the state at the call -/
abbrev SpS := Shared → Sp
structure FnS (P : Program) (w : World) (K : PySem.W.Frag) (mg : Str → Option Value) (base : Heap) (k : Nat) (f : Addr) (fd : FuncData) (ps : List Str) (sp : SpS) : Prop where
  len : ∀ s vs H Q E, sp s vs H Q E → vs.length = ps.length
  run : ∀ (A : Around) (up : List Env) (s : Shared) (H : Hp) (ar : Args) (us : List Value) (vs : List V) (Q : VK) (E : XK), Room k A → Env0 P w K mg base A up s H → BindsTo s fd ar (ps.zip us) → Vals vs us → sp s vs H Q E →
    codeAny (model P w) A (.call (.ref f) ar) (CR CX0 up P w H s Q E) s
section
variable {P : Program} {w : World} {K : PySem.W.Frag} {mg : Str → Option Value} {base : Heap}
theorem Fun.okS {x qual : Str} {st : Stmt} {f : Addr} {fd : FuncData} {N ps : List Str} {k : Nat} {sp : SpS} (F : Fun K x qual st f fd) (S : FnScope N ps (defScope st)) (ln : ∀ s vs H Q E, sp s vs H Q E → vs.length = ps.length)
    (hb : ∀ (cv : Value) (A : Around) (up : List Env) (s : Shared) (H : Hp) (vs : List V) (Q : VK) (E : XK), Room k (A.deeper (envOfC qual (defScope st) s.heap.objs.size f cv)) → sp s vs H Q E →
      ∃ t, PSs (cxOf CX0 P w K mg base N qual (defScope st) f cv A up s H E).nox (defBody st) t ∧ t { nx := fun _ H' => Q .non H', rt := Q } (start N vs) H) : FnS P w K mg base (k + 1) f fd ps sp := by
  obtain ⟨oc, od, kV, doc, pm, an, cv, ct, osl, rfl, lk, hcd⟩ := F.ex
  refine ⟨ln, fun A up s H ar us vs Q E hr e0 hbn rr hsp => ?_⟩
  have hlen := ln _ _ _ _ _ hsp
  have hK : K.In s.heap := e0.mod.kin.keeps fun b o e => (e0.bs b o e).1
  have hlim : s.heap.NoLimit := e0.mod.nolimit.keeps fun b o e => (e0.bs b o e).1
  have hk : ∀ y ∈ ps.zip us, (defScope st).names.lookup y.1 = some .local ∨ ((defScope st).names.lookup y.1 = some .cell ∧ ((cellsFrom (s.heap.objs.size + 1) (defScope st).names []).lookup y.1).isSome = true) := by
    rintro ⟨n, v⟩ hy
    rcases S.par n (List.of_mem_zip hy).1 with q | q
    · exact .inl q
    · exact .inr ⟨q, PySem.W.cellsFrom_some _ _ _ (.inl q)⟩
  refine codeAny_call_function hr.depth (hK _ _ lk) rfl S.co S.gen rfl (PySem.W.codeRec_of hK hcd) (hbn _ _ _ _ (wpAny_newFunctionEnv_cells S.kind hk fun en he s1 x => ?_))
  subst he
  refine ⟨hlim.keeps x.toInCall.keep, codeAny_func ?_⟩
  obtain ⟨t, ht, hq⟩ := hb cv A up s H vs Q E (hr.deeper _) hsp
  have I : Inv (cxOf CX0 P w K mg base N qual (defScope st) f cv A up s H E) [] (start N vs) H s1 := inv_start S hr.hd e0 hlen rr x
  refine wpAny_mono (ht.nox.run [] s1 (start N vs) H _ I hq) (fun fl s' hs => ?_) fun _ _ z => z
  have fin : ∀ {τ : L2.St} {G : Hp} {v : V} {u : Value}, Inv (cxOf CX0 P w K mg base N qual (defScope st) f cv A up s H E) [] τ G s' → RelV v u → Q v G → CE up P w H s Q u s' := fun J rv q => ⟨_, _, J.os, J.bare, J.base, J.hok, rv, q⟩
  cases fl with
  | ret u =>
    obtain ⟨_, _, _, J, rv, q⟩ := hs
    exact fin J rv q
  | next =>
    obtain ⟨_, _, J, q⟩ := hs
    exact fin (v := V.non) (u := Value.none) J rfl q
  | brk => exact False.elim (by obtain ⟨_, _, _, q⟩ := hs; exact q)
  | cont => exact False.elim (by obtain ⟨_, _, _, q⟩ := hs; exact q)
end
section
variable {X : Cx}
/-- iter(a tuple): the iterator is younger than the body's entry -/
def rIterT (X : Cx) : List V → Hp → VK → Prop := fun xs H Q => ∃ a ys, xs = [.ref a] ∧ SqT X.K H a ys ∧ ∀ p, H p = none → X.s_0.heap.objs.size ≤ p → Q (.ref p) (upd H p (ITup p a))
theorem cr_iterT : CallR X (.builtin "iter") (rIterT X) := by
  intro pins s σ H xs us Q I r h
  obtain ⟨a, ys, rfl, ht, q⟩ := h
  obtain ⟨u, rfl, ru⟩ := r.one
  cases ru
  obtain ⟨its, rv, p, _⟩ := I.tuple ht
  refine PySem.Calls.call_function_entry (by decide +kernel) (by decide +kernel) PySem.W.kdk_entry_iter (PySem.W.kdk_args_iter _) ?_
  unfold Builtin.«iter»
  refine wpAny_bind (m := someArgs "iter" 1 2 _) (wpAny_of_eq (a := [Value.ref a]) (by first | rfl | kernel_rfl!) ?_)
  show wpAny _ _ (pyIter (.ref a) >>= fun r => ret r) _ _ s
  refine wpAny_bind (wpAny_pyIter_tuple (show s.heap.IsTuple a its.toArray from p) (wpAny_pure ⟨_, rfl, ?_⟩))
  exact ⟨.ref _, _, I.laid (t' := s.toks) (o := ITup s.heap.objs.size a) (fun b o e => Heap.get?_push_of_some _ e) (Nat.le_refl _) (itup_new ⟨_, Heap.get?_push_size _ rfl, rfl, rfl⟩), rfl, q _ (I.hok.fresh (Nat.le_refl _)) I.sz⟩
/-- the class at C has an __iter__ of its own -/
structure IterO (K : PySem.W.Frag) (C f : Addr) : Prop where
  it : PySem.W.findIn K (.ref C) "__iter__" = some (some (.ref f))
  fn : PySem.W.isFn K (.ref f) = true
/-- what such an __iter__ promises: an iterator over the tuple that R tells, nothing else new -/
def spIter (R : Addr → Addr → Hp → Prop) : SpS := fun s vs H Q _ => ∃ a t, vs = [.ref a] ∧ R a t H ∧ ∀ p, H p = none → s.heap.objs.size ≤ p → Q (.ref p) (upd H p (ITup p t))
def iOwnT (K : PySem.W.Frag) (C : Addr) (R : Addr → Addr → Hp → Prop) (te : TE) : TI := fun σ H W => te σ H fun x H1 => ∃ a dx fs t, x = .ref a ∧ H1 a = some (.ins C dx fs) ∧ R a t H1 ∧ W (Itt K t) H1
theorem pi_own {tg e : Expr} {te : TE} {C f : Addr} {fd : FuncData} {k : Nat} {R : Addr → Addr → Hp → Prop} (F : FnS X.prog X.w X.K X.mg X.base k f fd ["self"] (spIter R)) (hb : Binds X.K fd ["self"] []) (o : IterO X.K C f) (hr : Room k X.A) (he : PE X e te) : PI X tg e (iOwnT X.K C R te) := by
  refine ⟨fun pins s σ H W I h => ?_⟩
  refine thn (he.run pins s σ H _ I h) fun v s1 ⟨x, H1, I1, r1, q1⟩ => ?_
  obtain ⟨a, dx, fs, t, rfl, ha, hR, hW⟩ := q1
  cases r1
  obtain ⟨mA, J, _⟩ := ins_get I1.hok ha
  obtain ⟨od, J, _⟩ := J.look
  obtain ⟨m, hF⟩ := I1.fr
  refine PySem.W.owit_iter hF I1.ok.mod.kin J o.it o.fn ?_
  have hsp : spIter R s1 [.ref a] H1 (fun v G => ∃ p, v = .ref p ∧ H1 p = none ∧ s1.heap.objs.size ≤ p ∧ G = upd H1 p (ITup p t)) E0 := ⟨a, t, rfl, hR, fun p h1 h2 => ⟨p, rfl, h1, h2, rfl⟩⟩
  have hl := F.len _ _ _ _ _ hsp
  refine wpAny_call (codeAny_mono (F.run X.A X.stack s1 H1 ⟨[.ref a], []⟩ [.ref a] [.ref a] _ E0 hr I1.env0 (by
    have := hb s1 [.ref a] I1.kIn (by simpa using hl)
    simpa using this) (.cons rfl .nil) hsp) fun r s2 hq => ?_)
  cases r with
  | error z => exact False.elim hq
  | ok fl =>
    cases fl with
    | next => exact False.elim hq
    | brk => exact False.elim hq
    | cont => exact False.elim hq
    | ret u =>
      obtain ⟨v, G, os, bare, un, hok, rv, p, rfl, hp, hle, rfl⟩ := hq
      cases rv
      have hit : s2.heap.IsTupleIter p t 0 := (hok p _ upd_same).1
      have ok2 : HOk X.prog X.w H1 s2.heap := fun b o e => objok_drop (hok b o (by rw [ITup, upd_ne (ne_of_none e hp)]; exact e))
      have un2 : Un (frs X.stack) [] H1 H1 s1.heap s2.heap := ⟨un.keep, un.slot, fun b o e n _ => n, un.there, fun b xs e => e, fun b o u e => e, fun b ps e => ⟨#[], by rw [e]; simp⟩⟩
      have I2 : Inv X pins σ H1 s2 := I1.call' os un2 ok2 bare (fun b z => absurd z (by simp))
      unfold PySem.W.OwitIt
      refine wpAny_specialOf (T := "tuple_iterator") ⟨_, hit.choose_spec.1, hit.choose_spec.2.1⟩ PySem.F.slot_tuple_iterator_next.lookup ?_
      refine ⟨p, [p], _, _, H1, rfl, I2, turn_tuple t _, hit, fun b hb => ?_, hW⟩
      obtain rfl : b = p := by simpa using hb
      exact I1.fpOk hle hp
end
end Pa
set_option maxRecDepth 100000
set_option maxHeartbeats 4000000
/-! == of tuples, any answer, the items by an own == -/
namespace PkT
open PySem PySem.SeqAt
open AutoSeq1 (wpAny_loadPart')
open MeetsSeq MeetsSeq2 MeetsSeq3 SeqRoads2
section
variable {prog : Program} {w : World} {A : Around} {R : Result → Shared → Prop}
theorem tup_eqB (l b : Addr) (xs ys : Array Value) (n n2 : Nat) (d1 d2 : Option Addr) (s1 s2 : Array (Option Value)) (f : Nat → Bool) (I : Shared → Prop)
    (turn : ∀ i (h1 : i < xs.size) (h2 : i < ys.size) s, I s → wpAny (model prog w) A.in1 (eqBool xs[i] ys[i]) (fun r s' => r = f i ∧ I s') (fun e s' => R (.error e) s') s)
    (fin : ∀ r s, I s → (r = true ↔ xs.size = ys.size ∧ ∀ i, i < xs.size → f i = true) → R (.ok (.ret (.bool r))) s) {s : Shared}
    (hl : s.heap.get? l = some { cls := .type "tuple", dict := d1, data := .seq xs n, slots := s1 }) (hb : s.heap.get? b = some { cls := .type "tuple", dict := d2, data := .seq ys n2, slots := s2 }) (h : I s) :
    wpAny (model prog w) A.in1 (Builtin.«tuple.__eq__» ⟨[.ref l, .ref b], []⟩) (GQ.FinOf prog w A R) (fun e s' => R (.error e) s') s := by
  have f2 := AutoSeq1.sub_tuple_tuple
  have hZ : (xs.toList.zip ys.toList).length = min xs.size ys.size := by simp
  have h0 := h
  obtain ⟨hp, g, d, tk, os⟩ := s
  wp_walk using wpAny_loadPart' hl, wpAny_loadPart' hb, wpAny_forIn_list _ (fun rest b s' => b.1 = none ∧ ∃ i, rest = (xs.toList.zip ys.toList).drop i ∧ i ≤ min xs.size ys.size ∧ (∀ j, j < i → f j = true) ∧ I s') _
  case turn =>
    rintro ⟨y, x⟩ rest b s' ⟨hb', i, hz, hi, hj, hI⟩
    have hlt : i < (xs.toList.zip ys.toList).length := by
      rcases Nat.lt_or_ge i (xs.toList.zip ys.toList).length with q | q
      · exact q
      · rw [List.drop_of_length_le q] at hz; cases hz
    have h1 : i < xs.size := by omega
    have h2 : i < ys.size := by omega
    rw [List.drop_eq_getElem_cons hlt] at hz
    injection hz with e1 e2
    obtain rfl : y = xs[i] := by have := congrArg Prod.fst e1; simpa using this
    obtain rfl : x = ys[i] := by have := congrArg Prod.snd e1; simpa using this
    refine wpAny_bind (wpAny_mono (turn i h1 h2 s' hI) (fun r s2 q2 => ?_) fun _ _ z => z)
    obtain ⟨rfl, q2⟩ := q2
    cases hf : f i with
    | true =>
      wp_walk
      refine ⟨rfl, i + 1, e2, by omega, fun j hj2 => ?_, q2⟩
      rcases Nat.lt_or_ge j i with q | q
      · exact hj j q
      · obtain rfl : j = i := by omega
        exact hf
    | false =>
      wp_walk
      refine fin false s2 q2 ⟨(fun z => absurd z Bool.false_ne_true), fun z => ?_⟩
      have := z.2 i h1
      rw [hf] at this
      exact this
  case fin =>
    rintro ⟨b1, b2⟩ s' ⟨hb', i, hz, hi, hj, hI⟩
    simp only at hb'
    subst hb'
    have hge : min xs.size ys.size ≤ i := by
      rcases Nat.lt_or_ge i (xs.toList.zip ys.toList).length with q | q
      · rw [List.drop_eq_getElem_cons q] at hz; cases hz
      · rw [← hZ]; exact q
    have hR := fin (xs.size == ys.size) s' hI ⟨fun z => by
      have e : xs.size = ys.size := by simpa using z
      exact ⟨e, fun j hx => hj j (by omega)⟩, fun z => by simpa using z.1⟩
    wp_walk
    simpa [Builtin.Tuple.tupleCompareSizes] using hR
  case h =>
    exact ⟨rfl, 0, rfl, Nat.zero_le _, (fun j hx => absurd hx (Nat.not_lt_zero _)), h0⟩
end
section
variable {prog : Program} {w : World} {A : Around} {E : Value → Shared → Prop} {s : Shared}
theorem rc_tupB {l b : Addr} {xs ys : Array Value} {Q : Value → Shared → Prop} (hu : A.units < cLine) (f : Nat → Bool) (I : Shared → Prop) (hl : s.heap.IsTuple l xs) (hb : s.heap.IsTuple b ys)
    (turn : ∀ i (h1 : i < xs.size) (h2 : i < ys.size) s, I s → wpAny (model prog w) A.in1 (eqBool xs[i] ys[i]) (fun r s' => r = f i ∧ I s') E s)
    (fin : ∀ r s, I s → (r = true ↔ xs.size = ys.size ∧ ∀ i, i < xs.size → f i = true) → Q (.bool r) s) (h : I s) : wpAny (model prog w) A (richCompare .Eq (.ref l) (.ref b)) Q E s := by
  obtain ⟨⟨c1, d1, t1, s1⟩, e1, k1, n, g1⟩ := id hl
  obtain ⟨⟨c2, d2, t2, s2⟩, e2, k2, n2, g2⟩ := id hb
  simp only at k1 g1 k2 g2
  subst k1 g1 k2 g2
  refine wpAny_richCompare_same_room (op := .Eq) ⟨_, e1, rfl⟩ ⟨_, e2, rfl⟩ F.slot_tuple_eq (GQ.call_here F.slot_tuple_eq ⟨_, e1, rfl⟩ F.entry_tuple_eq (F.args_tuple_eq_2 _ _) ?_) hu
  exact tup_eqB (R := wants (fun v s' => v ≠ .notImplemented ∧ Q v s') E) l b xs ys n n2 d1 d2 s1 s2 f I turn (fun r s' i q => ⟨(fun x => nomatch x), fin r s' i q⟩) e1 e2 h
end
end PkT
namespace Pa
open PySem PySem.Spec PyProof.Rows L2 StX
theorem relV_inj {v v' : V} {u : Value} (h : L2.RelV v u) (h' : L2.RelV v' u) : v = v' := by
  cases v <;> cases v' <;> simp only [L2.RelV] at h h' <;> first
    | rfl
    | (subst h; subst h'; rfl; done)
    | (subst h; cases h'; rfl; done)
    | (obtain ⟨t, rfl⟩ := h; obtain ⟨t', e⟩ := h'; cases e; rfl; done)
    | (obtain ⟨t, rfl⟩ := h; obtain ⟨t', e⟩ := h'; cases e; done)
    | (obtain ⟨t, rfl⟩ := h; cases h'; done)
    | (subst h; obtain ⟨t', e⟩ := h'; cases e; done)
    | (subst h; cases h'; done)
theorem vals_inj : ∀ {xs ys : List V} {us : List Value}, Vals xs us → Vals ys us → xs = ys
  | [], [], _, _, _ => rfl
  | [], _ :: _, _, h, h' => by cases h; cases h'
  | _ :: _, [], _, h, h' => by cases h; cases h'
  | x :: xs, y :: ys, _, .cons a b, .cons a' b' => by rw [relV_inj a a', vals_inj b b']
section
variable {X : Cx} {pins : List (Addr × Obj)} {σ : L2.St} {H : Hp} {s : Shared}
theorem sqt_inj (I : Inv X pins σ H s) {a : Addr} {xs ys : List V} (h : SqT X.K H a xs) (h' : SqT X.K H a ys) : xs = ys := by
  obtain ⟨i1, r1, p1, _⟩ := I.tuple h
  obtain ⟨i2, r2, p2, _⟩ := I.tuple h'
  obtain ⟨o, e, _, n, d⟩ := p1
  obtain ⟨o', e', _, n', d'⟩ := p2
  rw [e] at e'
  cases e'
  rw [d] at d'
  injection d' with d' _
  have : i1 = i2 := by simpa using d'
  subst this
  exact vals_inj r1 r2
theorem sets_inj (I : Inv X pins σ H s) : ∀ {rs : List Addr} {xs ys : List (Str × V)}, Sets X.K H rs xs → Sets X.K H rs ys → xs = ys
  | [], [], [], _, _ => rfl
  | [], _ :: _, _, h, _ => by cases h
  | [], _, _ :: _, _, h => by cases h
  | _ :: _, [], _, h, _ => by cases h
  | _ :: _, _, [], _, h => by cases h
  | r :: rs, x :: xs, y :: ys, .cons a b, .cons a' b' => by
    have e := sqt_inj I a a'
    obtain ⟨x1, x2⟩ := x
    obtain ⟨y1, y2⟩ := y
    simp only [List.cons.injEq, V.str.injEq, and_true] at e
    obtain ⟨rfl, rfl⟩ := e
    rw [sets_inj I b b']
theorem strs_inj {xs ys : List Str} (h : xs.map V.str = ys.map V.str) : xs = ys := by
  have : ∀ (xs ys : List Str), xs.map V.str = ys.map V.str → xs = ys := by
    intro xs
    induction xs with
    | nil => intro ys h; cases ys with
      | nil => rfl
      | cons y ys => cases h
    | cons x xs ih => intro ys h; cases ys with
      | nil => cases h
      | cons y ys =>
        simp only [List.map_cons, List.cons.injEq, V.str.injEq] at h
        rw [h.1, ih ys h.2]
  exact this xs ys h
theorem refs_inj {xs ys : List Addr} (h : xs.map V.ref = ys.map V.ref) : xs = ys := by
  have : ∀ (xs ys : List Addr), xs.map V.ref = ys.map V.ref → xs = ys := by
    intro xs
    induction xs with
    | nil => intro ys h; cases ys with
      | nil => rfl
      | cons y ys => cases h
    | cons x xs ih => intro ys h; cases ys with
      | nil => cases h
      | cons y ys =>
        simp only [List.map_cons, List.cons.injEq, V.ref.injEq] at h
        rw [h.1, ih ys h.2]
  exact this xs ys h
theorem rule_inj (I : Inv X pins σ H s) {C a : Addr} {w w' : Int} {ps ps' : List Str} {sets sets' : List (Str × V)} (h : RuleAt X.K C H a w ps sets) (h' : RuleAt X.K C H a w' ps' sets') : w = w' ∧ ps = ps' ∧ sets = sets' := by
  obtain ⟨dx, pt, st, rs, e1, e2, e3, e4⟩ := h.ex
  obtain ⟨dx', pt', st', rs', f1, f2, f3, f4⟩ := h'.ex
  rw [e1] at f1
  simp only [Option.some.injEq, HO.ins.injEq, List.cons.injEq, Prod.mk.injEq, V.int.injEq, V.ref.injEq, true_and, and_true] at f1
  obtain ⟨_, rfl, rfl, rfl⟩ := f1
  have := refs_inj (sqt_inj I e3 f3)
  subst this
  exact ⟨rfl, strs_inj (sqt_inj I e2 f2), sets_inj I e4 f4⟩
end
/-! ### items by any answer -/
abbrev EqvB := V → V → Bool → Hp → Prop
def MonB (D : EqvB) : Prop := ∀ x y b H H', Ext H H' → D x y b H → D x y b H'
def EqB (X : Cx) (n : Nat) (D : EqvB) : Prop :=
  ∀ (A : Around) (pins : List (Addr × Obj)) (s : Shared) (σ : L2.St) (H : Hp) (x y : V) (b : Bool) (u v : Value), L2.Sub X n A → Inv X pins σ H s → L2.RelV x u → L2.RelV y v → D x y b H →
    wpAny (model X.prog X.w) A (eqBool u v) (fun r s' => r = b ∧ ∃ H', Inv X pins σ H' s' ∧ Ext H H') X.xe s
def rTupB (K : PySem.W.Frag) (D : EqvB) : R2 := fun x y H Q => ∃ (a b : Addr) (xs ys : List V) (f : Nat → Bool), x = .ref a ∧ y = .ref b ∧ SqT K H a xs ∧ SqT K H b ys ∧
  (∀ (i : Nat) x y, xs[i]? = some x → ys[i]? = some y → D x y (f i) H) ∧ ∀ r H', Ext H H' → (r = true ↔ xs.length = ys.length ∧ ∀ i, i < xs.length → f i = true) → Q (.bl r) H'
section
variable {X : Cx} {n : Nat} {D : EqvB}
theorem op_tupB (hD : MonB D) (h : EqB X n D) (hr : Room (n + 1) X.A) : OpR X (compareOp .Eq) (rTupB X.K D) := by
  intro pins s σ H x y v u Q I rx ry hq
  obtain ⟨a, b, xs, ys, f, rfl, rfl, ha, hb, hd, q⟩ := hq
  cases rx
  cases ry
  obtain ⟨its, r, e, z⟩ := I.tuple ha
  obtain ⟨its2, r2, e2, z2⟩ := I.tuple hb
  have l1 := r.length
  have l2 := r2.length
  show wpAny (model X.prog X.w) X.A (richCompare .Eq (.ref a) (.ref b)) (EP X pins σ Q) X.xe s
  refine PkT.rc_tupB hr.units0 f (fun s' => LoopI X pins σ H s') e e2 (fun i h1 h2 s' l => ?_) (fun c s' l hc => ?_) ⟨H, I, Ext.rfl'⟩
  · obtain ⟨H1, I1, e1⟩ := l
    have h1' : i < its.length := by simpa using h1
    have h2' : i < its2.length := by simpa using h2
    have g1 : its[i]? = some its.toArray[i] := by rw [List.getElem?_eq_getElem h1'] <;> simp
    have g2 : its2[i]? = some its2.toArray[i] := by rw [List.getElem?_eq_getElem h2'] <;> simp
    have k1 : i < xs.length := by omega
    have k2 : i < ys.length := by omega
    obtain ⟨u1, hu, ru⟩ := r.get (List.getElem?_eq_getElem k1)
    obtain ⟨v1, hv, rv⟩ := r2.get (List.getElem?_eq_getElem k2)
    rw [g1] at hu
    rw [g2] at hv
    rw [Option.some.inj hu, Option.some.inj hv]
    refine wpAny_mono (h X.A.in1 pins s' σ H1 _ _ (f i) u1 v1 (L2.Sub.in1 ⟨hr, rfl⟩) I1 ru rv (hD _ _ _ _ _ e1 (hd i _ _ (List.getElem?_eq_getElem k1) (List.getElem?_eq_getElem k2)))) (fun c s2 q => ?_) fun _ _ z => z
    obtain ⟨hc, H2, I2, e2⟩ := q
    exact ⟨hc, H2, I2, e1.trans e2⟩
  · obtain ⟨H1, I1, e1⟩ := l
    refine ⟨.bl c, H1, I1, rfl, q c H1 e1 (hc.trans ?_)⟩
    rw [List.size_toArray, List.size_toArray, ← l1, ← l2]
end
/-- two rules of the class -/
def DRule (K : PySem.W.Frag) (C : Addr) : EqvB := fun x y b H => ∃ (a c : Addr) (w w' : Int) (ps ps' : List Str) (sets sets' : List (Str × V)), x = .ref a ∧ y = .ref c ∧ RuleAt K C H a w ps sets ∧ RuleAt K C H c w' ps' sets' ∧
  PatOk ps ∧ PatOk ps' ∧ SetsOk sets ∧ SetsOk sets' ∧ b = decide (w = w' ∧ ps = ps' ∧ sets = sets')
theorem mon_rule {K : PySem.W.Frag} {C : Addr} : MonB (DRule K C) := fun x y b H H' e d => by
  obtain ⟨a, c, w, w', ps, ps', sets, sets', h1, h2, h3, h4, r⟩ := d
  exact ⟨a, c, w, w', ps, ps', sets, sets', h1, h2, h3.ext e, h4.ext e, r⟩
theorem eqB_rule {X : Cx} {C : Addr} (R : RuleOk X.prog X.w X.K X.mg X.base C) (T : TxR X.K C) : EqB X 1 (DRule X.K C) := by
  intro A pins s σ H x y b u v sb I rx ry d
  obtain ⟨a, c, w, w', ps, ps', sets, sets', rfl, rfl, h1, h2, p1, p2, s1, s2, rfl⟩ := d
  cases rx
  cases ry
  by_cases hab : a = c
  · subst hab
    obtain ⟨rfl, rfl, rfl⟩ := rule_inj I h1 h2
    rw [decide_eq_true ⟨rfl, rfl, rfl⟩]
    exact SeqAt.EqAt.same (A := A) (s := s) (.ref a) X.prog X.w X.xe _ ⟨rfl, H, I, Ext.rfl'⟩
  · obtain ⟨fe, fd, e, F, hb⟩ := R.eq
    obtain ⟨dx, _, _, _, e1, _⟩ := h1.ex
    obtain ⟨dx', _, _, _, e2, _⟩ := h2.ex
    obtain ⟨mA, J, _⟩ := ins_get I.hok e1
    obtain ⟨od, J, _⟩ := J.look
    have ty : TyX X.K H (.ref c) (.ref C) := .base (.ins e2 T.cl T.ha T.hn T.htk T.hm)
    obtain ⟨P, Z, p, _⟩ := kit_of I (show L2.RelV (.ref c) (.ref c) from rfl) ty
    obtain ⟨m, hF⟩ := I.fr
    refine GQ.eqBool_refG hab (PySem.W.cmp_K (op := .Eq) (tb := .ref C) sb.room.units0 hF I.ok.mod.kin J (Z.ty _ _ I.kIn p) R.nf e.eq e.fn ?_)
    refine run_own (E := E0) (y := .ref c) F hb pass0 sb.fr sb.room I (show L2.RelV (.ref c) (.ref c) from rfl) (Q := fun v G => v = .bl (decide (w = w' ∧ ps = ps' ∧ sets = sets')) ∧ G = H) ⟨a, _, w, ps, sets, rfl, h1, p1, s1, .inl ⟨c, w', ps', sets', rfl, h2, p2, s2, rfl, rfl⟩⟩ fun z G w0 s' I' rz q => ?_
    obtain ⟨rfl, rfl⟩ := q
    obtain rfl : w0 = Value.bool _ := rz
    exact ⟨_, rfl, rfl, _, I', Ext.rfl'⟩
end Pa
set_option maxRecDepth 100000
set_option maxHeartbeats 4000000
/-! defs that run where no repr is under way; repr of a tuple there -/
namespace Pa
open PySem PySem.Spec PyProof.Rows L2 StX
structure FnG (P : Program) (w : World) (K : PySem.W.Frag) (mg : Str → Option Value) (base : Heap) (k : Nat) (f : Addr) (fd : FuncData) (ps : List Str) (sp : Sp) : Prop where
  len : ∀ vs H Q E, sp vs H Q E → vs.length = ps.length
  run : ∀ (A : Around) (up : List Env) (s : Shared) (H : Hp) (ar : Args) (us : List Value) (vs : List V) (Q : VK) (E : XK), Room k A → A.guards = some [] → Env0 P w K mg base A up s H → BindsTo s fd ar (ps.zip us) → Vals vs us → sp vs H Q E →
    codeAny (model P w) A (.call (.ref f) ar) (CR CX0 up P w H s Q E) s
section
variable {P : Program} {w : World} {K : PySem.W.Frag} {mg : Str → Option Value} {base : Heap}
theorem Fun.okG {x qual : Str} {st : Stmt} {f : Addr} {fd : FuncData} {N ps : List Str} {k : Nat} {sp : Sp} (F : Fun K x qual st f fd) (S : FnScope N ps (defScope st)) (ln : ∀ vs H Q E, sp vs H Q E → vs.length = ps.length)
    (hb : ∀ (cv : Value) (A : Around) (up : List Env) (s : Shared) (H : Hp) (vs : List V) (Q : VK) (E : XK), Room k (A.deeper (envOfC qual (defScope st) s.heap.objs.size f cv)) → (A.deeper (envOfC qual (defScope st) s.heap.objs.size f cv)).guards = some [] → sp vs H Q E →
      ∃ t, PSs (cxOf CX0 P w K mg base N qual (defScope st) f cv A up s H E).nox (defBody st) t ∧ t { nx := fun _ H' => Q .non H', rt := Q } (start N vs) H) : FnG P w K mg base (k + 1) f fd ps sp := by
  obtain ⟨oc, od, kV, doc, pm, an, cv, ct, osl, rfl, lk, hcd⟩ := F.ex
  refine ⟨ln, fun A up s H ar us vs Q E hr hgd e0 hbn rr hsp => ?_⟩
  have hlen := ln _ _ _ _ hsp
  have hK : K.In s.heap := e0.mod.kin.keeps fun b o e => (e0.bs b o e).1
  have hlim : s.heap.NoLimit := e0.mod.nolimit.keeps fun b o e => (e0.bs b o e).1
  have hk : ∀ y ∈ ps.zip us, (defScope st).names.lookup y.1 = some .local ∨ ((defScope st).names.lookup y.1 = some .cell ∧ ((cellsFrom (s.heap.objs.size + 1) (defScope st).names []).lookup y.1).isSome = true) := by
    rintro ⟨n, v⟩ hy
    rcases S.par n (List.of_mem_zip hy).1 with q | q
    · exact .inl q
    · exact .inr ⟨q, PySem.W.cellsFrom_some _ _ _ (.inl q)⟩
  refine codeAny_call_function hr.depth (hK _ _ lk) rfl S.co S.gen rfl (PySem.W.codeRec_of hK hcd) (hbn _ _ _ _ (wpAny_newFunctionEnv_cells S.kind hk fun en he s1 x => ?_))
  subst he
  refine ⟨hlim.keeps x.toInCall.keep, codeAny_func ?_⟩
  obtain ⟨t, ht, hq⟩ := hb cv A up s H vs Q E (hr.deeper _) hgd hsp
  have I : Inv (cxOf CX0 P w K mg base N qual (defScope st) f cv A up s H E) [] (start N vs) H s1 := inv_start S hr.hd e0 hlen rr x
  refine wpAny_mono (ht.nox.run [] s1 (start N vs) H _ I hq) (fun fl s' hs => ?_) fun _ _ z => z
  have fin : ∀ {τ : L2.St} {G : Hp} {v : V} {u : Value}, Inv (cxOf CX0 P w K mg base N qual (defScope st) f cv A up s H E) [] τ G s' → L2.RelV v u → Q v G → CE up P w H s Q u s' := fun J rv q => ⟨_, _, J.os, J.bare, J.base, J.hok, rv, q⟩
  cases fl with
  | ret u =>
    obtain ⟨_, _, _, J, rv, q⟩ := hs
    exact fin J rv q
  | next =>
    obtain ⟨_, _, J, q⟩ := hs
    exact fin (v := V.non) (u := Value.none) J rfl q
  | brk => exact False.elim (by obtain ⟨_, _, _, q⟩ := hs; exact q)
  | cont => exact False.elim (by obtain ⟨_, _, _, q⟩ := hs; exact q)
end
structure CallG (P : Program) (w : World) (K : PySem.W.Frag) (mg : Str → Option Value) (base : Heap) (k : Nat) (x : Str) (ps : List Str) (sp : Sp) : Prop where
  ok : ∃ (f : Addr) (fd : FuncData), mg x = some (.ref f) ∧ PySem.W.keepIn K (.ref f) = true ∧ Binds K fd ps [] ∧ FnG P w K mg base k f fd ps sp
section
variable {X : Cx} {k : Nat} {ps : List Str} {sp : Sp} {x : Str} {p pos : Pos} {e : Expr} {es : List Expr} {t : TA}
/-- f(e, ..), f such a def -/
theorem pe_ccG (C : CallG X.prog X.w X.K X.mg X.base k x ps sp) (hr : Room k X.A) (hgd : X.A.guards = some []) (hg : Gl X x) (ha : PA X (e :: es) t) (hdb : (x == ("__debug__" : Str)) = false := by decide)
    (he : starEach (e :: es) X.env = (false, eval e X.env) :: starEach es X.env := by rfl) (hpl : (backTo pos (starEach es X.env)).any (·.1) = false := by rfl) : PE X (.Call (.Name x p) (e :: es) [] pos) (tCall sp [] E0 t) := by
  obtain ⟨f, fd, h1, h2, h3, F⟩ := C.ok
  refine ⟨fun pins s σ H Q I h => wpAny_Call_Name_kw (ld_glob I hg h1 (PySem.W.callWith_K (h₀ := X.base) I.ok.mod.kin h2 (thn (ha.run pos pins s σ H _ I h) fun us s1 ⟨vs, H1, I1, r, q⟩ => ⟨I1.kIn, ?_⟩) he hpl) hdb)⟩
  replace q : sp (vs ++ []) H1 Q E0 := q
  rw [List.append_nil] at q
  have hl := F.len _ _ _ _ q
  show wpAny _ _ (call (.ref f) us) _ _ _
  refine wpAny_call (codeAny_mono (F.run X.A X.stack s1 H1 ⟨us, []⟩ us vs Q E0 hr hgd I1.env0 (by
    have := h3 s1 us I1.kIn (by rw [List.append_nil, ← r.length]; exact hl)
    simpa using this) r q) fun z s2 hq => ?_)
  cases z with
  | error z => exact False.elim hq
  | ok fl =>
    cases fl with
    | ret u => exact I1.after hq
    | next => exact False.elim hq
    | brk => exact False.elim hq
    | cont => exact False.elim hq
/-! ### repr of a flat tuple -/
inductive Shown : List V → List Str → Prop
  | nil : Shown [] []
  | int {i : Int} {ys ts} (h : i.natAbs.log2 < 1920) (r : Shown ys ts) : Shown (.int i :: ys) (toString i :: ts)
  | bl {b : Bool} {ys ts} (r : Shown ys ts) : Shown (.bl b :: ys) ((if b then ("True" : Str) else "False") :: ts)
  | str {y : Str} {ys ts} (h : (reprText y).length ≤ sizeLine) (r : Shown ys ts) : Shown (.str y :: ys) (reprText y :: ts)
theorem Shown.all {prog : Program} {w : World} : ∀ {ys : List V} {ts : List Str} {us : List Value}, Shown ys ts → Vals ys us → ReprAll prog w us ts
  | _, _, _, .nil, .nil => .nil
  | _, _, _, .int h r, .cons a b => by
    obtain ⟨t, rfl⟩ := a
    exact .cons (ReprIs.int t h) (r.all b)
  | _, _, _, .bl r, .cons a b => by
    obtain rfl := a
    exact .cons (ReprIs.bool _) (r.all b)
  | _, _, _, .str h r, .cons a b => by
    obtain ⟨t, rfl⟩ := a
    exact .cons (ReprIs.str _ t h) (r.all b)
theorem cr_reprT (hgd : X.A.guards = some []) (hu : X.A.units + 2 < cLine) : CallR X (.builtin "repr") (fun xs H Q => ∃ a ys ts, xs = [.ref a] ∧ SqT X.K H a ys ∧ Shown ys ts ∧ (tupleText ts).length ≤ sizeLine ∧ Q (.str (tupleText ts)) H) := by
  intro pins s σ H xs us Q I r h
  obtain ⟨a, ys, ts, rfl, ht, hs, hz, q⟩ := h
  obtain ⟨u, rfl, ru⟩ := r.one
  cases ru
  obtain ⟨its, rv, ⟨o, ho, hc, n, hd⟩, _⟩ := I.tuple ht
  have hT : s.TypeIs (.ref a) "tuple" := ⟨o, ho, hc⟩
  refine PySem.Calls.call_function_entry PySem.F.kind_repr PySem.F.plain_repr PySem.F.entry_repr (PySem.F.args_repr1 _) ?_
  unfold Builtin.«repr»
  refine wpAny_bind (m := oneArg "repr" _) (wpAny_pure (wpAny_bind (wpAny_cRoomFor (by show X.A.units + 1 < cLine; omega) ?_)))
  refine wpAny_bind (wpAny_specialOf (name := Str.ofString "__repr__") hT PySem.F.slot_tuple_repr.lookup ?_)
  refine wpAny_bind (m := callSpecialIfBound? (.ref a) (Str.ofString "__repr__")) (wpAny_callSpecialIfBound?_slotG (name := Str.ofString "__repr__") hT PySem.F.slot_tuple_repr
    (call_tuple_repr hT (g := []) hgd (fun c hc => nomatch hc) ho hd (hs.all rv) (fun u tk => ?_) hz))
  exact wpAny_bind (wpAny_isInstance (T := "str") (b := true) rfl isSubtype_str_str (wpAny_pure ⟨_, rfl, .str _, H, I.tok _, ⟨u, rfl⟩, q⟩))
end
/-! ### the end, for a law of such a kind -/
theorem callG {P : Program} {w : World} {K : PySem.W.Frag} {mg mb : Str → Option Value} {k : Nat} {fa a : Addr} {fd : FuncData} {x : Str} {sp : Sp} {s : Shared} {us : List Value} {ns : List Int} (hK : K.In s.heap) (hN : s.heap.Ns mainGlobals mg)
    (hB : s.heap.Ns builtinsNs mb) (hbt : ∀ x : Str, x ≠ "__name__" → mb x = bootBuiltins x) (hL : s.heap.NoLimit) (hg : s.gens = #[]) (ha : s.heap.get? a = some { cls := .type "list", data := .seq us.toArray }) (hi : IntsAre us ns) (hl : ns.length ≤ sizeLine)
    (hr : Room k callerA) (F : ∀ base : Heap, K.In base → base.Ns mainGlobals mg → FnG P w K mg base k fa fd [x] sp) (hb : ∀ (s : Shared) (u : Value), BindsTo s fd ⟨[u], []⟩ [(x, u)])
    (hsp : ∀ H : Hp, Only H → SqL K H a (ns.map V.int) → sp [.ref a] H (fun v _ => v = .bl true) fun _ _ _ => False) :
    codeAny (model P w) callerA (.call (.ref fa) ⟨[.ref a], []⟩) (fun r s' => r = .ok (.ret (.bool true)) ∧ OldK s.heap s'.heap ∧ s'.os = s.os ∧ AllBare s'.gens) s := by
  have rv := vals_ints hi
  have hlen := hi.length
  have main : ∀ H : Hp, Only H → SqL K H a (ns.map V.int) → HOk P w H s.heap → (∀ b, H b ≠ none → b = a) → (H a ≠ none → K.lookup a = none) →
      codeAny (model P w) callerA (.call (.ref fa) ⟨[.ref a], []⟩) (fun r s' => r = .ok (.ret (.bool true)) ∧ OldK s.heap s'.heap ∧ s'.os = s.os ∧ AllBare s'.gens) s := by
    intro H hO hS hok hA hKa
    have up : ∀ {b : Addr} {o : Obj}, s.heap.get? b = some o → H b = none → (hidT s.heap H).get? b = some o := fun e n => hidT_get e n
    have dct : ∀ {b : Addr} {o : Obj} {es : Array DictEntry} {ep : Nat}, s.heap.get? b = some o → o.data = .dict es ep → H b = none := fun {b o es ep} e d => by
      rcases Option.eq_none_or_eq_some (H b) with q | ⟨u, q⟩
      · exact q
      · obtain rfl : b = a := hA b (by rw [q]; simp)
        rw [ha] at e; cases e
        cases (show Data.seq us.toArray _ = Data.dict es ep from d)
    have nsd : ∀ {b : Addr} {m : Str → Option Value}, s.heap.Ns b m → (hidT s.heap H).Ns b m := fun {b m} ⟨o, es, ep, e, d, r⟩ => ⟨o, es, ep, up e (dct e d), d, r⟩
    have hKb : K.In (hidT s.heap H) := fun b o e => up (hK b o e) (by
      rcases Option.eq_none_or_eq_some (H b) with q | ⟨u, q⟩
      · exact q
      · obtain rfl : b = a := hA b (by rw [q]; simp)
        rw [hKa (by rw [q]; simp)] at e; cases e)
    have hM : Mod K mg (hidT s.heap H) := ⟨hKb, nsd hN, ⟨mb, nsd hB, hbt⟩, let ⟨mc, h1, h2⟩ := hL; ⟨mc, nsd h1, h2⟩⟩
    have e0 : Env0 P w K mg (hidT s.heap H) callerA [] s H := ⟨rfl, hM, fun b o e => of_hidT e, Nat.le_of_eq (hidT_size _ _), trivial, (fun b z => by cases (show b ∈ ([] : List Addr) from z)), hok, .of_eq hg⟩
    refine codeAny_mono ((F _ hKb (nsd hN)).run callerA [] s H ⟨[.ref a], []⟩ [.ref a] [.ref a] _ _ hr rfl e0 (hb s (.ref a)) (.cons rfl .nil) (hsp H hO hS)) fun r s' h => ?_
    cases r with
    | error e => exact False.elim h
    | ok fl =>
      cases fl with
      | next => exact False.elim h
      | brk => exact False.elim h
      | cont => exact False.elim h
      | ret u =>
        obtain ⟨v, G, os, bare, un, hok2, rr, rfl⟩ := h
        obtain rfl : u = Value.bool true := rr
        refine ⟨rfl, OldK.of_keep fun b o e => ?_, os, bare⟩
        rcases hO b with q | ⟨ob, zs, q⟩
        · exact un.keep b o e q (fun z => by cases (show b ∈ ([] : List Addr) from z)) (by simp)
        · obtain ⟨e1, _⟩ := hok b _ q
          obtain ⟨e2, _⟩ := hok2 b _ (un.frzs b ob _ q)
          rw [e] at e1; cases e1
          exact e2
  cases hk : K.lookup a with
  | some o =>
    have e := hK a o hk
    rw [ha] at e
    cases e
    exact main (fun _ => none) (fun _ => .inl rfl) (.inr ⟨_, us.toArray, _, hk, rfl, rfl, rfl, by rw [List.size_toArray, hlen]; exact hl, by simpa using rv⟩) (fun b u z => by cases (show (none : Option HO) = some u from z)) (fun b z => absurd rfl z) (fun z => absurd rfl z)
  | none =>
    have at_ : ∀ b, (if b = a then some (HO.frz { cls := .type "list", data := .seq us.toArray } (.lst (ns.map V.int))) else none) ≠ none → b = a := fun b z => by
      by_cases hb : b = a
      · exact hb
      · exact absurd (if_neg hb) z
    refine main (fun b => if b = a then some (.frz { cls := .type "list", data := .seq us.toArray } (.lst (ns.map V.int))) else none) (fun b => ?_) (.inl (.inr ⟨{ cls := .type "list", data := .seq us.toArray }, if_pos rfl⟩)) (fun b u z => ?_) at_ fun _ => hk
    · by_cases hb : b = a
      · exact .inr ⟨_, _, if_pos hb⟩
      · exact .inl (if_neg hb)
    · obtain rfl := at_ b (fun q => by cases q.symm.trans z)
      cases (if_pos rfl).symm.trans z
      exact ⟨ha, by rw [List.length_map]; exact hl, us, _, rv, ha⟩
theorem walkG {l : PySem.W.OpenLaw} {n k : Nat} {q : Program} {loose : List Str} {XP : (Str → Option Value) → Heap → Prop} {YP : World → Heap → Prop} {d : DefRec} {K : Params → PySem.W.Frag} {sp : World → Sp} {x : Str} (hn : l.most = some n) (hn2 : n ≤ sizeLine) (hdf : d.params.defaults = [])
    (hr : Room k callerA) (hY : ∀ (w : World) (h : Heap), YP w h → (K w.params).In h)
    (F : ∀ (w : World) (mg : Str → Option Value) (fa : Addr) (h : Heap), (K w.params).In h → h.Ns mainGlobals mg → mg d.name = some (.ref fa) →
      ∃ fd : FuncData, (∀ (s : Shared) (u : Value), BindsTo s fd ⟨[u], []⟩ [(x, u)]) ∧ ∀ base : Heap, (K w.params).In base → base.Ns mainGlobals mg → FnG l.prog w (K w.params) mg base k fa fd [x] (sp w))
    (hsp : ∀ (w : World) (H : Hp) (a : Addr) (ns : List Int), ns.length ≤ n → Only H → SqL (K w.params) H a (ns.map V.int) → sp w [.ref a] H (fun v _ => v = .bl true) fun _ _ _ => False) :
    PySem.W.WalkO q loose XP YP l.row.toRowW d [] (fun f vs => PySem.call f vs) := by
  refine Att.attach_call hn hdf fun w s0 s mg mb fa o pm cd doc a us ns G Y ho hd hcd hmg hobj hi hlen hg => ?_
  obtain ⟨fd, hb, hF⟩ := F w mg fa _ (hY w _ Y) G.T.g hmg
  exact callG (hY w _ Y) G.T.g G.T.b G.T.builtins G.T.nolimit hg hobj hi (Nat.le_trans hlen hn2) hr hF hb fun H hO hS => hsp w H a ns hlen hO hS
end Pa
set_option maxRecDepth 100000
set_option maxHeartbeats 4000000
namespace Pa
open PySem PySem.Spec PyProof.Rows L2
/-! ### super().__init__('..') in an own error's __init__ -/
theorem mw_init {X : Cx} {pins : List (Addr × Obj)} {σ : List (Option V)} {H : Hp} {s : Shared} {u a C : Addr} {us : List Value} {A : Around} {Q : Value → Shared → Prop} {E : Value → Shared → Prop}
    (T : OexC X.K C) (I : Inv X pins σ H s) (hu : s.heap.get? u = some (PySem.W.kxs_mw "ValueError.__init__" a)) (e : H a = some (exo a C none)) (hl : us.length ≤ sizeLine) (h : ∀ s', Inv X pins σ H s' → Q .none s') :
    wpAny (model X.prog X.w) A (call (.ref u) us) Q E s := by
  obtain ⟨_, _, _, _, _, _, _, _, _, _, _, _, _, _, _, hC, _⟩ := T.cls
  obtain ⟨t1, ho⟩ := exo_at I.hok e
  obtain ⟨hp, g, d, t, os⟩ := s
  apply wpAny_call
  apply codeAny_of_tree
  show wpAny _ A.in1 (callAny (.ref u) ⟨us, []⟩) _ _ _
  unfold callAny
  refine wpAny_bind (wpAny_load hu ?_)
  have c1 : (Value.type "method-wrapper" == Value.type "method" || Value.type "method-wrapper" == Value.type "builtin_function_or_method" || Value.type "method-wrapper" == Value.type "method-wrapper") = true := by decide
  simp only [PySem.W.kxs_mw, c1, if_true]
  refine PySem.W.KFB.if_so (by decide) ?_
  refine wpAny_bind (PySem.W.check_bound_init F.excBase_ValueError.toExcCallFacts (I.kIn _ _ hC) ho rfl (wpAny_bind (wpAny_pure (wpAny_pure ⟨plainId_quiet F.excBase_ValueError.init.plain _, codeAny_builtin F.excBase_ValueError.initEntry ?_⟩))))
  refine PySem.W.exc_init_tree (cls := .ref C) (t0 := t1) (dv := none) (c2 := .none) (c3 := .none) (b4 := .bool false) ho hl fun h' k hx _ => ?_
  have J := I.write (t' := t) (x := a) (e := a) (o := exo a C none) (by rw [e]; trivial) (.inl rfl) k ⟨_, hx⟩ (exo_ok hx)
  have eu : upd H a (exo a C none) = H := funext fun b => by
    by_cases hb : b = a
    · rw [hb, upd_same, e]
    · exact upd_ne hb
  rw [eu] at J
  exact h _ J
end Pa
set_option maxRecDepth 100000
set_option maxHeartbeats 4000000
namespace Pa
open PySem PySem.Spec PyProof.Rows L2
/-- the names of such an __init__, without those that are not its own -/
def supScope0 (fld : Str) : Scope := { kind := .function, names := [("self", .local), (fld, .local)], isGenerator := false, isCoroutine := false, more := [] }
def supScope (fld : Str) : Scope := { kind := .function, names := [("self", .local), (fld, .local), ("__class__", .free), ("super", .globalImplicit)], isGenerator := false, isCoroutine := false, more := [] }
/-- class X(..): def __init__(self, f): super().__init__('..'); self.f = f -/
def spSup (C : Addr) (fld : Str) : Sp := fun vs H Q _ => ∃ (a : Addr) (v : V), vs = [.ref a, v] ∧ H a = some (exo a C none) ∧
  ∀ dx, H dx = none → dx ≠ a → Q .non (upd (upd H dx (exd dx [(fld, v)])) a (exo a C (some dx)))
structure SupCls (P : Program) (K : PySem.W.Frag) (mg : Str → Option Value) (C : Addr) (fld : Str) : Prop where
  oex : OexC K C
  noF : PySem.W.findIn K (.ref C) fld = some none
  ve : PySem.W.subIn K (.ref C) (.type "ValueError") = some true
  own : PySem.W.mroIn K C (.ref C) = some true
  sup : PySem.W.ks_superIn K C C "__init__" = some (some (.builtin "ValueError.__init__"))
  third : PySem.W.nsIn K cStatics "thirdparty.any" = some none
  mgS : mg "super" = none
  top : (P.main.scope.names.lookup ("super" : Str)).isSome = false
theorem sup_go {X : Cx} {pins : List (Addr × Obj)} {σ : List (Option V)} {H : Hp} {s : Shared} {A : Around} {Q : Value → Shared → Prop} {E : Value → Shared → Prop} {C f cc cda a : Addr} {qual fld tx : Str} {params : Arguments} {body : List Stmt} {dV kV doc pm ct oc ccl cl : Value} {an od cdd cld : Option Addr} {osl ccs csl : Array (Option Value)}
    {vs0 : Array Value} {file : Str} {tf : Tok} {ar : Arg} {p0 p1 p3 p4 : Pos} {whole : Sem Value} {pl : Sem Bool} {bdy : List Stmt} (T : SupCls X.prog X.K X.mg C fld) (I : Inv X pins σ H s) (L : Addr)
    (lk : X.K.lookup f = some ⟨oc, od, .func (PySem.W.fnX "__init__" qual params body (supScope fld) [("__class__", cc)] dV kV doc pm an (.ref cda) ct), osl⟩)
    (hcode : X.K.lookup cda = some ⟨ccl, cdd, .fields vs0, ccs⟩) (hvs : vs0[2]? = some (.str file tf)) (hfile : ((X.prog.main.file : Str) == file) = true) (hcell : X.K.lookup cc = some ⟨cl, cld, .cell (some (.ref C)), csl⟩)
    (hp : (params.posonlyargs ++ params.args).head? = some ar) (har : ar.arg = ("self" : Str)) (hf1 : (("super" : Str) == fld) = false) (hf2 : (("__class__" : Str) == fld) = false) {m : Str → Option Value} (hns : s.heap.Ns L m) (hm : m "self" = some (.ref a)) (ha : H a = some (exo a C none)) (h : ∀ s', Inv X pins σ H s' → Q .none s') :
    PySem.wpAt (model X.prog X.w) A (.func bdy (PySem.W.ksEnv qual (supScope fld) L f (.ref cda) cc)) (attributeBase (.Call (.Name "super" p0) [] [] p1) "__init__" (PySem.W.ksEnv qual (supScope fld) L f (.ref cda) cc) whole)
      (fun ov s₁ => wpAny (model X.prog X.w) A (getMethod ov "__init__" pl) (fun fx s₂ => wpAny (model X.prog X.w) A (callWith p4 fx.1 fx.2 (backTo p4 (starEach [.Constant (.str tx) 0 p3] (PySem.W.ksEnv qual (supScope fld) L f (.ref cda) cc))) []) Q E s₂) E s₁) E s := by
  obtain ⟨nmC, qC, NC, bsC, bmC, snC, subC, abC, colC, ddC, k0, k1, k2, k3, k5, hC, hbm⟩ := T.oex.cls
  obtain ⟨t1, ho⟩ := exo_at I.hok ha
  have KI := I.kIn
  have hCi : PySem.W.clsIn X.K C = some { name := nmC, bases := bsC, mro := .ref C :: bmC, ns := NC, qualname := qC, hasDict := true, slotNames := snC, subclasses := subC, abstract := abC, collection := colC, hasDel := false } := by unfold PySem.W.clsIn; rw [hC] <;> rfl
  obtain ⟨mb, hmb, hmb2⟩ := I.mod.blt
  have hsup0 : (("super" : Str)) ≠ "__name__" := by decide
  refine PySem.ks_wpAt_super_base (env := PySem.W.ksEnv qual (supScope fld) L f (.ref cda) cc) (of := ⟨oc, od, .func (PySem.W.fnX "__init__" qual params body (supScope fld) [("__class__", cc)] dV kV doc pm an (.ref cda) ct), osl⟩) ?a1 ?a2 rfl rfl (KI _ _ lk) rfl hp rfl (KI _ _ hcode) rfl hvs hfile T.top ?_
  case a1 =>
    show List.lookup ("super" : Str) [(("self" : Str), NameKind.local), (fld, .local), ("__class__", .free), ("super", .globalImplicit)] = some .globalImplicit
    simp only [List.lookup_cons, hf1]
    rfl
  case a2 =>
    show List.lookup ("__class__" : Str) [(("self" : Str), NameKind.local), (fld, .local), ("__class__", .free), ("super", .globalImplicit)] = some .free
    simp only [List.lookup_cons, hf2]
    rfl
  have kS : (PySem.W.ksEnv qual (supScope fld) L f (.ref cda) cc).kindOf "super" = some .globalImplicit := by
    show List.lookup ("super" : Str) [(("self" : Str), NameKind.local), (fld, .local), ("__class__", .free), ("super", .globalImplicit)] = some .globalImplicit
    simp only [List.lookup_cons, hf1]
    rfl
  have kC : (PySem.W.ksEnv qual (supScope fld) L f (.ref cda) cc).kindOf "__class__" = some .free := by
    show List.lookup ("__class__" : Str) [(("self" : Str), NameKind.local), (fld, .local), ("__class__", .free), ("super", .globalImplicit)] = some .free
    simp only [List.lookup_cons, hf2]
    rfl
  have kL : (PySem.W.ksEnv qual (supScope fld) L f (.ref cda) cc).kindOf ar.arg = some .local := by rw [har]; rfl
  have hC2 := KI _ _ hC
  refine PySem.W.ks_loadName_global rfl kS (PySem.Calls.loadGlobal_builtin (env := PySem.W.ksEnv qual (supScope fld) L f (.ref cda) cc) (I.mod.glob.keeps I.bk) T.mgS (hmb.keeps I.bk) (hmb2 _ hsup0) ⟨rfl, ?_⟩)
  refine PySem.wpAny_loadName_free rfl kC rfl ⟨_, KI _ _ hcell, rfl⟩ ?_
  refine PySem.wpAny_loadName_local rfl kL hns (by rw [har]; exact hm) ?_
  obtain ⟨hp0, g, d, t, os⟩ := s
  refine PySem.ks_wpAny_isType_cls hC2 rfl ⟨rfl, ?_⟩
  refine PySem.ks_wpAny_call_super hC2 rfl ho rfl (fun c z => by cases z) (PySem.W.looks_mroIn KI T.own) (fun h2 hso k2 => ?_)
  have J0 : Inv X pins σ H ⟨h2, g, d, t, os⟩ := I.un (t' := t) (Un.kept k2) (I.hok.kept k2)
  have hne : a ≠ C := fun z => by
    have w := KI _ _ hC
    rw [← z] at w
    exact absurd (w.symm.trans ho) (fun y => by cases y)
  have ho2 := k2 _ _ ho
  have IA : PySem.W.InstAt h2 a { cls := .ref C, dict := none, data := .fields #[.ref t1, .none, .none, .none, .bool false, .none] } C none := ⟨ho2, rfl, rfl, trivial⟩
  have hsp := T.sup
  unfold PySem.W.ks_superIn at hsp
  rw [hCi] at hsp
  refine PySem.W.kxs_getMethod PySem.W.kxs_ValueError hso (PySem.W.looks_opaque J0.kIn T.third) (l₀ := Value.ref C :: bmC) ((PySem.W.looks_clsIn J0.kIn hCi).andThen .now) rfl J0.kIn hsp (IA.type.andThen (PySem.W.looks_subIn J0.kIn T.ve)) hne (by decide) ?_
  have k3 : ∀ (b : Addr) (o : Obj), h2.get? b = some o → (h2.push (PySem.W.kxs_mw "ValueError.__init__" a)).get? b = some o := fun b o e => Heap.get?_push_of_some _ e
  have J1 : Inv X pins σ H ⟨h2.push (PySem.W.kxs_mw "ValueError.__init__" a), g, d, t + 1, os⟩ := J0.un (t' := t + 1) (Un.kept k3) (J0.hok.kept k3)
  have hu : (h2.push (PySem.W.kxs_mw "ValueError.__init__" a)).get? h2.objs.size = some (PySem.W.kxs_mw "ValueError.__init__" a) := Heap.get?_push_size _ rfl
  refine PySem.W.kxs_callWith (i := "ValueError.__init__") (x := a) rfl (PySem.Calls.evalArgs_plain ?_)
  show wpAny _ _ (spliced ((false, eval (.Constant (.str tx) 0 p3) _) :: [])) _ _ _
  refine PySem.Calls.spliced_cons (PySem.wpAny_Constant_str (PySem.Calls.spliced_nil ⟨hu, ?_⟩))
  exact mw_init T.oex (J1.tok _) hu ha (by rw [sizeLine_eq]; show 1 ≤ 16777216; decide) h
theorem sup_fn {P : Program} {w : World} {K : PySem.W.Frag} {mg : Str → Option Value} {base : Heap} {CX : CXT} {k : Nat} {C f cc cda : Addr} {qual fld tx : Str} {params : Arguments} {body : List Stmt} {dV kV doc pm ct oc ccl cl : Value} {an od cdd cld : Option Addr} {osl ccs csl : Array (Option Value)}
    {vs0 : Array Value} {file : Str} {tf : Tok} {ar : Arg} {p0 p1 p2 p3 p4 p5 q1 q2 q3 q4 : Pos} (T : SupCls P K mg C fld)
    (lk : K.lookup f = some ⟨oc, od, .func (PySem.W.fnX "__init__" qual params body (supScope fld) [("__class__", cc)] dV kV doc pm an (.ref cda) ct), osl⟩) (hcd : PySem.W.codeIn K (.ref cda) qual = true)
    (hcode : K.lookup cda = some ⟨ccl, cdd, .fields vs0, ccs⟩) (hvs : vs0[2]? = some (.str file tf)) (hfile : ((P.main.file : Str) == file) = true) (hcell : K.lookup cc = some ⟨cl, cld, .cell (some (.ref C)), csl⟩)
    (hp : (params.posonlyargs ++ params.args).head? = some ar) (har : ar.arg = ("self" : Str)) (hb0 : body = [.Expr (.Call (.Attribute (.Call (.Name "super" p0) [] [] p1) "__init__" p2) [.Constant (.str tx) 0 p3] [] p4) p5, .Assign [.Attribute (.Name "self" q1) fld q2] (.Name fld q3) q4])
    {pl : Env → Sem Bool} (hmc : ∀ env, eval (.Call (.Attribute (.Call (.Name "super" p0) [] [] p1) "__init__" p2) [.Constant (.str tx) 0 p3] [] p4) env = (do
      let ov ← attributeBase (.Call (.Name "super" p0) [] [] p1) "__init__" env (eval (.Call (.Name "super" p0) [] [] p1) env)
      standAt p2.atName
      let (f, first) ← holding [ov] (getMethod ov "__init__" (pl env))
      callWith p4 f first (backTo p4 (starEach [.Constant (.str tx) 0 p3] env)) []))
    (hsw : ∀ env, swapsWith (.Name fld q3) (some (.Attribute (.Name "self" q1) fld q2)) q4.line env = pure false) (hf1 : (("super" : Str) == fld) = false) (hf2 : (("__class__" : Str) == fld) = false) (hne : fld ≠ ("self" : Str)) (hdb : (fld == ("__debug__" : Str)) = false) :
    FnOk P w K mg base CX (k + 1) f (PySem.W.fnX "__init__" qual params body (supScope fld) [("__class__", cc)] dV kV doc pm an (.ref cda) ct) ["self", fld] (spSup C fld) := by
  refine ⟨fun vs H Q E ⟨a, v, e, _⟩ => by rw [e]; rfl, fun A outer s H args us vs Q E hr e0 hb r hsp => ?_⟩
  obtain ⟨a, v, rfl, ha, q⟩ := hsp
  obtain ⟨u1, u2, rfl, ru1, ru2⟩ := vals2 r
  obtain rfl : u1 = Value.ref a := ru1
  have KX : K.In s.heap := e0.mod.kin.keeps fun b o e => (e0.bs b o e).1
  have lim : s.heap.NoLimit := e0.mod.nolimit.keeps fun b o e => (e0.bs b o e).1
  have hne' : ((fld : Str) == ("self" : Str)) = false := by simp [hne]
  refine PySem.ks_codeAny_call_defAt (body := body) (binds := [("self", .ref a), (fld, u2)]) hr.depth (KX _ _ lk) rfl lim (PySem.W.codeRec_of KX hcd) rfl hb ?_ ?_ (fun h₁ hns hk₁ => ?_) rfl rfl rfl
  · intro x hx
    simp only [PySem.W.fnX, supScope, List.mem_cons, List.not_mem_nil, or_false] at hx
    rcases hx with rfl | rfl | rfl | rfl <;> (intro z; cases z)
  · intro x hx
    simp only [List.mem_cons, List.not_mem_nil, or_false] at hx
    rcases hx with rfl | rfl
    · rfl
    · show List.lookup fld [(("self" : Str), NameKind.local), (fld, .local), ("__class__", .free), ("super", .globalImplicit)] = some .local
      simp [List.lookup_cons, hne']
  have eb : h₁.Ns s.heap.objs.size (bindL (envOfC qual (supScope0 fld) s.heap.objs.size f (.ref cda)).kindOf ([("self" : Str), fld].zip [Value.ref a, u2]) fun _ => none) := by
    have k1 : (envOfC qual (supScope0 fld) s.heap.objs.size f (.ref cda)).kindOf "self" = some .local := rfl
    have k2 : (envOfC qual (supScope0 fld) s.heap.objs.size f (.ref cda)).kindOf fld = some .local := by
      show List.lookup fld [(("self" : Str), NameKind.local), (fld, .local)] = some .local
      simp [List.lookup_cons, hne']
    have ef : (bindL (envOfC qual (supScope0 fld) s.heap.objs.size f (.ref cda)).kindOf ([("self" : Str), fld].zip [Value.ref a, u2]) fun _ => none) = fun x => List.lookup x ([(("self" : Str), Value.ref a), (fld, u2)].reverse) := by
      funext y
      show bindL _ [(("self" : Str), Value.ref a), (fld, u2)] _ y = List.lookup y [(fld, u2), (("self" : Str), Value.ref a)]
      simp only [bindL, k1, k2, if_true, List.lookup_cons, List.lookup_nil]
      by_cases h1 : y = fld
      · subst h1; simp
      · by_cases h2 : y = ("self" : Str)
        · subst h2
          rw [beq_eq_false_iff_ne.mpr h1]
          simp [h1]
        · rw [beq_eq_false_iff_ne.mpr h1, beq_eq_false_iff_ne.mpr h2]
          simp [h1, h2]
    rw [ef]
    exact hns
  have S0 : FnScope ["self", fld] ["self", fld] (supScope0 fld) := by
    refine ⟨rfl, rfl, rfl, ?_, rfl, fun x hx => ?_, fun y hy => ?_⟩
    · simp only [List.nodup_cons, List.mem_cons, List.not_mem_nil, or_false, not_false_eq_true, List.nodup_nil, and_true]
      exact fun z => hne z.symm
    · left
      simp only [List.mem_cons, List.not_mem_nil, or_false] at hx
      rcases hx with e | e
      · rw [e]; rfl
      · rw [e]
        show List.lookup fld [(("self" : Str), NameKind.local), (fld, .local)] = some .local
        simp [List.lookup_cons, hne']
    · simp only [supScope0, List.mem_cons, List.not_mem_nil, or_false] at hy
      rcases hy with rfl | rfl <;> (intro z; cases z)
  have ec : cellsFrom (s.heap.objs.size + 1) (supScope0 fld).names [] = [] := rfl
  have I : Inv (cxOf CX P w K mg base ["self", fld] qual (supScope0 fld) f (.ref cda) A outer s H E) [] (start ["self", fld] [.ref a, v]) H { s with heap := h₁, toks := s.toks + 2 } :=
    inv_start S0 hr.hd e0 rfl r ⟨⟨⟨h₁, _, rfl⟩, eb, hk₁, Nat.le_refl _⟩, (fun n c hc => by rw [ec] at hc; simp at hc), (by rw [ec]; exact List.Pairwise.nil), (fun n c hc => by rw [ec] at hc; simp at hc)⟩
  obtain ⟨oD, cdC, hC1, hC2, hCi⟩ : ∃ oD cdC, K.lookup C = some oD ∧ oD.data = .cls cdC ∧ PySem.W.clsIn K C = some cdC := by
    obtain ⟨_, _, _, _, _, _, _, _, _, _, _, _, _, _, _, hC, _⟩ := T.oex.cls
    exact ⟨_, _, hC, rfl, by unfold PySem.W.clsIn; rw [hC] <;> rfl⟩
  have henv : callEnv (PySem.W.fnX "__init__" qual params body (supScope fld) [("__class__", cc)] dV kV doc pm an (.ref cda) ct) s.heap.objs.size f = PySem.W.ksEnv qual (supScope fld) s.heap.objs.size f (.ref cda) cc := rfl
  rw [henv]
  generalize henv2 : PySem.W.ksEnv qual (supScope fld) s.heap.objs.size f (.ref cda) cc = env
  rw [hb0]
  refine PySem.ks_wpAt_execs_cons (PySem.ks_wpAt_Expr_any ?_ ?_ ?_)
  rotate_left
  · rw [← henv2]; rfl
  · rfl
  refine PySem.ks_wpAt_MethodCall (pl := pl env) ?_ (hmc env)
  rw [← henv2]
  have hself : (fun x => List.lookup x ([(("self" : Str), Value.ref a), (fld, u2)].reverse)) "self" = some (.ref a) := by
    show List.lookup ("self" : Str) [(fld, u2), (("self" : Str), Value.ref a)] = some (.ref a)
    have : (("self" : Str) == fld) = false := beq_eq_false_iff_ne.mpr fun z => hne z.symm
    simp only [List.lookup_cons, this]
    rfl
  refine sup_go (X := cxOf CX P w K mg base ["self", fld] qual (supScope0 fld) f (.ref cda) A outer s H E) T I s.heap.objs.size lk hcode hvs hfile hcell hp har hf1 hf2 hns hself ha (fun s' J => ?_)
  dsimp only
  obtain ⟨m', hns', hl'⟩ := J.loc
  obtain ⟨v1, rv1, lk1⟩ := hl' 0 "self" (.ref a) rfl rfl (.inl rfl)
  obtain rfl : v1 = Value.ref a := rv1
  have k2 : (envOfC qual (supScope0 fld) s.heap.objs.size f (.ref cda)).kindOf fld = some .local := by
    show List.lookup fld [(("self" : Str), NameKind.local), (fld, .local)] = some .local
    simp [List.lookup_cons, hne']
  obtain ⟨v2, rv2, lk2⟩ := hl' 1 fld v rfl rfl (.inl k2)
  have m1 : m' "self" = some (.ref a) := by
    rcases lk1 with ⟨_, z⟩ | ⟨z, _⟩
    · exact z
    · rcases z with z | z <;> cases z
  have m2 : m' fld = some v2 := by
    rcases lk2 with ⟨_, z⟩ | ⟨z, _⟩
    · exact z
    · rcases z with z | z <;> exact absurd (k2.symm.trans z) (fun y => by cases y)
  have e1 : (PySem.W.ksEnv qual (supScope fld) s.heap.objs.size f (.ref cda) cc).kindOf "self" = some .local := rfl
  have e2 : (PySem.W.ksEnv qual (supScope fld) s.heap.objs.size f (.ref cda) cc).kindOf fld = some .local := by
    show List.lookup fld [(("self" : Str), NameKind.local), (fld, .local), ("__class__", .free), ("super", .globalImplicit)] = some .local
    simp [List.lookup_cons, hne']
  refine PySem.ks_wpAt_execs_cons (PySem.wpAt_of_wpAny (plainObj_wpAny_Assign_Attribute ?_ (hsw _)))
  refine PySem.wpAny_Name (PySem.wpAny_loadName_local rfl e2 hns' m2 ?_) hdb
  refine PySem.wpAny_Name (PySem.wpAny_loadName_local rfl e1 hns' m1 ?_) (by decide)
  refine ost_new T.oex J ha T.noF rv2 (fun dx s'' hdx hdn J2 => ?_)
  refine PySem.wpAt_of_wpAny (wpAny_execs_nil ?_)
  exact ⟨.non, _, J2.os, J2.bare, J2.base, J2.hok, rfl, q dx hdx hdn⟩
end Pa
set_option maxRecDepth 100000
set_option maxHeartbeats 4000000
namespace Pa
open PySem PySem.Spec PyProof.Rows L2 RZ StX ClX
/-! ### errors -/
/-- an own error with one field, made by its own __init__ -/
structure ErrOk (P : Program) (w : World) (K : PySem.W.Frag) (mg : Str → Option Value) (base : Heap) (x fld : Str) (C : Addr) : Prop where
  oex : OexC K C
  gC : mg x = some (.ref C)
  ok : ∃ (fI : Addr) (fd : FuncData), PySem.W.findIn K (.ref C) "__init__" = some (some (.ref fI)) ∧ PySem.W.typeIn K (.ref fI) = some (.type "function") ∧ Binds K fd ["self", fld] [] ∧ FnOk P w K mg base CX0 1 fI fd ["self", fld] (spSup C fld)
theorem pmk_err {X : Cx} {x fld : Str} {C : Addr} {e : Expr} {ta : TA} {p pos : Pos} (T : ErrOk X.prog X.w X.K X.mg X.base x fld C) (hr : Room 2 X.A) (hg : Gl X x) (ha : PA X [e] ta)
    (hdb : (x == ("__debug__" : Str)) = false := by decide) (he : starEach [e] X.env = (false, eval e X.env) :: starEach [] X.env := by rfl) (hpl : (backTo pos (starEach [] X.env)).any (·.1) = false := by rfl) :
    PMk X (.Call (.Name x p) [e] [] pos) (tMkO C (spSup C fld) [] ta) := by
  obtain ⟨fI, fd, h1, h2, h3, h4⟩ := T.ok
  exact pmk_oex T.oex h1 h2 h4 hr h3 .nil pass0 hg T.gC ha hdb he hpl
/-- what a raised one leaves -/
theorem err_end {C a dx : Addr} {fld : Str} {v : V} {H : Hp} (ha : H a = none) (hne : dx ≠ a) : upd (del (upd (upd (upd H a (exo a C none)) dx (exd dx [(fld, v)])) a (exo a C (some dx))) a) dx (.xd [(fld, v)]) = upd H dx (.xd [(fld, v)]) := by
  funext b
  by_cases h1 : b = dx
  · subst h1
    rw [upd_same, upd_same]
  · rw [upd_ne h1, upd_ne h1]
    by_cases h2 : b = a
    · subst h2
      rw [del_same, ha]
    · rw [del_ne h2, upd_ne h2, upd_ne h1, upd_ne h2]
/-- the reading of raise X(v) -/
theorem err_read {C : Addr} {fld : Str} {v : V} {ta : TA} {σ : L2.St} {H : Hp} {Q : XK} (h : ∀ R : List V → Hp → Prop, R [v] H → ta σ H R) (q : ∀ dx, H dx = none → Q (.ref C) (some dx) (upd H dx (.xd [(fld, v)]))) : tMkO C (spSup C fld) [] ta σ H Q := by
  unfold tMkO
  refine h _ ⟨(by show 1 ≤ 1000; decide), fun a ha => ⟨a, v, rfl, upd_same, fun dx hdx hne => ⟨rfl, dx, [(fld, v)], upd_same, ?_, ?_, ?_⟩⟩⟩
  · rw [upd_ne hne, upd_same]
  · rw [upd_ne hne] at hdx
    exact hdx
  · rw [err_end ha hne]
    rw [upd_ne hne] at hdx
    exact q dx hdx
/-- what a callee raises goes out of this def, too -/
theorem passT {X : Cx} {E : XK} (t : Takes X fun cls d _ H => E cls d H) : Passes (L2.CX X.prog X.w) X E := fun pins σ H s e s' I c => passAt t σ pins H s e s' I c
section
variable {X : Cx} {CX : CXT} {k : Nat} {f C : Addr} {fd : FuncData} {ps : List Str} {sp : Sp} {E : L2.St → XK} {m : Str} {pos apos : Pos} {e o : Expr} {es : List Expr} {ta : TE} {t : TA} {pl : Sem Bool}
/-- o.m(e, ..) that may raise, within a try -/
def tMethE (C : Addr) (m : Str) (sp : Sp) (E : L2.St → XK) (ta : TE) (t : TA) : TE := fun σ H Q => ta σ H fun x H1 => ∃ a dx fs, x = .ref a ∧ H1 a = some (.ins C dx fs) ∧ fs.lookup m = none ∧ t σ H1 fun vs H2 => sp (x :: vs) H2 Q (E σ)
theorem pe_methE (he : PE X o ta) (c : Cls X.K C) (hm : Meth X.K C m f) (F : FnOk X.prog X.w X.K X.mg X.base CX k f fd ps sp) (hr : Room k X.A) (hb : Binds X.K fd ps []) (hx : ∀ σ, PassesAt CX X σ (E σ)) (ha : PA X (e :: es) t)
    (hst : starEach (e :: es) X.env = (false, eval e X.env) :: starEach es X.env := by rfl) (hpl : (backTo pos (starEach es X.env)).any (·.1) = false := by rfl)
    (ht : eval (.Call (.Attribute o m apos) (e :: es) [] pos) X.env = (do
      let ov ← eval o X.env
      standAt apos.atName
      let (f, first) ← holding [ov] (getMethod ov m pl)
      callWith pos f first (backTo pos (starEach (e :: es) X.env)) (backToKw pos (keywordEach [] X.env))) := by rfl) :
    PE X (.Call (.Attribute o m apos) (e :: es) [] pos) (tMethE C m sp E ta t) := by
  refine ⟨fun pins s σ H Q I h => PySem.W.methodCall_KW (pl := pl) (thn (he.run pins s σ H _ I h) fun u s1 ⟨x, H1, I1, rx, a, dx, fs, ex, ea, l, q⟩ => ?_) ht⟩
  subst ex
  obtain rfl : u = Value.ref a := rx
  refine getmeth_ok I1 ea c hm l (PySem.W.callWith_K (first := [.ref a]) (h₀ := X.base) I.ok.mod.kin hm.kp (thn (ha.run pos pins s1 σ H1 _ I1 q) fun us s2 ⟨vs, H2, I2, r, q2⟩ => ⟨I2.kIn, ?_⟩) hst hpl)
  exact run_fnS (us := .ref a :: us) (vs := .ref a :: vs) F hr hb (hx σ) I2 (.cons rfl r) q2
end
/-! ### integers, asked of any value -/
section
variable {P : Program} {w : World} {K : PySem.W.Frag} {mg : Str → Option Value} {base : Heap} {tv tp tk dl C : Addr}
/-- None, a truth value, a text -/
def NoInt (v : V) : Prop := v = .non ∨ (∃ b, v = .bl b) ∨ ∃ s, v = .str s
def spIsIntB : Sp := fun vs H Q _ => ∃ v : V, vs = [v] ∧ ((∃ i : Int, v = .int i ∧ Q (.bl true) H) ∨ (NoInt v ∧ Q (.bl false) H))
theorem ok_is_integerB {f : Addr} {fd : FuncData} (F : Fun K "is_integer" "is_integer" sis_integer f fd) (T : Txt K w mg tv tp tk dl C) : FnOk P w K mg base CX0 1 f fd ["value"] spIsIntB := by
  refine F.ok scis_integer (fun vs H Q E h => ?_) (fun cdv A outer s H vs Q E hr h => ?_)
  · obtain ⟨v, rfl, _⟩ := h
    rfl
  · obtain ⟨v, rfl, h⟩ := h
    refine ⟨_, (pss_one (ps_ret (pe_and (pe_callB call_isi (by rfl) T.b_isinstance (by decide +kernel) (pa_cons (pv 0) (pa_cons (pe_bltn (v := .ty "int") (by rfl) T.b_int (by decide +kernel) rfl) pa_nil))) (pe_one (pe_not (pe_callB call_isi (by rfl) T.b_isinstance (by decide +kernel) (pa_cons (pv 0) (pa_cons (pe_bltn (v := .ty "bool") (by rfl) T.b_bool (by decide +kernel) rfl) pa_nil)))))))), ?_⟩
    rcases h with ⟨i, rfl, k⟩ | ⟨rfl | ⟨b, rfl⟩ | ⟨t, rfl⟩, k⟩
    · refine ⟨_, rfl, _, _, _, _, _, rfl, .ty _, .base (.int i), kit_ty (by decide +kernel), _, rfl, iteT ?_⟩
      exact ⟨_, rfl, _, _, _, _, _, rfl, .ty _, .base (.int i), kit_ty (r := false) (by decide +kernel), _, rfl, k⟩
    · exact ⟨_, rfl, _, _, _, _, _, rfl, .ty _, .base .non, kit_ty (r := false) (by decide +kernel), _, rfl, iteF k⟩
    · refine ⟨_, rfl, _, _, _, _, _, rfl, .ty _, .base (.bl b), kit_ty (by decide +kernel), _, rfl, iteT ?_⟩
      exact ⟨_, rfl, _, _, _, _, _, rfl, .ty _, .base (.bl b), kit_ty (r := true) (by decide +kernel), _, rfl, k⟩
    · exact ⟨_, rfl, _, _, _, _, _, rfl, .ty _, .base (.str t), kit_ty (r := false) (by decide +kernel), _, rfl, iteF k⟩
def spIntFromB : Sp := fun vs H Q _ => ∃ (v : V) (lo hi : Int), vs = [v, .int lo, .int hi] ∧ ((∃ i : Int, v = .int i ∧ Q (.bl (decide (lo ≤ i ∧ i ≤ hi))) H) ∨ (NoInt v ∧ Q (.bl false) H))
theorem ok_int_fromB {f : Addr} {fd : FuncData} (F : Fun K "is_integer_from" "is_integer_from" sis_integer_from f fd) (C_is_integer : CallOk P w K mg base 1 "is_integer" ["value"] spIsIntB) : FnOk P w K mg base CX0 2 f fd ["value", "low", "high"] spIntFromB := by
  refine F.ok scis_integer_from (fun vs H Q E h => ?_) (fun cdv A outer s H vs Q E hr h => ?_)
  · obtain ⟨v, lo, hi, rfl, _⟩ := h
    rfl
  · obtain ⟨v, lo, hi, rfl, h⟩ := h
    refine ⟨_, (pss_one (ps_ret (pe_and (pe_cc C_is_integer (hr.mono (by decide)) (by rfl) (pa_cons (pv 0) pa_nil)) (pe_one (pe_chain op_le op_le (pv 1) (pv 0) (pv 2)))))), ?_⟩
    rcases h with ⟨i, rfl, k⟩ | ⟨h, k⟩
    · refine ⟨_, rfl, _, rfl, .inl ⟨i, rfl, _, rfl, iteT ⟨_, rfl, _, rfl, _, _, rfl, rfl, _, rfl, ?_⟩⟩⟩
      by_cases h1 : lo ≤ i
      · rw [decide_eq_true h1]
        refine iteT ⟨_, rfl, _, _, rfl, rfl, ?_⟩
        have e : decide (lo ≤ i ∧ i ≤ hi) = decide (i ≤ hi) := by simp [h1]
        rw [e] at k
        exact k
      · rw [decide_eq_false h1]
        have e : decide (lo ≤ i ∧ i ≤ hi) = false := by simp [h1]
        rw [e] at k
        exact iteF k
    · exact ⟨_, rfl, v, rfl, .inr ⟨h, _, rfl, iteF k⟩⟩
end
/-! ### sheets -/
abbrev RowD : Type := Int × List Str × List (Str × V)
def RulesAt (K : PySem.W.Frag) (C : Addr) (H : Hp) (rs : List Addr) (rows : List RowD) : Prop := Paired (fun r x => RuleAt K C H r x.1 x.2.1 x.2.2) rs rows
def GoodR (rows : List RowD) : Prop := ∀ x ∈ rows, Good x.1 x.2.1 x.2.2
theorem RulesAt.ext {K : PySem.W.Frag} {C : Addr} {H H' : Hp} {rs : List Addr} {rows : List RowD} (h : RulesAt K C H rs rows) (e : Ext H H') : RulesAt K C H' rs rows := by
  unfold RulesAt at *
  induction h with
  | nil => exact .nil
  | cons a _ ih => exact .cons (RuleAt.ext a e) ih
theorem RulesAt.len {K : PySem.W.Frag} {C : Addr} {H : Hp} {rs : List Addr} {rows : List RowD} (h : RulesAt K C H rs rows) : rs.length = rows.length := Paired.length h
theorem RulesAt.get {K : PySem.W.Frag} {C : Addr} {H : Hp} {rs : List Addr} {rows : List RowD} (h : RulesAt K C H rs rows) : ∀ {i : Nat} {v : V}, (rs.map V.ref)[i]? = some v → ∃ r x, v = .ref r ∧ rs[i]? = some r ∧ rows[i]? = some x ∧ RuleAt K C H r x.1 x.2.1 x.2.2 := by
  unfold RulesAt at h
  induction h with
  | nil => intro i v e; simp at e
  | @cons r x _ _ a _ ih =>
    intro i v e
    cases i with
    | zero =>
      cases e
      exact ⟨r, x, rfl, rfl, rfl, a⟩
    | succ i => exact ih e
theorem RulesAt.app {K : PySem.W.Frag} {C : Addr} {H : Hp} {rs rs' : List Addr} {rows rows' : List RowD} (h : RulesAt K C H rs rows) (h' : RulesAt K C H rs' rows') : RulesAt K C H (rs ++ rs') (rows ++ rows') := by
  unfold RulesAt at *
  induction h with
  | nil => exact h'
  | cons a _ ih => exact .cons a ih
theorem RulesAt.take {K : PySem.W.Frag} {C : Addr} {H : Hp} {rs : List Addr} {rows : List RowD} (h : RulesAt K C H rs rows) : ∀ n, RulesAt K C H (rs.take n) (rows.take n) := by
  unfold RulesAt at *
  induction h with
  | nil => intro n; simp only [List.take_nil]; exact .nil
  | cons a _ ih =>
    intro n
    cases n with
    | zero => exact .nil
    | succ n => exact .cons a (ih n)
theorem RulesAt.drop {K : PySem.W.Frag} {C : Addr} {H : Hp} {rs : List Addr} {rows : List RowD} (h : RulesAt K C H rs rows) : ∀ n, RulesAt K C H (rs.drop n) (rows.drop n) := by
  unfold RulesAt at *
  induction h with
  | nil => intro n; simp only [List.drop_nil]; exact .nil
  | cons a hh ih =>
    intro n
    cases n with
    | zero => exact .cons a hh
    | succ n => exact ih n
/-- a sheet in the heap -/
structure SheetAt (K : PySem.W.Frag) (C CS : Addr) (H : Hp) (a : Addr) (rows : List RowD) : Prop where
  ex : ∃ dx t rs, H a = some (.ins CS dx [("rules", .ref t)]) ∧ SqT K H t (rs.map V.ref) ∧ RulesAt K C H rs rows
theorem SheetAt.ext {K : PySem.W.Frag} {C CS : Addr} {H H' : Hp} {a : Addr} {rows : List RowD} (h : SheetAt K C CS H a rows) (e : Ext H H') : SheetAt K C CS H' a rows := by
  obtain ⟨dx, t, rs, h1, h2, h3⟩ := h.ex
  exact ⟨dx, t, rs, e _ _ h1, h2.ext e, h3.ext e⟩
theorem tyX_ext {K : PySem.W.Frag} {H H' : Hp} (e : Ext H H') {v : V} {t : Value} (h : TyX K H v t) : TyX K H' v t := by
  cases h with
  | base b => exact .base (by
      cases b with
      | non => exact .non
      | bl x => exact .bl x
      | int i => exact .int i
      | str x => exact .str x
      | flt x => exact .flt x
      | lst q => exact .lst (e _ _ q)
      | frz q => exact .frz (e _ _ q)
      | tup q => exact .tup (e _ _ q)
      | dK q => exact .dK (e _ _ q)
      | dT q => exact .dT (e _ _ q)
      | ins q c1 c2 c3 c4 c5 => exact .ins (e _ _ q) c1 c2 c3 c4 c5)
  | byt b => exact .byt b
  | set q => exact .set (e _ _ q)
  | kList q c => exact .kList q c
  | kTuple q c => exact .kTuple q c
  | kDict q c => exact .kDict q c
  | fTuple q => exact .fTuple (e _ _ q)
  | fDict q => exact .fDict (e _ _ q)
structure TxS (K : PySem.W.Frag) (mg : Str → Option Value) (CS CB : Addr) : Prop where
  cl : Cls K CS
  nr : PySem.W.findIn K (.ref CS) "rules" = some none
  gS : mg "Sheet" = some (.ref CS)
  gM : ∃ t, mg "MOST_RULES" = some (.int 6 t)
  ha : PySem.W.findIn K (.ref CS) "__class__" = some (some (.builtin "object.__class__"))
  hm : PySem.W.mroIn K CS (.type "object") = some true
  kc : PySem.W.kitOne K (.ref CS) (.ref CS) = some true
  kl : PySem.W.kitOne K (.type "list") (.ref CS) = some false
def RuleRef (C : Addr) (H : Hp) (v : V) : Prop := ∃ r dx fs, v = .ref r ∧ H r = some (.ins C dx fs)
def NotRule (K : PySem.W.Frag) (C : Addr) (H : Hp) (v : V) : Prop := ∃ t, TyX K H v t ∧ PySem.W.kitOne K t (.ref C) = some false
section
variable {P : Program} {w : World} {K : PySem.W.Frag} {mg : Str → Option Value} {base : Heap} {tv tp tk dl C CS CB : Addr}
def spSInit (K : PySem.W.Frag) (C CS CB : Addr) : Sp := fun vs H Q E => ∃ (x l dx : Addr) (xs : List V), vs = [.ref x, .ref l] ∧ H x = some (.ins CS dx []) ∧ Seq K H l xs ∧ xs.length ≤ 10 ∧
  (((∀ v ∈ xs, RuleRef C H v) ∧ xs.length ≤ 6 ∧ ∀ H' t, (∀ q o, q ≠ x → H q = some o → H' q = some o) → H' x = some (.ins CS dx [("rules", .ref t)]) → SqT K H' t xs → Q .non H') ∨
   ∃ n : Nat, (∀ i v, i < n → xs[i]? = some v → RuleRef C H v) ∧ n ≤ 6 ∧ n < xs.length ∧ (n = 6 ∨ ∃ v, xs[n]? = some v ∧ NotRule K C H v) ∧ ∀ H' dd, Ext H H' → H dd = none → H' dd = some (.xd [("place", .int n)]) → E (.ref CB) (some dd) H')
abbrev sSheet___init__ : Stmt := inClass (topS 22) 0
theorem scSheet___init__ : FnScope ["self", "rules", "place"] ["self", "rules"] (defScope sSheet___init__) := ⟨rfl, rfl, rfl, by decide +kernel, rfl, by decide +kernel, by decide +kernel⟩
theorem ok_sinit {f : Addr} {fd : FuncData} (F : Fun K "__init__" "Sheet.__init__" sSheet___init__ f fd) (T : Txt K w mg tv tp tk dl C) (R : TxR K C) (S : TxS K mg CS CB) (TE : ErrOk P w K mg base "BadRule" "place" CB)
    (C_is_row : CallOk P w K mg base 1 "is_row" ["value"] (spIsRow K)) : FnOk P w K mg base (L2.CX P w) 3 f fd ["self", "rules"] (spSInit K C CS CB) := by
  obtain ⟨tM, gM⟩ := S.gM
  refine F.okX scSheet___init__ (fun vs H Q E h => ?_) (fun cdv A outer s H vs Q E hr h => ?_)
  · obtain ⟨x, l, dx, xs, rfl, _⟩ := h
    rfl
  · obtain ⟨x, l, dx, xs, rfl, hx, hl, hlen, h⟩ := h
    refine ⟨_, (pss_cons (ps_if (pt_not (pt_val (pe_cc C_is_row (hr.mono (by decide)) (by rfl) (pa_cons (pv 1) pa_nil))))
        (pss_one ps_never)
        pss_nil)
      (pss_cons (ps_for (passes_of rfl) rfl (pi_range1 (by rfl) T.b_range (pa_cons (pe_callB call_len_seq (by rfl) T.b_len PySem.boot_len (pa_cons (pv 1) pa_nil)) pa_nil)) (pg_name (i := 2) scSheet___init__.nd rfl (.inl rfl))
        (pss_one (ps_if (PW.pt (pw_or (pt_cmpR op_eq (pv 2) (pe_glob (v := .int 6) (by rfl) gM ⟨_, rfl⟩) (nomark _)) (pw_or1 (pt_not (pt_val (pe_callB call_isi (by rfl) T.b_isinstance (by decide +kernel) (pa_cons (pe_ix ix_seq (pv 1) (pv 2) (fun _ _ => rfl)) (pa_cons (pe_glob (v := .ref C) (by rfl) T.g_Rule rfl) pa_nil))))))))
          (pss_one (ps_raise rfl (takes_of rfl rfl rfl rfl) (pmk_err TE (hr.mono (by decide)) (by rfl) (pa_cons (pv 2) pa_nil))))
          pss_nil)))
      (pss_one (ps_fld (pv 0) (pe_callTy call_tuple_of (by rfl) T.b_tuple (by decide +kernel) (pa_cons (pv 1) pa_nil)) rfl)))), ?_⟩
    refine ⟨_, rfl, l, xs, rfl, hl, fun H1 e1 => ⟨_, rfl, iteF ?_⟩⟩
    have hl1 := hl.ext e1
    have hx1 := e1 _ _ hx
    refine ⟨_, rfl, l, xs, rfl, hl1.symm, _, rfl, by omega, by omega, ?_⟩
    -- a place that holds a rule
    have isR : ∀ (v : V), RuleRef C H v → TyX K H1 v (.ref C) := fun v hR => by
      obtain ⟨r, dr, fs, rfl, e⟩ := hR
      exact .base (.ins (e1 _ _ e) R.cl R.ha R.hn R.htk R.hm)
    have ixR : ∀ (i : Nat) (v : V) (X' : V → Hp → Prop), xs[i]? = some v → X' v H1 → rIx K (.ref l) (.int (0 + (i : Int))) H1 X' := fun i v X' hv k => by
      have hv2 : atI xs (0 + (i : Int)) = some v := by rw [Int.zero_add]; exact atI_nat (j := i) hv
      rcases hl1 with q | q
      · exact .inr (.inl ⟨l, _, _, _, rfl, rfl, q, hv2, k⟩)
      · exact .inl ⟨l, _, _, _, rfl, rfl, q, hv2, k⟩
    rcases h with ⟨hall, h6, k⟩ | ⟨n, hb, hn6, hnl, hw, k⟩
    · refine for_range (lo := 0) (n := xs.length) (fun i σ H' => H' = H1 ∧ ∃ x2, σ = [some (.ref x), some (.ref l), x2]) ⟨rfl, _, rfl⟩ (fun i σ H' hi h => ?_) (fun σ H' h => ?_)
      · obtain ⟨rfl, x2, rfl⟩ := h
        refine ⟨_, rfl, rfl, _, rfl, ?_⟩
        rw [decide_eq_false (fun q => by have := V.int.inj q; omega : ¬ V.int (0 + (i : Int)) = V.int 6)]
        refine iteF ⟨_, rfl, _, rfl, ixR i _ _ (List.getElem?_eq_getElem hi) ?_⟩
        exact ⟨_, _, _, _, _, rfl, .own C, isR _ (hall _ (List.getElem_mem hi)), R.kc, _, rfl, iteF ⟨rfl, _, rfl⟩⟩
      · obtain ⟨rfl, x2, rfl⟩ := h
        have fin : ∀ (t : Addr) (H3 : Hp), Ext H' H3 → SqT K H3 t xs → ∃ p C' dx' fs, V.ref x = .ref p ∧ H3 p = some (.ins C' dx' fs) ∧ Cls K C' ∧ PySem.W.findIn K (.ref C') "rules" = some none ∧ fs.length < 1000 ∧ Q .non (upd H3 p (.ins C' dx' (putF "rules" (.ref t) fs))) := fun t H3 e3 ht => by
          have hx3 := e3 _ _ hx1
          refine ⟨x, CS, dx, _, rfl, hx3, S.cl, S.nr, (by decide), k _ t (fun q o hq e => ?_) upd_same (sqt_upd ht hx3 (fun _ q => nomatch q) fun _ _ q => nomatch q)⟩
          rw [upd_ne hq]
          exact e3 _ _ (e1 _ _ e)
        rcases hl1 with q | q
        · exact ⟨_, rfl, l, xs, rfl, .inr ⟨q, _, rfl, fin l _ Ext.rfl' q⟩⟩
        · exact ⟨_, rfl, l, xs, rfl, .inl ⟨q, fun t ht => ⟨_, rfl, fin t _ (Ext.upd ht) (SqT.of upd_same)⟩⟩⟩
    · refine for_range (lo := 0) (n := xs.length) (fun i σ H' => H' = H1 ∧ i ≤ n ∧ ∃ x2, σ = [some (.ref x), some (.ref l), x2]) ⟨rfl, Nat.zero_le _, _, rfl⟩ (fun i σ H' hi h => ?_) (fun σ H' h => ?_)
      · obtain ⟨rfl, hin, x2, rfl⟩ := h
        refine ⟨_, rfl, rfl, _, rfl, ?_⟩
        have bad : i = n → tMkO CB (spSup CB "place") [] (tCons (tVar 2) tNil) [some (.ref x), some (.ref l), some (.int (0 + (i : Int)))] H' E := fun e => by
          subst e
          refine err_read (fun R r => ⟨_, rfl, ?_⟩) (fun dd hdd => k _ dd (e1.trans (Ext.upd hdd)) ?_ upd_same)
          · rw [Int.zero_add]; exact r
          · cases q : H dd with
            | none => rfl
            | some u => rw [e1 _ _ q] at hdd; cases hdd
        by_cases e6 : i = 6
        · rw [decide_eq_true (by rw [e6]; rfl : V.int (0 + (i : Int)) = V.int 6)]
          exact iteT (bad (by omega))
        · rw [decide_eq_false (fun q => by have := V.int.inj q; omega : ¬ V.int (0 + (i : Int)) = V.int 6)]
          refine iteF ?_
          by_cases e : i = n
          · rcases hw with hw | ⟨v, hv, t, ty, hk⟩
            · omega
            · subst e
              refine ⟨_, rfl, _, rfl, ixR i _ _ hv ?_⟩
              exact ⟨_, _, _, _, _, rfl, .own C, tyX_ext e1 ty, hk, _, rfl, iteT (bad rfl)⟩
          · refine ⟨_, rfl, _, rfl, ixR i _ _ (List.getElem?_eq_getElem hi) ?_⟩
            exact ⟨_, _, _, _, _, rfl, .own C, isR _ (hb i _ (by omega) (List.getElem?_eq_getElem hi)), R.kc, _, rfl, iteF ⟨rfl, by omega, _, rfl⟩⟩
      · obtain ⟨_, hin, _⟩ := h
        omega
end
end Pa
set_option maxRecDepth 100000
set_option maxHeartbeats 4000000
namespace Pa
open PySem PySem.Spec PyProof.Rows L2 RZ StX ClX
theorem cut_take {xs : List V} {j : Nat} (hj : j ≤ xs.length) : cutV xs none (some (j : Int)) = xs.take j := by
  unfold cutV
  rw [HT.sIx_none, HT.sIx_nat, Nat.min_eq_left hj, List.drop_zero, Nat.sub_zero]
theorem cut_drop {xs : List V} {j : Nat} (hj : j ≤ xs.length) : cutV xs (some (j : Int)) none = xs.drop j := by
  unfold cutV
  rw [HT.sIx_none, HT.sIx_nat, Nat.min_eq_left hj]
  exact List.take_of_length_le (by rw [List.length_drop]; exact Nat.le_refl _)
theorem cat_red {K : PySem.W.Frag} {H : Hp} {a b : Addr} {xs ys : List V} {Q : VK} (hx : SqT K H a xs) (hy : SqT K H b ys) (hl : xs.length + ys.length ≤ sizeLine) (k : ∀ q H', Ext H H' → SqT K H' q (xs ++ ys) → Q (.ref q) H') : rCatA K (.ref a) (.ref b) H Q := by
  refine ⟨a, b, xs, ys, rfl, rfl, hx, hy, hl, fun e => ?_, fun _ e => ?_, fun _ _ p hp => k p _ (Ext.upd hp) (SqT.of upd_same)⟩
  · subst e
    exact k b H Ext.rfl' hy
  · subst e
    rw [List.append_nil] at k
    exact k a H Ext.rfl' hx
theorem cut_red {K : PySem.W.Frag} {H : Hp} {a : Addr} {xs : List V} {lo hi : Option Int} {Q : VK} (hx : SqT K H a xs) (k : ∀ q H', Ext H H' → SqT K H' q (cutV xs lo hi) → Q (.ref q) H') : rSlA K (.ref a) lo hi H Q := by
  refine ⟨a, xs, rfl, hx, fun e => ?_, fun _ p hp => k p _ (Ext.upd hp) (SqT.of upd_same)⟩
  have ec : cutV xs lo hi = xs := by
    unfold cutV
    rw [e.1, e.2, List.drop_zero, Nat.sub_zero, List.take_length]
  rw [ec] at k
  exact k a H Ext.rfl' hx
/-- a method that raises nothing -/
structure MOk (P : Program) (w : World) (K : PySem.W.Frag) (mg : Str → Option Value) (base : Heap) (k : Nat) (C : Addr) (m : Str) (ps : List Str) (sp : Sp) : Prop where
  ok : ∃ (f : Addr) (fd : FuncData), Meth K C m f ∧ Binds K fd ps [] ∧ FnOk P w K mg base CX0 k f fd ps sp
/-- a method that may raise -/
structure MOkX (P : Program) (w : World) (K : PySem.W.Frag) (mg : Str → Option Value) (base : Heap) (k : Nat) (C : Addr) (m : Str) (ps : List Str) (sp : Sp) : Prop where
  ok : ∃ (f : Addr) (fd : FuncData), Meth K C m f ∧ Binds K fd ps [] ∧ FnOk P w K mg base (L2.CX P w) k f fd ps sp
/-- the sheets' making -/
structure SMk (P : Program) (w : World) (K : PySem.W.Frag) (mg : Str → Option Value) (base : Heap) (C CS CB : Addr) : Prop where
  ok : ∃ (fi : Addr) (fd : FuncData), Mk K CS fi ∧ Binds K fd ["self", "rules"] [] ∧ FnOk P w K mg base (L2.CX P w) 3 fi fd ["self", "rules"] (spSInit K C CS CB)
section
variable {X : Cx} {k : Nat} {C : Addr} {ps : List Str} {sp : Sp} {m x : Str} {p pos apos : Pos} {e o : Expr} {es : List Expr} {ta : TE} {t : TA} {pl : Sem Bool}
theorem pe_mm (M : MOk X.prog X.w X.K X.mg X.base k C m ps sp) (c : Cls X.K C) (he : PE X o ta) (hr : Room k X.A) (ha : PA X (e :: es) t)
    (hst : starEach (e :: es) X.env = (false, eval e X.env) :: starEach es X.env := by rfl) (hpl : (backTo pos (starEach es X.env)).any (·.1) = false := by rfl)
    (ht : eval (.Call (.Attribute o m apos) (e :: es) [] pos) X.env = (do
      let ov ← eval o X.env
      standAt apos.atName
      let (f, first) ← holding [ov] (getMethod ov m pl)
      callWith pos f first (backTo pos (starEach (e :: es) X.env)) (backToKw pos (keywordEach [] X.env))) := by rfl) :
    PE X (.Call (.Attribute o m apos) (e :: es) [] pos) (tMeth C m sp [] E0 ta t) := by
  obtain ⟨f, fd, h1, h2, h3⟩ := M.ok
  exact pe_meth he c h1 h3 hr h2 .nil pass0 ha hst hpl ht
theorem pe_mmL (M : MOkX X.prog X.w X.K X.mg X.base k C m ps sp) (c : Cls X.K C) (he : PE X o ta) (hr : Room k X.A) (ha : PA X (e :: es) t)
    (hst : starEach (e :: es) X.env = (false, eval e X.env) :: starEach es X.env := by rfl) (hpl : (backTo pos (starEach es X.env)).any (·.1) = false := by rfl)
    (ht : eval (.Call (.Attribute o m apos) (e :: es) [] pos) X.env = (do
      let ov ← eval o X.env
      standAt apos.atName
      let (f, first) ← holding [ov] (getMethod ov m pl)
      callWith pos f first (backTo pos (starEach (e :: es) X.env)) (backToKw pos (keywordEach [] X.env))) := by rfl) :
    PE X (.Call (.Attribute o m apos) (e :: es) [] pos) (tMeth C m sp [] E0 ta t) := by
  obtain ⟨f, fd, h1, h2, h3⟩ := M.ok
  exact pe_meth he c h1 h3 hr h2 .nil passL ha hst hpl ht
theorem pe_sheet {CS CB : Addr} {E : XK} (M : SMk X.prog X.w X.K X.mg X.base C CS CB) (hr : Room 4 X.A) (hg : Gl X x) (hm : X.mg x = some (.ref CS)) (hx : Passes (L2.CX X.prog X.w) X E) (ha : PA X (e :: es) t) (hdb : (x == ("__debug__" : Str)) = false := by decide)
    (he : starEach (e :: es) X.env = (false, eval e X.env) :: starEach es X.env := by rfl) (hpl : (backTo pos (starEach es X.env)).any (·.1) = false := by rfl) : PE X (.Call (.Name x p) (e :: es) [] pos) (tMake CS (spSInit X.K C CS CB) [] E t) := by
  obtain ⟨fi, fd, h1, h2, h3⟩ := M.ok
  exact pe_make h1 h3 hr hg hm h2 .nil hx ha hdb he hpl
end
section
variable {P : Program} {w : World} {K : PySem.W.Frag} {mg : Str → Option Value} {base : Heap} {tv tp tk dl C CS CB : Addr}
theorem rule_ref {H : Hp} {a : Addr} {wt : Int} {ps : List Str} {sets : List (Str × V)} (h : RuleAt K C H a wt ps sets) : RuleRef C H (.ref a) := by
  obtain ⟨dx, pt, st, rs, h1, _⟩ := h.ex
  exact ⟨a, dx, _, rfl, h1⟩
/-- a sheet of rules is made -/
theorem sheet_red {H : Hp} {l : Addr} {rs : List Addr} {rows : List RowD} {Q : VK} {E : XK} (hl : Seq K H l (rs.map V.ref)) (hR : RulesAt K C H rs rows) (h6 : rows.length ≤ 6) (k : ∀ x H', H x = none → Ext H H' → SheetAt K C CS H' x rows → Q (.ref x) H') :
    ∀ x dx, H x = none → H dx = none → dx ≠ x → spSInit K C CS CB (.ref x :: ([.ref l] ++ [])) (upd (upd H dx (.own x)) x (.ins CS dx [])) (fun v H2 => v = .non ∧ Q (.ref x) H2) E := fun x dx hx hdx hne => by
  have hlen := hR.len
  have e0 : Ext H (upd (upd H dx (.own x)) x (.ins CS dx [])) := fun q u e => by rw [upd_ne (ne_of_none e hx), upd_ne (ne_of_none e hdx)]; exact e
  refine ⟨x, l, dx, rs.map V.ref, rfl, upd_same, hl.ext e0, by rw [List.length_map]; omega, .inl ⟨fun v hv => ?_, by rw [List.length_map]; omega, fun H' t hk hxx ht => ⟨rfl, k x H' hx (fun q u e => ?_) ⟨dx, t, rs, hxx, ht, ?_⟩⟩⟩⟩
  · obtain ⟨i, hi⟩ := List.mem_iff_getElem?.mp hv
    obtain ⟨r, y, rfl, _, _, hr⟩ := hR.get hi
    exact rule_ref (hr.ext e0)
  · exact hk q u (ne_of_none e hx) (e0 q u e)
  · exact hR.ext fun q u e => hk q u (ne_of_none e hx) (e0 q u e)
/-- no sheet is made -/
theorem sheet_bad {H : Hp} {l : Addr} {rs : List Addr} {rows : List RowD} {v : V} {vs : List V} {Q : VK} {E : XK} (hl : Seq K H l (rs.map V.ref ++ v :: vs)) (hR : RulesAt K C H rs rows) (h6 : rows.length ≤ 6) (hvs : vs.length ≤ 3) (hw : rows.length = 6 ∨ NotRule K C H v)
    (k : ∀ H' dd, Ext H H' → H dd = none → H' dd = some (.xd [("place", .int rows.length)]) → E (.ref CB) (some dd) H') :
    ∀ x dx, H x = none → H dx = none → dx ≠ x → spSInit K C CS CB (.ref x :: ([.ref l] ++ [])) (upd (upd H dx (.own x)) x (.ins CS dx [])) (fun v H2 => v = .non ∧ Q (.ref x) H2) E := fun x dx hx hdx hne => by
  have hlen := hR.len
  have e0 : Ext H (upd (upd H dx (.own x)) x (.ins CS dx [])) := fun q u e => by rw [upd_ne (ne_of_none e hx), upd_ne (ne_of_none e hdx)]; exact e
  refine ⟨x, l, dx, rs.map V.ref ++ v :: vs, rfl, upd_same, hl.ext e0, by rw [List.length_append, List.length_map, List.length_cons]; omega, .inr ⟨rows.length, fun i u hi hu => ?_, h6, by rw [List.length_append, List.length_map, List.length_cons]; omega, ?_, fun H' dd e hdd hh => k H' dd (e0.trans e) ?_ hh⟩⟩
  · rw [List.getElem?_append_left (by rw [List.length_map]; omega)] at hu
    obtain ⟨r, y, rfl, _, _, hr⟩ := hR.get hu
    exact rule_ref (hr.ext e0)
  · rcases hw with hw | ⟨t, ht, hk⟩
    · exact .inl hw
    · refine .inr ⟨v, ?_, t, tyX_ext e0 ht, hk⟩
      rw [List.getElem?_append_right (by rw [List.length_map]; omega), List.length_map, hlen, Nat.sub_self]
      rfl
  · cases q : H dd with
    | none => rfl
    | some u => rw [e0 _ _ q] at hdd; cases hdd
/-- the tuple of a sheet's rules -/
def RulesOf (CS : Addr) (a t : Addr) (H : Hp) : Prop := ∃ dx, H a = some (.ins CS dx [("rules", .ref t)])
abbrev sSheet___iter__ : Stmt := inClass (topS 22) 8
theorem scSheet___iter__ : FnScope ["self"] ["self"] (defScope sSheet___iter__) := ⟨rfl, rfl, rfl, by decide +kernel, rfl, by decide +kernel, by decide +kernel⟩
theorem ok_iter {f : Addr} {fd : FuncData} (F : Fun K "__iter__" "Sheet.__iter__" sSheet___iter__ f fd) (S : TxS K mg CS CB) (bi : mg "iter" = none) : FnS P w K mg base 1 f fd ["self"] (spIter fun a t H => RulesOf CS a t H ∧ ∃ ys, SqT K H t ys) := by
  refine Pa.Fun.okS F scSheet___iter__ (fun s vs H Q E h => ?_) (fun cdv A outer s H vs Q E hr h => ?_)
  · obtain ⟨a, t, rfl, _⟩ := h
    rfl
  · obtain ⟨a, t, rfl, ⟨⟨dx, h1⟩, ys, h2⟩, k⟩ := h
    refine ⟨_, (pss_one (ps_ret (pe_callB cr_iterT (by rfl) bi (by decide +kernel) (pa_cons (pe_fld (pv 0) rfl) pa_nil)))), ?_⟩
    exact ⟨_, rfl, a, CS, dx, _, _, rfl, h1, S.cl, S.nr, rfl, t, ys, rfl, h2, fun p hp hle => k p hp hle⟩
end
end Pa
set_option maxRecDepth 100000
set_option maxHeartbeats 4000000
namespace Pa
open PySem PySem.Spec PyProof.Rows L2 RZ StX ClX
section
variable {P : Program} {w : World} {K : PySem.W.Frag} {mg : Str → Option Value} {base : Heap} {tv tp tk dl C CS CB : Addr}
def spEqS (K : PySem.W.Frag) (C CS : Addr) : Sp := fun vs H Q _ => ∃ (a : Addr) (y : V) (rows : List RowD), vs = [.ref a, y] ∧ SheetAt K C CS H a rows ∧ GoodR rows ∧
  ((∃ (b : Addr) (rows' : List RowD), y = .ref b ∧ SheetAt K C CS H b rows' ∧ GoodR rows' ∧ ∀ H', Ext H H' → Q (.bl (decide (rows = rows'))) H') ∨ ∃ tb, TyX K H y tb ∧ PySem.W.kitOne K tb (.ref CS) = some false ∧ Q (.bl false) H)
abbrev sSheet___eq__ : Stmt := inClass (topS 22) 9
theorem scSheet___eq__ : FnScope ["self", "other"] ["self", "other"] (defScope sSheet___eq__) := ⟨rfl, rfl, rfl, by decide +kernel, rfl, by decide +kernel, by decide +kernel⟩
theorem ok_eqS {f : Addr} {fd : FuncData} (F : Fun K "__eq__" "Sheet.__eq__" sSheet___eq__ f fd) (T : Txt K w mg tv tp tk dl C) (R : TxR K C) (S : TxS K mg CS CB) (RO : RuleOk P w K mg base C) : FnOk P w K mg base CX0 3 f fd ["self", "other"] (spEqS K C CS) := by
  refine F.ok scSheet___eq__ (fun vs H Q E h => ?_) (fun cdv A outer s H vs Q E hr h => ?_)
  · obtain ⟨a, y, rows, rfl, _⟩ := h
    rfl
  · obtain ⟨a, y, rows, rfl, hS, hg, k⟩ := h
    obtain ⟨dx, t, rs, h1, h2, h3⟩ := hS.ex
    refine ⟨_, (pss_one (ps_ret (pe_and (pe_callB call_isi (by rfl) T.b_isinstance (by decide +kernel) (pa_cons (pv 1) (pa_cons (pe_glob (v := .ref CS) (by rfl) S.gS rfl) pa_nil))) (pe_one (pe_cmpR (op_tupB mon_rule (eqB_rule RO R) hr) (pe_fld (pv 0) rfl) (pe_fld (pv 1) rfl) (nomark _)))))), ?_⟩
    rcases k with ⟨b, rows', rfl, hS', hg', k⟩ | ⟨tb, ht, hk, k⟩
    · obtain ⟨dx', t', rs', h1', h2', h3'⟩ := hS'.ex
      refine ⟨_, rfl, _, _, _, _, _, rfl, .own CS, .base (.ins h1' S.cl S.ha R.hn R.htk S.hm), S.kc, _, rfl, iteT ?_⟩
      refine ⟨_, rfl, a, CS, dx, _, _, rfl, h1, S.cl, S.nr, rfl, _, rfl, b, CS, dx', _, _, rfl, h1', S.cl, S.nr, rfl, t, t', _, _, (fun i => decide (rows[i]? = rows'[i]?)), rfl, rfl, h2, h2', fun i x y hx hy => ?_, fun r H' e hr' => ?_⟩
      · obtain ⟨r1, x1, rfl, _, g1, q1⟩ := h3.get hx
        obtain ⟨r2, x2, rfl, _, g2, q2⟩ := h3'.get hy
        have G1 := hg x1 (List.mem_of_getElem? g1)
        have G2 := hg' x2 (List.mem_of_getElem? g2)
        refine ⟨r1, r2, _, _, _, _, _, _, rfl, rfl, q1, q2, G1.ps, G2.ps, G1.ok, G2.ok, ?_⟩
        show decide (rows[i]? = rows'[i]?) = _
        rw [g1, g2]
        obtain ⟨a1, b1, c1⟩ := x1
        obtain ⟨a2, b2, c2⟩ := x2
        simp
      · have e2 : r = decide (rows = rows') := by
          rw [Bool.eq_iff_iff, hr', decide_eq_true_iff]
          rw [List.length_map, List.length_map, h3.len, h3'.len]
          constructor
          · rintro ⟨hl, ha⟩
            refine List.ext_getElem? fun i => ?_
            by_cases hi : i < rows.length
            · exact of_decide_eq_true (ha i hi)
            · rw [List.getElem?_eq_none (by omega), List.getElem?_eq_none (by omega)]
          · rintro rfl
            exact ⟨rfl, fun i _ => decide_eq_true rfl⟩
        rw [e2]
        exact k H' e
    · exact ⟨_, rfl, _, _, _, _, _, rfl, .own CS, ht, hk, _, rfl, iteF k⟩
end
end Pa
set_option maxRecDepth 100000
set_option maxHeartbeats 4000000
namespace Pa
open PySem PySem.Spec PyProof.Rows L2 RZ StX ClX
/-! ### rows as data -/
def RowsAt (K : PySem.W.Frag) (H : Hp) (ps : List Addr) (rows : List RowD) : Prop := Paired (fun p x => RowAt K H p x.1 x.2.1 x.2.2) ps rows
theorem RowsAt.ext {K : PySem.W.Frag} {H H' : Hp} {ps : List Addr} {rows : List RowD} (h : RowsAt K H ps rows) (e : Ext H H') : RowsAt K H' ps rows := by
  unfold RowsAt at *
  induction h with
  | nil => exact .nil
  | cons a _ ih => exact .cons (RowAt.ext a e) ih
theorem RowsAt.bk {K : PySem.W.Frag} {H H' : Hp} {b : Addr} {ps : List Addr} {rows : List RowD} (h : RowsAt K H ps rows) (hb : IsBag H b) (B : Bk b H H') : RowsAt K H' ps rows := by
  unfold RowsAt at *
  induction h with
  | nil => exact .nil
  | cons a _ ih => exact .cons (RowAt.bk a hb B) ih
theorem RowsAt.lst {K : PySem.W.Frag} {H : Hp} {l : Addr} {xs : List V} {o : HO} {ps : List Addr} {rows : List RowD} (h : RowsAt K H ps rows) (hl : H l = some (.lst xs)) : RowsAt K (upd H l o) ps rows := by
  unfold RowsAt at *
  induction h with
  | nil => exact .nil
  | @cons p x _ _ a _ ih =>
    refine .cons ?_ ih
    obtain ⟨pt, st, rs, h1, h2, h3, h4⟩ := RowAt.ex a
    exact ⟨pt, st, rs, sqt_upd h1 hl (fun _ q => nomatch q) (fun _ _ q => nomatch q), sqt_upd h2 hl (fun _ q => nomatch q) (fun _ _ q => nomatch q), sqt_upd h3 hl (fun _ q => nomatch q) (fun _ _ q => nomatch q), sets_upd h4 hl (fun _ q => nomatch q) (fun _ _ q => nomatch q)⟩
theorem RowsAt.len {K : PySem.W.Frag} {H : Hp} {ps : List Addr} {rows : List RowD} (h : RowsAt K H ps rows) : ps.length = rows.length := Paired.length h
theorem RowsAt.get {K : PySem.W.Frag} {H : Hp} {ps : List Addr} {rows : List RowD} (h : RowsAt K H ps rows) : ∀ {i : Nat} {v : V}, (ps.map V.ref)[i]? = some v → ∃ p x, v = .ref p ∧ ps[i]? = some p ∧ rows[i]? = some x ∧ RowAt K H p x.1 x.2.1 x.2.2 := by
  unfold RowsAt at h
  induction h with
  | nil => intro i v e; simp at e
  | @cons r x _ _ a _ ih =>
    intro i v e
    cases i with
    | zero =>
      cases e
      exact ⟨r, x, rfl, rfl, rfl, a⟩
    | succ i => exact ih e
theorem RowsAt.app {K : PySem.W.Frag} {H : Hp} {ps ps' : List Addr} {rows rows' : List RowD} (h : RowsAt K H ps rows) (h' : RowsAt K H ps' rows') : RowsAt K H (ps ++ ps') (rows ++ rows') := by
  unfold RowsAt at *
  induction h with
  | nil => exact h'
  | cons a _ ih => exact .cons a ih
theorem RowsAt.take {K : PySem.W.Frag} {H : Hp} {ps : List Addr} {rows : List RowD} (h : RowsAt K H ps rows) : ∀ n, RowsAt K H (ps.take n) (rows.take n) := by
  unfold RowsAt at *
  induction h with
  | nil => intro n; simp only [List.take_nil]; exact .nil
  | cons a _ ih =>
    intro n
    cases n with
    | zero => exact .nil
    | succ n => exact .cons a (ih n)
theorem RowsAt.drop {K : PySem.W.Frag} {H : Hp} {ps : List Addr} {rows : List RowD} (h : RowsAt K H ps rows) : ∀ n, RowsAt K H (ps.drop n) (rows.drop n) := by
  unfold RowsAt at *
  induction h with
  | nil => intro n; simp only [List.drop_nil]; exact .nil
  | cons a hh ih =>
    intro n
    cases n with
    | zero => exact .cons a hh
    | succ n => exact ih n
theorem RowsAt.rev {K : PySem.W.Frag} {H : Hp} {ps : List Addr} {rows : List RowD} (h : RowsAt K H ps rows) : RowsAt K H ps.reverse rows.reverse := by
  induction h with
  | nil => exact .nil
  | cons a _ ih =>
    rw [List.reverse_cons, List.reverse_cons]
    exact RowsAt.app ih (.cons a .nil)
/-- a list of rows -/
def RowsSq (K : PySem.W.Frag) (H : Hp) (l : Addr) (rows : List RowD) : Prop := ∃ ps, SqL K H l (ps.map V.ref) ∧ RowsAt K H ps rows
theorem RowsSq.ext {K : PySem.W.Frag} {H H' : Hp} {l : Addr} {rows : List RowD} (h : RowsSq K H l rows) (e : Ext H H') : RowsSq K H' l rows := by
  obtain ⟨ps, h1, h2⟩ := h
  exact ⟨ps, h1.ext e, h2.ext e⟩
theorem Bk.Lr {K : PySem.W.Frag} {b p : Addr} {H H' : Hp} {ps : List Addr} (B : Bk b H H') (hb : IsBag H b) (h : SqL K H p (ps.map V.ref)) : SqL K H' p (ps.map V.ref) := by
  obtain ⟨g, x, c, hb⟩ := hb
  rcases h with (h | ⟨o, h⟩) | h
  · refine .inl (.inl (B.keep _ _ (fun q => ?_) h))
    rw [q, hb] at h
    cases ps with
    | nil => cases h
    | cons y ys => cases h
  · exact .inl (.inr ⟨o, B.keep _ _ (fun q => by rw [q, hb] at h; cases h) h⟩)
  · exact .inr h
theorem RowsSq.bk {K : PySem.W.Frag} {H H' : Hp} {b l : Addr} {rows : List RowD} (h : RowsSq K H l rows) (hb : IsBag H b) (B : Bk b H H') : RowsSq K H' l rows := by
  obtain ⟨ps, h1, h2⟩ := h
  exact ⟨ps, B.Lr hb h1, h2.bk hb B⟩
/-- the same, a list of the heap -/
def RowsL (K : PySem.W.Frag) (H : Hp) (l : Addr) (rows : List RowD) : Prop := ∃ ps : List Addr, H l = some (.lst (ps.map V.ref)) ∧ RowsAt K H ps rows
theorem RowsL.sq {K : PySem.W.Frag} {H : Hp} {l : Addr} {rows : List RowD} (h : RowsL K H l rows) : RowsSq K H l rows := by
  obtain ⟨ps, h1, h2⟩ := h
  exact ⟨ps, SqL.of h1, h2⟩
theorem RowsL.ext {K : PySem.W.Frag} {H H' : Hp} {l : Addr} {rows : List RowD} (h : RowsL K H l rows) (e : Ext H H') : RowsL K H' l rows := by
  obtain ⟨ps, h1, h2⟩ := h
  exact ⟨ps, e _ _ h1, h2.ext e⟩
theorem RowsL.bk {K : PySem.W.Frag} {H H' : Hp} {b l : Addr} {rows : List RowD} (h : RowsL K H l rows) (hb : IsBag H b) (B : Bk b H H') : RowsL K H' l rows := by
  obtain ⟨ps, h1, h2⟩ := h
  refine ⟨ps, B.keep _ _ (fun q => ?_) h1, h2.bk hb B⟩
  obtain ⟨g, x, c, eb⟩ := hb
  rw [q, eb] at h1
  cases ps with
  | nil => cases h1
  | cons y ys => cases h1
theorem RulesAt.bk {K : PySem.W.Frag} {C : Addr} {H H' : Hp} {b : Addr} {rs : List Addr} {rows : List RowD} (h : RulesAt K C H rs rows) (hb : IsBag H b) (B : Bk b H H') : RulesAt K C H' rs rows := by
  unfold RulesAt at *
  induction h with
  | nil => exact .nil
  | cons a _ ih =>
    refine .cons ?_ ih
    obtain ⟨dx, pt, st, qs, h1, h2, h3, h4⟩ := RuleAt.ex a
    obtain ⟨ys, eb⟩ := hb.lst
    exact ⟨dx, pt, st, qs, B.keep _ _ (fun q => by rw [q, eb] at h1; cases h1) h1, B.T hb h2, B.T hb h3, B.S hb h4⟩
theorem SheetAt.bk {K : PySem.W.Frag} {C CS : Addr} {H H' : Hp} {b a : Addr} {rows : List RowD} (h : SheetAt K C CS H a rows) (hb : IsBag H b) (B : Bk b H H') : SheetAt K C CS H' a rows := by
  obtain ⟨dx, t, rs, h1, h2, h3⟩ := h.ex
  obtain ⟨ys, eb⟩ := hb.lst
  exact ⟨dx, t, rs, B.keep _ _ (fun q => by rw [q, eb] at h1; cases h1) h1, B.T hb h2, h3.bk hb B⟩
theorem has_mem {n : Str} : ∀ {sets : List (Str × V)}, (sets.lookup n).isSome = decide (n ∈ sets.map (·.1))
  | [] => rfl
  | x :: sets => by
    rw [List.lookup_cons, List.map_cons]
    by_cases e : n = x.1
    · subst e
      rw [beq_self_eq_true]
      simp
    · rw [beq_eq_false_iff_ne.mpr e]
      show (sets.lookup n).isSome = _
      rw [has_mem]
      simp [e]
section
variable {P : Program} {w : World} {K : PySem.W.Frag} {mg : Str → Option Value} {base : Heap} {tv tp tk dl C CS CB : Addr}
def spRows (K : PySem.W.Frag) : Sp := fun vs H Q _ => ∃ b : Addr, vs = [.ref b, .str "BAC", .int 6, .int 6] ∧ IsBag H b ∧ ∀ l rows H', Bk b H H' → RowsL K H' l rows → GoodR rows → rows.length ≤ 6 → Q (.ref l) H'
abbrev sL_rule_rows : Stmt := topS 39
theorem scL_rule_rows : FnScope ["_law_bag_here", "_law_kinds", "_law_many", "_law_widest", "_law_rows", "_law_turn"] ["_law_bag_here", "_law_kinds", "_law_many", "_law_widest"] (defScope sL_rule_rows) := ⟨rfl, rfl, rfl, by decide +kernel, rfl, by decide +kernel, by decide +kernel⟩
theorem ok_rows {f : Addr} {fd : FuncData} (F : Fun K "_law_rule_rows" "_law_rule_rows" sL_rule_rows f fd) (T : Txt K w mg tv tp tk dl C) (C__law_draw : CallOk P w K mg base 1 "_law_draw" ["_law_bag_here", "_law_many"] spDraw) (C__law_rule_row : CallOk P w K mg base 3 "_law_rule_row" ["_law_bag_here", "_law_kinds", "_law_widest"] (spRow K)) :
    FnOk P w K mg base CX0 4 f fd ["_law_bag_here", "_law_kinds", "_law_many", "_law_widest"] (spRows K) := by
  refine F.ok scL_rule_rows (fun vs H Q E h => ?_) (fun cdv A outer s H vs Q E hr h => ?_)
  · obtain ⟨b, rfl, _⟩ := h
    rfl
  · obtain ⟨b, rfl, hb, k⟩ := h
    refine ⟨_, (pss_cons (ps_set (i := 4) scL_rule_rows.nd rfl (.inl rfl) (pe_lst pa_nil))
      (pss_cons (ps_for PassesOwn.never rfl (pi_range1 (by rfl) T.b_range (pa_cons (pe_cc C__law_draw (hr.mono (by decide)) (by rfl) (pa_cons (pv 0) (pa_cons (pe_op op_add (pv 2) pe_int) pa_nil))) pa_nil)) (pg_name (i := 5) scL_rule_rows.nd rfl (.inl rfl))
        (pss_one (ps_expr (pe_bm PySem.F.plainAttrs_list PySem.F.slot_list_append PySem.F.type_list_append mt_append (pv 4) (pa_cons (pe_cc C__law_rule_row (hr.mono (by decide)) (by rfl) (pa_cons (pv 0) (pa_cons (pv 1) (pa_cons (pv 3) pa_nil)))) pa_nil)))))
      (pss_one (ps_ret (pv 4))))), ?_⟩
    refine ⟨(by show 0 ≤ sizeLine; decide), fun l hl => ?_⟩
    have hlb : l ≠ b := fresh_ne hb hl
    have B0 := (Bk.of hb Ext.rfl').fresh (o := .lst []) hl
    refine ⟨_, rfl, _, rfl, _, _, rfl, rfl, b, 7, rfl, B0.bag, by decide, by decide, fun d H1 h0 h1 B1 => ⟨d, rfl, by omega, by omega, ?_⟩⟩
    refine for_range (lo := 0) (n := d.toNat) (fun i σ H' => Bk b H H' ∧ (∃ ps rows, H' l = some (.lst (ps.map V.ref)) ∧ RowsAt K H' ps rows ∧ GoodR rows ∧ rows.length = i) ∧ ∃ x5, σ = [some (.ref b), some (.str "BAC"), some (.int 6), some (.int 6), some (.ref l), x5])
      ⟨B0.trans B1, ⟨[], [], B1.keep _ _ hlb upd_same, .nil, (fun _ h => nomatch h), rfl⟩, _, rfl⟩ (fun i σ H' hi h => ?_) (fun σ H' h => ?_)
    · obtain ⟨B, ⟨ps, rows, g1, g2, g3, g4⟩, x5, rfl⟩ := h
      refine ⟨_, rfl, .inl ⟨rfl, _, SqL.of g1⟩, _, rfl, _, rfl, _, rfl, b, rfl, B.bag, fun p H2 wt pt sets hG B2 hrow => ?_⟩
      have g1' := B2.keep _ _ hlb g1
      have hpl := g2.len
      refine ⟨l, _, _, rfl, rfl, g1', ?_, ?_⟩
      · rw [List.length_map]
        exact Nat.lt_of_lt_of_le (by omega : ps.length < 1000) (by decide)
      · refine ⟨(B.trans B2).put (by
          cases q : H l with
          | none => rfl
          | some u => rw [hl] at q; cases q) hlb, ⟨ps ++ [p], rows ++ [(wt, pt, sets)], ?_, ?_, ?_, ?_⟩, _, rfl⟩
        · rw [upd_same, List.map_append]
          rfl
        · exact ((g2.bk B.bag B2).app (.cons hrow .nil)).lst g1'
        · intro x hx
          rcases List.mem_append.mp hx with q | q
          · exact g3 x q
          · rw [List.mem_singleton.mp q]
            exact hG
        · rw [List.length_append, List.length_singleton, g4]
    · obtain ⟨B, ⟨ps, rows, g1, g2, g3, g4⟩, x5, rfl⟩ := h
      exact ⟨_, rfl, k l rows _ B ⟨ps, g1, g2⟩ g3 (by omega)⟩
/-- the class's made, its frame told outright -/
theorem pe_madeC {X : Cx} {K0 : PySem.W.Frag} {C : Addr} {pos apos : Pos} {e o : Expr} {es : List Expr} {ta : TE} {t : TA} {pl : Sem Bool} (R : RuleOk X.prog X.w X.K X.mg X.base C) (hK : X.K = K0) (he : PE X o ta) (hr : Room 6 X.A) (ha : PA X (e :: es) t)
    (hst : starEach (e :: es) X.env = (false, eval e X.env) :: starEach es X.env := by rfl) (hpl : (backTo pos (starEach es X.env)).any (·.1) = false := by rfl)
    (ht : eval (.Call (.Attribute o "made" apos) (e :: es) [] pos) X.env = (do
      let ov ← eval o X.env
      standAt apos.atName
      let (f, first) ← holding [ov] (getMethod ov "made" pl)
      callWith pos f first (backTo pos (starEach (e :: es) X.env)) (backToKw pos (keywordEach [] X.env))) := by rfl) :
    PE X (.Call (.Attribute o "made" apos) (e :: es) [] pos) (tCMeth C (fun vs H Q E => spMade K0 C (vs ++ []) H Q E) E0 ta t) := by
  subst hK
  exact pe_made R he hr ha hst hpl ht
def spSheetL (K : PySem.W.Frag) (C CS : Addr) : Sp := fun vs H Q _ => ∃ (l : Addr) (rows : List RowD), vs = [.ref l] ∧ RowsSq K H l rows ∧ GoodR rows ∧ rows.length ≤ 6 ∧ ∀ x H', H x = none → Ext H H' → SheetAt K C CS H' x rows → Q (.ref x) H'
abbrev sL_sheet : Stmt := topS 40
theorem scL_sheet : FnScope ["_law_rows", "_law_weight", "_law_pattern", "_law_settings"] ["_law_rows"] (defScope sL_sheet) := ⟨rfl, rfl, rfl, by decide +kernel, rfl, by decide +kernel, by decide +kernel⟩
theorem ok_sheetL {f : Addr} {fd : FuncData} (F : Fun K "_law_sheet" "_law_sheet" sL_sheet f fd) (T : Txt K w mg tv tp tk dl C) (S : TxS K mg CS CB) (RO : RuleOk P w K mg base C) (M : SMk P w K mg base C CS CB) : FnOk P w K mg base CX0 8 f fd ["_law_rows"] (spSheetL K C CS) := by
  refine F.ok scL_sheet (fun vs H Q E h => ?_) (fun cdv A outer s H vs Q E hr h => ?_)
  · obtain ⟨l, rows, rfl, _⟩ := h
    rfl
  · obtain ⟨l, rows, rfl, ⟨ps, hl, hR⟩, hg, h6, k⟩ := h
    refine ⟨_, (pss_one (ps_ret (pe_sheet M (hr.mono (by decide)) (by rfl) S.gS passL (pa_cons (pe_lc (own := [("_law_weight", 1), ("_law_pattern", 2), ("_law_settings", 3)]) (g := gTup K 3 (gCons (gName 1) (gCons (gName 2) (gCons (gName 3) gNil)))) (tt := tYes) rfl scL_sheet.nd (pi_list (pv 0)) (blkOk_by (N := ["_law_rows", "_law_weight", "_law_pattern", "_law_settings"]) (sc := defScope sL_sheet) (by decide +kernel)) (fun _ _ _ _ _ => (pg_tup rfl (pgs_cons (pg_name (i := 1) scL_sheet.nd rfl (.inl rfl)) (pgs_cons (pg_name (i := 2) scL_sheet.nd rfl (.inl rfl)) (pgs_cons (pg_name (i := 3) scL_sheet.nd rfl (.inl rfl)) pgs_nil))))) (fun _ _ _ _ _ => pts_nil) (fun _ _ _ _ _ => (pe_madeC (K0 := K) RO rfl (pe_glob (v := .ref C) (by rfl) T.g_Rule rfl) (hr.mono (by decide)) (pa_cons (pv 1) (pa_cons (pv 2) (pa_cons (pv 3) pa_nil)))))) pa_nil)))), ?_⟩
    refine ⟨_, rfl, l, rfl, ⟨_, hl⟩, fun D hD => ?_⟩
    have hlen := hR.len
    refine lc_list (xs := ps.map V.ref) (fun i H' => (∀ q u, q ≠ D → H q = some u → H' q = some u) ∧ ∃ rs, H' D = some (.lst (rs.map V.ref)) ∧ RulesAt K C H' rs (rows.take i)) ⟨fun q u hq e => by rw [upd_ne hq]; exact e, [], upd_same, .nil⟩ (fun i H' _ h => hl.ext fun q u e => h.1 q u (ne_of_none e hD) e) (fun i v H' hv h => ?_) (fun H' h => ?_)
    · obtain ⟨k1, rs, k2, k3⟩ := h
      have ex : Ext H H' := fun q u e => k1 q u (ne_of_none e hD) e
      obtain ⟨p, x, rfl, _, hx, hrow⟩ := hR.get hv
      have hG := hg x (List.mem_of_getElem? hx)
      obtain ⟨pt, st, qs, g0, g2, g3, g4⟩ := (hrow.ext ex).ex
      have hi : i < rows.length := (List.getElem?_eq_some_iff.mp hx).1
      refine ⟨p, _, rfl, g0, rfl, _, _, rfl, _, _, rfl, _, _, rfl, rfl, rfl, rfl, _, rfl, _, rfl, _, rfl, pt, st, x.1, x.2.1, qs, x.2.2, rfl, .inl g2, hG.ps, hG.w0, hG.w9, .inl g3, Sets.q g4, hG.ok, hG.sub.nodup, hG.ne, by have := hG.sub.len; omega, fun r H2 hr2 e2 hR2 => ?_⟩
      rw [ord_sub hG.sub] at hR2
      have hD2 := e2 _ _ k2
      refine ⟨_, hD2, ?_, fun q u hq e => ?_, rs ++ [r], ?_, ?_⟩
      · rw [List.length_map, k3.len, List.length_take]
        exact Nat.lt_of_le_of_lt (Nat.min_le_left _ _) (Nat.lt_of_lt_of_le (by omega : i < 1000) (by decide))
      · rw [upd_ne hq]
        exact e2 _ _ (k1 q u hq e)
      · rw [upd_same, List.map_append]
        rfl
      · rw [List.take_add_one, hx]
        have z : RulesAt K C H2 (rs ++ [r]) (rows.take i ++ [x]) := (k3.ext e2).app (.cons hR2 .nil)
        unfold RulesAt at z ⊢
        exact Paired.mapP z fun a y hy => by
          obtain ⟨dx, pt, st, rs', h1, h2, h3, h4⟩ := RuleAt.ex hy
          exact ⟨dx, pt, st, rs', by rw [upd_ne (fun q => by rw [q, hD2] at h1; cases h1)]; exact h1, sqt_upd h2 hD2 (fun _ q => nomatch q) (fun _ _ q => nomatch q), sqt_upd h3 hD2 (fun _ q => nomatch q) (fun _ _ q => nomatch q), sets_upd h4 hD2 (fun _ q => nomatch q) (fun _ _ q => nomatch q)⟩
    · obtain ⟨k1, rs, k2, k3⟩ := h
      rw [List.length_map, hlen, List.take_length] at k3
      have ex : Ext H H' := fun q u e => k1 q u (ne_of_none e hD) e
      refine sheet_red (.inr (SqL.of k2)) k3 h6 fun x H2 hx e2 hs => k x H2 ?_ (ex.trans e2) hs
      cases q : H x with
      | none => rfl
      | some u => rw [ex _ _ q] at hx; cases hx
end
end Pa
set_option maxRecDepth 100000
set_option maxHeartbeats 4000000
namespace Pa
open PySem PySem.Spec PyProof.Rows L2 RZ StX ClX
/-! ### len, == and != of sheets -/
structure EqS (P : Program) (w : World) (K : PySem.W.Frag) (mg : Str → Option Value) (base : Heap) (C CS : Addr) : Prop where
  ok : ∃ fe fd, EqO K CS fe ∧ FnOk P w K mg base CX0 3 fe fd ["self", "other"] (spEqS K C CS) ∧ Binds K fd ["self", "other"] []
  nf : PySem.W.notFirst K CS (.ref CS) = true
  nl : PySem.W.notFirst K CS (.type "list") = true
section
variable {X : Cx} {C CS CB : Addr}
theorem op_eqS (R : EqS X.prog X.w X.K X.mg X.base C CS) (hr : Room 3 X.A) : OpR X (compareOp .Eq) (rEqO X.K CS (spEqS X.K C CS) E0 false) := by
  obtain ⟨fe, fd, e, F, b⟩ := R.ok
  exact op_eqO F b pass0 hr e
theorem op_neS (R : EqS X.prog X.w X.K X.mg X.base C CS) (hr : Room 4 X.A) : OpR X (compareOp .NotEq) (rEqO X.K CS (spEqS X.K C CS) E0 true) := by
  obtain ⟨fe, fd, e, F, b⟩ := R.ok
  exact op_neO F b pass0 hr e
end
section
variable {P : Program} {w : World} {K : PySem.W.Frag} {mg : Str → Option Value} {base : Heap} {C CS CB : Addr}
theorem eqS_red {H : Hp} {a b : Addr} {rows rows' : List RowD} {z : Bool} {Q : VK} (T : TxR K C) (S : TxS K mg CS CB) (nf : PySem.W.notFirst K CS (.ref CS) = true) (h1 : SheetAt K C CS H a rows) (h2 : SheetAt K C CS H b rows') (g1 : GoodR rows) (g2 : GoodR rows')
    (k : ∀ H', Ext H H' → Q (.bl (z != decide (rows = rows'))) H') : rEqO K CS (spEqS K C CS) E0 z (.ref a) (.ref b) H Q := by
  obtain ⟨dx, _, _, e1, _⟩ := h1.ex
  obtain ⟨dx', _, _, e2, _⟩ := h2.ex
  exact ⟨a, dx, _, _, rfl, e1, .base (.ins e2 S.cl S.ha T.hn T.htk S.hm), nf, a, _, rows, rfl, h1, g1, .inl ⟨b, rows', rfl, h2, g2, fun H' e => ⟨_, rfl, k H' e⟩⟩⟩
theorem eqS_other {H : Hp} {a : Addr} {y : V} {t : Value} {rows : List RowD} {z : Bool} {Q : VK} (nl : PySem.W.notFirst K CS t = true) (hk : PySem.W.kitOne K t (.ref CS) = some false) (ty : TyX K H y t) (h1 : SheetAt K C CS H a rows) (g1 : GoodR rows)
    (k : Q (.bl (z != false)) H) : rEqO K CS (spEqS K C CS) E0 z (.ref a) y H Q := by
  obtain ⟨dx, _, _, e1, _⟩ := h1.ex
  exact ⟨a, dx, _, _, rfl, e1, ty, nl, a, _, rows, rfl, h1, g1, .inr ⟨_, ty, hk, _, rfl, k⟩⟩
theorem GoodR.app {rows rows' : List RowD} (h : GoodR rows) (h' : GoodR rows') : GoodR (rows ++ rows') := fun x hx => (List.mem_append.mp hx).elim (h x) (h' x)
theorem good_one {x : RowD} (h : Good x.1 x.2.1 x.2.2) : GoodR [x] := fun y hy => by rw [List.mem_singleton.mp hy]; exact h
end
end Pa
set_option maxRecDepth 100000
set_option maxHeartbeats 4000000
namespace Pa
open PySem PySem.Spec PyProof.Rows L2 RZ StX ClX
section
variable {X : Cx}
/-! ### xs[::e], e 1 or -1 -/
theorem pick_one (items : Array Value) : slicePick items none none (some 1) = slicePick items none none none := rfl
def tStepL (K : PySem.W.Frag) (te ts : TE) : TE := fun σ H Q => te σ H fun x H1 => tPart ts σ H1 fun o H2 => ∃ (a : Addr) (xs : List V) (b : Bool), x = .ref a ∧ o = some (if b = true then 1 else -1) ∧ SqL K H2 a xs ∧ ∀ p, H2 p = none → Q (.ref p) (upd H2 p (.lst (if b = true then xs else xs.reverse)))
theorem pe_stepL {e st : Expr} {te ts : TE} {p3 pos : Pos} (he : PE X e te) (hs : PE X st ts) : PE X (.Subscript e (.Slice none none (some st) p3) pos) (tStepL X.K te ts) := by
  refine ⟨fun pins s σ H Q I h => ?_⟩
  refine Subscript_ (thn (he.run pins s σ H _ I h) fun v s1 ⟨x, H1, I1, r1, q1⟩ => ?_)
  have hst : PO X (some st) (tPart ts) := po_some hs
  refine wpAny_Slice (thn (po_none.run pins s1 σ H1 (fun o H2 => o = none ∧ H2 = H1) I1 ⟨rfl, rfl⟩) fun vl s2 ⟨l, H2, I2, pl, el, e2⟩ => ?_)
  subst el e2
  refine thn (po_none.run pins s2 σ H2 (fun o H3 => o = none ∧ H3 = H2) I2 ⟨rfl, rfl⟩) fun vu s3 ⟨u, H3, I3, pu, eu, e3⟩ => ?_
  subst eu e3
  refine thn (hst.run pins s3 σ H3 _ I3 q1) fun vs s4 ⟨o, H4, I4, ps, q2⟩ => ?_
  obtain ⟨a, xs, b, ex, eo, hx, q⟩ := q2
  subst ex eo
  cases r1
  have I5 : Inv X pins σ H4 { s4 with heap := s4.heap.push { cls := .type "slice", data := .fields #[vl, vu, vs] } } := I4.kept (t' := s4.toks) fun b ob q => Heap.get?_push_of_some _ q
  obtain ⟨its, r, ht, hz⟩ := I5.list hx
  have hlen := r.length
  show wpAny (model X.prog X.w) X.A (subscriptTail e (.Slice none none (some st) p3) (.ref a) (.ref s4.heap.objs.size)) (EP X pins σ Q) X.xe { s4 with heap := s4.heap.push { cls := .type "slice", data := .fields #[vl, vu, vs] } }
  refine tail_any (ops := [.ref a, .ref s4.heap.objs.size]) ht.isList.typeIs (PySem.slot_list_getitem.lookup) ?_ (by with_unfolding_all rfl)
  cases b with
  | false =>
    refine wpAny_getItem_list_slice ht.isList (Heap.IsSliceOf.new _ vl vu vs) pl pu ps (by decide) ?_ (by rw [List.size_toArray]; omega)
    rw [show (if false = true then (1 : Int) else -1) = -1 from rfl, PySem.W.krv_pick]
    refine ⟨.ref _, _, I5.laid (t' := s4.toks) (o := .lst xs.reverse) (fun b ob q => Heap.get?_push_of_some _ q) (Nat.le_refl _) ?_, rfl, q _ (I5.hok.fresh (Nat.le_refl _))⟩
    exact ⟨by rw [List.length_reverse]; exact hz, _, 0, r.reverse, Heap.get?_push_size _ rfl⟩
  | true =>
    refine wpAny_getItem_list_slice ht.isList (Heap.IsSliceOf.new _ vl vu vs) pl pu ps (by decide) ?_ (by rw [List.size_toArray]; omega)
    rw [show (if true = true then (1 : Int) else -1) = 1 from rfl, pick_one]
    rw [slicePick_cut, ← hlen]
    have ec : cutV xs none none = xs := by
      unfold cutV
      rw [HT.sIx_none, HT.sIx_none]
      simp
    rw [show (if true = true then xs else xs.reverse) = cutV xs none none from ec.symm] at q
    refine ⟨.ref _, _, I5.laid (t' := s4.toks) (o := .lst (cutV xs none none)) (fun b ob q => Heap.get?_push_of_some _ q) (Nat.le_refl _) ?_, rfl, q _ (I5.hok.fresh (Nat.le_refl _))⟩
    exact ⟨Nat.le_trans (cutV_length xs none none) hz, _, 0, (r.drop (HT.sIx xs.length 0 none)).take (HT.sIx xs.length xs.length none - HT.sIx xs.length 0 none), Heap.get?_push_size _ rfl⟩
end
/-! ### rules and rows beside lists that change -/
theorem RuleAt.lst {K : PySem.W.Frag} {C : Addr} {H : Hp} {a p : Addr} {wt : Int} {ps : List Str} {sets : List (Str × V)} {xs : List V} {o : HO} (h : RuleAt K C H a wt ps sets) (hp : H p = some (.lst xs)) : RuleAt K C (upd H p o) a wt ps sets := by
  obtain ⟨dx, pt, st, rs, h1, h2, h3, h4⟩ := h.ex
  exact ⟨dx, pt, st, rs, by rw [upd_ne (fun q => by rw [q, hp] at h1; cases h1)]; exact h1, sqt_upd h2 hp (fun _ q => nomatch q) (fun _ _ q => nomatch q), sqt_upd h3 hp (fun _ q => nomatch q) (fun _ _ q => nomatch q), sets_upd h4 hp (fun _ q => nomatch q) (fun _ _ q => nomatch q)⟩
theorem RowAt.lst {K : PySem.W.Frag} {H : Hp} {r p : Addr} {wt : Int} {ps : List Str} {sets : List (Str × V)} {xs : List V} {o : HO} (h : RowAt K H r wt ps sets) (hp : H p = some (.lst xs)) : RowAt K (upd H p o) r wt ps sets := by
  obtain ⟨pt, st, rs, h1, h2, h3, h4⟩ := h.ex
  exact ⟨pt, st, rs, sqt_upd h1 hp (fun _ q => nomatch q) (fun _ _ q => nomatch q), sqt_upd h2 hp (fun _ q => nomatch q) (fun _ _ q => nomatch q), sqt_upd h3 hp (fun _ q => nomatch q) (fun _ _ q => nomatch q), sets_upd h4 hp (fun _ q => nomatch q) (fun _ _ q => nomatch q)⟩
theorem eqv_self {d : PyData} (h : SeqAt.shaped d = true) : PyData.eqv d d = true := SeqAt.eqv_refl d (SeqAt.canLay_of_shaped h)
theorem pe_fldK {X : Cx} {K0 : PySem.W.Frag} {e : Expr} {f : Str} {pos : Pos} {ta : TE} (hK : X.K = K0) (he : PE X e ta) (hb : attributeBase e f X.env (eval e X.env) = eval e X.env := by rfl) : PE X (.Attribute e f pos) (tFld K0 ta f) := by
  subst hK
  exact pe_fld he hb
theorem RulesAt.lst {K : PySem.W.Frag} {C : Addr} {H : Hp} {p : Addr} {xs : List V} {o : HO} {rs : List Addr} {rows : List RowD} (h : RulesAt K C H rs rows) (hp : H p = some (.lst xs)) : RulesAt K C (upd H p o) rs rows := by
  unfold RulesAt at *
  induction h with
  | nil => exact .nil
  | cons a _ ih => exact .cons (RuleAt.lst a hp) ih
theorem SheetAt.lst {K : PySem.W.Frag} {C CS : Addr} {H : Hp} {a p : Addr} {xs : List V} {o : HO} {rows : List RowD} (h : SheetAt K C CS H a rows) (hp : H p = some (.lst xs)) : SheetAt K C CS (upd H p o) a rows := by
  obtain ⟨dx, t, rs, h1, h2, h3⟩ := h.ex
  exact ⟨dx, t, rs, by rw [upd_ne (fun q => by rw [q, hp] at h1; cases h1)]; exact h1, sqt_upd h2 hp (fun _ q => nomatch q) (fun _ _ q => nomatch q), h3.lst hp⟩
theorem RowsL.lst {K : PySem.W.Frag} {H : Hp} {l p : Addr} {xs : List V} {o : HO} {rows : List RowD} (h : RowsL K H l rows) (hp : H p = some (.lst xs)) (hn : l ≠ p) : RowsL K (upd H p o) l rows := by
  obtain ⟨ps, h1, h2⟩ := h
  exact ⟨ps, by rw [upd_ne hn]; exact h1, h2.lst hp⟩
/-! ### rows as data, told whole -/
def setD (x : RowD) : PyData := .tuple (x.2.2.map pairD)
def patD (x : RowD) : PyData := .tuple (x.2.1.map PyData.str)
def rowD (x : RowD) : PyData := .tuple [.int x.1, patD x, setD x]
theorem setD_lay {x : RowD} (g : Good x.1 x.2.1 x.2.2) : (setD x).canLay0 = true ∧ (setD x).depth ≤ 3 := by
  unfold setD
  refine ⟨?_, ?_⟩
  · rw [PyData.canLay0, can_all fun y hy => (pair_lay (g.ok y hy)).1]
  · rw [PyData.depth]
    have := dep_all (n := 2) fun y hy => (pair_lay (g.ok y hy)).2
    omega
theorem patD_lay {x : RowD} (g : Good x.1 x.2.1 x.2.2) : (patD x).canLay0 = true ∧ (patD x).depth ≤ 3 := by
  unfold patD
  refine ⟨?_, ?_⟩
  · rw [PyData.canLay0, can_all fun y hy => (pat_all g.ps y hy).1]
  · rw [PyData.depth]
    have := dep_all (n := 2) fun y hy => (pat_all g.ps y hy).2
    omega
theorem rowD_lay {x : RowD} (g : Good x.1 x.2.1 x.2.2) : (rowD x).canLay0 = true ∧ (rowD x).depth ≤ 4 := by
  obtain ⟨h1, h2⟩ := setD_lay g
  obtain ⟨h3, h4⟩ := patD_lay g
  unfold rowD
  refine ⟨?_, ?_⟩
  · rw [PyData.canLay0, PyData.canLayAll0, PyData.canLayAll0, PyData.canLayAll0, PyData.canLayAll0, h1, h3, PyData.canLay0]
    rfl
  · rw [PyData.depth, PyData.depthAll, PyData.depthAll, PyData.depthAll, PyData.depthAll, PyData.depth]
    omega
theorem sh_many {f : RowD → PyData} {rows : List RowD} (h : ∀ x ∈ rows, (f x).canLay0 = true ∧ (f x).depth ≤ 4) : SeqAt.shaped (.list (rows.map f)) = true := by
  unfold SeqAt.shaped
  rw [PyData.canLay0, can_all fun x hx => (h x hx).1, PyData.depth]
  have := dep_all (n := 4) fun x hx => (h x hx).2
  simp only [Bool.true_and, decide_eq_true_eq]
  omega
theorem row_dp {K : PySem.W.Frag} {H : Hp} {p : Addr} {x : RowD} (h : RowAt K H p x.1 x.2.1 x.2.2) (g : Good x.1 x.2.1 x.2.2) : Dp K H (.ref p) (rowD x) := by
  obtain ⟨pt, st, rs, h1, h2, h3, h4⟩ := h.ex
  exact .tup h1 (.cons (.int x.1) (.cons (.tup h2 (dp_strs _)) (.cons (.tup h3 (dp_sets h4 g.ok)) .nil)))
theorem rows_dp {K : PySem.W.Frag} {H : Hp} {ps : List Addr} {rows : List RowD} (h : RowsAt K H ps rows) (g : GoodR rows) : DpAll K H (ps.map V.ref) (rows.map rowD) := by
  unfold RowsAt at h
  induction h with
  | nil => exact .nil
  | @cons p x _ _ a _ ih => exact .cons (row_dp a (g x List.mem_cons_self)) (ih fun y hy => g y (List.mem_cons_of_mem _ hy))
theorem each_dp {K : PySem.W.Frag} {H : Hp} {f : RowD → PyData} {ps : List Addr} {rows : List RowD} (h : Paired (fun p x => Dp K H (.ref p) (f x)) ps rows) : DpAll K H (ps.map V.ref) (rows.map f) := by
  induction h with
  | nil => exact .nil
  | cons a _ ih => exact .cons a ih
/-- the walk over a sheet -/
structure IterS (P : Program) (w : World) (K : PySem.W.Frag) (mg : Str → Option Value) (base : Heap) (CS f : Addr) (fd : FuncData) : Prop where
  it : IterO K CS f
  bi : Binds K fd ["self"] []
  fn : FnS P w K mg base 1 f fd ["self"] (spIter fun a t H => RulesOf CS a t H ∧ ∃ ys, SqT K H t ys)
end Pa
set_option maxRecDepth 100000
set_option maxHeartbeats 4000000
namespace Pa
open PySem PySem.Spec PyProof.Rows L2 RZ StX ClX
/-! ### a list of parts, one of each item -/
theorem parts_tup {K : PySem.W.Frag} {t : Addr} {xs : List V} {σ : L2.St} {H : Hp} {ti : TI} {j : Nat} {te : TE} {Q : VK} (Rel : Nat → Addr → Prop) (ht : SqT K H t xs) (hl : xs.length ≤ 10) (hti : ∀ W : It → Hp → Prop, W (Itt K t) H → ti σ H W) (hw : ∀ v, wipe ((wipe σ [j]).set j (some v)) [j] = wipe σ [j])
    (hte : ∀ i v H', xs[i]? = some v → Ext H H' → ∃ p, Rel i p ∧ ∀ R : VK, R (.ref p) H' → te ((wipe σ [j]).set j (some v)) H' R)
    (k : ∀ (D : Addr) (ps : List Addr) H', H D = none → Ext H H' → H' D = some (.lst (ps.map V.ref)) → ps.length = xs.length → (∀ i p, ps[i]? = some p → Rel i p) → Q (.ref D) H') : tLc ti (gName j) tYes te [j] σ H Q := by
  refine hti _ fun D hD => ?_
  refine lc_tup (xs := xs) (fun i H' => (∀ q u, q ≠ D → H q = some u → H' q = some u) ∧ ∃ ps : List Addr, H' D = some (.lst (ps.map V.ref)) ∧ ps.length = i ∧ ∀ m p, ps[m]? = some p → Rel m p)
    ⟨fun q u hq e => by rw [upd_ne hq]; exact e, [], upd_same, rfl, fun m p h => by simp at h⟩ (fun i H' _ h => ht.ext fun q u e => h.1 q u (ne_of_none e hD) e) (fun i v H' hv h => ?_) (fun H' h => ?_)
  · obtain ⟨k1, ps, k2, k3, k4⟩ := h
    have ex : Ext H H' := fun q u e => k1 q u (ne_of_none e hD) e
    have hi := (List.getElem?_eq_some_iff.mp hv).1
    obtain ⟨p, hp, hR⟩ := hte i v H' hv ex
    refine ⟨hw v, hR _ ⟨_, k2, ?_, fun q u hq e => ?_, ps ++ [p], ?_, ?_, fun m z hm => ?_⟩⟩
    · rw [List.length_map, k3]
      exact Nat.lt_of_lt_of_le (by omega : i < 1000) (by decide)
    · rw [upd_ne hq]
      exact k1 q u hq e
    · rw [upd_same, List.map_append]
      rfl
    · rw [List.length_append, List.length_singleton, k3]
    · by_cases q : m < ps.length
      · rw [List.getElem?_append_left q] at hm
        exact k4 m z hm
      · rw [List.getElem?_append_right (by omega)] at hm
        have hm0 : m - ps.length = 0 := by
          by_cases w : m - ps.length = 0
          · exact w
          · rw [List.getElem?_eq_none (by rw [List.length_singleton]; omega)] at hm
            cases hm
        rw [hm0] at hm
        cases hm
        have : m = i := by omega
        rw [this]
        exact hp
  · obtain ⟨k1, ps, k2, k3, k4⟩ := h
    exact k D ps H' hD (fun q u e => k1 q u (ne_of_none e hD) e) k2 k3 k4
theorem parts_list {K : PySem.W.Frag} {t : Addr} {xs : List V} {σ : L2.St} {H : Hp} {ti : TI} {j : Nat} {te : TE} {Q : VK} (Rel : Nat → Addr → Prop) (ht : SqL K H t xs) (hl : xs.length ≤ 10) (hti : ∀ W : It → Hp → Prop, W (Itl K t) H → ti σ H W) (hw : ∀ v, wipe ((wipe σ [j]).set j (some v)) [j] = wipe σ [j])
    (hte : ∀ i v H', xs[i]? = some v → Ext H H' → ∃ p, Rel i p ∧ ∀ R : VK, R (.ref p) H' → te ((wipe σ [j]).set j (some v)) H' R)
    (k : ∀ (D : Addr) (ps : List Addr) H', H D = none → Ext H H' → H' D = some (.lst (ps.map V.ref)) → ps.length = xs.length → (∀ i p, ps[i]? = some p → Rel i p) → Q (.ref D) H') : tLc ti (gName j) tYes te [j] σ H Q := by
  refine hti _ fun D hD => ?_
  refine lc_list (xs := xs) (fun i H' => (∀ q u, q ≠ D → H q = some u → H' q = some u) ∧ ∃ ps : List Addr, H' D = some (.lst (ps.map V.ref)) ∧ ps.length = i ∧ ∀ m p, ps[m]? = some p → Rel m p)
    ⟨fun q u hq e => by rw [upd_ne hq]; exact e, [], upd_same, rfl, fun m p h => by simp at h⟩ (fun i H' _ h => ht.ext fun q u e => h.1 q u (ne_of_none e hD) e) (fun i v H' hv h => ?_) (fun H' h => ?_)
  · obtain ⟨k1, ps, k2, k3, k4⟩ := h
    have ex : Ext H H' := fun q u e => k1 q u (ne_of_none e hD) e
    have hi := (List.getElem?_eq_some_iff.mp hv).1
    obtain ⟨p, hp, hR⟩ := hte i v H' hv ex
    refine ⟨hw v, hR _ ⟨_, k2, ?_, fun q u hq e => ?_, ps ++ [p], ?_, ?_, fun m z hm => ?_⟩⟩
    · rw [List.length_map, k3]
      exact Nat.lt_of_lt_of_le (by omega : i < 1000) (by decide)
    · rw [upd_ne hq]
      exact k1 q u hq e
    · rw [upd_same, List.map_append]
      rfl
    · rw [List.length_append, List.length_singleton, k3]
    · by_cases q : m < ps.length
      · rw [List.getElem?_append_left q] at hm
        exact k4 m z hm
      · rw [List.getElem?_append_right (by omega)] at hm
        have hm0 : m - ps.length = 0 := by
          by_cases w : m - ps.length = 0
          · exact w
          · rw [List.getElem?_eq_none (by rw [List.length_singleton]; omega)] at hm
            cases hm
        rw [hm0] at hm
        cases hm
        have : m = i := by omega
        rw [this]
        exact hp
  · obtain ⟨k1, ps, k2, k3, k4⟩ := h
    exact k D ps H' hD (fun q u e => k1 q u (ne_of_none e hD) e) k2 k3 k4
theorem dp_by {K : PySem.W.Frag} {H : Hp} {f : RowD → PyData} : ∀ {ps : List Addr} {rows : List RowD}, ps.length = rows.length → (∀ (i : Nat) p x, ps[i]? = some p → rows[i]? = some x → Dp K H (.ref p) (f x)) → DpAll K H (ps.map V.ref) (rows.map f)
  | [], [], _, _ => .nil
  | [], _ :: _, h, _ => nomatch h
  | _ :: _, [], h, _ => nomatch h
  | p :: ps, x :: rows, h, k => .cons (k 0 p x rfl rfl) (dp_by (Nat.succ.inj h) fun i q y hq hy => k (i + 1) q y hq hy)
/-- settings and patterns, where they stand -/
def SetsAt (K : PySem.W.Frag) (H : Hp) (p : Addr) (x : RowD) : Prop := ∃ rs, SqT K H p (rs.map V.ref) ∧ Sets K H rs x.2.2
theorem SetsAt.ext {K : PySem.W.Frag} {H H' : Hp} {p : Addr} {x : RowD} (h : SetsAt K H p x) (e : Ext H H') : SetsAt K H' p x := by
  obtain ⟨rs, h1, h2⟩ := h
  exact ⟨rs, h1.ext e, h2.ext e⟩
theorem SetsAt.dp {K : PySem.W.Frag} {H : Hp} {p : Addr} {x : RowD} (h : SetsAt K H p x) (g : Good x.1 x.2.1 x.2.2) : Dp K H (.ref p) (setD x) := by
  obtain ⟨rs, h1, h2⟩ := h
  exact .tup h1 (dp_sets h2 g.ok)
def PatAt (K : PySem.W.Frag) (H : Hp) (p : Addr) (x : RowD) : Prop := SqT K H p (x.2.1.map V.str)
theorem PatAt.dp {K : PySem.W.Frag} {H : Hp} {p : Addr} {x : RowD} (h : PatAt K H p x) : Dp K H (.ref p) (patD x) := .tup h (dp_strs _)
/-- two such lists, told alike -/
theorem parts_ne {K : PySem.W.Frag} {H : Hp} {f : RowD → PyData} {D1 D2 : Addr} {ps qs : List Addr} {rows : List RowD} {Q : VK} (h1 : H D1 = some (.lst (ps.map V.ref))) (h2 : H D2 = some (.lst (qs.map V.ref))) (l1 : ps.length = rows.length) (l2 : qs.length = rows.length) (hf : ∀ x ∈ rows, (f x).canLay0 = true ∧ (f x).depth ≤ 4)
    (d1 : ∀ (i : Nat) p x, ps[i]? = some p → rows[i]? = some x → Dp K H (.ref p) (f x)) (d2 : ∀ (i : Nat) p x, qs[i]? = some p → rows[i]? = some x → Dp K H (.ref p) (f x)) (k : Q (.bl false) H) : rNeD K (.ref D1) (.ref D2) H Q :=
  ⟨_, _, .lst (SqL.of h1) (dp_by l1 d1), .lst (SqL.of h2) (dp_by l2 d2), sh_many hf, sh_many hf, by rw [eqv_self (sh_many hf)]; exact k⟩
end Pa
set_option maxRecDepth 100000
set_option maxHeartbeats 4000000
/-! lines of rules: parts, ranks, and what is read of them -/
namespace Pa
open PySem PySem.Spec PyProof.Rows L2 RZ StX
/-! ### joined and cut again -/
def jl (c : Nat) : List (List Nat) → List Nat
  | [] => []
  | [x] => x
  | x :: y :: r => x ++ c :: jl c (y :: r)
theorem jl_join (c : Nat) : ∀ ps : List Str, (Str.join ⟨#[c]⟩ ps).cps.toList = jl c (ps.map fun p => p.cps.toList)
  | [] => rfl
  | [p] => rfl
  | p :: q :: r => by
    have ih := jl_join c (q :: r)
    show ((p ++ ⟨#[c]⟩ ++ Str.join ⟨#[c]⟩ (q :: r)).cps).toList = _
    rw [Str.cps_append, Str.cps_append, Array.toList_append, Array.toList_append, ih]
    show p.cps.toList ++ [c] ++ _ = _
    rw [List.append_assoc]
    rfl
theorem cut_head {c : Nat} : ∀ {x y a b : List Nat}, c ∉ x → c ∉ y → x ++ c :: a = y ++ c :: b → x = y ∧ a = b
  | [], [], _, _, _, _, h => ⟨rfl, (List.cons.inj h).2⟩
  | [], z :: y, _, _, _, hy, h => absurd (List.cons.inj h).1 fun q => hy (by rw [q]; exact List.mem_cons_self)
  | z :: x, [], _, _, hx, _, h => absurd (List.cons.inj h).1 fun q => hx (by rw [← q]; exact List.mem_cons_self)
  | z :: x, w :: y, _, _, hx, hy, h => by
    obtain ⟨h1, h2⟩ := List.cons.inj h
    obtain ⟨e1, e2⟩ := cut_head (fun q => hx (List.mem_cons_of_mem _ q)) (fun q => hy (List.mem_cons_of_mem _ q)) h2
    exact ⟨by rw [h1, e1], e2⟩
theorem jl_inj {c : Nat} : ∀ {ps qs : List (List Nat)}, ps ≠ [] → qs ≠ [] → (∀ p ∈ ps, c ∉ p) → (∀ q ∈ qs, c ∉ q) → jl c ps = jl c qs → ps = qs
  | [], _, h, _, _, _, _ => absurd rfl h
  | _, [], _, h, _, _, _ => absurd rfl h
  | [p], [q], _, _, _, _, h => by
    have : p = q := h
    rw [this]
  | [p], q :: r :: t, _, _, hp, _, h => absurd (show c ∈ p by
      have : p = q ++ c :: jl c (r :: t) := h
      rw [this]
      exact List.mem_append_right _ List.mem_cons_self) (hp p List.mem_cons_self)
  | p :: s :: u, [q], _, _, _, hq, h => absurd (show c ∈ q by
      have : p ++ c :: jl c (s :: u) = q := h
      rw [← this]
      exact List.mem_append_right _ List.mem_cons_self) (hq q List.mem_cons_self)
  | p :: s :: u, q :: r :: t, _, _, hp, hq, h => by
    obtain ⟨e1, e2⟩ := cut_head (hp p List.mem_cons_self) (hq q List.mem_cons_self) (show p ++ c :: jl c (s :: u) = q ++ c :: jl c (r :: t) from h)
    rw [e1, jl_inj (by simp) (by simp) (fun x hx => hp x (List.mem_cons_of_mem _ hx)) (fun x hx => hq x (List.mem_cons_of_mem _ hx)) e2]
theorem txt_join (sep : Str) (ps : List Str) : Txt.join sep ps = Str.join sep ps := StrLaws.glued_eq_join sep ps
theorem split_ne (x y : Str) : Txt.split x y ≠ [] := fun h => by
  have := split_pos x y
  rw [h] at this
  cases this
theorem strs_cps {ps qs : List Str} (h : ps.map (fun p => p.cps.toList) = qs.map fun p => p.cps.toList) : ps = qs := by
  have inj : ∀ {a b : Str}, a.cps.toList = b.cps.toList → a = b := fun h => Str.ext' (Array.toList_inj.mp h)
  have : ∀ (ps qs : List Str), ps.map (fun p => p.cps.toList) = qs.map (fun p => p.cps.toList) → ps = qs := by
    intro ps
    induction ps with
    | nil => intro qs h; cases qs with
      | nil => rfl
      | cons q qs => cases h
    | cons p ps ih => intro qs h; cases qs with
      | nil => cases h
      | cons q qs =>
        simp only [List.map_cons, List.cons.injEq] at h
        rw [inj h.1, ih qs h.2]
  exact this ps qs h
/-- parts without the sign, joined and cut again -/
theorem split_join {c : Nat} {ps : List Str} (hne : ps ≠ []) (hf : ∀ p ∈ ps, c ∉ p.cps.toList) : Txt.split (Txt.join ⟨#[c]⟩ ps) ⟨#[c]⟩ = ps := by
  refine strs_cps (jl_inj (c := c) (fun h => split_ne _ _ (List.map_eq_nil_iff.mp h)) (fun h => hne (List.map_eq_nil_iff.mp h)) ?_ ?_ ?_)
  · intro p hp
    obtain ⟨q, hq, rfl⟩ := List.mem_map.mp hp
    exact StrLaws.split_free _ c q hq
  · intro p hp
    obtain ⟨q, hq, rfl⟩ := List.mem_map.mp hp
    exact hf q hq
  · rw [← jl_join, ← jl_join, StrLaws.join_split, txt_join]
theorem jl_flat {c : Nat} (f : List Nat → List (List Nat)) (hf : ∀ x, f x ≠ [] ∧ jl c (f x) = x) : ∀ ps : List (List Nat), jl c (ps.flatMap f) = jl c ps
  | [] => rfl
  | [x] => by
    show jl c (f x ++ []) = x
    rw [List.append_nil]
    exact (hf x).2
  | x :: y :: r => by
    have ih := jl_flat f hf (y :: r)
    have app : ∀ (u v : List (List Nat)), u ≠ [] → v ≠ [] → jl c (u ++ v) = jl c u ++ c :: jl c v := by
      intro u
      induction u with
      | nil => intro v h _; exact absurd rfl h
      | cons a u ih2 =>
        intro v _ hv
        cases u with
        | nil =>
          cases v with
          | nil => exact absurd rfl hv
          | cons b v => rfl
        | cons b u =>
          show a ++ c :: jl c (b :: u ++ v) = (a ++ c :: jl c (b :: u)) ++ c :: jl c v
          rw [ih2 v (by simp) hv, List.append_assoc]
          rfl
    have hne : (y :: r).flatMap f ≠ [] := by
      rw [List.flatMap_cons]
      exact fun q => (hf y).1 (List.append_eq_nil_iff.mp q).1
    rw [List.flatMap_cons, app _ _ (hf x).1 hne, (hf x).2, ih]
    rfl
/-- parts, joined and cut again -/
theorem split_flat {c : Nat} {ps : List Str} (hne : ps ≠ []) : Txt.split (Txt.join ⟨#[c]⟩ ps) ⟨#[c]⟩ = ps.flatMap fun p => Txt.split p ⟨#[c]⟩ := by
  have e : Txt.join ⟨#[c]⟩ ps = Txt.join ⟨#[c]⟩ (ps.flatMap fun p => Txt.split p ⟨#[c]⟩) := by
    have hg : ∀ x : List Nat, ((Txt.split ⟨x.toArray⟩ ⟨#[c]⟩).map fun p => p.cps.toList) ≠ [] ∧ jl c ((Txt.split ⟨x.toArray⟩ ⟨#[c]⟩).map fun p => p.cps.toList) = x := fun x => by
      refine ⟨fun h => split_ne _ _ (List.map_eq_nil_iff.mp h), ?_⟩
      rw [← jl_join, StrLaws.join_split]
    refine Str.ext' (Array.toList_inj.mp ?_)
    rw [txt_join, txt_join, jl_join, jl_join, List.map_flatMap]
    have := jl_flat (c := c) _ hg (ps.map fun p => p.cps.toList)
    rw [← this, List.flatMap_map]
  rw [e]
  refine split_join (fun h => ?_) fun p hp => ?_
  · cases ps with
    | nil => exact hne rfl
    | cons x ps =>
      rw [List.flatMap_cons] at h
      exact split_ne _ _ (List.append_eq_nil_iff.mp h).1
  · obtain ⟨q, _, h⟩ := List.mem_flatMap.mp hp
    exact StrLaws.split_free _ c p h
end Pa
set_option maxRecDepth 100000
set_option maxHeartbeats 4000000
namespace Pa
open PySem PySem.Spec PyProof.Rows L2 RZ StX
/-! ### the parts of a line -/
abbrev PairD := Str × V
def valT : V → Str
  | .bl b => if b then "yes" else "no"
  | .int i => toString i
  | .str s => s
  | _ => ""
def tokT (t : PairD) : Str := t.1 ++ "=" ++ valT t.2
def askedP : List PairD := [("kind", .str "A"), ("kind", .str "B"), ("kind", .str "C"), ("mark", .str "x"), ("mark", .str "y"), ("parent", .str "A"), ("parent", .str "B"), ("parent", .str "C"), ("above", .str "x"), ("above", .str "y"), ("elder", .str "A"), ("elder", .str "B"), ("elder", .str "C")]
def toldP : List PairD := [("face", .int 0), ("face", .int 1), ("measure", .int 1), ("measure", .int 2), ("measure", .int 3), ("measure", .int 4), ("measure", .int 5), ("measure", .int 6), ("space", .int 0), ("space", .int 1), ("space", .int 2),
  ("kept", .bl false), ("kept", .bl true), ("page", .bl false), ("page", .bl true), ("out", .bl false), ("out", .bl true)]
def idxP (ps : List PairD) (n : Str) : Nat := (ps.map (·.1)).idxOf n
def foundG (ps : List PairD) : List Str → List PairD → Int → Option (List PairD)
  | [], acc, _ => some acc
  | p :: r, acc, l => match ps.filter fun t => decide (tokT t = p) with
    | [] => none
    | t :: _ => if (idxP ps t.1 : Int) ≤ l then none else foundG ps r (acc ++ [t]) (idxP ps t.1)
def digT (w : Nat) : Str := toString (w : Int)
def weightF (ps : List Str) : Option Nat := (List.range 10).find? fun w => decide (ps = [digT w])
def fieldsP (parts : List Str) : Option (Nat × List PairD × List PairD) :=
  if (":" : Str) ∈ parts then
    match weightF (parts.take 1), foundG askedP ((parts.take (parts.idxOf (":" : Str))).drop 1) [] (-1), foundG toldP (parts.drop (parts.idxOf (":" : Str) + 1)) [] (-1) with
    | some w, some a, some (t :: r) => some (w, a, t :: r)
    | _, _, _ => none
  else none
/-! ### ranks -/
def rk (p : Str) : Nat :=
  if p ∈ (List.range 10).map digT then 1 else if p = ":" then 100 else
  match askedP.find? fun t => decide (tokT t = p) with
  | some t => 2 + idxP askedP t.1
  | none => match toldP.find? fun t => decide (tokT t = p) with
    | some t => 101 + idxP toldP t.1
    | none => 0
theorem rk_dig : ∀ w ∈ List.range 10, rk (digT w) = 1 := by decide +kernel
theorem rk_ask : ∀ t ∈ askedP, rk (tokT t) = 2 + idxP askedP t.1 ∧ idxP askedP t.1 < 50 := by decide +kernel
theorem rk_told : ∀ t ∈ toldP, rk (tokT t) = 101 + idxP toldP t.1 := by decide +kernel
theorem rk_col : rk ":" = 100 := by decide +kernel
theorem one_ask : ∀ t ∈ askedP, (askedP.filter fun u => decide (tokT u = tokT t)) = [t] := by decide +kernel
theorem one_told : ∀ t ∈ toldP, (toldP.filter fun u => decide (tokT u = tokT t)) = [t] := by decide +kernel
/-- names that come later and later -/
def IncP (ps : List PairD) : Int → List PairD → Prop
  | _, [] => True
  | l, t :: r => l < (idxP ps t.1 : Int) ∧ IncP ps (idxP ps t.1) r
theorem found_inv {ps : List PairD} : ∀ {xs : List Str} {acc : List PairD} {l : Int} {r : List PairD}, foundG ps xs acc l = some r → ∃ sel, xs = sel.map tokT ∧ (∀ t ∈ sel, t ∈ ps) ∧ IncP ps l sel ∧ r = acc ++ sel
  | [], acc, l, r, h => ⟨[], rfl, (fun _ h => nomatch h), True.intro, by rw [foundG] at h; rw [List.append_nil]; exact (Option.some.inj h).symm⟩
  | x :: xs, acc, l, r, h => by
    rw [foundG] at h
    cases hf : ps.filter fun t => decide (tokT t = x) with
    | nil => rw [hf] at h; cases h
    | cons t u =>
      rw [hf] at h
      simp only at h
      have hm : t ∈ ps.filter fun t => decide (tokT t = x) := by rw [hf]; exact List.mem_cons_self
      obtain ⟨hm, ht⟩ := List.mem_filter.mp hm
      by_cases hl : (idxP ps t.1 : Int) ≤ l
      · rw [if_pos hl] at h; cases h
      · rw [if_neg hl] at h
        obtain ⟨sel, e1, e2, e3, e4⟩ := found_inv h
        refine ⟨t :: sel, ?_, fun u hu => ?_, ⟨by omega, e3⟩, ?_⟩
        · rw [List.map_cons, ← e1, of_decide_eq_true ht]
        · rcases List.mem_cons.mp hu with rfl | hu
          · exact hm
          · exact e2 u hu
        · rw [e4, List.append_assoc]
          rfl
theorem found_sel {ps : List PairD} (one : ∀ t ∈ ps, (ps.filter fun u => decide (tokT u = tokT t)) = [t]) : ∀ {sel : List PairD} {acc : List PairD} {l : Int}, (∀ t ∈ sel, t ∈ ps) → IncP ps l sel → foundG ps (sel.map tokT) acc l = some (acc ++ sel)
  | [], acc, l, _, _ => by rw [List.map_nil, foundG, List.append_nil]
  | t :: sel, acc, l, hm, hi => by
    rw [List.map_cons, foundG, one t (hm t List.mem_cons_self)]
    simp only
    rw [if_neg (by have := hi.1; omega), found_sel one (fun u hu => hm u (List.mem_cons_of_mem _ hu)) hi.2, List.append_assoc]
    rfl
theorem weight_inv {ps : List Str} {w : Nat} (h : weightF ps = some w) : w < 10 ∧ ps = [digT w] := by
  have h1 := List.mem_of_find?_eq_some h
  have h2 := List.find?_some h
  exact ⟨List.mem_range.mp h1, of_decide_eq_true h2⟩
theorem weight_dig : ∀ w ∈ List.range 10, weightF [digT w] = some w := by decide +kernel
theorem inc_ranks {ps : List PairD} {b : Nat} (hr : ∀ t ∈ ps, rk (tokT t) = b + idxP ps t.1) : ∀ {sel : List PairD} {l : Int}, (∀ t ∈ sel, t ∈ ps) → IncP ps l sel → ((sel.map tokT).map rk).Pairwise (· < ·) ∧ ∀ r ∈ (sel.map tokT).map rk, (b : Int) + l < r ∧ b ≤ r
  | [], _, _, _ => ⟨.nil, fun _ h => nomatch h⟩
  | t :: sel, l, hm, hi => by
    obtain ⟨h1, h2⟩ := inc_ranks hr (fun u hu => hm u (List.mem_cons_of_mem _ hu)) hi.2
    have h0 := hr t (hm t List.mem_cons_self)
    have hl := hi.1
    refine ⟨.cons (fun r hr' => ?_) h1, fun r hr' => ?_⟩
    · have := (h2 r hr').1
      rw [h0]
      omega
    · rcases List.mem_cons.mp hr' with rfl | hr'
      · rw [h0]
        omega
      · have := h2 r hr'
        omega
/-- parts that are the line of a rule -/
structure Lawful (parts : List Str) : Prop where
  inc : (parts.map rk).Pairwise (· < ·)
  pos : ∀ p ∈ parts, 0 < rk p
  col : (":" : Str) ∈ parts
  told : ∃ p ∈ parts, 100 < rk p
theorem lawful_of {parts : List Str} {r : Nat × List PairD × List PairD} (h : fieldsP parts = some r) : Lawful parts := by
  unfold fieldsP at h
  by_cases hc : (":" : Str) ∈ parts
  · rw [if_pos hc] at h
    have hlt := List.idxOf_lt_length_of_mem hc
    have hat : parts[parts.idxOf (":" : Str)]'hlt = ":" := List.getElem_idxOf hlt
    have hsplit : parts = parts.take (parts.idxOf (":" : Str)) ++ (":" : Str) :: parts.drop (parts.idxOf (":" : Str) + 1) := by
      have h1 := (List.take_append_drop (parts.idxOf (":" : Str)) parts).symm
      rw [List.drop_eq_getElem_cons hlt, hat] at h1
      exact h1
    cases hw : weightF (parts.take 1) with
    | none => rw [hw] at h; cases h
    | some w =>
      cases ha : foundG askedP ((parts.take (parts.idxOf (":" : Str))).drop 1) [] (-1) with
      | none => rw [hw, ha] at h; cases h
      | some a =>
        cases ht : foundG toldP (parts.drop (parts.idxOf (":" : Str) + 1)) [] (-1) with
        | none => rw [hw, ha, ht] at h; cases h
        | some t =>
          rw [hw, ha, ht] at h
          cases t with
          | nil => cases h
          | cons t0 tr =>
            obtain ⟨w1, w2⟩ := weight_inv hw
            obtain ⟨A, a1, a2, a3, a4⟩ := found_inv ha
            obtain ⟨B, b1, b2, b3, b4⟩ := found_inv ht
            have hp : parts.take (parts.idxOf (":" : Str)) = digT w :: A.map tokT := by
              cases hP : parts.take (parts.idxOf (":" : Str)) with
              | nil =>
                rw [hP] at hsplit
                rw [hsplit] at w2
                have : (":" : Str) = digT w := (List.cons.inj w2).1
                have h1 := rk_col
                rw [this, rk_dig w (List.mem_range.mpr w1)] at h1
                cases h1
              | cons p0 P =>
                rw [hP, List.drop_one, List.tail_cons] at a1
                rw [hP] at hsplit
                rw [hsplit] at w2
                rw [(List.cons.inj w2).1, a1]
            rw [hp, b1] at hsplit
            obtain ⟨i1, i2⟩ := inc_ranks (b := 2) (fun t ht => (rk_ask t ht).1) a2 a3
            obtain ⟨j1, j2⟩ := inc_ranks (b := 101) rk_told b2 b3
            have hA : ∀ r ∈ (A.map tokT).map rk, 2 ≤ r ∧ r < 100 := fun r hr => by
              refine ⟨(i2 r hr).2, ?_⟩
              obtain ⟨p, hp, rfl⟩ := List.mem_map.mp hr
              obtain ⟨t, ht, rfl⟩ := List.mem_map.mp hp
              have := rk_ask t (a2 t ht)
              omega
            have e1 := rk_dig w (List.mem_range.mpr w1)
            have e2 := rk_col
            have hB0 : ∃ t B', B = t :: B' := by
              cases B with
              | nil => cases b4
              | cons t B' => exact ⟨t, B', rfl⟩
            refine ⟨?_, fun p hp => ?_, hc, ?_⟩
            · rw [hsplit, List.map_append, List.map_cons, List.map_cons]
              refine List.pairwise_append.mpr ⟨.cons (fun r hr => ?_) i1, .cons (fun r hr => ?_) j1, fun x hx y hy => ?_⟩
              · have := hA r hr
                omega
              · have := (j2 r hr).2
                omega
              · have hx' : x < 100 := by
                  rcases List.mem_cons.mp hx with rfl | hx
                  · omega
                  · exact (hA x hx).2
                rcases List.mem_cons.mp hy with rfl | hy
                · omega
                · have := (j2 y hy).2
                  omega
            · rw [hsplit] at hp
              rcases List.mem_append.mp hp with hp | hp
              · rcases List.mem_cons.mp hp with rfl | hp
                · omega
                · have := hA _ (List.mem_map_of_mem hp)
                  omega
              · rcases List.mem_cons.mp hp with rfl | hp
                · omega
                · have := (j2 _ (List.mem_map_of_mem hp)).2
                  omega
            · obtain ⟨t, B', rfl⟩ := hB0
              refine ⟨tokT t, by rw [hsplit]; simp, ?_⟩
              have := rk_told t (b2 t List.mem_cons_self)
              omega
  · rw [if_neg hc] at h
    cases h
theorem none_of {parts : List Str} (h : ¬ Lawful parts) : fieldsP parts = none := by
  cases q : fieldsP parts with
  | none => rfl
  | some r => exact absurd (lawful_of q) h
end Pa
set_option maxRecDepth 100000
set_option maxHeartbeats 4000000
namespace Pa
open PySem PySem.Spec PyProof.Rows L2 RZ StX
/-! ### the line of a rule -/
def askedOf (ps : List Str) : List PairD := (PN.zip ps).filterMap fun z : Str × Str => if z.2 = ("" : Str) then none else some (z.1, V.str z.2)
def tokens (x : RowD) : List Str := (toString x.1 : Str) :: (askedOf x.2.1).map tokT ++ (":" : Str) :: x.2.2.map tokT
def lineT (x : RowD) : Str := Txt.join " " (tokens x)
theorem blank_is : (" " : Str) = ⟨#[32]⟩ := by decide +kernel
theorem feed_is : ("\n" : Str) = ⟨#[10]⟩ := by decide +kernel
theorem asked_mem {ps : List Str} (h : PatOk ps) : ∀ t ∈ askedOf ps, t ∈ askedP := by
  obtain ⟨k, m, p, a, e, rfl, hk, hm, hp, ha, he⟩ := h
  intro t ht
  obtain ⟨z, hz, hq⟩ := List.mem_filterMap.mp ht
  by_cases q : z.2 = ("" : Str)
  · rw [if_pos q] at hq; cases hq
  · rw [if_neg q] at hq
    cases hq
    simp only [PN, List.zip_cons_cons, List.zip_nil_right, List.mem_cons, List.not_mem_nil, or_false] at hz
    rcases hz with rfl | rfl | rfl | rfl | rfl
    · rcases hk with rfl | rfl | rfl | rfl
      · exact absurd rfl q
      all_goals decide +kernel
    · rcases hm with rfl | rfl | rfl
      · exact absurd rfl q
      all_goals decide +kernel
    · rcases hp with rfl | rfl | rfl | rfl
      · exact absurd rfl q
      all_goals decide +kernel
    · rcases ha with rfl | rfl | rfl
      · exact absurd rfl q
      all_goals decide +kernel
    · rcases he with rfl | rfl | rfl | rfl
      · exact absurd rfl q
      all_goals decide +kernel
theorem told_mem {n : Str} {v : V} (h : SetOk n v) : (n, v) ∈ toldP := by
  rcases h with ⟨rfl, i, rfl, h0, h1⟩ | ⟨rfl, i, rfl, h0, h1⟩ | ⟨rfl, i, rfl, h0, h1⟩ | ⟨rfl | rfl | rfl, b, rfl⟩
  · rcases (by omega : i = 0 ∨ i = 1) with rfl | rfl <;> decide +kernel
  · rcases (by omega : i = 1 ∨ i = 2 ∨ i = 3 ∨ i = 4 ∨ i = 5 ∨ i = 6) with rfl | rfl | rfl | rfl | rfl | rfl <;> decide +kernel
  · rcases (by omega : i = 0 ∨ i = 1 ∨ i = 2) with rfl | rfl | rfl <;> decide +kernel
  · cases b <;> decide +kernel
  · cases b <;> decide +kernel
  · cases b <;> decide +kernel
theorem inc_pair {ps : List PairD} : ∀ {sel : List PairD} {l : Int}, (∀ t ∈ sel, l < (idxP ps t.1 : Int)) → (sel.map (·.1)).Pairwise (fun a b => idxP ps a < idxP ps b) → IncP ps l sel
  | [], _, _, _ => True.intro
  | t :: sel, l, h, hp => by
    rw [List.map_cons] at hp
    obtain ⟨h1, h2⟩ := List.pairwise_cons.mp hp
    refine ⟨h t List.mem_cons_self, inc_pair (fun u hu => ?_) h2⟩
    have := h1 u.1 (List.mem_map_of_mem hu)
    omega
theorem vn_inc : VN.Pairwise (fun a b => idxP toldP a < idxP toldP b) := by decide +kernel
theorem pn_inc : PN.Pairwise (fun a b => idxP askedP a < idxP askedP b) := by decide +kernel
theorem fm_sub : ∀ l : List (Str × Str), ((l.filterMap fun z : Str × Str => if z.2 = ("" : Str) then none else some ((z.1, V.str z.2) : PairD)).map (·.1)).Sublist (l.map (·.1))
  | [] => .slnil
  | z :: l => by
    rw [List.filterMap_cons]
    by_cases q : z.2 = ("" : Str)
    · rw [if_pos q]
      exact .cons _ (fm_sub l)
    · rw [if_neg q]
      exact .cons_cons _ (fm_sub l)
theorem asked_sub {ps : List Str} (h : PatOk ps) : ((askedOf ps).map (·.1)).Sublist PN := by
  have h5 := fm_sub (PN.zip ps)
  obtain ⟨k, m, p, a, e, rfl, _⟩ := h
  exact h5
theorem nine {i : Int} (h0 : 0 ≤ i) (h9 : i ≤ 9) : ∃ w ∈ List.range 10, i = (w : Nat) := ⟨i.toNat, List.mem_range.mpr (by omega), by omega⟩
theorem col_not : (∀ t ∈ askedP, tokT t ≠ ":") ∧ ∀ w ∈ List.range 10, digT w ≠ ":" := by decide +kernel
theorem drop_past {c : Str} {R : List Str} : ∀ P : List Str, (P ++ c :: R).drop (P.length + 1) = R
  | [] => rfl
  | p :: P => by
    rw [List.cons_append, List.length_cons, List.drop_succ_cons]
    exact drop_past P
theorem fields_tokens {x : RowD} (g : Good x.1 x.2.1 x.2.2) : ∃ w : Nat, x.1 = (w : Nat) ∧ fieldsP (tokens x) = some (w, askedOf x.2.1, x.2.2) := by
  obtain ⟨w, hw, e⟩ := nine g.w0 g.w9
  refine ⟨w, e, ?_⟩
  have et : tokens x = (digT w :: (askedOf x.2.1).map tokT) ++ (":" : Str) :: x.2.2.map tokT := by
    unfold tokens digT
    rw [e]
  have hP : (":" : Str) ∉ digT w :: (askedOf x.2.1).map tokT := fun q => by
    rcases List.mem_cons.mp q with q | q
    · exact col_not.2 w hw q.symm
    · obtain ⟨t, ht, q⟩ := List.mem_map.mp q
      exact col_not.1 t (asked_mem g.ps t ht) q
  have hi : (tokens x).idxOf (":" : Str) = (digT w :: (askedOf x.2.1).map tokT).length := by
    rw [et, List.idxOf_append, if_neg hP, List.idxOf_cons_self, Nat.zero_add]
  have h1 : (tokens x).take ((tokens x).idxOf (":" : Str)) = digT w :: (askedOf x.2.1).map tokT := by rw [hi, et, List.take_left]
  have h2 : (tokens x).drop ((tokens x).idxOf (":" : Str) + 1) = x.2.2.map tokT := by
    rw [hi, et, drop_past]
  have h3 : (tokens x).take 1 = [digT w] := by rw [et]; rfl
  have hm : (":" : Str) ∈ tokens x := by rw [et]; simp
  unfold fieldsP
  rw [if_pos hm, h1, h2, h3, weight_dig w hw, List.drop_one, List.tail_cons]
  rw [found_sel one_ask (asked_mem g.ps) (inc_pair (fun t _ => by omega) (List.Pairwise.sublist (asked_sub g.ps) pn_inc))]
  rw [found_sel one_told (fun t ht => told_mem (g.ok t ht)) (inc_pair (fun t _ => by omega) (List.Pairwise.sublist g.sub vn_inc))]
  rw [List.nil_append, List.nil_append]
  cases hs : x.2.2 with
  | nil => exact absurd hs g.ne
  | cons t r => rfl
theorem pat_all_back : ∀ k ∈ (["", "A", "B", "C"] : List Str), ∀ m ∈ (["", "x", "y"] : List Str), ∀ p ∈ (["", "A", "B", "C"] : List Str), ∀ a ∈ (["", "x", "y"] : List Str), ∀ e ∈ (["", "A", "B", "C"] : List Str),
    PN.map (fun n => ((askedOf [k, m, p, a, e]).lookup n).getD (.str "")) = [k, m, p, a, e].map V.str := by decide +kernel
theorem isK_mem {s : Str} (h : IsK s) : s ∈ (["", "A", "B", "C"] : List Str) := by rcases h with rfl | rfl | rfl | rfl <;> simp
theorem isM_mem {s : Str} (h : IsM s) : s ∈ (["", "x", "y"] : List Str) := by rcases h with rfl | rfl | rfl <;> simp
theorem pat_back {ps : List Str} (h : PatOk ps) : PN.map (fun n => ((askedOf ps).lookup n).getD (.str "")) = ps.map V.str := by
  obtain ⟨k, m, p, a, e, rfl, hk, hm, hp, ha, he⟩ := h
  exact pat_all_back k (isK_mem hk) m (isM_mem hm) p (isK_mem hp) a (isM_mem ha) e (isK_mem he)
end Pa
set_option maxRecDepth 100000
set_option maxHeartbeats 4000000
namespace Pa
open PySem PySem.Spec PyProof.Rows L2 RZ StX
/-! ### lines that are right, lines that are spoilt -/
def freeOf (c : Nat) (p : Str) : Bool := p.cps.toList.all fun d => decide (d ≠ c) && decide (d < 128)
theorem free_not {c : Nat} {p : Str} (h : freeOf c p = true) : c ∉ p.cps.toList := fun q => by
  have := List.all_eq_true.mp h c q
  simp at this
theorem free_ok {c : Nat} {p : Str} (h : freeOf c p = true) : PyData.strOk p = true := by
  refine Array.all_eq_true_iff_forall_mem.mpr fun z hz => ?_
  have h1 := List.all_eq_true.mp h z (by simpa using hz)
  obtain ⟨_, h3⟩ := Bool.and_eq_true_iff.mp h1
  have := of_decide_eq_true h3
  exact decide_eq_true (by omega)
theorem plain_toks : (∀ w ∈ List.range 10, freeOf 32 (digT w) = true ∧ freeOf 10 (digT w) = true ∧ (digT w).length ≤ 10) ∧ (∀ t ∈ askedP ++ toldP, freeOf 32 (tokT t) = true ∧ freeOf 10 (tokT t) = true ∧ (tokT t).length ≤ 10) ∧
    (freeOf 32 ":" = true ∧ freeOf 10 ":" = true ∧ Str.length ":" ≤ 10) := by decide +kernel
theorem toks_plain {x : RowD} (g : Good x.1 x.2.1 x.2.2) : ∀ p ∈ tokens x, freeOf 32 p = true ∧ freeOf 10 p = true ∧ p.length ≤ 10 := by
  obtain ⟨w, hw, e⟩ := nine g.w0 g.w9
  intro p hp
  unfold tokens at hp
  rw [e] at hp
  rcases List.mem_append.mp hp with hp | hp
  · rcases List.mem_cons.mp hp with rfl | hp
    · exact plain_toks.1 w hw
    · obtain ⟨t, ht, rfl⟩ := List.mem_map.mp hp
      exact plain_toks.2.1 t (List.mem_append_left _ (asked_mem g.ps t ht))
  · rcases List.mem_cons.mp hp with rfl | hp
    · exact plain_toks.2.2
    · obtain ⟨t, ht, rfl⟩ := List.mem_map.mp hp
      exact plain_toks.2.1 t (List.mem_append_right _ (told_mem (g.ok t ht)))
theorem asked_len {ps : List Str} (h : PatOk ps) : (askedOf ps).length ≤ 5 := by
  have := (asked_sub h).length_le
  rw [List.length_map] at this
  exact this
theorem toks_len {x : RowD} (g : Good x.1 x.2.1 x.2.2) : (tokens x).length ≤ 13 ∧ 3 ≤ (tokens x).length := by
  have h1 := asked_len g.ps
  have h2 := g.sub.len
  have h3 : 0 < x.2.2.length := List.length_pos_iff.mpr g.ne
  unfold tokens
  rw [List.length_append, List.length_cons, List.length_cons, List.length_map, List.length_map]
  omega
theorem jl_mem {c d : Nat} : ∀ {ps : List (List Nat)}, d ∈ jl c ps → d = c ∨ ∃ p ∈ ps, d ∈ p
  | [], h => by cases h
  | [x], h => .inr ⟨x, List.mem_cons_self, h⟩
  | x :: y :: r, h => by
    rcases List.mem_append.mp h with h | h
    · exact .inr ⟨x, List.mem_cons_self, h⟩
    · rcases List.mem_cons.mp h with rfl | h
      · exact .inl rfl
      · rcases jl_mem h with h | ⟨p, hp, h⟩
        · exact .inl h
        · exact .inr ⟨p, List.mem_cons_of_mem _ hp, h⟩
theorem join_free {c d : Nat} (hd : d ≠ c) (hc : c < 128) {ps : List Str} (h : ∀ p ∈ ps, freeOf d p = true) : freeOf d (Txt.join ⟨#[c]⟩ ps) = true := by
  refine List.all_eq_true.mpr fun z q => ?_
  rw [txt_join, jl_join] at q
  rcases jl_mem q with rfl | ⟨p, hp, q⟩
  · rw [decide_eq_true (Ne.symm hd), decide_eq_true hc]
    rfl
  · obtain ⟨s, hs, rfl⟩ := List.mem_map.mp hp
    exact List.all_eq_true.mp (h s hs) z q
theorem mem_jl {c d : Nat} : ∀ {ps : List (List Nat)} {p : List Nat}, p ∈ ps → d ∈ p → d ∈ jl c ps
  | [x], p, hp, hd => by rw [← List.mem_singleton.mp hp]; exact hd
  | x :: y :: r, p, hp, hd => by
    rcases List.mem_cons.mp hp with rfl | hp
    · exact List.mem_append_left _ hd
    · exact List.mem_append_right _ (List.mem_cons_of_mem _ (mem_jl hp hd))
/-- what is cut out of a plain text is plain -/
theorem split_plain {c d : Nat} {x : Str} (h : freeOf d x = true) : ∀ p ∈ Txt.split x ⟨#[c]⟩, freeOf d p = true := fun p hp => by
  refine List.all_eq_true.mpr fun z hz => List.all_eq_true.mp h z ?_
  rw [← StrLaws.join_split x ⟨#[c]⟩, jl_join]
  exact mem_jl (List.mem_map_of_mem hp) hz
theorem join_len {c B N : Nat} {ps : List Str} (h : ∀ p ∈ ps, p.length ≤ B) (hN : ps.length ≤ N) : (Txt.join ⟨#[c]⟩ ps).length ≤ N * B + N := by
  rw [txt_join]
  refine Nat.le_trans (StrLaws.join_length_le _ ps) ?_
  have h1 := StrLaws.sumLen_le ps h
  have h2 : ps.length * B ≤ N * B := Nat.mul_le_mul_right _ hN
  have h3 : Str.length ⟨#[c]⟩ = 1 := rfl
  rw [h3, Nat.mul_one]
  omega
theorem join_fit {c B N : Nat} {ps : List Str} (h : ∀ p ∈ ps, p.length ≤ B) (hN : ps.length ≤ N) : (ps.map (·.length)).sum + ps.length * Str.length ⟨#[c]⟩ ≤ N * B + N := by
  have h1 := StrLaws.sumLen_le ps h
  have h2 : ps.length * B ≤ N * B := Nat.mul_le_mul_right _ hN
  have h3 : Str.length ⟨#[c]⟩ = 1 := rfl
  rw [h3, Nat.mul_one]
  omega
theorem line_split {x : RowD} (g : Good x.1 x.2.1 x.2.2) : Txt.split (lineT x) " " = tokens x := by
  unfold lineT
  rw [blank_is]
  exact split_join (fun q => by have := (toks_len g).2; rw [q] at this; cases this) fun p hp => free_not (toks_plain g p hp).1
theorem line_free {x : RowD} (g : Good x.1 x.2.1 x.2.2) : freeOf 10 (lineT x) = true ∧ (lineT x).length ≤ 400 := by
  unfold lineT
  rw [blank_is]
  refine ⟨join_free (by decide) (by decide) fun p hp => (toks_plain g p hp).2.1, ?_⟩
  have := join_len (c := 32) (B := 10) (N := 13) (fun p hp => (toks_plain g p hp).2.2) (toks_len g).1
  omega
/-- the line of no rule, and not empty -/
structure Bad (s : Str) : Prop where
  non : fieldsP (Txt.split s " ") = none
  ne : s ≠ ""
  lf : freeOf 10 s = true
  len : s.length ≤ 400
theorem bad_join {ps : List Str} (h2 : 2 ≤ ps.length) (h14 : ps.length ≤ 15) (hp : ∀ p ∈ ps, freeOf 10 p = true ∧ p.length ≤ 20) (hl : ¬ Lawful (ps.flatMap fun p => Txt.split p " ")) : Bad (Txt.join " " ps) := by
  rw [blank_is] at hl ⊢
  have hne : ps ≠ [] := fun q => by rw [q] at h2; cases h2
  refine ⟨?_, fun q => ?_, join_free (by decide) (by decide) fun p h => (hp p h).1, ?_⟩
  · rw [blank_is, split_flat hne]
    exact none_of hl
  · obtain ⟨a, b, r, rfl⟩ : ∃ a b r, ps = a :: b :: r := match ps, h2 with | a :: b :: r, _ => ⟨a, b, r, rfl⟩
    have h1 := congrArg (fun s : Str => s.cps.toList) q
    simp only [txt_join, jl_join, List.map_cons, jl] at h1
    have : (32 : Nat) ∈ ("" : Str).cps.toList := by rw [← h1]; simp
    cases this
  · have := join_len (c := 32) (B := 20) (N := 15) (fun p h => (hp p h).2) h14
    omega
theorem split_one {p : Str} (h : freeOf 32 p = true) : Txt.split p " " = [p] := by
  have := split_join (c := 32) (ps := [p]) (by simp) (fun q hq => by rw [List.mem_singleton.mp hq]; exact free_not h)
  rw [txt_join] at this
  rw [blank_is]
  exact this
theorem flat_one : ∀ {ps : List Str}, (∀ p ∈ ps, freeOf 32 p = true) → (ps.flatMap fun p => Txt.split p " ") = ps
  | [], _ => rfl
  | p :: ps, h => by
    rw [List.flatMap_cons, split_one (h p List.mem_cons_self), flat_one fun q hq => h q (List.mem_cons_of_mem _ hq)]
    rfl
/-- a part that is nowhere in a line -/
theorem bad_part {ps : List Str} {q : Str} (hq : q ∈ ps) (h0 : ∃ r ∈ Txt.split q " ", rk r = 0) : ¬ Lawful (ps.flatMap fun p => Txt.split p " ") := fun L => by
  obtain ⟨r, hr, h0⟩ := h0
  have := L.pos r (List.mem_flatMap.mpr ⟨q, hq, hr⟩)
  omega
/-- the parts of a row, told apart -/
structure Toks (T : List Str) : Prop where
  law : Lawful T
  pl : ∀ p ∈ T, freeOf 32 p = true ∧ freeOf 10 p = true ∧ p.length ≤ 10
  len : T.length ≤ 13
  len3 : 3 ≤ T.length
  hd : ∃ w r, T = w :: r ∧ w ∈ (List.range 10).map digT
theorem toks_of {x : RowD} (g : Good x.1 x.2.1 x.2.2) : Toks (tokens x) := by
  obtain ⟨w, e, h⟩ := fields_tokens g
  have w9 := g.w9
  exact ⟨lawful_of h, toks_plain g, (toks_len g).1, (toks_len g).2, _, _, rfl, List.mem_map.mpr ⟨w, List.mem_range.mpr (by omega), by unfold digT; rw [e]⟩⟩
theorem rk_empty : ∃ r ∈ Txt.split "" " ", rk r = 0 := by decide +kernel
theorem bad_insert {T : List Str} (t : Toks T) (i : Nat) : Bad (Txt.join " " (T.take i ++ ("" : Str) :: T.drop i)) := by
  have hl : (T.take i ++ ("" : Str) :: T.drop i).length = T.length + 1 := by
    rw [List.length_append, List.length_cons, List.length_take, List.length_drop]
    omega
  have h3 := t.len3
  have h13 := t.len
  refine bad_join (by omega) (by omega) (fun p hp => ?_) (bad_part (q := "") (by simp) rk_empty)
  rcases List.mem_append.mp hp with hp | hp
  · have := t.pl p (List.mem_of_mem_take hp)
    exact ⟨this.2.1, by omega⟩
  · rcases List.mem_cons.mp hp with rfl | hp
    · exact ⟨by decide +kernel, by decide +kernel⟩
    · have := t.pl p (List.mem_of_mem_drop hp)
      exact ⟨this.2.1, by omega⟩
/-- a part put in another's place -/
theorem bad_set {T : List Str} (t : Toks T) {i : Nat} {q : Str} (hi : i < T.length) (hf : freeOf 10 q = true) (hq : q.length ≤ 20) (h0 : ∃ r ∈ Txt.split q " ", rk r = 0) : Bad (Txt.join " " (T.set i q)) := by
  have h3 := t.len3
  have h13 := t.len
  refine bad_join (by rw [List.length_set]; omega) (by rw [List.length_set]; omega) (fun p hp => ?_) (bad_part (q := q) (List.mem_iff_getElem?.mpr ⟨i, by rw [List.getElem?_set_self hi]⟩) h0)
  rcases List.mem_or_eq_of_mem_set hp with hp | rfl
  · have := t.pl p hp
    exact ⟨this.2.1, by omega⟩
  · exact ⟨hf, hq⟩
/-- parts that are not in their order -/
theorem bad_order {T : List Str} (t : Toks T) {ps : List Str} (hm : ∀ p ∈ ps, p ∈ T) (h2 : 2 ≤ ps.length) (h14 : ps.length ≤ 15) (hl : ¬ Lawful ps) : Bad (Txt.join " " ps) := by
  refine bad_join h2 h14 (fun p hp => ?_) ?_
  · have := t.pl p (hm p hp)
    exact ⟨this.2.1, by omega⟩
  · rw [flat_one fun p hp => (t.pl p (hm p hp)).1]
    exact hl
theorem at_split {T : List Str} {i : Nat} {a : Str} (h : T[i]? = some a) : T = T.take i ++ a :: T.drop (i + 1) := by
  obtain ⟨hi, rfl⟩ := List.getElem?_eq_some_iff.mp h
  have h1 := (List.take_append_drop i T).symm
  rw [List.drop_eq_getElem_cons hi] at h1
  exact h1
theorem bad_twice {T : List Str} (t : Toks T) {i : Nat} {a : Str} (h : T[i]? = some a) : Bad (Txt.join " " (T.take i ++ a :: T.drop i)) := by
  have hi := (List.getElem?_eq_some_iff.mp h).1
  have h3 := t.len3
  have h13 := t.len
  have hd : T.drop i = a :: T.drop (i + 1) := by
    obtain ⟨hi, rfl⟩ := List.getElem?_eq_some_iff.mp h
    exact List.drop_eq_getElem_cons hi
  refine bad_order t (fun p hp => ?_) ?_ ?_ fun L => ?_
  · rcases List.mem_append.mp hp with hp | hp
    · exact List.mem_of_mem_take hp
    · rcases List.mem_cons.mp hp with rfl | hp
      · exact List.mem_of_getElem? h
      · exact List.mem_of_mem_drop hp
  · rw [List.length_append, List.length_cons, List.length_take, List.length_drop]; omega
  · rw [List.length_append, List.length_cons, List.length_take, List.length_drop]; omega
  · have h1 := L.inc
    rw [hd, List.map_append, List.map_cons, List.map_cons] at h1
    have h2 := (List.pairwise_append.mp h1).2.1
    have := (List.pairwise_cons.mp h2).1 (rk a) List.mem_cons_self
    omega
theorem bad_swap {T : List Str} (t : Toks T) {i : Nat} {a b : Str} (ha : T[i]? = some a) (hb : T[i + 1]? = some b) : Bad (Txt.join " " (T.take i ++ b :: a :: T.drop (i + 2))) := by
  have hi := (List.getElem?_eq_some_iff.mp hb).1
  have h3 := t.len3
  have h13 := t.len
  have e := at_split ha
  have e2 : T.drop (i + 1) = b :: T.drop (i + 2) := by
    obtain ⟨hi, rfl⟩ := List.getElem?_eq_some_iff.mp hb
    exact List.drop_eq_getElem_cons hi
  rw [e2] at e
  have hab : rk a < rk b := by
    have h1 := t.law.inc
    rw [e, List.map_append, List.map_cons, List.map_cons] at h1
    exact (List.pairwise_cons.mp (List.pairwise_append.mp h1).2.1).1 (rk b) List.mem_cons_self
  refine bad_order t (fun p hp => ?_) ?_ ?_ fun L => ?_
  · rcases List.mem_append.mp hp with hp | hp
    · exact List.mem_of_mem_take hp
    · rcases List.mem_cons.mp hp with rfl | hp
      · exact List.mem_of_getElem? hb
      · rcases List.mem_cons.mp hp with rfl | hp
        · exact List.mem_of_getElem? ha
        · exact List.mem_of_mem_drop hp
  · rw [List.length_append, List.length_cons, List.length_cons, List.length_take, List.length_drop]; omega
  · rw [List.length_append, List.length_cons, List.length_cons, List.length_take, List.length_drop]; omega
  · have h1 := L.inc
    rw [List.map_append, List.map_cons, List.map_cons] at h1
    have := (List.pairwise_cons.mp (List.pairwise_append.mp h1).2.1).1 (rk a) List.mem_cons_self
    omega
/-- the place of the colon -/
theorem col_at {T : List Str} (t : Toks T) : ∃ P R, T = P ++ (":" : Str) :: R ∧ (":" : Str) ∉ P ∧ (":" : Str) ∉ R ∧ (∀ p ∈ P, rk p < 100) ∧ (∀ p ∈ R, 100 < rk p) ∧ T.idxOf (":" : Str) = P.length ∧ R ≠ [] := by
  have hlt := List.idxOf_lt_length_of_mem t.law.col
  have hat : T[T.idxOf (":" : Str)]'hlt = ":" := List.getElem_idxOf hlt
  have e := at_split (List.getElem?_eq_some_iff.mpr ⟨hlt, hat⟩)
  have h1 := t.law.inc
  rw [e, List.map_append, List.map_cons] at h1
  obtain ⟨i1, i2, i3⟩ := List.pairwise_append.mp h1
  have hc := rk_col
  have hP : ∀ p ∈ T.take (T.idxOf (":" : Str)), rk p < 100 := fun p hp => by
    have := i3 (rk p) (List.mem_map_of_mem hp) (rk ":") List.mem_cons_self
    omega
  have hR : ∀ p ∈ T.drop (T.idxOf (":" : Str) + 1), 100 < rk p := fun p hp => by
    have := (List.pairwise_cons.mp i2).1 (rk p) (List.mem_map_of_mem hp)
    omega
  refine ⟨_, _, e, fun q => by have := hP _ q; omega, fun q => by have := hR _ q; omega, hP, hR, by rw [List.length_take]; omega, fun q => ?_⟩
  obtain ⟨p, hp, h100⟩ := t.law.told
  rw [e, q] at hp
  rcases List.mem_append.mp hp with hp | hp
  · have := hP p hp
    omega
  · rw [List.mem_singleton.mp hp] at h100
    omega
theorem bad_pop {T : List Str} (t : Toks T) : Bad (Txt.join " " (T.eraseIdx (T.idxOf (":" : Str)))) := by
  obtain ⟨P, R, e, h1, h2, h3, h4, h5, h6⟩ := col_at t
  have ee : T.eraseIdx (T.idxOf (":" : Str)) = P ++ R := by
    rw [h5, e, List.eraseIdx_append_of_length_le (Nat.le_refl _), Nat.sub_self]
    rfl
  have hl : T.length = P.length + R.length + 1 := by rw [e, List.length_append, List.length_cons]; omega
  have h13 := t.len
  have h3' := t.len3
  rw [ee]
  refine bad_order t (fun p hp => ?_) (by rw [List.length_append]; omega) (by rw [List.length_append]; omega) fun L => ?_
  · rw [e]
    rcases List.mem_append.mp hp with hp | hp
    · exact List.mem_append_left _ hp
    · exact List.mem_append_right _ (List.mem_cons_of_mem _ hp)
  · rcases List.mem_append.mp L.col with q | q
    · exact h1 q
    · exact h2 q
theorem bad_cut {T : List Str} (t : Toks T) : Bad (Txt.join " " (T.take (T.idxOf (":" : Str) + 1))) := by
  obtain ⟨P, R, e, h1, h2, h3, h4, h5, h6⟩ := col_at t
  have ee : T.take (T.idxOf (":" : Str) + 1) = P ++ [(":" : Str)] := by
    rw [h5, e, List.take_append, List.take_of_length_le (Nat.le_succ _), Nat.add_sub_cancel_left]
    rfl
  have hl : T.length = P.length + R.length + 1 := by rw [e, List.length_append, List.length_cons]; omega
  have h13 := t.len
  have hw : P ≠ [] := fun q => by
    obtain ⟨w, r, e2, hw⟩ := t.hd
    rw [e2, q] at e
    obtain ⟨v, hv, rfl⟩ := List.mem_map.mp hw
    exact col_not.2 v hv (List.cons.inj e).1
  rw [ee]
  have : 0 < P.length := List.length_pos_iff.mpr hw
  refine bad_order t (fun p hp => ?_) (by rw [List.length_append]; show 2 ≤ P.length + 1; omega) (by rw [List.length_append]; show P.length + 1 ≤ 15; omega) fun L => ?_
  · rw [e]
    rcases List.mem_append.mp hp with hp | hp
    · exact List.mem_append_left _ hp
    · rw [List.mem_singleton.mp hp]
      simp
  · obtain ⟨p, hp, h100⟩ := L.told
    have hc := rk_col
    rcases List.mem_append.mp hp with hp | hp
    · have := h3 p hp
      omega
    · rw [List.mem_singleton.mp hp] at h100
      omega
end Pa
set_option maxRecDepth 100000
set_option maxHeartbeats 4000000
namespace Pa
open PySem PySem.Spec PyProof.Rows L2 RZ StX
def badPart (q : Str) : Bool := freeOf 10 q && (decide (q.length ≤ 20) && (Txt.split q " ").any fun r => rk r == 0)
theorem bad_put {T : List Str} (t : Toks T) {i : Nat} {q : Str} (hi : i < T.length) (h : badPart q = true) : Bad (Txt.join " " (T.set i q)) := by
  unfold badPart at h
  obtain ⟨h1, h2⟩ := Bool.and_eq_true_iff.mp h
  obtain ⟨h2, h3⟩ := Bool.and_eq_true_iff.mp h2
  obtain ⟨r, hr, h0⟩ := List.any_eq_true.mp h3
  exact bad_set t hi h1 (of_decide_eq_true h2) ⟨r, hr, beq_iff_eq.mp h0⟩
theorem way1 : ∀ w ∈ List.range 10, ∀ q ∈ (["0" ++ digT w, "+" ++ digT w, "", "10", "-1", "x", digT w ++ "."] : List Str), badPart q = true := by decide +kernel
theorem way6 : ∀ t ∈ toldP, ∀ v ∈ (["", "7", "Yes", "true", "1 ", "-0", "01", "yes.", "10"] : List Str), badPart (t.1 ++ "=" ++ v) = true := by decide +kernel
theorem way6p : ∀ t ∈ toldP, (Txt.partition (tokT t) "=").1 = t.1 := by decide +kernel
theorem way7 : ∀ t ∈ askedP ++ toldP, ∀ v ∈ (["", " =", "==", ":", "= "] : List Str), badPart (Txt.join v (Txt.split (tokT t) "=")) = true := by decide +kernel
theorem eq_in : (∀ t ∈ askedP ++ toldP, sub "=" (tokT t) = true) ∧ (∀ w ∈ List.range 10, sub "=" (digT w) = false) ∧ sub "=" ":" = false := by decide +kernel
theorem fixed_bad : ∀ s ∈ ([" ", ":", "0", "out", "0 :", "A"] : List Str), fieldsP (Txt.split s " ") = none ∧ s ≠ "" ∧ freeOf 10 s = true ∧ s.length ≤ 400 := by decide +kernel
theorem find_tok {l : List PairD} {t : PairD} {p : Str} (h : l.find? (fun t => decide (tokT t = p)) = some t) : tokT t = p := by
  have := List.find?_some h
  exact of_decide_eq_true this
theorem rk_cases {p : Str} (h : 0 < rk p) : (∃ w ∈ List.range 10, p = digT w) ∨ p = ":" ∨ (∃ t ∈ askedP, p = tokT t) ∨ ∃ t ∈ toldP, p = tokT t := by
  unfold rk at h
  by_cases h1 : p ∈ (List.range 10).map digT
  · obtain ⟨w, hw, e⟩ := List.mem_map.mp h1
    exact .inl ⟨w, hw, e.symm⟩
  · rw [if_neg h1] at h
    by_cases h2 : p = ":"
    · exact .inr (.inl h2)
    · rw [if_neg h2] at h
      cases h3 : askedP.find? fun t => decide (tokT t = p) with
      | some t => exact .inr (.inr (.inl ⟨t, List.mem_of_find?_eq_some h3, (find_tok h3).symm⟩))
      | none =>
        rw [h3] at h
        cases h4 : toldP.find? fun t => decide (tokT t = p) with
        | some t => exact .inr (.inr (.inr ⟨t, List.mem_of_find?_eq_some h4, (find_tok h4).symm⟩))
        | none =>
          rw [h4] at h
          cases h
theorem has_eq {p : Str} (h : 0 < rk p) (he : sub "=" p = true) : ∃ t ∈ askedP ++ toldP, p = tokT t := by
  rcases rk_cases h with ⟨w, hw, rfl⟩ | rfl | ⟨t, ht, e⟩ | ⟨t, ht, e⟩
  · rw [eq_in.2.1 w hw] at he; cases he
  · rw [eq_in.2.2] at he; cases he
  · exact ⟨t, List.mem_append_left _ ht, e⟩
  · exact ⟨t, List.mem_append_right _ ht, e⟩
theorem told_tok {p : Str} (h : 100 < rk p) : ∃ t ∈ toldP, p = tokT t := by
  have hc := rk_col
  rcases rk_cases (by omega : 0 < rk p) with ⟨w, hw, rfl⟩ | rfl | ⟨t, ht, rfl⟩ | ⟨t, ht, e⟩
  · have := rk_dig w hw; omega
  · omega
  · have := rk_ask t ht; omega
  · exact ⟨t, ht, e⟩
theorem join_snoc (sep q : Str) : ∀ {T : List Str}, T ≠ [] → Str.join sep (T ++ [q]) = Str.join sep T ++ sep ++ q
  | [], h => absurd rfl h
  | [x], _ => rfl
  | x :: y :: r, _ => by
    have ih := join_snoc sep q (T := y :: r) (by simp)
    show x ++ sep ++ Str.join sep (y :: r ++ [q]) = x ++ sep ++ Str.join sep (y :: r) ++ sep ++ q
    rw [ih]
    simp only [Str.append_assoc]
theorem bad_tail {T : List Str} (t : Toks T) : Bad (Txt.join " " T ++ " ") := by
  have hne : T ≠ [] := fun q => by have := t.len3; rw [q] at this; cases this
  have e : Txt.join " " T ++ " " = Txt.join " " (T ++ [("" : Str)]) := by
    rw [txt_join, txt_join, join_snoc _ _ hne]
    exact (Str.append_empty _).symm
  rw [e]
  have := bad_insert t T.length
  rw [List.take_length, List.drop_length] at this
  exact this
theorem bad_head {T : List Str} (t : Toks T) : Bad (" " ++ Txt.join " " T) := by
  obtain ⟨w, r, e, _⟩ := t.hd
  have e2 : (" " : Str) ++ Txt.join " " T = Txt.join " " (("" : Str) :: T) := by
    rw [txt_join, txt_join, e]
    show _ = ("" : Str) ++ " " ++ Str.join " " (w :: r)
    rw [show ("" : Str) ++ " " = " " from Str.empty_append _]
  rw [e2]
  exact bad_insert t 0
end Pa
set_option maxRecDepth 100000
set_option maxHeartbeats 4000000
namespace Pa
open PySem PySem.Spec PyProof.Rows L2 RZ StX
/-! ### x is True, x is False: x any plain value -/
theorem op_isV {X : Cx} : OpR X (compareOp .Is) (fun x y H Q => ∃ b, y = .bl b ∧ ((∃ a, x = .bl a) ∨ (∃ i, x = .int i) ∨ ∃ s, x = .str s) ∧ Q (.bl (decide (x = .bl b))) H) := by
  intro pins s σ H x y v u Q I rx ry h
  obtain ⟨b, rfl, hx, q⟩ := h
  cases (show u = Value.bool b from ry)
  rcases hx with ⟨a, rfl⟩ | ⟨i, rfl⟩ | ⟨t, rfl⟩
  · cases (show v = Value.bool a from rx)
    by_cases e : a = b
    · subst e
      exact wpAny_is_self rfl ⟨.bl true, H, I, rfl, by simpa using q⟩
    · exact wpAny_is_other rfl (fun z => e (Value.bool.inj z)) ⟨.bl false, H, I, rfl, by simpa [e] using q⟩
  · obtain ⟨t, rfl⟩ := rx
    exact wpAny_is_other rfl (fun z => nomatch z) ⟨.bl false, H, I, rfl, by simpa using q⟩
  · obtain ⟨t, rfl⟩ := rx
    exact wpAny_is_other rfl (fun z => nomatch z) ⟨.bl false, H, I, rfl, by simpa using q⟩
theorem tok_small : ∀ t ∈ askedP ++ toldP, t.1.length ≤ 20 ∧ (valT t.2).length ≤ 20 ∧ ((∃ i ∈ (List.range 7).map Int.ofNat, t.2 = .int i) ∨ (t.2 = .bl true ∨ t.2 = .bl false) ∨ ∃ s ∈ (["A", "B", "C", "x", "y"] : List Str), t.2 = .str s) := by decide +kernel
theorem yes_no : ("=" : Str) ++ "yes" = "=yes" ∧ ("=" : Str) ++ "no" = "=no" := by decide +kernel
section
variable {P : Program} {w : World} {K : PySem.W.Frag} {mg : Str → Option Value} {base : Heap} {tv tp tk dl C CS CB : Addr}
def spPart : Sp := fun vs H Q _ => ∃ t : PairD, t ∈ askedP ++ toldP ∧ vs = [.str t.1, t.2] ∧ Q (.str (tokT t)) H
abbrev s_part : Stmt := topS 27
theorem sc_part : FnScope ["name", "value"] ["name", "value"] (defScope s_part) := ⟨rfl, rfl, rfl, by decide +kernel, rfl, by decide +kernel, by decide +kernel⟩
theorem ok_part {f : Addr} {fd : FuncData} (F : Fun K "_part" "_part" s_part f fd) : FnOk P w K mg base CX0 1 f fd ["name", "value"] spPart := by
  refine F.ok sc_part (fun vs H Q E h => ?_) (fun cdv A outer s H vs Q E hr h => ?_)
  · obtain ⟨t, _, rfl, _⟩ := h
    rfl
  · obtain ⟨⟨n, v⟩, ht, rfl, k⟩ := h
    refine ⟨_, (pss_cons (ps_if (pt_cmpR op_isV (pv 1) pe_bl (nomark _))
        (pss_one (ps_ret (pe_joined (.cons (pe_fmt (pv 0)) (.cons pe_str .nil)))))
        pss_nil)
      (pss_cons (ps_if (pt_cmpR op_isV (pv 1) pe_bl (nomark _))
        (pss_one (ps_ret (pe_joined (.cons (pe_fmt (pv 0)) (.cons pe_str .nil)))))
        pss_nil)
      (pss_one (ps_ret (pe_joined (.cons (pe_fmt (pv 0)) (.cons pe_str (.cons (pe_fmt (pv 1)) .nil)))))))), ?_⟩
    obtain ⟨l1, l2, hv⟩ := tok_small _ ht
    have hz : 1000 ≤ sizeLine := by decide
    have e0 : Str.empty ++ n = n := Str.empty_append n
    have ln : n.length ≤ 20 := l1
    have fin : ∀ y : Str, y.length ≤ 10 → (Str.empty ++ n ++ y).length ≤ sizeLine := fun y hy => by
      rw [e0, Str.length_append]; omega
    have nl : n.length ≤ sizeLine := by omega
    have nl2 : (Str.empty ++ n).length ≤ sizeLine := by rw [e0]; exact nl
    rcases hv with ⟨i, hi, e⟩ | (e | e) | ⟨s, hs, e⟩
    · simp only at e
      subst e
      refine ⟨_, rfl, _, rfl, .inr (.inl ⟨_, rfl⟩), _, rfl, iteF ⟨_, rfl, _, rfl, .inr (.inl ⟨_, rfl⟩), _, rfl, iteF ?_⟩⟩
      have hl : (toString i : Str).length ≤ 20 := l2
      have hlog : i.natAbs.log2 < 1920 := by
        obtain ⟨j, hj, rfl⟩ := List.mem_map.mp hi
        have := List.mem_range.mp hj
        have h9 : (Int.ofNat j).natAbs < 2 ^ 1920 := Nat.lt_of_lt_of_le (show j < 2 ^ 3 by omega) (Nat.pow_le_pow_right (by decide) (by decide))
        by_cases z : (Int.ofNat j).natAbs = 0
        · rw [z]; decide
        · exact (Nat.log2_lt z).mpr h9
      refine ⟨_, rfl, .inl ⟨n, rfl, nl, n, rfl, nl2, _, rfl, fin "=" (by decide), _, rfl, .inr ⟨i, rfl, hlog, _, rfl, ?_, ?_⟩⟩⟩
      · rw [Str.length_append, e0, Str.length_append]
        have : Str.length "=" = 1 := rfl
        omega
      · rw [e0]; exact k
    · simp only at e
      subst e
      refine ⟨_, rfl, _, rfl, .inl ⟨_, rfl⟩, _, rfl, iteT ⟨_, rfl, .inl ⟨n, rfl, nl, n, rfl, nl2, _, rfl, fin "=yes" (by decide), ?_⟩⟩⟩
      have z : tokT (n, .bl true) = Str.empty ++ n ++ "=yes" := by
        rw [e0, ← yes_no.1, ← Str.append_assoc]
        rfl
      show Q (.str (Str.empty ++ n ++ "=yes")) H
      rw [← z]
      exact k
    · simp only at e
      subst e
      refine ⟨_, rfl, _, rfl, .inl ⟨_, rfl⟩, _, rfl, iteF ⟨_, rfl, _, rfl, .inl ⟨_, rfl⟩, _, rfl, iteT ⟨_, rfl, .inl ⟨n, rfl, nl, n, rfl, nl2, _, rfl, fin "=no" (by decide), ?_⟩⟩⟩⟩
      have z : tokT (n, .bl false) = Str.empty ++ n ++ "=no" := by
        rw [e0, ← yes_no.2, ← Str.append_assoc]
        rfl
      show Q (.str (Str.empty ++ n ++ "=no")) H
      rw [← z]
      exact k
    · simp only at e
      subst e
      refine ⟨_, rfl, _, rfl, .inr (.inr ⟨_, rfl⟩), _, rfl, iteF ⟨_, rfl, _, rfl, .inr (.inr ⟨_, rfl⟩), _, rfl, iteF ?_⟩⟩
      have hl : s.length ≤ 20 := l2
      refine ⟨_, rfl, .inl ⟨n, rfl, nl, n, rfl, nl2, _, rfl, fin "=" (by decide), _, rfl, .inl ⟨s, rfl, by omega, _, rfl, ?_, ?_⟩⟩⟩
      · rw [Str.length_append, e0, Str.length_append]
        have : Str.length "=" = 1 := rfl
        omega
      · rw [e0]; exact k
def valsOf (n : Str) : List V := (toldP.filter fun t => decide (t.1 = n)).map (·.2)
def spVals (K : PySem.W.Frag) : Sp := fun vs H Q _ => ∃ n : Str, n ∈ VN ∧ vs = [.str n] ∧ ∀ p H', Ext H H' → SqT K H' p (valsOf n) → Q (.ref p) H'
abbrev svalues_for : Stmt := topS 14
theorem scvalues_for : FnScope ["name", "low", "high"] ["name"] (defScope svalues_for) := ⟨rfl, rfl, rfl, by decide +kernel, rfl, by decide +kernel, by decide +kernel⟩
theorem ok_values_for {f : Addr} {fd : FuncData} (F : Fun K "values_for" "values_for" svalues_for f fd) (T : Txt K w mg tv tp tk dl C) : FnOk P w K mg base CX0 1 f fd ["name"] (spVals K) := by
  obtain ⟨es, en, D⟩ := T.lim
  refine F.ok scvalues_for (fun vs H Q E h => ?_) (fun cdv A outer s H vs Q E hr h => ?_)
  · obtain ⟨n, _, rfl, _⟩ := h
    rfl
  · obtain ⟨n, hn, rfl, k⟩ := h
    refine ⟨_, (pss_cons (ps_if (pt_cmpR (op_in_kd D) (pv 0) (pe_glob (v := .ref dl) (by rfl) T.g__LIMITS rfl) (by rfl))
        (pss_cons (ps_asg (pe_ix ix_kdict (pe_glob (v := .ref dl) (by rfl) T.g__LIMITS rfl) (pv 0) (fun _ _ => rfl)) (pg_tup rfl (pgs_cons (pg_name (i := 1) scvalues_for.nd rfl (.inl rfl)) (pgs_cons (pg_name (i := 2) scvalues_for.nd rfl (.inl rfl)) pgs_nil))))
        (pss_one (ps_ret (pe_tupRg (by rfl) (by rfl) T.b_tuple (prg_2 (by rfl) T.b_range (pv 1) (pe_op op_add (pv 2) pe_int))))))
        pss_nil)
      (pss_one (ps_ret (pe_tup (pa_cons pe_bl (pa_cons pe_bl pa_nil)))))), ?_⟩
    have hc : (∃ lo hi : Int, ((n = "face" ∧ lo = 0 ∧ hi = 1) ∨ (n = "measure" ∧ lo = 1 ∧ hi = 6) ∨ (n = "space" ∧ lo = 0 ∧ hi = 2)) ∧ RgOk lo (hi + 1) ∧ rgV lo (hi + 1) = valsOf n) ∨ (n = "kept" ∨ n = "page" ∨ n = "out") := by
      simp only [List.mem_cons, List.not_mem_nil, or_false] at hn
      rcases hn with e | e | e | e
      · exact .inl ⟨0, 1, .inl ⟨e, rfl, rfl⟩, RgOk.of_le (by decide) (by decide) (by decide) (by decide), by rw [e]; decide +kernel⟩
      · exact .inl ⟨1, 6, .inr (.inl ⟨e, rfl, rfl⟩), RgOk.of_le (by decide) (by decide) (by decide) (by decide), by rw [e]; decide +kernel⟩
      · exact .inl ⟨0, 2, .inr (.inr ⟨e, rfl, rfl⟩), RgOk.of_le (by decide) (by decide) (by decide) (by decide), by rw [e]; decide +kernel⟩
      · exact .inr e
    rcases hc with ⟨lo, hi, hc, ok, ev⟩ | hn
    · obtain ⟨t, ht, hq⟩ := T.lims n lo hi hc
      refine ⟨_, rfl, n, _, rfl, rfl, ht, _, rfl, iteT ?_⟩
      refine ⟨_, rfl, dl, n, .ref t, rfl, rfl, ⟨es, en, _, D.at_, D.lit, ht, rfl⟩, ?_⟩
      exact ⟨t, _, rfl, hq _, rfl, _, _, rfl, _, _, rfl, rfl, _, rfl, _, rfl, _, _, rfl, rfl, _, _, rfl, rfl, ok, fun q hq => k q _ (Ext.upd hq) (by rw [ev]; exact SqT.of upd_same)⟩
    · have ev : valsOf n = [.bl false, .bl true] := by rcases hn with rfl | rfl | rfl <;> decide +kernel
      exact ⟨_, rfl, n, none, rfl, rfl, T.nolim n hn, _, rfl, iteF ⟨(by show 2 ≤ sizeLine; decide), fun q hq => k q _ (Ext.upd hq) (by rw [ev]; exact SqT.of upd_same)⟩⟩
end
end Pa
set_option maxRecDepth 100000
set_option maxHeartbeats 4000000
namespace Pa
open PySem PySem.Spec PyProof.Rows L2 RZ StX ClX
theorem strs_shaped {ps : List Str} (h : ∀ p ∈ ps, PyData.strOk p = true) : SeqAt.shaped (.list (ps.map PyData.str)) = true := sh_lst fun x hx => ⟨by rw [PyData.canLay0]; exact h x hx, by rw [PyData.depth]; exact Nat.zero_le _⟩
theorem weight_none {ps : List Str} (h : ∀ w < 10, ps ≠ [digT w]) : weightF ps = none := by
  unfold weightF
  rw [List.find?_eq_none]
  intro w hw q
  exact h w (List.mem_range.mp hw) (of_decide_eq_true q)
def wV : Option Nat → V
  | none => .non
  | some w => .int w
section
variable {P : Program} {w : World} {K : PySem.W.Frag} {mg : Str → Option Value} {base : Heap} {tv tp tk dl C CS CB : Addr}
def spWeight (K : PySem.W.Frag) : Sp := fun vs H Q _ => ∃ (a : Addr) (ps : List Str), vs = [.ref a] ∧ SqL K H a (ps.map V.str) ∧ (∀ p ∈ ps, PyData.strOk p = true) ∧ ∀ H', Ext H H' → Q (wV (weightF ps)) H'
abbrev s_weight_of : Stmt := topS 29
theorem sc_weight_of : FnScope ["parts", "weight"] ["parts"] (defScope s_weight_of) := ⟨rfl, rfl, rfl, by decide +kernel, rfl, by decide +kernel, by decide +kernel⟩
theorem ok_weight {f : Addr} {fd : FuncData} (F : Fun K "_weight_of" "_weight_of" s_weight_of f fd) (T : Txt K w mg tv tp tk dl C) (bs : mg "str" = none) : FnOk P w K mg base CX0 1 f fd ["parts"] (spWeight K) := by
  refine F.ok sc_weight_of (fun vs H Q E h => ?_) (fun cdv A outer s H vs Q E hr h => ?_)
  · obtain ⟨a, ps, rfl, _⟩ := h
    rfl
  · obtain ⟨a, ps, rfl, ha, hok, k⟩ := h
    refine ⟨_, (pss_cons (ps_for PassesOwn.never rfl (pi_range1 (by rfl) T.b_range (pa_cons pe_int pa_nil)) (pg_name (i := 1) sc_weight_of.nd rfl (.inl rfl))
        (pss_one (ps_if (pt_cmpR (op_eqD hr.units) (pv 0) (pe_lst (pa_cons (pe_callTy call_str_int (by rfl) bs (by decide +kernel) (pa_cons (pv 1) pa_nil)) pa_nil)) (nomark _))
          (pss_one (ps_ret (pv 1)))
          pss_nil)))
      (pss_one (ps_ret pe_non))), ?_⟩
    refine ⟨10, rfl, by decide, by decide, ?_⟩
    refine for_range (lo := 0) (n := 10) (fun i σ H' => Ext H H' ∧ (∀ v < i, ps ≠ [digT v]) ∧ ∃ x1, σ = [some (.ref a), x1]) ⟨Ext.rfl', (fun v h => absurd h (Nat.not_lt_zero _)), _, rfl⟩ (fun i σ H' hi h => ?_) (fun σ H' h => ?_)
    · obtain ⟨e, hno, x1, rfl⟩ := h
      have hlog : (0 + (i : Int)).natAbs.log2 < 1920 := by
        have h9 : (0 + (i : Int)).natAbs < 2 ^ 1920 := Nat.lt_of_lt_of_le (show (0 + (i : Int)).natAbs < 2 ^ 4 by omega) (Nat.pow_le_pow_right (by decide) (by decide))
        by_cases z : (0 + (i : Int)).natAbs = 0
        · rw [z]; decide
        · exact (Nat.log2_lt z).mpr h9
      have ed : (toString (0 + (i : Int)) : Str) = digT i := by rw [Int.zero_add]; rfl
      refine ⟨_, rfl, _, rfl, _, rfl, hlog, (by show 1 ≤ sizeLine; decide), fun D hD => ?_⟩
      rw [ed]
      have eD := Ext.upd (o := .lst [.str (digT i)]) hD
      have hdg : PyData.strOk (digT i) = true := free_ok (plain_toks.1 i (List.mem_range.mpr hi)).1
      refine ⟨_, _, .lst ((ha.ext e).ext eD) (dp_strs ps), .lst (SqL.of upd_same) (dp_strs [digT i]), strs_shaped hok, strs_shaped (fun p hp => by rw [List.mem_singleton.mp hp]; exact hdg), ?_⟩
      rw [e_ll, strs_eqv]
      refine ⟨_, rfl, ?_⟩
      by_cases q : ps = [digT i]
      · rw [decide_eq_true q]
        refine iteT ⟨_, rfl, ?_⟩
        have z := k _ (e.trans eD)
        rw [q, weight_dig i (List.mem_range.mpr hi)] at z
        rw [Int.zero_add]
        exact z
      · rw [decide_eq_false q]
        refine iteF ⟨e.trans eD, fun v hv => ?_, _, rfl⟩
        by_cases z : v = i
        · rw [z]; exact q
        · exact hno v (by omega)
    · obtain ⟨e, hno, x1, rfl⟩ := h
      have z := k _ e
      rw [weight_none hno] at z
      exact z
end
end Pa
set_option maxRecDepth 100000
set_option maxHeartbeats 4000000
namespace Pa
open PySem PySem.Spec PyProof.Rows L2 RZ StX ClX
theorem idx_at : ∀ {ns : List Str} {n : Str}, n ∈ ns → (ns.map V.str)[ns.idxOf n]? = some (.str n) ∧ ∀ (m : Nat) (z : V), m < ns.idxOf n → (ns.map V.str)[m]? = some z → eqV z (.str n) = false
  | x :: ns, n, h => by
    by_cases e : x = n
    · subst e
      rw [List.idxOf_cons_self]
      exact ⟨rfl, fun m z hm => absurd hm (Nat.not_lt_zero _)⟩
    · have hn : n ∈ ns := by
        rcases List.mem_cons.mp h with rfl | h
        · exact absurd rfl e
        · exact h
      obtain ⟨h1, h2⟩ := idx_at hn
      have ei : (x :: ns).idxOf n = ns.idxOf n + 1 := by rw [List.idxOf_cons, beq_eq_false_iff_ne.mpr e]; rfl
      rw [ei]
      refine ⟨h1, fun m z hm hz => ?_⟩
      cases m with
      | zero =>
        cases hz
        show (x == n) = false
        exact beq_eq_false_iff_ne.mpr e
      | succ m => exact h2 m z (by omega) hz
def selOf (prs : List PairD) (p : Str) : List PairD := prs.filter fun t => decide (tokT t = p)
theorem found_step {prs : List PairD} {ps : List Str} {i : Nat} {p : Str} {acc : List PairD} {l : Int} (h : ps[i]? = some p) : foundG prs (ps.drop i) acc l = match selOf prs p with | [] => none | t :: _ => if (idxP prs t.1 : Int) ≤ l then none else foundG prs (ps.drop (i + 1)) (acc ++ [t]) (idxP prs t.1) := by
  obtain ⟨hi, rfl⟩ := List.getElem?_eq_some_iff.mp h
  rw [List.drop_eq_getElem_cons hi, foundG]
  rfl
section
variable {P : Program} {w : World} {K : PySem.W.Frag} {mg : Str → Option Value} {base : Heap} {tv tp tk dl C CS CB : Addr}
def spFound (K : PySem.W.Frag) : Sp := fun vs H Q _ => ∃ (a b : Addr) (ps : List Str) (qs : List Addr) (prs : List PairD), vs = [.ref a, .ref b] ∧ SqL K H a (ps.map V.str) ∧ SqL K H b (qs.map V.ref) ∧ Sets K H qs prs ∧ (∀ t ∈ prs, t ∈ askedP ++ toldP) ∧ prs.length ≤ 20 ∧ ps.length ≤ 500 ∧
  (foundG prs ps [] (-1) = none → ∀ H', Ext H H' → Q .non H') ∧ ∀ r, foundG prs ps [] (-1) = some r → ∀ l rs H', Ext H H' → H' l = some (.lst (rs.map V.ref)) → Sets K H' rs r → Q (.ref l) H'
abbrev s_found : Stmt := topS 30
theorem sc_found : FnScope ["parts", "pairs", "found", "last", "names", "pair", "part", "told"] ["parts", "pairs"] (defScope s_found) := ⟨rfl, rfl, rfl, by decide +kernel, rfl, by decide +kernel, by decide +kernel⟩
theorem ok_found {f : Addr} {fd : FuncData} (F : Fun K "_found" "_found" s_found f fd) (C__part : CallOk P w K mg base 1 "_part" ["name", "value"] spPart) : FnOk P w K mg base CX0 2 f fd ["parts", "pairs"] (spFound K) := by
  refine F.ok sc_found (fun vs H Q E h => ?_) (fun cdv A outer s H vs Q E hr h => ?_)
  · obtain ⟨a, b, ps, qs, prs, rfl, _⟩ := h
    rfl
  · obtain ⟨a, b, ps, qs, prs, rfl, ha, hb, hq, hin, hpl, hps, kn, ks⟩ := h
    have hql : qs.length = prs.length := Paired.length hq
    refine ⟨_, (pss_cons (ps_set (i := 2) sc_found.nd rfl (.inl rfl) (pe_lst pa_nil))
      (pss_cons (ps_set (i := 3) sc_found.nd rfl (.inl rfl) (pe_un un_neg pe_int))
      (pss_cons (ps_setLc (i := 4) (own := [("pair", 5)]) (g := gName 5) (tt := tYes) rfl sc_found.nd rfl rfl (sw_true rfl rfl rfl (by decide +kernel)) (pi_list (pv 1)) (blkOk_by (N := ["parts", "pairs", "found", "last", "names", "pair", "part", "told"]) (sc := defScope s_found) (by decide +kernel)) (fun _ _ _ _ _ => (pg_name (i := 5) sc_found.nd rfl (.inl rfl))) (fun _ _ _ _ _ => pts_nil) (fun _ _ _ _ _ => (pe_ix (r := rIxT K) ix_tup (pv 5) pe_int (fun _ _ => rfl))))
      (pss_cons (ps_for PassesOwn.never rfl (pi_list (pv 0)) (pg_name (i := 6) sc_found.nd rfl (.inr rfl))
        (pss_cons (ps_setLc (i := 7) (own := [("pair", 5)]) (g := gName 5) rfl sc_found.nd rfl rfl (sw_true rfl rfl rfl (by decide +kernel)) (pi_list (pv 1)) (blkOk_by (N := ["parts", "pairs", "found", "last", "names", "pair", "part", "told"]) (sc := defScope s_found) (by decide +kernel)) (fun _ _ _ _ _ => (pg_name (i := 5) sc_found.nd rfl (.inl rfl))) (fun _ _ _ _ _ => (pts_one (pt_cmpR op_eq (pe_cc C__part (hr.mono (by decide)) (by rfl) (pa_cons (pe_ix (r := rIxT K) ix_tup (pv 5) pe_int (fun _ _ => rfl)) (pa_cons (pe_ix (r := rIxT K) ix_tup (pv 5) pe_int (fun _ _ => rfl)) pa_nil))) (pv 6) (nomark _)))) (fun _ _ _ _ _ => (pv 5)))
        (pss_cons (ps_if (PW.pt (pw_or (pt_not (pt_truth (pv 7) (by intro _; rfl))) (pw_or1 (pt_cmpR op_le (pe_bm PySem.F.plainAttrs_list PySem.F.slot_list_index PySem.F.type_list_index mt_index (pv 4) (pa_cons (pe_ix ix_tup (pe_ix ix_list (pv 7) pe_int (fun _ _ => rfl)) pe_int (fun _ _ => rfl)) pa_nil)) (pv 3) (nomark _)))))
          (pss_one (ps_ret pe_non))
          pss_nil)
        (pss_cons (ps_set (i := 3) sc_found.nd rfl (.inl rfl) (pe_bm PySem.F.plainAttrs_list PySem.F.slot_list_index PySem.F.type_list_index mt_index (pv 4) (pa_cons (pe_ix ix_tup (pe_ix ix_list (pv 7) pe_int (fun _ _ => rfl)) pe_int (fun _ _ => rfl)) pa_nil)))
        (pss_one (ps_expr (pe_bm PySem.F.plainAttrs_list PySem.F.slot_list_append PySem.F.type_list_append mt_append (pv 2) (pa_cons (pe_ix ix_list (pv 7) pe_int (fun _ _ => rfl)) pa_nil))))))))
      (pss_one (ps_ret (pv 2))))))), ?_⟩
    refine ⟨(by show 0 ≤ sizeLine; decide), fun L hL => ?_⟩
    have eL := Ext.upd (o := .lst []) hL
    have gL : upd H L (.lst []) L = some (.lst []) := upd_same
    refine ⟨_, rfl, ?_⟩
    refine ⟨_, rfl, b, rfl, ⟨_, hb.ext eL⟩, fun N hN => ?_⟩
    have hLN : L ≠ N := ne_of_none gL hN
    generalize upd H L (.lst []) = H0 at eL gL hN ⊢
    refine lc_list (xs := qs.map V.ref) (fun i H' => (∀ q u, q ≠ N → H0 q = some u → H' q = some u) ∧ H' N = some (.lst (((prs.map (·.1)).take i).map V.str))) ⟨fun q u hq e => by rw [upd_ne hq]; exact e, upd_same⟩ (fun i H' _ h => (hb.ext eL).ext fun q u e => h.1 q u (ne_of_none e hN) e) (fun i v H' hv h => ?_) (fun H1 h => ?_)
    · obtain ⟨k1, k2⟩ := h
      have ex : Ext H0 H' := fun q u e => k1 q u (ne_of_none e hN) e
      obtain ⟨r, y, rfl, hy, hr'⟩ := sets_at ((Sets.ext hq eL).ext ex) hv
      have hi := (List.getElem?_eq_some_iff.mp hy).1
      refine ⟨rfl, _, rfl, r, _, _, _, rfl, rfl, hr', atI_nat (j := 0) rfl, _, k2, ?_, fun q u hq e => ?_, ?_⟩
      · rw [List.length_map, List.length_take, List.length_map]
        exact Nat.lt_of_le_of_lt (Nat.min_le_left _ _) (Nat.lt_of_lt_of_le (by omega : i < 1000) (by decide))
      · rw [upd_ne hq]
        exact k1 q u hq e
      · rw [upd_same, List.take_add_one, List.getElem?_map, hy, List.map_append]
        rfl
    obtain ⟨k1, k2⟩ := h
    rw [List.length_map, hql, List.take_of_length_le (by rw [List.length_map]; exact Nat.le_refl _)] at k2
    have e01 : Ext H0 H1 := fun q u e => k1 q u (ne_of_none e hN) e
    have gL1 := e01 _ _ gL
    have hL0 : ∀ {q : Addr} {u : HO}, H q = some u → q ≠ L := fun e q => by rw [q, hL] at e; cases e
    refine ⟨_, rfl, a, rfl, ⟨_, (ha.ext eL).ext e01⟩, ?_⟩
    refine for_list (xs := ps.map V.str) (fun i σ H' => (Ext H H' ∧ H' N = some (.lst ((prs.map (·.1)).map V.str)) ∧ ∃ acc rs l, H' L = some (.lst (rs.map V.ref)) ∧ Sets K H' rs acc ∧ acc.length ≤ i ∧ foundG prs ps [] (-1) = foundG prs (ps.drop i) acc l ∧
        ∃ x5 x6 x7, σ = [some (.ref a), some (.ref b), some (.ref L), some (.int l), some (.ref N), x5, x6, x7]))
      ⟨eL.trans e01, k2, [], [], -1, gL1, .nil, Nat.le_refl _, rfl, _, _, _, rfl⟩ (fun i σ H' _ h => ha.ext h.1) (fun i v σ H' hv h => ?_) (fun σ H' h => ?_)
    · obtain ⟨e, gN, acc, rs, l, g, hs, hal, hf, x5, x6, x7, rfl⟩ := h
      obtain ⟨p, hp, rfl⟩ : ∃ p, ps[i]? = some p ∧ v = .str p := by
        rw [List.getElem?_map] at hv
        cases q : ps[i]? with
        | none => rw [q] at hv; cases hv
        | some p => rw [q] at hv; exact ⟨p, rfl, (Option.some.inj hv).symm⟩
      have hi := (List.getElem?_eq_some_iff.mp hp).1
      have hstep := found_step (prs := prs) (acc := acc) (l := l) hp
      refine ⟨_, rfl, b, rfl, ⟨_, hb.ext e⟩, fun D hD => ?_⟩
      refine lc_list (xs := qs.map V.ref) (fun k H'' => (∀ q u, q ≠ D → H' q = some u → H'' q = some u) ∧ ∃ sel : List Addr, H'' D = some (.lst (sel.map V.ref)) ∧ Sets K H'' sel (selOf (prs.take k) p)) ⟨fun q u hq e => by rw [upd_ne hq]; exact e, [], upd_same, .nil⟩ (fun k H'' _ h => (hb.ext e).ext fun q u e => h.1 q u (ne_of_none e hD) e) (fun k v H'' hv h => ?_) (fun H2 h => ?_)
      · obtain ⟨k1, sel, k2, k3⟩ := h
        have ex : Ext H' H'' := fun q u e => k1 q u (ne_of_none e hD) e
        obtain ⟨r, y, rfl, hy, hr'⟩ := sets_at ((Sets.ext hq e).ext ex) hv
        have hk := (List.getElem?_eq_some_iff.mp hy).1
        have et : prs.take (k + 1) = prs.take k ++ [y] := by rw [List.take_add_one, hy]; rfl
        have hsl : sel.length ≤ k := by
          have h1 : sel.length = (selOf (prs.take k) p).length := Paired.length k3
          have h2 := List.length_filter_le (fun t => decide (tokT t = p)) (prs.take k)
          have h3 : (prs.take k).length ≤ k := by rw [List.length_take]; exact Nat.min_le_left _ _
          unfold selOf at h1
          omega
        refine ⟨rfl, _, rfl, r, _, _, _, rfl, rfl, hr', atI_nat (j := 0) rfl, _, rfl, r, _, _, _, rfl, rfl, hr', atI_nat (j := 1) rfl, y, hin y (List.mem_of_getElem? hy), rfl, _, rfl, rfl, _, rfl, ?_⟩
        by_cases eq : tokT y = p
        · rw [decide_eq_true (congrArg V.str eq)]
          refine iteT ⟨_, rfl, _, k2, ?_, fun q u hq e => ?_, sel ++ [r], ?_, ?_⟩
          · rw [List.length_map]
            exact Nat.lt_of_lt_of_le (by omega : sel.length < 1000) (by decide)
          · rw [upd_ne hq]
            exact k1 q u hq e
          · rw [upd_same, List.map_append]
            rfl
          · have ef : selOf (prs.take (k + 1)) p = selOf (prs.take k) p ++ [y] := by
              unfold selOf
              rw [et, List.filter_append, List.filter_cons, if_pos (decide_eq_true eq)]
              rfl
            rw [ef]
            exact sets_upd (u := .lst (sel.map V.ref)) (sets_app (x := y) k3 hr') k2 (fun _ q => nomatch q) fun _ _ q => nomatch q
        · rw [decide_eq_false (fun q => eq (V.str.inj q) : ¬ V.str (tokT y) = V.str p)]
          refine iteF ⟨k1, sel, k2, ?_⟩
          have ef : selOf (prs.take (k + 1)) p = selOf (prs.take k) p := by
            unfold selOf
            rw [et, List.filter_append, List.filter_cons, if_neg (fun q => eq (of_decide_eq_true q))]
            simp
          rw [ef]
          exact k3
      obtain ⟨k1, sel, k2, k3⟩ := h
      rw [List.length_map, hql, List.take_length] at k3
      have ex : Ext H' H2 := fun q u e => k1 q u (ne_of_none e hD) e
      have e2 := e.trans ex
      have g2 := ex _ _ g
      have gN2 := ex _ _ gN
      have hs2 := hs.ext ex
      refine ⟨_, rfl, _, .inl ⟨_, SqL.of k2, rfl⟩, ?_⟩
      cases hsel : selOf prs p with
      | nil =>
        rw [hsel] at k3 hstep
        cases k3
        exact iteT (kn (hf.trans hstep) H2 e2)
      | cons t rest =>
        rw [hsel] at k3 hstep
        obtain ⟨r0, sr, rfl, hr0⟩ : ∃ r0 sr, sel = r0 :: sr ∧ SqT K H2 r0 [.str t.1, t.2] := by
          cases k3 with
          | cons a b => exact ⟨_, _, rfl, a⟩
        simp only at hstep
        have htm : t ∈ prs := by
          have : t ∈ selOf prs p := by rw [hsel]; exact List.mem_cons_self
          exact (List.mem_filter.mp this).1
        obtain ⟨x1, x2⟩ := idx_at (List.mem_map_of_mem (f := fun z : PairD => z.1) htm)
        have xe : eqV (.str t.1) (.str t.1) = true := by show (t.1 == t.1) = true; exact beq_self_eq_true _
        refine iteF ⟨_, rfl, .inl ⟨rfl, _, SqL.of gN2⟩, _, rfl, D, _, _, _, rfl, rfl, SqL.of k2, atI_nat (j := 0) rfl, r0, _, _, _, rfl, rfl, hr0, atI_nat (j := 0) rfl, N, _, _, _, _, rfl, rfl, SqL.of gN2, rfl, flat_strs _, x1, xe, x2, _, rfl, _, _, rfl, rfl, _, rfl, ?_⟩
        by_cases hle : ((prs.map (·.1)).idxOf t.1 : Int) ≤ l
        · rw [decide_eq_true hle]
          have hz : foundG prs ps [] (-1) = none := by
            rw [hf, hstep]
            exact if_pos hle
          exact iteT (kn hz H2 e2)
        · rw [decide_eq_false hle]
          refine iteF ⟨_, rfl, .inl ⟨rfl, _, SqL.of gN2⟩, _, rfl, D, _, _, _, rfl, rfl, SqL.of k2, atI_nat (j := 0) rfl, r0, _, _, _, rfl, rfl, hr0, atI_nat (j := 0) rfl, N, _, _, _, _, rfl, rfl, SqL.of gN2, rfl, flat_strs _, x1, xe, x2, ?_⟩
          have hrl : rs.length = acc.length := Paired.length hs
          refine ⟨_, rfl, .inl ⟨rfl, _, SqL.of g2⟩, _, rfl, D, _, _, _, rfl, rfl, SqL.of k2, atI_nat (j := 0) rfl, L, _, _, rfl, rfl, g2, ?_, ?_⟩
          · rw [List.length_map]
            exact Nat.lt_of_lt_of_le (by omega : rs.length < 1000) (by decide)
          · refine ⟨fun q u eq => by rw [upd_ne (hL0 eq)]; exact e2 _ _ eq, by rw [upd_ne (Ne.symm hLN)]; exact gN2, acc ++ [t], rs ++ [r0], _, by rw [upd_same, List.map_append]; rfl, ?_, by rw [List.length_append, List.length_singleton]; omega, ?_, _, _, _, rfl⟩
            · exact sets_upd (u := .lst (rs.map V.ref)) (sets_app (x := t) hs2 hr0) g2 (fun _ q => nomatch q) fun _ _ q => nomatch q
            · rw [hf, hstep]
              exact if_neg hle
    · obtain ⟨e, gN, acc, rs, l, g, hs, hal, hf, x5, x6, x7, rfl⟩ := h
      rw [List.length_map, List.drop_length, foundG] at hf
      exact ⟨_, rfl, ks acc hf L rs H' e g hs⟩
end
end Pa
set_option maxRecDepth 100000
set_option maxHeartbeats 4000000
namespace Pa
open PySem PySem.Spec PyProof.Rows L2 RZ StX ClX
/-! ### [(n, v) for n in names for v in values(n)] -/
def pairsOf (vals : Str → List V) (names : List Str) : List PairD := names.flatMap fun n => (vals n).map fun v => (n, v)
theorem pairsOf_app (vals : Str → List V) (xs ys : List Str) : pairsOf vals (xs ++ ys) = pairsOf vals xs ++ pairsOf vals ys := List.flatMap_append
theorem Sets.lstU {K : PySem.W.Frag} {H : Hp} {rs : List Addr} {sets : List PairD} {D : Addr} {xs : List V} {o : HO} (h : Sets K H rs sets) (hD : H D = some (.lst xs)) : Sets K (upd H D o) rs sets := sets_upd h hD (fun _ q => nomatch q) fun _ _ q => nomatch q
theorem pairs_lc2 {K : PySem.W.Frag} {tp : Addr} {names : List Str} {vals : Str → List V} {σ : L2.St} {H : Hp} {wi wi1 : TI} {j k : Nat} {Q : VK} (ht : SqT K H tp (names.map V.str)) (hl : names.length ≤ 10) (hv : ∀ n ∈ names, (vals n).length ≤ 10)
    (hwi : ∀ W : It → Hp → Prop, W (Itt K tp) H → wi σ H W)
    (hin : ∀ n ∈ names, ∀ (H3 : Hp) (R : It → Hp → Prop), Ext H H3 → (∀ p H4, Ext H3 H4 → SqT K H4 p (vals n) → R (Itt K p) H4) → wi1 ((wipe σ [j, k]).set j (some (.str n))) H3 R)
    (hw1 : ∀ v, wipe ((wipe σ [j, k]).set j (some v)) [j, k] = wipe σ [j, k]) (hw2 : ∀ v u, wipe ((wipe ((wipe σ [j, k]).set j (some v)) [k]).set k (some u)) [k] = wipe ((wipe σ [j, k]).set j (some v)) [k])
    (hj : ∀ v u, ((wipe ((wipe σ [j, k]).set j (some v)) [k]).set k (some u))[j]? = some (some v)) (hk : ∀ v u, ((wipe ((wipe σ [j, k]).set j (some v)) [k]).set k (some u))[k]? = some (some u))
    (q : ∀ (D : Addr) (qs : List Addr) H', H D = none → Ext H H' → H' D = some (.lst (qs.map V.ref)) → Sets K H' qs (pairsOf vals names) → Q (.ref D) H') :
    tLc2 wi (gName j) tYes wi1 (gName k) tYes (tTup (tCons (tVar j) (tCons (tVar k) tNil))) [j, k] [k] σ H Q := by
  refine hwi _ fun D hD => ?_
  have small : ∀ m : Nat, m ≤ 200 → m < sizeLine := fun m hm => Nat.lt_of_le_of_lt hm (by decide)
  have len : ∀ xs : List Str, (∀ n ∈ xs, n ∈ names) → (pairsOf vals xs).length ≤ xs.length * 10 := fun xs => by
    induction xs with
    | nil => intro _; exact Nat.zero_le _
    | cons x xs ih =>
      intro h
      have h1 := ih fun n hn => h n (List.mem_cons_of_mem _ hn)
      have h2 := hv x (h x List.mem_cons_self)
      unfold pairsOf at h1 ⊢
      rw [List.flatMap_cons, List.length_append, List.length_map, List.length_cons]
      omega
  refine ⟨fun i m H' => m = names.length - i ∧ i ≤ names.length ∧ (∀ q u, q ≠ D → H q = some u → H' q = some u) ∧ ∃ qs : List Addr, H' D = some (.lst (qs.map V.ref)) ∧ Sets K H' qs (pairsOf vals (names.take i)), ⟨names.length, by simp, Nat.zero_le _, fun q u hq e => by rw [upd_ne hq]; exact e, [], upd_same, .nil⟩, ?_⟩
  rintro i m H' ⟨rfl, hi, k1, qs, k2, k3⟩
  have ex : Ext H H' := fun q u e => k1 q u (ne_of_none e hD) e
  have ht' := ht.ext ex
  have hlm : (names.map V.str).length = names.length := List.length_map ..
  by_cases hlt : i < names.length
  · refine .inr ⟨⟨_, .str names[i], ht', by rw [List.getElem?_map, List.getElem?_eq_getElem hlt]; rfl⟩, fun H'' => (∀ q u, q ≠ D → H q = some u → H'' q = some u) ∧ ∃ qs : List Addr, H'' D = some (.lst (qs.map V.ref)) ∧ Sets K H'' qs (pairsOf vals (names.take (i + 1))), fun H'' p' => ⟨_, by omega, rfl, hlt, p'⟩, fun x H'' y => ?_⟩
    obtain ⟨e, y⟩ := y
    subst e
    have hx := y _ ht'
    rw [List.getElem?_map, List.getElem?_eq_getElem hlt] at hx
    cases hx
    have hmem : names[i] ∈ names := List.getElem_mem hlt
    refine ⟨hw1 _, hin _ hmem H'' _ ex fun p H4 e4 hp => ?_⟩
    have g4 := e4 _ _ k2
    have et : names.take (i + 1) = names.take i ++ [names[i]] := by rw [List.take_add_one, List.getElem?_eq_getElem hlt]; rfl
    have hsub : ∀ n ∈ names.take i, n ∈ names := fun n hn => List.mem_of_mem_take hn
    have hlen0 := len _ hsub
    have hti : (names.take i).length ≤ 10 := by rw [List.length_take]; omega
    refine ⟨fun a b G => b = (vals names[i]).length - a ∧ a ≤ (vals names[i]).length ∧ (∀ q u, q ≠ D → H4 q = some u → G q = some u) ∧ ∃ qs : List Addr, G D = some (.lst (qs.map V.ref)) ∧ Sets K G qs (pairsOf vals (names.take i) ++ ((vals names[i]).take a).map fun v => (names[i], v)),
      ⟨_, rfl, Nat.zero_le _, fun q u _ e => e, qs, g4, by rw [List.take_zero, List.map_nil, List.append_nil]; exact k3.ext e4⟩, ?_⟩
    rintro a b G ⟨rfl, ha, l1, qs2, l2, l3⟩
    have eD4 : ∀ {q u}, H'' q = some u → q ≠ D → H4 q = some u := fun e _ => e4 _ _ e
    have hpD : ∀ {xs : List V}, SqT K H4 p xs → SqT K G p xs := fun h => by
      rcases h with (h | ⟨o, h⟩) | h
      · exact .inl (.inl (l1 _ _ (fun z => by rw [z, g4] at h; cases h) h))
      · exact .inl (.inr ⟨o, l1 _ _ (fun z => by rw [z, g4] at h; cases h) h⟩)
      · exact .inr h
    have hpG := hpD hp
    by_cases hla : a < (vals names[i]).length
    · refine .inr ⟨⟨_, _, hpG, List.getElem?_eq_getElem hla⟩, fun G' => (∀ q u, q ≠ D → H4 q = some u → G' q = some u) ∧ ∃ qs : List Addr, G' D = some (.lst (qs.map V.ref)) ∧ Sets K G' qs (pairsOf vals (names.take i) ++ ((vals names[i]).take (a + 1)).map fun v => (names[i], v)), fun G' p' => ⟨_, by omega, rfl, hla, p'⟩, fun x G' y => ?_⟩
      obtain ⟨e, y⟩ := y
      subst e
      have hx := y _ hpG
      rw [List.getElem?_eq_getElem hla] at hx
      cases hx
      refine ⟨hw2 _ _, _, hj _ _, _, hk _ _, (by show 2 ≤ sizeLine; decide), fun r hr => ?_⟩
      have er := Ext.upd (o := .tup [.str names[i], (vals names[i])[a]]) hr
      have g5 := er _ _ l2
      have hql : qs2.length ≤ 110 := by
        have h1 : qs2.length = _ := Paired.length l3
        rw [List.length_append, List.length_map, List.length_take] at h1
        have := hv _ hmem
        omega
      refine ⟨_, g5, by rw [List.length_map]; exact small _ (by omega), fun q u hq e => ?_, qs2 ++ [r], by rw [upd_same, List.map_append]; rfl, ?_⟩
      · rw [upd_ne hq]
        exact er _ _ (l1 q u hq e)
      · have ea : ((vals names[i]).take (a + 1)).map (fun v => ((names[i], v) : PairD)) = ((vals names[i]).take a).map (fun v => (names[i], v)) ++ [(names[i], (vals names[i])[a])] := by
          rw [List.take_add_one, List.getElem?_eq_getElem hla, List.map_append]
          rfl
        rw [ea, ← List.append_assoc]
        exact (sets_app (x := (names[i], (vals names[i])[a])) (l3.ext er) (SqT.of upd_same)).lstU g5
    · have ea : a = (vals names[i]).length := by omega
      subst ea
      refine .inl ⟨⟨_, hpG, Nat.le_refl _⟩, fun q u hq e => l1 q u hq (e4 _ _ (k1 q u hq e)), qs2, l2, ?_⟩
      rw [List.take_length] at l3
      have ep : pairsOf vals (names.take (i + 1)) = pairsOf vals (names.take i) ++ (vals names[i]).map fun v => (names[i], v) := by
        rw [et, pairsOf_app]
        congr 1
        unfold pairsOf
        rw [List.flatMap_cons, List.flatMap_nil, List.append_nil]
      rw [ep]
      exact l3
  · have e : i = names.length := by omega
    subst e
    refine .inl ⟨⟨_, ht', by rw [hlm]; exact Nat.le_refl _⟩, ?_⟩
    rw [List.take_length] at k3
    exact q D qs H' hD ex k2 k3
theorem pairs_asked : pairsOf (fun n => (texts n).map V.str) PN = askedP := by decide +kernel
theorem pairs_told : pairsOf valsOf VN = toldP := by decide +kernel
end Pa
set_option maxRecDepth 100000
set_option maxHeartbeats 4000000
namespace Pa
open PySem PySem.Spec PyProof.Rows L2 RZ StX ClX
/-! ### a dict of such pairs -/
def keysOf (a : List PairD) : List (L2.Key × V) := a.map fun t => ((Sum.inr t.1 : L2.Key), t.2)
theorem merge_app : ∀ (b c : List PairD), ((c ++ b).map (·.1)).Nodup → mergeK (keysOf c) (keysOf b) = keysOf (c ++ b)
  | [], c, _ => by rw [List.append_nil]; rfl
  | t :: b, c, h => by
    have hn : ((keysOf c).any fun kv => decide (kv.1 = (Sum.inr t.1 : L2.Key))) = false := by
      refine Bool.eq_false_iff.mpr fun q => ?_
      obtain ⟨kv, hkv, hd⟩ := List.any_eq_true.mp q
      obtain ⟨u, hu, rfl⟩ := List.mem_map.mp hkv
      have e : u.1 = t.1 := Sum.inr.inj (of_decide_eq_true hd)
      rw [List.map_append, List.map_cons] at h
      have := (List.nodup_append.mp h).2.2 u.1 (List.mem_map_of_mem hu) t.1 List.mem_cons_self
      exact this e
    have e1 : putK (keysOf c) (Sum.inr t.1) t.2 = keysOf (c ++ [t]) := by
      unfold putK
      rw [hn, if_neg Bool.false_ne_true]
      unfold keysOf
      rw [List.map_append]
      rfl
    show mergeK (putK (keysOf c) (Sum.inr t.1) t.2) (keysOf b) = _
    rw [e1, merge_app b (c ++ [t]) (by rw [List.append_assoc]; exact h), List.append_assoc]
    rfl
theorem merge_keys {a : List PairD} (h : (a.map (·.1)).Nodup) : mergeK [] (keysOf a) = keysOf a := merge_app a [] h
theorem val_keys {n : Str} : ∀ a : List PairD, valV (keysOf a) (Sum.inr n : L2.Key) = a.lookup n
  | [] => rfl
  | t :: a => by
    by_cases e : t.1 = n
    · subst e
      show valV ((Sum.inr t.1, t.2) :: keysOf a) _ = _
      rw [valV_pos rfl, List.lookup_cons, beq_self_eq_true]
    · show valV ((Sum.inr t.1, t.2) :: keysOf a) _ = _
      rw [valV_neg (fun q => e (Sum.inr.inj q)), val_keys a, List.lookup_cons, beq_eq_false_iff_ne.mpr (Ne.symm e)]
theorem inc_nodup {ps : List PairD} : ∀ {sel : List PairD} {l : Int}, IncP ps l sel → (sel.map (·.1)).Nodup ∧ ∀ t ∈ sel, l < (idxP ps t.1 : Int)
  | [], _, _ => ⟨.nil, fun _ h => nomatch h⟩
  | t :: sel, l, h => by
    obtain ⟨h1, h2⟩ := inc_nodup h.2
    refine ⟨List.nodup_cons.mpr ⟨fun q => ?_, h1⟩, fun u hu => ?_⟩
    · obtain ⟨u, hu, e⟩ := List.mem_map.mp q
      have := h2 u hu
      rw [show u.1 = t.1 from e] at this
      omega
    · rcases List.mem_cons.mp hu with rfl | hu
      · exact h.1
      · have := h2 u hu
        have := h.1
        omega
theorem cut_mid {xs : List V} {j : Nat} (h1 : 1 ≤ xs.length) (hj : j ≤ xs.length) : cutV xs (some 1) (some (j : Int)) = (xs.take j).drop 1 := by
  unfold cutV
  have e1 : HT.sIx xs.length 0 (some 1) = 1 := by
    rw [show (1 : Int) = ((1 : Nat) : Int) from rfl, HT.sIx_nat, Nat.min_eq_left h1]
  rw [e1, HT.sIx_nat, Nat.min_eq_left hj, List.drop_take]
end Pa
set_option maxRecDepth 100000
set_option maxHeartbeats 4000000
namespace Pa
open PySem PySem.Spec PyProof.Rows L2 RZ StX ClX
abbrev NF : List Str := ["line", "parts", "colon", "weight", "asked", "name", "text", "told", "value", "given"]
/-- pairs found, or none -/
def FoundAt (K : PySem.W.Frag) (H : Hp) (v : V) (r : Option (List PairD)) : Prop := match r with
  | none => v = .non
  | some a => ∃ l rs, v = .ref l ∧ H l = some (.lst (rs.map V.ref)) ∧ Sets K H rs a
theorem FoundAt.ext {K : PySem.W.Frag} {H H' : Hp} {v : V} {r : Option (List PairD)} (h : FoundAt K H v r) (e : Ext H H') : FoundAt K H' v r := by
  unfold FoundAt at *
  cases r with
  | none => exact h
  | some a =>
    obtain ⟨l, rs, h1, h2, h3⟩ := h
    exact ⟨l, rs, h1, e _ _ h2, h3.ext e⟩
section
variable {P : Program} {w : World} {K : PySem.W.Frag} {mg : Str → Option Value} {base : Heap} {tv tp tk dl C CS CB : Addr}
def spFields (K : PySem.W.Frag) : Sp := fun vs H Q _ => ∃ s : Str, vs = [.str s] ∧ s.length ≤ 400 ∧ freeOf 10 s = true ∧ (fieldsP (Txt.split s " ") = none → ∀ H', Ext H H' → Q .non H') ∧
  ∀ wt a t, fieldsP (Txt.split s " ") = some (wt, a, t) → ∀ p l m rs H', Ext H H' → SqT K H' p [.int (wt : Nat), .ref l, .ref m] → H' l = some (.lst (PN.map fun n => (a.lookup n).getD (.str ""))) → H' m = some (.lst (rs.map V.ref)) → Sets K H' rs t → Q (.ref p) H'
abbrev s_fields_of : Stmt := topS 28
theorem sc_fields_of : FnScope NF ["line"] (defScope s_fields_of) := ⟨rfl, rfl, rfl, by decide +kernel, rfl, by decide +kernel, by decide +kernel⟩
theorem ok_fields {f : Addr} {fd : FuncData} (F : Fun K "_fields_of" "_fields_of" s_fields_of f fd) (T : Txt K w mg tv tp tk dl C) (C__weight_of : CallOk P w K mg base 1 "_weight_of" ["parts"] (spWeight K)) (C__found : CallOk P w K mg base 2 "_found" ["parts", "pairs"] (spFound K))
    (C_texts_for : CallOk P w K mg base 1 "texts_for" ["name"] (spTexts K)) (C_values_for : CallOk P w K mg base 1 "values_for" ["name"] (spVals K)) : FnOk P w K mg base CX0 3 f fd ["line"] (spFields K) := by
  refine F.ok sc_fields_of (fun vs H Q E h => ?_) (fun cdv A outer s H vs Q E hr h => ?_)
  · obtain ⟨s, rfl, _⟩ := h
    rfl
  · obtain ⟨ln, rfl, hlen, hfr, kn, ks⟩ := h
    have hu1 := Nat.lt_of_le_of_lt (Nat.add_le_add_left (by decide : 1 ≤ 64) _) hr.units
    refine ⟨_, (pss_cons (ps_set (i := 1) sc_fields_of.nd rfl (.inl rfl) (pe_split (pv 0) pe_str))
      (pss_cons (ps_if (pt_cmpR op_notIn_seq pe_str (pv 1) (by rfl))
        (pss_one (ps_ret pe_non))
        pss_nil)
      (pss_cons (ps_set (i := 2) sc_fields_of.nd rfl (.inl rfl) (pe_bm PySem.F.plainAttrs_list PySem.F.slot_list_index PySem.F.type_list_index mt_index (pv 1) (pa_cons pe_str pa_nil)))
      (pss_cons (ps_set (i := 3) sc_fields_of.nd rfl (.inl rfl) (pe_cc C__weight_of (hr.mono (by decide)) (by rfl) (pa_cons (pe_slice sl_list (pv 1) po_none (po_some pe_int)) pa_nil)))
      (pss_cons (ps_set (i := 4) sc_fields_of.nd rfl (.inl rfl) (pe_cc C__found (hr.mono (by decide)) (by rfl) (pa_cons (pe_slice sl_list (pv 1) (po_some pe_int) (po_some (pv 2))) (pa_cons (pe_lc2 (own := [("name", 5), ("text", 6)]) (vs1 := [6]) (wi1 := iTup K (tCall (spTexts K) [] E0 (tCons (tVar 5) tNil))) (g := gName 5) (g1 := gName 6) (tt := tYes) (tt1 := tYes) rfl sc_fields_of.nd (pi_tup (pe_glob (v := .ref tp) (by rfl) T.g_PATTERN_NAMES rfl))
        (blkOk_by (N := NF) (sc := defScope s_fields_of) (by decide +kernel)) (by decide) (fun _ _ _ _ _ => (pg_name (i := 5) sc_fields_of.nd rfl (.inl rfl))) (fun _ _ _ _ _ => pts_nil) (fun _ _ _ _ _ => pi_tup (pe_cc C_texts_for (hr.mono (by decide)) (by rfl) (pa_cons (pv 5) pa_nil)))
        (fun _ _ _ _ _ => (pg_name (i := 6) sc_fields_of.nd rfl (.inl rfl))) (fun _ _ _ _ _ => pts_nil) (fun _ _ _ _ _ => (pe_tup (pa_cons (pv 5) (pa_cons (pv 6) pa_nil))))) pa_nil))))
      (pss_cons (ps_set (i := 7) sc_fields_of.nd rfl (.inl rfl) (pe_cc C__found (hr.mono (by decide)) (by rfl) (pa_cons (pe_slice sl_list (pv 1) (po_some (pe_op op_add (pv 2) pe_int)) po_none) (pa_cons (pe_lc2 (own := [("name", 5), ("value", 8)]) (vs1 := [8]) (wi1 := iTup K (tCall (spVals K) [] E0 (tCons (tVar 5) tNil))) (g := gName 5) (g1 := gName 8) (tt := tYes) (tt1 := tYes) rfl sc_fields_of.nd (pi_tup (pe_glob (v := .ref tv) (by rfl) T.g_VALUE_NAMES rfl))
        (blkOk_by (N := NF) (sc := defScope s_fields_of) (by decide +kernel)) (by decide) (fun _ _ _ _ _ => (pg_name (i := 5) sc_fields_of.nd rfl (.inl rfl))) (fun _ _ _ _ _ => pts_nil) (fun _ _ _ _ _ => pi_tup (pe_cc C_values_for (hr.mono (by decide)) (by rfl) (pa_cons (pv 5) pa_nil)))
        (fun _ _ _ _ _ => (pg_name (i := 8) sc_fields_of.nd rfl (.inl rfl))) (fun _ _ _ _ _ => pts_nil) (fun _ _ _ _ _ => (pe_tup (pa_cons (pv 5) (pa_cons (pv 8) pa_nil))))) pa_nil))))
      (pss_cons (ps_if (PW.pt (pw_or (pt_cmpR op_isN (pv 3) pe_non (nomark _)) (pw_or (pt_cmpR op_isN (pv 4) pe_non (nomark _)) (pw_or1 (pt_not (pt_truth (pv 7) (by intro _; rfl)))))))
        (pss_one (ps_ret pe_non))
        pss_nil)
      (pss_cons (ps_set (i := 9) sc_fields_of.nd rfl (.inr rfl) (pe_callTy (call_dictP rfl) (by rfl) T.b_dict (by decide +kernel) (pa_cons (pv 4) pa_nil)))
      (pss_one (ps_ret (pe_tup (pa_cons (pv 3) (pa_cons (pe_lc (own := [("name", 5)]) (g := gName 5) (tt := tYes) rfl sc_fields_of.nd (pi_tup (pe_glob (v := .ref tp) (by rfl) T.g_PATTERN_NAMES rfl)) (blkOk_by (N := NF) (sc := defScope s_fields_of) (by decide +kernel)) (fun _ _ _ _ _ => (pg_name (i := 5) sc_fields_of.nd rfl (.inl rfl))) (fun _ _ _ _ _ => pts_nil) (fun _ _ _ _ _ => (pe_dget2 hu1 (pv 9) (pv 5) pe_str ⟨rfl, rfl, rfl, rfl⟩))) (pa_cons (pv 7) pa_nil)))))))))))))), ?_⟩
    have hz : 1000 ≤ sizeLine := by decide
    have hTn : Txt.split ln " " ≠ [] := split_ne _ _
    have hTl : (Txt.split ln " ").length ≤ 402 := Nat.le_trans (split_le ln " ") (by omega)
    have hTok : ∀ p ∈ Txt.split ln " ", PyData.strOk p = true := fun p hp => free_ok (split_plain hfr p (by rw [← blank_is]; exact hp))
    refine ⟨_, rfl, ⟨_, rfl⟩, ln, " ", rfl, rfl, by decide, by omega, fun D hD => ?_⟩
    generalize hTT : Txt.split ln " " = Tl at hTn hTl hTok kn ks ⊢
    have eD := Ext.upd (o := .lst (Tl.map V.str)) hD
    have gD : upd H D (.lst (Tl.map V.str)) D = some (.lst (Tl.map V.str)) := upd_same
    generalize upd H D (.lst (Tl.map V.str)) = H0 at eD gD ⊢
    refine ⟨_, rfl, D, _, rfl, .inl (SqL.of gD), rfl, flat_strs _, _, rfl, ?_⟩
    show if (!inV (.str ":") (Tl.map V.str)) = true then _ else _
    rw [inV_str]
    by_cases hc : (":" : Str) ∈ Tl
    case neg =>
      rw [decide_eq_false hc]
      have hn : fieldsP Tl = none := by
        unfold fieldsP
        exact if_neg hc
      exact iteT (kn hn H0 eD)
    case pos =>
    rw [decide_eq_true hc]
    obtain ⟨x1, x2⟩ := idx_at hc
    have hci := List.idxOf_lt_length_of_mem hc
    have hfp : fieldsP Tl = match weightF (Tl.take 1), foundG askedP ((Tl.take (Tl.idxOf (":" : Str))).drop 1) [] (-1), foundG toldP (Tl.drop (Tl.idxOf (":" : Str) + 1)) [] (-1) with
      | some w, some a, some (t :: r) => some (w, a, t :: r)
      | _, _, _ => none := by
      unfold fieldsP
      exact if_pos hc
    generalize Tl.idxOf (":" : Str) = c at x1 x2 hci hfp ⊢
    have h1T : 1 ≤ (Tl.map V.str).length := by rw [List.length_map]; exact List.length_pos_iff.mpr hTn
    have hlm : (Tl.map V.str).length = Tl.length := List.length_map ..
    refine iteF ⟨_, rfl, .inl ⟨rfl, _, SqL.of gD⟩, D, _, _, c, _, rfl, rfl, SqL.of gD, rfl, flat_strs _, x1, by show ((":" : Str) == ":") = true; exact beq_self_eq_true _, x2, ?_⟩
    refine ⟨_, rfl, 1, rfl, D, _, rfl, SqL.of gD, fun d hd => ?_⟩
    have c1 : cutV (Tl.map V.str) none (some 1) = (Tl.take 1).map V.str := by
      rw [show (1 : Int) = ((1 : Nat) : Int) from rfl, cut_take h1T, ← List.map_take]
    rw [c1]
    have ed := Ext.upd (o := .lst ((Tl.take 1).map V.str)) hd
    refine ⟨d, Tl.take 1, rfl, SqL.of upd_same, fun p hp => hTok p (List.mem_of_mem_take hp), fun H1 e1 => ?_⟩
    have e01 := eD.trans (ed.trans e1)
    have gD1 := e1 _ _ (ed _ _ gD)
    clear ed e1 hd c1
    have small : ∀ (H : Hp) (p : Addr), True := fun _ _ => True.intro
    refine join1 (α := { p : V × Hp // Ext H p.2 ∧ p.2 D = some (.lst (Tl.map V.str)) ∧ FoundAt K p.2 p.1 (foundG askedP ((Tl.take c).drop 1) [] (-1)) }) (G := ?G1) (fun rest => ?br1) (fun y => ?fin1)
    case br1 =>
      refine ⟨_, rfl, 1, rfl, _, rfl, _, rfl, D, _, rfl, SqL.of gD1, fun d hd => ?_⟩
      have cm : cutV (Tl.map V.str) (some 1) (some (c : Int)) = ((Tl.take c).drop 1).map V.str := by
        rw [cut_mid h1T (by omega), ← List.map_take, ← List.map_drop]
      rw [cm]
      have ed := Ext.upd (o := .lst (((Tl.take c).drop 1).map V.str)) hd
      have gd : upd H1 d (.lst (((Tl.take c).drop 1).map V.str)) d = some (.lst (((Tl.take c).drop 1).map V.str)) := upd_same
      generalize upd H1 d (.lst (((Tl.take c).drop 1).map V.str)) = H2 at ed gd ⊢
      refine pairs_lc2 (K := K) (tp := tp) (names := PN) (vals := fun n => (texts n).map V.str) (T.pn _) (by decide) (by decide) (fun W h => ⟨tp, rfl, ⟨_, T.pn _⟩, h⟩) (fun n hn H3 R e k => ⟨_, rfl, n, rfl, fun p H' e hp => ⟨p, rfl, ⟨_, hp⟩, k p H' e hp⟩⟩) (fun _ => rfl) (fun _ _ => rfl) (fun _ _ => rfl) (fun _ _ => rfl) fun D2 qs H3 hD2 e3 g3 hs => ?_
      rw [pairs_asked] at hs
      have gD3 := e3 _ _ (ed _ _ gD1)
      have eAll := e01.trans (ed.trans e3)
      refine ⟨d, D2, (Tl.take c).drop 1, qs, askedP, rfl, SqL.of (e3 _ _ gd), SqL.of g3, hs, fun t ht => List.mem_append_left _ ht, by decide, by rw [List.length_drop, List.length_take]; omega, fun hn H4 e4 => ?cN, fun r hr l rs H4 e4 hl hrs => ?cS⟩
      case cS =>
        obtain ⟨z, z1, z2⟩ : ∃ z : { p : V × Hp // Ext H p.2 ∧ p.2 D = some (.lst (Tl.map V.str)) ∧ FoundAt K p.2 p.1 (foundG askedP ((Tl.take c).drop 1) [] (-1)) }, V.ref l = z.1.1 ∧ H4 = z.1.2 := ⟨⟨(.ref l, H4), eAll.trans e4, e4 _ _ gD3, by rw [hr]; exact ⟨l, rs, rfl, hl, hrs⟩⟩, rfl, rfl⟩
        rw [z1, z2]
        exact rest z
      case cN =>
        have zz := rest ⟨(.non, H4), eAll.trans e4, e4 _ _ gD3, by rw [hn]; rfl⟩
        exact zz
    obtain ⟨⟨v4, H4⟩, e04, gD4, hF4⟩ := y
    simp only at e04 gD4 hF4 ⊢
    refine join1 (α := { p : V × Hp // Ext H p.2 ∧ FoundAt K p.2 v4 (foundG askedP ((Tl.take c).drop 1) [] (-1)) ∧ FoundAt K p.2 p.1 (foundG toldP (Tl.drop (c + 1)) [] (-1)) }) (G := ?G2) (fun rest => ?br2) (fun y => ?fin2)
    case br2 =>
      refine ⟨_, rfl, _, rfl, _, _, rfl, rfl, _, rfl, ?_⟩
      unfold tNoPart
      refine ⟨D, _, rfl, SqL.of gD4, fun d hd => ?_⟩
      have cm : cutV (Tl.map V.str) (some ((c : Int) + 1)) none = (Tl.drop (c + 1)).map V.str := by
        rw [show ((c : Int) + 1) = ((c + 1 : Nat) : Int) from by omega, cut_drop (by omega), ← List.map_drop]
      rw [cm]
      have ed := Ext.upd (o := .lst ((Tl.drop (c + 1)).map V.str)) hd
      have gd : upd H4 d (.lst ((Tl.drop (c + 1)).map V.str)) d = some (.lst ((Tl.drop (c + 1)).map V.str)) := upd_same
      generalize upd H4 d (.lst ((Tl.drop (c + 1)).map V.str)) = H5 at ed gd ⊢
      refine pairs_lc2 (K := K) (tp := tv) (names := VN) (vals := valsOf) (T.vn _) (by decide) (by decide +kernel) (fun W h => ⟨tv, rfl, ⟨_, T.vn _⟩, h⟩) (fun n hn H3 R e k => ⟨_, rfl, n, hn, rfl, fun p H' e hp => ⟨p, rfl, ⟨_, hp⟩, k p H' e hp⟩⟩) (fun _ => rfl) (fun _ _ => rfl) (fun _ _ => rfl) (fun _ _ => rfl) fun D2 qs H6 hD2 e6 g6 hs => ?_
      rw [pairs_told] at hs
      have eAll := e04.trans (ed.trans e6)
      have hF6 := hF4.ext (ed.trans e6)
      refine ⟨d, D2, Tl.drop (c + 1), qs, toldP, rfl, SqL.of (e6 _ _ gd), SqL.of g6, hs, fun t ht => List.mem_append_right _ ht, by decide, by rw [List.length_drop]; omega, fun hn H7 e7 => ?cN, fun r hr l rs H7 e7 hl hrs => ?cS⟩
      case cS =>
        obtain ⟨z, z1, z2⟩ : ∃ z : { p : V × Hp // Ext H p.2 ∧ FoundAt K p.2 v4 (foundG askedP ((Tl.take c).drop 1) [] (-1)) ∧ FoundAt K p.2 p.1 (foundG toldP (Tl.drop (c + 1)) [] (-1)) }, V.ref l = z.1.1 ∧ H7 = z.1.2 := ⟨⟨(.ref l, H7), eAll.trans e7, hF6.ext e7, by rw [hr]; exact ⟨l, rs, rfl, hl, hrs⟩⟩, rfl, rfl⟩
        rw [z1, z2]
        exact rest z
      case cN =>
        have zz := rest ⟨(.non, H7), eAll.trans e7, hF6.ext e7, by rw [hn]; rfl⟩
        exact zz
    obtain ⟨⟨v7, H7⟩, e07, hA, hB⟩ := y
    simp only at e07 hA hB ⊢
    -- what is none
    cases hw : weightF (Tl.take 1) with
    | none =>
      rw [hw] at hfp
      exact ⟨_, rfl, rfl, _, rfl, iteT (kn hfp H7 e07)⟩
    | some wt =>
      rw [hw] at hfp
      refine ⟨_, rfl, rfl, _, rfl, iteF ?_⟩
      cases ha : foundG askedP ((Tl.take c).drop 1) [] (-1) with
      | none =>
        rw [ha] at hfp hA
        obtain rfl : v4 = .non := hA
        exact ⟨_, rfl, rfl, _, rfl, iteT (kn hfp H7 e07)⟩
      | some a =>
        rw [ha] at hfp hA
        obtain ⟨la, ra, rfl, ga, sa⟩ := hA
        refine ⟨_, rfl, rfl, _, rfl, iteF ?_⟩
        cases hb : foundG toldP (Tl.drop (c + 1)) [] (-1) with
        | none =>
          rw [hb] at hfp hB
          obtain rfl : v7 = .non := hB
          exact ⟨_, rfl, false, rfl, iteT (kn hfp H7 e07)⟩
        | some t =>
          rw [hb] at hfp hB
          obtain ⟨lt, rt, rfl, gt, st⟩ := hB
          refine ⟨_, rfl, _, .inl ⟨_, SqL.of gt, rfl⟩, ?_⟩
          cases t with
          | nil =>
            cases st
            exact iteT (kn hfp H7 e07)
          | cons t0 tr =>
            obtain ⟨r0, rr, rfl⟩ : ∃ r0 rr, rt = r0 :: rr := by
              cases st with
              | cons a b => exact ⟨_, _, rfl⟩
            refine iteF ?_
            obtain ⟨A, _, a2, a3, a4⟩ := found_inv ha
            rw [List.nil_append] at a4
            subst a4
            obtain ⟨nd, _⟩ := inc_nodup a3
            have hpk : Paired (fun p kv => SqT K H7 p [kV kv.1, kv.2]) ra (keysOf a) := by
              have : ∀ {rs : List Addr} {prs : List PairD}, Sets K H7 rs prs → Paired (fun p kv => SqT K H7 p [kV kv.1, kv.2]) rs (keysOf prs) := fun h => by
                unfold Sets at h
                induction h with
                | nil => exact .nil
                | cons a _ ih => exact .cons a ih
              exact this sa
            refine ⟨_, rfl, la, ra, keysOf a, rfl, SqL.of ga, hpk, fun d hd => ?_⟩
            rw [merge_keys nd]
            have ed := Ext.upd (o := .dK (keysOf a)) hd
            have gd : upd H7 d (.dK (keysOf a)) d = some (.dK (keysOf a)) := upd_same
            generalize upd H7 d (.dK (keysOf a)) = H8 at ed gd ⊢
            refine ⟨_, rfl, tp, rfl, ⟨_, T.pn _⟩, fun M hM => ?_⟩
            refine lc_tup (xs := PN.map V.str) (fun i H' => (∀ q u, q ≠ M → H8 q = some u → H' q = some u) ∧ H' M = some (.lst ((PN.take i).map fun n => (a.lookup n).getD (.str "")))) ⟨fun q u hq e => by rw [upd_ne hq]; exact e, upd_same⟩ (fun i H' _ h => T.pn _) (fun i v H' hv h => ?_) (fun H9 h => ?_)
            · obtain ⟨k1, k2⟩ := h
              have ex : Ext H8 H' := fun q u e => k1 q u (ne_of_none e hM) e
              obtain ⟨n, hn, rfl⟩ : ∃ n, PN[i]? = some n ∧ v = .str n := by
                rw [List.getElem?_map] at hv
                cases q : PN[i]? with
                | none => rw [q] at hv; cases hv
                | some n => rw [q] at hv; exact ⟨n, rfl, (Option.some.inj hv).symm⟩
              have hi : i < 5 := (List.getElem?_eq_some_iff.mp hn).1
              refine ⟨rfl, _, rfl, d, rfl, .inl ⟨_, .inl (ex _ _ gd)⟩, _, rfl, _, .inl ⟨_, Sum.inr n, .inl (ex _ _ gd), rfl, rfl⟩, ?_⟩
              refine ⟨_, k2, ?_, fun q u hq e => ?_, ?_⟩
              · rw [List.length_map, List.length_take]
                exact Nat.lt_of_le_of_lt (Nat.min_le_left _ _) (Nat.lt_of_lt_of_le (by omega : i < 1000) (by decide))
              · rw [upd_ne hq]
                exact k1 q u hq e
              · rw [upd_same, List.take_add_one, hn, val_keys, List.map_append]
                rfl
            · obtain ⟨k1, k2⟩ := h
              have ex : Ext H8 H9 := fun q u e => k1 q u (ne_of_none e hM) e
              refine ⟨_, rfl, (by show 3 ≤ sizeLine; decide), fun p hp => ?_⟩
              have ep := Ext.upd (o := .tup [.int (wt : Nat), .ref M, .ref lt]) hp
              have e79 := ed.trans ex
              exact ks wt a (t0 :: tr) hfp p M lt (r0 :: rr) _ ((e07.trans e79).trans ep) (SqT.of upd_same) (ep _ _ k2) (ep _ _ (e79 _ _ gt)) ((st.ext e79).ext ep)
end
end Pa
set_option maxRecDepth 100000
set_option maxHeartbeats 4000000
/-! super().__init__(f'..{number}..') in an own error's __init__ -/
namespace Pa
open PySem PySem.Spec PyProof.Rows L2
def spSupI (C : Addr) (fld : Str) : Sp := fun vs H Q _ => ∃ (a : Addr) (i : Int), vs = [.ref a, .int i] ∧ i.natAbs.log2 < 1920 ∧ (toString i : Str).length ≤ 100 ∧ H a = some (exo a C none) ∧
  ∀ dx, H dx = none → dx ≠ a → Q .non (upd (upd H dx (exd dx [(fld, .int i)])) a (exo a C (some dx)))
theorem sup_goF {X : Cx} {pins : List (Addr × Obj)} {σ : List (Option V)} {H : Hp} {s : Shared} {A : Around} {Q : Value → Shared → Prop} {E : Value → Shared → Prop} {C f cc cda a : Addr} {qual fld tx1 tx2 : Str} {params : Arguments} {body : List Stmt} {dV kV doc pm ct oc ccl cl : Value} {an od cdd cld : Option Addr} {osl ccs csl : Array (Option Value)}
    {vs0 : Array Value} {file : Str} {tf : Tok} {ar : Arg} {p0 p1 p3 p4 j1 j2 j3 j4 : Pos} {iv : Int} {ti : Tok} {whole : Sem Value} {pl : Sem Bool} {bdy : List Stmt} (T : SupCls X.prog X.K X.mg C fld) (I : Inv X pins σ H s) (L : Addr)
    (lk : X.K.lookup f = some ⟨oc, od, .func (PySem.W.fnX "__init__" qual params body (supScope fld) [("__class__", cc)] dV kV doc pm an (.ref cda) ct), osl⟩)
    (hcode : X.K.lookup cda = some ⟨ccl, cdd, .fields vs0, ccs⟩) (hvs : vs0[2]? = some (.str file tf)) (hfile : ((X.prog.main.file : Str) == file) = true) (hcell : X.K.lookup cc = some ⟨cl, cld, .cell (some (.ref C)), csl⟩)
    (hp : (params.posonlyargs ++ params.args).head? = some ar) (har : ar.arg = ("self" : Str)) (hf1 : (("super" : Str) == fld) = false) (hf2 : (("__class__" : Str) == fld) = false) {m : Str → Option Value} (hns : s.heap.Ns L m) (hmf : m fld = some (.int iv ti)) (hnf : ((fld : Str) == ("self" : Str)) = false) (hdb : (fld == ("__debug__" : Str)) = false) (hlog : iv.natAbs.log2 < 1920) (hl0 : (toString iv : Str).length ≤ 100) (hl1 : tx1.length ≤ 100) (hl2 : tx2.length ≤ 100) (hm : m "self" = some (.ref a)) (ha : H a = some (exo a C none)) (h : ∀ s', Inv X pins σ H s' → Q .none s') :
    PySem.wpAt (model X.prog X.w) A (.func bdy (PySem.W.ksEnv qual (supScope fld) L f (.ref cda) cc)) (attributeBase (.Call (.Name "super" p0) [] [] p1) "__init__" (PySem.W.ksEnv qual (supScope fld) L f (.ref cda) cc) whole)
      (fun ov s₁ => wpAny (model X.prog X.w) A (getMethod ov "__init__" pl) (fun fx s₂ => wpAny (model X.prog X.w) A (callWith p4 fx.1 fx.2 (backTo p4 (starEach [.JoinedStr [.Constant (.str tx1) 0 j1, .FormattedValue (.Name fld j2) (-1) none j3, .Constant (.str tx2) 0 j4] p3] (PySem.W.ksEnv qual (supScope fld) L f (.ref cda) cc))) []) Q E s₂) E s₁) E s := by
  obtain ⟨nmC, qC, NC, bsC, bmC, snC, subC, abC, colC, ddC, k0, k1, k2, k3, k5, hC, hbm⟩ := T.oex.cls
  obtain ⟨t1, ho⟩ := exo_at I.hok ha
  have KI := I.kIn
  have hCi : PySem.W.clsIn X.K C = some { name := nmC, bases := bsC, mro := .ref C :: bmC, ns := NC, qualname := qC, hasDict := true, slotNames := snC, subclasses := subC, abstract := abC, collection := colC, hasDel := false } := by unfold PySem.W.clsIn; rw [hC] <;> rfl
  obtain ⟨mb, hmb, hmb2⟩ := I.mod.blt
  have hsup0 : (("super" : Str)) ≠ "__name__" := by decide
  refine PySem.ks_wpAt_super_base (env := PySem.W.ksEnv qual (supScope fld) L f (.ref cda) cc) (of := ⟨oc, od, .func (PySem.W.fnX "__init__" qual params body (supScope fld) [("__class__", cc)] dV kV doc pm an (.ref cda) ct), osl⟩) ?a1 ?a2 rfl rfl (KI _ _ lk) rfl hp rfl (KI _ _ hcode) rfl hvs hfile T.top ?_
  case a1 =>
    show List.lookup ("super" : Str) [(("self" : Str), NameKind.local), (fld, .local), ("__class__", .free), ("super", .globalImplicit)] = some .globalImplicit
    simp only [List.lookup_cons, hf1]
    rfl
  case a2 =>
    show List.lookup ("__class__" : Str) [(("self" : Str), NameKind.local), (fld, .local), ("__class__", .free), ("super", .globalImplicit)] = some .free
    simp only [List.lookup_cons, hf2]
    rfl
  have kS : (PySem.W.ksEnv qual (supScope fld) L f (.ref cda) cc).kindOf "super" = some .globalImplicit := by
    show List.lookup ("super" : Str) [(("self" : Str), NameKind.local), (fld, .local), ("__class__", .free), ("super", .globalImplicit)] = some .globalImplicit
    simp only [List.lookup_cons, hf1]
    rfl
  have kC : (PySem.W.ksEnv qual (supScope fld) L f (.ref cda) cc).kindOf "__class__" = some .free := by
    show List.lookup ("__class__" : Str) [(("self" : Str), NameKind.local), (fld, .local), ("__class__", .free), ("super", .globalImplicit)] = some .free
    simp only [List.lookup_cons, hf2]
    rfl
  have kL : (PySem.W.ksEnv qual (supScope fld) L f (.ref cda) cc).kindOf ar.arg = some .local := by rw [har]; rfl
  have hC2 := KI _ _ hC
  refine PySem.W.ks_loadName_global rfl kS (PySem.Calls.loadGlobal_builtin (env := PySem.W.ksEnv qual (supScope fld) L f (.ref cda) cc) (I.mod.glob.keeps I.bk) T.mgS (hmb.keeps I.bk) (hmb2 _ hsup0) ⟨rfl, ?_⟩)
  refine PySem.wpAny_loadName_free rfl kC rfl ⟨_, KI _ _ hcell, rfl⟩ ?_
  refine PySem.wpAny_loadName_local rfl kL hns (by rw [har]; exact hm) ?_
  obtain ⟨hp0, g, d, t, os⟩ := s
  refine PySem.ks_wpAny_isType_cls hC2 rfl ⟨rfl, ?_⟩
  refine PySem.ks_wpAny_call_super hC2 rfl ho rfl (fun c z => by cases z) (PySem.W.looks_mroIn KI T.own) (fun h2 hso k2 => ?_)
  have J0 : Inv X pins σ H ⟨h2, g, d, t, os⟩ := I.un (t' := t) (Un.kept k2) (I.hok.kept k2)
  have hne : a ≠ C := fun z => by
    have w := KI _ _ hC
    rw [← z] at w
    exact absurd (w.symm.trans ho) (fun y => by cases y)
  have ho2 := k2 _ _ ho
  have IA : PySem.W.InstAt h2 a { cls := .ref C, dict := none, data := .fields #[.ref t1, .none, .none, .none, .bool false, .none] } C none := ⟨ho2, rfl, rfl, trivial⟩
  have hsp := T.sup
  unfold PySem.W.ks_superIn at hsp
  rw [hCi] at hsp
  refine PySem.W.kxs_getMethod PySem.W.kxs_ValueError hso (PySem.W.looks_opaque J0.kIn T.third) (l₀ := Value.ref C :: bmC) ((PySem.W.looks_clsIn J0.kIn hCi).andThen .now) rfl J0.kIn hsp (IA.type.andThen (PySem.W.looks_subIn J0.kIn T.ve)) hne (by decide) ?_
  have k3 : ∀ (b : Addr) (o : Obj), h2.get? b = some o → (h2.push (PySem.W.kxs_mw "ValueError.__init__" a)).get? b = some o := fun b o e => Heap.get?_push_of_some _ e
  have J1 : Inv X pins σ H ⟨h2.push (PySem.W.kxs_mw "ValueError.__init__" a), g, d, t + 1, os⟩ := J0.un (t' := t + 1) (Un.kept k3) (J0.hok.kept k3)
  have hu : (h2.push (PySem.W.kxs_mw "ValueError.__init__" a)).get? h2.objs.size = some (PySem.W.kxs_mw "ValueError.__init__" a) := Heap.get?_push_size _ rfl
  refine PySem.W.kxs_callWith (i := "ValueError.__init__") (x := a) rfl (PySem.Calls.evalArgs_plain ?_)
  have hz : 1000 ≤ sizeLine := by decide
  have e2 : (PySem.W.ksEnv qual (supScope fld) L f (.ref cda) cc).kindOf fld = some .local := by
    show List.lookup fld [(("self" : Str), NameKind.local), (fld, .local), ("__class__", .free), ("super", .globalImplicit)] = some .local
    simp [List.lookup_cons, hnf]
  have hns1 : (h2.push (PySem.W.kxs_mw "ValueError.__init__" a)).Ns L m := (hns.keeps k2).keeps k3
  show wpAny _ _ (spliced ((false, eval (.JoinedStr [.Constant (.str tx1) 0 j1, .FormattedValue (.Name fld j2) (-1) none j3, .Constant (.str tx2) 0 j4] p3) _) :: [])) _ _ _
  refine PySem.Calls.spliced_cons (wpAny_JoinedStr ?_)
  refine PySem.wpAny_Constant_str ⟨tx1, _, rfl, by rw [Str.length_append]; show 0 + _ ≤ _; omega, ?_⟩
  refine wpAny_FormattedValue_plain (PySem.wpAny_Name (PySem.wpAny_loadName_local rfl e2 hns1 hmf (wpAny_formatField_int hlog ⟨toString iv, _, rfl, by rw [Str.length_append, Str.length_append]; show 0 + _ + _ ≤ _; omega, ?_⟩)) hdb)
  have hfin : (Str.empty ++ tx1 ++ toString iv ++ tx2).length ≤ sizeLine := by rw [Str.length_append, Str.length_append, Str.length_append]; show 0 + _ + _ + _ ≤ _; omega
  refine PySem.wpAny_Constant_str ⟨tx2, _, rfl, hfin, hfin, PySem.Calls.spliced_nil ⟨hu, ?_⟩⟩
  exact mw_init T.oex ((((J1.tok _).tok _).tok _).tok _) hu ha (by rw [sizeLine_eq]; show 1 ≤ 16777216; decide) h
theorem sup_fnF {P : Program} {w : World} {K : PySem.W.Frag} {mg : Str → Option Value} {base : Heap} {CX : CXT} {k : Nat} {C f cc cda : Addr} {qual fld tx1 tx2 : Str} {params : Arguments} {body : List Stmt} {dV kV doc pm ct oc ccl cl : Value} {an od cdd cld : Option Addr} {osl ccs csl : Array (Option Value)}
    {vs0 : Array Value} {file : Str} {tf : Tok} {ar : Arg} {p0 p1 p2 p3 p4 p5 q1 q2 q3 q4 j1 j2 j3 j4 : Pos} (T : SupCls P K mg C fld)
    (lk : K.lookup f = some ⟨oc, od, .func (PySem.W.fnX "__init__" qual params body (supScope fld) [("__class__", cc)] dV kV doc pm an (.ref cda) ct), osl⟩) (hcd : PySem.W.codeIn K (.ref cda) qual = true)
    (hcode : K.lookup cda = some ⟨ccl, cdd, .fields vs0, ccs⟩) (hvs : vs0[2]? = some (.str file tf)) (hfile : ((P.main.file : Str) == file) = true) (hcell : K.lookup cc = some ⟨cl, cld, .cell (some (.ref C)), csl⟩)
    (hp : (params.posonlyargs ++ params.args).head? = some ar) (har : ar.arg = ("self" : Str)) (hb0 : body = [.Expr (.Call (.Attribute (.Call (.Name "super" p0) [] [] p1) "__init__" p2) [.JoinedStr [.Constant (.str tx1) 0 j1, .FormattedValue (.Name fld j2) (-1) none j3, .Constant (.str tx2) 0 j4] p3] [] p4) p5, .Assign [.Attribute (.Name "self" q1) fld q2] (.Name fld q3) q4])
    {pl : Env → Sem Bool} (hmc : ∀ env, eval (.Call (.Attribute (.Call (.Name "super" p0) [] [] p1) "__init__" p2) [.JoinedStr [.Constant (.str tx1) 0 j1, .FormattedValue (.Name fld j2) (-1) none j3, .Constant (.str tx2) 0 j4] p3] [] p4) env = (do
      let ov ← attributeBase (.Call (.Name "super" p0) [] [] p1) "__init__" env (eval (.Call (.Name "super" p0) [] [] p1) env)
      standAt p2.atName
      let (f, first) ← holding [ov] (getMethod ov "__init__" (pl env))
      callWith p4 f first (backTo p4 (starEach [.JoinedStr [.Constant (.str tx1) 0 j1, .FormattedValue (.Name fld j2) (-1) none j3, .Constant (.str tx2) 0 j4] p3] env)) []))
    (hsw : ∀ env, swapsWith (.Name fld q3) (some (.Attribute (.Name "self" q1) fld q2)) q4.line env = pure false) (hf1 : (("super" : Str) == fld) = false) (hf2 : (("__class__" : Str) == fld) = false) (hne : fld ≠ ("self" : Str)) (hdb : (fld == ("__debug__" : Str)) = false) (hl1 : tx1.length ≤ 100) (hl2 : tx2.length ≤ 100) :
    FnOk P w K mg base CX (k + 1) f (PySem.W.fnX "__init__" qual params body (supScope fld) [("__class__", cc)] dV kV doc pm an (.ref cda) ct) ["self", fld] (spSupI C fld) := by
  refine ⟨fun vs H Q E ⟨a, iv, e, _⟩ => by rw [e]; rfl, fun A outer s H args us vs Q E hr e0 hb r hsp => ?_⟩
  obtain ⟨a, iv, rfl, hlog, hl0, ha, q⟩ := hsp
  obtain ⟨u1, u2, rfl, ru1, ru2⟩ := vals2 r
  obtain rfl : u1 = Value.ref a := ru1
  obtain ⟨tiv, rfl⟩ := id ru2
  have KX : K.In s.heap := e0.mod.kin.keeps fun b o e => (e0.bs b o e).1
  have lim : s.heap.NoLimit := e0.mod.nolimit.keeps fun b o e => (e0.bs b o e).1
  have hne' : ((fld : Str) == ("self" : Str)) = false := by simp [hne]
  refine PySem.ks_codeAny_call_defAt (body := body) (binds := [("self", .ref a), (fld, Value.int iv tiv)]) hr.depth (KX _ _ lk) rfl lim (PySem.W.codeRec_of KX hcd) rfl hb ?_ ?_ (fun h₁ hns hk₁ => ?_) rfl rfl rfl
  · intro x hx
    simp only [PySem.W.fnX, supScope, List.mem_cons, List.not_mem_nil, or_false] at hx
    rcases hx with rfl | rfl | rfl | rfl <;> (intro z; cases z)
  · intro x hx
    simp only [List.mem_cons, List.not_mem_nil, or_false] at hx
    rcases hx with rfl | rfl
    · rfl
    · show List.lookup fld [(("self" : Str), NameKind.local), (fld, .local), ("__class__", .free), ("super", .globalImplicit)] = some .local
      simp [List.lookup_cons, hne']
  have eb : h₁.Ns s.heap.objs.size (bindL (envOfC qual (supScope0 fld) s.heap.objs.size f (.ref cda)).kindOf ([("self" : Str), fld].zip [Value.ref a, Value.int iv tiv]) fun _ => none) := by
    have k1 : (envOfC qual (supScope0 fld) s.heap.objs.size f (.ref cda)).kindOf "self" = some .local := rfl
    have k2 : (envOfC qual (supScope0 fld) s.heap.objs.size f (.ref cda)).kindOf fld = some .local := by
      show List.lookup fld [(("self" : Str), NameKind.local), (fld, .local)] = some .local
      simp [List.lookup_cons, hne']
    have ef : (bindL (envOfC qual (supScope0 fld) s.heap.objs.size f (.ref cda)).kindOf ([("self" : Str), fld].zip [Value.ref a, Value.int iv tiv]) fun _ => none) = fun x => List.lookup x ([(("self" : Str), Value.ref a), (fld, Value.int iv tiv)].reverse) := by
      funext y
      show bindL _ [(("self" : Str), Value.ref a), (fld, Value.int iv tiv)] _ y = List.lookup y [(fld, Value.int iv tiv), (("self" : Str), Value.ref a)]
      simp only [bindL, k1, k2, if_true, List.lookup_cons, List.lookup_nil]
      by_cases h1 : y = fld
      · subst h1; simp
      · by_cases h2 : y = ("self" : Str)
        · subst h2
          rw [beq_eq_false_iff_ne.mpr h1]
          simp [h1]
        · rw [beq_eq_false_iff_ne.mpr h1, beq_eq_false_iff_ne.mpr h2]
          simp [h1, h2]
    rw [ef]
    exact hns
  have S0 : FnScope ["self", fld] ["self", fld] (supScope0 fld) := by
    refine ⟨rfl, rfl, rfl, ?_, rfl, fun x hx => ?_, fun y hy => ?_⟩
    · simp only [List.nodup_cons, List.mem_cons, List.not_mem_nil, or_false, not_false_eq_true, List.nodup_nil, and_true]
      exact fun z => hne z.symm
    · left
      simp only [List.mem_cons, List.not_mem_nil, or_false] at hx
      rcases hx with e | e
      · rw [e]; rfl
      · rw [e]
        show List.lookup fld [(("self" : Str), NameKind.local), (fld, .local)] = some .local
        simp [List.lookup_cons, hne']
    · simp only [supScope0, List.mem_cons, List.not_mem_nil, or_false] at hy
      rcases hy with rfl | rfl <;> (intro z; cases z)
  have ec : cellsFrom (s.heap.objs.size + 1) (supScope0 fld).names [] = [] := rfl
  have I : Inv (cxOf CX P w K mg base ["self", fld] qual (supScope0 fld) f (.ref cda) A outer s H E) [] (start ["self", fld] [.ref a, .int iv]) H { s with heap := h₁, toks := s.toks + 2 } :=
    inv_start S0 hr.hd e0 rfl r ⟨⟨⟨h₁, _, rfl⟩, eb, hk₁, Nat.le_refl _⟩, (fun n c hc => by rw [ec] at hc; simp at hc), (by rw [ec]; exact List.Pairwise.nil), (fun n c hc => by rw [ec] at hc; simp at hc)⟩
  obtain ⟨oD, cdC, hC1, hC2, hCi⟩ : ∃ oD cdC, K.lookup C = some oD ∧ oD.data = .cls cdC ∧ PySem.W.clsIn K C = some cdC := by
    obtain ⟨_, _, _, _, _, _, _, _, _, _, _, _, _, _, _, hC, _⟩ := T.oex.cls
    exact ⟨_, _, hC, rfl, by unfold PySem.W.clsIn; rw [hC] <;> rfl⟩
  have henv : callEnv (PySem.W.fnX "__init__" qual params body (supScope fld) [("__class__", cc)] dV kV doc pm an (.ref cda) ct) s.heap.objs.size f = PySem.W.ksEnv qual (supScope fld) s.heap.objs.size f (.ref cda) cc := rfl
  rw [henv]
  generalize henv2 : PySem.W.ksEnv qual (supScope fld) s.heap.objs.size f (.ref cda) cc = env
  rw [hb0]
  refine PySem.ks_wpAt_execs_cons (PySem.ks_wpAt_Expr_any ?_ ?_ ?_)
  rotate_left
  · rw [← henv2]; rfl
  · rfl
  refine PySem.ks_wpAt_MethodCall (pl := pl env) ?_ (hmc env)
  rw [← henv2]
  have hself : (fun x => List.lookup x ([(("self" : Str), Value.ref a), (fld, Value.int iv tiv)].reverse)) "self" = some (.ref a) := by
    show List.lookup ("self" : Str) [(fld, Value.int iv tiv), (("self" : Str), Value.ref a)] = some (.ref a)
    have : (("self" : Str) == fld) = false := beq_eq_false_iff_ne.mpr fun z => hne z.symm
    simp only [List.lookup_cons, this]
    rfl
  have hfld : (fun x => List.lookup x ([(("self" : Str), Value.ref a), (fld, Value.int iv tiv)].reverse)) fld = some (.int iv tiv) := by
    show List.lookup fld [(fld, Value.int iv tiv), (("self" : Str), Value.ref a)] = some (.int iv tiv)
    rw [List.lookup_cons, beq_self_eq_true]
  refine sup_goF (X := cxOf CX P w K mg base ["self", fld] qual (supScope0 fld) f (.ref cda) A outer s H E) T I s.heap.objs.size lk hcode hvs hfile hcell hp har hf1 hf2 hns hfld hne' hdb hlog hl0 hl1 hl2 hself ha (fun s' J => ?_)
  dsimp only
  obtain ⟨m', hns', hl'⟩ := J.loc
  obtain ⟨v1, rv1, lk1⟩ := hl' 0 "self" (.ref a) rfl rfl (.inl rfl)
  obtain rfl : v1 = Value.ref a := rv1
  have k2 : (envOfC qual (supScope0 fld) s.heap.objs.size f (.ref cda)).kindOf fld = some .local := by
    show List.lookup fld [(("self" : Str), NameKind.local), (fld, .local)] = some .local
    simp [List.lookup_cons, hne']
  obtain ⟨v2, rv2, lk2⟩ := hl' 1 fld (.int iv) rfl rfl (.inl k2)
  have m1 : m' "self" = some (.ref a) := by
    rcases lk1 with ⟨_, z⟩ | ⟨z, _⟩
    · exact z
    · rcases z with z | z <;> cases z
  have m2 : m' fld = some v2 := by
    rcases lk2 with ⟨_, z⟩ | ⟨z, _⟩
    · exact z
    · rcases z with z | z <;> exact absurd (k2.symm.trans z) (fun y => by cases y)
  have e1 : (PySem.W.ksEnv qual (supScope fld) s.heap.objs.size f (.ref cda) cc).kindOf "self" = some .local := rfl
  have e2 : (PySem.W.ksEnv qual (supScope fld) s.heap.objs.size f (.ref cda) cc).kindOf fld = some .local := by
    show List.lookup fld [(("self" : Str), NameKind.local), (fld, .local), ("__class__", .free), ("super", .globalImplicit)] = some .local
    simp [List.lookup_cons, hne']
  refine PySem.ks_wpAt_execs_cons (PySem.wpAt_of_wpAny (plainObj_wpAny_Assign_Attribute ?_ (hsw _)))
  refine PySem.wpAny_Name (PySem.wpAny_loadName_local rfl e2 hns' m2 ?_) hdb
  refine PySem.wpAny_Name (PySem.wpAny_loadName_local rfl e1 hns' m1 ?_) (by decide)
  refine ost_new T.oex J ha T.noF rv2 (fun dx s'' hdx hdn J2 => ?_)
  refine PySem.wpAt_of_wpAny (wpAny_execs_nil ?_)
  exact ⟨.non, _, J2.os, J2.bare, J2.base, J2.hok, rfl, q dx hdx hdn⟩
end Pa
set_option maxRecDepth 100000
set_option maxHeartbeats 4000000
namespace Pa
open PySem PySem.Spec PyProof.Rows L2 RZ StX ClX
structure ErrOkI (P : Program) (w : World) (K : PySem.W.Frag) (mg : Str → Option Value) (base : Heap) (x fld : Str) (C : Addr) : Prop where
  oex : OexC K C
  gC : mg x = some (.ref C)
  ok : ∃ (fI : Addr) (fd : FuncData), PySem.W.findIn K (.ref C) "__init__" = some (some (.ref fI)) ∧ PySem.W.typeIn K (.ref fI) = some (.type "function") ∧ Binds K fd ["self", fld] [] ∧ FnOk P w K mg base CX0 1 fI fd ["self", fld] (spSupI C fld)
theorem pmk_errI {X : Cx} {x fld : Str} {C : Addr} {e : Expr} {ta : TA} {p pos : Pos} (T : ErrOkI X.prog X.w X.K X.mg X.base x fld C) (hr : Room 2 X.A) (hg : Gl X x) (ha : PA X [e] ta)
    (hdb : (x == ("__debug__" : Str)) = false := by decide) (he : starEach [e] X.env = (false, eval e X.env) :: starEach [] X.env := by rfl) (hpl : (backTo pos (starEach [] X.env)).any (·.1) = false := by rfl) :
    PMk X (.Call (.Name x p) [e] [] pos) (tMkO C (spSupI C fld) [] ta) := by
  obtain ⟨fI, fd, h1, h2, h3, h4⟩ := T.ok
  exact pmk_oex T.oex h1 h2 h4 hr h3 .nil pass0 hg T.gC ha hdb he hpl
theorem err_readI {C : Addr} {fld : Str} {i : Int} {ta : TA} {σ : L2.St} {H : Hp} {Q : XK} (hlog : i.natAbs.log2 < 1920) (hl : (toString i : Str).length ≤ 100) (h : ∀ R : List V → Hp → Prop, R [.int i] H → ta σ H R) (q : ∀ dx, H dx = none → Q (.ref C) (some dx) (upd H dx (.xd [(fld, .int i)]))) : tMkO C (spSupI C fld) [] ta σ H Q := by
  unfold tMkO
  refine h _ ⟨(by show 1 ≤ 1000; decide), fun a ha => ⟨a, i, rfl, hlog, hl, upd_same, fun dx hdx hne => ⟨rfl, dx, [(fld, .int i)], upd_same, ?_, ?_, ?_⟩⟩⟩
  · rw [upd_ne hne, upd_same]
  · rw [upd_ne hne] at hdx
    exact hdx
  · rw [err_end ha hne]
    rw [upd_ne hne] at hdx
    exact q dx hdx
theorem seven_small : ∀ n ∈ List.range 7, ((n : Nat) : Int).natAbs.log2 < 1920 ∧ (toString ((n : Nat) : Int) : Str).length ≤ 100 := by decide +kernel
section
variable {P : Program} {w : World} {K : PySem.W.Frag} {mg : Str → Option Value} {base : Heap} {tv tp tk dl C CS CB CL : Addr}
def spRead (K : PySem.W.Frag) (C CS CL : Addr) : Sp := fun vs H Q E => ∃ s : Str, vs = [.str s] ∧ s.length ≤ 10000 ∧
  ((s = "" ∧ ∀ x H', H x = none → Ext H H' → SheetAt K C CS H' x [] → Q (.ref x) H') ∨
   (s ≠ "" ∧ (∀ l ∈ Txt.split s "\n", l.length ≤ 400 ∧ freeOf 10 l = true) ∧
    ((∃ rows, GoodR rows ∧ rows.length ≤ 6 ∧ Txt.split s "\n" = rows.map lineT ∧ ∀ x H', H x = none → Ext H H' → SheetAt K C CS H' x rows → Q (.ref x) H') ∨
     ∃ rows bad rest, GoodR rows ∧ rows.length ≤ 6 ∧ Txt.split s "\n" = rows.map lineT ++ bad :: rest ∧ (rows.length = 6 ∨ fieldsP (Txt.split bad " ") = none) ∧ ∀ H' dd, Ext H H' → H dd = none → H' dd = some (.xd [("number", .int rows.length)]) → E (.ref CL) (some dd) H')))
abbrev sread_sheet : Stmt := topS 26
theorem scread_sheet : FnScope ["text", "rules", "line", "fields"] ["text"] (defScope sread_sheet) := ⟨rfl, rfl, rfl, by decide +kernel, rfl, by decide +kernel, by decide +kernel⟩
theorem ok_read {f : Addr} {fd : FuncData} (F : Fun K "read_sheet" "read_sheet" sread_sheet f fd) (T : Txt K w mg tv tp tk dl C) (S : TxS K mg CS CB) (RO : RuleOk P w K mg base C) (M : SMk P w K mg base C CS CB) (TL : ErrOkI P w K mg base "BadLine" "number" CL)
    (C__fields_of : CallOk P w K mg base 3 "_fields_of" ["line"] (spFields K)) : FnOk P w K mg base (L2.CX P w) 7 f fd ["text"] (spRead K C CS CL) := by
  obtain ⟨tM, gM⟩ := S.gM
  refine F.okX scread_sheet (fun vs H Q E h => ?_) (fun cdv A outer s H vs Q E hr h => ?_)
  · obtain ⟨s, rfl, _⟩ := h
    rfl
  · obtain ⟨tx, rfl, hlen, h⟩ := h
    refine ⟨_, (pss_cons (ps_if (pt_cmpR op_eq (pv 0) pe_str (nomark _))
        (pss_one (ps_ret (pe_sheet M (hr.mono (by decide)) (by rfl) S.gS (passT (takes_of rfl rfl rfl rfl)) (pa_cons (pe_lst pa_nil) pa_nil))))
        pss_nil)
      (pss_cons (ps_set (i := 1) scread_sheet.nd rfl (.inl rfl) (pe_lst pa_nil))
      (pss_cons (ps_for (passes_of rfl) rfl (pi_list (pe_split (pv 0) pe_str)) (pg_name (i := 2) scread_sheet.nd rfl (.inl rfl))
        (pss_cons (ps_set (i := 3) scread_sheet.nd rfl (.inl rfl) (pe_cc C__fields_of (hr.mono (by decide)) (by rfl) (pa_cons (pv 2) pa_nil)))
        (pss_cons (ps_if (PW.pt (pw_or (pt_cmpR op_isN (pv 3) pe_non (nomark _)) (pw_or1 (pt_cmpR op_eq (pe_callB call_len_seq (by rfl) T.b_len PySem.boot_len (pa_cons (pv 1) pa_nil)) (pe_glob (v := .int 6) (by rfl) gM ⟨_, rfl⟩) (nomark _)))))
          (pss_one (ps_raise rfl (takes_of rfl rfl rfl rfl) (pmk_errI TL (hr.mono (by decide)) (by rfl) (pa_cons (pe_callB call_len_seq (by rfl) T.b_len PySem.boot_len (pa_cons (pv 1) pa_nil)) pa_nil))))
          pss_nil)
        (pss_one (ps_expr (pe_bm PySem.F.plainAttrs_list PySem.F.slot_list_append PySem.F.type_list_append mt_append (pv 1) (pa_cons (pe_madeC (K0 := K) RO rfl (pe_glob (v := .ref C) (by rfl) T.g_Rule rfl) hr (pa_cons (pe_ix ix_tup (pv 3) pe_int (fun _ _ => rfl)) (pa_cons (pe_ix ix_tup (pv 3) pe_int (fun _ _ => rfl)) (pa_cons (pe_ix ix_tup (pv 3) pe_int (fun _ _ => rfl)) pa_nil)))) pa_nil)))))))
      (pss_one (ps_ret (pe_sheet M (hr.mono (by decide)) (by rfl) S.gS (passT (takes_of rfl rfl rfl rfl)) (pa_cons (pv 1) pa_nil))))))), ?_⟩
    have hz : 16000 ≤ sizeLine := by decide
    rcases h with ⟨rfl, k⟩ | ⟨hne, hls, h⟩
    · refine ⟨_, rfl, rfl, _, rfl, iteT ⟨(by show 0 ≤ sizeLine; decide), fun l hl => ?_⟩⟩
      refine sheet_red (rs := []) (.inr (SqL.of upd_same)) .nil (by decide) fun x H' hx e hs => k x H' ?_ ((Ext.upd hl).trans e) hs
      cases q : H x with
      | none => rfl
      | some u => rw [Ext.upd hl _ _ q] at hx; cases hx
    refine ⟨_, rfl, rfl, _, rfl, ?_⟩
    show if decide (V.str tx = V.str "") = true then _ else _
    rw [decide_eq_false (fun q => hne (V.str.inj q) : ¬ V.str tx = V.str "")]
    refine iteF ⟨(by show 0 ≤ sizeLine; decide), fun R hR => ?_⟩
    have eR := Ext.upd (o := .lst []) hR
    have gR : upd H R (.lst []) R = some (.lst []) := upd_same
    have hR0 : ∀ {q : Addr} {u : HO}, H q = some u → q ≠ R := fun e q => by rw [q, hR] at e; cases e
    generalize upd H R (.lst []) = H0 at eR gR ⊢
    refine ⟨_, rfl, ⟨_, rfl⟩, tx, "\n", rfl, rfl, by decide, by omega, fun D hD => ?_⟩
    have hll : (Txt.split tx "\n").length ≤ 10002 := Nat.le_trans (split_le tx "\n") (by omega)
    generalize Txt.split tx "\n" = lines at hls h hll ⊢
    have hRD : R ≠ D := ne_of_none gR hD
    have eD := Ext.upd (o := .lst (lines.map V.str)) hD
    have gD : upd H0 D (.lst (lines.map V.str)) D = some (.lst (lines.map V.str)) := upd_same
    have gR1 := eD _ _ gR
    generalize upd H0 D (.lst (lines.map V.str)) = H1 at eD gD gR1 ⊢
    refine ⟨D, rfl, ⟨_, SqL.of gD⟩, ?_⟩
    obtain ⟨rows, hg, h6, hpre, htail⟩ : ∃ rows : List RowD, GoodR rows ∧ rows.length ≤ 6 ∧ (∀ i x, rows[i]? = some x → lines[i]? = some (lineT x)) ∧
        ((lines.length = rows.length ∧ ∀ x H', H x = none → Ext H H' → SheetAt K C CS H' x rows → Q (.ref x) H') ∨
         ∃ bad, lines[rows.length]? = some bad ∧ (rows.length = 6 ∨ fieldsP (Txt.split bad " ") = none) ∧ ∀ H' dd, Ext H H' → H dd = none → H' dd = some (.xd [("number", .int rows.length)]) → E (.ref CL) (some dd) H') := by
      rcases h with ⟨rows, hg, h6, rfl, k⟩ | ⟨rows, bad, rest, hg, h6, rfl, hb, k⟩
      · exact ⟨rows, hg, h6, fun i x hx => by rw [List.getElem?_map, hx]; rfl, .inl ⟨List.length_map .., k⟩⟩
      · refine ⟨rows, hg, h6, fun i x hx => ?_, .inr ⟨bad, ?_, hb, k⟩⟩
        · have hi := (List.getElem?_eq_some_iff.mp hx).1
          rw [List.getElem?_append_left (by rw [List.length_map]; exact hi), List.getElem?_map, hx]
          rfl
        · rw [List.getElem?_append_right (by rw [List.length_map]; exact Nat.le_refl _), List.length_map, Nat.sub_self]
          rfl
    refine for_list (xs := lines.map V.str) (fun i σ H' => i ≤ rows.length ∧ Ext H H' ∧ H' D = some (.lst (lines.map V.str)) ∧ ∃ rs, H' R = some (.lst (rs.map V.ref)) ∧ RulesAt K C H' rs (rows.take i) ∧ ∃ x2 x3, σ = [some (.str tx), some (.ref R), x2, x3])
      ⟨Nat.zero_le _, eR.trans eD, gD, [], gR1, .nil, _, _, rfl⟩ (fun i σ H' _ h => SqL.of h.2.2.1) (fun i v σ H' hv h => ?_) (fun σ H' h => ?_)
    · obtain ⟨hi, e, gd, rs, gr, hrs, x2, x3, rfl⟩ := h
      obtain ⟨ln, hln, rfl⟩ : ∃ p, lines[i]? = some p ∧ v = .str p := by
        rw [List.getElem?_map] at hv
        cases q : lines[i]? with
        | none => rw [q] at hv; cases hv
        | some p => rw [q] at hv; exact ⟨p, rfl, (Option.some.inj hv).symm⟩
      obtain ⟨l1, l2⟩ := hls ln (List.mem_of_getElem? hln)
      have hrl : rs.length = i := by rw [hrs.len, List.length_take]; omega
      by_cases hlt : i < rows.length
      · obtain ⟨x, hx⟩ : ∃ x, rows[i]? = some x := ⟨_, List.getElem?_eq_getElem hlt⟩
        have hG := hg x (List.mem_of_getElem? hx)
        have el : ln = lineT x := Option.some.inj (hln.symm.trans (hpre i x hx))
        obtain ⟨w0, ew, ef⟩ := fields_tokens hG
        rw [← line_split hG, ← el] at ef
        refine ⟨_, rfl, ln, rfl, l1, l2, (fun q => by rw [ef] at q; cases q), fun wt a t hq p l m qs H2 e2 hp hl hm hqs => ?_⟩
        rw [ef] at hq
        cases hq
        have gr2 := e2 _ _ gr
        refine ⟨_, rfl, rfl, _, rfl, iteF ?_⟩
        refine ⟨_, rfl, R, _, rfl, .inl (SqL.of gr2), rfl, _, rfl, ?_⟩
        rw [List.length_map, hrl]
        rw [decide_eq_false (fun q => by injection q with q; omega : ¬ V.int (i : Nat) = V.int 6)]
        refine iteF ⟨_, rfl, .inl ⟨rfl, _, SqL.of gr2⟩, rfl, _, rfl, p, _, _, _, rfl, rfl, hp, atI_nat (j := 0) rfl, _, rfl, p, _, _, _, rfl, rfl, hp, atI_nat (j := 1) rfl, _, rfl, p, _, _, _, rfl, rfl, hp, atI_nat (j := 2) rfl, ?_⟩
        have w9 := hG.w9
        refine ⟨l, m, (w0 : Nat), x.2.1, qs, x.2.2, rfl, .inr (SqL.of (by rw [← pat_back hG.ps]; exact hl)), hG.ps, by omega, by omega, .inr (SqL.of hm), Sets.q hqs, hG.ok, hG.sub.nodup, hG.ne, by have := hG.sub.len; omega, fun r H3 hr3 e3 hR3 => ?_⟩
        rw [ord_sub hG.sub, ← ew] at hR3
        have gr3 := e3 _ _ gr2
        refine ⟨R, _, _, rfl, rfl, gr3, ?_, by omega, fun q u eq => ?_, ?_, rs ++ [r], by rw [upd_same, List.map_append]; rfl, ?_, _, _, rfl⟩
        · rw [List.length_map, hrl]
          exact Nat.lt_of_lt_of_le (by omega : i < 1000) (by decide)
        · rw [upd_ne (hR0 eq)]
          exact e3 _ _ (e2 _ _ (e _ _ eq))
        · rw [upd_ne (Ne.symm hRD)]
          exact e3 _ _ (e2 _ _ gd)
        · rw [List.take_add_one, hx]
          have z : RulesAt K C H3 (rs ++ [r]) (rows.take i ++ [x]) := (hrs.ext (e2.trans e3)).app (.cons hR3 .nil)
          exact z.lst gr3
      · have ei : i = rows.length := by omega
        rcases htail with ⟨hlen2, _⟩ | ⟨bad, hbad, hb, k⟩
        · have := (List.getElem?_eq_some_iff.mp hln).1
          omega
        · have eb : ln = bad := by
            rw [ei] at hln
            exact Option.some.inj (hln.symm.trans hbad)
          subst eb
          have raise : ∀ (σ : L2.St) (H2 : Hp), Ext H' H2 → σ[1]? = some (some (.ref R)) → tMkO CL (spSupI CL "number") [] (tCons (tCB (fun xs H Q => ∃ p ys, xs = [.ref p] ∧ (SqL K H p ys ∨ SqT K H p ys) ∧ Q (.int ys.length) H) (tCons (tVar 1) tNil)) tNil) σ H2 E := fun σ H2 e2 hσ => by
            obtain ⟨z1, z2⟩ := seven_small rows.length (List.mem_range.mpr (by omega))
            refine err_readI z1 z2 (fun R' h' => ⟨_, hσ, R, _, rfl, .inl (SqL.of (e2 _ _ gr)), ?_⟩) fun dd hdd => ?_
            · show R' [.int ((rs.map V.ref).length : Nat)] H2
              rw [List.length_map, hrl, ei]
              exact h'
            · have hHd : H dd = none := by
                cases q : H dd with
                | none => rfl
                | some u => rw [e2 _ _ (e _ _ q)] at hdd; cases hdd
              exact k _ dd ((e.trans e2).trans (Ext.upd hdd)) hHd upd_same
          refine ⟨_, rfl, ln, rfl, l1, l2, fun hn H2 e2 => ?_, fun wt a t hq p l m qs H2 e2 hp hl hm hqs => ?_⟩
          · exact ⟨_, rfl, rfl, _, rfl, iteT (raise _ H2 e2 rfl)⟩
          · have h66 : rows.length = 6 := by
              rcases hb with hb | hb
              · exact hb
              · rw [hq] at hb
                cases hb
            refine ⟨_, rfl, rfl, _, rfl, iteF ?_⟩
            refine ⟨_, rfl, R, _, rfl, .inl (SqL.of (e2 _ _ gr)), rfl, _, rfl, ?_⟩
            rw [List.length_map, hrl, ei, h66]
            exact iteT (raise _ H2 e2 rfl)
    · obtain ⟨hi, e, gd, rs, gr, hrs, x2, x3, rfl⟩ := h
      rw [List.length_map] at hi hrs
      rcases htail with ⟨hlen2, k⟩ | ⟨bad, hbad, _, _⟩
      · rw [hlen2, List.take_length] at hrs
        refine ⟨_, rfl, ?_⟩
        refine sheet_red (.inr (SqL.of gr)) hrs h6 fun x H2 hx e2 hs => k x H2 ?_ (e.trans e2) hs
        cases q : H x with
        | none => rfl
        | some u => rw [e _ _ q] at hx; cases hx
      · have := (List.getElem?_eq_some_iff.mp hbad).1
        omega
end
end Pa
set_option maxRecDepth 100000
set_option maxHeartbeats 4000000
namespace Pa
open PySem PySem.Spec PyProof.Rows L2 RZ StX ClX
theorem walk_zipT {K : PySem.W.Frag} {a b : Addr} {xs ys : List V} {n : Nat} (h1 : n = xs.length) (h2 : n = ys.length) : Walk (ItzT K a b) n (fun H => SqT K H a xs ∧ SqT K H b ys) (YPair (fun i => xs[i]?) (fun i => ys[i]?)) := by
  refine ⟨fun i _ hi q => ?_, fun _ q => ⟨xs, ys, q.1, q.2, .inl (by omega)⟩, fun i H v H' _ q y => ?_⟩
  · have l1 : i < xs.length := by omega
    have l2 : i < ys.length := by omega
    exact ⟨xs, ys, xs[i], ys[i], q.1, q.2, by simp [l1], by simp [l2]⟩
  · obtain ⟨T, x, z, h1, h2, h3, h4, h5⟩ := y
    exact ⟨T, x, z, h1, h2, h3, h4 _ q.1, h5 _ q.2⟩
def askG (z : Str × Str) : Option PairD := if z.2 = ("" : Str) then none else some (z.1, V.str z.2)
theorem asked_is (ps : List Str) : askedOf ps = (PN.zip ps).filterMap askG := rfl
theorem strs_get {xs : List Str} {i : Nat} {v : V} (h : (xs.map V.str)[i]? = some v) : ∃ s, xs[i]? = some s ∧ v = .str s := by
  rw [List.getElem?_map] at h
  cases q : xs[i]? with
  | none => rw [q] at h; cases h
  | some s => rw [q] at h; exact ⟨s, rfl, (Option.some.inj h).symm⟩
theorem zip_get {xs ys : List Str} {i : Nat} {x y : Str} (h1 : xs[i]? = some x) (h2 : ys[i]? = some y) : (xs.zip ys)[i]? = some (x, y) := by
  rw [List.getElem?_zip_eq_some]
  exact ⟨h1, h2⟩
theorem log_small {i : Int} (h0 : 0 ≤ i) (h9 : i ≤ 9) : i.natAbs.log2 < 1920 := by
  have h : i.natAbs < 2 ^ 1920 := Nat.lt_of_lt_of_le (show i.natAbs < 2 ^ 4 by omega) (Nat.pow_le_pow_right (by decide) (by decide))
  by_cases z : i.natAbs = 0
  · rw [z]; decide
  · exact (Nat.log2_lt z).mpr h
abbrev NW : List Str := ["rule", "asked", "name", "text", "told", "value"]
section
variable {P : Program} {w : World} {K : PySem.W.Frag} {mg : Str → Option Value} {base : Heap} {tv tp tk dl C CS CB CL : Addr}
def spWR (K : PySem.W.Frag) (C : Addr) : Sp := fun vs H Q _ => ∃ (r : Addr) (x : RowD), vs = [.ref r] ∧ RuleAt K C H r x.1 x.2.1 x.2.2 ∧ Good x.1 x.2.1 x.2.2 ∧ ∀ H', Ext H H' → Q (.str (lineT x)) H'
abbrev swrite_rule : Stmt := topS 24
theorem scwrite_rule : FnScope NW ["rule"] (defScope swrite_rule) := ⟨rfl, rfl, rfl, by decide +kernel, rfl, by decide +kernel, by decide +kernel⟩
theorem ok_write_rule {f : Addr} {fd : FuncData} (F : Fun K "write_rule" "write_rule" swrite_rule f fd) (T : Txt K w mg tv tp tk dl C) (R : TxR K C) (bs : mg "str" = none) (C__part : CallOk P w K mg base 1 "_part" ["name", "value"] spPart) : FnOk P w K mg base CX0 2 f fd ["rule"] (spWR K C) := by
  refine F.ok scwrite_rule (fun vs H Q E h => ?_) (fun cdv A outer s H vs Q E hr h => ?_)
  · obtain ⟨r, x, rfl, _⟩ := h
    rfl
  · obtain ⟨r, x, rfl, hR, hG, k⟩ := h
    obtain ⟨dx, pt, st, qs, h1, h2, h3, h4⟩ := hR.ex
    refine ⟨_, (pss_cons (ps_setLc (i := 1) (own := [("name", 2), ("text", 3)]) (g := gTup K 2 (gCons (gName 2) (gCons (gName 3) gNil))) rfl scwrite_rule.nd rfl rfl (sw_true rfl rfl rfl (by decide +kernel)) (pi_zipA (by rfl) T.b_zip (pa_cons (pe_glob (v := .ref tp) (by rfl) T.g_PATTERN_NAMES rfl) (pa_cons (pe_fld (pv 0) rfl) pa_nil))) (blkOk_by (N := NW) (sc := defScope swrite_rule) (by decide +kernel)) (fun _ _ _ _ _ => (pg_tup rfl (pgs_cons (pg_name (i := 2) scwrite_rule.nd rfl (.inl rfl)) (pgs_cons (pg_name (i := 3) scwrite_rule.nd rfl (.inl rfl)) pgs_nil)))) (fun _ _ _ _ _ => (pts_one (pt_cmpR op_ne (pv 3) pe_str (nomark _)))) (fun _ _ _ _ _ => (pe_cc C__part (hr.mono (by decide)) (by rfl) (pa_cons (pv 2) (pa_cons (pv 3) pa_nil)))))
      (pss_cons (ps_setLc (i := 4) (own := [("name", 2), ("value", 5)]) (g := gTup K 2 (gCons (gName 2) (gCons (gName 5) gNil))) (tt := tYes) rfl scwrite_rule.nd rfl rfl (sw_true rfl rfl rfl (by decide +kernel)) (pi_tup (pe_fld (pv 0) rfl)) (blkOk_by (N := NW) (sc := defScope swrite_rule) (by decide +kernel)) (fun _ _ _ _ _ => (pg_tup rfl (pgs_cons (pg_name (i := 2) scwrite_rule.nd rfl (.inl rfl)) (pgs_cons (pg_name (i := 5) scwrite_rule.nd rfl (.inl rfl)) pgs_nil)))) (fun _ _ _ _ _ => pts_nil) (fun _ _ _ _ _ => (pe_cc C__part (hr.mono (by decide)) (by rfl) (pa_cons (pv 2) (pa_cons (pv 5) pa_nil)))))
      (pss_one (ps_ret (pe_join pe_str (pe_op op_cat (pe_op op_cat (pe_op op_cat (pe_lst (pa_cons (pe_callTy call_str_int (by rfl) bs (by decide +kernel) (pa_cons (pe_fld (pv 0) rfl) pa_nil)) pa_nil)) (pv 1)) (pe_lst (pa_cons pe_str pa_nil))) (pv 4))))))), ?_⟩
    have hpl := pat_len hG.ps
    have hz : 1000 ≤ sizeLine := by decide
    refine ⟨_, rfl, r, C, dx, _, _, rfl, h1, R.cl, R.np, rfl, tp, pt, _, _, rfl, .inr ⟨T.pn _, h2, fun D hD => ?_⟩⟩
    refine lc_it (walk_zipT (xs := PN.map V.str) (ys := x.2.1.map V.str) (n := 5) rfl (by rw [List.length_map, hpl])) (fun i H' => (∀ q u, q ≠ D → H q = some u → H' q = some u) ∧ H' D = some (.lst (((((PN.zip x.2.1).take i).filterMap askG).map tokT).map V.str))) ⟨fun q u hq e => by rw [upd_ne hq]; exact e, upd_same⟩ (fun i H' _ h => ⟨T.pn _, h2.ext fun q u e => h.1 q u (ne_of_none e hD) e⟩) (fun i v H' H3 hi h hY => ?_) (fun H1 h => ?_)
    · obtain ⟨k1, k2⟩ := h
      obtain ⟨Tt, y1, y2, rfl, nT, rfl, e1, e2⟩ := hY
      obtain ⟨n, hn, rfl⟩ := strs_get e1
      obtain ⟨t, ht, rfl⟩ := strs_get e2
      have hzz := zip_get hn ht
      have xT := Ext.upd (o := .tup [.str n, .str t]) nT
      have k2' := xT _ _ k2
      have eT : (PN.zip x.2.1).take (i + 1) = (PN.zip x.2.1).take i ++ [(n, t)] := by rw [List.take_add_one, hzz]; rfl
      refine ⟨Tt, _, rfl, SqT.of upd_same, rfl, _, _, rfl, _, _, rfl, rfl, rfl, _, rfl, rfl, _, rfl, ?_⟩
      by_cases q0 : t = ""
      · rw [decide_eq_true (congrArg V.str q0)]
        refine iteF ⟨fun q u hq e => xT _ _ (k1 q u hq e), ?_⟩
        rw [eT, List.filterMap_append]
        have : ([(n, t)] : List (Str × Str)).filterMap askG = [] := by
          rw [List.filterMap_cons, askG, if_pos q0]
          rfl
        rw [this, List.append_nil]
        exact k2'
      · rw [decide_eq_false (fun q => q0 (V.str.inj q) : ¬ V.str t = V.str "")]
        have hm : ((n, .str t) : PairD) ∈ askedP := asked_mem hG.ps _ (by
          rw [asked_is]
          exact List.mem_filterMap.mpr ⟨(n, t), List.mem_of_getElem? hzz, by rw [askG, if_neg q0]⟩)
        refine iteT ⟨_, rfl, _, rfl, (n, .str t), List.mem_append_left _ hm, rfl, _, k2', ?_, fun q u hq e => ?_, ?_⟩
        · rw [List.length_map, List.length_map]
          refine Nat.lt_of_le_of_lt (List.length_filterMap_le _ _) ?_
          rw [List.length_take]
          exact Nat.lt_of_le_of_lt (Nat.min_le_left _ _) (by omega)
        · rw [upd_ne hq]
          exact xT _ _ (k1 q u hq e)
        · rw [upd_same, eT, List.filterMap_append, List.map_append, List.map_append]
          have : ([(n, t)] : List (Str × Str)).filterMap askG = [(n, .str t)] := by
            rw [List.filterMap_cons, askG, if_neg q0]
            rfl
          rw [this]
          rfl
    obtain ⟨k1, k2⟩ := h
    have ex : Ext H H1 := fun q u e => k1 q u (ne_of_none e hD) e
    have hzl : (PN.zip x.2.1).length = 5 := by rw [List.length_zip, hpl]; rfl
    rw [List.take_of_length_le (by rw [hzl]; exact Nat.le_refl _), ← asked_is] at k2
    refine ⟨_, rfl, r, C, dx, _, _, rfl, ex _ _ h1, R.cl, R.ns, rfl, st, rfl, ⟨_, h3.ext ex⟩, fun D2 hD2 => ?_⟩
    have hl6 := hG.sub.len
    have hqs : qs.length = x.2.2.length := Paired.length h4
    refine lc_tup (xs := qs.map V.ref) (fun i H' => (∀ q u, q ≠ D2 → H1 q = some u → H' q = some u) ∧ H' D2 = some (.lst (((x.2.2.take i).map tokT).map V.str))) ⟨fun q u hq e => by rw [upd_ne hq]; exact e, upd_same⟩ (fun i H' _ h => (h3.ext ex).ext fun q u e => h.1 q u (ne_of_none e hD2) e) (fun i v H' hv h => ?_) (fun H2 h => ?_)
    · obtain ⟨k3, k4⟩ := h
      have ex2 : Ext H1 H' := fun q u e => k3 q u (ne_of_none e hD2) e
      obtain ⟨q0, y, rfl, hy, hr'⟩ := sets_at ((Sets.ext h4 ex).ext ex2) hv
      have hi := (List.getElem?_eq_some_iff.mp hy).1
      refine ⟨q0, _, rfl, hr', rfl, _, _, rfl, _, _, rfl, rfl, rfl, _, rfl, _, rfl, y, List.mem_append_right _ (told_mem (hG.ok y (List.mem_of_getElem? hy))), rfl, _, k4, ?_, fun q u hq e => ?_, ?_⟩
      · rw [List.length_map, List.length_map, List.length_take]
        exact Nat.lt_of_le_of_lt (Nat.min_le_left _ _) (by omega)
      · rw [upd_ne hq]
        exact k3 q u hq e
      · rw [upd_same, List.take_add_one, hy, List.map_append, List.map_append]
        rfl
    · obtain ⟨k3, k4⟩ := h
      rw [List.length_map, hqs, List.take_length] at k4
      have ex2 : Ext H1 H2 := fun q u e => k3 q u (ne_of_none e hD2) e
      have e02 := ex.trans ex2
      have hal := asked_len hG.ps
      have k2' := ex2 _ _ k2
      refine ⟨⟨_, rfl⟩, _, rfl, r, C, dx, _, _, rfl, e02 _ _ h1, R.cl, R.nw, rfl, _, rfl, log_small hG.w0 hG.w9, (by show 1 ≤ sizeLine; decide), fun a1 ha1 => ?_⟩
      have y1 := Ext.upd (o := .lst [.str (toString x.1)]) ha1
      refine ⟨_, rfl, a1, D, _, _, rfl, rfl, upd_same, y1 _ _ k2', ?_, fun a2 ha2 => ?_⟩
      · rw [List.length_map, List.length_map]
        show 1 + _ ≤ sizeLine
        omega
      have y2 := Ext.upd (o := .lst ([.str (toString x.1)] ++ ((askedOf x.2.1).map tokT).map V.str)) ha2
      refine ⟨(by show 1 ≤ sizeLine; decide), fun a3 ha3 => ?_⟩
      have y3 := Ext.upd (o := .lst [.str ":"]) ha3
      refine ⟨a2, a3, _, _, rfl, rfl, y3 _ _ upd_same, upd_same, ?_, fun a4 ha4 => ?_⟩
      · rw [List.length_append, List.length_map, List.length_map]
        show 1 + _ + 1 ≤ sizeLine
        omega
      have y4 := Ext.upd (o := .lst ([.str (toString x.1)] ++ ((askedOf x.2.1).map tokT).map V.str ++ [.str ":"])) ha4
      refine ⟨_, rfl, a4, D2, _, _, rfl, rfl, upd_same, y4 _ _ (y3 _ _ (y2 _ _ (y1 _ _ k4))), ?_, fun a5 ha5 => ?_⟩
      · rw [List.length_append, List.length_append, List.length_map, List.length_map, List.length_map, List.length_map]
        show 1 + _ + 1 + _ ≤ sizeLine
        omega
      have y5 := Ext.upd (o := .lst ([.str (toString x.1)] ++ ((askedOf x.2.1).map tokT).map V.str ++ [.str ":"] ++ (x.2.2.map tokT).map V.str)) ha5
      have etk : [V.str (toString x.1)] ++ ((askedOf x.2.1).map tokT).map V.str ++ [V.str ":"] ++ (x.2.2.map tokT).map V.str = (tokens x).map V.str := by
        unfold tokens
        simp only [List.map_append, List.map_cons, List.cons_append, List.append_assoc, List.nil_append]
      refine ⟨" ", a5, tokens x, rfl, rfl, .inl (SqL.of (by rw [upd_same, etk])), ?_, ?_⟩
      · rw [blank_is]
        have := join_fit (c := 32) (B := 10) (N := 13) (fun p hp => (toks_plain hG p hp).2.2) (toks_len hG).1
        omega
      · exact k _ (e02.trans (y1.trans (y2.trans (y3.trans (y4.trans y5)))))
end
end Pa
set_option maxRecDepth 100000
set_option maxHeartbeats 4000000
namespace Pa
open PySem PySem.Spec PyProof.Rows L2 RZ StX ClX
def sheetT (rows : List RowD) : Str := Txt.join "\n" (rows.map lineT)
section
variable {P : Program} {w : World} {K : PySem.W.Frag} {mg : Str → Option Value} {base : Heap} {tv tp tk dl C CS CB CL : Addr}
def spWS (K : PySem.W.Frag) (C CS : Addr) : Sp := fun vs H Q _ => ∃ (a : Addr) (rows : List RowD), vs = [.ref a] ∧ SheetAt K C CS H a rows ∧ GoodR rows ∧ rows.length ≤ 6 ∧ ∀ H', Ext H H' → Q (.str (sheetT rows)) H'
abbrev swrite_sheet : Stmt := topS 25
theorem scwrite_sheet : FnScope ["sheet", "rule"] ["sheet"] (defScope swrite_sheet) := ⟨rfl, rfl, rfl, by decide +kernel, rfl, by decide +kernel, by decide +kernel⟩
theorem ok_write_sheet {f : Addr} {fd : FuncData} (F : Fun K "write_sheet" "write_sheet" swrite_sheet f fd) {fI : Addr} {fdI : FuncData} (IS : IterS P w K mg base CS fI fdI) (C_write_rule : CallOk P w K mg base 2 "write_rule" ["rule"] (spWR K C)) : FnOk P w K mg base CX0 3 f fd ["sheet"] (spWS K C CS) := by
  refine F.ok scwrite_sheet (fun vs H Q E h => ?_) (fun cdv A outer s H vs Q E hr h => ?_)
  · obtain ⟨a, rows, rfl, _⟩ := h
    rfl
  · obtain ⟨a, rows, rfl, hS, hg, h6, k⟩ := h
    obtain ⟨dx, t, rs, h1, h2, h3⟩ := hS.ex
    have hlen := h3.len
    refine ⟨_, (pss_one (ps_ret (pe_join pe_str (pe_lc (own := [("rule", 1)]) (g := gName 1) (tt := tYes) rfl scwrite_sheet.nd (pi_own IS.fn IS.bi IS.it (hr.mono (by decide)) (pv 0)) (blkOk_by (N := ["sheet", "rule"]) (sc := defScope swrite_sheet) (by decide +kernel)) (fun _ _ _ _ _ => (pg_name (i := 1) scwrite_sheet.nd rfl (.inl rfl))) (fun _ _ _ _ _ => pts_nil) (fun _ _ _ _ _ => (pe_cc C_write_rule (hr.mono (by decide)) (by rfl) (pa_cons (pv 1) pa_nil))))))), ?_⟩
    refine ⟨⟨_, rfl⟩, _, rfl, a, dx, _, t, rfl, h1, ⟨⟨dx, h1⟩, _, h2⟩, fun D hD => ?_⟩
    refine lc_tup (xs := rs.map V.ref) (fun i H' => (∀ q u, q ≠ D → H q = some u → H' q = some u) ∧ H' D = some (.lst (((rows.take i).map lineT).map V.str))) ⟨fun q u hq e => by rw [upd_ne hq]; exact e, upd_same⟩ (fun i H' _ h => h2.ext fun q u e => h.1 q u (ne_of_none e hD) e) (fun i v H' hv h => ?_) (fun H1 h => ?_)
    · obtain ⟨k1, k2⟩ := h
      have ex : Ext H H' := fun q u e => k1 q u (ne_of_none e hD) e
      obtain ⟨r, x, rfl, _, hx, hR⟩ := h3.get hv
      have hi := (List.getElem?_eq_some_iff.mp hx).1
      refine ⟨rfl, _, rfl, r, x, rfl, hR.ext ex, hg x (List.mem_of_getElem? hx), fun H2 e2 => ⟨_, e2 _ _ k2, ?_, fun q u hq e => ?_, ?_⟩⟩
      · rw [List.length_map, List.length_map, List.length_take]
        exact Nat.lt_of_le_of_lt (Nat.min_le_left _ _) (Nat.lt_of_lt_of_le (by omega : i < 1000) (by decide))
      · rw [upd_ne hq]
        exact e2 _ _ (k1 q u hq e)
      · rw [upd_same, List.take_add_one, hx, List.map_append, List.map_append]
        rfl
    · obtain ⟨k1, k2⟩ := h
      rw [List.length_map, hlen, List.take_length] at k2
      refine ⟨"\n", D, rows.map lineT, rfl, rfl, .inl (SqL.of k2), ?_, k _ fun q u e => k1 q u (ne_of_none e hD) e⟩
      rw [feed_is]
      have := join_fit (c := 10) (B := 400) (N := 6) (ps := rows.map lineT) (fun p hp => by
        obtain ⟨x, hx, rfl⟩ := List.mem_map.mp hp
        exact (line_free (hg x hx)).2) (by rw [List.length_map]; exact h6)
      omega
end
end Pa
set_option maxRecDepth 100000
set_option maxHeartbeats 4000000
/-! zip of any two walks: what one turn does, from what each walk's turn does; then zip of a list and a tuple -/
namespace ZipM
open PySem PySem.Spec
/-- a walk's state that only its own places tell -/
def Own (F : List Addr) (p : Heap → Prop) : Prop := ∀ h h', p h → (∀ b ∈ F, ∀ o, h.get? b = some o → h'.get? b = some o) → p h'
section
variable {prog : Program} {w : World} {A : Around} {E : Value → Shared → Prop} {s : Shared} {Z I O i j l m : Addr} {a b x y : Value} {p p' q q' : Heap → Prop}
/-- the walk at i gives x and goes from p to p' -/
def Gives (prog : Program) (w : World) (A : Around) (i : Addr) (p : Heap → Prop) (x : Value) (p' : Heap → Prop) : Prop :=
  ∀ (t : Shared) (Q E : Value → Shared → Prop), p t.heap → (∀ h', p' h' → Heap.SameBut i t.heap h' → Q x { t with heap := h' }) → wpAny (model prog w) A (Builtin.SmallTypes.nextOf (.ref i)) Q E t
/-- the walk at i is at its end -/
def Over (prog : Program) (w : World) (A : Around) (i : Addr) (p : Heap → Prop) : Prop :=
  ∀ (t : Shared) (Q E : Value → Shared → Prop), p t.heap → (∀ h' e, Heap.ExtBut i t.heap h' → (∃ o, h'.get? e = some o ∧ o.cls = .type "StopIteration") → E (.ref e) { t with heap := h' }) → wpAny (model prog w) A (Builtin.SmallTypes.nextOf (.ref i)) Q E t
theorem Own.but {c : Addr} {F : List Addr} {r : Heap → Prop} (n : Own F r) {h h' : Heap} (k : Heap.ExtBut c h h') (hc : c ∉ F) (z : r h) : r h' := n h h' z fun b' hb o e => k b' o (fun z => hc (by rw [← z]; exact hb)) e
theorem off2 {c u v : Addr} (h1 : c ≠ u) (h2 : c ≠ v) : c ∉ [u, v] := by simp [h1, h2]
theorem next_item {X : Value → Shared → Prop} (D : ZipApart Z I O i j l m) (np : Own [i, l] p) (np' : Own [i, l] p') (nq : Own [j, m] q) (nq' : Own [j, m] q') (G1 : Gives prog w A i p x p') (G2 : Gives prog w A j q y q')
    (hZ : IsZip s.heap Z I O .none) (hI : IsPair s.heap I (.ref i) (.ref j)) (hO : IsPair s.heap O a b) (h1 : p s.heap) (h2 : q s.heap)
    (K : ∀ h', IsZip h' Z I O (rawInt s.heap.objs.size) → IsPair h' O x y → p' h' → q' h' → IsPair h' s.heap.objs.size x y → (∀ c o, c ≠ Z → c ≠ O → c ≠ i → c ≠ j → s.heap.get? c = some o → h'.get? c = some o) → E (.ref s.heap.objs.size) { s with heap := h' }) :
    wpAny (model prog w) A (Builtin.«zip.__next__» ⟨[.ref Z], []⟩) (fun f s' => ∃ v, f = .done (.ret v) ∧ E v s') X s := by
  show wpAny _ _ (field (.ref Z) 2 >>= _) _ _ _
  refine wpAny_bind (wpAny_field hZ rfl (x := .bool false) rfl (wpAny_bind (wpAny_field hZ rfl (x := .ref I) rfl (wpAny_bind (wpAny_seqItems hI rfl (wpAny_bind ?_))))))
  unfold Builtin.SmallTypes.ownedTupleIsFree
  refine wpAny_bind (wpAny_field hZ rfl (x := .none) rfl (wpAny_pure ?_))
  simp only [if_true]
  refine wpAny_bind (wpAny_rule (wpAny_bind (wpAny_field hZ rfl (x := .ref O) rfl (wpAny_bind (wpAny_setField_rec hZ (by simp) fun ha hZa sa => ?_)))))
  replace hZa : IsZip ha Z I O .ellipsis := hZa
  refine wpAny_bind ?_
  simp only [List.zipIdx_cons, List.zipIdx_nil, List.forIn_cons, List.forIn_nil]
  refine wpAny_bind (wpAny_bind (wpAny_onRaise (wpAny_bind (G1 _ _ _ (np.but sa.extBut (off2 D.i1z.symm D.l1z.symm) h1) fun hb p1 sb => wpAny_pure ?_))))
  have hOb : IsPair hb O a b := sb.extBut _ _ D.TOi1 (sa.extBut _ _ D.TOz hO)
  refine wpAny_bind (wpAny_seqItems hOb rfl (wpAny_bind (wpAny_updateSeq_pair hOb fun hc hOc sc => ?_)))
  replace hOc : IsPair hc O x b := hOc
  have q3 := nq.but sc.extBut (off2 D.TOi2 D.l2TO.symm) (nq.but sb.extBut (off2 D.i12 D.l2i1.symm) (nq.but sa.extBut (off2 D.i2z.symm D.l2z.symm) h2))
  refine wpAny_bind (wpAny_letGo (wpAny_pure (wpAny_bind (wpAny_bind (wpAny_onRaise (wpAny_bind (G2 _ _ _ q3 fun hd q4 sd => wpAny_pure ?_)))))))
  have hOd : IsPair hd O x b := sd.extBut _ _ D.TOi2 hOc
  refine wpAny_bind (wpAny_seqItems hOd rfl (wpAny_bind (wpAny_updateSeq_pair hOd fun he hOe se => ?_)))
  replace hOe : IsPair he O x y := hOe
  refine wpAny_bind (wpAny_letGo (wpAny_pure (wpAny_pure (wpAny_bind (wpAny_seqItems hOe rfl (wpAny_bind (wpAny_newTuple ?_)))))))
  have size : he.objs.size = s.heap.objs.size := by rw [se.1, sd.1, sc.1, sb.1, sa.1]
  have hZe : IsZip he Z I O .ellipsis := se.extBut _ _ D.TOz.symm (sd.extBut _ _ D.i2z.symm (sc.extBut _ _ D.TOz.symm (sb.extBut _ _ D.i1z.symm hZa)))
  have kept : ∀ c o, c ≠ Z → c ≠ O → c ≠ i → c ≠ j → s.heap.get? c = some o → he.get? c = some o := fun c o c1 c2 c3 c4 e => se.extBut _ _ c2 (sd.extBut _ _ c4 (sc.extBut _ _ c2 (sb.extBut _ _ c3 (sa.extBut _ _ c1 e))))
  have p5 := np'.but se.extBut (off2 D.TOi1 D.l1TO.symm) (np'.but sd.extBut (off2 D.i12.symm D.l1i2.symm) (np'.but sc.extBut (off2 D.TOi1 D.l1TO.symm) p1))
  have q5 := nq'.but se.extBut (off2 D.TOi2 D.l2TO.symm) q4
  have Zl : Z < he.objs.size := Heap.lt_size hZe
  show wpAny _ _ (Builtin.SmallTypes.ownedTupleHandOut (.ref Z) (.ref he.objs.size) >>= _) _ _ _
  refine wpAny_bind ?_
  unfold Builtin.SmallTypes.ownedTupleHandOut
  have hZf : IsZip (he.push { cls := .type "tuple", data := .seq #[x, y] }) Z I O .ellipsis := Heap.get?_push_of_some _ hZe
  refine wpAny_bind (wpAny_setField_rec hZf (by simp) fun hg hZg sg => ?_)
  replace hZg : IsZip hg Z I O (rawInt he.objs.size) := hZg
  refine wpAny_setField_rec hZg (by simp) fun hk hZk sk => ?_
  replace hZk : IsZip hk Z I O (rawInt he.objs.size) := hZk
  have up : Heap.ExtBut Z he hk := fun c o c1 e => sk.extBut _ _ c1 (sg.extBut _ _ c1 (Heap.get?_push_of_some _ e))
  have new : IsPair hk he.objs.size x y := sk.extBut _ _ (Nat.ne_of_gt Zl) (sg.extBut _ _ (Nat.ne_of_gt Zl) (Heap.get?_push_size _ rfl))
  rw [size] at hZk new
  refine wpAny_pure ⟨_, rfl, ?_⟩
  show E (.ref he.objs.size) _
  rw [size]
  exact K hk hZk (up _ _ D.TOz hOe) (np'.but up (off2 D.i1z.symm D.l1z.symm) p5) (nq'.but up (off2 D.i2z.symm D.l2z.symm) q5) new fun c o c1 c2 c3 c4 e => up c o c1 (kept c o c1 c2 c3 c4 e)
theorem next_over {X : Value → Shared → Prop} {Q : Fin → Shared → Prop} (D : ZipApart Z I O i j l m) (np : Own [i, l] p) (G1 : Over prog w A i p) (hZ : IsZip s.heap Z I O .none) (hI : IsPair s.heap I (.ref i) (.ref j)) (h1 : p s.heap)
    (K : ∀ h' e, (∀ c o, c ≠ Z → c ≠ O → c ≠ i → c ≠ j → s.heap.get? c = some o → h'.get? c = some o) → (∃ o, h'.get? e = some o ∧ o.cls = .type "StopIteration") → X (.ref e) { s with heap := h' }) :
    wpAny (model prog w) A (Builtin.«zip.__next__» ⟨[.ref Z], []⟩) Q X s := by
  show wpAny _ _ (field (.ref Z) 2 >>= _) _ _ _
  refine wpAny_bind (wpAny_field hZ rfl (x := .bool false) rfl (wpAny_bind (wpAny_field hZ rfl (x := .ref I) rfl (wpAny_bind (wpAny_seqItems hI rfl (wpAny_bind ?_))))))
  unfold Builtin.SmallTypes.ownedTupleIsFree
  refine wpAny_bind (wpAny_field hZ rfl (x := .none) rfl (wpAny_pure ?_))
  simp only [if_true]
  refine wpAny_bind (wpAny_rule (wpAny_bind (wpAny_field hZ rfl (x := .ref O) rfl (wpAny_bind (wpAny_setField_rec hZ (by simp) fun ha hZa sa => ?_)))))
  replace hZa : IsZip ha Z I O .ellipsis := hZa
  refine wpAny_bind ?_
  simp only [List.zipIdx_cons, List.zipIdx_nil, List.forIn_cons, List.forIn_nil]
  refine wpAny_bind (wpAny_bind (wpAny_onRaise (wpAny_bind (G1 _ _ _ (np.but sa.extBut (off2 D.i1z.symm D.l1z.symm) h1) fun hb e sb he => ?_))))
  obtain ⟨oe, hoe, ce⟩ := he
  have hZb : IsZip hb Z I O .ellipsis := sb _ _ D.i1z.symm hZa
  have ne : e ≠ Z := fun z => by subst z; rw [hZb] at hoe; cases hoe; simp at ce
  exact wpAny_setField_rec hZb (by simp) fun hc _ sc => K hc e (fun c o c1 _ c3 _ z => sc.extBut _ _ c1 (sb _ _ c3 (sa.extBut _ _ c1 z))) ⟨oe, sc.extBut _ _ ne hoe, ce⟩
theorem py_item {X : Value → Shared → Prop} {Q : Option Value → Shared → Prop} (D : ZipApart Z I O i j l m) (np : Own [i, l] p) (np' : Own [i, l] p') (nq : Own [j, m] q) (nq' : Own [j, m] q') (G1 : ∀ A, Gives prog w A i p x p') (G2 : ∀ A, Gives prog w A j q y q')
    (hZ : IsZip s.heap Z I O .none) (hI : IsPair s.heap I (.ref i) (.ref j)) (hO : IsPair s.heap O a b) (h1 : p s.heap) (h2 : q s.heap)
    (K : ∀ h', IsZip h' Z I O (rawInt s.heap.objs.size) → IsPair h' O x y → p' h' → q' h' → IsPair h' s.heap.objs.size x y → (∀ c o, c ≠ Z → c ≠ O → c ≠ i → c ≠ j → s.heap.get? c = some o → h'.get? c = some o) → Q (some (.ref s.heap.objs.size)) { s with heap := h' }) :
    wpAny (model prog w) A (pyNext (.ref Z)) Q X s := by
  have ty : s.TypeIs (.ref Z) "zip" := ⟨_, hZ, rfl⟩
  unfold pyNext
  refine wpAny_bind (wpAny_attempt (wpAny_callSpecial?_slot (name := Str.ofString "__next__") ty F.slot_zip_next (wpAny_call_entry F.slot_zip_next ty F.entry_zip_next ?_ (F.args_zip_next_1 _))))
  exact next_item D np np' nq nq' (G1 _) (G2 _) hZ hI hO h1 h2 fun h' a1 a2 a3 a4 a5 a6 => wpAny_pure (K h' a1 a2 a3 a4 a5 a6)
theorem py_over {X : Value → Shared → Prop} {Q : Option Value → Shared → Prop} (hh : A.handled = none) (D : ZipApart Z I O i j l m) (np : Own [i, l] p) (G1 : ∀ A, A.handled = none → Over prog w A i p) (hZ : IsZip s.heap Z I O .none) (hI : IsPair s.heap I (.ref i) (.ref j)) (h1 : p s.heap)
    (K : ∀ h', (∀ c o, c ≠ Z → c ≠ O → c ≠ i → c ≠ j → s.heap.get? c = some o → h'.get? c = some o) → Q none { s with heap := h' }) : wpAny (model prog w) A (pyNext (.ref Z)) Q X s := by
  have ty : s.TypeIs (.ref Z) "zip" := ⟨_, hZ, rfl⟩
  unfold pyNext
  refine wpAny_bind (wpAny_attempt (wpAny_callSpecial?_slot (name := Str.ofString "__next__") ty F.slot_zip_next (wpAny_call_entry F.slot_zip_next ty F.entry_zip_next ?_ (F.args_zip_next_1 _))))
  refine next_over D np (G1 _ hh) hZ hI h1 fun h' e kk he => ?_
  obtain ⟨o, ho, hc⟩ := he
  exact wpAny_bind (wpAny_isInstance (T := "StopIteration") (b := true) ⟨o, ho, hc⟩ isSubtype_stop (wpAny_pure (K _ kk)))
end
/-! ### a list beside a tuple -/
def pL (i l : Addr) (xs : Array Value) (k : Nat) (h : Heap) : Prop := h.IsListIter i l k ∧ h.IsList l xs
def pT (i l : Addr) (xs : Array Value) (k : Nat) (h : Heap) : Prop := h.IsTupleIter i l k ∧ h.IsTuple l xs
section
variable {prog : Program} {w : World} {A : Around} {i l : Addr} {xs : Array Value} {k : Nat} {x : Value}
theorem own_L : Own [i, l] (pL i l xs k) := fun h h' z f => ⟨z.1.at (f i (by simp)), by obtain ⟨o, e, r⟩ := z.2; exact ⟨o, f l (by simp) _ e, r⟩⟩
theorem own_T : Own [i, l] (pT i l xs k) := fun h h' z f => ⟨z.1.at (f i (by simp)), by obtain ⟨o, e, r⟩ := z.2; exact ⟨o, f l (by simp) _ e, r⟩⟩
theorem gives_L (hl : l ≠ i) (hx : xs[k]? = some x) : Gives prog w A i (pL i l xs k) x (pL i l xs (k + 1)) := fun t Q E z hQ => wpAny_nextOf_list_item z.1 z.2 hx fun h' a1 sb => hQ h' ⟨a1, z.2.extBut sb.extBut hl⟩ sb
theorem gives_T (hl : l ≠ i) (hx : xs[k]? = some x) : Gives prog w A i (pT i l xs k) x (pT i l xs (k + 1)) := fun t Q E z hQ => RZ.nextOf_tuple_item z.1 z.2 hx fun h' a1 sb => hQ h' ⟨a1, z.2.extBut sb.extBut hl⟩ sb
theorem over_L (hh : A.handled = none) (hx : xs[k]? = none) : Over prog w A i (pL i l xs k) := fun t Q E z hE => wpAny_nextOf_list_end hh z.1 z.2 hx hE
end
end ZipM
set_option maxRecDepth 100000
set_option maxHeartbeats 4000000
namespace ZipM
open PySem PySem.Spec PyProof.Rows L2
abbrev zh1 (h : Heap) (l : Addr) : Heap := h.push { cls := .type "list_iterator", data := .fields #[.ref l, .int 0 0] }
abbrev zh2 (h : Heap) (l m : Addr) : Heap := (zh1 h l).push { cls := .type "tuple_iterator", data := .fields #[.ref m, .int 0 0] }
abbrev zh3 (h : Heap) (l m : Addr) : Heap := (zh2 h l m).push { cls := .type "tuple", data := .seq #[.ref h.objs.size, .ref (zh1 h l).objs.size] }
abbrev zh4 (h : Heap) (l m : Addr) : Heap := (zh3 h l m).push { cls := .type "tuple", data := .seq #[.none, .none] }
abbrev zh5 (h : Heap) (l m : Addr) : Heap := (zh4 h l m).push { cls := .type "zip", data := .fields #[.none, .bool false, .bool false, .ref (zh2 h l m).objs.size, .ref (zh3 h l m).objs.size] }
theorem zip_made (l m : Addr) (xs ys : Array Value) : Meets (Builtin.«zip.__new__» ⟨[.type "zip", .ref l, .ref m], []⟩) (fun _ R s => s.heap.IsList l xs ∧ s.heap.IsTuple m ys ∧ R (.ok (.ret (.ref (zh4 s.heap l m).objs.size))) { s with heap := zh5 s.heap l m }) := .of_wp fun prog w A R s h => by
  obtain ⟨hp, g, d, tk, os⟩ := s
  obtain ⟨hl1, hl2, h⟩ := h
  have hsub := sub_zip
  have hL1 : Heap.IsList (Shared.heap ⟨hp, g, d, tk, os⟩) l xs := hl1
  have hL2 : Heap.IsTuple (Shared.heap ⟨zh1 hp l, g, d, tk, os⟩) m ys := Heap.IsTuple.push hl2 _
  wp_walk using wpAny_pyIter_list hL1, wpAny_pyIter_tuple hL2
  exact ⟨_, rfl, h⟩
section
variable {prog : Program} {w : World} {A : Around} {E : Value → Shared → Prop} {s : Shared}
theorem call_zipM {l m : Addr} {xs ys : Array Value} {Q : Value → Shared → Prop} (hl : s.heap.IsList l xs) (hm : s.heap.IsTuple m ys)
    (K : ∀ h' n, n = s.heap.objs.size → IsZip h' (n + 4) (n + 2) (n + 3) .none → IsPair h' (n + 2) (.ref n) (.ref (n + 1)) → IsPair h' (n + 3) .none .none → h'.IsListIter n l 0 → h'.IsTupleIter (n + 1) m 0 → (∀ c o, s.heap.get? c = some o → h'.get? c = some o) → Q (.ref (n + 4)) { s with heap := h' }) :
    wpAny (model prog w) A (call (.type "zip") [.ref l, .ref m]) Q E s := by
  refine callType_new F.called_zip (by decide) (F.typeCall_zip_2 _ _) (F.newCall_zip_2 _ _) (fun obj => F.args_object_init_3 obj _ _) F.entry_zip_new (zip_made l m xs ys) ⟨hl, hm, ?_⟩
  obtain ⟨n, hn⟩ : ∃ n, n = s.heap.objs.size := ⟨_, rfl⟩
  have n1 : (zh1 s.heap l).objs.size = n + 1 := by rw [Heap.size_push, hn]
  have n2 : (zh2 s.heap l m).objs.size = n + 2 := by rw [Heap.size_push, n1]
  have n3 : (zh3 s.heap l m).objs.size = n + 3 := by rw [Heap.size_push, n2]
  have n4 : (zh4 s.heap l m).objs.size = n + 4 := by rw [Heap.size_push, n3]
  have up : ∀ {g : Heap} {c : Addr} {o u : Obj}, g.get? c = some o → (g.push u).get? c = some o := fun e => Heap.get?_push_of_some _ e
  have g5 : (zh5 s.heap l m).get? (zh4 s.heap l m).objs.size = some _ := Heap.get?_push_size _ rfl
  have g4 : (zh5 s.heap l m).get? (zh3 s.heap l m).objs.size = some _ := up (Heap.get?_push_size _ rfl)
  have g3 : (zh5 s.heap l m).get? (zh2 s.heap l m).objs.size = some _ := up (up (Heap.get?_push_size _ rfl))
  have g2 : (zh5 s.heap l m).get? (zh1 s.heap l).objs.size = some _ := up (up (up (Heap.get?_push_size _ rfl)))
  have g1 : (zh5 s.heap l m).get? s.heap.objs.size = some _ := up (up (up (up (Heap.get?_push_size _ rfl))))
  show _ ∧ _
  rw [n4, n2, n3] at g5
  rw [n3] at g4
  rw [n2, n1, ← hn] at g3
  rw [n1] at g2
  rw [← hn] at g1
  rw [n4]
  exact ⟨⟨_, g5, rfl⟩, K _ n hn g5 g3 g4 ⟨_, g1, rfl, rfl⟩ ⟨_, g2, rfl, rfl⟩ fun c o z => up (up (up (up (up z))))⟩
end
/-- a list at a and a tuple at b, their items in new pairs; the list ends first -/
def ItzM (K : PySem.W.Frag) (a b : Addr) : It :=
  ⟨fun i H => ∃ xs ys x y, SqL K H a xs ∧ SqT K H b ys ∧ xs[i]? = some x ∧ ys[i]? = some y,
    fun i H v H' => ∃ T x y, v = .ref T ∧ H T = none ∧ H' = upd H T (.tup [x, y]) ∧ (∀ xs, SqL K H a xs → xs[i]? = some x) ∧ ∀ ys, SqT K H b ys → ys[i]? = some y,
    fun i H => ∃ xs ys, SqL K H a xs ∧ SqT K H b ys ∧ xs.length ≤ i⟩
theorem turn_zipM {P : Program} {w : World} {K : PySem.W.Frag} {elts : List Expr} {kk : Nat} {tpos : Pos} {a b Z I O i j : Addr} (D : ZipApart Z I O i j a b) :
    Turn P w K (.Tuple elts kk tpos) (ItzM K a b) [Z, I, O, i, j] Z (fun n h => IsZip h Z I O .none ∧ IsPair h I (.ref i) (.ref j) ∧ (∃ x y, IsPair h O x y) ∧ h.IsListIter i a n ∧ h.IsTupleIter j b n) where
  mem := by simp
  obj := fun n h st c hc => by
    obtain ⟨hz, hI, ⟨x, y, hO⟩, ⟨o1, e1, _, d1⟩, ⟨o2, e2, _, d2⟩⟩ := st
    simp only [List.mem_cons, List.not_mem_nil, or_false] at hc
    rcases hc with rfl | rfl | rfl | rfl | rfl
    · exact ⟨_, hz, fun v q => nomatch q⟩
    · exact ⟨_, hI, fun v q => nomatch q⟩
    · exact ⟨_, hO, fun v q => nomatch q⟩
    · exact ⟨o1, e1, fun v q => by rw [d1] at q; cases q⟩
    · exact ⟨o2, e2, fun v q => by rw [d2] at q; cases q⟩
  keep := fun n h h' st k => by
    obtain ⟨hz, hI, ⟨x, y, hO⟩, h1, h2⟩ := st
    exact ⟨k Z (by simp) _ hz, k I (by simp) _ hI, ⟨x, y, k O (by simp) _ hO⟩, h1.at (k i (by simp)), h2.at (k j (by simp))⟩
  item := by
    intro X hP hw hK hc n pins s σ H E Iv hf st hg
    subst hP hw hK
    obtain ⟨hz, hI, ⟨x0, y0, hO⟩, h1, h2⟩ := st
    obtain ⟨xs, ys, x, y, qx, qy, hx, hy⟩ := hg
    obtain ⟨us, rv, pl, _⟩ := Iv.list qx
    obtain ⟨vs, rv2, pt, _⟩ := Iv.tuple qy
    obtain ⟨u, hu, ru⟩ := rv.get hx
    obtain ⟨v, hv, rw2⟩ := rv2.get hy
    have Zl : Z < s.heap.objs.size := Heap.lt_size hz
    refine py_item D own_L own_L own_T own_T (fun _ => gives_L (xs := us.toArray) (k := n) (x := u) D.l1i1 (by simpa using hu)) (fun _ => gives_T (xs := vs.toArray) (k := n) (x := v) D.l2i2 (by simpa using hv)) hz hI hO ⟨h1, pl.isList⟩ ⟨h2, pt⟩ fun h' hz' hO' p1 q1 hT hk => ?_
    refine ⟨_, rfl, wpAny_letOwnedTupleGo_zip (s := { s with heap := h' }) hz' fun g hz2 sb => ?_⟩
    have hT2 : g.get? s.heap.objs.size = some { cls := .type "tuple", data := .seq #[u, v] } := (sb.2 _ (Nat.ne_of_gt Zl)).trans hT
    have new : ObjOk X.prog X.w (upd H s.heap.objs.size (.tup [x, y])) g s.heap.objs.size (.tup [x, y]) := ⟨(by show 2 ≤ sizeLine; decide), [u, v], .cons ru (.cons rw2 .nil), ⟨_, hT2, rfl, _, rfl⟩⟩
    have off : ∀ {c : Addr}, c ∉ [Z, I, O, i, j] → c ≠ Z ∧ c ≠ O ∧ c ≠ i ∧ c ≠ j := fun hc => ⟨fun q => hc (by simp [q]), fun q => hc (by simp [q]), fun q => hc (by simp [q]), fun q => hc (by simp [q])⟩
    have J : Inv X pins σ (upd H s.heap.objs.size (.tup [x, y])) { s with heap := g } := Iv.turnedNew (t' := s.toks) (ch := [Z, I, O, i, j]) (fun c o hb q => (sb.2 c (off hb).1).trans (hk c o (off hb).1 (off hb).2.1 (off hb).2.2.1 (off hb).2.2.2 q)) hf (Nat.le_refl _) new
    refine ⟨.ref s.heap.objs.size, _, J, rfl, ⟨_, x, y, rfl, Iv.hok.fresh (Nat.le_refl _), rfl, fun l hl => by rw [Iv.list_inj hl qx]; exact hx, fun l hl => by rw [Iv.tuple_inj hl qy]; exact hy⟩, ⟨hz2, ?_, ⟨u, v, ?_⟩, ?_, ?_⟩, fun c hcm => ?_⟩
    · exact (sb.2 _ D.TIz).trans (hk _ _ D.TIz D.TITO D.TIi1 D.TIi2 hI)
    · exact (sb.2 _ D.TOz).trans hO'
    · exact p1.1.at fun o q => (sb.2 _ D.i1z).trans q
    · exact q1.1.at fun o q => (sb.2 _ D.i2z).trans q
    · have hlt : c < s.heap.objs.size := by
        simp only [List.mem_cons, List.not_mem_nil, or_false] at hcm
        obtain ⟨_, e1, _⟩ := h1
        obtain ⟨_, e2, _⟩ := h2
        rcases hcm with rfl | rfl | rfl | rfl | rfl
        · exact Zl
        · exact Heap.lt_size hI
        · exact Heap.lt_size hO
        · exact Heap.lt_size e1
        · exact Heap.lt_size e2
      rw [upd_ne (Nat.ne_of_lt hlt)]
      exact (hf c hcm).1
  done := by
    intro X hP hw hK hc n pins s σ H E Iv hf st hg
    subst hP hw hK
    obtain ⟨hz, hI, ⟨x0, y0, hO⟩, h1, h2⟩ := st
    obtain ⟨xs, ys, qx, qy, hend⟩ := hg
    obtain ⟨us, rv, pl, _⟩ := Iv.list qx
    have l1 := rv.length
    have off : ∀ {c : Addr}, c ∉ [Z, I, O, i, j] → c ≠ Z ∧ c ≠ O ∧ c ≠ i ∧ c ≠ j := fun hc => ⟨fun q => hc (by simp [q]), fun q => hc (by simp [q]), fun q => hc (by simp [q]), fun q => hc (by simp [q])⟩
    exact py_over (Iv.ok.hd hc) D own_L (fun _ hh => over_L (xs := us.toArray) (k := n) hh (by simp; omega)) hz hI ⟨h1, pl.isList⟩ fun h' hk => ⟨rfl, Iv.turnedL (t' := s.toks) (ch := [Z, I, O, i, j]) (fun c o hb q => hk c o (off hb).1 (off hb).2.1 (off hb).2.2.1 (off hb).2.2.2 q) hf⟩
  self := fun A n s Q E st h => wpAny_pyIter_zip st.1 h
def iZipM (K : PySem.W.Frag) (ta : TA) : TI := fun σ H R => ta σ H fun vs H1 => ∃ a b xs ys, vs = [.ref a, .ref b] ∧ SqL K H1 a xs ∧ SqT K H1 b ys ∧ R (ItzM K a b) H1
theorem pi_zipM {X : Cx} {e e2 : Expr} {ta : TA} {p pos tpos : Pos} {elts : List Expr} {kk : Nat} (hg : Gl X "zip") (hm : X.mg "zip" = none) (ha : PA X [e, e2] ta) (hs : starEach [e, e2] X.env = (false, eval e X.env) :: starEach [e2] X.env := by rfl)
    (hpl : (backTo pos (starEach [e2] X.env)).any (·.1) = false := by rfl) : PI X (.Tuple elts kk tpos) (.Call (.Name "zip" p) [e, e2] [] pos) (iZipM X.K ta) := by
  refine ⟨fun pins s σ H R I h => ?_⟩
  refine Call_ (ld_blt I hg hm PyProof.Rows.boot_zip (PyProof.Rows.callWith_type1 (thn (ha.run pos pins s σ H _ I h) fun us s1 ⟨vs, H1, I1, r1, q1⟩ => ?_) hs hpl))
  obtain ⟨a, b, xs, ys, ex, qx, qy, q⟩ := q1
  subst ex
  obtain ⟨u1, u2, rfl, ra, rb⟩ := vals2 r1
  obtain rfl : u1 = Value.ref a := ra
  obtain rfl : u2 = Value.ref b := rb
  obtain ⟨its, rv, p1, _⟩ := I1.list qx
  obtain ⟨its2, rv2, p2, _⟩ := I1.tuple qy
  obtain ⟨o2, ho2, _⟩ := id p2
  refine call_zipM p1.isList p2 fun h' n hn hz hI hO h1 h2 hk => wpAny_pyIter_zip hz ?_
  have I2 : Inv X pins σ H1 { s1 with heap := h' } := I1.kept (t' := s1.toks) hk
  have D : ZipApart (n + 4) (n + 2) (n + 3) n (n + 1) a b := by rw [hn]; exact PySem.W.ktu_apart s1.heap.objs.size a b p1.lt (Heap.lt_size ho2)
  refine ⟨n + 4, [n + 4, n + 2, n + 3, n, n + 1], _, _, H1, rfl, I2, turn_zipM D, ⟨hz, hI, ⟨_, _, hO⟩, h1, h2⟩, fun c hcm => ?_, q⟩
  have hle : s1.heap.objs.size ≤ c := by
    simp only [List.mem_cons, List.not_mem_nil, or_false] at hcm
    have : c = n + 4 ∨ c = n + 2 ∨ c = n + 3 ∨ c = n ∨ c = n + 1 := hcm
    rw [← hn]
    rcases this with z | z | z | z | z <;> (rw [z]; omega)
  exact I1.fpOk hle (I1.hok.fresh hle)
theorem walk_zipM {K : PySem.W.Frag} {a b : Addr} {xs ys : List V} {n : Nat} (h1 : n = xs.length) (h2 : n = ys.length) : Walk (ItzM K a b) n (fun H => SqL K H a xs ∧ SqT K H b ys) (YPair (fun i => xs[i]?) (fun i => ys[i]?)) := by
  refine ⟨fun i _ hi q => ?_, fun _ q => ⟨xs, ys, q.1, q.2, by omega⟩, fun i H v H' _ q y => ?_⟩
  · have l1 : i < xs.length := by omega
    have l2 : i < ys.length := by omega
    exact ⟨xs, ys, xs[i], ys[i], q.1, q.2, by simp [l1], by simp [l2]⟩
  · obtain ⟨T, x, z, h1, h2, h3, h4, h5⟩ := y
    exact ⟨T, x, z, h1, h2, h3, h4 _ q.1, h5 _ q.2⟩
end ZipM
set_option maxRecDepth 100000
set_option maxHeartbeats 4000000
namespace Pa
open PySem PySem.Spec PyProof.Rows L2 RZ StX ClX
/-- str(v), v an integer or a truth value -/
theorem cr_strV {X : Cx} : CallR X (.type "str") (fun xs H Q => (∃ i : Int, xs = [.int i] ∧ i.natAbs.log2 < 1920 ∧ Q (.str (toString i)) H) ∨ ∃ b : Bool, xs = [.bl b] ∧ ∀ s : Str, Q (.str s) H) := by
  intro pins s σ H xs us Q I r h
  rcases h with ⟨i, rfl, hz, q⟩ | ⟨b, rfl, q⟩
  · obtain ⟨u, rfl, t, rfl⟩ := vals1 r
    exact PySem.P.str_of_int hz ⟨.str _, H, I.tok _, ⟨_, rfl⟩, q⟩
  · obtain ⟨u, rfl, ru⟩ := vals1 r
    obtain rfl : u = Value.bool b := ru
    exact PySem.P.str_of_bool ⟨.str _, H, I.tok _, ⟨_, rfl⟩, q _⟩
abbrev NT : List Str := ["_law_row", "_law_weight", "_law_pattern", "_law_settings", "_law_found", "_law_name", "_law_text", "_law_value", "_law_word"]
section
variable {P : Program} {w : World} {K : PySem.W.Frag} {mg : Str → Option Value} {base : Heap} {tv tp tk dl C CS CB CL : Addr}
def spTok (K : PySem.W.Frag) : Sp := fun vs H Q _ => ∃ (p : Addr) (x : RowD), vs = [.ref p] ∧ RowAt K H p x.1 x.2.1 x.2.2 ∧ Good x.1 x.2.1 x.2.2 ∧ ∀ F H', H F = none → Ext H H' → H' F = some (.lst ((tokens x).map V.str)) → Q (.ref F) H'
abbrev sL_tokens : Stmt := topS 41
theorem scL_tokens : FnScope NT ["_law_row"] (defScope sL_tokens) := ⟨rfl, rfl, rfl, by decide +kernel, rfl, by decide +kernel, by decide +kernel⟩
theorem ok_tokens {f : Addr} {fd : FuncData} (F : Fun K "_law_tokens" "_law_tokens" sL_tokens f fd) (T : Txt K w mg tv tp tk dl C) (bs : mg "str" = none) : FnOk P w K mg base CX0 1 f fd ["_law_row"] (spTok K) := by
  refine F.ok scL_tokens (fun vs H Q E h => ?_) (fun cdv A outer s H vs Q E hr h => ?_)
  · obtain ⟨p, x, rfl, _⟩ := h
    rfl
  · obtain ⟨p, x, rfl, hrow, hG, k⟩ := h
    obtain ⟨pt, st, qs, g0, g2, g3, g4⟩ := hrow.ex
    refine ⟨_, (pss_cons (ps_asg (pv 0) (pg_tup rfl (pgs_cons (pg_name (i := 1) scL_tokens.nd rfl (.inl rfl)) (pgs_cons (pg_name (i := 2) scL_tokens.nd rfl (.inl rfl)) (pgs_cons (pg_name (i := 3) scL_tokens.nd rfl (.inl rfl)) pgs_nil)))))
      (pss_cons (ps_set (i := 4) scL_tokens.nd rfl (.inl rfl) (pe_lst (pa_cons (pe_callTy call_str_int (by rfl) bs (by decide +kernel) (pa_cons (pv 1) pa_nil)) pa_nil)))
      (pss_cons (ps_for PassesOwn.never rfl (ZipM.pi_zipM (by rfl) T.b_zip (pa_cons (pe_lst (pa_cons pe_str (pa_cons pe_str (pa_cons pe_str (pa_cons pe_str (pa_cons pe_str pa_nil)))))) (pa_cons (pv 2) pa_nil))) (pg_tup rfl (pgs_cons (pg_name (i := 5) scL_tokens.nd rfl (.inl rfl)) (pgs_cons (pg_name (i := 6) scL_tokens.nd rfl (.inl rfl)) pgs_nil)))
        (pss_one (ps_if (pt_cmpR op_ne (pv 6) pe_str (nomark _))
          (pss_one (ps_expr (pe_bm PySem.F.plainAttrs_list PySem.F.slot_list_append PySem.F.type_list_append mt_append (pv 4) (pa_cons (pe_op op_add_str (pe_op op_add_str (pv 5) pe_str) (pv 6)) pa_nil))))
          pss_nil)))
      (pss_cons (ps_expr (pe_bm PySem.F.plainAttrs_list PySem.F.slot_list_append PySem.F.type_list_append mt_append (pv 4) (pa_cons pe_str pa_nil)))
      (pss_cons (ps_for PassesOwn.never rfl (pi_tup (pv 3)) (pg_tup rfl (pgs_cons (pg_name (i := 5) scL_tokens.nd rfl (.inl rfl)) (pgs_cons (pg_name (i := 7) scL_tokens.nd rfl (.inl rfl)) pgs_nil)))
        (pss_cons (ps_set (i := 8) scL_tokens.nd rfl (.inl rfl) (pe_callTy cr_strV (by rfl) bs (by decide +kernel) (pa_cons (pv 7) pa_nil)))
        (pss_cons (ps_if (pt_cmpR op_in_seq (pv 5) (pe_lst (pa_cons pe_str (pa_cons pe_str (pa_cons pe_str pa_nil)))) (by rfl))
          (pss_one (ps_set (i := 8) scL_tokens.nd rfl (.inl rfl) (pe_ifExp (pt_truth (pv 7) (by intro _; rfl)) pe_str pe_str)))
          pss_nil)
        (pss_one (ps_expr (pe_bm PySem.F.plainAttrs_list PySem.F.slot_list_append PySem.F.type_list_append mt_append (pv 4) (pa_cons (pe_op op_add_str (pe_op op_add_str (pv 5) pe_str) (pv 8)) pa_nil)))))))
      (pss_one (ps_ret (pv 4)))))))), ?_⟩
    have hz : 1000 ≤ sizeLine := by decide
    have hpl := pat_len hG.ps
    refine ⟨_, rfl, p, _, rfl, g0, rfl, _, _, rfl, _, _, rfl, _, _, rfl, rfl, ?_⟩
    refine ⟨_, rfl, _, rfl, log_small hG.w0 hG.w9, (by show 1 ≤ sizeLine; decide), fun L hL => ?_⟩
    have eL := Ext.upd (o := .lst [.str (toString x.1)]) hL
    have gL : upd H L (.lst [.str (toString x.1)]) L = some (.lst [.str (toString x.1)]) := upd_same
    have hL0 : ∀ {q : Addr} {u : HO}, H q = some u → q ≠ L := fun e q => by rw [q, hL] at e; cases e
    generalize upd H L (.lst [.str (toString x.1)]) = H0 at eL gL ⊢
    refine ⟨(by show 5 ≤ sizeLine; decide), fun N hN => ?_⟩
    have eN := Ext.upd (o := .lst [.str "kind", .str "mark", .str "parent", .str "above", .str "elder"]) hN
    have gN : upd H0 N (.lst [.str "kind", .str "mark", .str "parent", .str "above", .str "elder"]) N = some (.lst (PN.map V.str)) := upd_same
    have gL1 := eN _ _ gL
    have hLN : L ≠ N := ne_of_none gL hN
    have e1 := eL.trans eN
    generalize upd H0 N (.lst [.str "kind", .str "mark", .str "parent", .str "above", .str "elder"]) = H1 at eN gN gL1 e1 ⊢
    refine ⟨_, rfl, N, pt, _, _, rfl, SqL.of gN, g2.ext e1, ?_⟩
    refine for_it (ZipM.walk_zipM (xs := PN.map V.str) (ys := x.2.1.map V.str) (n := 5) rfl (by rw [List.length_map, hpl])) (fun i σ H' => Ext H H' ∧ H' N = some (.lst (PN.map V.str)) ∧ H' L = some (.lst (((toString x.1 : Str) :: (((PN.zip x.2.1).take i).filterMap askG).map tokT).map V.str)) ∧ ∃ x5 x6 x7 x8, σ = [some (.ref p), some (.int x.1), some (.ref pt), some (.ref st), some (.ref L), x5, x6, x7, x8])
      ⟨e1, gN, gL1, _, _, _, _, rfl⟩ (fun i σ H' _ h => ⟨SqL.of h.2.1, g2.ext h.1⟩) (fun i v σ H' H3 hi h hY => ?_) (fun σ H' h => ?_)
    · obtain ⟨e, gn, gl, x5, x6, x7, x8, rfl⟩ := h
      obtain ⟨Tt, y1, y2, rfl, nT, rfl, f1, f2⟩ := hY
      obtain ⟨n, hn, rfl⟩ := strs_get f1
      obtain ⟨t, ht, rfl⟩ := strs_get f2
      have hzz := zip_get hn ht
      have xT := Ext.upd (o := .tup [.str n, .str t]) nT
      have gl' := xT _ _ gl
      have eT : (PN.zip x.2.1).take (i + 1) = (PN.zip x.2.1).take i ++ [(n, t)] := by rw [List.take_add_one, hzz]; rfl
      refine ⟨Tt, _, rfl, SqT.of upd_same, rfl, _, _, rfl, _, _, rfl, rfl, ?_⟩
      refine ⟨_, rfl, rfl, _, rfl, ?_⟩
      show if (!decide (V.str t = V.str "")) = true then _ else _
      by_cases q0 : t = ""
      · rw [decide_eq_true (congrArg V.str q0)]
        refine iteF ⟨e.trans xT, xT _ _ gn, ?_, _, _, _, _, rfl⟩
        rw [eT, List.filterMap_append]
        have : ([(n, t)] : List (Str × Str)).filterMap askG = [] := by
          rw [List.filterMap_cons, askG, if_pos q0]
          rfl
        rw [this, List.append_nil]
        exact gl'
      · rw [decide_eq_false (fun q => q0 (V.str.inj q) : ¬ V.str t = V.str "")]
        have hm : ((n, .str t) : PairD) ∈ askedP := asked_mem hG.ps _ (by
          rw [asked_is]
          exact List.mem_filterMap.mpr ⟨(n, t), List.mem_of_getElem? hzz, by rw [askG, if_neg q0]⟩)
        obtain ⟨l1, l2, _⟩ := tok_small _ (List.mem_append_left _ hm)
        have l1' : n.length ≤ 20 := l1
        have l2' : t.length ≤ 20 := l2
        have le1 : Str.length "=" = 1 := rfl
        have : ([(n, t)] : List (Str × Str)).filterMap askG = [(n, .str t)] := by
          rw [List.filterMap_cons, askG, if_neg q0]
          rfl
        refine iteT ⟨_, rfl, .inl ⟨rfl, _, SqL.of gl'⟩, _, rfl, _, _, rfl, rfl, by omega, _, rfl, _, _, rfl, rfl, by rw [Str.length_append]; omega, L, _, _, rfl, rfl, gl', ?_, ?_⟩
        · rw [List.length_map, List.length_cons, List.length_map]
          have h1 := List.length_filterMap_le askG ((PN.zip x.2.1).take i)
          have h2 : ((PN.zip x.2.1).take i).length ≤ i := by rw [List.length_take]; exact Nat.min_le_left _ _
          omega
        · refine ⟨fun q u eq => by rw [upd_ne (hL0 eq)]; exact xT _ _ (e _ _ eq), by rw [upd_ne (Ne.symm hLN)]; exact xT _ _ gn, ?_, _, _, _, _, rfl⟩
          rw [upd_same, eT, List.filterMap_append, this, List.map_append, List.map_cons, List.map_cons, List.map_append, List.cons_append]
          rfl
    obtain ⟨e, gn, gl, x5, x6, x7, x8, rfl⟩ := h
    have hzl : (PN.zip x.2.1).length = 5 := by rw [List.length_zip, hpl]; rfl
    rw [List.take_of_length_le (by rw [hzl]; exact Nat.le_refl _), ← asked_is] at gl
    have hal := asked_len hG.ps
    have hl6 := hG.sub.len
    refine ⟨_, rfl, .inl ⟨rfl, _, SqL.of gl⟩, L, _, _, rfl, rfl, gl, ?_, ?_⟩
    · rw [List.length_map, List.length_cons, List.length_map]
      omega
    have e2 : Ext H (upd H' L (.lst (((toString x.1 : Str) :: (askedOf x.2.1).map tokT).map V.str ++ [.str ":"]))) := fun q u eq => by rw [upd_ne (hL0 eq)]; exact e _ _ eq
    have gl2 : upd H' L (.lst (((toString x.1 : Str) :: (askedOf x.2.1).map tokT).map V.str ++ [.str ":"])) L = some (.lst (((toString x.1 : Str) :: (askedOf x.2.1).map tokT).map V.str ++ [.str ":"])) := upd_same
    generalize upd H' L (.lst (((toString x.1 : Str) :: (askedOf x.2.1).map tokT).map V.str ++ [.str ":"])) = H2 at e2 gl2 ⊢
    refine ⟨_, rfl, st, rfl, ⟨_, g3.ext e2⟩, ?_⟩
    refine for_tup (xs := qs.map V.ref) (fun i σ H' => Ext H H' ∧ H' L = some (.lst (((toString x.1 : Str) :: (askedOf x.2.1).map tokT).map V.str ++ [.str ":"] ++ ((x.2.2.take i).map tokT).map V.str)) ∧ ∃ x5 x6 x7 x8, σ = [some (.ref p), some (.int x.1), some (.ref pt), some (.ref st), some (.ref L), x5, x6, x7, x8])
      ⟨e2, by rw [List.take_zero, List.map_nil, List.map_nil, List.append_nil]; exact gl2, _, _, _, _, rfl⟩ (fun i σ H' _ h => g3.ext h.1) (fun i v σ H' hv h => ?_) (fun σ H' h => ?_)
    · obtain ⟨e, gl, x5, x6, x7, x8, rfl⟩ := h
      obtain ⟨r, y, rfl, hy, hr'⟩ := sets_at (Sets.ext g4 e) hv
      have hi := (List.getElem?_eq_some_iff.mp hy).1
      have hok := hG.ok y (List.mem_of_getElem? hy)
      have hm := told_mem hok
      obtain ⟨l1, l2, _⟩ := tok_small _ (List.mem_append_right _ hm)
      have l1' : y.1.length ≤ 20 := l1
      have le1 : Str.length "=" = 1 := rfl
      refine ⟨r, _, rfl, hr', rfl, _, _, rfl, _, _, rfl, rfl, ?_⟩
      have size : (((toString x.1 : Str) :: (askedOf x.2.1).map tokT).map V.str ++ [V.str ":"] ++ ((x.2.2.take i).map tokT).map V.str).length < sizeLine := by
        rw [List.length_append, List.length_append, List.length_map, List.length_cons, List.length_map, List.length_map, List.length_map, List.length_take]
        show _ + 1 + 1 + _ < _
        omega
      have step : ∀ H3 : Hp, Ext H' H3 → H3 L = some (.lst (((toString x.1 : Str) :: (askedOf x.2.1).map tokT).map V.str ++ [.str ":"] ++ ((x.2.2.take i).map tokT).map V.str)) →
          Ext H (upd H3 L (.lst (((toString x.1 : Str) :: (askedOf x.2.1).map tokT).map V.str ++ [.str ":"] ++ ((x.2.2.take i).map tokT).map V.str ++ [.str (y.1 ++ "=" ++ valT y.2)]))) ∧
          upd H3 L (.lst (((toString x.1 : Str) :: (askedOf x.2.1).map tokT).map V.str ++ [.str ":"] ++ ((x.2.2.take i).map tokT).map V.str ++ [.str (y.1 ++ "=" ++ valT y.2)])) L = some (.lst (((toString x.1 : Str) :: (askedOf x.2.1).map tokT).map V.str ++ [.str ":"] ++ ((x.2.2.take (i + 1)).map tokT).map V.str)) := fun H3 e3 g3 => by
        refine ⟨fun q u eq => by rw [upd_ne (hL0 eq)]; exact e3 _ _ (e _ _ eq), ?_⟩
        rw [upd_same, List.take_add_one, hy, List.map_append, List.map_append, List.append_assoc _ _ [V.str (y.1 ++ "=" ++ valT y.2)]]
        rfl
      have l2' : (valT y.2).length ≤ 20 := l2
      have hk : (∃ j : Int, y.2 = .int j ∧ 0 ≤ j ∧ j ≤ 9 ∧ y.1 ∉ (["kept", "page", "out"] : List Str)) ∨ ∃ b, y.2 = .bl b ∧ y.1 ∈ (["kept", "page", "out"] : List Str) := by
        rcases hok with ⟨en, j, ev, j0, j1⟩ | ⟨en, j, ev, j0, j1⟩ | ⟨en, j, ev, j0, j1⟩ | ⟨en, b, ev⟩
        · exact .inl ⟨j, ev, j0, by omega, by rw [en]; decide⟩
        · exact .inl ⟨j, ev, by omega, by omega, by rw [en]; decide⟩
        · exact .inl ⟨j, ev, j0, by omega, by rw [en]; decide⟩
        · exact .inr ⟨b, ev, by rcases en with en | en | en <;> (rw [en]; decide)⟩
      rcases hk with ⟨j, ev, j0, j9, hn⟩ | ⟨b, ev, hn⟩
      · have l3 : (toString j : Str).length ≤ 20 := by
          have := l2'
          rw [ev] at this
          exact this
        refine ⟨_, rfl, .inl ⟨j, by rw [ev], log_small j0 j9, ?_⟩⟩
        refine ⟨_, rfl, (by show 3 ≤ sizeLine; decide), fun M hM => ⟨M, _, rfl, .inl (SqL.of upd_same), rfl, rfl, ?_⟩⟩
        have eM := Ext.upd (o := .lst [.str "kept", .str "page", .str "out"]) hM
        have gl3 := eM _ _ gl
        have hin : inV (.str y.1) [.str "kept", .str "page", .str "out"] = false := by
          have := inV_str y.1 ["kept", "page", "out"]
          rw [decide_eq_false hn] at this
          exact this
        obtain ⟨s1, s2⟩ := step _ eM gl3
        have evl : valT y.2 = toString j := by rw [ev]; rfl
        rw [evl] at s1 s2
        refine ⟨_, rfl, ?_⟩
        show if inV (.str y.1) [.str "kept", .str "page", .str "out"] = true then _ else _
        rw [hin]
        exact iteF ⟨_, rfl, .inl ⟨rfl, _, SqL.of gl3⟩, _, rfl, _, _, rfl, rfl, by omega, _, rfl, _, _, rfl, rfl, by rw [Str.length_append]; omega, L, _, _, rfl, rfl, gl3, size, s1, s2, _, _, _, _, rfl⟩
      · refine ⟨_, rfl, .inr ⟨b, by rw [ev], fun s0 => ?_⟩⟩
        refine ⟨_, rfl, (by show 3 ≤ sizeLine; decide), fun M hM => ⟨M, _, rfl, .inl (SqL.of upd_same), rfl, rfl, ?_⟩⟩
        have eM := Ext.upd (o := .lst [.str "kept", .str "page", .str "out"]) hM
        have gl3 := eM _ _ gl
        have hin : inV (.str y.1) [.str "kept", .str "page", .str "out"] = true := by
          have := inV_str y.1 ["kept", "page", "out"]
          rw [decide_eq_true hn] at this
          exact this
        obtain ⟨s1, s2⟩ := step _ eM gl3
        refine ⟨_, rfl, ?_⟩
        show if inV (.str y.1) [.str "kept", .str "page", .str "out"] = true then _ else _
        rw [hin]
        have hw : Str.length "yes" ≤ 20 ∧ Str.length "no" ≤ 20 := ⟨by decide, by decide⟩
        cases b with
        | true =>
          have evl : valT y.2 = "yes" := by rw [ev]; rfl
          rw [evl] at s1 s2
          refine iteT ⟨_, rfl, true, by rw [ev]; rfl, iteT ?_⟩
          exact ⟨_, rfl, .inl ⟨rfl, _, SqL.of gl3⟩, _, rfl, _, _, rfl, rfl, by omega, _, rfl, _, _, rfl, rfl, by rw [Str.length_append]; omega, L, _, _, rfl, rfl, gl3, size, s1, s2, _, _, _, _, rfl⟩
        | false =>
          have evl : valT y.2 = "no" := by rw [ev]; rfl
          rw [evl] at s1 s2
          refine iteT ⟨_, rfl, false, by rw [ev]; rfl, iteF ?_⟩
          exact ⟨_, rfl, .inl ⟨rfl, _, SqL.of gl3⟩, _, rfl, _, _, rfl, rfl, by omega, _, rfl, _, _, rfl, rfl, by rw [Str.length_append]; omega, L, _, _, rfl, rfl, gl3, size, s1, s2, _, _, _, _, rfl⟩
    · obtain ⟨e, gl, x5, x6, x7, x8, rfl⟩ := h
      have hqs : qs.length = x.2.2.length := Paired.length g4
      rw [List.length_map, hqs, List.take_length] at gl
      refine ⟨_, rfl, k L H' hL e ?_⟩
      rw [gl]
      unfold tokens
      simp only [List.map_append, List.map_cons, List.cons_append, List.append_assoc, List.nil_append]
end
end Pa
set_option maxRecDepth 100000
set_option maxHeartbeats 4000000
namespace Pa
open PySem PySem.Spec PyProof.Rows L2 RZ
section
variable {X : Cx}
/-- o[a:c] = another list -/
def gCut (to : TE) (tl th : TO) : TG := fun v σ H Q => to σ H fun o H1 => tl σ H1 fun lo H2 => th σ H2 fun hi H3 => ∃ (l b : Addr) (xs ys : List V) (a c : Int), o = .ref l ∧ v = .ref b ∧ lo = some a ∧ hi = some c ∧
  H3 l = some (.lst xs) ∧ H3 b = some (.lst ys) ∧ l ≠ b ∧ 0 ≤ a ∧ a ≤ c ∧ c ≤ xs.length ∧ xs.length + ys.length ≤ sizeLine ∧ Q σ (upd H3 l (.lst (xs.take a.toNat ++ ys ++ xs.drop c.toNat)))
theorem part_rel {v : Value} {i : Int} (h : IsPart v (some i)) : RelV (.int i) v := by
  cases h
  exact ⟨_, rfl⟩
theorem pg_cut {o : Expr} {lo hi : Option Expr} {to : TE} {tl th : TO} {p2 pos : Pos} (ho : PE X o to) (hl : PO X lo tl) (hh : PO X hi th)
    (ha : ∀ v, assign (.Subscript o (.Slice lo hi none p2) pos) X.env v = (do
      let ov ← holding [v] (eval o X.env)
      let iv ← holding [v, ov] (eval (.Slice lo hi none p2) X.env)
      standAt pos
      holding [v, ov, iv] (setItem ov iv v)
      release [iv, v, ov] []) := by intro _; rfl) : PG X (.Subscript o (.Slice lo hi none p2) pos) (gCut to tl th) := by
  refine ⟨fun pins s σ H v u Q I r h => ?_⟩
  rw [ha]
  refine wpAny_bind (wpAny_holding (thn (ho.run pins s σ H _ I h) fun ov s1 ⟨x, H1, I1, r1, q1⟩ => ?_))
  refine wpAny_bind (wpAny_holding ?_)
  refine wpAny_Slice (thn (hl.run pins s1 σ H1 _ I1 q1) fun vl s2 ⟨a1, H2, I2, pl, q2⟩ => thn (hh.run pins s2 σ H2 _ I2 q2) fun vu s3 ⟨a2, H3, I3, pu, q3⟩ => ?_)
  rw [evalPart_none]
  refine wpAny_pure ?_
  have I4 : Inv X pins σ H3 { s3 with heap := s3.heap.push { cls := .type "slice", data := .fields #[vl, vu, .none] } } := I3.kept (t' := s3.toks) fun b ob q => Heap.get?_push_of_some _ q
  obtain ⟨l, b, xs, ys, a, c, rfl, rfl, rfl, rfl, g1, g2, hne, h0, hac, hc, hz, q⟩ := q3
  cases r1
  cases r
  refine wpAny_bind (wpAny_standAt (wpAny_bind (wpAny_holding (set_slice I4 g1 g2 hne (Heap.IsSliceOf.new ..) (part_rel pl) (part_rel pu) h0 hac hc hz fun s' I' => ?_))))
  exact wpAny_release ⟨σ, _, I', q⟩
end
end Pa
set_option maxRecDepth 100000
set_option maxHeartbeats 4000000
namespace Pa
open PySem PySem.Spec PyProof.Rows L2 RZ StX ClX
theorem join_sum : ∀ ps : List Str, (ps.map (·.length)).sum + ps.length ≤ (Str.join " " ps).length + 1
  | [] => by decide
  | [x] => by show x.length + 0 + 1 ≤ x.length + 1; omega
  | x :: y :: r => by
    have := join_sum (y :: r)
    show x.length + ((y :: r).map (·.length)).sum + ((y :: r).length + 1) ≤ (x ++ " " ++ Str.join " " (y :: r)).length + 1
    rw [Str.length_append, Str.length_append]
    have h1 : Str.length " " = 1 := rfl
    omega
theorem join_room {ps : List Str} {n : Nat} (h : (Txt.join " " ps).length ≤ n) (hn : n ≤ 1000) : (ps.map (·.length)).sum + ps.length * Str.length " " ≤ 16777216 := by
  have h1 := join_sum ps
  rw [txt_join] at h
  have h2 : Str.length " " = 1 := rfl
  rw [h2, Nat.mul_one]
  omega
theorem join_red {K : PySem.W.Frag} {H : Hp} {F : Addr} {T : List Str} {Q : VK} (g : H F = some (.lst (T.map V.str))) (bad : Bad (Txt.join " " T)) (k : Q (.str (Txt.join " " T)) H) :
    ∃ a p, ∃ ys : List Str, V.str " " = .str a ∧ [V.ref F] = [.ref p] ∧ (SqL K H p (ys.map V.str) ∨ SqT K H p (ys.map V.str)) ∧ (ys.map (·.length)).sum + ys.length * a.length ≤ 16777216 ∧ Q (.str (Txt.join a ys)) H :=
  ⟨" ", F, T, rfl, rfl, .inl (SqL.of g), join_room bad.len (by decide), k⟩
theorem iteW_no {w c : Int} {A B : Prop} (h : w ≠ c) (k : B) : if decide (V.int w = V.int c) = true then A else B := by
  rw [decide_eq_false fun q : V.int w = V.int c => h (V.int.inj q)]
  exact iteF k
theorem iteW_yes {w c : Int} {A B : Prop} (h : w = c) (k : A) : if decide (V.int w = V.int c) = true then A else B := by
  subst h
  rw [decide_eq_true rfl]
  exact iteT k
theorem way7f : ∀ t ∈ askedP ++ toldP, ∀ v ∈ (["", " =", "==", ":", "= "] : List Str), ((Txt.split (tokT t) "=").map (·.length)).sum + (Txt.split (tokT t) "=").length * v.length ≤ 16777216 := by decide +kernel
theorem ixN_at {m i : Nat} (h : i < m) : ixN m ((i : Nat) : Int) = some i := by
  have h1 : (i : Int) < (m : Int) := by omega
  unfold ixN
  rw [if_pos (Int.natCast_nonneg i), if_pos h1, Int.toNat_natCast]
theorem strs_pick {v : V} {qs : List Str} (h : v ∈ qs.map V.str) : ∃ q ∈ qs, v = .str q := by
  obtain ⟨q, hq, e⟩ := List.mem_map.mp h
  exact ⟨q, hq, e.symm⟩
theorem map_at {T : List Str} {i : Nat} {a : Str} (h : T[i]? = some a) : (T.map V.str)[i]? = some (.str a) := by rw [List.getElem?_map, h]; rfl
section
variable {P : Program} {w : World} {K : PySem.W.Frag} {mg : Str → Option Value} {base : Heap} {tv tp tk dl C CS CB CL : Addr}
def spSpoilt (K : PySem.W.Frag) : Sp := fun vs H Q _ => ∃ (b p : Addr) (x : RowD), vs = [.ref b, .ref p] ∧ IsBag H b ∧ RowAt K H p x.1 x.2.1 x.2.2 ∧ Good x.1 x.2.1 x.2.2 ∧ ∀ s H', Bad s → Bk b H H' → Q (.str s) H'
abbrev NS : List Str := ["_law_bag_here", "_law_row", "_law_parts", "_law_colon", "_law_way", "_law_at", "_law_low", "_law_place", "_law_name", "_law_k"]
abbrev sL_spoilt : Stmt := topS 42
theorem scL_spoilt : FnScope NS ["_law_bag_here", "_law_row"] (defScope sL_spoilt) := ⟨rfl, rfl, rfl, by decide +kernel, rfl, by decide +kernel, by decide +kernel⟩
theorem ok_spoilt {f : Addr} {fd : FuncData} (F : Fun K "_law_spoilt" "_law_spoilt" sL_spoilt f fd) (T : Txt K w mg tv tp tk dl C) (C__law_tokens : CallOk P w K mg base 1 "_law_tokens" ["_law_row"] (spTok K)) (C__law_draw : CallOk P w K mg base 1 "_law_draw" ["_law_bag_here", "_law_many"] spDraw)
    (C__law_one : CallOk P w K mg base 2 "_law_one" ["_law_bag_here", "_law_things"] (spOne K)) : FnOk P w K mg base CX0 3 f fd ["_law_bag_here", "_law_row"] (spSpoilt K) := by
  refine F.ok scL_spoilt (fun vs H Q E h => ?_) (fun cdv A outer s H vs Q E hr h => ?_)
  · obtain ⟨b, p, x, rfl, _⟩ := h
    rfl
  · obtain ⟨b, p, x, rfl, hb, hrow, hG, k⟩ := h
    refine ⟨_, (pss_cons (ps_set (i := 2) scL_spoilt.nd rfl (.inr rfl) (pe_cc C__law_tokens (hr.mono (by decide)) (by rfl) (pa_cons (pv 1) pa_nil)))
      (pss_cons (ps_set (i := 3) scL_spoilt.nd rfl (.inl rfl) (pe_bm PySem.F.plainAttrs_list PySem.F.slot_list_index PySem.F.type_list_index mt_index (pv 2) (pa_cons pe_str pa_nil)))
      (pss_cons (ps_set (i := 4) scL_spoilt.nd rfl (.inl rfl) (pe_cc C__law_draw (hr.mono (by decide)) (by rfl) (pa_cons (pv 0) (pa_cons pe_int pa_nil))))
      (pss_cons (ps_par (i := 5) (j := 6) (by rfl) scL_spoilt.nd rfl rfl (by decide) rfl rfl (pa_cons (pe_cc C__law_draw (hr.mono (by decide)) (by rfl) (pa_cons (pv 0) (pa_cons (pe_callB call_len_seq (by rfl) T.b_len PySem.boot_len (pa_cons (pv 2) pa_nil)) pa_nil))) (pa_cons (pe_cc C__law_draw (hr.mono (by decide)) (by rfl) (pa_cons (pv 0) (pa_cons (pe_op op_sub (pe_callB call_len_seq (by rfl) T.b_len PySem.boot_len (pa_cons (pv 2) pa_nil)) pe_int) pa_nil))) pa_nil)) (by rfl))
      (pss_cons (ps_if (pt_cmpR op_eq (pv 4) pe_int (nomark _))
        (pss_one (ps_expr (pe_bm PySem.F.plainAttrs_list PySem.F.slot_list_insert PySem.F.type_list_insert mt_insert (pv 2) (pa_cons (pe_cc C__law_draw (hr.mono (by decide)) (by rfl) (pa_cons (pv 0) (pa_cons (pe_op op_add (pe_callB call_len_seq (by rfl) T.b_len PySem.boot_len (pa_cons (pv 2) pa_nil)) pe_int) pa_nil))) (pa_cons pe_str pa_nil)))))
        pss_nil)
      (pss_cons (ps_if (pt_cmpR op_eq (pv 4) pe_int (nomark _))
        (pss_one (ps_asg (pe_cc C__law_one (hr.mono (by decide)) (by rfl) (pa_cons (pv 0) (pa_cons (pe_lst (pa_cons (pe_op op_add_str pe_str (pe_ix (r := rIxL K) ix_list (pv 2) pe_int (fun _ _ => rfl))) (pa_cons (pe_op op_add_str pe_str (pe_ix (r := rIxL K) ix_list (pv 2) pe_int (fun _ _ => rfl))) (pa_cons pe_str (pa_cons pe_str (pa_cons pe_str (pa_cons pe_str (pa_cons (pe_op op_add_str (pe_ix (r := rIxL K) ix_list (pv 2) pe_int (fun _ _ => rfl)) pe_str) pa_nil)))))))) pa_nil))) (pg_sub (pv 2) pe_int set_list)))
        pss_nil)
      (pss_cons (ps_if (pt_cmpR op_eq (pv 4) pe_int (nomark _))
        (pss_one (ps_expr (pe_bm PySem.F.plainAttrs_list PySem.F.slot_list_pop PySem.F.type_list_pop mt_popAt (pv 2) (pa_cons (pv 3) pa_nil))))
        pss_nil)
      (pss_cons (ps_if (pt_cmpR op_eq (pv 4) pe_int (nomark _))
        (pss_one (ps_set (i := 2) scL_spoilt.nd rfl (.inr rfl) (pe_slice sl_list (pv 2) po_none (po_some (pe_op op_add (pv 3) pe_int)))))
        pss_nil)
      (pss_cons (ps_if (pt_cmpR op_eq (pv 4) pe_int (nomark _))
        (pss_one (ps_asg (pe_lst (pa_cons (pe_ix (r := rIxL K) ix_list (pv 2) (pe_op op_add (pv 6) pe_int) (fun _ _ => rfl)) (pa_cons (pe_ix (r := rIxL K) ix_list (pv 2) (pv 6) (fun _ _ => rfl)) pa_nil))) (pg_cut (pv 2) (po_some (pv 6)) (po_some (pe_op op_add (pv 6) pe_int)))))
        pss_nil)
      (pss_cons (ps_if (pt_cmpR op_eq (pv 4) pe_int (nomark _))
        (pss_one (ps_expr (pe_bm PySem.F.plainAttrs_list PySem.F.slot_list_insert PySem.F.type_list_insert mt_insert (pv 2) (pa_cons (pv 5) (pa_cons (pe_ix (r := rIxL K) ix_list (pv 2) (pv 5) (fun _ _ => rfl)) pa_nil)))))
        pss_nil)
      (pss_cons (ps_if (pt_cmpR op_eq (pv 4) pe_int (nomark _))
        (pss_cons (ps_set (i := 7) scL_spoilt.nd rfl (.inl rfl) (pe_op op_add (pe_op op_add (pv 3) pe_int) (pe_cc C__law_draw (hr.mono (by decide)) (by rfl) (pa_cons (pv 0) (pa_cons (pe_op op_sub (pe_op op_sub (pe_callB call_len_seq (by rfl) T.b_len PySem.boot_len (pa_cons (pv 2) pa_nil)) (pv 3)) pe_int) pa_nil)))))
        (pss_cons (ps_set (i := 8) scL_spoilt.nd rfl (.inl rfl) (pe_ix (r := rIxT K) ix_tup (pe_bm PySem.F.plainAttrs_str PySem.F.slot_str_partition PySem.F.type_str_partition mt_partition (pe_ix (r := rIxL K) ix_list (pv 2) (pv 7) (fun _ _ => rfl)) (pa_cons pe_str pa_nil)) pe_int (fun _ _ => rfl)))
        (pss_one (ps_asg (pe_op op_add_str (pe_op op_add_str (pv 8) pe_str) (pe_cc C__law_one (hr.mono (by decide)) (by rfl) (pa_cons (pv 0) (pa_cons (pe_lst (pa_cons pe_str (pa_cons pe_str (pa_cons pe_str (pa_cons pe_str (pa_cons pe_str (pa_cons pe_str (pa_cons pe_str (pa_cons pe_str (pa_cons pe_str pa_nil)))))))))) pa_nil)))) (pg_sub (pv 2) (pv 7) set_list)))))
        pss_nil)
      (pss_cons (ps_if (pt_cmpR op_eq (pv 4) pe_int (nomark _))
        (pss_cons (ps_set (i := 7) scL_spoilt.nd rfl (.inl rfl) (pe_cc C__law_one (hr.mono (by decide)) (by rfl) (pa_cons (pv 0) (pa_cons (pe_lc (own := [("_law_k", 9)]) (g := gName 9) rfl scL_spoilt.nd (pi_range1 (by rfl) T.b_range (pa_cons (pe_callB call_len_seq (by rfl) T.b_len PySem.boot_len (pa_cons (pv 2) pa_nil)) pa_nil)) (blkOk_by (N := NS) (sc := defScope sL_spoilt) (by decide +kernel)) (fun _ _ _ _ _ => (pg_name (i := 9) scL_spoilt.nd rfl (.inl rfl))) (fun _ _ _ _ _ => (pts_one (pt_cmpR op_in_str pe_str (pe_ix (r := rIxL K) ix_list (pv 2) (pv 9) (fun _ _ => rfl)) (by rfl)))) (fun _ _ _ _ _ => (pv 9))) pa_nil))))
        (pss_one (ps_asg (pe_bm PySem.F.plainAttrs_str PySem.F.slot_str_join PySem.F.type_str_join mt_join (pe_cc C__law_one (hr.mono (by decide)) (by rfl) (pa_cons (pv 0) (pa_cons (pe_lst (pa_cons pe_str (pa_cons pe_str (pa_cons pe_str (pa_cons pe_str (pa_cons pe_str pa_nil)))))) pa_nil))) (pa_cons (pe_bm PySem.F.plainAttrs_str PySem.F.slot_str_split PySem.F.type_str_split mt_split (pe_ix (r := rIxL K) ix_list (pv 2) (pv 7) (fun _ _ => rfl)) (pa_cons pe_str pa_nil)) pa_nil)) (pg_sub (pv 2) (pv 7) set_list))))
        pss_nil)
      (pss_cons (ps_if (pt_cmpR op_eq (pv 4) pe_int (nomark _))
        (pss_one (ps_ret (pe_cc C__law_one (hr.mono (by decide)) (by rfl) (pa_cons (pv 0) (pa_cons (pe_lst (pa_cons pe_str (pa_cons pe_str (pa_cons pe_str (pa_cons pe_str (pa_cons pe_str (pa_cons pe_str (pa_cons (pe_op op_add_str (pe_bm PySem.F.plainAttrs_str PySem.F.slot_str_join PySem.F.type_str_join mt_join pe_str (pa_cons (pv 2) pa_nil)) pe_str) (pa_cons (pe_op op_add_str pe_str (pe_bm PySem.F.plainAttrs_str PySem.F.slot_str_join PySem.F.type_str_join mt_join pe_str (pa_cons (pv 2) pa_nil))) pa_nil))))))))) pa_nil)))))
        pss_nil)
      (pss_one (ps_ret (pe_bm PySem.F.plainAttrs_str PySem.F.slot_str_join PySem.F.type_str_join mt_join pe_str (pa_cons (pv 2) pa_nil))))))))))))))))), ?_⟩
    refine ⟨_, rfl, p, x, rfl, hrow, hG, fun L H1 hL e1 g1 => ?_⟩
    have t := toks_of hG
    have hLb : L ≠ b := by
      obtain ⟨ys, e⟩ := hb.lst
      intro q
      rw [q, e] at hL
      cases hL
    have B1 := Bk.of hb e1
    generalize tokens x = T at g1 t ⊢
    have h13 := t.len
    have h3 := t.len3
    obtain ⟨x1, x2⟩ := idx_at t.law.col
    have hci := List.idxOf_lt_length_of_mem t.law.col
    generalize hc : T.idxOf (":" : Str) = c at x1 x2 hci ⊢
    refine ⟨_, rfl, .inl ⟨rfl, _, SqL.of g1⟩, L, _, _, c, _, rfl, rfl, SqL.of g1, rfl, flat_strs _, x1, (show ((":" : Str) == ":") = true from beq_self_eq_true _), x2, ?_⟩
    refine ⟨_, rfl, b, 9, rfl, B1.bag, by decide, by decide, fun wy H2 w0 w9 B2 => ?_⟩
    have g2 := B2.keep _ _ hLb g1
    have hml : (T.map V.str).length = T.length := List.length_map ..
    refine ⟨_, rfl, _, rfl, L, _, rfl, .inl (SqL.of g2), b, _, rfl, B2.bag, by rw [hml]; omega, by rw [hml]; omega, fun a5 H3 a0 a1 B3 => ?_⟩
    have g3 := B3.keep _ _ hLb g2
    rw [hml] at a1
    refine ⟨_, rfl, _, rfl, L, _, rfl, .inl (SqL.of g3), _, _, rfl, rfl, b, _, rfl, B3.bag, by rw [hml]; omega, by rw [hml]; omega, fun a6 H4 c0 c1 B4 => ?_⟩
    have g4 := B4.keep _ _ hLb g3
    rw [hml] at c1
    refine ⟨_, _, rfl, ?_⟩
    have B04 := ((B1.trans B2).trans B3).trans B4
    clear x1 x2 g1 g2 g3 B1 B2 B3 B4 e1 hrow
    obtain ⟨a5, rfl⟩ : ∃ n : Nat, a5 = (n : Int) := ⟨a5.toNat, by omega⟩
    obtain ⟨a6, rfl⟩ : ∃ n : Nat, a6 = (n : Int) := ⟨a6.toNat, by omega⟩
    rcases (by omega : wy = 0 ∨ wy = 1 ∨ wy = 2 ∨ wy = 3 ∨ wy = 4 ∨ wy = 5 ∨ wy = 6 ∨ wy = 7 ∨ wy = 8) with rfl | rfl | rfl | rfl | rfl | rfl | rfl | rfl | rfl
    · refine ⟨_, rfl, rfl, _, rfl, iteW_yes rfl ?_⟩
      refine ⟨_, rfl, .inl ⟨rfl, _, SqL.of g4⟩, _, rfl, _, rfl, L, _, rfl, .inl (SqL.of g4), _, _, rfl, rfl, b, _, rfl, B04.bag, by rw [hml]; omega, by rw [hml]; omega, fun d H5 d0 d1 B5 => ?_⟩
      have g5 := B5.keep _ _ hLb g4
      rw [hml] at d1
      obtain ⟨d, rfl⟩ : ∃ n : Nat, d = (n : Int) := ⟨d.toNat, by omega⟩
      refine ⟨L, _, _, _, rfl, rfl, g5, by rw [hml]; exact Nat.lt_of_lt_of_le (by omega : T.length < 1000) (by decide), by omega, by omega, ?_⟩
      have eT : (T.map V.str).take ((d : Int)).toNat ++ [V.str ""] ++ (T.map V.str).drop ((d : Int)).toNat = (T.take d ++ ("" : Str) :: T.drop d).map V.str := by
        rw [Int.toNat_natCast, List.map_append, List.map_cons, List.map_take, List.map_drop, List.append_assoc]
        rfl
      rw [eT]
      refine ⟨_, rfl, rfl, _, rfl, iteW_no (by decide) ?_⟩
      refine ⟨_, rfl, rfl, _, rfl, iteW_no (by decide) ?_⟩
      refine ⟨_, rfl, rfl, _, rfl, iteW_no (by decide) ?_⟩
      refine ⟨_, rfl, rfl, _, rfl, iteW_no (by decide) ?_⟩
      refine ⟨_, rfl, rfl, _, rfl, iteW_no (by decide) ?_⟩
      refine ⟨_, rfl, rfl, _, rfl, iteW_no (by decide) ?_⟩
      refine ⟨_, rfl, rfl, _, rfl, iteW_no (by decide) ?_⟩
      refine ⟨_, rfl, rfl, _, rfl, iteW_no (by decide) ?_⟩
      exact ⟨rfl, _, rfl, join_red upd_same (bad_insert t d) (k _ _ (bad_insert t d) ((B04.trans B5).put hL hLb))⟩
    · refine ⟨_, rfl, rfl, _, rfl, iteW_no (by decide) ?_⟩
      refine ⟨_, rfl, rfl, _, rfl, iteW_yes rfl ?_⟩
      obtain ⟨w1, r1, e1, hw1⟩ := t.hd
      have h0 : T[0]? = some w1 := by rw [e1]; rfl
      obtain ⟨n1, hn1, en1⟩ := List.mem_map.mp hw1
      have at0 : atI (T.map V.str) 0 = some (.str w1) := atI_nat (j := 0) (map_at h0)
      have hl1 : w1.length ≤ 10 := (t.pl w1 (by rw [e1]; exact List.mem_cons_self)).2.2
      have hz : 1000 ≤ sizeLine := by decide
      have hs0 : Str.length "0" = 1 ∧ Str.length "+" = 1 ∧ Str.length "." = 1 := ⟨rfl, rfl, rfl⟩
      refine ⟨_, rfl, _, rfl, L, _, _, _, rfl, rfl, SqL.of g4, at0, _, _, rfl, rfl, by omega, _, rfl, L, _, _, _, rfl, rfl, SqL.of g4, at0, _, _, rfl, rfl, by omega, _, rfl, L, _, _, _, rfl, rfl, SqL.of g4, at0, _, _, rfl, rfl, by omega, (by show 7 ≤ sizeLine; decide), fun N hN => ?_⟩
      have hNb : N ≠ b := fresh_ne B04.bag hN
      have hLN : L ≠ N := ne_of_none g4 hN
      refine ⟨b, N, _, rfl, (B04.fresh hN).bag, Ne.symm hNb, (by intro q; cases q), (by show 7 ≤ 1000; decide), .inl (SqL.of upd_same), fun v H5 hv B5 => ?_⟩
      obtain ⟨q, hq, rfl⟩ := strs_pick (qs := ["0" ++ w1, "+" ++ w1, "", "10", "-1", "x", w1 ++ "."]) hv
      have g5 := B5.keep _ _ hLb ((upd_ne hLN).trans g4)
      refine ⟨_, rfl, L, _, 0, 0, rfl, rfl, g5, ixN_at (i := 0) (by rw [hml]; omega), ?_⟩
      rw [← List.map_set]
      have bad := bad_put t (i := 0) (q := q) (by omega) (way1 n1 hn1 q (by rw [← en1] at hq; exact hq))
      refine ⟨_, rfl, rfl, _, rfl, iteW_no (by decide) ?_⟩
      refine ⟨_, rfl, rfl, _, rfl, iteW_no (by decide) ?_⟩
      refine ⟨_, rfl, rfl, _, rfl, iteW_no (by decide) ?_⟩
      refine ⟨_, rfl, rfl, _, rfl, iteW_no (by decide) ?_⟩
      refine ⟨_, rfl, rfl, _, rfl, iteW_no (by decide) ?_⟩
      refine ⟨_, rfl, rfl, _, rfl, iteW_no (by decide) ?_⟩
      refine ⟨_, rfl, rfl, _, rfl, iteW_no (by decide) ?_⟩
      exact ⟨rfl, _, rfl, join_red upd_same bad (k _ _ bad (((B04.fresh hN).trans B5).put hL hLb))⟩
    · refine ⟨_, rfl, rfl, _, rfl, iteW_no (by decide) ?_⟩
      refine ⟨_, rfl, rfl, _, rfl, iteW_no (by decide) ?_⟩
      refine ⟨_, rfl, rfl, _, rfl, iteW_yes rfl ?_⟩
      refine ⟨_, rfl, .inl ⟨rfl, _, SqL.of g4⟩, _, rfl, L, _, _, c, _, rfl, rfl, g4, by omega, by omega, (ixN_seq (ixN_at (by rw [hml]; exact hci))).1, List.getElem?_eq_getElem (by rw [hml]; exact hci), ?_⟩
      have eT : (T.map V.str).eraseIdx c = (T.eraseIdx c).map V.str := by
        rw [List.eraseIdx_eq_take_drop_succ, List.eraseIdx_eq_take_drop_succ, List.map_append, List.map_take, List.map_drop]
      rw [eT]
      have bad := bad_pop t
      rw [hc] at bad
      refine ⟨_, rfl, rfl, _, rfl, iteW_no (by decide) ?_⟩
      refine ⟨_, rfl, rfl, _, rfl, iteW_no (by decide) ?_⟩
      refine ⟨_, rfl, rfl, _, rfl, iteW_no (by decide) ?_⟩
      refine ⟨_, rfl, rfl, _, rfl, iteW_no (by decide) ?_⟩
      refine ⟨_, rfl, rfl, _, rfl, iteW_no (by decide) ?_⟩
      refine ⟨_, rfl, rfl, _, rfl, iteW_no (by decide) ?_⟩
      exact ⟨rfl, _, rfl, join_red upd_same bad (k _ _ bad (B04.put hL hLb))⟩
    · refine ⟨_, rfl, rfl, _, rfl, iteW_no (by decide) ?_⟩
      refine ⟨_, rfl, rfl, _, rfl, iteW_no (by decide) ?_⟩
      refine ⟨_, rfl, rfl, _, rfl, iteW_no (by decide) ?_⟩
      refine ⟨_, rfl, rfl, _, rfl, iteW_yes rfl ?_⟩
      refine ⟨_, rfl, _, rfl, _, _, rfl, rfl, _, rfl, L, _, rfl, SqL.of g4, fun N hN => ?_⟩
      have cm : cutV (T.map V.str) none (some ((c : Int) + 1)) = (T.take (c + 1)).map V.str := by
        rw [show ((c : Int) + 1) = ((c + 1 : Nat) : Int) from by omega, cut_take (by rw [hml]; omega), ← List.map_take]
      rw [cm]
      have bad := bad_cut t
      rw [hc] at bad
      refine ⟨_, rfl, rfl, _, rfl, iteW_no (by decide) ?_⟩
      refine ⟨_, rfl, rfl, _, rfl, iteW_no (by decide) ?_⟩
      refine ⟨_, rfl, rfl, _, rfl, iteW_no (by decide) ?_⟩
      refine ⟨_, rfl, rfl, _, rfl, iteW_no (by decide) ?_⟩
      refine ⟨_, rfl, rfl, _, rfl, iteW_no (by decide) ?_⟩
      exact ⟨rfl, _, rfl, join_red upd_same bad (k _ _ bad (B04.fresh hN))⟩
    · refine ⟨_, rfl, rfl, _, rfl, iteW_no (by decide) ?_⟩
      refine ⟨_, rfl, rfl, _, rfl, iteW_no (by decide) ?_⟩
      refine ⟨_, rfl, rfl, _, rfl, iteW_no (by decide) ?_⟩
      refine ⟨_, rfl, rfl, _, rfl, iteW_no (by decide) ?_⟩
      refine ⟨_, rfl, rfl, _, rfl, iteW_yes rfl ?_⟩
      have hb6 : T[a6]? = some T[a6] := List.getElem?_eq_getElem (by omega)
      have hb7 : T[a6 + 1]? = some T[a6 + 1] := List.getElem?_eq_getElem (by omega)
      have hz : 1000 ≤ sizeLine := by decide
      refine ⟨_, rfl, _, rfl, _, _, rfl, rfl, L, _, _, _, rfl, rfl, SqL.of g4, atI_nat (j := a6 + 1) (map_at hb7), _, rfl, _, rfl, L, _, _, _, rfl, rfl, SqL.of g4, atI_nat (j := a6) (map_at hb6), (by show 2 ≤ sizeLine; decide), fun N hN => ?_⟩
      have hLN : L ≠ N := ne_of_none g4 hN
      refine ⟨_, rfl, _, rfl, _, rfl, _, rfl, _, _, rfl, rfl, _, rfl, L, N, _, _, _, _, rfl, rfl, rfl, rfl, (upd_ne hLN).trans g4, upd_same, hLN, by omega, by omega, by rw [hml]; omega, by rw [hml]; show T.length + 2 ≤ sizeLine; omega, ?_⟩
      have eT : (T.map V.str).take ((a6 : Int)).toNat ++ [V.str T[a6 + 1], V.str T[a6]] ++ (T.map V.str).drop ((a6 : Int) + 2).toNat = (T.take a6 ++ T[a6 + 1] :: T[a6] :: T.drop (a6 + 2)).map V.str := by
        rw [Int.toNat_natCast, show ((a6 : Int) + 2).toNat = a6 + 2 by omega, List.map_append, List.map_cons, List.map_cons, List.map_take, List.map_drop, List.append_assoc]
        rfl
      rw [eT]
      have bad := bad_swap t hb6 hb7
      refine ⟨_, rfl, rfl, _, rfl, iteW_no (by decide) ?_⟩
      refine ⟨_, rfl, rfl, _, rfl, iteW_no (by decide) ?_⟩
      refine ⟨_, rfl, rfl, _, rfl, iteW_no (by decide) ?_⟩
      refine ⟨_, rfl, rfl, _, rfl, iteW_no (by decide) ?_⟩
      exact ⟨rfl, _, rfl, join_red upd_same bad (k _ _ bad ((B04.fresh hN).put hL hLb))⟩
    · refine ⟨_, rfl, rfl, _, rfl, iteW_no (by decide) ?_⟩
      refine ⟨_, rfl, rfl, _, rfl, iteW_no (by decide) ?_⟩
      refine ⟨_, rfl, rfl, _, rfl, iteW_no (by decide) ?_⟩
      refine ⟨_, rfl, rfl, _, rfl, iteW_no (by decide) ?_⟩
      refine ⟨_, rfl, rfl, _, rfl, iteW_no (by decide) ?_⟩
      refine ⟨_, rfl, rfl, _, rfl, iteW_yes rfl ?_⟩
      have hb5 : T[a5]? = some T[a5] := List.getElem?_eq_getElem (by omega)
      refine ⟨_, rfl, .inl ⟨rfl, _, SqL.of g4⟩, _, rfl, _, rfl, _, rfl, L, _, _, _, rfl, rfl, SqL.of g4, atI_nat (j := a5) (map_at hb5), L, _, _, _, rfl, rfl, g4, by rw [hml]; exact Nat.lt_of_lt_of_le (by omega : T.length < 1000) (by decide), by omega, by omega, ?_⟩
      have eT : (T.map V.str).take ((a5 : Int)).toNat ++ [V.str T[a5]] ++ (T.map V.str).drop ((a5 : Int)).toNat = (T.take a5 ++ T[a5] :: T.drop a5).map V.str := by
        rw [Int.toNat_natCast, List.map_append, List.map_cons, List.map_take, List.map_drop, List.append_assoc]
        rfl
      rw [eT]
      have bad := bad_twice t hb5
      refine ⟨_, rfl, rfl, _, rfl, iteW_no (by decide) ?_⟩
      refine ⟨_, rfl, rfl, _, rfl, iteW_no (by decide) ?_⟩
      refine ⟨_, rfl, rfl, _, rfl, iteW_no (by decide) ?_⟩
      exact ⟨rfl, _, rfl, join_red upd_same bad (k _ _ bad (B04.put hL hLb))⟩
    · refine ⟨_, rfl, rfl, _, rfl, iteW_no (by decide) ?_⟩
      refine ⟨_, rfl, rfl, _, rfl, iteW_no (by decide) ?_⟩
      refine ⟨_, rfl, rfl, _, rfl, iteW_no (by decide) ?_⟩
      refine ⟨_, rfl, rfl, _, rfl, iteW_no (by decide) ?_⟩
      refine ⟨_, rfl, rfl, _, rfl, iteW_no (by decide) ?_⟩
      refine ⟨_, rfl, rfl, _, rfl, iteW_no (by decide) ?_⟩
      refine ⟨_, rfl, rfl, _, rfl, iteW_yes rfl ?_⟩
      obtain ⟨U, R, eU, u1, u2, u3, u4, u5, u6⟩ := col_at t
      have hlen : T.length = U.length + R.length + 1 := by rw [eU, List.length_append, List.length_cons]; omega
      have hcU : c = U.length := hc.symm.trans u5
      refine ⟨_, rfl, _, _, rfl, rfl, _, rfl, _, rfl, L, _, rfl, .inl (SqL.of g4), _, rfl, _, _, rfl, rfl, _, _, rfl, rfl, b, _, rfl, B04.bag, by rw [hml]; have := List.length_pos_iff.mpr u6; omega, by rw [hml]; omega, fun d H5 d0 d1 B5 => ?_⟩
      rw [hml] at d1
      obtain ⟨d, rfl⟩ : ∃ n : Nat, d = (n : Int) := ⟨d.toNat, by omega⟩
      have hd : d < R.length := by omega
      have g5 := B5.keep _ _ hLb g4
      have B05 := B04.trans B5
      refine ⟨_, _, rfl, rfl, ?_⟩
      have hpl : T[c + 1 + d]? = some R[d] := by
        rw [eU, hcU, List.getElem?_append_right (by omega), show U.length + 1 + d - U.length = d + 1 by omega, List.getElem?_cons_succ]
        exact List.getElem?_eq_getElem hd
      have hpi : ((c : Int) + 1 + (d : Int)) = ((c + 1 + d : Nat) : Int) := by omega
      have at7 : atI (T.map V.str) ((c : Int) + 1 + (d : Int)) = some (.str R[d]) := by rw [hpi]; exact atI_nat (map_at hpl)
      obtain ⟨y, hy, ey⟩ := told_tok (u4 _ (List.getElem_mem hd))
      have hp1 := way6p y hy
      have hl1 := (t.pl _ (List.mem_of_getElem? hpl)).2.2
      have hyl := (tok_small _ (List.mem_append_right _ hy)).1
      have hyl' : y.1.length ≤ 20 := hyl
      have hz : 1000 ≤ sizeLine := by decide
      refine ⟨_, rfl, _, rfl, L, _, _, _, rfl, rfl, SqL.of g5, at7, rfl, _, _, rfl, rfl, rfl, by omega, fun M hM => ⟨M, _, _, _, rfl, rfl, SqT.of upd_same, atI_nat (j := 0) rfl, ?_⟩⟩
      have B06 := B05.fresh (o := .tup [.str (Txt.partition R[d] "=").1, .str (Txt.partition R[d] "=").2.1, .str (Txt.partition R[d] "=").2.2]) hM
      have hLM : L ≠ M := ne_of_none g5 hM
      have g6 : upd H5 M (.tup [.str (Txt.partition R[d] "=").1, .str (Txt.partition R[d] "=").2.1, .str (Txt.partition R[d] "=").2.2]) L = _ := (upd_ne hLM).trans g5
      generalize upd H5 M (.tup [.str (Txt.partition R[d] "=").1, .str (Txt.partition R[d] "=").2.1, .str (Txt.partition R[d] "=").2.2]) = H6 at B06 g6 ⊢
      have hle : Str.length "=" = 1 := rfl
      rw [ey, hp1]
      refine ⟨_, rfl, _, _, rfl, rfl, by omega, _, rfl, (by show 9 ≤ sizeLine; decide), fun N hN => ?_⟩
      have hNb : N ≠ b := fresh_ne B06.bag hN
      have hLN : L ≠ N := ne_of_none g6 hN
      refine ⟨b, N, _, rfl, (B06.fresh hN).bag, Ne.symm hNb, (by intro q; cases q), (by show 9 ≤ 1000; decide), .inl (SqL.of upd_same), fun v H7 hv B7 => ?_⟩
      obtain ⟨q, hq, rfl⟩ := strs_pick (qs := ["", "7", "Yes", "true", "1 ", "-0", "01", "yes.", "10"]) hv
      have g7 := B7.keep _ _ hLb ((upd_ne hLN).trans g6)
      have hql : q.length ≤ 10 := (show ∀ q ∈ (["", "7", "Yes", "true", "1 ", "-0", "01", "yes.", "10"] : List Str), q.length ≤ 10 by decide +kernel) q hq
      refine ⟨_, _, rfl, rfl, by rw [Str.length_append]; omega, _, rfl, _, rfl, L, _, _, c + 1 + d, rfl, rfl, g7, by rw [hpi]; exact ixN_at (by rw [hml]; omega), ?_⟩
      rw [← List.map_set]
      have bad := bad_put t (i := c + 1 + d) (q := y.1 ++ "=" ++ q) (by omega) (way6 y hy q hq)
      refine ⟨_, rfl, rfl, _, rfl, iteW_no (by decide) ?_⟩
      refine ⟨_, rfl, rfl, _, rfl, iteW_no (by decide) ?_⟩
      exact ⟨rfl, _, rfl, join_red upd_same bad (k _ _ bad (((B06.fresh hN).trans B7).put hL hLb))⟩
    · refine ⟨_, rfl, rfl, _, rfl, iteW_no (by decide) ?_⟩
      refine ⟨_, rfl, rfl, _, rfl, iteW_no (by decide) ?_⟩
      refine ⟨_, rfl, rfl, _, rfl, iteW_no (by decide) ?_⟩
      refine ⟨_, rfl, rfl, _, rfl, iteW_no (by decide) ?_⟩
      refine ⟨_, rfl, rfl, _, rfl, iteW_no (by decide) ?_⟩
      refine ⟨_, rfl, rfl, _, rfl, iteW_no (by decide) ?_⟩
      refine ⟨_, rfl, rfl, _, rfl, iteW_no (by decide) ?_⟩
      refine ⟨_, rfl, rfl, _, rfl, iteW_yes rfl ?_⟩
      refine ⟨_, rfl, _, rfl, L, _, rfl, .inl (SqL.of g4), _, rfl, by rw [hml]; omega, by rw [hml]; omega, fun D hD => ?_⟩
      have hDb : D ≠ b := fresh_ne B04.bag hD
      have hLD : L ≠ D := ne_of_none g4 hD
      rw [hml]
      refine lc_range (lo := 0) (n := ((T.length : Int)).toNat) (fun i H' => ∃ js : List Int, H' D = some (.lst (js.map V.int)) ∧ js.length ≤ i ∧ (∀ j ∈ js, ∃ n : Nat, j = (n : Int) ∧ ∃ p, T[n]? = some p ∧ sub "=" p = true) ∧ (∀ n p, n < i → T[n]? = some p → sub "=" p = true → js ≠ []) ∧ H' L = some (.lst (T.map V.str)) ∧ Bk b H4 H')
        ⟨[], upd_same, Nat.le_refl _, (fun j hj => nomatch hj), (fun n p hn => absurd hn (Nat.not_lt_zero _)), (upd_ne hLD).trans g4, (Bk.of B04.bag Ext.rfl').put hD hDb⟩ (fun i H' hi h => ?_) (fun H' h => ?_)
      · obtain ⟨js, j1, j2, j3, j4, j5, B⟩ := h
        have hiT : i < T.length := by omega
        have hti : T[i]? = some T[i] := List.getElem?_eq_getElem hiT
        have z0 : (0 : Int) + (i : Int) = (i : Int) := by omega
        rw [z0]
        refine ⟨rfl, _, rfl, _, rfl, L, _, _, _, rfl, rfl, SqL.of j5, atI_nat (j := i) (map_at hti), _, _, rfl, rfl, _, rfl, ?_⟩
        show if sub "=" T[i] = true then _ else _
        cases hs : sub "=" T[i] with
        | true =>
          refine iteT ⟨_, rfl, _, j1, ?_, js ++ [(i : Int)], ?_, ?_, fun j hj => ?_, fun n p _ _ _ q => ?_, (upd_ne hLD).trans j5, B.put hD hDb⟩
          · rw [List.length_map]
            exact Nat.lt_of_lt_of_le (by omega : js.length < 1000) (by decide)
          · rw [upd_same, List.map_append]
            rfl
          · rw [List.length_append]
            exact Nat.succ_le_succ j2
          · rcases List.mem_append.mp hj with hj | hj
            · exact j3 j hj
            · rw [List.mem_singleton.mp hj]
              exact ⟨i, rfl, _, hti, hs⟩
          · have := congrArg List.length q
            rw [List.length_append] at this
            cases this
        | false =>
          refine iteF ⟨js, j1, by omega, j3, fun n p hn hp hsp => ?_, j5, B⟩
          rcases (by omega : n < i ∨ n = i) with h1 | rfl
          · exact j4 n p h1 hp hsp
          · rw [hti] at hp
            rw [← Option.some.inj hp, hs] at hsp
            cases hsp
      · obtain ⟨js, j1, j2, j3, j4, j5, B⟩ := h
        have hne : js ≠ [] := by
          obtain ⟨p, hp, h100⟩ := t.law.told
          obtain ⟨y, hy, rfl⟩ := told_tok h100
          obtain ⟨n, hn, en⟩ := List.mem_iff_getElem.mp hp
          exact j4 n _ (by omega) (by rw [List.getElem?_eq_getElem hn, en]) (eq_in.1 y (List.mem_append_right _ hy))
        have hjl : (js.map V.int).length = js.length := List.length_map ..
        refine ⟨b, D, _, rfl, B.bag, Ne.symm hDb, (fun q => hne (List.map_eq_nil_iff.mp q)), by rw [hjl]; omega, .inl (SqL.of j1), fun v H5 hv B5 => ?_⟩
        obtain ⟨j, hj, rfl⟩ := List.mem_map.mp hv
        obtain ⟨n, rfl, p7, hp7, hs7⟩ := j3 j hj
        obtain ⟨y, hy, rfl⟩ := has_eq (t.law.pos p7 (List.mem_of_getElem? hp7)) hs7
        have hnT := (List.getElem?_eq_some_iff.mp hp7).1
        have g5 := B5.keep _ _ hLb j5
        have B05 := (B04.trans B).trans B5
        refine ⟨_, rfl, (by show 5 ≤ sizeLine; decide), fun N hN => ?_⟩
        have hNb : N ≠ b := fresh_ne B05.bag hN
        have hLN : L ≠ N := ne_of_none g5 hN
        refine ⟨b, N, _, rfl, (B05.fresh hN).bag, Ne.symm hNb, (by intro q; cases q), (by show 5 ≤ 1000; decide), .inl (SqL.of upd_same), fun v H7 hv B7 => ?_⟩
        obtain ⟨q, hq, rfl⟩ := strs_pick (qs := ["", " =", "==", ":", "= "]) hv
        have g7 := B7.keep _ _ hLb ((upd_ne hLN).trans g5)
        have bp := way7 y hy q hq
        have bad := bad_put t (i := n) hnT bp
        have hjn : (Txt.join q (Txt.split (tokT y) "=")).length ≤ 20 := by
          unfold badPart at bp
          exact of_decide_eq_true (Bool.and_eq_true_iff.mp (Bool.and_eq_true_iff.mp bp).2).1
        have hfit := way7f y hy q hq
        have hyl := (t.pl _ (List.mem_of_getElem? hp7)).2.2
        have hz : 1000 ≤ sizeLine := by decide
        refine ⟨rfl, _, rfl, _, rfl, L, _, _, _, rfl, rfl, SqL.of g7, atI_nat (j := n) (map_at hp7), rfl, _, _, rfl, rfl, rfl, by omega, fun M hM => ?_⟩
        have hLM : L ≠ M := ne_of_none g7 hM
        refine ⟨q, M, _, rfl, rfl, .inl (SqL.of upd_same), hfit, _, rfl, _, rfl, L, _, _, n, rfl, rfl, (upd_ne hLM).trans g7, ixN_at (by rw [hml]; exact hnT), ?_⟩
        rw [← List.map_set]
        refine ⟨_, rfl, rfl, _, rfl, iteW_no (by decide) ?_⟩
        exact ⟨rfl, _, rfl, join_red upd_same bad (k _ _ bad ((((B05.fresh hN).trans B7).fresh hM).put hL hLb))⟩
    · refine ⟨_, rfl, rfl, _, rfl, iteW_no (by decide) ?_⟩
      refine ⟨_, rfl, rfl, _, rfl, iteW_no (by decide) ?_⟩
      refine ⟨_, rfl, rfl, _, rfl, iteW_no (by decide) ?_⟩
      refine ⟨_, rfl, rfl, _, rfl, iteW_no (by decide) ?_⟩
      refine ⟨_, rfl, rfl, _, rfl, iteW_no (by decide) ?_⟩
      refine ⟨_, rfl, rfl, _, rfl, iteW_no (by decide) ?_⟩
      refine ⟨_, rfl, rfl, _, rfl, iteW_no (by decide) ?_⟩
      refine ⟨_, rfl, rfl, _, rfl, iteW_no (by decide) ?_⟩
      refine ⟨_, rfl, rfl, _, rfl, iteW_yes rfl ?_⟩
      have bt := bad_tail t
      have bh := bad_head t
      have hln : (Txt.join " " T).length ≤ 400 := by
        have h1 := bt.len
        rw [Str.length_append] at h1
        omega
      have hz : 1000 ≤ sizeLine := by decide
      have hl1 : Str.length " " = 1 := rfl
      refine ⟨_, rfl, rfl, _, rfl, " ", L, T, rfl, rfl, .inl (SqL.of g4), join_room hln (by decide), _, _, rfl, rfl, by omega, rfl, _, rfl, " ", L, T, rfl, rfl, .inl (SqL.of g4), join_room hln (by decide), _, _, rfl, rfl, by omega, (by show 8 ≤ sizeLine; decide), fun N hN => ?_⟩
      have hNb : N ≠ b := fresh_ne B04.bag hN
      refine ⟨b, N, _, rfl, (B04.fresh hN).bag, Ne.symm hNb, (by intro q; cases q), (by show 8 ≤ 1000; decide), .inl (SqL.of upd_same), fun v H5 hv B5 => ?_⟩
      obtain ⟨q, hq, rfl⟩ := strs_pick (qs := [" ", ":", "0", "out", "0 :", "A", Txt.join " " T ++ " ", " " ++ Txt.join " " T]) hv
      refine k _ _ ?_ ((B04.fresh hN).trans B5)
      have h6 : q ∈ ([" ", ":", "0", "out", "0 :", "A"] : List Str) ∨ q = Txt.join " " T ++ " " ∨ q = " " ++ Txt.join " " T := by
        simp only [List.mem_cons, List.not_mem_nil, or_false] at hq ⊢
        rcases hq with h | h | h | h | h | h | h | h
        · exact .inl (.inl h)
        · exact .inl (.inr (.inl h))
        · exact .inl (.inr (.inr (.inl h)))
        · exact .inl (.inr (.inr (.inr (.inl h))))
        · exact .inl (.inr (.inr (.inr (.inr (.inl h)))))
        · exact .inl (.inr (.inr (.inr (.inr (.inr h)))))
        · exact .inr (.inl h)
        · exact .inr (.inr h)
      rcases h6 with h | rfl | rfl
      · obtain ⟨f1, f2, f3, f4⟩ := fixed_bad q h
        exact ⟨f1, f2, f3, f4⟩
      · exact bt
      · exact bh
end
end Pa
set_option maxRecDepth 100000
set_option maxHeartbeats 4000000
namespace Pa
open PySem PySem.Spec PyProof.Rows L2 RZ StX ClX
/-- isinstance(why, a class) of a caught error that holds a dict -/
def rIsED (K : PySem.W.Frag) (D a : Addr) (cls : Value) (d : Option Addr) : List V → Hp → VK → Prop := fun xs H Q => ∃ (c : V) (cv : Value) (b : Bool) (dd : Addr) (fs : List (Str × V)), xs = [.ref a, c] ∧ cls = .ref D ∧ d = some dd ∧ H dd = some (.xd fs) ∧ (∀ u, RelV c u → u = cv) ∧ PySem.W.kitOne K (.ref D) cv = some b ∧ Q (.bl b) H
theorem call_isED {X : Cx} {a D : Addr} {oe : Obj} {cls : Value} {d : Option Addr} {pn : List (Addr × Obj)} (C : ExcC X.K D) (hz : Zc cls d oe) (hf : ∃ vs, oe.data = .fields vs) : CallR (X.suite a ((a, oe) :: pn)) (.builtin "isinstance") (rIsED X.K D a cls d) := by
  intro pins s σ H xs us Q I r h
  obtain ⟨c, cv, b, dd, fs, rfl, rfl, rfl, hdd, hcv, e, q⟩ := h
  cases r with
  | cons rx rr =>
    cases rr with
    | cons rt rr =>
      cases rr
      cases rx
      have ec := hcv _ rt
      subst ec
      obtain ⟨hget, _⟩ := I.pin (a, oe) (List.mem_append.mpr (.inl List.mem_cons_self))
      obtain ⟨vs, hv⟩ := hf
      have hx : ObjOk X.prog X.w H s.heap dd (.xd fs) := I.hok dd _ hdd
      obtain ⟨mA, hns, hr⟩ := hx
      obtain ⟨od, ho, hl⟩ := lookIn_ns hns
      have J : PySem.W.InstAt s.heap a oe D (some od) := ⟨hget, hz.1, by unfold PySem.W.notCls; rw [hv] <;> rfl, by rw [hz.2]; exact ho⟩
      obtain ⟨cdD, hcD, _⟩ := PySem.W.any_some C.hd
      exact PySem.W.kia_one (PySem.W.kitx_exc (by rw [hcD] <;> rfl) C.hg C.hk C.hs C.ha C.hn C.ht C.hm) I.kIn J e (fun z => nomatch z) fun tk => ⟨.bl b, H, I.kept (t' := tk) fun _ _ z => z, rfl, q⟩
theorem call_isiK {X : Cx} {K : PySem.W.Frag} (h : X.K = K) : CallR X (.builtin "isinstance") (rIsi K) := by
  subst h
  exact call_isi
/-- a function of the module that may raise -/
structure CallOkX (P : Program) (w : World) (K : PySem.W.Frag) (mg : Str → Option Value) (base : Heap) (k : Nat) (x : Str) (ps : List Str) (sp : Sp) : Prop where
  ok : ∃ (f : Addr) (fd : FuncData), mg x = some (.ref f) ∧ PySem.W.keepIn K (.ref f) = true ∧ Binds K fd ps [] ∧ FnOk P w K mg base (L2.CX P w) k f fd ps sp
/-- f(e, ..) that may raise, within a try -/
def tCallE (sp : Sp) (E : L2.St → XK) (t : TA) : TE := fun σ H Q => t σ H fun vs H1 => sp vs H1 Q (E σ)
theorem pe_ccE {X : Cx} {k : Nat} {x : Str} {ps : List Str} {sp : Sp} {p pos : Pos} {e : Expr} {es : List Expr} {t : TA} {W : WX} (C : CallOkX X.prog X.w X.K X.mg X.base k x ps sp) (hr : Room k X.A) (hg : Gl X x) (tk : Takes X W) (ha : PA X (e :: es) t)
    (hdb : (x == ("__debug__" : Str)) = false := by decide) (he : starEach (e :: es) X.env = (false, eval e X.env) :: starEach es X.env := by rfl) (hpl : (backTo pos (starEach es X.env)).any (·.1) = false := by rfl) : PE X (.Call (.Name x p) (e :: es) [] pos) (tCallE sp (WE W) t) := by
  obtain ⟨f, fd, h1, h2, h3, h4⟩ := C.ok
  refine ⟨fun pins s σ H Q I h => wpAny_Call_Name_kw (ld_glob I hg h1 ?_ hdb)⟩
  exact PySem.W.callWith_K (h₀ := X.base) I.ok.mod.kin h2 (thn (ha.run pos pins s σ H _ I h) fun us s1 ⟨vs, H1, I1, r, q⟩ => ⟨I1.kIn, run_fnS h4 hr h3 (passAt tk σ) I1 r q⟩) he hpl
/-- the class BadLine, where it is caught -/
structure CatchL (K : PySem.W.Frag) (mg : Str → Option Value) (CL CP CB : Addr) : Prop where
  xf : XfC K CL
  ec : ExcC K CL
  no : PySem.W.findIn K (.ref CL) "number" = some none
  gL : mg "BadLine" = some (.ref CL)
  gP : mg "PressError" = some (.ref CP)
  gB : mg "BadRule" = some (.ref CB)
  kP : PySem.W.kitOne K (.ref CL) (.ref CP) = some true
  kB : PySem.W.kitOne K (.ref CL) (.ref CB) = some false
  ex : PySem.W.exmOne K (.ref CL) (.ref CL) = some true
/-- a text that is a sheet's; a text with its first bad line -/
def LinesOk (s : Str) : Prop := s ≠ "" ∧ ∀ l ∈ Txt.split s "\n", l.length ≤ 400 ∧ freeOf 10 l = true
def ReadsOk (s : Str) (rows : List RowD) : Prop := GoodR rows ∧ rows.length ≤ 6 ∧ ((s = "" ∧ rows = []) ∨ LinesOk s ∧ Txt.split s "\n" = rows.map lineT)
def ReadsBad (s : Str) (n : Nat) : Prop := n ≤ 6 ∧ LinesOk s ∧ ∃ rows bad rest, GoodR rows ∧ rows.length = n ∧ Txt.split s "\n" = rows.map lineT ++ bad :: rest ∧ (n = 6 ∨ fieldsP (Txt.split bad " ") = none)
section
variable {P : Program} {w : World} {K : PySem.W.Frag} {mg : Str → Option Value} {base : Heap} {tv tp tk dl C CS CB CL CP : Addr}
def spLRead (K : PySem.W.Frag) (C CS : Addr) : Sp := fun vs H Q _ => ∃ s : Str, vs = [.str s] ∧ s.length ≤ 10000 ∧
  ((∃ rows, ReadsOk s rows ∧ ∀ p x H', H p = none → Ext H H' → H' p = some (.tup [.bl true, .ref x]) → SheetAt K C CS H' x rows → Q (.ref p) H') ∨
   ∃ n : Nat, ReadsBad s n ∧ ∀ p H', H p = none → Ext H H' → H' p = some (.tup [.bl false, .int n]) → Q (.ref p) H')
abbrev sL_read : Stmt := topS 43
theorem scL_read : FnScope ["_law_text", "_law_sheet_here", "why"] ["_law_text"] (defScope sL_read) := ⟨rfl, rfl, rfl, by decide +kernel, rfl, by decide +kernel, by decide +kernel⟩
theorem ok_lread {f : Addr} {fd : FuncData} (F : Fun K "_law_read" "_law_read" sL_read f fd) (T : Txt K w mg tv tp tk dl C) (B : CatchL K mg CL CP CB) (C_read_sheet : CallOkX P w K mg base 7 "read_sheet" ["text"] (spRead K C CS CL)) : FnOk P w K mg base CX0 8 f fd ["_law_text"] (spLRead K C CS) := by
  refine F.ok scL_read (fun vs H Q E h => ?_) (fun cdv A outer s H vs Q E hr h => ?_)
  · obtain ⟨s, rfl, _⟩ := h
    rfl
  · obtain ⟨tx, rfl, hlen, h⟩ := h
    refine ⟨_, (pss_cons (ps_try_as (X := (cxOf CX0 P w K mg base ["_law_text", "_law_sheet_here", "why"] "_law_read" (defScope sL_read) f cdv A outer s H E).nox) (c := .ref CL) (n := "why") (i := 2)
        rfl rfl scL_read.nd rfl rfl ⟨(by rfl), (by decide), .inl B.gL⟩ LamX.takes0
        (fun W pn xe tk _ => pss_one (ps_set (i := 1) scL_read.nd rfl (.inl rfl) (pe_ccE C_read_sheet (hr.mono (by decide)) (by rfl) tk (pa_cons (pv 0) pa_nil))))
        (fun a oe cls d pn hz hf =>
          pss_cons (ps_if (PW.pt (pw_or (pt_not (pt_val (pe_callB (call_isED B.ec hz hf) (by rfl) T.b_isinstance (by decide +kernel) (pa_cons (pv 2) (pa_cons (pe_glob (v := .ref CP) (by rfl) B.gP rfl) pa_nil)))))
              (pw_or (pt_val (pe_callB (call_isED B.ec hz hf) (by rfl) T.b_isinstance (by decide +kernel) (pa_cons (pv 2) (pa_cons (pe_glob (v := .ref CB) (by rfl) B.gB rfl) pa_nil))))
                (pw_or1 (pt_val (pe_callB (call_isiK (K := K) rfl) (by rfl) T.b_isinstance (by decide +kernel) (pa_cons (pe_xf B.xf B.no hz hf (pv 2)) (pa_cons (pe_bltn (v := .ty "bool") (by rfl) T.b_bool (by decide +kernel) rfl) pa_nil))))))))
            (pss_one (ps_ret (pe_tup (pa_cons pe_bl (pa_cons pe_str pa_nil)))))
            pss_nil)
          (pss_one (ps_ret (pe_tup (pa_cons pe_bl (pa_cons (pe_xf B.xf B.no hz hf (pv 2)) pa_nil)))))))
      (pss_one (ps_ret (pe_tup (pa_cons pe_bl (pa_cons (pv 1) pa_nil)))))), ?_⟩
    have free : ∀ {H' : Hp} {p : Addr}, Ext H H' → H' p = none → H p = none := fun {H' p} e hp => by
      cases q : H p with
      | none => rfl
      | some u => rw [e _ _ q] at hp; cases hp
    have good : ∀ rows : List RowD, (∀ p x H', H p = none → Ext H H' → H' p = some (.tup [.bl true, .ref x]) → SheetAt K C CS H' x rows → Q (.ref p) H') → ∀ x H', H x = none → Ext H H' → SheetAt K C CS H' x rows → ∀ p, H' p = none → Q (.ref p) (upd H' p (.tup [.bl true, .ref x])) := fun rows k x H' _ e hs p hp =>
      k p x _ (free e hp) (e.trans (Ext.upd hp)) upd_same (hs.ext (Ext.upd hp))
    rcases h with ⟨rows, ⟨hg, h6, hr'⟩, k⟩ | ⟨n, ⟨h6, ⟨hne, hls⟩, rows, bad, rest, hg, hn, hsp, hb⟩, k⟩
    · rcases hr' with ⟨rfl, rfl⟩ | ⟨⟨hne, hls⟩, hsp⟩
      · exact ⟨_, rfl, "", rfl, hlen, .inl ⟨rfl, fun x H' hx e hs => ⟨_, rfl, (by show 2 ≤ sizeLine; decide), fun p hp => good _ k x H' hx e hs p hp⟩⟩⟩
      · exact ⟨_, rfl, tx, rfl, hlen, .inr ⟨hne, hls, .inl ⟨rows, hg, h6, hsp, fun x H' hx e hs => ⟨_, rfl, (by show 2 ≤ sizeLine; decide), fun p hp => good _ k x H' hx e hs p hp⟩⟩⟩⟩
    · refine ⟨_, rfl, tx, rfl, hlen, .inr ⟨hne, hls, .inr ⟨rows, bad, rest, hg, by omega, hsp, by rw [hn]; exact hb, fun H' dd e hd hdd => ?_⟩⟩⟩
      rw [hn] at hdd
      refine ⟨true, B.ex, fun _ y _ => ?_, fun z => nomatch z⟩
      refine ⟨_, rfl, .ref CP, .ref CP, true, dd, _, rfl, rfl, rfl, hdd, fun u hu => hu, B.kP, _, rfl, iteF ?_⟩
      refine ⟨_, rfl, .ref CB, .ref CB, false, dd, _, rfl, rfl, rfl, hdd, fun u hu => hu, B.kB, _, rfl, iteF ?_⟩
      refine ⟨_, rfl, rfl, rfl, dd, _, _, rfl, hdd, rfl, _, _, _, _, _, rfl, .ty _, .base (.int n), kit_ty (r := false) (by decide +kernel), _, rfl, iteF ?_⟩
      exact ⟨_, rfl, rfl, rfl, dd, _, _, rfl, hdd, rfl, (by show 2 ≤ sizeLine; decide), fun p hp => k p _ (free e hp) (e.trans (Ext.upd hp)) upd_same⟩
end
end Pa
set_option maxRecDepth 100000
set_option maxHeartbeats 4000000
namespace Pa
open PySem PySem.Spec PyProof.Rows L2 RZ StX
/-! ### lines read -/
theorem nl_is : ("\n" : Str) = ⟨#[10]⟩ := by decide +kernel
def LineL (l : Str) : Prop := l.length ≤ 400 ∧ freeOf 10 l = true
theorem good_lines {rows : List RowD} (hg : GoodR rows) : ∀ l ∈ rows.map lineT, LineL l := fun l hl => by
  obtain ⟨x, hx, rfl⟩ := List.mem_map.mp hl
  exact ⟨(line_free (hg x hx)).2, (line_free (hg x hx)).1⟩
theorem line_ne {x : RowD} (g : Good x.1 x.2.1 x.2.2) : lineT x ≠ "" := fun q => by
  have h1 := line_split g
  have h2 := (toks_len g).2
  rw [← h1, q] at h2
  exact absurd h2 (by decide +kernel)
theorem join_ne {ts : List Str} (h0 : 2 ≤ ts.length ∨ ∃ l, ts = [l] ∧ l ≠ "") : Txt.join "\n" ts ≠ "" := fun q => by
  rcases h0 with h2 | ⟨l, rfl, hl⟩
  · obtain ⟨a, b, r, rfl⟩ : ∃ a b r, ts = a :: b :: r := match ts, h2 with | a :: b :: r, _ => ⟨a, b, r, rfl⟩
    rw [nl_is] at q
    have h1 := congrArg (fun s : Str => s.cps.toList) q
    simp only [txt_join, jl_join, List.map_cons, jl] at h1
    have : (10 : Nat) ∈ ("" : Str).cps.toList := by rw [← h1]; simp
    cases this
  · rw [txt_join] at q
    exact hl q
theorem lines_back {ts : List Str} (hl : ∀ l ∈ ts, LineL l) (hn : ts.length ≤ 20) (h0 : 2 ≤ ts.length ∨ ∃ l, ts = [l] ∧ l ≠ "") : LinesOk (Txt.join "\n" ts) ∧ Txt.split (Txt.join "\n" ts) "\n" = ts ∧ (Txt.join "\n" ts).length ≤ 10000 := by
  have hne : ts ≠ [] := by
    rcases h0 with h2 | ⟨l, rfl, _⟩
    · intro q
      rw [q] at h2
      cases h2
    · exact List.cons_ne_nil _ _
  have e : Txt.split (Txt.join "\n" ts) "\n" = ts := by
    rw [nl_is]
    exact split_join hne fun p hp => free_not (hl p hp).2
  refine ⟨⟨join_ne h0, fun l h => by rw [e] at h; exact hl l h⟩, e, ?_⟩
  have := join_len (c := 10) (B := 400) (N := 20) (fun p hp => (hl p hp).1) hn
  rw [nl_is]
  omega
theorem reads_bad {rows : List RowD} {bad : Str} {rest : List Str} (hg : GoodR rows) (h6 : rows.length ≤ 6) (hb : LineL bad) (hr : ∀ l ∈ rest, LineL l) (hn : rest.length ≤ 10) (h0 : 1 ≤ rows.length + rest.length ∨ bad ≠ "") (hf : rows.length = 6 ∨ fieldsP (Txt.split bad " ") = none) :
    ReadsBad (Txt.join "\n" (rows.map lineT ++ bad :: rest)) rows.length ∧ (Txt.join "\n" (rows.map lineT ++ bad :: rest)).length ≤ 10000 := by
  have hlen : (rows.map lineT ++ bad :: rest).length = rows.length + rest.length + 1 := by rw [List.length_append, List.length_map, List.length_cons]; omega
  obtain ⟨l1, l2, l3⟩ := lines_back (ts := rows.map lineT ++ bad :: rest) (fun l hl => by
    rcases List.mem_append.mp hl with q | q
    · exact good_lines hg l q
    · rcases List.mem_cons.mp q with rfl | q
      · exact hb
      · exact hr l q) (by omega) (by
    by_cases z : 1 ≤ rows.length + rest.length
    · exact .inl (by omega)
    · have e1 : rows = [] := List.length_eq_zero_iff.mp (by omega)
      have e2 : rest = [] := List.length_eq_zero_iff.mp (by omega)
      subst e1
      subst e2
      exact .inr ⟨bad, rfl, h0.resolve_left z⟩)
  exact ⟨⟨h6, l1, rows, bad, rest, hg, rfl, l2, hf⟩, l3⟩
theorem reads_ok {rows : List RowD} (hg : GoodR rows) (h6 : rows.length ≤ 6) : ReadsOk (Txt.join "\n" (rows.map lineT)) rows ∧ (Txt.join "\n" (rows.map lineT)).length ≤ 10000 := by
  by_cases z : rows = []
  · subst z
    exact ⟨⟨hg, h6, .inl ⟨rfl, rfl⟩⟩, by show (Txt.join "\n" []).length ≤ 10000; decide +kernel⟩
  · obtain ⟨l1, l2, l3⟩ := lines_back (good_lines hg) (by rw [List.length_map]; omega) (by
      rw [List.length_map]
      by_cases h2 : 2 ≤ rows.length
      · exact .inl h2
      · have hp := List.length_pos_iff.mpr z
        obtain ⟨x, rfl⟩ := List.length_eq_one_iff.mp (by omega : rows.length = 1)
        exact .inr ⟨_, rfl, line_ne (hg x List.mem_cons_self)⟩)
    exact ⟨⟨hg, h6, .inr ⟨l1, l2⟩⟩, l3⟩
theorem none_empty : fieldsP (Txt.split "" " ") = none ∧ LineL "" := ⟨by decide +kernel, by decide +kernel, by decide +kernel⟩
theorem none_blank : fieldsP (Txt.split " " " ") = none ∧ LineL " " := ⟨by decide +kernel, by decide +kernel, by decide +kernel⟩
/-! ### lines, some of them spoilt -/
def BadL (n : Nat) (s : Str) : Prop := fieldsP (Txt.split s " ") = none ∧ LineL s ∧ (s ≠ "" ∨ 2 ≤ n)
structure Mix (rows : List RowD) (ts : List Str) (ws : List Nat) : Prop where
  len : ts.length = rows.length
  lt : ∀ a ∈ ws, a < rows.length
  bad : ∀ a ∈ ws, ∃ s, ts[a]? = some s ∧ BadL rows.length s
  good : ∀ (j : Nat) x, j ∉ ws → rows[j]? = some x → ts[j]? = some (lineT x)
theorem Mix.start (rows : List RowD) : Mix rows (rows.map lineT) [] := ⟨List.length_map .., (fun _ h => nomatch h), (fun _ h => nomatch h), fun j x _ h => by rw [List.getElem?_map, h]; rfl⟩
theorem Mix.step {rows : List RowD} {ts : List Str} {ws : List Nat} {a : Nat} {s : Str} (h : Mix rows ts ws) (ha : a < rows.length) (hs : BadL rows.length s) : Mix rows (ts.set a s) (ws ++ [a]) := by
  have hat : a < ts.length := by rw [h.len]; exact ha
  refine ⟨by rw [List.length_set]; exact h.len, fun b hb => ?_, fun b hb => ?_, fun j x hj hx => ?_⟩
  · rcases List.mem_append.mp hb with q | q
    · exact h.lt b q
    · rw [List.mem_singleton.mp q]; exact ha
  · by_cases e : b = a
    · subst e
      exact ⟨s, by rw [List.getElem?_set_self hat], hs⟩
    · rcases List.mem_append.mp hb with q | q
      · obtain ⟨z, h1, h2⟩ := h.bad b q
        exact ⟨z, by rw [List.getElem?_set_ne (Ne.symm e)]; exact h1, h2⟩
      · exact absurd (List.mem_singleton.mp q) e
  · have e : a ≠ j := fun q => hj (List.mem_append_right _ (by rw [q]; exact List.mem_cons_self))
    rw [List.getElem?_set_ne e]
    exact h.good j x (fun q => hj (List.mem_append_left _ q)) hx
theorem Mix.reads {rows : List RowD} {ts : List Str} {ws : List Nat} {m : Nat} (h : Mix rows ts ws) (hg : GoodR rows) (h6 : rows.length ≤ 6) (hm : m ∈ ws) (hle : ∀ a ∈ ws, m ≤ a) : ReadsBad (Txt.join "\n" ts) m ∧ (Txt.join "\n" ts).length ≤ 10000 := by
  obtain ⟨s, h1, h2, h3, h4⟩ := h.bad m hm
  have hmr := h.lt m hm
  have hlen := h.len
  have et : ts.take m = (rows.take m).map lineT := by
    refine List.ext_getElem? fun j => ?_
    by_cases hj : j < m
    · have hjr : j < rows.length := by omega
      rw [List.getElem?_take_of_lt hj, List.getElem?_map, List.getElem?_take_of_lt hj, List.getElem?_eq_getElem hjr]
      exact h.good j _ (fun q => by have := hle j q; omega) (List.getElem?_eq_getElem hjr)
    · rw [List.getElem?_eq_none (by rw [List.length_take]; omega), List.getElem?_eq_none (by rw [List.length_map, List.length_take]; omega)]
  have e := at_split h1
  rw [et] at e
  have hall : ∀ l ∈ ts, LineL l := fun l hl => by
    obtain ⟨j, hj⟩ := List.mem_iff_getElem?.mp hl
    by_cases q : j ∈ ws
    · obtain ⟨z, z1, z2, z3, z4⟩ := h.bad j q
      rw [hj] at z1
      rw [Option.some.inj z1]
      exact z3
    · have hjr : j < rows.length := by rw [← hlen]; exact (List.getElem?_eq_some_iff.mp hj).1
      have := h.good j _ q (List.getElem?_eq_getElem hjr)
      rw [hj] at this
      rw [Option.some.inj this]
      exact good_lines hg _ (List.mem_map_of_mem (List.getElem_mem hjr))
  have hl : (rows.take m).length = m := by rw [List.length_take]; omega
  have hdl : (ts.drop (m + 1)).length = rows.length - (m + 1) := by rw [List.length_drop, hlen]
  have := reads_bad (rows := rows.take m) (bad := s) (rest := ts.drop (m + 1)) (fun x hx => hg x (List.mem_of_mem_take hx)) (by omega) h3 (fun l hl => hall l (List.mem_of_mem_drop hl)) (by omega) (by
    rcases h4 with h4 | h4
    · exact .inr h4
    · exact .inl (by omega)) (.inr h2)
  rw [hl, ← e] at this
  exact this
end Pa
set_option maxRecDepth 100000
set_option maxHeartbeats 4000000
namespace Pa
open PySem PySem.Spec PyProof.Rows L2 RZ StX ClX
def fnD (n : Int) : PyData := .tuple [.bool false, .int n]
theorem pair_dp {K : PySem.W.Frag} {H : Hp} {p : Addr} {n : Int} (h : H p = some (.tup [.bl false, .int n])) : Dp K H (.ref p) (fnD n) := .tup (SqT.of h) (.cons (.bl _) (.cons (.int _) .nil))
theorem pair_sh (n : Int) : SeqAt.shaped (fnD n) = true := by simp [SeqAt.shaped, fnD, PyData.canLay0, PyData.canLayAll0, PyData.depth, PyData.depthAll]
theorem pair_ne {K : PySem.W.Frag} {H : Hp} {p q : Addr} {n : Int} {Q : VK} (h1 : H p = some (.tup [.bl false, .int n])) (h2 : H q = some (.tup [.bl false, .int n])) (k : Q (.bl false) H) : rNeD K (.ref p) (.ref q) H Q :=
  ⟨_, _, pair_dp h1, pair_dp h2, pair_sh n, pair_sh n, by rw [eqv_self (pair_sh n)]; exact k⟩
theorem pair_eq {K : PySem.W.Frag} {H : Hp} {p q : Addr} {n : Int} {Q : VK} (h1 : H p = some (.tup [.bl false, .int n])) (h2 : H q = some (.tup [.bl false, .int n])) (k : Q (.bl true) H) : rEqD K (.ref p) (.ref q) H Q :=
  ⟨_, _, pair_dp h1, pair_dp h2, pair_sh n, pair_sh n, by rw [eqv_self (pair_sh n)]; exact k⟩
theorem dec_yes {xs ys : List Str} (h : xs = ys) : decide (xs = ys) = true := decide_eq_true h
theorem dec_no {xs ys : List Str} (h : xs ≠ ys) : decide (xs = ys) = false := decide_eq_false h
theorem nl_room {ts : List Str} (hl : ∀ l ∈ ts, LineL l) (hn : ts.length ≤ 20) : (ts.map (·.length)).sum + ts.length * Str.length "\n" ≤ 16777216 := by
  rw [nl_is]
  have := join_fit (c := 10) (B := 400) (N := 20) (fun p hp => (hl p hp).1) hn
  omega
theorem Mix.lines {rows : List RowD} {ts : List Str} {ws : List Nat} (h : Mix rows ts ws) (hg : GoodR rows) : ∀ l ∈ ts, LineL l := fun l hl => by
  obtain ⟨j, hj⟩ := List.mem_iff_getElem?.mp hl
  by_cases q : j ∈ ws
  · obtain ⟨z, z1, z2, z3, z4⟩ := h.bad j q
    rw [hj] at z1
    rw [Option.some.inj z1]
    exact z3
  · have hjr : j < rows.length := by rw [← h.len]; exact (List.getElem?_eq_some_iff.mp hj).1
    have := h.good j _ q (List.getElem?_eq_getElem hjr)
    rw [hj] at this
    rw [Option.some.inj this]
    exact good_lines hg _ (List.mem_map_of_mem (List.getElem_mem hjr))
theorem min_of : ∀ {ws : List Nat}, ws ≠ [] → ∃ m, m ∈ ws ∧ ∀ a ∈ ws, m ≤ a
  | [], h => absurd rfl h
  | [x], _ => ⟨x, List.mem_cons_self, fun a ha => by rw [List.mem_singleton.mp ha]; exact Nat.le_refl _⟩
  | x :: y :: r, _ => by
    obtain ⟨m, h1, h2⟩ := min_of (ws := y :: r) (List.cons_ne_nil _ _)
    by_cases q : x ≤ m
    · refine ⟨x, List.mem_cons_self, fun a ha => ?_⟩
      rcases List.mem_cons.mp ha with rfl | ha
      · exact Nat.le_refl _
      · exact Nat.le_trans q (h2 a ha)
    · refine ⟨m, List.mem_cons_of_mem _ h1, fun a ha => ?_⟩
      rcases List.mem_cons.mp ha with rfl | ha
      · omega
      · exact h2 a ha
theorem join_head {T : List Str} (h : T ≠ []) : "\n" ++ Txt.join "\n" T = Txt.join "\n" (("" : Str) :: T) := by
  obtain ⟨a, r, rfl⟩ : ∃ a r, T = a :: r := match T, h with | a :: r, _ => ⟨a, r, rfl⟩
  rw [txt_join, txt_join]
  show _ = ("" : Str) ++ "\n" ++ Str.join "\n" (a :: r)
  rw [show ("" : Str) ++ "\n" = "\n" from Str.empty_append _]
theorem join_last {T : List Str} (h : T ≠ []) : Txt.join "\n" T ++ "\n" = Txt.join "\n" (T ++ [("" : Str)]) := by
  rw [txt_join, txt_join, join_snoc _ _ h]
  exact (Str.append_empty _).symm
section
variable {P : Program} {w : World} {K : PySem.W.Frag} {mg : Str → Option Value} {base : Heap} {tv tp tk dl C CS CB CL CP : Addr}
def spWrong (K : PySem.W.Frag) : Sp := fun vs H Q _ => ∃ (b l m : Addr) (rows : List RowD), vs = [.ref b, .ref l, .ref m] ∧ IsBag H b ∧ RowsL K H l rows ∧ H m = some (.lst ((rows.map lineT).map V.str)) ∧ GoodR rows ∧ rows.length ≤ 6 ∧ ∀ H', Bk b H H' → Q (.bl true) H'
abbrev NWr : List Str := ["_law_bag_here", "_law_rows", "_law_lines", "_law_texts", "_law_wrong", "_law_turn", "_law_at", "_law_text", "_law_more", "_law_many"]
abbrev sL_wrong : Stmt := topS 44
theorem scL_wrong : FnScope NWr ["_law_bag_here", "_law_rows", "_law_lines"] (defScope sL_wrong) := ⟨rfl, rfl, rfl, by decide +kernel, rfl, by decide +kernel, by decide +kernel⟩
theorem ok_wrong {f : Addr} {fd : FuncData} (F : Fun K "_law_wrong_texts" "_law_wrong_texts" sL_wrong f fd) (T : Txt K w mg tv tp tk dl C) (C__law_read : CallOk P w K mg base 8 "_law_read" ["_law_text"] (spLRead K C CS)) (C__law_draw : CallOk P w K mg base 1 "_law_draw" ["_law_bag_here", "_law_many"] spDraw)
    (C__law_one : CallOk P w K mg base 2 "_law_one" ["_law_bag_here", "_law_things"] (spOne K)) (C__law_spoilt : CallOk P w K mg base 3 "_law_spoilt" ["_law_bag_here", "_law_row"] (spSpoilt K)) : FnOk P w K mg base CX0 9 f fd ["_law_bag_here", "_law_rows", "_law_lines"] (spWrong K) := by
  refine F.ok scL_wrong (fun vs H Q E h => ?_) (fun cdv A outer s H vs Q E hr h => ?_)
  · obtain ⟨b, l, m, rows, rfl, _⟩ := h
    rfl
  · obtain ⟨b, l, m, rows, rfl, hb, hrows, gm, hg, h6, k⟩ := h
    refine ⟨_, (pss_cons (ps_if (pt_cmpR (op_eqD hr.units) (pv 2) (pe_lst pa_nil) (nomark _))
        (pss_one (ps_ret (pe_and (pe_cmpR (op_eqD hr.units) (pe_cc C__law_read (hr.mono (by decide)) (by rfl) (pa_cons pe_str pa_nil)) (pe_tup (pa_cons pe_bl (pa_cons pe_int pa_nil))) (nomark _)) (pe_one (pe_cmpR (op_eqD hr.units) (pe_cc C__law_read (hr.mono (by decide)) (by rfl) (pa_cons pe_str pa_nil)) (pe_tup (pa_cons pe_bl (pa_cons pe_int pa_nil))) (nomark _))))))
        pss_nil)
      (pss_cons (ps_par (i := 3) (j := 4) (by rfl) scL_wrong.nd rfl rfl (by decide) rfl rfl (pa_cons (pe_callTy call_list_of (by rfl) T.b_list (by decide +kernel) (pa_cons (pv 2) pa_nil)) (pa_cons (pe_lst pa_nil) pa_nil)) (by rfl))
      (pss_cons (ps_for PassesOwn.never rfl (pi_range1 (by rfl) T.b_range (pa_cons (pe_op op_add pe_int (pe_cc C__law_draw (hr.mono (by decide)) (by rfl) (pa_cons (pv 0) (pa_cons pe_int pa_nil)))) pa_nil)) (pg_name (i := 5) scL_wrong.nd rfl (.inl rfl))
        (pss_cons (ps_set (i := 6) scL_wrong.nd rfl (.inl rfl) (pe_cc C__law_draw (hr.mono (by decide)) (by rfl) (pa_cons (pv 0) (pa_cons (pe_callB call_len_seq (by rfl) T.b_len PySem.boot_len (pa_cons (pv 2) pa_nil)) pa_nil))))
        (pss_cons (ps_asg (pe_cc C__law_spoilt (hr.mono (by decide)) (by rfl) (pa_cons (pv 0) (pa_cons (pe_ix (r := rIxL K) ix_list (pv 1) (pv 6) (fun _ _ => rfl)) pa_nil))) (pg_sub (pv 3) (pv 6) set_list))
        (pss_cons (ps_if (PW.pt (pw_and (pt_cmpR op_gt (pe_callB call_len_seq (by rfl) T.b_len PySem.boot_len (pa_cons (pv 2) pa_nil)) pe_int (nomark _)) (pw_and1 (pt_cmpR op_eq (pe_cc C__law_draw (hr.mono (by decide)) (by rfl) (pa_cons (pv 0) (pa_cons pe_int pa_nil))) pe_int (nomark _)))))
          (pss_one (ps_asg pe_str (pg_sub (pv 3) (pv 6) set_list)))
          pss_nil)
        (pss_one (ps_expr (pe_bm PySem.F.plainAttrs_list PySem.F.slot_list_append PySem.F.type_list_append mt_append (pv 4) (pa_cons (pv 6) pa_nil))))))))
      (pss_cons (ps_if (pt_cmpR (op_neD hr.units) (pe_cc C__law_read (hr.mono (by decide)) (by rfl) (pa_cons (pe_bm PySem.F.plainAttrs_str PySem.F.slot_str_join PySem.F.type_str_join mt_join pe_str (pa_cons (pv 3) pa_nil)) pa_nil)) (pe_tup (pa_cons pe_bl (pa_cons (pe_callB (cr_min rfl) (by rfl) T.b_min (by decide +kernel) (pa_cons (pv 4) pa_nil)) pa_nil))) (nomark _))
        (pss_one (ps_ret pe_bl))
        pss_nil)
      (pss_cons (ps_set (i := 7) scL_wrong.nd rfl (.inl rfl) (pe_bm PySem.F.plainAttrs_str PySem.F.slot_str_join PySem.F.type_str_join mt_join pe_str (pa_cons (pv 2) pa_nil)))
      (pss_cons (ps_if (PW.pt (pw_or (pt_cmpR (op_neD hr.units) (pe_cc C__law_read (hr.mono (by decide)) (by rfl) (pa_cons (pe_op op_add_str (pv 7) pe_str) pa_nil)) (pe_tup (pa_cons pe_bl (pa_cons (pe_callB call_len_seq (by rfl) T.b_len PySem.boot_len (pa_cons (pv 2) pa_nil)) pa_nil))) (nomark _)) (pw_or1 (pt_cmpR (op_neD hr.units) (pe_cc C__law_read (hr.mono (by decide)) (by rfl) (pa_cons (pe_op op_add_str pe_str (pv 7)) pa_nil)) (pe_tup (pa_cons pe_bl (pa_cons pe_int pa_nil))) (nomark _)))))
        (pss_one (ps_ret pe_bl))
        pss_nil)
      (pss_cons (ps_set (i := 8) scL_wrong.nd rfl (.inl rfl) (pe_op op_cat (pv 2) (pe_lc (own := [("_law_turn", 5)]) (g := gName 5) (tt := tYes) rfl scL_wrong.nd (pi_range1 (by rfl) T.b_range (pa_cons (pe_op op_add (pe_op op_sub pe_int (pe_callB call_len_seq (by rfl) T.b_len PySem.boot_len (pa_cons (pv 2) pa_nil))) (pe_cc C__law_draw (hr.mono (by decide)) (by rfl) (pa_cons (pv 0) (pa_cons pe_int pa_nil)))) pa_nil)) (blkOk_by (N := NWr) (sc := defScope sL_wrong) (by decide +kernel)) (fun _ _ _ _ _ => (pg_name (i := 5) scL_wrong.nd rfl (.inl rfl))) (fun _ _ _ _ _ => pts_nil) (fun _ _ _ _ _ => (pe_cc C__law_one (hr.mono (by decide)) (by rfl) (pa_cons (pv 0) (pa_cons (pv 2) pa_nil)))))))
      (pss_cons (ps_if (pt_cmpR (op_neD hr.units) (pe_cc C__law_read (hr.mono (by decide)) (by rfl) (pa_cons (pe_bm PySem.F.plainAttrs_str PySem.F.slot_str_join PySem.F.type_str_join mt_join pe_str (pa_cons (pv 8) pa_nil)) pa_nil)) (pe_tup (pa_cons pe_bl (pa_cons pe_int pa_nil))) (nomark _))
        (pss_one (ps_ret pe_bl))
        pss_nil)
      (pss_cons (ps_set (i := 9) scL_wrong.nd rfl (.inl rfl) (pe_slice sl_list (pv 8) po_none (po_some pe_int)))
      (pss_cons (ps_expr (pe_bm PySem.F.plainAttrs_list PySem.F.slot_list_append PySem.F.type_list_append mt_append (pv 9) (pa_cons pe_str pa_nil)))
      (pss_one (ps_ret (pe_cmpR (op_eqD hr.units) (pe_cc C__law_read (hr.mono (by decide)) (by rfl) (pa_cons (pe_bm PySem.F.plainAttrs_str PySem.F.slot_str_join PySem.F.type_str_join mt_join pe_str (pa_cons (pv 9) pa_nil)) pa_nil)) (pe_tup (pa_cons pe_bl (pa_cons pe_int pa_nil))) (nomark _)))))))))))))), ?_⟩
    have hmb : m ≠ b := by
      obtain ⟨g, x, c, e⟩ := hb
      intro q
      rw [q, e] at gm
      cases rows with
      | nil => cases gm
      | cons y ys => cases gm
    have hm0 : ∀ {q : Addr}, H q = none → m ≠ q := fun hq => ne_of_none gm hq
    have hlen : ((rows.map lineT).map V.str).length = rows.length := by rw [List.length_map, List.length_map]
    have hlin := good_lines hg
    -- no lines
    refine ⟨_, rfl, (by show 0 ≤ sizeLine; decide), fun N hN => ?_⟩
    have eN := Ext.upd (o := .lst []) hN
    refine ⟨_, _, .lst (SqL.of (eN _ _ gm)) (dp_strs _), .lst (SqL.of upd_same) (dp_strs []), strs_shaped (fun p hp => free_ok (hlin p hp).2), strs_shaped (fun p hp => nomatch hp), ?_⟩
    rw [e_ll, strs_eqv]
    refine ⟨_, rfl, ?_⟩
    have B1 := (Bk.of hb Ext.rfl').fresh (o := .lst []) hN
    by_cases hz : rows = []
    · subst hz
      rw [dec_yes (show ([] : List RowD).map lineT = ([] : List Str) from rfl)]
      have r1 := reads_bad (rows := []) (bad := "") (rest := [""]) hg (by decide) none_empty.2 (fun l hl => by rw [List.mem_singleton.mp hl]; exact none_empty.2) (by decide) (.inl (by decide)) (.inr none_empty.1)
      have r2 := reads_bad (rows := []) (bad := " ") (rest := []) hg (by decide) none_blank.2 (fun l hl => nomatch hl) (by decide) (.inr (by decide +kernel)) (.inr none_blank.1)
      have j1 : Txt.join "\n" ([].map lineT ++ ("" : Str) :: [""]) = "\n" := by decide +kernel
      have j2 : Txt.join "\n" ([].map lineT ++ (" " : Str) :: []) = " " := by decide +kernel
      rw [j1] at r1
      rw [j2] at r2
      refine iteT ⟨"\n", rfl, r1.2, .inr ⟨0, r1.1, fun p H' hp e hpt => ⟨(by show 2 ≤ sizeLine; decide), fun q hq => pair_eq (Ext.upd hq _ _ hpt) upd_same ⟨_, rfl, iteT ?_⟩⟩⟩⟩
      exact ⟨" ", rfl, r2.2, .inr ⟨0, r2.1, fun p2 H2 hp2 e2 hpt2 => ⟨(by show 2 ≤ sizeLine; decide), fun q2 hq2 => pair_eq (Ext.upd hq2 _ _ hpt2) upd_same (k _ (B1.trans (Bk.of B1.bag (e.trans ((Ext.upd hq).trans (e2.trans (Ext.upd hq2)))))))⟩⟩⟩
    have hne : rows.map lineT ≠ [] := fun q => hz (List.map_eq_nil_iff.mp q)
    have hpos : 0 < rows.length := List.length_pos_iff.mpr hz
    rw [dec_no hne]
    refine iteF ?_
    have gm1 := eN _ _ gm
    generalize upd H N (.lst []) = H1 at B1 gm1 ⊢
    clear eN hN
    refine ⟨_, rfl, m, _, rfl, .inl (SqL.of gm1), fun tx htx => ?_⟩
    have B2 := B1.fresh (o := .lst ((rows.map lineT).map V.str)) htx
    have gt2 : upd H1 tx (.lst ((rows.map lineT).map V.str)) tx = some (.lst ((rows.map lineT).map V.str)) := upd_same
    have htb : tx ≠ b := fresh_ne B1.bag htx
    have htH : H tx = none := B1.free hb htx
    generalize upd H1 tx (.lst ((rows.map lineT).map V.str)) = H2 at B2 gt2 ⊢
    refine ⟨(by show 0 ≤ sizeLine; decide), fun wr hwr => ⟨_, _, rfl, ?_⟩⟩
    have B3 := B2.fresh (o := .lst []) hwr
    have gw3 : upd H2 wr (.lst []) wr = some (.lst []) := upd_same
    have hwb : wr ≠ b := fresh_ne B2.bag hwr
    have hwH : H wr = none := B2.free hb hwr
    have htw : tx ≠ wr := ne_of_none gt2 hwr
    have gt3 : upd H2 wr (.lst []) tx = _ := (upd_ne htw).trans gt2
    generalize upd H2 wr (.lst []) = H3 at B3 gw3 gt3 ⊢
    refine ⟨_, rfl, b, 2, rfl, B3.bag, by decide, by decide, fun d1 H4 d0 d2 B4 => ⟨_, _, rfl, rfl, 1 + d1, rfl, by omega, by omega, ?_⟩⟩
    refine for_range (lo := 0) (n := (1 + d1).toNat) (fun i σ H' => Bk b H H' ∧ ∃ (ts : List Str) (ws : List Nat), H' tx = some (.lst (ts.map V.str)) ∧ H' wr = some (.lst ((ws.map fun n : Nat => (n : Int)).map V.int)) ∧ Mix rows ts ws ∧ ws.length = i ∧ ∃ x5 x6 x7 x8 x9, σ = [some (.ref b), some (.ref l), some (.ref m), some (.ref tx), some (.ref wr), x5, x6, x7, x8, x9])
      ⟨B3.trans B4, rows.map lineT, [], B4.keep _ _ htb gt3, B4.keep _ _ hwb gw3, Mix.start rows, rfl, _, _, _, _, _, rfl⟩ (fun i σ H' hi h => ?_) (fun σ H' h => ?_)
    · obtain ⟨B, ts, ws, gt, gw, hM, hwl, x5, x6, x7, x8, x9, rfl⟩ := h
      refine ⟨_, rfl, _, rfl, m, _, rfl, .inl (SqL.of (B.keep _ _ hmb gm)), b, _, rfl, B.bag, by rw [hlen]; omega, by rw [hlen]; omega, fun a H5 a0 a1 B5 => ?_⟩
      rw [hlen] at a1
      obtain ⟨a, rfl⟩ : ∃ n : Nat, a = (n : Int) := ⟨a.toNat, by omega⟩
      have ha : a < rows.length := by omega
      have B05 := B.trans B5
      obtain ⟨ps, gl5, hR5⟩ := hrows.bk hb B05
      have hpl : ps.length = rows.length := hR5.len
      have hpa : (ps.map V.ref)[a]? = some (.ref (ps[a]'(by omega))) := by rw [List.getElem?_map, List.getElem?_eq_getElem (by omega)]; rfl
      obtain ⟨p, x, ep, _, hx, hrow⟩ := hR5.get hpa
      have gt5 := B5.keep _ _ htb gt
      have gw5 := B5.keep _ _ hwb gw
      refine ⟨_, rfl, _, rfl, _, rfl, l, _, _, _, rfl, rfl, SqL.of gl5, atI_nat (j := a) (hpa.trans (congrArg some ep)), b, p, x, rfl, B05.bag, hrow, hg x (List.mem_of_getElem? hx), fun s H6 hs B6 => ?_⟩
      have hsB : BadL rows.length s := ⟨hs.non, ⟨hs.len, hs.lf⟩, .inl hs.ne⟩
      have gt6 := B6.keep _ _ htb gt5
      have gw6 := B6.keep _ _ hwb gw5
      have hat : a < (ts.map V.str).length := by rw [List.length_map, hM.len]; exact ha
      refine ⟨_, rfl, _, rfl, tx, _, _, a, rfl, rfl, gt6, ixN_at hat, ?_⟩
      rw [← List.map_set]
      have B7 := (B05.trans B6).put (o := .lst ((ts.set a s).map V.str)) htH htb
      have gt7 : upd H6 tx (.lst ((ts.set a s).map V.str)) tx = some (.lst ((ts.set a s).map V.str)) := upd_same
      have gw7 : upd H6 tx (.lst ((ts.set a s).map V.str)) wr = _ := (upd_ne (Ne.symm htw)).trans gw6
      generalize upd H6 tx (.lst ((ts.set a s).map V.str)) = H7 at B7 gt7 gw7 ⊢
      refine join1 (α := { G : Hp // Bk b H G ∧ ∃ s, BadL rows.length s ∧ G tx = some (.lst ((ts.set a s).map V.str)) ∧ G wr = some (.lst ((ws.map fun n : Nat => (n : Int)).map V.int)) }) (G := ?G) (fun rest => ?br) (fun y => ?fin)
      case br =>
        refine ⟨_, rfl, m, _, rfl, .inl (SqL.of (B7.keep _ _ hmb gm)), _, _, rfl, rfl, _, rfl, ?_⟩
        rw [hlen]
        by_cases h2 : (1 : Int) < (rows.length : Int)
        · rw [decide_eq_true h2]
          refine iteT ⟨_, rfl, b, 4, rfl, B7.bag, by decide, by decide, fun d8 H8 e0 e1 B8 => ⟨rfl, _, rfl, ite2 (fun _ => ?tt) (fun _ => ?ff)⟩⟩
          case ff =>
            obtain ⟨y, e⟩ : ∃ y : { G : Hp // Bk b H G ∧ ∃ s, BadL rows.length s ∧ G tx = some (.lst ((ts.set a s).map V.str)) ∧ G wr = some (.lst ((ws.map fun n : Nat => (n : Int)).map V.int)) }, H8 = y.1 := ⟨⟨H8, B7.trans B8, s, hsB, B8.keep _ _ htb gt7, B8.keep _ _ hwb gw7⟩, rfl⟩
            rw [e]
            exact rest y
          case tt =>
            have gt8 := B8.keep _ _ htb gt7
            refine ⟨_, rfl, _, rfl, tx, _, _, a, rfl, rfl, gt8, ixN_at (by rw [List.length_map, List.length_set, hM.len]; exact ha), ?_⟩
            rw [← List.map_set, List.set_set]
            have z := rest ⟨upd H8 tx (.lst ((ts.set a "").map V.str)), (B7.trans B8).put htH htb, "", ⟨none_empty.1, none_empty.2, .inr (by omega)⟩, upd_same, (upd_ne (Ne.symm htw)).trans (B8.keep _ _ hwb gw7)⟩
            exact z
        · rw [decide_eq_false h2]
          refine iteF ?_
          have z := rest ⟨H7, B7, s, hsB, gt7, gw7⟩
          exact z
      case fin =>
        obtain ⟨G, BG, s', hs', gtG, gwG⟩ := y
        refine ⟨_, rfl, .inl ⟨rfl, _, SqL.of gwG⟩, _, rfl, wr, _, _, rfl, rfl, gwG, ?_, ?_⟩
        · rw [List.length_map, List.length_map, hwl]
          exact Nat.lt_of_lt_of_le (by omega : i < 1000) (by decide)
        · refine ⟨BG.put hwH hwb, ts.set a s', ws ++ [a], (upd_ne htw).trans gtG, ?_, hM.step ha hs', by rw [List.length_append, hwl]; rfl, _, _, _, _, _, rfl⟩
          rw [upd_same, List.map_append, List.map_append]
          rfl
    obtain ⟨B, ts, ws, gt, gw, hM, hwl, x5, x6, x7, x8, x9, rfl⟩ := h
    clear gt3 gw3 B3 gt2 B2 B4 gm1 B1
    have hws : ws ≠ [] := fun q => by rw [q] at hwl; have : (1 + d1).toNat = 0 := hwl.symm; omega
    obtain ⟨mn, hmn, hle⟩ := min_of hws
    obtain ⟨rd, rl⟩ := hM.reads hg h6 hmn hle
    refine ⟨rfl, _, rfl, "\n", tx, ts, rfl, rfl, .inl (SqL.of gt), nl_room (hM.lines hg) (by rw [hM.len]; omega), _, rfl, rl, .inr ⟨mn, rd, fun p H5 hp e5 hpt => ?_⟩⟩
    refine ⟨_, rfl, wr, _, rfl, SqL.of (e5 _ _ gw), by rw [List.length_map]; exact List.length_pos_iff.mpr hws, fun mm h1 h2 => ?_⟩
    have emm : mm = (mn : Int) := by
      obtain ⟨z, hz1, rfl⟩ := List.mem_map.mp h1
      have q1 := hle z hz1
      have q2 := h2 (mn : Int) (List.mem_map_of_mem hmn)
      omega
    subst emm
    refine ⟨(by show 2 ≤ sizeLine; decide), fun q hq => pair_ne (Ext.upd hq _ _ hpt) upd_same ⟨_, rfl, iteF ?_⟩⟩
    have B6 := B.trans (Bk.of B.bag (e5.trans (Ext.upd (o := .tup [.bl false, .int mn]) hq)))
    generalize upd H5 q (.tup [.bl false, .int mn]) = H6 at B6 ⊢
    clear gt gw B
    have gm6 := B6.keep _ _ hmb gm
    -- one line too many, before and behind
    obtain ⟨ok1, ok2⟩ := reads_ok hg h6
    have hzz : 100000 ≤ sizeLine := by decide
    refine ⟨rfl, _, rfl, "\n", m, rows.map lineT, rfl, rfl, .inl (SqL.of gm6), nl_room hlin (by rw [List.length_map]; omega), ?_⟩
    have hnl : Str.length "\n" = 1 := rfl
    have r1 := reads_bad (rows := rows) (bad := "") (rest := []) hg h6 none_empty.2 (fun l hl => nomatch hl) (by decide) (.inl (by omega)) (.inr none_empty.1)
    rw [← join_last hne] at r1
    have r2 := reads_bad (rows := []) (bad := "") (rest := rows.map lineT) (fun x hx => nomatch hx) (by decide) none_empty.2 hlin (by rw [List.length_map]; omega) (.inl (by rw [List.length_map]; show 1 ≤ 0 + rows.length; omega)) (.inr none_empty.1)
    rw [show ([] : List RowD).map lineT ++ ("" : Str) :: rows.map lineT = ("" : Str) :: rows.map lineT from rfl, ← join_head hne] at r2
    refine ⟨_, rfl, _, _, rfl, rfl, by omega, _, rfl, r1.2, .inr ⟨rows.length, r1.1, fun p1 H7 hp1 e7 hpt1 => ?_⟩⟩
    refine ⟨_, rfl, m, _, rfl, .inl (SqL.of (e7 _ _ gm6)), (by show 2 ≤ sizeLine; decide), fun q1 hq1 => ?_⟩
    rw [hlen]
    refine pair_ne (Ext.upd hq1 _ _ hpt1) upd_same ⟨_, rfl, iteF ?_⟩
    refine ⟨_, rfl, _, _, rfl, rfl, by omega, _, rfl, r2.2, .inr ⟨0, r2.1, fun p2 H8 hp2 e8 hpt2 => ?_⟩⟩
    refine ⟨(by show 2 ≤ sizeLine; decide), fun q2 hq2 => pair_ne (Ext.upd hq2 _ _ hpt2) upd_same ⟨_, rfl, iteF ?_⟩⟩
    have B9 := B6.trans (Bk.of B6.bag (e7.trans ((Ext.upd (o := .tup [.bl false, .int rows.length]) hq1).trans (e8.trans (Ext.upd (o := .tup [.bl false, .int 0]) hq2)))))
    change tSeq _ _ _ _ (upd H8 q2 (.tup [.bl false, .int 0]))
    generalize upd H8 q2 (.tup [.bl false, .int 0]) = H9 at B9 ⊢
    have gm9 := B9.keep _ _ hmb gm
    refine ⟨_, rfl, _, rfl, m, _, rfl, .inl (SqL.of gm9), _, _, rfl, rfl, _, rfl, b, 3, rfl, B9.bag, by decide, by decide, fun d3 HA e0 e1 BA => ⟨_, _, rfl, rfl, _, rfl, by rw [hlen]; omega, by rw [hlen]; omega, fun D hD => ?_⟩⟩
    have B10 := B9.trans BA
    have gmA := BA.keep _ _ hmb gm9
    have hDb : D ≠ b := fresh_ne BA.bag hD
    have hmD : m ≠ D := ne_of_none gmA hD
    rw [hlen]
    refine lc_range (lo := 0) (n := (7 - (rows.length : Int) + d3).toNat) (fun i H' => ∃ js : List RowD, H' D = some (.lst ((js.map lineT).map V.str)) ∧ js.length = i ∧ (∀ x ∈ js, x ∈ rows) ∧ Bk b HA H')
      ⟨[], upd_same, rfl, (fun x hx => nomatch hx), (Bk.of BA.bag Ext.rfl').put hD hDb⟩ (fun i H' hi h => ?_) (fun H' h => ?_)
    · obtain ⟨js, j1, j2, j3, BB⟩ := h
      refine ⟨rfl, _, rfl, _, rfl, b, m, _, rfl, BB.bag, Ne.symm hmb, (fun q => hne (List.map_eq_nil_iff.mp q)), by rw [hlen]; omega, .inl (SqL.of (BB.keep _ _ hmb gmA)), fun v H5 hv B5 => ?_⟩
      obtain ⟨q, hq, rfl⟩ := strs_pick hv
      obtain ⟨x, hx, rfl⟩ := List.mem_map.mp hq
      refine ⟨_, B5.keep _ _ hDb j1, ?_, js ++ [x], ?_, ?_, fun z hz => ?_, (BB.trans B5).put hD hDb⟩
      · rw [List.length_map, List.length_map, j2]
        exact Nat.lt_of_lt_of_le (by omega : i < 1000) (by decide)
      · rw [upd_same, List.map_append, List.map_append]
        rfl
      · rw [List.length_append, j2]
        rfl
      · rcases List.mem_append.mp hz with hz | hz
        · exact j3 z hz
        · rw [List.mem_singleton.mp hz]
          exact hx
    obtain ⟨js, j1, j2, j3, BB⟩ := h
    have hgm : GoodR (rows ++ js) := fun x hx => by
      rcases List.mem_append.mp hx with q | q
      · exact hg x q
      · exact hg x (j3 x q)
    have hml : (rows ++ js).length = rows.length + js.length := List.length_append
    refine ⟨m, D, _, _, rfl, rfl, BB.keep _ _ hmb gmA, j1, by rw [hlen, List.length_map, List.length_map]; omega, fun M hM => ?_⟩
    have eM : (rows.map lineT).map V.str ++ (js.map lineT).map V.str = ((rows ++ js).map lineT).map V.str := by rw [List.map_append, List.map_append]
    rw [eM]
    have B11 := (B10.trans BB).fresh (o := .lst (((rows ++ js).map lineT).map V.str)) hM
    have gM : upd H' M (.lst (((rows ++ js).map lineT).map V.str)) M = some (.lst (((rows ++ js).map lineT).map V.str)) := upd_same
    generalize upd H' M (.lst (((rows ++ js).map lineT).map V.str)) = HM at B11 gM ⊢
    generalize rows ++ js = all at hgm hml gM ⊢
    have hal : 7 ≤ all.length ∧ all.length ≤ 9 := by omega
    obtain ⟨y6, hy6⟩ : ∃ y, all[6]? = some y := ⟨_, List.getElem?_eq_getElem (by omega)⟩
    have eall : all.map lineT = (all.take 6).map lineT ++ lineT y6 :: (all.drop 7).map lineT := by
      have h1 : (all.map lineT)[6]? = some (lineT y6) := by rw [List.getElem?_map, hy6]; rfl
      have h2 := at_split h1
      rw [← List.map_take, ← List.map_drop] at h2
      exact h2
    have hlall := good_lines hgm
    have ht6 : (all.take 6).length = 6 := by rw [List.length_take]; omega
    have hg6 : GoodR (all.take 6) := fun x hx => hgm x (List.mem_of_mem_take hx)
    have r3 := reads_bad (rows := all.take 6) (bad := lineT y6) (rest := (all.drop 7).map lineT) hg6 (by omega) (hlall _ (List.mem_map_of_mem (List.mem_of_getElem? hy6))) (fun l hl => good_lines (fun x hx => hgm x (List.mem_of_mem_drop hx)) l hl) (by rw [List.length_map, List.length_drop]; omega) (.inl (by omega)) (.inl ht6)
    rw [← eall, ht6] at r3
    have r4 := reads_bad (rows := all.take 6) (bad := "") (rest := []) hg6 (by omega) none_empty.2 (fun l hl => nomatch hl) (by decide) (.inl (by omega)) (.inl ht6)
    rw [ht6] at r4
    refine ⟨rfl, _, rfl, "\n", M, all.map lineT, rfl, rfl, .inl (SqL.of gM), nl_room hlall (by rw [List.length_map]; omega), _, rfl, r3.2, .inr ⟨6, r3.1, fun p3 HB hp3 e3 hpt3 => ⟨(by show 2 ≤ sizeLine; decide), fun q3 hq3 => pair_ne (Ext.upd hq3 _ _ hpt3) upd_same ⟨_, rfl, iteF ?_⟩⟩⟩⟩
    have e4 := e3.trans (Ext.upd (o := .tup [.bl false, .int 6]) hq3)
    have gM4 := e4 _ _ gM
    refine ⟨_, rfl, 6, rfl, M, _, rfl, SqL.of gM4, fun Z hZ => ?_⟩
    have cm : cutV ((all.map lineT).map V.str) none (some 6) = ((all.take 6).map lineT).map V.str := by
      rw [show (6 : Int) = ((6 : Nat) : Int) from rfl, cut_take (by rw [List.length_map, List.length_map]; omega), ← List.map_take, ← List.map_take]
    rw [cm]
    have e5 := e4.trans (Ext.upd (o := .lst (((all.take 6).map lineT).map V.str)) hZ)
    refine ⟨_, rfl, .inl ⟨rfl, _, SqL.of upd_same⟩, Z, _, _, rfl, rfl, upd_same, by rw [List.length_map, List.length_map, ht6]; decide, ?_⟩
    have eZ : ((all.take 6).map lineT).map V.str ++ [V.str ""] = ((all.take 6).map lineT ++ ("" : Str) :: []).map V.str := by rw [List.map_append]; rfl
    rw [eZ]
    have hZb : Z ≠ b := fresh_ne (B11.trans (Bk.of B11.bag e4)).bag hZ
    have B12 := (B11.trans (Bk.of B11.bag e5)).put (o := .lst (((all.take 6).map lineT ++ ("" : Str) :: []).map V.str)) ((B11.trans (Bk.of B11.bag e4)).free hb hZ) hZb
    refine ⟨rfl, _, rfl, "\n", Z, (all.take 6).map lineT ++ ("" : Str) :: [], rfl, rfl, .inl (SqL.of upd_same), nl_room (fun l hl => ?_) (by rw [List.length_append, List.length_map, ht6]; decide), _, rfl, r4.2, .inr ⟨6, r4.1, fun p4 HC hp4 e6 hpt4 => ⟨(by show 2 ≤ sizeLine; decide), fun q4 hq4 => pair_eq (Ext.upd hq4 _ _ hpt4) upd_same (k _ (B12.trans (Bk.of B12.bag (e6.trans (Ext.upd hq4)))))⟩⟩⟩
    rcases List.mem_append.mp hl with q | q
    · exact good_lines hg6 l q
    · rw [List.mem_singleton.mp q]
      exact none_empty.2
end
end Pa
set_option maxRecDepth 100000
set_option maxHeartbeats 4000000
namespace Pa
open PySem PySem.Spec PyProof.Rows L2 RZ StX ClX
section
variable {X : Cx}
/-- repr of nested lists and tuples -/
def rRepN (K : PySem.W.Frag) : List V → Hp → VK → Prop := fun xs H Q => ∃ a d, xs = [.ref a] ∧ Dp K H (.ref a) d ∧ d.showable = true ∧ d.hasDict = false ∧ d.depth ≤ 10 ∧ d.shown.length ≤ sizeLine ∧ Q (.str d.shown) H
theorem cr_reprN (hgd : X.A.guards = some []) (hu : X.A.units + 20 < cLine) : CallR X (.builtin "repr") (rRepN X.K) := by
  intro pins s σ H xs us Q I r h
  obtain ⟨a, d, rfl, hd, h1, h2, h3, hz, q⟩ := h
  obtain ⟨u, rfl, ru⟩ := r.one
  cases ru
  obtain ⟨as, rr⟩ := Dp.reads I d (.ref a) (.ref a) hd rfl
  exact repr_of_reads' rr h1 (fun z => by rw [h2] at z; cases z) hgd (by omega) (fun _ _ e => e) (fun h' u tk hk => ⟨.str _, H, I.kept hk, ⟨u, rfl⟩, q⟩) hz
end
theorem shown_map {α : Type} (f : α → PyData) : ∀ l : List α, PyData.shownAll (l.map f) = l.map fun x => (f x).shown
  | [] => PyData.shownAll_nil
  | x :: l => by rw [List.map_cons, PyData.shownAll_cons, shown_map f l, List.map_cons]
theorem showable_map {α : Type} {f : α → PyData} : ∀ {l : List α}, (∀ x ∈ l, (f x).showable = true) → PyData.showableAll (l.map f) = true
  | [], _ => by simp [PyData.showableAll]
  | x :: l, h => by
    rw [List.map_cons]
    simp only [PyData.showableAll]
    rw [h x List.mem_cons_self, showable_map fun y hy => h y (List.mem_cons_of_mem _ hy)]
    rfl
theorem nodict_map {α : Type} {f : α → PyData} : ∀ {l : List α}, (∀ x ∈ l, (f x).hasDict = false) → PyData.hasDictAll (l.map f) = false
  | [], _ => by simp [PyData.hasDictAll]
  | x :: l, h => by
    rw [List.map_cons]
    simp only [PyData.hasDictAll]
    rw [h x List.mem_cons_self, nodict_map fun y hy => h y (List.mem_cons_of_mem _ hy)]
    rfl
theorem joined_len {sep : Str} {B N : Nat} {ps : List Str} (h : ∀ p ∈ ps, p.length ≤ B) (hN : ps.length ≤ N) : (Str.join sep ps).length ≤ N * (B + sep.length) := by
  refine Nat.le_trans (StrLaws.join_length_le _ ps) ?_
  have h1 := StrLaws.sumLen_le ps h
  have h2 : ps.length * B ≤ N * B := Nat.mul_le_mul_right _ hN
  have h3 : ps.length * sep.length ≤ N * sep.length := Nat.mul_le_mul_right _ hN
  rw [Nat.mul_add]
  omega
theorem pair_text : ∀ t ∈ toldP, (pairD t).shown.length ≤ 40 ∧ (pairD t).showable = true ∧ (pairD t).hasDict = false := by decide +kernel
theorem set_text {x : RowD} (g : Good x.1 x.2.1 x.2.2) : (setD x).shown.length ≤ 300 ∧ (setD x).showable = true ∧ (setD x).hasDict = false := by
  have hp : ∀ y ∈ x.2.2, (pairD y).shown.length ≤ 40 ∧ (pairD y).showable = true ∧ (pairD y).hasDict = false := fun y hy => pair_text y (told_mem (g.ok y hy))
  unfold setD
  refine ⟨?_, ?_, ?_⟩
  · rw [PyData.shown_tuple, shown_map]
    have h1 := joined_len (sep := ", ") (B := 40) (N := 6) (ps := x.2.2.map fun y => (pairD y).shown) (fun p hp' => by
      obtain ⟨y, hy, rfl⟩ := List.mem_map.mp hp'
      exact (hp y hy).1) (by rw [List.length_map]; exact g.sub.len)
    have h2 : Str.length ", " = 2 := rfl
    have h3 : Str.length "(" = 1 ∧ Str.length ",)" = 2 ∧ Str.length ")" = 1 := ⟨rfl, rfl, rfl⟩
    rw [h2] at h1
    rw [Str.length_append, Str.length_append]
    split <;> omega
  · simp only [PyData.showable]
    exact showable_map fun y hy => (hp y hy).2.1
  · simp only [PyData.hasDict]
    exact nodict_map fun y hy => (hp y hy).2.2
theorem sets_text {rows : List RowD} (hg : GoodR rows) (h6 : rows.length ≤ 6) : (PyData.list (rows.map setD)).shown.length ≤ sizeLine ∧ (PyData.list (rows.map setD)).showable = true ∧ (PyData.list (rows.map setD)).hasDict = false ∧ (PyData.list (rows.map setD)).depth ≤ 10 := by
  refine ⟨?_, ?_, ?_, ?_⟩
  · rw [PyData.shown_list, shown_map]
    have h1 := joined_len (sep := ", ") (B := 300) (N := 6) (ps := rows.map fun y => (setD y).shown) (fun p hp' => by
      obtain ⟨y, hy, rfl⟩ := List.mem_map.mp hp'
      exact (set_text (hg y hy)).1) (by rw [List.length_map]; exact h6)
    have h2 : Str.length ", " = 2 := rfl
    have h3 : Str.length "[" = 1 ∧ Str.length "]" = 1 := ⟨rfl, rfl⟩
    have hz : 10000 ≤ sizeLine := by decide
    rw [h2] at h1
    rw [Str.length_append, Str.length_append]
    omega
  · simp only [PyData.showable]
    exact showable_map fun y hy => (set_text (hg y hy)).2.1
  · simp only [PyData.hasDict]
    exact nodict_map fun y hy => (set_text (hg y hy)).2.2
  · rw [PyData.depth]
    have := dep_all (n := 3) fun y hy => (setD_lay (hg y hy)).2
    omega
end Pa
set_option maxRecDepth 100000
set_option maxHeartbeats 4000000
namespace Pa
open PySem PySem.Spec PyProof.Rows L2 RZ StX ClX
/-! ### a list of plain values, one of each item -/
theorem vals_tup {K : PySem.W.Frag} {t : Addr} {xs ys : List V} {σ : L2.St} {H : Hp} {ti : TI} {j : Nat} {te : TE} {Q : VK} (ht : SqT K H t xs) (hy : ys.length = xs.length) (hl : xs.length ≤ 10) (hti : ∀ W : It → Hp → Prop, W (Itt K t) H → ti σ H W) (hw : ∀ v, wipe ((wipe σ [j]).set j (some v)) [j] = wipe σ [j])
    (hte : ∀ (i : Nat) (v : V) (H' : Hp), xs[i]? = some v → Ext H H' → ∃ y, ys[i]? = some y ∧ ∀ R : VK, (∀ H2, Ext H' H2 → R y H2) → te ((wipe σ [j]).set j (some v)) H' R)
    (k : ∀ (D : Addr) H', H D = none → Ext H H' → H' D = some (.lst ys) → Q (.ref D) H') : tLc ti (gName j) tYes te [j] σ H Q := by
  refine hti _ fun D hD => ?_
  refine lc_tup (xs := xs) (fun i H' => (∀ q u, q ≠ D → H q = some u → H' q = some u) ∧ H' D = some (.lst (ys.take i))) ⟨fun q u hq e => by rw [upd_ne hq]; exact e, upd_same⟩ (fun i H' _ h => ht.ext fun q u e => h.1 q u (ne_of_none e hD) e) (fun i v H' hv h => ?_) (fun H' h => ?_)
  · obtain ⟨k1, k2⟩ := h
    have ex : Ext H H' := fun q u e => k1 q u (ne_of_none e hD) e
    have hi := (List.getElem?_eq_some_iff.mp hv).1
    obtain ⟨y, hy', hR⟩ := hte i v H' hv ex
    refine ⟨hw v, hR _ fun H2 e2 => ⟨_, e2 _ _ k2, ?_, fun q u hq e => ?_, ?_⟩⟩
    · rw [List.length_take]
      exact Nat.lt_of_le_of_lt (Nat.min_le_left _ _) (Nat.lt_of_lt_of_le (by omega : i < 1000) (by decide))
    · rw [upd_ne hq]
      exact e2 _ _ (k1 q u hq e)
    · rw [upd_same, List.take_add_one, hy']
      rfl
  · obtain ⟨k1, k2⟩ := h
    rw [← hy, List.take_length] at k2
    exact k D H' hD (fun q u e => k1 q u (ne_of_none e hD) e) k2
theorem vals_list {K : PySem.W.Frag} {t : Addr} {xs ys : List V} {σ : L2.St} {H : Hp} {ti : TI} {j : Nat} {te : TE} {Q : VK} (ht : SqL K H t xs) (hy : ys.length = xs.length) (hl : xs.length ≤ 10) (hti : ∀ W : It → Hp → Prop, W (Itl K t) H → ti σ H W) (hw : ∀ v, wipe ((wipe σ [j]).set j (some v)) [j] = wipe σ [j])
    (hte : ∀ (i : Nat) (v : V) (H' : Hp), xs[i]? = some v → Ext H H' → ∃ y, ys[i]? = some y ∧ ∀ R : VK, (∀ H2, Ext H' H2 → R y H2) → te ((wipe σ [j]).set j (some v)) H' R)
    (k : ∀ (D : Addr) H', H D = none → Ext H H' → H' D = some (.lst ys) → Q (.ref D) H') : tLc ti (gName j) tYes te [j] σ H Q := by
  refine hti _ fun D hD => ?_
  refine lc_list (xs := xs) (fun i H' => (∀ q u, q ≠ D → H q = some u → H' q = some u) ∧ H' D = some (.lst (ys.take i))) ⟨fun q u hq e => by rw [upd_ne hq]; exact e, upd_same⟩ (fun i H' _ h => ht.ext fun q u e => h.1 q u (ne_of_none e hD) e) (fun i v H' hv h => ?_) (fun H' h => ?_)
  · obtain ⟨k1, k2⟩ := h
    have ex : Ext H H' := fun q u e => k1 q u (ne_of_none e hD) e
    have hi := (List.getElem?_eq_some_iff.mp hv).1
    obtain ⟨y, hy', hR⟩ := hte i v H' hv ex
    refine ⟨hw v, hR _ fun H2 e2 => ⟨_, e2 _ _ k2, ?_, fun q u hq e => ?_, ?_⟩⟩
    · rw [List.length_take]
      exact Nat.lt_of_le_of_lt (Nat.min_le_left _ _) (Nat.lt_of_lt_of_le (by omega : i < 1000) (by decide))
    · rw [upd_ne hq]
      exact e2 _ _ (k1 q u hq e)
    · rw [upd_same, List.take_add_one, hy']
      rfl
  · obtain ⟨k1, k2⟩ := h
    rw [← hy, List.take_length] at k2
    exact k D H' hD (fun q u e => k1 q u (ne_of_none e hD) e) k2
theorem ints_sh (ns : List Int) : SeqAt.shaped (.list (ns.map PyData.int)) = true := sh_lst fun x _ => ⟨by rw [PyData.canLay0], by rw [PyData.depth]; exact Nat.zero_le _⟩
theorem ints_ne {K : PySem.W.Frag} {H : Hp} {p q : Addr} {ns : List Int} {Q : VK} (h1 : H p = some (.lst (ns.map V.int))) (h2 : H q = some (.lst (ns.map V.int))) (k : Q (.bl false) H) : rNeD K (.ref p) (.ref q) H Q :=
  ⟨_, _, .lst (SqL.of h1) (dp_ints ns), .lst (SqL.of h2) (dp_ints ns), ints_sh ns, ints_sh ns, by rw [eqv_self (ints_sh ns)]; exact k⟩
theorem strs_ne {K : PySem.W.Frag} {H : Hp} {p q : Addr} {ts : List Str} {Q : VK} (hs : ∀ s ∈ ts, PyData.strOk s = true) (h1 : H p = some (.lst (ts.map V.str))) (h2 : H q = some (.lst (ts.map V.str))) (k : Q (.bl false) H) : rNeD K (.ref p) (.ref q) H Q :=
  ⟨_, _, .lst (SqL.of h1) (dp_strs ts), .lst (SqL.of h2) (dp_strs ts), strs_shaped hs, strs_shaped hs, by rw [eqv_self (strs_shaped hs)]; exact k⟩
/-- join, its frame told outright -/
theorem pe_joinK {X : Cx} {K0 : PySem.W.Frag} {o e : Expr} {to te : TE} {apos pos : Pos} (hK : X.K = K0) (ho : PE X o to) (he : PE X e te) (hs : starEach [e] X.env = [(false, eval e X.env)] := by rfl)
    (hbase : attributeBase o "join" X.env (eval o X.env) = eval o X.env := by rfl) (hline : (apos.endLine == pos.line) = true := by rfl) : PE X (.Call (.Attribute o "join" apos) [e] [] pos)
      (tM1 (fun x xs H Q => ∃ a p, ∃ ys : List Str, x = .str a ∧ xs = [.ref p] ∧ (SqL K0 H p (ys.map V.str) ∨ SqT K0 H p (ys.map V.str)) ∧ (ys.map (·.length)).sum + ys.length * a.length ≤ 16777216 ∧ Q (.str (Txt.join a ys)) H) to te) := by
  subst hK
  exact pe_join ho he hs hbase hline
theorem test_in {r : R2} {ta tb : TE} {σ : L2.St} {H : Hp} {Q : Bool → Hp → Prop} (h : ta σ H fun x H1 => tb σ H1 fun y H2 => r x y H2 fun v H3 => ∃ c, v = .bl c ∧ Q c H3) : tTest (tOp r ta tb) σ H Q := h
theorem step_rep {K : PySem.W.Frag} {oa ob : TE} {p q u : TS} {D : Ends} {σ : L2.St} {H : Hp} (h : oa σ H fun x H1 => rRepN K [x] H1 fun a H2 => ob σ H2 fun y H3 => rRepN K [y] H3 fun b H4 => rNe a b H4 fun v H5 => ∃ c, v = .bl c ∧ if c = true then p { D with nx := u D } σ H5 else q { D with nx := u D } σ H5) :
    tSeq (tIfS (tTest (tOp rNe (tCB (rRepN K) (tCons oa tNil)) (tCB (rRepN K) (tCons ob tNil)))) p q) u D σ H := h
theorem step_if2 {r : R2} {ta tb : TE} {p q u : TS} {D : Ends} {σ : L2.St} {H : Hp} (h : ta σ H fun x H1 => tb σ H1 fun y H2 => r x y H2 fun v H3 => ∃ c, v = .bl c ∧ if c = true then p { D with nx := u D } σ H3 else q { D with nx := u D } σ H3) : tSeq (tIfS (tTest (tOp r ta tb)) p q) u D σ H := h
end Pa
set_option maxRecDepth 100000
set_option maxHeartbeats 4000000
namespace Pa
open PySem PySem.Spec PyProof.Rows L2 RZ StX ClX
section
variable {P : Program} {w : World} {K : PySem.W.Frag} {mg : Str → Option Value} {base : Heap} {tv tp tk dl C CS CB CL CP : Addr}
def spLaw (K : PySem.W.Frag) : Sp := fun vs H Q _ => ∃ (a : Addr) (ns : List Int), vs = [.ref a] ∧ SqL K H a (ns.map V.int) ∧ ns.length ≤ 63 ∧ ∀ H', Q (.bl true) H'
abbrev slaw : Stmt := topS 45
abbrev NLw : List Str := ["_law_script", "_law_at", "_law_bag_here", "_law_rows", "_law_lines", "_law_row", "_law_sheet_here", "_law_told", "_law_rule", "_law_made", "_law_back", "_law_turn"]
theorem sclaw : FnScope NLw ["_law_script"] (defScope slaw) := ⟨rfl, rfl, rfl, by decide +kernel, rfl, by decide +kernel, by decide +kernel⟩
set_option maxHeartbeats 8000000 in
theorem ok_law {f : Addr} {fd : FuncData} (F : Fun K "law" "law" slaw f fd) (T : Txt K w mg tv tp tk dl C) (R : TxR K C) (S : TxS K mg CS CB) (bs : mg "str" = none) (ES : EqS P w K mg base C CS) {fI : Addr} {fdI : FuncData} (IS : IterS P w K mg base CS fI fdI)
    (C__law_few : CallOk P w K mg base 1 "_law_few" ["_law_script", "_law_many"] (spFew K)) (C__law_bag : CallOk P w K mg base 1 "_law_bag" ["_law_script", "_law_at"] (spBag K))
    (C__law_rule_rows : CallOk P w K mg base 4 "_law_rule_rows" ["_law_bag_here", "_law_kinds", "_law_many", "_law_widest"] (spRows K)) (C__law_sheet : CallOk P w K mg base 8 "_law_sheet" ["_law_rows"] (spSheetL K C CS))
    (C__law_tokens : CallOk P w K mg base 1 "_law_tokens" ["_law_row"] (spTok K)) (C_write_sheet : CallOk P w K mg base 3 "write_sheet" ["sheet"] (spWS K C CS)) (C_write_rule : CallOk P w K mg base 2 "write_rule" ["rule"] (spWR K C))
    (C__law_read : CallOk P w K mg base 8 "_law_read" ["_law_text"] (spLRead K C CS)) (C__law_wrong_texts : CallOk P w K mg base 9 "_law_wrong_texts" ["_law_bag_here", "_law_rows", "_law_lines"] (spWrong K)) : FnG P w K mg base 10 f fd ["_law_script"] (spLaw K) := by
  refine Pa.Fun.okG F sclaw (fun vs H Q E h => ?_) (fun cdv A outer s H vs Q E hr hgd h => ?_)
  · obtain ⟨a, ns, rfl, _⟩ := h
    rfl
  · obtain ⟨a, ns, rfl, hS0, hns, kq⟩ := h
    have hu2 : (A.deeper (envOfC "law" (defScope slaw) s.heap.objs.size f cdv)).units + 20 < cLine := Nat.lt_of_le_of_lt (Nat.add_le_add_left (by decide) _) hr.units
    refine ⟨_, (pss_cons (ps_for PassesOwn.never rfl (pi_range1 (by rfl) T.b_range (pa_cons (pe_cc C__law_few (hr.mono (by decide)) (by rfl) (pa_cons (pv 0) (pa_cons pe_int pa_nil))) pa_nil)) (pg_name (i := 1) sclaw.nd rfl (.inl rfl))
        (pss_cons (ps_set (i := 2) sclaw.nd rfl (.inl rfl) (pe_cc C__law_bag (hr.mono (by decide)) (by rfl) (pa_cons (pv 0) (pa_cons (pv 1) pa_nil))))
        (pss_cons (ps_set (i := 3) sclaw.nd rfl (.inl rfl) (pe_cc C__law_rule_rows (hr.mono (by decide)) (by rfl) (pa_cons (pv 2) (pa_cons pe_str (pa_cons pe_int (pa_cons pe_int pa_nil))))))
        (pss_cons (ps_setLc (i := 4) (own := [("_law_row", 5)]) (g := gName 5) (tt := tYes) rfl sclaw.nd rfl rfl (sw_true rfl rfl rfl (by decide +kernel)) (pi_list (pv 3)) (blkOk_by (N := NLw) (sc := defScope slaw) (by decide +kernel)) (fun _ _ _ _ _ => (pg_name (i := 5) sclaw.nd rfl (.inl rfl))) (fun _ _ _ _ _ => pts_nil) (fun _ _ _ _ _ => (pe_joinK (K0 := K) rfl pe_str (pe_cc C__law_tokens (hr.mono (by decide)) (by rfl) (pa_cons (pv 5) pa_nil)))))
        (pss_cons (ps_set (i := 6) sclaw.nd rfl (.inl rfl) (pe_cc C__law_sheet (hr.mono (by decide)) (by rfl) (pa_cons (pv 3) pa_nil)))
        (pss_cons (ps_set (i := 7) sclaw.nd rfl (.inl rfl) (pe_cc C_write_sheet (hr.mono (by decide)) (by rfl) (pa_cons (pv 6) pa_nil)))
        (pss_cons (ps_if (PW.pt (pw_or (pt_not (pt_val (pe_callB call_isi (by rfl) T.b_isinstance (by decide +kernel) (pa_cons (pv 7) (pa_cons (pe_bltn (v := .ty "str") (by rfl) bs (by decide +kernel) rfl) pa_nil))))) (pw_or1 (pt_cmpR op_ne (pv 7) (pe_join pe_str (pv 4)) (nomark _)))))
          (pss_one (ps_ret pe_bl))
          pss_nil)
        (pss_cons (ps_if (pt_cmpR (op_neD hr.units) (pe_lc (own := [("_law_rule", 8)]) (g := gName 8) (tt := tYes) rfl sclaw.nd (pi_own IS.fn IS.bi IS.it (hr.mono (by decide)) (pv 6)) (blkOk_by (N := NLw) (sc := defScope slaw) (by decide +kernel)) (fun _ _ _ _ _ => (pg_name (i := 8) sclaw.nd rfl (.inl rfl))) (fun _ _ _ _ _ => pts_nil) (fun _ _ _ _ _ => (pe_cc C_write_rule (hr.mono (by decide)) (by rfl) (pa_cons (pv 8) pa_nil)))) (pv 4) (nomark _))
          (pss_one (ps_ret pe_bl))
          pss_nil)
        (pss_cons (ps_asg (pe_cc C__law_read (hr.mono (by decide)) (by rfl) (pa_cons (pv 7) pa_nil)) (pg_tup rfl (pgs_cons (pg_name (i := 9) sclaw.nd rfl (.inl rfl)) (pgs_cons (pg_name (i := 10) sclaw.nd rfl (.inl rfl)) pgs_nil))))
        (pss_cons (ps_if (PW.pt (pw_or (pt_not (pt_truth (pv 9) (by intro _; rfl))) (pw_or (pt_cmpR (op_neS ES (hr.mono (by decide))) (pv 10) (pv 6) (nomark _)) (pw_or1 (pt_cmpR (op_neD hr.units) (pe_lc (own := [("_law_rule", 8)]) (g := gName 8) (tt := tYes) rfl sclaw.nd (pi_own IS.fn IS.bi IS.it (hr.mono (by decide)) (pv 10)) (blkOk_by (N := NLw) (sc := defScope slaw) (by decide +kernel)) (fun _ _ _ _ _ => (pg_name (i := 8) sclaw.nd rfl (.inl rfl))) (fun _ _ _ _ _ => pts_nil) (fun _ _ _ _ _ => (pe_fldK (K0 := K) rfl (pv 8)))) (pe_lc (own := [("_law_row", 5)]) (g := gName 5) (tt := tYes) rfl sclaw.nd (pi_list (pv 3)) (blkOk_by (N := NLw) (sc := defScope slaw) (by decide +kernel)) (fun _ _ _ _ _ => (pg_name (i := 5) sclaw.nd rfl (.inl rfl))) (fun _ _ _ _ _ => pts_nil) (fun _ _ _ _ _ => (pe_ix (r := rIxT K) ix_tup (pv 5) pe_int (fun _ _ => rfl)))) (nomark _))))))
          (pss_one (ps_ret pe_bl))
          pss_nil)
        (pss_cons (ps_if (pt_cmpR (op_neD hr.units) (pe_lc (own := [("_law_rule", 8)]) (g := gName 8) (tt := tYes) rfl sclaw.nd (pi_tup (pe_fldK (K0 := K) rfl (pv 10))) (blkOk_by (N := NLw) (sc := defScope slaw) (by decide +kernel)) (fun _ _ _ _ _ => (pg_name (i := 8) sclaw.nd rfl (.inl rfl))) (fun _ _ _ _ _ => pts_nil) (fun _ _ _ _ _ => (pe_fldK (K0 := K) rfl (pv 8)))) (pe_lc (own := [("_law_row", 5)]) (g := gName 5) (tt := tYes) rfl sclaw.nd (pi_list (pv 3)) (blkOk_by (N := NLw) (sc := defScope slaw) (by decide +kernel)) (fun _ _ _ _ _ => (pg_name (i := 5) sclaw.nd rfl (.inl rfl))) (fun _ _ _ _ _ => pts_nil) (fun _ _ _ _ _ => (pe_ix (r := rIxT K) ix_tup (pv 5) pe_int (fun _ _ => rfl)))) (nomark _))
          (pss_one (ps_ret pe_bl))
          pss_nil)
        (pss_cons (ps_if (pt_cmpR op_ne (pe_callB (cr_reprN hgd hu2) (by rfl) T.b_repr (by decide +kernel) (pa_cons (pe_lc (own := [("_law_rule", 8)]) (g := gName 8) (tt := tYes) rfl sclaw.nd (pi_own IS.fn IS.bi IS.it (hr.mono (by decide)) (pv 10)) (blkOk_by (N := NLw) (sc := defScope slaw) (by decide +kernel)) (fun _ _ _ _ _ => (pg_name (i := 8) sclaw.nd rfl (.inl rfl))) (fun _ _ _ _ _ => pts_nil) (fun _ _ _ _ _ => (pe_fldK (K0 := K) rfl (pv 8)))) pa_nil)) (pe_callB (cr_reprN hgd hu2) (by rfl) T.b_repr (by decide +kernel) (pa_cons (pe_lc (own := [("_law_row", 5)]) (g := gName 5) (tt := tYes) rfl sclaw.nd (pi_list (pv 3)) (blkOk_by (N := NLw) (sc := defScope slaw) (by decide +kernel)) (fun _ _ _ _ _ => (pg_name (i := 5) sclaw.nd rfl (.inl rfl))) (fun _ _ _ _ _ => pts_nil) (fun _ _ _ _ _ => (pe_ix (r := rIxT K) ix_tup (pv 5) pe_int (fun _ _ => rfl)))) pa_nil)) (nomark _))
          (pss_one (ps_ret pe_bl))
          pss_nil)
        (pss_one (ps_for PassesOwn.never rfl (pi_range1 (by rfl) T.b_range (pa_cons pe_int pa_nil)) (pg_name (i := 11) sclaw.nd rfl (.inl rfl))
          (pss_one (ps_if (PW.pt (pw_or (pt_not (pt_val (pe_cc C__law_wrong_texts hr (by rfl) (pa_cons (pv 2) (pa_cons (pv 3) (pa_cons (pv 4) pa_nil)))))) (pw_or1 (pt_not (pt_truth (pe_ix (r := rIxT K) ix_tup (pe_cc C__law_read (hr.mono (by decide)) (by rfl) (pa_cons (pe_join pe_str (pv 4)) pa_nil)) pe_int (fun _ _ => rfl)) (by intro _; rfl))))))
            (pss_one (ps_ret pe_bl))
            pss_nil))))))))))))))))
      (pss_one (ps_ret pe_bl))), ?_⟩
    refine ⟨_, rfl, a, 3, ns, rfl, hS0, by decide, by decide, fun jf H1 j0 j3 e01 => ⟨jf, rfl, by omega, by omega, ?_⟩⟩
    refine for_range (lo := 0) (n := jf.toNat) (fun i σ H' => Ext H1 H' ∧ ∃ x1 x2 x3 x4 x5 x6 x7 x8 x9 x10 x11, σ = [some (.ref a), x1, x2, x3, x4, x5, x6, x7, x8, x9, x10, x11])
      ⟨Ext.rfl', _, _, _, _, _, _, _, _, _, _, _, rfl⟩ (fun i σ H' hi h => ?_) (fun σ H' h => kq _)
    obtain ⟨ex, x1, x2, x3, x4, x5, x6, x7, x8, x9, x10, x11, rfl⟩ := h
    have hS' := SqL.ext hS0 (e01.trans ex)
    refine ⟨_, rfl, _, rfl, a, 0 + (i : Int), ns, rfl, hS', by omega, by omega, fun b H2 hbn hb hkeep => ?_⟩
    have e2 : Ext H' H2 := fun q u e => hkeep q u (ne_of_none e hbn) e
    refine ⟨_, rfl, b, rfl, hb, fun l rows H3 B3 hrows hg h6 => ?_⟩
    obtain ⟨ps, hl, hR⟩ := id hrows
    have hlen := hR.len
    have hlin := good_lines hg
    -- the lines
    refine ⟨_, rfl, l, rfl, ⟨_, SqL.of hl⟩, fun D hD => ?_⟩
    have hDb : D ≠ b := fresh_ne B3.bag hD
    have hDl : l ≠ D := ne_of_none hl hD
    refine lc_list (xs := ps.map V.ref) (fun i H' => (∀ q u, q ≠ D → H3 q = some u → H' q = some u) ∧ H' D = some (.lst (((rows.take i).map lineT).map V.str))) ⟨fun q u hq e => by rw [upd_ne hq]; exact e, upd_same⟩ (fun i H' _ h => SqL.of (h.1 _ _ hDl hl)) (fun i v H' hv h => ?_) (fun H4 h => ?_)
    · obtain ⟨k1, k2⟩ := h
      have ex : Ext H3 H' := fun q u e => k1 q u (ne_of_none e hD) e
      obtain ⟨p, x, rfl, _, hx, hrow⟩ := hR.get hv
      have hG := hg x (List.mem_of_getElem? hx)
      have hi : i < rows.length := (List.getElem?_eq_some_iff.mp hx).1
      refine ⟨rfl, ⟨_, rfl⟩, _, rfl, p, x, rfl, hrow.ext ex, hG, fun G H5 hG0 e5 gG => ⟨" ", G, tokens x, rfl, rfl, .inl (SqL.of gG), join_room (line_free hG).2 (by decide), _, e5 _ _ k2, ?_, fun q u hq e => ?_, ?_⟩⟩
      · rw [List.length_map, List.length_map, List.length_take]
        exact Nat.lt_of_le_of_lt (Nat.min_le_left _ _) (Nat.lt_of_lt_of_le (by omega : i < 1000) (by decide))
      · rw [upd_ne hq]
        exact e5 _ _ (k1 q u hq e)
      · rw [upd_same, List.take_add_one, hx, List.map_append, List.map_append]
        rfl
    obtain ⟨k1, k2⟩ := h
    rw [List.length_map, hlen, List.take_length] at k2
    have e34 : Ext H3 H4 := fun q u e => k1 q u (ne_of_none e hD) e
    have B4 := B3.trans (Bk.of B3.bag e34)
    have hrows4 := hrows.ext e34
    have hDH : H2 D = none := B3.free hb hD
    clear k1 hl hR e34
    -- the sheet and its text
    refine ⟨_, rfl, l, rows, rfl, hrows4.sq, hg, h6, fun s9 H5 hs9 e5 hsh5 => ?_⟩
    refine ⟨_, rfl, s9, rows, rfl, hsh5, hg, h6, fun H6 e6 => ?_⟩
    have e46 := e5.trans e6
    have hsh6 := hsh5.ext e6
    have hrows6 := hrows4.ext e46
    have gD6 := e46 _ _ k2
    have B6 := B4.trans (Bk.of B4.bag e46)
    clear e5 e6 e46 hsh5 hrows4 B4 k2
    have hroom := nl_room hlin (by rw [List.length_map]; omega)
    refine ⟨_, rfl, _, _, _, _, _, rfl, .ty _, .base (.str _), kit_ty (r := true) (by decide +kernel), _, rfl, iteF ?_⟩
    refine ⟨_, rfl, ⟨_, rfl⟩, _, rfl, "\n", D, rows.map lineT, rfl, rfl, .inl (SqL.of gD6), hroom, rfl, _, rfl, ?_⟩
    show if (!decide (V.str (sheetT rows) = V.str (sheetT rows))) = true then _ else _
    rw [decide_eq_true rfl]
    refine iteF ?_
    -- the rules, one by one
    obtain ⟨dx, t, rs, h1, h2, h3⟩ := hsh6.ex
    have hrl := h3.len
    change tSeq (tIfS (tTest (tOp (rNeD K) (tLc (iOwnT K CS (fun a t H => RulesOf CS a t H ∧ ∃ ys, SqT K H t ys) (tVar 6)) (gName 8) tYes (tCall (spWR K C) [] E0 (tCons (tVar 8) tNil)) [8]) (tVar 4))) (tRet (tC (V.bl false))) tNext) _ _ [some (.ref a), some (.int (0 + (i : Int))), some (.ref b), some (.ref l), some (.ref D), x5, some (.ref s9), some (.str (sheetT rows)), x8, x9, x10, x11] H6
    refine step_if2 ?_
    refine vals_tup (K := K) (xs := rs.map V.ref) (ys := (rows.map lineT).map V.str) h2 (by rw [List.length_map, List.length_map, List.length_map, hrl]) (by rw [List.length_map]; omega) (fun W h => ⟨_, rfl, s9, dx, _, t, rfl, h1, ⟨⟨dx, h1⟩, _, h2⟩, h⟩) (fun _ => rfl) (fun i v H' hv e => ?_) fun D1 H7 hD1 e7 g7 => ?_
    · obtain ⟨r, x, rfl, _, hx, hRr⟩ := h3.get hv
      exact ⟨.str (lineT x), by rw [List.getElem?_map, List.getElem?_map, hx]; rfl, fun R' h' => ⟨_, rfl, r, x, rfl, hRr.ext e, hg x (List.mem_of_getElem? hx), fun H'' e'' => h' H'' e''⟩⟩
    refine ⟨_, rfl, strs_ne (fun s hs => free_ok (hlin s hs).2) g7 (e7 _ _ gD6) ⟨_, rfl, iteF ?_⟩⟩
    have hsh7 := hsh6.ext e7
    have hrows7 := hrows6.ext e7
    have gD7 := e7 _ _ gD6
    have B7 := B6.trans (Bk.of B6.bag e7)
    clear hsh6 hrows6 gD6 B6 h1 h2 h3 hrl e7 g7 hD1
    -- read back
    obtain ⟨ok1, ok2⟩ := reads_ok hg h6
    refine ⟨_, rfl, sheetT rows, rfl, ok2, .inl ⟨rows, ok1, fun p x H8 hp e8 hpt hsx => ⟨p, _, rfl, SqT.of hpt, rfl, _, _, rfl, _, _, rfl, rfl, ?_⟩⟩⟩
    have hsh8 := hsh7.ext e8
    have hrows8 := hrows7.ext e8
    have gD8 := e8 _ _ gD7
    have B8 := B7.trans (Bk.of B7.bag e8)
    clear hsh7 hrows7 gD7 B7 e8 hpt
    refine ⟨_, rfl, true, rfl, iteF ?_⟩
    refine ⟨_, rfl, _, rfl, eqS_red R S ES.nf hsx hsh8 hg hg fun H9 e9 => ⟨_, rfl, ?_⟩⟩
    rw [decide_eq_true rfl]
    refine iteF ?_
    have hsx9 := hsx.ext e9
    have hrows9 := hrows8.ext e9
    have gD9 := e9 _ _ gD8
    have B9 := B8.trans (Bk.of B8.bag e9)
    clear hsh8 hrows8 gD8 B8 e9 hsx
    have same : ∀ {G : Hp}, RowsL K G l rows → ∃ qs : List Addr, G l = some (.lst (qs.map V.ref)) ∧ RowsAt K G qs rows ∧ qs.length = rows.length := fun h => by
      obtain ⟨qs, h1, h2⟩ := h
      exact ⟨qs, h1, h2, h2.len⟩
    -- the weights
    obtain ⟨dx, t, rs, h1, h2, h3⟩ := hsx9.ex
    have hrl := h3.len
    change tTest (tOp (rNeD K) (tLc (iOwnT K CS (fun a t H => RulesOf CS a t H ∧ ∃ ys, SqT K H t ys) (tVar 10)) (gName 8) tYes (tFld K (tVar 8) "weight") [8]) (tLc (iList K (tVar 3)) (gName 5) tYes (tOp (rIxT K) (tVar 5) (tC (V.int 0))) [5])) [some (.ref a), some (.int (0 + (i : Int))), some (.ref b), some (.ref l), some (.ref D), x5, some (.ref s9), some (.str (sheetT rows)), x8, some (.bl true), some (.ref x), x11] H9 _
    refine test_in ?_
    refine vals_tup (K := K) (xs := rs.map V.ref) (ys := (rows.map (·.1)).map V.int) h2 (by rw [List.length_map, List.length_map, List.length_map, hrl]) (by rw [List.length_map]; omega) (fun W h => ⟨_, rfl, x, dx, _, t, rfl, h1, ⟨⟨dx, h1⟩, _, h2⟩, h⟩) (fun _ => rfl) (fun i v H' hv e => ?_) fun D1 HA hD1 eA gA => ?_
    · obtain ⟨r, x, rfl, _, hx, hRr⟩ := h3.get hv
      obtain ⟨dr, pt, st, qs, m1, m2, m3, m4⟩ := hRr.ex
      exact ⟨.int x.1, by rw [List.getElem?_map, List.getElem?_map, hx]; rfl, fun R' h' => ⟨_, rfl, r, C, dr, _, _, rfl, e _ _ m1, R.cl, R.nw, rfl, h' _ Ext.rfl'⟩⟩
    obtain ⟨qA, hlA, hRA, hnA⟩ := same (hrows9.ext eA)
    refine vals_list (K := K) (xs := qA.map V.ref) (ys := (rows.map (·.1)).map V.int) (SqL.of hlA) (by rw [List.length_map, List.length_map, List.length_map, hnA]) (by rw [List.length_map]; omega) (fun W h => ⟨_, rfl, l, rfl, ⟨_, SqL.of hlA⟩, h⟩) (fun _ => rfl) (fun i v H' hv e => ?_) fun D2 HB hD2 eB gB => ?_
    · obtain ⟨p, x, rfl, _, hx, hrow⟩ := hRA.get hv
      obtain ⟨pt, st, qs, m1, m2, m3, m4⟩ := hrow.ex
      exact ⟨.int x.1, by rw [List.getElem?_map, List.getElem?_map, hx]; rfl, fun R' h' => ⟨_, rfl, p, _, _, _, rfl, rfl, m1.ext e, atI_nat (j := 0) rfl, h' _ Ext.rfl'⟩⟩
    refine ints_ne (eB _ _ gA) gB ⟨_, rfl, iteF ?_⟩
    have hsxB := (hsx9.ext eA).ext eB
    have hrowsB := (hrows9.ext eA).ext eB
    have gDB := eB _ _ (eA _ _ gD9)
    have BB := B9.trans (Bk.of B9.bag (eA.trans eB))
    clear hsx9 hrows9 gD9 B9 eA eB h1 h2 h3 hrl hlA hRA hnA gA gB hD1 hD2
    have gLay : ∀ x ∈ rows, (setD x).canLay0 = true ∧ (setD x).depth ≤ 4 := fun x hx => ⟨(setD_lay (hg x hx)).1, Nat.le_trans (setD_lay (hg x hx)).2 (by decide)⟩
    have gPat : ∀ x ∈ rows, (patD x).canLay0 = true ∧ (patD x).depth ≤ 4 := fun x hx => ⟨(patD_lay (hg x hx)).1, Nat.le_trans (patD_lay (hg x hx)).2 (by decide)⟩
    -- the patterns
    obtain ⟨dx8, t8, rs8, hi8, ht8, hu8⟩ := hsxB.ex
    have hn8 := hu8.len
    change tSeq (tIfS (tTest (tOp (rNeD K) (tLc (iTup K (tFld K (tVar 10) "rules")) (gName 8) tYes (tFld K (tVar 8) "pattern") [8]) (tLc (iList K (tVar 3)) (gName 5) tYes (tOp (rIxT K) (tVar 5) (tC (V.int 1))) [5]))) (tRet (tC (V.bl false))) tNext) _ _ [some (.ref a), some (.int (0 + (i : Int))), some (.ref b), some (.ref l), some (.ref D), x5, some (.ref s9), some (.str (sheetT rows)), x8, some (.bl true), some (.ref x), x11] HB
    refine step_if2 ?_
    refine parts_tup (xs := rs8.map V.ref) (fun i p => ∀ x, rows[i]? = some x → PatAt K HB p x) ht8 (by rw [List.length_map]; omega) (fun W h => ⟨_, rfl, x, CS, dx8, _, _, rfl, hi8, S.cl, S.nr, rfl, t8, rfl, ⟨_, ht8⟩, h⟩) (fun _ => rfl) (fun i v H' hv e => ?_) fun D1 p1 HC hD1 eC g9 n1 r1 => ?_
    · obtain ⟨r, x, rfl, _, hx, hRr⟩ := hu8.get hv
      obtain ⟨dr, pt, st, qs, m1, m2, m3, m4⟩ := hRr.ex
      refine ⟨pt, fun y hy => ?_, fun R' h' => ⟨_, rfl, r, C, dr, _, _, rfl, e _ _ m1, R.cl, R.np, rfl, h'⟩⟩
      rw [hx] at hy
      cases hy
      exact m2
    obtain ⟨qC, hlC, hRC, hnC⟩ := same (hrowsB.ext eC)
    refine parts_list (xs := qC.map V.ref) (fun i p => ∀ x, rows[i]? = some x → PatAt K HC p x) (SqL.of hlC) (by rw [List.length_map]; omega) (fun W h => ⟨_, rfl, l, rfl, ⟨_, SqL.of hlC⟩, h⟩) (fun _ => rfl) (fun i v H' hv e => ?_) fun D3 p3 HD hD3 eD g10 n3 r3 => ?_
    · obtain ⟨p, x, rfl, _, hx, hrow⟩ := hRC.get hv
      obtain ⟨pt, st, qs, m1, m2, m3, m4⟩ := hrow.ex
      refine ⟨pt, fun y hy => ?_, fun R' h' => ⟨_, rfl, p, _, _, _, rfl, rfl, m1.ext e, atI_nat (j := 1) rfl, h'⟩⟩
      rw [hx] at hy
      cases hy
      exact m2
    refine parts_ne (f := patD) (rows := rows) (eD _ _ g9) g10 (by rw [n1, List.length_map, hn8]) (by rw [n3, List.length_map, hnC]) gPat (fun i p x hp hx => PatAt.dp (((r1 i p hp x hx).ext eC).ext eD)) (fun i p x hp hx => PatAt.dp ((r3 i p hp x hx).ext eD)) ⟨_, rfl, iteF ?_⟩
    have hsxD := (hsxB.ext eC).ext eD
    have hrowsD := (hrowsB.ext eC).ext eD
    have gDD := eD _ _ (eC _ _ gDB)
    have BD := BB.trans (Bk.of BB.bag (eC.trans eD))
    clear hsxB hrowsB gDB BB eC eD hi8 ht8 hu8 hn8 hlC hRC hnC g9 g10 hD1 hD3 r1 r3 n1 n3
    -- the settings, as they are told
    obtain ⟨dx8, t8, rs8, hi8, ht8, hu8⟩ := hsxD.ex
    have hn8 := hu8.len
    obtain ⟨s1, s2, s3, s4⟩ := sets_text hg h6
    change tSeq (tIfS (tTest (tOp rNe (tCB (rRepN K) (tCons (tLc (iOwnT K CS (fun a t H => RulesOf CS a t H ∧ ∃ ys, SqT K H t ys) (tVar 10)) (gName 8) tYes (tFld K (tVar 8) "settings") [8]) tNil)) (tCB (rRepN K) (tCons (tLc (iList K (tVar 3)) (gName 5) tYes (tOp (rIxT K) (tVar 5) (tC (V.int 2))) [5]) tNil)))) (tRet (tC (V.bl false))) tNext) _ _ [some (.ref a), some (.int (0 + (i : Int))), some (.ref b), some (.ref l), some (.ref D), x5, some (.ref s9), some (.str (sheetT rows)), x8, some (.bl true), some (.ref x), x11] HD
    refine step_rep ?_
    refine parts_tup (xs := rs8.map V.ref) (fun i p => ∀ x, rows[i]? = some x → SetsAt K HD p x) ht8 (by rw [List.length_map]; omega) (fun W h => ⟨_, rfl, x, dx8, _, t8, rfl, hi8, ⟨⟨dx8, hi8⟩, _, ht8⟩, h⟩) (fun _ => rfl) (fun i v H' hv e => ?_) fun D1 p1 HE hD1 eE g9 n1 r1 => ?_
    · obtain ⟨r, x, rfl, _, hx, hRr⟩ := hu8.get hv
      obtain ⟨dr, pt, st, qs, m1, m2, m3, m4⟩ := hRr.ex
      refine ⟨st, fun y hy => ?_, fun R' h' => ⟨_, rfl, r, C, dr, _, _, rfl, e _ _ m1, R.cl, R.ns, rfl, h'⟩⟩
      rw [hx] at hy
      cases hy
      exact ⟨qs, m3, m4⟩
    refine ⟨D1, .list (rows.map setD), rfl, .lst (SqL.of g9) (dp_by (by rw [n1, List.length_map, hn8]) fun i p x hp hx => ((r1 i p hp x hx).ext eE).dp (hg x (List.mem_of_getElem? hx))), s2, s3, s4, s1, ?_⟩
    obtain ⟨qE, hlE, hRE, hnE⟩ := same (hrowsD.ext eE)
    refine parts_list (xs := qE.map V.ref) (fun i p => ∀ x, rows[i]? = some x → SetsAt K HE p x) (SqL.of hlE) (by rw [List.length_map]; omega) (fun W h => ⟨_, rfl, l, rfl, ⟨_, SqL.of hlE⟩, h⟩) (fun _ => rfl) (fun i v H' hv e => ?_) fun D3 p3 HF hD3 eF g10 n3 r3 => ?_
    · obtain ⟨p, x, rfl, _, hx, hrow⟩ := hRE.get hv
      obtain ⟨pt, st, qs, m1, m2, m3, m4⟩ := hrow.ex
      refine ⟨st, fun y hy => ?_, fun R' h' => ⟨_, rfl, p, _, _, _, rfl, rfl, m1.ext e, atI_nat (j := 2) rfl, h'⟩⟩
      rw [hx] at hy
      cases hy
      exact ⟨qs, m3, m4⟩
    refine ⟨D3, .list (rows.map setD), rfl, .lst (SqL.of g10) (dp_by (by rw [n3, List.length_map, hnE]) fun i p x hp hx => ((r3 i p hp x hx).ext eF).dp (hg x (List.mem_of_getElem? hx))), s2, s3, s4, s1, ?_⟩
    refine ⟨rfl, _, rfl, ?_⟩
    rw [decide_eq_true rfl]
    refine iteF ?_
    have hrowsF := (hrowsD.ext eE).ext eF
    have gDF := eF _ _ (eE _ _ gDD)
    have BF := BD.trans (Bk.of BD.bag (eE.trans eF))
    clear hsxD hrowsD gDD BD eE eF hi8 ht8 hu8 hn8 hlE hRE hnE g9 g10 hD1 hD3 r1 r3 n1 n3
    -- texts that are wrong
    refine ⟨3, rfl, by decide, by decide, ?_⟩
    refine for_range (lo := 0) (n := 3) (fun _ σ H' => Bk b HF H' ∧ ∃ x11, σ = [some (.ref a), some (.int (0 + (i : Int))), some (.ref b), some (.ref l), some (.ref D), x5, some (.ref s9), some (.str (sheetT rows)), x8, some (.bl true), some (.ref x), x11])
      ⟨Bk.of BF.bag Ext.rfl', _, rfl⟩ (fun j σ HG hj h => ?_) (fun σ HG h => ?_)
    · obtain ⟨BG, x11, rfl⟩ := h
      refine ⟨_, rfl, _, rfl, _, rfl, b, l, D, rows, rfl, BG.bag, hrowsF.bk BF.bag BG, BG.keep _ _ hDb gDF, hg, h6, fun HI BI => ⟨_, rfl, iteF ?_⟩⟩
      have BJ := BG.trans BI
      refine ⟨⟨_, rfl⟩, _, rfl, "\n", D, rows.map lineT, rfl, rfl, .inl (SqL.of (BJ.keep _ _ hDb gDF)), hroom, _, rfl, ok2, .inl ⟨rows, ok1, fun p x HK hp eK hpt hsx => ⟨p, _, _, _, rfl, rfl, SqT.of hpt, atI_nat (j := 0) rfl, true, rfl, iteF ?_⟩⟩⟩
      exact ⟨BJ.trans (Bk.of BJ.bag eK), _, rfl⟩
    obtain ⟨BG, x11', rfl⟩ := h
    have BZ := BF.trans BG
    exact ⟨fun q u e => BZ.keep q u (ne_of_none (ex _ _ e) hbn) (e2 _ _ (ex _ _ e)), _, _, _, _, _, _, _, _, _, _, _, rfl⟩
end
end Pa
set_option maxRecDepth 100000
set_option maxHeartbeats 4000000
namespace Pa
open PySem PySem.Spec PyProof.Rows L2 RZ StX ClX
abbrev sBad_init : Stmt := inClass (topS 3) 0
abbrev sBadL_init : Stmt := inClass (topS 4) 0
section
variable {P : Program} {w : World} {K : PySem.W.Frag} {mg : Str → Option Value} {base : Heap} {C f cc cda : Addr} {dV kV doc pm ct oc ccl cl : Value} {an od cdd cld : Option Addr} {osl ccs csl : Array (Option Value)} {vs0 : Array Value} {file : Str} {tf : Tok}
theorem ok_badinit (T : SupCls P K mg C "place")
    (lk : K.lookup f = some ⟨oc, od, .func (PySem.W.fnX "__init__" "BadRule.__init__" (defArgs sBad_init) (defBody sBad_init) (supScope "place") [("__class__", cc)] dV kV doc pm an (.ref cda) ct), osl⟩) (hcd : PySem.W.codeIn K (.ref cda) "BadRule.__init__" = true)
    (hcode : K.lookup cda = some ⟨ccl, cdd, .fields vs0, ccs⟩) (hvs : vs0[2]? = some (.str file tf)) (hfile : ((P.main.file : Str) == file) = true) (hcell : K.lookup cc = some ⟨cl, cld, .cell (some (.ref C)), csl⟩) :
    FnOk P w K mg base CX0 1 f (PySem.W.fnX "__init__" "BadRule.__init__" (defArgs sBad_init) (defBody sBad_init) (supScope "place") [("__class__", cc)] dV kV doc pm an (.ref cda) ct) ["self", "place"] (spSup C "place") :=
  sup_fn T lk hcd hcode hvs hfile hcell rfl rfl rfl (fun env => rfl) (fun env => rfl) (by decide) (by decide) (by decide) (by decide)
theorem bad_binds : Binds K (PySem.W.fnX "__init__" "BadRule.__init__" (defArgs sBad_init) (defBody sBad_init) (supScope "place") [("__class__", cc)] .none kV doc pm an (.ref cda) ct) ["self", "place"] [] := .all fun us hl => by
  match us, hl with
  | [a, b], _ => exact rfl
theorem ok_badlinit (T : SupCls P K mg C "number")
    (lk : K.lookup f = some ⟨oc, od, .func (PySem.W.fnX "__init__" "BadLine.__init__" (defArgs sBadL_init) (defBody sBadL_init) (supScope "number") [("__class__", cc)] dV kV doc pm an (.ref cda) ct), osl⟩) (hcd : PySem.W.codeIn K (.ref cda) "BadLine.__init__" = true)
    (hcode : K.lookup cda = some ⟨ccl, cdd, .fields vs0, ccs⟩) (hvs : vs0[2]? = some (.str file tf)) (hfile : ((P.main.file : Str) == file) = true) (hcell : K.lookup cc = some ⟨cl, cld, .cell (some (.ref C)), csl⟩) :
    FnOk P w K mg base CX0 1 f (PySem.W.fnX "__init__" "BadLine.__init__" (defArgs sBadL_init) (defBody sBadL_init) (supScope "number") [("__class__", cc)] dV kV doc pm an (.ref cda) ct) ["self", "number"] (spSupI C "number") :=
  sup_fnF T lk hcd hcode hvs hfile hcell rfl rfl rfl (fun env => rfl) (fun env => rfl) (by decide) (by decide) (by decide) (by decide) (by decide) (by decide)
theorem badl_binds : Binds K (PySem.W.fnX "__init__" "BadLine.__init__" (defArgs sBadL_init) (defBody sBadL_init) (supScope "number") [("__class__", cc)] .none kV doc pm an (.ref cda) ct) ["self", "number"] [] := .all fun us hl => by
  match us, hl with
  | [a, b], _ => exact rfl
end
/-! ### what the top has written -/
theorem all_mk {l : PySem.W.OpenLaw} {w : World} {K : PySem.W.Frag} {h : Heap} {mg : Str → Option Value} {fa C CS CB tv tp tk dl D0 t1 t2 t3 pM fI cc cda CL CP fIL ccL cdaL f0 f1 f2 f3 f4 f5 f6 f7 f8 f9 f10 f11 f12 f13 f14 f15 f16 f17 f18 f19 f20 f21 f22 f23 f24 f25 f26 f27 f28 f29 f30 f31 f32 f33 f34 f35 : Addr} {mcC : Value} {rsM : List Value} {es : Array DictEntry} (X : K.In h) (G : h.Ns mainGlobals mg) (hfa : mg "law" = some (.ref fa))
    {od0 an0 od1 an1 od2 an2 od3 an3 od4 an4 od5 an5 od6 an6 od7 an7 od8 an8 od9 an9 od10 an10 od11 an11 od12 an12 od13 an13 od14 an14 od15 an15 od16 an16 od17 an17 od18 an18 od19 an19 od20 an20 od21 an21 od22 an22 od23 an23 od24 an24 od25 an25 od26 an26 od27 an27 od28 an28 od29 an29 od30 an30 od31 an31 od32 an32 od33 an33 od34 an34 od35 an35 : Option Addr} {sl0 sl1 sl2 sl3 sl4 sl5 sl6 sl7 sl8 sl9 sl10 sl11 sl12 sl13 sl14 sl15 sl16 sl17 sl18 sl19 sl20 sl21 sl22 sl23 sl24 sl25 sl26 sl27 sl28 sl29 sl30 sl31 sl32 sl33 sl34 sl35 : Array (Option Value)} {oc0 kV0 dc0 pm0 cd0 ct0 oc1 kV1 dc1 pm1 cd1 ct1 oc2 kV2 dc2 pm2 cd2 ct2 oc3 kV3 dc3 pm3 cd3 ct3 oc4 kV4 dc4 pm4 cd4 ct4 oc5 kV5 dc5 pm5 cd5 ct5 oc6 kV6 dc6 pm6 cd6 ct6 oc7 kV7 dc7 pm7 cd7 ct7 oc8 kV8 dc8 pm8 cd8 ct8 oc9 kV9 dc9 pm9 cd9 ct9 oc10 kV10 dc10 pm10 cd10 ct10 oc11 kV11 dc11 pm11 cd11 ct11 oc12 kV12 dc12 pm12 cd12 ct12 oc13 kV13 dc13 pm13 cd13 ct13 oc14 kV14 dc14 pm14 cd14 ct14 oc15 kV15 dc15 pm15 cd15 ct15 oc16 kV16 dc16 pm16 cd16 ct16 oc17 kV17 dc17 pm17 cd17 ct17 oc18 kV18 dc18 pm18 cd18 ct18 oc19 kV19 dc19 pm19 cd19 ct19 oc20 kV20 dc20 pm20 cd20 ct20 oc21 kV21 dc21 pm21 cd21 ct21 oc22 kV22 dc22 pm22 cd22 ct22 oc23 kV23 dc23 pm23 cd23 ct23 oc24 kV24 dc24 pm24 cd24 ct24 oc25 kV25 dc25 pm25 cd25 ct25 oc26 kV26 dc26 pm26 cd26 ct26 oc27 kV27 dc27 pm27 cd27 ct27 oc28 kV28 dc28 pm28 cd28 ct28 oc29 dc29 pm29 cd29 ct29 oc30 kV30 dc30 pm30 cd30 ct30 oc31 kV31 dc31 pm31 cd31 ct31 oc32 kV32 dc32 pm32 cd32 ct32 oc33 kV33 dc33 pm33 cd33 ct33 oc34 kV34 dc34 pm34 cd34 ct34 oc35 kV35 dc35 pm35 cd35 ct35 : Value}
    {odI anI cdd cld : Option Addr} {slI ccs csl : Array (Option Value)} {ocI kVI dcI pmI ctI ccl cl : Value} {vs0 : Array Value} {file : Str} {tf : Tok} {odIL anIL cddL cldL : Option Addr} {slIL ccsL cslL : Array (Option Value)} {ocIL kVIL dcIL pmIL ctIL cclL clL : Value} {vs0L : Array Value} {fileL : Str} {tfL : Tok}
    {n1 n2 n3 n4 n5 n6 n7 : Nat} {u1 u2 u3 u4 u5 u6 v1 v2 v3 v4 v5 w1 w2 w3 x1 x2 y1 y2 z1 z2 d1 d2 d3 d4 d5 tM : Tok}
    {nmC : _} {qC : _} {NC : _} {bsC : _} {bmC : _} {snC : _} {subC : _} {abC : _} {colC : _} {ddC : _} {e0C : _} {e1C : _} {e2C : _} {e3C : _} {e5C : _} {nmL : _} {qL : _} {NLL : _} {bsL : _} {bmL : _} {snL : _} {subL : _} {abL : _} {colL : _} {ddL : _} {e0L : _} {e1L : _} {e2L : _} {e3L : _} {e5L : _}
    (aK : PySem.W.nsIn K mainGlobals "KINDS" = some (some (.ref tk))) (aV : PySem.W.nsIn K mainGlobals "VALUE_NAMES" = some (some (.ref tv))) (aP : PySem.W.nsIn K mainGlobals "PATTERN_NAMES" = some (some (.ref tp))) (aL : PySem.W.nsIn K mainGlobals "_LIMITS" = some (some (.ref dl))) (aC : PySem.W.nsIn K mainGlobals "Rule" = some (some (.ref C))) (aS : PySem.W.nsIn K mainGlobals "Sheet" = some (some (.ref CS))) (aB : PySem.W.nsIn K mainGlobals "BadRule" = some (some (.ref CB))) (aL2 : PySem.W.nsIn K mainGlobals "BadLine" = some (some (.ref CL))) (aP2 : PySem.W.nsIn K mainGlobals "PressError" = some (some (.ref CP)))
    (aM : PySem.W.nsIn K mainGlobals "MOST_RULES" = some (some (.int 6 tM)))
    (a0 : PySem.W.nsIn K mainGlobals "is_integer" = some (some (.ref f0)))
    (l0 : K.lookup f0 = some ⟨oc0, od0, .func (PySem.W.fnOf "is_integer" "is_integer" (defArgs sis_integer) (defBody sis_integer) (defScope sis_integer) .none kV0 dc0 pm0 an0 cd0 ct0), sl0⟩) (c0 : PySem.W.codeIn K cd0 "is_integer" = true) (k0 : PySem.W.keepIn K (.ref f0) = true)
    (a1 : PySem.W.nsIn K mainGlobals "is_integer_from" = some (some (.ref f1)))
    (l1 : K.lookup f1 = some ⟨oc1, od1, .func (PySem.W.fnOf "is_integer_from" "is_integer_from" (defArgs sis_integer_from) (defBody sis_integer_from) (defScope sis_integer_from) .none kV1 dc1 pm1 an1 cd1 ct1), sl1⟩) (c1 : PySem.W.codeIn K cd1 "is_integer_from" = true) (k1 : PySem.W.keepIn K (.ref f1) = true)
    (a2 : PySem.W.nsIn K mainGlobals "is_row" = some (some (.ref f2)))
    (l2 : K.lookup f2 = some ⟨oc2, od2, .func (PySem.W.fnOf "is_row" "is_row" (defArgs sis_row) (defBody sis_row) (defScope sis_row) .none kV2 dc2 pm2 an2 cd2 ct2), sl2⟩) (c2 : PySem.W.codeIn K cd2 "is_row" = true) (k2 : PySem.W.keepIn K (.ref f2) = true)
    (a3 : PySem.W.nsIn K mainGlobals "values_for" = some (some (.ref f3)))
    (l3 : K.lookup f3 = some ⟨oc3, od3, .func (PySem.W.fnOf "values_for" "values_for" (defArgs svalues_for) (defBody svalues_for) (defScope svalues_for) .none kV3 dc3 pm3 an3 cd3 ct3), sl3⟩) (c3 : PySem.W.codeIn K cd3 "values_for" = true) (k3 : PySem.W.keepIn K (.ref f3) = true)
    (a4 : PySem.W.nsIn K mainGlobals "texts_for" = some (some (.ref f4)))
    (l4 : K.lookup f4 = some ⟨oc4, od4, .func (PySem.W.fnOf "texts_for" "texts_for" (defArgs stexts_for) (defBody stexts_for) (defScope stexts_for) .none kV4 dc4 pm4 an4 cd4 ct4), sl4⟩) (c4 : PySem.W.codeIn K cd4 "texts_for" = true) (k4 : PySem.W.keepIn K (.ref f4) = true)
    (a5 : PySem.W.nsIn K mainGlobals "_is_pattern" = some (some (.ref f5)))
    (l5 : K.lookup f5 = some ⟨oc5, od5, .func (PySem.W.fnOf "_is_pattern" "_is_pattern" (defArgs s_is_pattern) (defBody s_is_pattern) (defScope s_is_pattern) .none kV5 dc5 pm5 an5 cd5 ct5), sl5⟩) (c5 : PySem.W.codeIn K cd5 "_is_pattern" = true) (k5 : PySem.W.keepIn K (.ref f5) = true)
    (a6 : PySem.W.nsIn K mainGlobals "_is_pair" = some (some (.ref f6)))
    (l6 : K.lookup f6 = some ⟨oc6, od6, .func (PySem.W.fnOf "_is_pair" "_is_pair" (defArgs s_is_pair) (defBody s_is_pair) (defScope s_is_pair) .none kV6 dc6 pm6 an6 cd6 ct6), sl6⟩) (c6 : PySem.W.codeIn K cd6 "_is_pair" = true) (k6 : PySem.W.keepIn K (.ref f6) = true)
    (a7 : PySem.W.nsIn K mainGlobals "_is_setting" = some (some (.ref f7)))
    (l7 : K.lookup f7 = some ⟨oc7, od7, .func (PySem.W.fnOf "_is_setting" "_is_setting" (defArgs s_is_setting) (defBody s_is_setting) (defScope s_is_setting) .none kV7 dc7 pm7 an7 cd7 ct7), sl7⟩) (c7 : PySem.W.codeIn K cd7 "_is_setting" = true) (k7 : PySem.W.keepIn K (.ref f7) = true)
    (a8 : PySem.W.nsIn K mainGlobals "write_rule" = some (some (.ref f8)))
    (l8 : K.lookup f8 = some ⟨oc8, od8, .func (PySem.W.fnOf "write_rule" "write_rule" (defArgs swrite_rule) (defBody swrite_rule) (defScope swrite_rule) .none kV8 dc8 pm8 an8 cd8 ct8), sl8⟩) (c8 : PySem.W.codeIn K cd8 "write_rule" = true) (k8 : PySem.W.keepIn K (.ref f8) = true)
    (a9 : PySem.W.nsIn K mainGlobals "write_sheet" = some (some (.ref f9)))
    (l9 : K.lookup f9 = some ⟨oc9, od9, .func (PySem.W.fnOf "write_sheet" "write_sheet" (defArgs swrite_sheet) (defBody swrite_sheet) (defScope swrite_sheet) .none kV9 dc9 pm9 an9 cd9 ct9), sl9⟩) (c9 : PySem.W.codeIn K cd9 "write_sheet" = true) (k9 : PySem.W.keepIn K (.ref f9) = true)
    (a10 : PySem.W.nsIn K mainGlobals "read_sheet" = some (some (.ref f10)))
    (l10 : K.lookup f10 = some ⟨oc10, od10, .func (PySem.W.fnOf "read_sheet" "read_sheet" (defArgs sread_sheet) (defBody sread_sheet) (defScope sread_sheet) .none kV10 dc10 pm10 an10 cd10 ct10), sl10⟩) (c10 : PySem.W.codeIn K cd10 "read_sheet" = true) (k10 : PySem.W.keepIn K (.ref f10) = true)
    (a11 : PySem.W.nsIn K mainGlobals "_part" = some (some (.ref f11)))
    (l11 : K.lookup f11 = some ⟨oc11, od11, .func (PySem.W.fnOf "_part" "_part" (defArgs s_part) (defBody s_part) (defScope s_part) .none kV11 dc11 pm11 an11 cd11 ct11), sl11⟩) (c11 : PySem.W.codeIn K cd11 "_part" = true) (k11 : PySem.W.keepIn K (.ref f11) = true)
    (a12 : PySem.W.nsIn K mainGlobals "_fields_of" = some (some (.ref f12)))
    (l12 : K.lookup f12 = some ⟨oc12, od12, .func (PySem.W.fnOf "_fields_of" "_fields_of" (defArgs s_fields_of) (defBody s_fields_of) (defScope s_fields_of) .none kV12 dc12 pm12 an12 cd12 ct12), sl12⟩) (c12 : PySem.W.codeIn K cd12 "_fields_of" = true) (k12 : PySem.W.keepIn K (.ref f12) = true)
    (a13 : PySem.W.nsIn K mainGlobals "_weight_of" = some (some (.ref f13)))
    (l13 : K.lookup f13 = some ⟨oc13, od13, .func (PySem.W.fnOf "_weight_of" "_weight_of" (defArgs s_weight_of) (defBody s_weight_of) (defScope s_weight_of) .none kV13 dc13 pm13 an13 cd13 ct13), sl13⟩) (c13 : PySem.W.codeIn K cd13 "_weight_of" = true) (k13 : PySem.W.keepIn K (.ref f13) = true)
    (a14 : PySem.W.nsIn K mainGlobals "_found" = some (some (.ref f14)))
    (l14 : K.lookup f14 = some ⟨oc14, od14, .func (PySem.W.fnOf "_found" "_found" (defArgs s_found) (defBody s_found) (defScope s_found) .none kV14 dc14 pm14 an14 cd14 ct14), sl14⟩) (c14 : PySem.W.codeIn K cd14 "_found" = true) (k14 : PySem.W.keepIn K (.ref f14) = true)
    (a15 : PySem.W.nsIn K mainGlobals "_law_bag" = some (some (.ref f15)))
    (l15 : K.lookup f15 = some ⟨oc15, od15, .func (PySem.W.fnOf "_law_bag" "_law_bag" (defArgs sBag) (defBody sBag) (defScope sBag) .none kV15 dc15 pm15 an15 cd15 ct15), sl15⟩) (c15 : PySem.W.codeIn K cd15 "_law_bag" = true) (k15 : PySem.W.keepIn K (.ref f15) = true)
    (a16 : PySem.W.nsIn K mainGlobals "_law_draw" = some (some (.ref f16)))
    (l16 : K.lookup f16 = some ⟨oc16, od16, .func (PySem.W.fnOf "_law_draw" "_law_draw" (defArgs sDraw) (defBody sDraw) (defScope sDraw) .none kV16 dc16 pm16 an16 cd16 ct16), sl16⟩) (c16 : PySem.W.codeIn K cd16 "_law_draw" = true) (k16 : PySem.W.keepIn K (.ref f16) = true)
    (a17 : PySem.W.nsIn K mainGlobals "_law_one" = some (some (.ref f17)))
    (l17 : K.lookup f17 = some ⟨oc17, od17, .func (PySem.W.fnOf "_law_one" "_law_one" (defArgs sL_one) (defBody sL_one) (defScope sL_one) .none kV17 dc17 pm17 an17 cd17 ct17), sl17⟩) (c17 : PySem.W.codeIn K cd17 "_law_one" = true) (k17 : PySem.W.keepIn K (.ref f17) = true)
    (a18 : PySem.W.nsIn K mainGlobals "_law_few" = some (some (.ref f18)))
    (l18 : K.lookup f18 = some ⟨oc18, od18, .func (PySem.W.fnOf "_law_few" "_law_few" (defArgs sL_few) (defBody sL_few) (defScope sL_few) .none kV18 dc18 pm18 an18 cd18 ct18), sl18⟩) (c18 : PySem.W.codeIn K cd18 "_law_few" = true) (k18 : PySem.W.keepIn K (.ref f18) = true)
    (a19 : PySem.W.nsIn K mainGlobals "_law_ask" = some (some (.ref f19)))
    (l19 : K.lookup f19 = some ⟨oc19, od19, .func (PySem.W.fnOf "_law_ask" "_law_ask" (defArgs sL_ask) (defBody sL_ask) (defScope sL_ask) .none kV19 dc19 pm19 an19 cd19 ct19), sl19⟩) (c19 : PySem.W.codeIn K cd19 "_law_ask" = true) (k19 : PySem.W.keepIn K (.ref f19) = true)
    (a20 : PySem.W.nsIn K mainGlobals "_law_setting" = some (some (.ref f20)))
    (l20 : K.lookup f20 = some ⟨oc20, od20, .func (PySem.W.fnOf "_law_setting" "_law_setting" (defArgs sL_setting) (defBody sL_setting) (defScope sL_setting) .none kV20 dc20 pm20 an20 cd20 ct20), sl20⟩) (c20 : PySem.W.codeIn K cd20 "_law_setting" = true) (k20 : PySem.W.keepIn K (.ref f20) = true)
    (a21 : PySem.W.nsIn K mainGlobals "_law_rule_row" = some (some (.ref f21)))
    (l21 : K.lookup f21 = some ⟨oc21, od21, .func (PySem.W.fnOf "_law_rule_row" "_law_rule_row" (defArgs sL_rule_row) (defBody sL_rule_row) (defScope sL_rule_row) .none kV21 dc21 pm21 an21 cd21 ct21), sl21⟩) (c21 : PySem.W.codeIn K cd21 "_law_rule_row" = true) (k21 : PySem.W.keepIn K (.ref f21) = true)
    (a22 : PySem.W.nsIn K mainGlobals "_law_rule_rows" = some (some (.ref f22)))
    (l22 : K.lookup f22 = some ⟨oc22, od22, .func (PySem.W.fnOf "_law_rule_rows" "_law_rule_rows" (defArgs sL_rule_rows) (defBody sL_rule_rows) (defScope sL_rule_rows) .none kV22 dc22 pm22 an22 cd22 ct22), sl22⟩) (c22 : PySem.W.codeIn K cd22 "_law_rule_rows" = true) (k22 : PySem.W.keepIn K (.ref f22) = true)
    (a23 : PySem.W.nsIn K mainGlobals "_law_sheet" = some (some (.ref f23)))
    (l23 : K.lookup f23 = some ⟨oc23, od23, .func (PySem.W.fnOf "_law_sheet" "_law_sheet" (defArgs sL_sheet) (defBody sL_sheet) (defScope sL_sheet) .none kV23 dc23 pm23 an23 cd23 ct23), sl23⟩) (c23 : PySem.W.codeIn K cd23 "_law_sheet" = true) (k23 : PySem.W.keepIn K (.ref f23) = true)
    (a24 : PySem.W.nsIn K mainGlobals "_law_tokens" = some (some (.ref f24)))
    (l24 : K.lookup f24 = some ⟨oc24, od24, .func (PySem.W.fnOf "_law_tokens" "_law_tokens" (defArgs sL_tokens) (defBody sL_tokens) (defScope sL_tokens) .none kV24 dc24 pm24 an24 cd24 ct24), sl24⟩) (c24 : PySem.W.codeIn K cd24 "_law_tokens" = true) (k24 : PySem.W.keepIn K (.ref f24) = true)
    (a25 : PySem.W.nsIn K mainGlobals "_law_spoilt" = some (some (.ref f25)))
    (l25 : K.lookup f25 = some ⟨oc25, od25, .func (PySem.W.fnOf "_law_spoilt" "_law_spoilt" (defArgs sL_spoilt) (defBody sL_spoilt) (defScope sL_spoilt) .none kV25 dc25 pm25 an25 cd25 ct25), sl25⟩) (c25 : PySem.W.codeIn K cd25 "_law_spoilt" = true) (k25 : PySem.W.keepIn K (.ref f25) = true)
    (a26 : PySem.W.nsIn K mainGlobals "_law_read" = some (some (.ref f26)))
    (l26 : K.lookup f26 = some ⟨oc26, od26, .func (PySem.W.fnOf "_law_read" "_law_read" (defArgs sL_read) (defBody sL_read) (defScope sL_read) .none kV26 dc26 pm26 an26 cd26 ct26), sl26⟩) (c26 : PySem.W.codeIn K cd26 "_law_read" = true) (k26 : PySem.W.keepIn K (.ref f26) = true)
    (a27 : PySem.W.nsIn K mainGlobals "_law_wrong_texts" = some (some (.ref f27)))
    (l27 : K.lookup f27 = some ⟨oc27, od27, .func (PySem.W.fnOf "_law_wrong_texts" "_law_wrong_texts" (defArgs sL_wrong) (defBody sL_wrong) (defScope sL_wrong) .none kV27 dc27 pm27 an27 cd27 ct27), sl27⟩) (c27 : PySem.W.codeIn K cd27 "_law_wrong_texts" = true) (k27 : PySem.W.keepIn K (.ref f27) = true)
    (a28 : PySem.W.nsIn K mainGlobals "law" = some (some (.ref f28)))
    (l28 : K.lookup f28 = some ⟨oc28, od28, .func (PySem.W.fnOf "law" "law" (defArgs slaw) (defBody slaw) (defScope slaw) .none kV28 dc28 pm28 an28 cd28 ct28), sl28⟩) (c28 : PySem.W.codeIn K cd28 "law" = true) (k28 : PySem.W.keepIn K (.ref f28) = true)
    (a29 : PySem.W.findIn K (.ref C) "__init__" = some (some (.ref f29))) (i29 : PySem.W.isFn K (.ref f29) = true)
    (l29 : K.lookup f29 = some ⟨oc29, od29, .func (PySem.W.fnOf "__init__" "Rule.__init__" (defArgs sRule___init__) (defBody sRule___init__) (defScope sRule___init__) .none (.ref D0) dc29 pm29 an29 cd29 ct29), sl29⟩) (c29 : PySem.W.codeIn K cd29 "Rule.__init__" = true) (k29 : PySem.W.keepIn K (.ref f29) = true)
    (mcT : PySem.W.typeIn K (.ref C) = some mcC) (a30 : PySem.W.findCls K (.ref C) mcC "made" = some (.get (.builtin "classmethod.__get__") (.ref pM) .none (.ref C))) (r30 : PySem.W.recIn K pM "classmethod" = some (.ref f30 :: rsM)) (i30 : PySem.W.fnIn K f30 = true) (crd : PySem.W.readsIn K C mcC = true) (cga : PySem.W.specialIn K (.ref C) "__getattribute__" = some (some (.builtin "type.__getattribute__")))
    (l30 : K.lookup f30 = some ⟨oc30, od30, .func (PySem.W.fnOf "made" "Rule.made" (defArgs sRule_made) (defBody sRule_made) (defScope sRule_made) .none kV30 dc30 pm30 an30 cd30 ct30), sl30⟩) (c30 : PySem.W.codeIn K cd30 "Rule.made" = true) (k30 : PySem.W.keepIn K (.ref f30) = true)
    (a31 : PySem.W.findIn K (.ref C) "__call__" = some (some (.ref f31))) (i31 : PySem.W.isFn K (.ref f31) = true)
    (j31 : PySem.W.fnIn K f31 = true)
    (l31 : K.lookup f31 = some ⟨oc31, od31, .func (PySem.W.fnOf "__call__" "Rule.__call__" (defArgs sRule___call__) (defBody sRule___call__) (defScope sRule___call__) .none kV31 dc31 pm31 an31 cd31 ct31), sl31⟩) (c31 : PySem.W.codeIn K cd31 "Rule.__call__" = true) (k31 : PySem.W.keepIn K (.ref f31) = true)
    (a32 : PySem.W.findIn K (.ref C) "__eq__" = some (some (.ref f32))) (i32 : PySem.W.isFn K (.ref f32) = true)
    (l32 : K.lookup f32 = some ⟨oc32, od32, .func (PySem.W.fnOf "__eq__" "Rule.__eq__" (defArgs sRule___eq__) (defBody sRule___eq__) (defScope sRule___eq__) .none kV32 dc32 pm32 an32 cd32 ct32), sl32⟩) (c32 : PySem.W.codeIn K cd32 "Rule.__eq__" = true) (k32 : PySem.W.keepIn K (.ref f32) = true)
    (a33 : PySem.W.findIn K (.ref CS) "__init__" = some (some (.ref f33))) (i33 : PySem.W.isFn K (.ref f33) = true)
    (l33 : K.lookup f33 = some ⟨oc33, od33, .func (PySem.W.fnOf "__init__" "Sheet.__init__" (defArgs sSheet___init__) (defBody sSheet___init__) (defScope sSheet___init__) .none kV33 dc33 pm33 an33 cd33 ct33), sl33⟩) (c33 : PySem.W.codeIn K cd33 "Sheet.__init__" = true) (k33 : PySem.W.keepIn K (.ref f33) = true)
    (a34 : PySem.W.findIn K (.ref CS) "__iter__" = some (some (.ref f34))) (i34 : PySem.W.isFn K (.ref f34) = true)
    (l34 : K.lookup f34 = some ⟨oc34, od34, .func (PySem.W.fnOf "__iter__" "Sheet.__iter__" (defArgs sSheet___iter__) (defBody sSheet___iter__) (defScope sSheet___iter__) .none kV34 dc34 pm34 an34 cd34 ct34), sl34⟩) (c34 : PySem.W.codeIn K cd34 "Sheet.__iter__" = true) (k34 : PySem.W.keepIn K (.ref f34) = true)
    (a35 : PySem.W.findIn K (.ref CS) "__eq__" = some (some (.ref f35))) (i35 : PySem.W.isFn K (.ref f35) = true)
    (l35 : K.lookup f35 = some ⟨oc35, od35, .func (PySem.W.fnOf "__eq__" "Sheet.__eq__" (defArgs sSheet___eq__) (defBody sSheet___eq__) (defScope sSheet___eq__) .none kV35 dc35 pm35 an35 cd35 ct35), sl35⟩) (c35 : PySem.W.codeIn K cd35 "Sheet.__eq__" = true) (k35 : PySem.W.keepIn K (.ref f35) = true)
    (lV : K.lookup tv = some ⟨.type "tuple", none, .seq #[.str (Str.ofString "face") u1, .str (Str.ofString "measure") u2, .str (Str.ofString "space") u3, .str (Str.ofString "kept") u4, .str (Str.ofString "page") u5, .str (Str.ofString "out") u6] n1, #[]⟩)
    (lP : K.lookup tp = some ⟨.type "tuple", none, .seq #[.str (Str.ofString "kind") v1, .str (Str.ofString "mark") v2, .str (Str.ofString "parent") v3, .str (Str.ofString "above") v4, .str (Str.ofString "elder") v5] n2, #[]⟩)
    (lK : K.lookup tk = some ⟨.type "tuple", none, .seq #[.str (Str.ofString "A") w1, .str (Str.ofString "B") w2, .str (Str.ofString "C") w3] n3, #[]⟩)
    (lL : K.lookup dl = some ⟨.type "dict", none, .dict es n4, #[]⟩)
    (m_face : PySem.W.nsIn K dl "face" = some (some (.ref t1)))
    (m_measure : PySem.W.nsIn K dl "measure" = some (some (.ref t2)))
    (m_space : PySem.W.nsIn K dl "space" = some (some (.ref t3)))
    (m_kept : PySem.W.nsIn K dl "kept" = some none)
    (m_page : PySem.W.nsIn K dl "page" = some none)
    (m_out : PySem.W.nsIn K dl "out" = some none)
    (lt1 : K.lookup t1 = some ⟨.type "tuple", none, .seq #[.int 0 x1, .int 1 x2] n5, #[]⟩)
    (lt2 : K.lookup t2 = some ⟨.type "tuple", none, .seq #[.int 1 y1, .int 6 y2] n6, #[]⟩)
    (lt3 : K.lookup t3 = some ⟨.type "tuple", none, .seq #[.int 0 z1, .int 2 z2] n7, #[]⟩)
    (q_kind : PySem.W.nsIn K D0 "kind" = some (some (.str (Str.ofString "") d1)))
    (q_mark : PySem.W.nsIn K D0 "mark" = some (some (.str (Str.ofString "") d2)))
    (q_parent : PySem.W.nsIn K D0 "parent" = some (some (.str (Str.ofString "") d3)))
    (q_above : PySem.W.nsIn K D0 "above" = some (some (.str (Str.ofString "") d4)))
    (q_elder : PySem.W.nsIn K D0 "elder" = some (some (.str (Str.ofString "") d5)))
    (pg : PySem.W.plainGet K C Str.empty = true) (hd : PySem.W.hasDictIn K C = true) (po : PySem.W.plainOver K C = true) (sa : PySem.W.findIn K (.ref C) "__setattr__" = some (some (.builtin "object.__setattr__"))) (mk : PySem.W.makesIn K C = true) (kc : PySem.W.keepIn K (.ref C) = true)
    (g1 : PySem.W.findIn K (.ref C) "__class__" = some (some (.builtin "object.__class__"))) (g4 : PySem.W.mroIn K C (.type "object") = some true) (g6 : PySem.W.findIn K (.ref C) "__ne__" = some (some (.builtin "object.__ne__")))
    (pgS : PySem.W.plainGet K CS Str.empty = true) (hdS : PySem.W.hasDictIn K CS = true) (poS : PySem.W.plainOver K CS = true) (saS : PySem.W.findIn K (.ref CS) "__setattr__" = some (some (.builtin "object.__setattr__"))) (mkS : PySem.W.makesIn K CS = true) (kcS : PySem.W.keepIn K (.ref CS) = true)
    (g1S : PySem.W.findIn K (.ref CS) "__class__" = some (some (.builtin "object.__class__"))) (g4S : PySem.W.mroIn K CS (.type "object") = some true) (g6S : PySem.W.findIn K (.ref CS) "__ne__" = some (some (.builtin "object.__ne__")))
    (nW : PySem.W.findIn K (.ref C) "weight" = some none)
    (nP : PySem.W.findIn K (.ref C) "pattern" = some none)
    (nS : PySem.W.findIn K (.ref C) "settings" = some none)
    (nR : PySem.W.findIn K (.ref CS) "rules" = some none)
    (g2 : PySem.W.specialIn K (.builtin "object.__class__") "__get__" = some (some (.builtin "getset_descriptor.__get__"))) (g3 : PySem.W.takesIn K (.builtin "object.__class__") = some true)
    (g5 : PySem.W.kitOne K (.ref C) (.ref C) = some true) (g5S : PySem.W.kitOne K (.ref CS) (.ref CS) = some true) (g7 : PySem.W.kitOne K (.type "list") (.ref CS) = some false) (g8 : PySem.W.subIn K (.type "list") (.ref CS) = some false)
    (z_len : PySem.W.nsIn K mainGlobals "len" = some none)
    (z_range : PySem.W.nsIn K mainGlobals "range" = some none)
    (z_int : PySem.W.nsIn K mainGlobals "int" = some none)
    (z_abs : PySem.W.nsIn K mainGlobals "abs" = some none)
    (z_enumerate : PySem.W.nsIn K mainGlobals "enumerate" = some none)
    (z_isinstance : PySem.W.nsIn K mainGlobals "isinstance" = some none)
    (z_bool : PySem.W.nsIn K mainGlobals "bool" = some none)
    (z_list : PySem.W.nsIn K mainGlobals "list" = some none)
    (z_tuple : PySem.W.nsIn K mainGlobals "tuple" = some none)
    (z_min : PySem.W.nsIn K mainGlobals "min" = some none)
    (z_all : PySem.W.nsIn K mainGlobals "all" = some none)
    (z_dict : PySem.W.nsIn K mainGlobals "dict" = some none)
    (z_zip : PySem.W.nsIn K mainGlobals "zip" = some none)
    (z_repr : PySem.W.nsIn K mainGlobals "repr" = some none)
    (z_iter : PySem.W.nsIn K mainGlobals "iter" = some none)
    (z_super : PySem.W.nsIn K mainGlobals "super" = some none)
    (z_str : PySem.W.nsIn K mainGlobals "str" = some none)
    (iI : PySem.W.findIn K (.ref CB) "__init__" = some (some (.ref fI))) (lI : K.lookup fI = some ⟨ocI, odI, .func (PySem.W.fnX "__init__" "BadRule.__init__" (defArgs sBad_init) (defBody sBad_init) (supScope "place") [("__class__", cc)] .none kVI dcI pmI anI (.ref cda) ctI), slI⟩)
    (tI : PySem.W.typeIn K (.ref fI) = some (.type "function")) (cI : PySem.W.codeIn K (.ref cda) "BadRule.__init__" = true) (lcda : K.lookup cda = some ⟨ccl, cdd, .fields vs0, ccs⟩) (lcc : K.lookup cc = some ⟨cl, cld, .cell (some (.ref CB)), csl⟩)
    (lC : K.lookup CB = some (excClassObj nmC qC CB NC bsC bmC true snC subC abC colC ddC e0C e1C e2C e3C e5C "ValueError.__new__"))
    (b1 : PySem.W.findIn K (.ref CB) "__setattr__" = some (some (.builtin "object.__setattr__"))) (b2 : PySem.W.subIn K (.ref CB) (.type "BaseException") = some true) (b3 : PySem.W.typeIn K (.ref CB) = some (.type "type")) (b4 : PySem.W.keepIn K (.ref CB) = true)
    (b5 : PySem.W.findIn K (.ref CB) "place" = some none) (b6 : PySem.W.subIn K (.ref CB) (.type "ValueError") = some true) (b7 : PySem.W.mroIn K CB (.ref CB) = some true) (b10 : PySem.W.findIn K (.ref CB) "__getattribute__" = some (some (.builtin "BaseException.__getattribute__")))
    (b11 : PySem.W.findIn K (.ref CB) "__getattr__" = some none) (b12 : PySem.W.hasDictIn K CB = true)
    (iIL : PySem.W.findIn K (.ref CL) "__init__" = some (some (.ref fIL))) (lIL : K.lookup fIL = some ⟨ocIL, odIL, .func (PySem.W.fnX "__init__" "BadLine.__init__" (defArgs sBadL_init) (defBody sBadL_init) (supScope "number") [("__class__", ccL)] .none kVIL dcIL pmIL anIL (.ref cdaL) ctIL), slIL⟩)
    (tIL : PySem.W.typeIn K (.ref fIL) = some (.type "function")) (cIL : PySem.W.codeIn K (.ref cdaL) "BadLine.__init__" = true) (lcdaL : K.lookup cdaL = some ⟨cclL, cddL, .fields vs0L, ccsL⟩) (lccL : K.lookup ccL = some ⟨clL, cldL, .cell (some (.ref CL)), cslL⟩)
    (lCL : K.lookup CL = some (excClassObj nmL qL CL NLL bsL bmL true snL subL abL colL ddL e0L e1L e2L e3L e5L "ValueError.__new__"))
    (h1 : PySem.W.findIn K (.ref CL) "__setattr__" = some (some (.builtin "object.__setattr__"))) (h2 : PySem.W.subIn K (.ref CL) (.type "BaseException") = some true) (h3 : PySem.W.typeIn K (.ref CL) = some (.type "type")) (h4 : PySem.W.keepIn K (.ref CL) = true)
    (h5 : PySem.W.findIn K (.ref CL) "number" = some none) (h6 : PySem.W.subIn K (.ref CL) (.type "ValueError") = some true) (h7 : PySem.W.mroIn K CL (.ref CL) = some true) (h10 : PySem.W.findIn K (.ref CL) "__getattribute__" = some (some (.builtin "BaseException.__getattribute__")))
    (h11 : PySem.W.findIn K (.ref CL) "__getattr__" = some none) (h12 : PySem.W.hasDictIn K CL = true) (h13 : PySem.W.findIn K (.ref CL) "__class__" = some (some (.builtin "object.__class__"))) (h16 : PySem.W.mroIn K CL (.type "object") = some true)
    (k_1 : PySem.HandSPX.refsVE bmC = true) (k_2 : PySem.W.ks_superIn K CB CB "__init__" = some (some (.builtin "ValueError.__init__"))) (k_3 : PySem.W.nsIn K cStatics "thirdparty.any" = some none) (k_4 : (l.prog.main.scope.names.lookup ("super" : Str)).isSome = false)
    (k_5 : vs0[2]? = some (.str file tf)) (k_6 : ((l.prog.main.file : Str) == file) = true) (k_7 : PySem.W.exmOne K (.ref CB) (.ref CB) = some true)
    (k_8 : PySem.HandSPX.refsVE bmL = true) (k_9 : PySem.W.ks_superIn K CL CL "__init__" = some (some (.builtin "ValueError.__init__"))) (k_10 : vs0L[2]? = some (.str fileL tfL)) (k_11 : ((l.prog.main.file : Str) == fileL) = true)
    (k_12 : PySem.W.exmOne K (.ref CL) (.ref CL) = some true) (k_13 : PySem.W.kitOne K (.ref CL) (.ref CP) = some true) (k_14 : PySem.W.kitOne K (.ref CL) (.ref CB) = some false)
    (lit : PySem.W.KeysLit w.params es.toList) (low : (dl == sysModules) = false)
    : ∃ fd : FuncData, (∀ (s : Shared) (v : Value), BindsTo s fd ⟨[v], []⟩ [("_law_script", v)]) ∧ ∀ base : Heap, K.In base → base.Ns mainGlobals mg → FnG l.prog w K mg base 10 fa fd ["_law_script"] (spLaw K) := by
  have e := hfa.symm.trans (PySem.W.mg_of X G a28)
  cases e
  have T : Txt K w mg tv tp tk dl C := by
    refine ⟨(PySem.W.mg_none_of X G z_len), (PySem.W.mg_none_of X G z_range), (PySem.W.mg_none_of X G z_int), (PySem.W.mg_none_of X G z_abs), (PySem.W.mg_none_of X G z_enumerate), (PySem.W.mg_none_of X G z_isinstance), (PySem.W.mg_none_of X G z_bool), (PySem.W.mg_none_of X G z_list), (PySem.W.mg_none_of X G z_tuple), (PySem.W.mg_none_of X G z_min), (PySem.W.mg_none_of X G z_all), (PySem.W.mg_none_of X G z_dict), (PySem.W.mg_none_of X G z_zip), (PySem.W.mg_none_of X G z_repr), (PySem.W.mg_of X G aK), (PySem.W.mg_of X G aV), (PySem.W.mg_of X G aP), (PySem.W.mg_of X G aL), (PySem.W.mg_of X G aC), fun H => .inr ⟨_, _, _, lV, rfl, rfl, (by show 6 ≤ sizeLine; decide), .cons ⟨_, rfl⟩ (.cons ⟨_, rfl⟩ (.cons ⟨_, rfl⟩ (.cons ⟨_, rfl⟩ (.cons ⟨_, rfl⟩ (.cons ⟨_, rfl⟩ (.nil))))))⟩, fun H => .inr ⟨_, _, _, lP, rfl, rfl, (by show 5 ≤ sizeLine; decide), .cons ⟨_, rfl⟩ (.cons ⟨_, rfl⟩ (.cons ⟨_, rfl⟩ (.cons ⟨_, rfl⟩ (.cons ⟨_, rfl⟩ (.nil)))))⟩, fun H => .inr ⟨_, _, _, lK, rfl, rfl, (by show 3 ≤ sizeLine; decide), .cons ⟨_, rfl⟩ (.cons ⟨_, rfl⟩ (.cons ⟨_, rfl⟩ (.nil)))⟩, ⟨es, n4, lL, lit, low⟩, ?t1, ?t2⟩
    case t1 =>
      intro n lo hi hc
      rcases hc with ⟨rfl, rfl, rfl⟩ | ⟨rfl, rfl, rfl⟩ | ⟨rfl, rfl, rfl⟩
      · exact ⟨t1, m_face, fun H => .inr ⟨_, _, _, lt1, rfl, rfl, (by show 2 ≤ sizeLine; decide), .cons ⟨_, rfl⟩ (.cons ⟨_, rfl⟩ (.nil))⟩⟩
      · exact ⟨t2, m_measure, fun H => .inr ⟨_, _, _, lt2, rfl, rfl, (by show 2 ≤ sizeLine; decide), .cons ⟨_, rfl⟩ (.cons ⟨_, rfl⟩ (.nil))⟩⟩
      · exact ⟨t3, m_space, fun H => .inr ⟨_, _, _, lt3, rfl, rfl, (by show 2 ≤ sizeLine; decide), .cons ⟨_, rfl⟩ (.cons ⟨_, rfl⟩ (.nil))⟩⟩
    case t2 =>
      intro n hn
      rcases hn with rfl | rfl | rfl
      · exact m_kept
      · exact m_page
      · exact m_out
  have R : TxR K C := ⟨⟨pg, hd, po, sa⟩, nW, nP, nS, g1, g2, g3, g4, g5⟩
  have S : TxS K mg CS CB := ⟨⟨pgS, hdS, poS, saS⟩, nR, (PySem.W.mg_of X G aS), ⟨_, (PySem.W.mg_of X G aM)⟩, g1S, g4S, g5S, g7⟩
  have OX : OexC K CB := ⟨⟨_, _, _, _, _, _, _, _, _, _, _, _, _, _, _, lC, k_1⟩, b1, b2, b3, b4⟩
  have SC : SupCls l.prog K mg CB "place" := ⟨OX, b5, b6, b7, k_2, k_3, (PySem.W.mg_none_of X G z_super), k_4⟩
  have OL : OexC K CL := ⟨⟨_, _, _, _, _, _, _, _, _, _, _, _, _, _, _, lCL, k_8⟩, h1, h2, h3, h4⟩
  have SL : SupCls l.prog K mg CL "number" := ⟨OL, h5, h6, h7, k_9, k_3, (PySem.W.mg_none_of X G z_super), k_4⟩
  have CT : CatchL K mg CL CP CB := ⟨⟨h10, h11, h2, h12⟩, ⟨h10, h11, h2, h12, h13, g2, g3, h16⟩, h5, (PySem.W.mg_of X G aL2), (PySem.W.mg_of X G aP2), (PySem.W.mg_of X G aB), k_13, k_14, k_12⟩
  have F0 := fun_mk (st := sis_integer) l0 c0 k0
  have b0' := F0.binds (ps := ["value"]) fun _ _ _ _ _ _ us hl => match us, hl with | [_], _ => rfl
  have F1 := fun_mk (st := sis_integer_from) l1 c1 k1
  have b1' := F1.binds (ps := ["value", "low", "high"]) fun _ _ _ _ _ _ us hl => match us, hl with | [_, _, _], _ => rfl
  have F2 := fun_mk (st := sis_row) l2 c2 k2
  have b2' := F2.binds (ps := ["value"]) fun _ _ _ _ _ _ us hl => match us, hl with | [_], _ => rfl
  have F3 := fun_mk (st := svalues_for) l3 c3 k3
  have b3' := F3.binds (ps := ["name"]) fun _ _ _ _ _ _ us hl => match us, hl with | [_], _ => rfl
  have F4 := fun_mk (st := stexts_for) l4 c4 k4
  have b4' := F4.binds (ps := ["name"]) fun _ _ _ _ _ _ us hl => match us, hl with | [_], _ => rfl
  have F5 := fun_mk (st := s_is_pattern) l5 c5 k5
  have b5' := F5.binds (ps := ["pattern"]) fun _ _ _ _ _ _ us hl => match us, hl with | [_], _ => rfl
  have F6 := fun_mk (st := s_is_pair) l6 c6 k6
  have b6' := F6.binds (ps := ["pair"]) fun _ _ _ _ _ _ us hl => match us, hl with | [_], _ => rfl
  have F7 := fun_mk (st := s_is_setting) l7 c7 k7
  have b7' := F7.binds (ps := ["name", "value"]) fun _ _ _ _ _ _ us hl => match us, hl with | [_, _], _ => rfl
  have F8 := fun_mk (st := swrite_rule) l8 c8 k8
  have b8' := F8.binds (ps := ["rule"]) fun _ _ _ _ _ _ us hl => match us, hl with | [_], _ => rfl
  have F9 := fun_mk (st := swrite_sheet) l9 c9 k9
  have b9' := F9.binds (ps := ["sheet"]) fun _ _ _ _ _ _ us hl => match us, hl with | [_], _ => rfl
  have F10 := fun_mk (st := sread_sheet) l10 c10 k10
  have b10' := F10.binds (ps := ["text"]) fun _ _ _ _ _ _ us hl => match us, hl with | [_], _ => rfl
  have F11 := fun_mk (st := s_part) l11 c11 k11
  have b11' := F11.binds (ps := ["name", "value"]) fun _ _ _ _ _ _ us hl => match us, hl with | [_, _], _ => rfl
  have F12 := fun_mk (st := s_fields_of) l12 c12 k12
  have b12' := F12.binds (ps := ["line"]) fun _ _ _ _ _ _ us hl => match us, hl with | [_], _ => rfl
  have F13 := fun_mk (st := s_weight_of) l13 c13 k13
  have b13' := F13.binds (ps := ["parts"]) fun _ _ _ _ _ _ us hl => match us, hl with | [_], _ => rfl
  have F14 := fun_mk (st := s_found) l14 c14 k14
  have b14' := F14.binds (ps := ["parts", "pairs"]) fun _ _ _ _ _ _ us hl => match us, hl with | [_, _], _ => rfl
  have F15 := fun_mk (st := sBag) l15 c15 k15
  have b15' := F15.binds (ps := ["_law_script", "_law_at"]) fun _ _ _ _ _ _ us hl => match us, hl with | [_, _], _ => rfl
  have F16 := fun_mk (st := sDraw) l16 c16 k16
  have b16' := F16.binds (ps := ["_law_bag_here", "_law_many"]) fun _ _ _ _ _ _ us hl => match us, hl with | [_, _], _ => rfl
  have F17 := fun_mk (st := sL_one) l17 c17 k17
  have b17' := F17.binds (ps := ["_law_bag_here", "_law_things"]) fun _ _ _ _ _ _ us hl => match us, hl with | [_, _], _ => rfl
  have F18 := fun_mk (st := sL_few) l18 c18 k18
  have b18' := F18.binds (ps := ["_law_script", "_law_many"]) fun _ _ _ _ _ _ us hl => match us, hl with | [_, _], _ => rfl
  have F19 := fun_mk (st := sL_ask) l19 c19 k19
  have b19' := F19.binds (ps := ["_law_bag_here", "_law_signs"]) fun _ _ _ _ _ _ us hl => match us, hl with | [_, _], _ => rfl
  have F20 := fun_mk (st := sL_setting) l20 c20 k20
  have b20' := F20.binds (ps := ["_law_bag_here", "_law_name", "_law_widest"]) fun _ _ _ _ _ _ us hl => match us, hl with | [_, _, _], _ => rfl
  have F21 := fun_mk (st := sL_rule_row) l21 c21 k21
  have b21' := F21.binds (ps := ["_law_bag_here", "_law_kinds", "_law_widest"]) fun _ _ _ _ _ _ us hl => match us, hl with | [_, _, _], _ => rfl
  have F22 := fun_mk (st := sL_rule_rows) l22 c22 k22
  have b22' := F22.binds (ps := ["_law_bag_here", "_law_kinds", "_law_many", "_law_widest"]) fun _ _ _ _ _ _ us hl => match us, hl with | [_, _, _, _], _ => rfl
  have F23 := fun_mk (st := sL_sheet) l23 c23 k23
  have b23' := F23.binds (ps := ["_law_rows"]) fun _ _ _ _ _ _ us hl => match us, hl with | [_], _ => rfl
  have F24 := fun_mk (st := sL_tokens) l24 c24 k24
  have b24' := F24.binds (ps := ["_law_row"]) fun _ _ _ _ _ _ us hl => match us, hl with | [_], _ => rfl
  have F25 := fun_mk (st := sL_spoilt) l25 c25 k25
  have b25' := F25.binds (ps := ["_law_bag_here", "_law_row"]) fun _ _ _ _ _ _ us hl => match us, hl with | [_, _], _ => rfl
  have F26 := fun_mk (st := sL_read) l26 c26 k26
  have b26' := F26.binds (ps := ["_law_text"]) fun _ _ _ _ _ _ us hl => match us, hl with | [_], _ => rfl
  have F27 := fun_mk (st := sL_wrong) l27 c27 k27
  have b27' := F27.binds (ps := ["_law_bag_here", "_law_rows", "_law_lines"]) fun _ _ _ _ _ _ us hl => match us, hl with | [_, _, _], _ => rfl
  have F28 := fun_mk (st := slaw) l28 c28 k28
  have b28' := F28.binds (ps := ["_law_script"]) fun _ _ _ _ _ _ us hl => match us, hl with | [_], _ => rfl
  have F30 := fun_mk (st := sRule_made) l30 c30 k30
  have b30' := F30.binds (ps := ["cls", "weight", "pattern", "settings"]) fun _ _ _ _ _ _ us hl => match us, hl with | [_, _, _, _], _ => rfl
  have F31 := fun_mk (st := sRule___call__) l31 c31 k31
  have b31' := F31.binds (ps := ["self", "kind", "marks", "context"]) fun _ _ _ _ _ _ us hl => match us, hl with | [_, _, _, _], _ => rfl
  have F32 := fun_mk (st := sRule___eq__) l32 c32 k32
  have b32' := F32.binds (ps := ["self", "other"]) fun _ _ _ _ _ _ us hl => match us, hl with | [_, _], _ => rfl
  have F33 := fun_mk (st := sSheet___init__) l33 c33 k33
  have b33' := F33.binds (ps := ["self", "rules"]) fun _ _ _ _ _ _ us hl => match us, hl with | [_, _], _ => rfl
  have F34 := fun_mk (st := sSheet___iter__) l34 c34 k34
  have b34' := F34.binds (ps := ["self"]) fun _ _ _ _ _ _ us hl => match us, hl with | [_], _ => rfl
  have F35 := fun_mk (st := sSheet___eq__) l35 c35 k35
  have b35' := F35.binds (ps := ["self", "other"]) fun _ _ _ _ _ _ us hl => match us, hl with | [_, _], _ => rfl
  refine ⟨PySem.W.fnOf "law" "law" (defArgs slaw) (defBody slaw) (defScope slaw) .none kV28 dc28 pm28 an28 cd28 ct28, fun s v => .of_eq rfl, fun base _ _ => ?_⟩
  have C_is_integer : CallOk l.prog w K mg base 1 "is_integer" ["value"] spIsInt := call_ok (PySem.W.mg_of X G a0) k0 b0' (ok_is_integer F0 T)
  have C_is_integer_from : CallOk l.prog w K mg base 2 "is_integer_from" ["value", "low", "high"] spIntFrom := call_ok (PySem.W.mg_of X G a1) k1 b1' (ok_int_from F1 C_is_integer)
  have C_is_integerB : CallOk l.prog w K mg base 1 "is_integer" ["value"] spIsIntB := call_ok (PySem.W.mg_of X G a0) k0 b0' (ok_is_integerB F0 T)
  have C_is_integer_fromB : CallOk l.prog w K mg base 2 "is_integer_from" ["value", "low", "high"] spIntFromB := call_ok (PySem.W.mg_of X G a1) k1 b1' (ok_int_fromB F1 C_is_integerB)
  have C_is_row : CallOk l.prog w K mg base 1 "is_row" ["value"] (spIsRow K) := call_ok (PySem.W.mg_of X G a2) k2 b2' (ok_is_row F2 T)
  have C_texts_for : CallOk l.prog w K mg base 1 "texts_for" ["name"] (spTexts K) := call_ok (PySem.W.mg_of X G a4) k4 b4' (ok_texts F4 T)
  have C__is_pattern : CallOk l.prog w K mg base 2 "_is_pattern" ["pattern"] (spIsPat K) := call_ok (PySem.W.mg_of X G a5) k5 b5' (ok_is_pattern F5 T C_texts_for)
  have C__is_pair : CallOk l.prog w K mg base 2 "_is_pair" ["pair"] (spIsPair K) := call_ok (PySem.W.mg_of X G a6) k6 b6' (ok_is_pair F6 T C_is_row)
  have C__is_setting : CallOk l.prog w K mg base 3 "_is_setting" ["name", "value"] spIsSet := call_ok (PySem.W.mg_of X G a7) k7 b7' (ok_is_setting F7 T C_is_integer_from)
  have MR : Mk K C f29 := ⟨mk, a29, i29, kc⟩
  have FI : FnKw l.prog w K mg base CX0 4 f29 (spInitK K C) := ok_init T R l29 c29 (fun k hk => by
    simp only [List.mem_cons, List.not_mem_nil, or_false] at hk
    rcases hk with rfl | rfl | rfl | rfl | rfl
    · exact ⟨_, q_kind⟩
    · exact ⟨_, q_mark⟩
    · exact ⟨_, q_parent⟩
    · exact ⟨_, q_above⟩
    · exact ⟨_, q_elder⟩) C_is_integer_from C__is_pattern C__is_setting
  have RO : RuleOk l.prog w K mg base C := ⟨⟨_, MR, FI⟩, ⟨f32, _, ⟨a32, g6, i32, g4⟩, ok_eqR F32 R (PySem.W.mg_of X G aC) (PySem.W.mg_none_of X G z_isinstance), b32'⟩, ⟨mcC, pM, f30, ⟨crd, cga⟩, ⟨a30, ⟨_, r30⟩, i30⟩, (ok_made F30 T C_is_row C__is_pair MR FI).raw b30' .nil⟩, ⟨f31, ⟨a31, i31, j31⟩, (ok_callR F31 R).raw b31' .nil⟩, by simp [PySem.W.notFirst]⟩
  have TE : ErrOk l.prog w K mg base "BadRule" "place" CB := ⟨OX, (PySem.W.mg_of X G aB), fI, _, iI, tI, bad_binds, ok_badinit SC lI cI lcda k_5 k_6 lcc⟩
  have SM : SMk l.prog w K mg base C CS CB := ⟨⟨f33, _, ⟨mkS, a33, i33, kcS⟩, b33', ok_sinit F33 T R S TE C_is_row⟩⟩
  have ES : EqS l.prog w K mg base C CS := ⟨⟨f35, _, ⟨a35, g6S, i35, g4S⟩, ok_eqS F35 T R S RO, b35'⟩, by simp [PySem.W.notFirst], by simp [PySem.W.notFirst, g8]⟩
  have IS : IterS l.prog w K mg base CS f34 _ := ⟨⟨a34, i34⟩, b34', ok_iter F34 S (PySem.W.mg_none_of X G z_iter)⟩
  have C__law_bag : CallOk l.prog w K mg base 1 "_law_bag" ["_law_script", "_law_at"] (spBag K) := call_ok (PySem.W.mg_of X G a15) k15 b15' (ok_bag F15 (PySem.W.mg_none_of X G z_int) (PySem.W.mg_none_of X G z_abs) (PySem.W.mg_none_of X G z_len) (PySem.W.mg_none_of X G z_enumerate))
  have C__law_draw : CallOk l.prog w K mg base 1 "_law_draw" ["_law_bag_here", "_law_many"] spDraw := call_ok (PySem.W.mg_of X G a16) k16 b16' (ok_draw F16 (PySem.W.mg_none_of X G z_int))
  have C__law_one : CallOk l.prog w K mg base 2 "_law_one" ["_law_bag_here", "_law_things"] (spOne K) := call_ok (PySem.W.mg_of X G a17) k17 b17' (ok_one F17 C__law_draw (PySem.W.mg_none_of X G z_len))
  have C__law_few : CallOk l.prog w K mg base 1 "_law_few" ["_law_script", "_law_many"] (spFew K) := call_ok (PySem.W.mg_of X G a18) k18 b18' (ok_few F18 T)
  have C__law_ask : CallOk l.prog w K mg base 2 "_law_ask" ["_law_bag_here", "_law_signs"] spAsk := call_ok (PySem.W.mg_of X G a19) k19 b19' (ok_ask F19 T C__law_draw)
  have C__law_setting : CallOk l.prog w K mg base 2 "_law_setting" ["_law_bag_here", "_law_name", "_law_widest"] spSet0 := call_ok (PySem.W.mg_of X G a20) k20 b20' (ok_set0 F20 C__law_draw)
  have C__law_rule_row : CallOk l.prog w K mg base 3 "_law_rule_row" ["_law_bag_here", "_law_kinds", "_law_widest"] (spRow K) := call_ok (PySem.W.mg_of X G a21) k21 b21' (ok_row F21 T C__law_draw C__law_ask C__law_setting)
  have C__law_rule_rows : CallOk l.prog w K mg base 4 "_law_rule_rows" ["_law_bag_here", "_law_kinds", "_law_many", "_law_widest"] (spRows K) := call_ok (PySem.W.mg_of X G a22) k22 b22' (ok_rows F22 T C__law_draw C__law_rule_row)
  have C__law_sheet : CallOk l.prog w K mg base 8 "_law_sheet" ["_law_rows"] (spSheetL K C CS) := call_ok (PySem.W.mg_of X G a23) k23 b23' (ok_sheetL F23 T S RO SM)
  have TL : ErrOkI l.prog w K mg base "BadLine" "number" CL := ⟨OL, (PySem.W.mg_of X G aL2), fIL, _, iIL, tIL, badl_binds, ok_badlinit SL lIL cIL lcdaL k_10 k_11 lccL⟩
  have C__part : CallOk l.prog w K mg base 1 "_part" ["name", "value"] spPart := call_ok (PySem.W.mg_of X G a11) k11 b11' (ok_part F11)
  have C_values_for : CallOk l.prog w K mg base 1 "values_for" ["name"] (spVals K) := call_ok (PySem.W.mg_of X G a3) k3 b3' (ok_values_for F3 T)
  have C__weight_of : CallOk l.prog w K mg base 1 "_weight_of" ["parts"] (spWeight K) := call_ok (PySem.W.mg_of X G a13) k13 b13' (ok_weight F13 T (PySem.W.mg_none_of X G z_str))
  have C__found : CallOk l.prog w K mg base 2 "_found" ["parts", "pairs"] (spFound K) := call_ok (PySem.W.mg_of X G a14) k14 b14' (ok_found F14 C__part)
  have C__fields_of : CallOk l.prog w K mg base 3 "_fields_of" ["line"] (spFields K) := call_ok (PySem.W.mg_of X G a12) k12 b12' (ok_fields F12 T C__weight_of C__found C_texts_for C_values_for)
  have C_write_rule : CallOk l.prog w K mg base 2 "write_rule" ["rule"] (spWR K C) := call_ok (PySem.W.mg_of X G a8) k8 b8' (ok_write_rule F8 T R (PySem.W.mg_none_of X G z_str) C__part)
  have C_write_sheet : CallOk l.prog w K mg base 3 "write_sheet" ["sheet"] (spWS K C CS) := call_ok (PySem.W.mg_of X G a9) k9 b9' (ok_write_sheet F9 IS C_write_rule)
  have C_read_sheet : CallOkX l.prog w K mg base 7 "read_sheet" ["text"] (spRead K C CS CL) := ⟨⟨f10, _, PySem.W.mg_of X G a10, k10, b10', ok_read F10 T S RO SM TL C__fields_of⟩⟩
  have C__law_tokens : CallOk l.prog w K mg base 1 "_law_tokens" ["_law_row"] (spTok K) := call_ok (PySem.W.mg_of X G a24) k24 b24' (ok_tokens F24 T (PySem.W.mg_none_of X G z_str))
  have C__law_spoilt : CallOk l.prog w K mg base 3 "_law_spoilt" ["_law_bag_here", "_law_row"] (spSpoilt K) := call_ok (PySem.W.mg_of X G a25) k25 b25' (ok_spoilt F25 T C__law_tokens C__law_draw C__law_one)
  have C__law_read : CallOk l.prog w K mg base 8 "_law_read" ["_law_text"] (spLRead K C CS) := call_ok (PySem.W.mg_of X G a26) k26 b26' (ok_lread F26 T CT C_read_sheet)
  have C__law_wrong_texts : CallOk l.prog w K mg base 9 "_law_wrong_texts" ["_law_bag_here", "_law_rows", "_law_lines"] (spWrong K) := call_ok (PySem.W.mg_of X G a27) k27 b27' (ok_wrong F27 T C__law_read C__law_draw C__law_one C__law_spoilt)
  exact ok_law F28 T R S (PySem.W.mg_none_of X G z_str) ES IS C__law_few C__law_bag C__law_rule_rows C__law_sheet C__law_tokens C_write_sheet C_write_rule C__law_read C__law_wrong_texts
theorem walk_law {l : PySem.W.OpenLaw} {q : Program} {loose : List Str} {XP : (Str → Option Value) → Heap → Prop} {YP : World → Heap → Prop} {d : DefRec} {K : Params → PySem.W.Frag} (hmost : l.most = some 63) (hdf : d.params.defaults = [])
    (hin : ∀ (w : World) (h : Heap), YP w h → (K w.params).In h)
    (all : ∀ (w : World) (mg : Str → Option Value) (fa : Addr) (h : Heap), (K w.params).In h → h.Ns mainGlobals mg → mg d.name = some (.ref fa) →
      ∃ fd : FuncData, (∀ (s : Shared) (u : Value), BindsTo s fd ⟨[u], []⟩ [("_law_script", u)]) ∧ ∀ base : Heap, (K w.params).In base → base.Ns mainGlobals mg → FnG l.prog w (K w.params) mg base 10 fa fd ["_law_script"] (spLaw (K w.params))) :
    PySem.W.WalkO q loose XP YP l.row.toRowW d [] (fun f vs => PySem.call f vs) :=
  walkG (n := 63) (k := 10) (x := "_law_script") (sp := fun w => spLaw (K w.params)) hmost (by decide) hdf ⟨rfl, by decide, by decide⟩ hin all fun _ _ a ns hl _ hS => ⟨a, ns, rfl, hS, hl, fun _ => rfl⟩
end Pa
namespace Pa
open PySem PySem.Spec PyProof.Rows L2
theorem kitOne_self (K : PySem.W.Frag) (t : Value) : PySem.W.kitOne K t t = some true := by
  unfold PySem.W.kitOne
  exact if_pos (beq_self_eq_true t)
theorem kitOne_ref {K : PySem.W.Frag} {T : String} {C : Addr} (h : PySem.W.isClsIn K C = true) (ht : PySem.W.typeIn K (.ref C) = some (.type "type")) (hs : PySem.W.subIn K (.type T) (.ref C) = some false) : PySem.W.kitOne K (.type T) (.ref C) = some false := by
  have n : (Value.type T == Value.ref C) = false := by
    cases e : (Value.type T == Value.ref C)
    · rfl
    · exact absurd (eq_of_beq e) (by intro z; cases z)
  unfold PySem.W.kitOne PySem.W.kitCls
  rw [if_neg (by rw [n]; decide)]
  simp only []
  rw [if_pos (by rw [Bool.and_eq_true]; exact ⟨h, beq_iff_eq.mpr ht⟩)]
  exact hs
end Pa
open PySem PySem.W PyProof.Rows in
set_option maxRecDepth 100000 in
set_option maxHeartbeats 0 in
theorem PySem.Challenge.cw_pressalike_k19_texts_of_sheets_holds : PySem.Challenge.rw_pressalike_k19_texts_of_sheets.Holds := by
  w_on; o_law; k_head; (case hw => w_witness2)
  k_fill
  refine Pa.walk_law (l := PySem.Challenge.rw_pressalike_k19_texts_of_sheets) rfl rfl (fun w h Y => PySem.W.kIn_of Y) ?F
  case F =>
    intro w mg fa h KX G hmg
    refine' Pa.all_mk KX G hmg ?aK ?aV ?aP ?aL ?aC ?aS ?aB ?aL2 ?aP2 ?aM ?a0 ?l0 ?c0 ?k0 ?a1 ?l1 ?c1 ?k1 ?a2 ?l2 ?c2 ?k2 ?a3 ?l3 ?c3 ?k3 ?a4 ?l4 ?c4 ?k4 ?a5 ?l5 ?c5 ?k5 ?a6 ?l6 ?c6 ?k6 ?a7 ?l7 ?c7 ?k7 ?a8 ?l8 ?c8 ?k8 ?a9 ?l9 ?c9 ?k9 ?a10 ?l10 ?c10 ?k10 ?a11 ?l11 ?c11 ?k11 ?a12 ?l12 ?c12 ?k12 ?a13 ?l13 ?c13 ?k13 ?a14 ?l14 ?c14 ?k14 ?a15 ?l15 ?c15 ?k15 ?a16 ?l16 ?c16 ?k16 ?a17 ?l17 ?c17 ?k17 ?a18 ?l18 ?c18 ?k18 ?a19 ?l19 ?c19 ?k19 ?a20 ?l20 ?c20 ?k20 ?a21 ?l21 ?c21 ?k21 ?a22 ?l22 ?c22 ?k22 ?a23 ?l23 ?c23 ?k23 ?a24 ?l24 ?c24 ?k24 ?a25 ?l25 ?c25 ?k25 ?a26 ?l26 ?c26 ?k26 ?a27 ?l27 ?c27 ?k27 ?a28 ?l28 ?c28 ?k28 ?a29 ?i29 ?l29 ?c29 ?k29 ?mcT ?a30 ?r30 ?i30 ?crd ?cga ?l30 ?c30 ?k30 ?a31 ?i31 ?j31 ?l31 ?c31 ?k31 ?a32 ?i32 ?l32 ?c32 ?k32 ?a33 ?i33 ?l33 ?c33 ?k33 ?a34 ?i34 ?l34 ?c34 ?k34 ?a35 ?i35 ?l35 ?c35 ?k35 ?lV ?lP ?lK ?lL ?m_face ?m_measure ?m_space ?m_kept ?m_page ?m_out ?lt1 ?lt2 ?lt3 ?q_kind ?q_mark ?q_parent ?q_above ?q_elder ?pg ?hd ?po ?sa ?mk ?kc ?g1 ?g4 ?g6 ?pgS ?hdS ?poS ?saS ?mkS ?kcS ?g1S ?g4S ?g6S ?nW ?nP ?nS ?nR ?g2 ?g3 ?g5 ?g5S ?g7 ?g8 ?z_len ?z_range ?z_int ?z_abs ?z_enumerate ?z_isinstance ?z_bool ?z_list ?z_tuple ?z_min ?z_all ?z_dict ?z_zip ?z_repr ?z_iter ?z_super ?z_str ?iI ?lI ?tI ?cI ?lcda ?lcc ?lC ?b1 ?b2 ?b3 ?b4 ?b5 ?b6 ?b7 ?b10 ?b11 ?b12 ?iIL ?lIL ?tIL ?cIL ?lcdaL ?lccL ?lCL ?h1 ?h2 ?h3 ?h4 ?h5 ?h6 ?h7 ?h10 ?h11 ?h12 ?h13 ?h16 ?k_1 ?k_2 ?k_3 ?k_4 ?k_5 ?k_6 ?k_7 ?k_8 ?k_9 ?k_10 ?k_11 ?k_12 ?k_13 ?k_14 ?lit ?low
    (case aK => k_is)
    (case aV => k_is)
    (case aP => k_is)
    (case aL => k_is)
    (case aC => k_is)
    (case aS => k_is)
    (case aB => k_is)
    (case aL2 => k_is)
    (case aP2 => k_is)
    (case aM => k_is)
    (case a0 => k_is)
    (case l0 => k_is)
    (case c0 => k_is)
    (case k0 => k_is)
    (case a1 => k_is)
    (case l1 => k_is)
    (case c1 => k_is)
    (case k1 => k_is)
    (case a2 => k_is)
    (case l2 => k_is)
    (case c2 => k_is)
    (case k2 => k_is)
    (case a3 => k_is)
    (case l3 => k_is)
    (case c3 => k_is)
    (case k3 => k_is)
    (case a4 => k_is)
    (case l4 => k_is)
    (case c4 => k_is)
    (case k4 => k_is)
    (case a5 => k_is)
    (case l5 => k_is)
    (case c5 => k_is)
    (case k5 => k_is)
    (case a6 => k_is)
    (case l6 => k_is)
    (case c6 => k_is)
    (case k6 => k_is)
    (case a7 => k_is)
    (case l7 => k_is)
    (case c7 => k_is)
    (case k7 => k_is)
    (case a8 => k_is)
    (case l8 => k_is)
    (case c8 => k_is)
    (case k8 => k_is)
    (case a9 => k_is)
    (case l9 => k_is)
    (case c9 => k_is)
    (case k9 => k_is)
    (case a10 => k_is)
    (case l10 => k_is)
    (case c10 => k_is)
    (case k10 => k_is)
    (case a11 => k_is)
    (case l11 => k_is)
    (case c11 => k_is)
    (case k11 => k_is)
    (case a12 => k_is)
    (case l12 => k_is)
    (case c12 => k_is)
    (case k12 => k_is)
    (case a13 => k_is)
    (case l13 => k_is)
    (case c13 => k_is)
    (case k13 => k_is)
    (case a14 => k_is)
    (case l14 => k_is)
    (case c14 => k_is)
    (case k14 => k_is)
    (case a15 => k_is)
    (case l15 => k_is)
    (case c15 => k_is)
    (case k15 => k_is)
    (case a16 => k_is)
    (case l16 => k_is)
    (case c16 => k_is)
    (case k16 => k_is)
    (case a17 => k_is)
    (case l17 => k_is)
    (case c17 => k_is)
    (case k17 => k_is)
    (case a18 => k_is)
    (case l18 => k_is)
    (case c18 => k_is)
    (case k18 => k_is)
    (case a19 => k_is)
    (case l19 => k_is)
    (case c19 => k_is)
    (case k19 => k_is)
    (case a20 => k_is)
    (case l20 => k_is)
    (case c20 => k_is)
    (case k20 => k_is)
    (case a21 => k_is)
    (case l21 => k_is)
    (case c21 => k_is)
    (case k21 => k_is)
    (case a22 => k_is)
    (case l22 => k_is)
    (case c22 => k_is)
    (case k22 => k_is)
    (case a23 => k_is)
    (case l23 => k_is)
    (case c23 => k_is)
    (case k23 => k_is)
    (case a24 => k_is)
    (case l24 => k_is)
    (case c24 => k_is)
    (case k24 => k_is)
    (case a25 => k_is)
    (case l25 => k_is)
    (case c25 => k_is)
    (case k25 => k_is)
    (case a26 => k_is)
    (case l26 => k_is)
    (case c26 => k_is)
    (case k26 => k_is)
    (case a27 => k_is)
    (case l27 => k_is)
    (case c27 => k_is)
    (case k27 => k_is)
    (case a28 => k_is)
    (case l28 => k_is)
    (case c28 => k_is)
    (case k28 => k_is)
    (case a29 => k_is)
    (case i29 => k_is)
    (case l29 => k_is)
    (case c29 => k_is)
    (case k29 => k_is)
    (case mcT => k_is)
    (case a30 => k_is)
    (case r30 => k_is)
    (case i30 => k_is)
    (case crd => k_is)
    (case cga => k_is)
    (case l30 => k_is)
    (case c30 => k_is)
    (case k30 => k_is)
    (case a31 => k_is)
    (case i31 => k_is)
    (case j31 => k_is)
    (case l31 => k_is)
    (case c31 => k_is)
    (case k31 => k_is)
    (case a32 => k_is)
    (case i32 => k_is)
    (case l32 => k_is)
    (case c32 => k_is)
    (case k32 => k_is)
    (case a33 => k_is)
    (case i33 => k_is)
    (case l33 => k_is)
    (case c33 => k_is)
    (case k33 => k_is)
    (case a34 => k_is)
    (case i34 => k_is)
    (case l34 => k_is)
    (case c34 => k_is)
    (case k34 => k_is)
    (case a35 => k_is)
    (case i35 => k_is)
    (case l35 => k_is)
    (case c35 => k_is)
    (case k35 => k_is)
    (case lV => k_is)
    (case lP => k_is)
    (case lK => k_is)
    (case lL => k_is)
    (case m_face => k_is)
    (case m_measure => k_is)
    (case m_space => k_is)
    (case m_kept => k_is)
    (case m_page => k_is)
    (case m_out => k_is)
    (case lt1 => k_is)
    (case lt2 => k_is)
    (case lt3 => k_is)
    (case q_kind => k_is)
    (case q_mark => k_is)
    (case q_parent => k_is)
    (case q_above => k_is)
    (case q_elder => k_is)
    (case pg => k_is)
    (case hd => k_is)
    (case po => k_is)
    (case sa => k_is)
    (case mk => k_is)
    (case kc => k_is)
    (case g1 => k_is)
    (case g4 => k_is)
    (case g6 => k_is)
    (case pgS => k_is)
    (case hdS => k_is)
    (case poS => k_is)
    (case saS => k_is)
    (case mkS => k_is)
    (case kcS => k_is)
    (case g1S => k_is)
    (case g4S => k_is)
    (case g6S => k_is)
    (case nW => k_is)
    (case nP => k_is)
    (case nS => k_is)
    (case nR => k_is)
    (case g2 => k_is)
    (case g3 => k_is)
    (case g5 => exact Pa.kitOne_self _ _)
    (case g5S => exact Pa.kitOne_self _ _)
    (case g7 => (refine Pa.kitOne_ref ?gk1 ?gk2 ?gk3; (case gk1 => k_is); (case gk2 => k_is); (case gk3 => k_is)))
    (case g8 => k_is)
    (case z_len => k_is)
    (case z_range => k_is)
    (case z_int => k_is)
    (case z_abs => k_is)
    (case z_enumerate => k_is)
    (case z_isinstance => k_is)
    (case z_bool => k_is)
    (case z_list => k_is)
    (case z_tuple => k_is)
    (case z_min => k_is)
    (case z_all => k_is)
    (case z_dict => k_is)
    (case z_zip => k_is)
    (case z_repr => k_is)
    (case z_iter => k_is)
    (case z_super => k_is)
    (case z_str => k_is)
    (case iI => k_is)
    (case lI => k_is)
    (case tI => k_is)
    (case cI => k_is)
    (case lcda => k_is)
    (case lcc => k_is)
    (case lC => k_is)
    (case b1 => k_is)
    (case b2 => k_is)
    (case b3 => k_is)
    (case b4 => k_is)
    (case b5 => k_is)
    (case b6 => k_is)
    (case b7 => k_is)
    (case b10 => k_is)
    (case b11 => k_is)
    (case b12 => k_is)
    (case iIL => k_is)
    (case lIL => k_is)
    (case tIL => k_is)
    (case cIL => k_is)
    (case lcdaL => k_is)
    (case lccL => k_is)
    (case lCL => k_is)
    (case h1 => k_is)
    (case h2 => k_is)
    (case h3 => k_is)
    (case h4 => k_is)
    (case h5 => k_is)
    (case h6 => k_is)
    (case h7 => k_is)
    (case h10 => k_is)
    (case h11 => k_is)
    (case h12 => k_is)
    (case h13 => k_is)
    (case h16 => k_is)
    (case k_1 => kernel_rfl)
    (case k_2 => kernel_rfl)
    (case k_3 => kernel_rfl)
    (case k_4 => kernel_rfl)
    (case k_5 => exact rfl)
    (case k_6 => kernel_rfl)
    (case k_7 => kernel_rfl)
    (case k_8 => kernel_rfl)
    (case k_9 => kernel_rfl)
    (case k_10 => exact rfl)
    (case k_11 => kernel_rfl)
    (case k_12 => kernel_rfl)
    (case k_13 => kernel_rfl)
    (case k_14 => kernel_rfl)
    (case lit => (first | k_keys | k_is))
    (case low => (first | decide | k_is | rfl))
