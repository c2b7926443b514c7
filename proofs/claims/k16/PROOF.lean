import PyProof.Rows.All
import Wide.All
import OpenK.AllK
import Wide.FinOn
import HandS.ForMost
import HandS.Wide
import HandS.Walk
import HandS.TupAny
import HandS.IsInst
import HandS.Star
import HandS.Defaults
import KE.KParD
import HandS.OwnEq
import PyProof.InstEq
import PyProof.DictUpdate
import KE.KStar
import HandS.MakeKw
import KE.KDictZip
import HandS.Zip0
import HandS.Zip
import HandS.More
import HandS.TupLe
import HandS.NoneIn
import HandS.Flow
import HandS.RaiseMore
import HandS.ClsMeth
import PyProof.ListStr
import KE.KRevSl
import PySem.Challenge.RW_pressalike_k16_rules_match_pieces
set_option Elab.async false
set_option linter.all false
set_option maxRecDepth 100000
set_option maxHeartbeats 4000000
namespace Pa
open PySem PySem.Spec PyProof.Rows L2
/-! ### calls of defs, by one fact each -/
/-- the module's name x holds a def that keeps the promise sp -/
structure CallOk (P : Program) (w : World) (K : PySem.W.Frag) (mg : Str → Option Value) (base : Heap) (k : Nat) (x : Str) (ps : List Str) (sp : Sp) : Prop where
  ok : ∃ (f : Addr) (fd : FuncData), mg x = some (.ref f) ∧ PySem.W.keepIn K (.ref f) = true ∧ Binds K fd ps [] ∧ FnOk P w K mg base CX0 k f fd ps sp
theorem CallOk.imp {P : Program} {w : World} {K : PySem.W.Frag} {mg : Str → Option Value} {base : Heap} {k : Nat} {x : Str} {ps : List Str} {sp sp' : Sp} (C : CallOk P w K mg base k x ps sp) (h : ∀ vs H Q E, sp' vs H Q E → sp vs H Q E) : CallOk P w K mg base k x ps sp' := by
  obtain ⟨f, fd, h1, h2, h3, h4⟩ := C.ok
  exact ⟨f, fd, h1, h2, h3, h4.imp h⟩
theorem call_ok {P : Program} {w : World} {K : PySem.W.Frag} {mg : Str → Option Value} {base : Heap} {k : Nat} {x : Str} {ps : List Str} {sp : Sp} {f : Addr} {fd : FuncData} (m : mg x = some (.ref f)) (kp : PySem.W.keepIn K (.ref f) = true) (b : Binds K fd ps []) (F : FnOk P w K mg base CX0 k f fd ps sp) :
    CallOk P w K mg base k x ps sp := ⟨f, fd, m, kp, b, F⟩
section
variable {X : Cx} {k : Nat} {ps : List Str} {sp : Sp} {x : Str} {p pos : Pos} {e : Expr} {es : List Expr} {t : TA}
theorem pe_cc (C : CallOk X.prog X.w X.K X.mg X.base k x ps sp) (hr : Room k X.A) (hg : Gl X x) (ha : PA X (e :: es) t) (hdb : (x == ("__debug__" : Str)) = false := by decide)
    (he : starEach (e :: es) X.env = (false, eval e X.env) :: starEach es X.env := by rfl) (hpl : (backTo pos (starEach es X.env)).any (·.1) = false := by rfl) : PE X (.Call (.Name x p) (e :: es) [] pos) (tCall sp [] E0 t) := by
  obtain ⟨f, fd, h1, h2, h3, h4⟩ := C.ok
  exact pe_call h4 hr hg h1 h2 h3 .nil pass0 ha hdb he hpl
theorem pe_cc0 (C : CallOk X.prog X.w X.K X.mg X.base k x ps sp) (hr : Room k X.A) (hg : Gl X x) (hdb : (x == ("__debug__" : Str)) = false := by decide) : PE X (.Call (.Name x p) [] [] pos) (tCall sp [] E0 tNil) := by
  obtain ⟨f, fd, h1, h2, h3, h4⟩ := C.ok
  exact pe_call0 h4 hr hg h1 h2 h3 .nil pass0 hdb
end
def topS (i : Nat) : Stmt := PySem.Challenge.pw_pressalike_k16_rules_match_pieces.main.body.getD i (.Pass ⟨0, 0, 0, 0⟩)
abbrev sL_one : Stmt := topS 20
abbrev sBag : Stmt := topS 18
abbrev sDraw : Stmt := topS 19
theorem scBag : FnScope ["_law_script", "_law_at", "_law_great", "_law_mixed", "_law_place", "_law_cell"] ["_law_script", "_law_at"] (defScope sBag) := ⟨rfl, rfl, rfl, by decide +kernel, rfl, by decide +kernel, by decide +kernel⟩
theorem scDraw : FnScope ["_law_bag_here", "_law_many", "_law_digit"] ["_law_bag_here", "_law_many"] (defScope sDraw) := ⟨rfl, rfl, rfl, by decide +kernel, rfl, by decide +kernel, by decide +kernel⟩
theorem atI_ints {ns : List Int} {i : Int} (h0 : 0 ≤ i) (h : i < (ns.length : Int)) : ∃ z : Int, atI (ns.map V.int) i = some (.int z) := by
  obtain ⟨n, rfl⟩ : ∃ n : Nat, i = (n : Int) := ⟨i.toNat, by omega⟩
  have hn : n < ns.length := by omega
  exact ⟨ns[n], atI_nat (j := n) (by rw [List.getElem?_map, List.getElem?_eq_getElem hn]; rfl)⟩
theorem join1 {α : Type} {G : α → Prop} {T : Prop} (h : (∀ y, G y) → T) (g : ∀ y, G y) : T := h g
/-- a source of draws stands at b -/
def IsBag (H : Hp) (b : Addr) : Prop := ∃ g x c : Int, H b = some (.lst [.int g, .int x, .int c])
/-- at most the source at b has changed -/
structure Bk (b : Addr) (H H' : Hp) : Prop where
  bag : IsBag H' b
  keep : ∀ q o, q ≠ b → H q = some o → H' q = some o
theorem Bk.trans {b : Addr} {H H1 H2 : Hp} (x : Bk b H H1) (y : Bk b H1 H2) : Bk b H H2 := ⟨y.bag, fun q o hq e => y.keep q o hq (x.keep q o hq e)⟩
theorem Bk.seqL {K : PySem.W.Frag} {b p : Addr} {H H' : Hp} {xs : List V} (x : Bk b H H') (h : SqL K H p xs) (hp : p ≠ b) : SqL K H' p xs := by
  rcases h with (h | ⟨o, h⟩) | h
  · exact .inl (.inl (x.keep _ _ hp h))
  · exact .inl (.inr ⟨o, x.keep _ _ hp h⟩)
  · exact .inr h
theorem Bk.seqT {K : PySem.W.Frag} {b p : Addr} {H H' : Hp} {xs : List V} (x : Bk b H H') (h : SqT K H p xs) (hp : p ≠ b) : SqT K H' p xs := by
  rcases h with (h | ⟨o, h⟩) | h
  · exact .inl (.inl (x.keep _ _ hp h))
  · exact .inl (.inr ⟨o, x.keep _ _ hp h⟩)
  · exact .inr h
/-- a new object beside it -/
theorem Bk.fresh {b p : Addr} {H H' : Hp} {o : HO} (x : Bk b H H') (h : H' p = none) : Bk b H (upd H' p o) := by
  obtain ⟨⟨g, y, c, e⟩, kp⟩ := x
  exact ⟨⟨g, y, c, by rw [upd_ne (ne_of_none e h)]; exact e⟩, fun q u hq eq => by rw [upd_ne (ne_of_none (kp q u hq eq) h)]; exact kp q u hq eq⟩
theorem Bk.free {b p : Addr} {H H' : Hp} (x : Bk b H H') (hb : IsBag H b) (h : H' p = none) : H p = none := by
  cases e : H p with
  | none => rfl
  | some o =>
    by_cases q : p = b
    · obtain ⟨g, y, c, e2⟩ := x.bag
      rw [q, e2] at h
      cases h
    · rw [x.keep p o q e] at h
      cases h
def spDraw : Sp := fun vs H Q _ => ∃ (b : Addr) (m : Int), vs = [.ref b, .int m] ∧ IsBag H b ∧ 1 ≤ m ∧ m < 2 ^ 200 ∧
  ∀ (d : Int) (H' : Hp), 0 ≤ d → d < m → Bk b H H' → Q (.int d) H'
section
variable {P : Program} {w : World} {K : PySem.W.Frag} {mg : Str → Option Value} {base : Heap}
theorem ok_draw {f : Addr} {fd : FuncData} (F : Fun K "_law_draw" "_law_draw" sDraw f fd) (mi : mg "int" = none) : FnOk P w K mg base CX0 1 f fd ["_law_bag_here", "_law_many"] spDraw := by
  refine F.ok scDraw (fun vs H Q E h => ?_) (fun cdv A outer s H vs Q E hr h => ?_)
  · obtain ⟨b, m, rfl, _⟩ := h
    rfl
  · obtain ⟨b, m, rfl, ⟨g, x, c, hb⟩, h1, h2, k⟩ := h
    have nd := scDraw.nd
    refine ⟨_, pss_cons (ps_if (pt_cmpR op_gt (pe_ix ix_list (pv 0) pe_int (fun _ _ => rfl)) pe_int (nomark _))
        (pss_cons (ps_set (i := 2) nd rfl (.inl rfl) (pe_op op_mod (pe_callTy call_int1 (by rfl) mi (by decide +kernel) (pa_cons (pe_ix ix_list (pv 0) pe_int (fun _ _ => rfl)) pa_nil)) (pv 1)))
        (pss_cons (ps_asg (pe_op op_fdivW (pe_ix ix_list (pv 0) pe_int (fun _ _ => rfl)) (pv 1)) (pg_sub (pv 0) pe_int set_list))
        (pss_one (ps_ret (pv 2))))) pss_nil)
      (pss_cons (ps_asg (pe_op op_add (pe_ix ix_list (pv 0) pe_int (fun _ _ => rfl)) pe_int) (pg_sub (pv 0) pe_int set_list))
      (pss_cons (ps_asg (pe_op op_mod (pe_callTy call_int1 (by rfl) mi (by decide +kernel) (pa_cons (pe_op op_add (pe_op op_add (pe_op op_mul (pe_ix ix_list (pv 0) pe_int (fun _ _ => rfl)) pe_int) (pe_op op_mul pe_int (pe_ix ix_list (pv 0) pe_int (fun _ _ => rfl)))) pe_int) pa_nil)) pe_int) (pg_sub (pv 0) pe_int set_list))
      (pss_one (ps_ret (pe_op op_mod (pe_op op_fdiv (pe_callTy call_int1 (by rfl) mi (by decide +kernel) (pa_cons (pe_op op_mod (pe_callTy call_int1 (by rfl) mi (by decide +kernel) (pa_cons (pe_op op_add (pe_op op_mul (pe_ix ix_list (pv 0) pe_int (fun _ _ => rfl)) pe_int) (pe_op op_mul pe_int (pe_ix ix_list (pv 0) pe_int (fun _ _ => rfl)))) pa_nil)) pe_int) pa_nil)) pe_int) (pv 1)))))), ?_⟩
    have i0 : ∀ {z0 z1 z2 : V}, atI [z0, z1, z2] 0 = some z0 := fun {z0 z1 z2} => atI_nat (j := 0) rfl
    have i1 : ∀ {z0 z1 z2 : V}, atI [z0, z1, z2] 1 = some z1 := fun {z0 z1 z2} => atI_nat (j := 1) rfl
    have i2 : ∀ {z0 z1 z2 : V}, atI [z0, z1, z2] 2 = some z2 := fun {z0 z1 z2} => atI_nat (j := 2) rfl
    -- if bag[0] > 0
    refine ⟨_, rfl, b, _, _, _, rfl, rfl, SqL.of hb, i0, _, _, rfl, rfl, _, rfl, ite2 (fun hg => ?_) (fun hg => ?_)⟩
    · -- digit = int(bag[0]) % many; bag[0] = bag[0] // many; return digit
      refine ⟨_, rfl, b, _, _, _, rfl, rfl, SqL.of hb, i0, .inl ⟨_, rfl, _, rfl, _, _, rfl, rfl, (by show (0 : Int) < m; omega), ?_⟩⟩
      refine ⟨_, rfl, b, _, _, _, rfl, rfl, SqL.of hb, i0, _, rfl, _, _, rfl, rfl, wide_div (b := 200) (by omega) (by omega) (by decide) (by decide), ?_⟩
      refine ⟨_, rfl, b, _, _, 0, rfl, rfl, hb, rfl, ?_⟩
      refine ⟨_, rfl, k _ _ (Int.emod_nonneg _ (by omega)) (Int.emod_lt_of_pos _ (by omega)) ⟨⟨_, _, _, upd_same⟩, fun q o hq e => by rw [upd_ne hq]; exact e⟩⟩
    · refine ⟨_, rfl, b, _, _, _, rfl, rfl, SqL.of hb, i2, _, _, rfl, rfl, ?_⟩
      refine ⟨_, rfl, b, _, _, 2, rfl, rfl, hb, rfl, ?_⟩
      have hb2 : (upd H b (.lst [.int g, .int x, .int (c + 1)])) b = some (.lst [.int g, .int x, .int (c + 1)]) := upd_same
      refine ⟨_, rfl, b, _, _, _, rfl, rfl, SqL.of hb2, i1, _, _, rfl, rfl, .inr (by decide), _, rfl, b, _, _, _, rfl, rfl, SqL.of hb2, i2, _, _, rfl, rfl, .inl (by decide), ?_⟩
      refine ⟨_, _, rfl, rfl, _, _, rfl, rfl, .inl ⟨_, rfl, _, _, rfl, rfl, (by show (0 : Int) < 2147483647; decide), ?_⟩⟩
      refine ⟨_, rfl, b, _, _, 1, rfl, rfl, hb2, rfl, ?_⟩
      have hb3 : ∀ z : Int, (upd (upd H b (.lst [.int g, .int x, .int (c + 1)])) b (.lst [.int g, .int z, .int (c + 1)])) b = some (.lst [.int g, .int z, .int (c + 1)]) := fun z => upd_same
      refine ⟨_, rfl, b, _, _, _, rfl, rfl, SqL.of (hb3 _), i1, _, _, rfl, rfl, .inr (by decide), _, rfl, b, _, _, _, rfl, rfl, SqL.of (hb3 _), i2, _, _, rfl, rfl, .inl (by decide), ?_⟩
      refine ⟨_, _, rfl, rfl, .inl ⟨_, rfl, _, _, rfl, rfl, (by show (0 : Int) < 2147483629; decide), .inl ⟨_, rfl, _, _, rfl, rfl, ⟨by decide, by decide⟩, _, rfl, _, _, rfl, rfl, (by show (0 : Int) < m; omega), ?_⟩⟩⟩
      refine k _ _ (Int.emod_nonneg _ (by omega)) (Int.emod_lt_of_pos _ (by omega)) ⟨⟨_, _, _, hb3 _⟩, fun q o hq e => by rw [upd_ne hq, upd_ne hq]; exact e⟩
/-- a new source of draws -/
def spBag (K : PySem.W.Frag) : Sp := fun vs H Q _ => ∃ (a : Addr) (i : Int) (ns : List Int), vs = [.ref a, .int i] ∧ SqL K H a (ns.map V.int) ∧ 0 ≤ i ∧ i ≤ 1000 ∧
  ∀ (b : Addr) (H' : Hp), H b = none → IsBag H' b → (∀ q o, q ≠ b → H q = some o → H' q = some o) → Q (.ref b) H'
theorem ok_bag {f : Addr} {fd : FuncData} (F : Fun K "_law_bag" "_law_bag" sBag f fd) (mi : mg "int" = none) (ma : mg "abs" = none) (ml : mg "len" = none) (me : mg "enumerate" = none) : FnOk P w K mg base CX0 1 f fd ["_law_script", "_law_at"] (spBag K) := by
  refine F.ok scBag (fun vs H Q E h => ?_) (fun cdv A outer s H vs Q E hr h => ?_)
  · obtain ⟨a, i, ns, rfl, _⟩ := h
    rfl
  · obtain ⟨a, ix, ns, rfl, hS, h0, h1, k⟩ := h
    have nd := scBag.nd
    refine ⟨_, pss_cons (ps_set (i := 2) nd rfl (.inl rfl) (pe_ifExp (pt_cmpR op_lt (pv 1) (pe_callB call_len_seq (by rfl) ml PySem.boot_len (pa_cons (pv 0) pa_nil)) (nomark _))
          (pe_callB call_abs (by rfl) ma (by decide +kernel) (pa_cons (pe_callTy call_int1 (by rfl) mi (by decide +kernel) (pa_cons (pe_ix ix_list (pv 0) (pv 1) (fun _ _ => rfl)) pa_nil)) pa_nil)) pe_int))
      (pss_cons (ps_set (i := 3) nd rfl (.inl rfl) (pe_op op_add pe_int (pe_op op_mul pe_int (pv 1))))
      (pss_cons (ps_for PassesOwn.never rfl (pi_enum (by rfl) me (pa_cons (pe_slice sl_list (pv 0) po_none (po_some pe_int)) pa_nil)) (pg_tup rfl (pgs_cons (pg_name (i := 4) nd rfl (.inl rfl)) (pgs_cons (pg_name (i := 5) nd rfl (.inl rfl)) pgs_nil)))
        (pss_one (ps_set (i := 3) nd rfl (.inl rfl) (pe_op op_mod (pe_callTy call_int1 (by rfl) mi (by decide +kernel) (pa_cons (pe_op op_add (pe_op op_add (pe_op op_mul (pv 3) pe_int)
            (pe_op op_mod (pe_callTy call_int1 (by rfl) mi (by decide +kernel) (pa_cons (pv 5) pa_nil)) pe_int)) (pe_op op_mul pe_int (pv 4))) pa_nil)) pe_int))))
      (pss_one (ps_ret (pe_lst (pa_cons (pe_ifExp (pt_cmpR op_ge (pv 2) (pe_op op_pow pe_int pe_int) (nomark _)) (pv 2) pe_int) (pa_cons (pv 3) (pa_cons pe_int pa_nil)))))))), ?_⟩
    refine join1 (α := Int) (G := ?G) (fun bag_rest => ?br) (fun y => ?fin)
    case br =>
      refine ⟨_, rfl, _, rfl, a, _, rfl, .inl hS, _, _, rfl, rfl, _, rfl, ite2 (fun hc => ?_) (fun hc => ?_)⟩
      · have hc' : ix < ((ns.map V.int).length : Int) := of_decide_eq_true hc
        rw [List.length_map] at hc'
        obtain ⟨z, hz⟩ := atI_ints h0 hc'
        refine ⟨_, rfl, _, rfl, a, _, _, _, rfl, rfl, hS, hz, .inl ⟨_, rfl, _, rfl, ?_⟩⟩
        generalize (if z < 0 then -z else z) = y
        exact bag_rest y
      · exact bag_rest 0
    case fin =>
      -- mixed = 1009 + 77 * at
      refine ⟨_, rfl, _, _, rfl, rfl, .inl (by decide), _, _, rfl, rfl, ?_⟩
      -- enumerate(script[:63])
      refine ⟨_, rfl, _, rfl, a, _, rfl, hS, fun c nc => ?_⟩
      have sc : Same H (upd H c (.lst (cutV (ns.map V.int) none (some 63)))) := fun q o e => by rw [upd_ne (ne_of_none e nc)]; exact e
      have hints : ∀ x ∈ cutV (ns.map V.int) none (some 63), ∃ z : Int, x = .int z := fun x hx => by
        have hm := List.mem_of_mem_drop (List.mem_of_mem_take hx)
        obtain ⟨z, _, e⟩ := List.mem_map.mp hm
        exact ⟨z, e.symm⟩
      revert sc hints
      generalize cutV (ns.map V.int) none (some 63) = cs
      intro sc hints
      refine ⟨c, cs, rfl, SqL.of upd_same, for_it (walk_enum (xs := cs)) (fun i σ H2 => ∃ (m : Int) (y4 y5 : Option V), σ = [some (.ref a), some (.int ix), some (.int y), some (.int m), y4, y5] ∧ Same H H2 ∧ SqL K H2 c cs) ⟨_, none, none, rfl, sc, SqL.of upd_same⟩ ?_ ?_ ?_⟩
      · rintro i σ H2 _ ⟨m, y4, y5, rfl, s2, hc2⟩
        exact hc2
      · rintro i x σ H2 H3 hi ⟨m, y4, y5, rfl, s2, hc2⟩ ⟨T, x1, x2, rfl, nT, rfl, e1, e2⟩
        obtain ⟨z, rfl⟩ := hints _ (List.mem_of_getElem? e2)
        cases e1
        have s3 : Same H2 (upd H2 T (.tup [.int (i : Nat), .int z])) := fun q o e => by rw [upd_ne (ne_of_none e nT)]; exact e
        refine ⟨T, _, rfl, SqT.of upd_same, rfl, _, _, rfl, _, _, rfl, rfl, ?_⟩
        refine ⟨_, rfl, _, _, rfl, rfl, .inr (by decide), _, rfl, .inl ⟨_, rfl, _, _, rfl, rfl, (by show (0 : Int) < 2147483629; decide), ?_⟩⟩
        refine ⟨_, _, rfl, rfl, _, rfl, _, _, rfl, rfl, .inl (by decide), _, _, rfl, rfl, .inl ⟨_, rfl, _, _, rfl, rfl, (by show (0 : Int) < 2147483647; decide), ?_⟩⟩
        exact ⟨_, _, _, rfl, s2.trans s3, s3.seq hc2⟩
      · rintro σ H2 ⟨m, y4, y5, rfl, s2, hc2⟩
        -- return [.., mixed, 0]
        refine ⟨_, rfl, _, _, rfl, rfl, ⟨by decide, by decide, by decide⟩, _, _, rfl, rfl, _, rfl, ite2 (fun hc => ⟨_, rfl, ?_⟩) (fun hc => ?_)⟩
        all_goals
          refine ⟨_, rfl, (by show 3 ≤ sizeLine; decide), fun b nb => ?_⟩
          have nbH : H b = none := s2.free nb
          exact k b _ nbH ⟨_, _, _, upd_same⟩ fun q o hq e => by rw [upd_ne hq]; exact s2 _ _ e
/-- one of some things -/
def spOne (K : PySem.W.Frag) : Sp := fun vs H Q _ => ∃ (b p : Addr) (xs : List V), vs = [.ref b, .ref p] ∧ IsBag H b ∧ b ≠ p ∧ xs ≠ [] ∧ xs.length ≤ 1000 ∧ (SqL K H p xs ∨ SqT K H p xs) ∧
  ∀ (v : V) (H' : Hp), v ∈ xs → Bk b H H' → Q v H'
theorem scL_one : FnScope ["_law_bag_here", "_law_things"] ["_law_bag_here", "_law_things"] (defScope sL_one) := ⟨rfl, rfl, rfl, by decide +kernel, rfl, by decide +kernel, by decide +kernel⟩
theorem ok_one {f : Addr} {fd : FuncData} (F : Fun K "_law_one" "_law_one" sL_one f fd) (C__law_draw : CallOk P w K mg base 1 "_law_draw" ["_law_bag_here", "_law_many"] spDraw) (ml : mg "len" = none) : FnOk P w K mg base CX0 2 f fd ["_law_bag_here", "_law_things"] (spOne K) := by
  refine F.ok scL_one (fun vs H Q E h => ?_) (fun cdv A outer s H vs Q E hr h => ?_)
  · obtain ⟨b, p, xs, rfl, _⟩ := h
    rfl
  · obtain ⟨b, p, xs, rfl, hb, hbp, hne, hlen, hs, k⟩ := h
    have hp : 0 < xs.length := List.length_pos_iff.mpr hne
    refine ⟨_, (pss_one (ps_ret (pe_ix ix_seq (pv 1) (pe_cc C__law_draw (hr.mono (by decide)) (by rfl) (pa_cons (pv 0) (pa_cons (pe_callB call_len_seq (by rfl) ml PySem.boot_len (pa_cons (pv 1) pa_nil)) pa_nil))) (fun _ _ => rfl)))), ?_⟩
    refine ⟨_, rfl, _, rfl, _, rfl, p, xs, rfl, hs, b, _, rfl, hb, by omega, by omega, fun d H' h0 h1 B => ?_⟩
    obtain ⟨n, rfl⟩ : ∃ n : Nat, d = (n : Int) := ⟨d.toNat, by omega⟩
    have hn : n < xs.length := by omega
    have at' : atI xs ((n : Nat) : Int) = some xs[n] := atI_nat (j := n) (List.getElem?_eq_getElem hn)
    rcases hs with hs | hs
    · exact .inl ⟨p, xs, _, _, rfl, rfl, B.seqL hs hbp.symm, at', k _ _ (List.getElem_mem hn) B⟩
    · exact .inr (.inl ⟨p, xs, _, _, rfl, rfl, B.seqT hs hbp.symm, at', k _ _ (List.getElem_mem hn) B⟩)
end
end Pa
set_option maxRecDepth 100000
set_option maxHeartbeats 4000000
namespace Pa
open PySem PySem.Spec PyProof.Rows L2
/-! ### a def with keyword-only parameters and **d: what it binds -/
theorem update_last (h : Heap) (f : Obj → Obj) (o : Obj) : (h.push o).update h.objs.size f = h.push (f o) := by
  obtain ⟨objs, life⟩ := h
  simp only [Heap.update, Heap.push, Heap.mk.injEq, and_true]
  apply Array.ext_getElem?
  intro i
  simp only [Array.getElem?_modify, Array.getElem?_push, Array.size_push]
  by_cases hi : i = objs.size
  · subst hi; simp
  · rw [if_neg (fun e => hi e.symm), if_neg hi, if_neg hi]
def fillD (dv : Str → Value) : List Str → List (Str × Value) → List (Str × Value)
  | [], S => S
  | k :: ks, S => fillD dv ks (if (S.lookup k).isNone = true then S ++ [(k, dv k)] else S)
theorem lookup_app {α : Type} (n : Str) : ∀ (S T : List (Str × α)), (S ++ T).lookup n = (S.lookup n).or (T.lookup n)
  | [], T => by simp
  | (k, v) :: S, T => by
    rw [List.cons_append, List.lookup_cons, List.lookup_cons]
    cases n == k with
    | true => rfl
    | false => exact lookup_app n S T
theorem lookup_fill (dv : Str → Value) (n : Str) : ∀ (ks : List Str) (S : List (Str × Value)), (fillD dv ks S).lookup n = (S.lookup n).or (if n ∈ ks then some (dv n) else none)
  | [], S => by simp [fillD]
  | k :: ks, S => by
    unfold fillD
    rw [lookup_fill dv n ks]
    by_cases h : (S.lookup k).isNone = true
    · rw [if_pos h, lookup_app]
      by_cases e : n = k
      · subst e
        have h : S.lookup n = none := by simpa using h
        rw [h, List.lookup_cons, beq_self_eq_true, if_pos List.mem_cons_self]
        rfl
      · have e2 : (n == k) = false := beq_eq_false_iff_ne.mpr e
        rw [List.lookup_cons, e2, List.lookup_nil]
        simp only [List.mem_cons, e, false_or]
        cases S.lookup n <;> rfl
    · rw [if_neg h]
      by_cases e : n = k
      · subst e
        cases q : S.lookup n with
        | none => rw [q] at h; exact absurd rfl h
        | some v => rfl
      · simp only [List.mem_cons, e, false_or]
theorem bind_loop {F : (Str × Value) → (List (Str × Value) × List (Str × Value)) → Sem (ForInStep (List (Str × Value) × List (Str × Value)))} {own : Str → Bool} : ∀ (kw : List (Str × Value)) (st : List (Str × Value) × List (Str × Value)),
    (∀ x ∈ kw, ∀ st, own x.1 = true → st.1.lookup x.1 = none → F x st = pure (.yield (st.1 ++ [(x.1, x.2)], st.2))) →
    (∀ x ∈ kw, ∀ st, own x.1 = false → F x st = pure (.yield (st.1, st.2 ++ [(x.1, x.2)]))) →
    (kw.map (·.1)).Nodup → (∀ x ∈ kw, st.1.lookup x.1 = none) → forIn kw st F = pure (st.1 ++ kw.filter (fun x => own x.1), st.2 ++ kw.filter (fun x => !own x.1))
  | [], st, _, _, _, _ => by simp
  | x :: kw, st, h1, h2, hn, hl => by
    obtain ⟨hn1, hn2⟩ := List.nodup_cons.mp (show (x.1 :: kw.map (·.1)).Nodup from hn)
    rw [List.forIn_cons]
    have hne : ∀ y ∈ kw, (y.1 == x.1) = false := fun y hy => beq_eq_false_iff_ne.mpr fun e => hn1 (by rw [← e]; exact List.mem_map_of_mem hy)
    cases ho : own x.1 with
    | true =>
      rw [h1 x List.mem_cons_self st ho (hl x List.mem_cons_self)]
      show forIn kw (st.1 ++ [(x.1, x.2)], st.2) F = _
      rw [bind_loop kw (st.1 ++ [(x.1, x.2)], st.2) (fun y hy => h1 y (List.mem_cons_of_mem _ hy)) (fun y hy => h2 y (List.mem_cons_of_mem _ hy)) hn2 (fun y hy => ?_)]
      · rw [List.filter_cons, if_pos (by rw [ho]), List.filter_cons, if_neg (by rw [ho]; decide)]
        simp
      · show (st.1 ++ [(x.1, x.2)]).lookup y.1 = none
        rw [lookup_app, hl y (List.mem_cons_of_mem _ hy), List.lookup_cons, hne y hy]
        rfl
    | false =>
      rw [h2 x List.mem_cons_self st ho]
      show forIn kw (st.1, st.2 ++ [(x.1, x.2)]) F = _
      rw [bind_loop kw (st.1, st.2 ++ [(x.1, x.2)]) (fun y hy => h1 y (List.mem_cons_of_mem _ hy)) (fun y hy => h2 y (List.mem_cons_of_mem _ hy)) hn2 (fun y hy => hl y (List.mem_cons_of_mem _ hy))]
      rw [List.filter_cons, if_neg (by rw [ho]; decide), List.filter_cons, if_pos (by rw [ho]; decide)]
      simp
theorem def_loop {M : Model} {A : Around} {E : Value → Shared → Prop} {s : Shared} {F : Str → (List (Str × Value) × List Str) → Sem (ForInStep (List (Str × Value) × List Str))} {dv : Str → Value} : ∀ (ks : List Str) (S : List (Str × Value)) (Q : List (Str × Value) × List Str → Shared → Prop),
    (∀ k ∈ ks, ∀ S (R : ForInStep (List (Str × Value) × List Str) → Shared → Prop), R (.yield (if (S.lookup k).isNone = true then S ++ [(k, dv k)] else S, [])) s → wpAny M A (F k (S, [])) R E s) →
    Q (fillD dv ks S, []) s → wpAny M A (forIn ks (S, []) F) Q E s
  | [], S, Q, _, h => by rw [List.forIn_nil]; exact wpAny_pure h
  | k :: ks, S, Q, hF, h => by
    rw [List.forIn_cons]
    refine wpAny_bind (hF k List.mem_cons_self S _ ?_)
    exact def_loop ks _ Q (fun k' hk' => hF k' (List.mem_cons_of_mem _ hk')) h
section
variable {prog : Program} {w : World} {A : Around} {E : Value → Shared → Prop}
open PySem.W in
theorem ns_fill {Q : PUnit → Shared → Prop} {h0 : Heap} : ∀ (ex : List (Str × Value)) (s : Shared) (es : List DictEntry) (n : Nat), s.heap = h0.push (dictOf es n) →
    (∀ e ∈ es, ∀ x ∈ ex, e.key.isStr x.1 = false) → (∀ e ∈ es, e.refKey = false) → (ex.map (·.1)).Nodup →
    Q ⟨⟩ { s with heap := h0.push (dictOf (es ++ kwEs w.params s.toks ex) (n + ex.length)), toks := s.toks + ex.length } →
    wpAny (model prog w) A (forIn ex PUnit.unit fun x _ => (nsSet h0.objs.size x.1 x.2 >>= fun _ => pure (ForInStep.yield PUnit.unit))) Q E s
  | [], s, es, n, eh, _, _, _, h => by
    rw [List.forIn_nil]
    refine wpAny_pure ?_
    have e : ({ s with heap := h0.push (dictOf (es ++ kwEs w.params s.toks []) (n + ([] : List (Str × Value)).length)), toks := s.toks + ([] : List (Str × Value)).length } : Shared) = s := by
      show ({ s with heap := h0.push (dictOf (es ++ []) n), toks := s.toks } : Shared) = s
      rw [List.append_nil, ← eh]
    rw [e] at h
    exact h
  | x :: r, s, es, n, eh, hs, hr, hn, h => by
    obtain ⟨hn1, hn2⟩ := List.nodup_cons.mp (show (x.1 :: r.map (·.1)).Nodup from hn)
    rw [List.forIn_cons]
    have D : s.heap.get? h0.objs.size = some (dictOf es n) := by rw [eh]; exact Heap.get?_push_size _ rfl
    have e1 : es.any (·.key.isStr x.1) = false := by
      cases q : es.any (·.key.isStr x.1) with
      | false => rfl
      | true => obtain ⟨e, he, z⟩ := List.any_eq_true.mp q; rw [hs e he x List.mem_cons_self] at z; cases z
    have e2 : es.any (·.refKey) = false := by
      cases q : es.any (·.refKey) with
      | false => rfl
      | true => obtain ⟨e, he, z⟩ := List.any_eq_true.mp q; rw [hr e he] at z; cases z
    have e : ∀ t : Tok, Obj.putName x.1 (PyData.keyHash w.params x.1) (.str x.1 t) x.2 (dictOf es n) = dictOf (es ++ [⟨PyData.keyHash w.params x.1, .str x.1 t, x.2⟩]) (n + 1) := fun t => by
      rw [putName_dict, putL_new (fun e he => hs e he x List.mem_cons_self)]
      show dictOf _ (if es.any (·.key.isStr x.1) then n else n + 1) = _
      rw [e1, if_neg Bool.false_ne_true]
    have c : aRefKeyMayBeTheName x.1 es.toArray = false := by
      rw [aRefKeyMayBeTheName_at, ← Array.any_toList, ← Array.any_toList]
      show (!es.any (·.key.isStr x.1) && es.any (·.refKey)) = false
      rw [e2, Bool.and_false]
    refine wpAny_bind (wpAny_bind ?_)
    unfold nsSet
    refine wpAny_bind (wpAny_bind (wpAny_askSetting (wpAny_pure (wpAny_bind (wpAny_mkText (wpAny_bind (wpAny_loadPart D ?_)))))))
    dsimp only
    rw [c]
    refine wpAny_updatePart D ?_
    refine wpAny_pure ?_
    have eh2 : s.heap.update h0.objs.size (Obj.putName x.1 (PyData.keyHash w.params x.1) (.str x.1 s.toks) x.2) = h0.push (dictOf (es ++ [⟨PyData.keyHash w.params x.1, .str x.1 s.toks, x.2⟩]) (n + 1)) := by
      rw [eh, update_last, e]
    show wpAny (model prog w) A (forIn r PUnit.unit fun x _ => (nsSet h0.objs.size x.1 x.2 >>= fun _ => pure (ForInStep.yield PUnit.unit))) Q E { s with heap := s.heap.update h0.objs.size (Obj.putName x.1 (PyData.keyHash w.params x.1) (.str x.1 s.toks) x.2), toks := s.toks + 1 }
    rw [eh2]
    refine ns_fill r { s with heap := h0.push (dictOf (es ++ [⟨PyData.keyHash w.params x.1, .str x.1 s.toks, x.2⟩]) (n + 1)), toks := s.toks + 1 } _ _ rfl (fun e he y hy => ?_) (fun e he => ?_) hn2 ?_
    · rcases List.mem_append.mp he with he | he
      · exact hs e he y (List.mem_cons_of_mem _ hy)
      · obtain rfl := List.mem_singleton.mp he
        show (x.1 == y.1) = false
        exact beq_eq_false_iff_ne.mpr fun q => hn1 (by rw [q]; exact List.mem_map_of_mem hy)
    · rcases List.mem_append.mp he with he | he
      · exact hr e he
      · obtain rfl := List.mem_singleton.mp he
        rfl
    · have t1 : s.toks + 1 + r.length = s.toks + (r.length + 1) := by omega
      have t2 : n + 1 + r.length = n + (r.length + 1) := by omega
      show Q ⟨⟩ { s with heap := h0.push (dictOf ((es ++ [⟨PyData.keyHash w.params x.1, .str x.1 s.toks, x.2⟩]) ++ kwEs w.params (s.toks + 1) r) (n + 1 + r.length)), toks := s.toks + 1 + r.length }
      rw [t1, t2, List.append_assoc]
      exact h
end
end Pa
set_option maxRecDepth 100000
set_option maxHeartbeats 4000000
namespace Pa
open PySem PySem.Spec PyProof.Rows L2
theorem lookup_own {own : Str → Bool} {k : Str} (ho : own k = true) : ∀ kw : List (Str × Value), (kw.filter fun x => own x.1).lookup k = kw.lookup k
  | [] => rfl
  | x :: kw => by
    rw [List.filter_cons]
    by_cases h : own x.1 = true
    · rw [if_pos h, List.lookup_cons, List.lookup_cons, lookup_own ho kw]
    · rw [if_neg h, lookup_own ho kw, List.lookup_cons]
      have : (k == x.1) = false := beq_eq_false_iff_ne.mpr fun e => h (by rw [← e]; exact ho)
      rw [this]
section
variable {prog : Program} {w : World} {A : Around} {E : Value → Shared → Prop} {K : PySem.W.Frag} {s : Shared}
theorem bnd_kw {Q : List (Str × Value) → Shared → Prop} {P : Arguments} {p1 p2 sa : Arg} {kas : List Arg} {kd : List (Option Expr)} {nm qn : Str} {body : List Stmt} {sc : Scope} {doc pm cdv ct : Value} {an : Option Addr} {a b : Value} {kw : List (Str × Value)} {D0 : Addr} {dv : Str → Value}
    (hP : P = { posonlyargs := [], args := [p1, p2], vararg := none, kwonlyargs := kas, kw_defaults := kd, kwarg := some sa, defaults := [] })
    (KX : K.In s.heap) (h12 : p1.arg ≠ p2.arg) (hk1 : ∀ k ∈ kas.map (·.arg), k ≠ p1.arg ∧ k ≠ p2.arg) (hk2 : ∀ x ∈ kw, x.1 ≠ p1.arg ∧ x.1 ≠ p2.arg) (hnd : (kw.map (·.1)).Nodup)
    (hd : ∀ k ∈ kas.map (·.arg), PySem.W.nsIn K D0 k = some (some (dv k))) (hlen : kw.length ≤ sizeLine)
    (h : ∀ t', Q ([(p1.arg, a), (p2.arg, b)] ++ (kas.map (·.arg)).map (fun k => (k, (kw.lookup k).getD (dv k))) ++ [(sa.arg, .ref s.heap.objs.size)])
      { s with heap := s.heap.push (PySem.W.dictOf (PySem.W.kwEs w.params s.toks (kw.filter fun x => !(kas.map (·.arg)).contains x.1)) (kw.filter fun x => !(kas.map (·.arg)).contains x.1).length), toks := t' }) :
    wpAny (model prog w) A (bindArgs (PySem.W.fnOf nm qn P body sc .none (.ref D0) doc pm an cdv ct) ⟨[a, b], kw⟩) Q E s := by
  subst hP
  have b21 : (p2.arg == p1.arg) = false := beq_eq_false_iff_ne.mpr (Ne.symm h12)
  unfold bindArgs PySem.W.fnOf
  dsimp only
  refine wpAny_bind (wpAny_of_eq (bind_loop (own := fun k => (kas.map (·.arg)).contains k) kw _ (fun x hx st ho hl => ?_) (fun x hx st ho => ?_) hnd (fun x hx => ?_)) ?_)
  · rw [if_pos (by rw [ho, Bool.or_true]), if_neg (by rw [hl]; decide)]
  · have e : ((List.map (fun x => x.arg) [p1, p2]).contains x.1) = false := by
      obtain ⟨n1, n2⟩ := hk2 x hx
      simp [n1, n2]
    rw [if_neg (by rw [e, ho]; decide), if_pos (show (some sa).isSome = true from rfl)]
  · obtain ⟨n1, n2⟩ := hk2 x hx
    show List.lookup x.1 [(p1.arg, a), (p2.arg, b)] = none
    rw [List.lookup_cons, beq_eq_false_iff_ne.mpr n1, List.lookup_cons, beq_eq_false_iff_ne.mpr n2, List.lookup_nil]
  dsimp only
  have hS : ∀ n, (([(p1.arg, a), (p2.arg, b)] ++ kw.filter fun x => (kas.map (·.arg)).contains x.1) : List (Str × Value)).lookup n = (([(p1.arg, a), (p2.arg, b)] : List (Str × Value)).lookup n).or ((kw.filter fun x => (kas.map (·.arg)).contains x.1).lookup n) := fun n => lookup_app n _ _
  have h1 : ([(p1.arg, a), (p2.arg, b)] : List (Str × Value)).lookup p1.arg = some a := by rw [List.lookup_cons, beq_self_eq_true]
  have h2 : ([(p1.arg, a), (p2.arg, b)] : List (Str × Value)).lookup p2.arg = some b := by rw [List.lookup_cons, b21, List.lookup_cons, beq_self_eq_true]
  refine wpAny_bind (wpAny_of_eq (a := none) rfl ?_)
  have g1 : ((([(p1.arg, a), (p2.arg, b)] ++ kw.filter fun x => (kas.map (·.arg)).contains x.1) : List (Str × Value)).lookup p1.arg) = some a := by rw [hS, h1]; rfl
  have g2 : ((([(p1.arg, a), (p2.arg, b)] ++ kw.filter fun x => (kas.map (·.arg)).contains x.1) : List (Str × Value)).lookup p2.arg) = some b := by rw [hS, h2]; rfl
  rw [if_neg (by simp), if_neg ?c1]
  case c1 =>
    show ¬ (!(List.filter (fun n => (List.lookup n ([(p1.arg, a), (p2.arg, b)] ++ kw.filter fun x => (kas.map (·.arg)).contains x.1)).isNone) [p1.arg, p2.arg]).isEmpty) = true
    rw [List.filter_cons, g1, List.filter_cons, g2]
    simp
  refine wpAny_bind (wpAny_of_eq (a := [(p1.arg, a), (p2.arg, b)] ++ kw.filter fun x => (kas.map (·.arg)).contains x.1) rfl ?_)
  refine wpAny_bind (def_loop (dv := dv) (kas.map (·.arg)) _ _ (fun k hk S R hR => ?_) ?_)
  · dsimp only
    by_cases hS0 : (List.lookup k S).isNone = true
    · rw [if_pos hS0] at hR ⊢
      refine wpAny_bind ((PySem.W.looks_nsIn KX (hd k hk)).here ?_)
      exact wpAny_pure hR
    · rw [if_neg hS0] at hR ⊢
      exact wpAny_pure hR
  dsimp only
  have hfl : (kw.filter fun x => !(kas.map (·.arg)).contains x.1).length ≤ sizeLine := Nat.le_trans (List.length_filter_le _ _) hlen
  rw [if_neg (by simp), if_neg (by
    simp only [List.nil_append]
    omega)]
  refine wpAny_bind (wpAny_alloc ?_)
  refine wpAny_bind (ns_fill (h0 := s.heap) _ { s with heap := s.heap.push { cls := .type "dict", data := .dict #[] } } [] 0 rfl (fun e he => by cases he) (fun e he => by cases he) ?_ ?_)
  · simp only [List.nil_append]
    exact (List.Sublist.map _ (List.filter_sublist)).nodup hnd
  refine wpAny_pure ?_
  have key : ∀ ks : List Str, (∀ k ∈ ks, k ∈ kas.map (·.arg)) → List.filterMap (fun n => Option.map (fun x => (n, x)) (List.lookup n (fillD dv (kas.map (·.arg)) ([(p1.arg, a), (p2.arg, b)] ++ kw.filter fun x => (kas.map (·.arg)).contains x.1)))) ks = ks.map (fun k => (k, (kw.lookup k).getD (dv k))) := by
    intro ks
    induction ks with
    | nil => intro _; rfl
    | cons k ks ih =>
      intro hm
      have hk := hm k List.mem_cons_self
      obtain ⟨n1, n2⟩ := hk1 k hk
      have l0 : ([(p1.arg, a), (p2.arg, b)] : List (Str × Value)).lookup k = none := by rw [List.lookup_cons, beq_eq_false_iff_ne.mpr n1, List.lookup_cons, beq_eq_false_iff_ne.mpr n2, List.lookup_nil]
      have l1 := lookup_own (own := fun x => (kas.map (·.arg)).contains x) (k := k) (by simpa using hk) kw
      have e1 : List.lookup k (fillD dv (kas.map (·.arg)) ([(p1.arg, a), (p2.arg, b)] ++ kw.filter fun x => (kas.map (·.arg)).contains x.1)) = some ((kw.lookup k).getD (dv k)) := by
        rw [lookup_fill, hS, l0, l1, if_pos hk]
        cases kw.lookup k <;> rfl
      rw [List.filterMap_cons, e1, ih (fun k' hk' => hm k' (List.mem_cons_of_mem _ hk'))]
      rfl
  have f1 : List.lookup p1.arg (fillD dv (kas.map (·.arg)) ([(p1.arg, a), (p2.arg, b)] ++ kw.filter fun x => (kas.map (·.arg)).contains x.1)) = some a := by rw [lookup_fill, g1]; rfl
  have f2 : List.lookup p2.arg (fillD dv (kas.map (·.arg)) ([(p1.arg, a), (p2.arg, b)] ++ kw.filter fun x => (kas.map (·.arg)).contains x.1)) = some b := by rw [lookup_fill, g2]; rfl
  have eF : List.filterMap (fun n => Option.map (fun x => (n, x)) (List.lookup n (fillD dv (kas.map (·.arg)) ([(p1.arg, a), (p2.arg, b)] ++ kw.filter fun x => (kas.map (·.arg)).contains x.1)))) (List.map (fun x : Arg => x.arg) [] ++ List.map (fun x : Arg => x.arg) [p1, p2] ++ kas.map (·.arg)) = [(p1.arg, a), (p2.arg, b)] ++ (kas.map (·.arg)).map (fun k => (k, (kw.lookup k).getD (dv k))) := by
    rw [List.filterMap_append, key _ fun k hk => hk]
    show List.filterMap _ [p1.arg, p2.arg] ++ _ = _
    rw [List.filterMap_cons, f1, List.filterMap_cons, f2]
    rfl
  rw [eF]
  simp only [List.nil_append, Nat.zero_add]
  exact h _
end
end Pa
set_option maxRecDepth 100000
set_option maxHeartbeats 4000000
namespace Pa
open PySem PySem.Spec PyProof.Rows L2 StX
/-- a def called with positional values and keywords -/
def FnKw (P : Program) (w : World) (K : PySem.W.Frag) (mg : Str → Option Value) (base : Heap) (CX : CXT) (k : Nat) (f : Addr) (sp : List V → List (Str × V) → Hp → VK → XK → Prop) : Prop :=
  ∀ (A : Around) (outer : List Env) (s : Shared) (H : Hp) (us : List Value) (kw : List (Str × Value)) (vs : List V) (zs : List (Str × V)) (Q : VK) (E : XK), Room k A → Env0 P w K mg base A outer s H → Vals vs us → KV zs kw → sp vs zs H Q E →
    codeAny (model P w) A (.call (.ref f) ⟨us, kw⟩) (CR CX outer P w H s Q E) s
theorem kv_keys {zs : List (Str × V)} {kw : List (Str × Value)} (h : KV zs kw) : zs.map (·.1) = kw.map (·.1) := by
  induction h with
  | nil => rfl
  | cons r _ ih => rw [List.map_cons, List.map_cons, ih, r.1]
theorem kv_len {zs : List (Str × V)} {kw : List (Str × Value)} (h : KV zs kw) : zs.length = kw.length := by
  have := congrArg List.length (kv_keys h)
  rwa [List.length_map, List.length_map] at this
theorem kv_filter {zs : List (Str × V)} {kw : List (Str × Value)} (p : Str → Bool) (h : KV zs kw) : KV (zs.filter fun x => p x.1) (kw.filter fun x => p x.1) := by
  induction h with
  | nil => exact .nil
  | @cons a b _ _ r _ ih =>
    rw [List.filter_cons, List.filter_cons, r.1]
    by_cases q : p b.1 = true
    · rw [if_pos q, if_pos q]; exact .cons r ih
    · rw [if_neg q, if_neg q]; exact ih
theorem kv_inr {zs : List (Str × V)} {kw : List (Str × Value)} (h : KV zs kw) : KV (zs.map fun x => ((Sum.inr x.1 : Key), x.2)) (kw.map fun x => ((Sum.inr x.1 : Key), x.2)) := by
  induction h with
  | nil => exact .nil
  | cons r _ ih => exact .cons ⟨congrArg Sum.inr r.1, r.2⟩ ih
theorem kv_look {zs : List (Str × V)} {kw : List (Str × Value)} {dV : V} {dv : Value} (k : Str) (h : KV zs kw) (hd : RelV dV dv) : RelV ((zs.lookup k).getD dV) ((kw.lookup k).getD dv) := by
  induction h with
  | nil => exact hd
  | @cons a b _ _ r _ ih =>
    rw [List.lookup_cons, List.lookup_cons, r.1]
    cases k == b.1 with
    | true => exact r.2
    | false => exact ih
section
variable {prog : Program} {w : World}
open PySem.W in
theorem kwEs_mix : ∀ (ex : List (Str × Value)) (t : Tok), Pairs (mixKind prog w) (kwEs w.params t ex) (ex.map fun x => ((Sum.inr x.1 : Key), x.2))
  | [], _ => Pairs.nil
  | x :: r, t => Pairs.cons (by simp [mixKind, keyIs, Value.isStrOf]) rfl (kwEs_mix r (t + 1))
open PySem.W in
theorem kw_dict {h : Heap} {ex : List (Str × Value)} (t : Tok) (n : Nat) (hn : (ex.map (·.1)).Nodup) : (h.push (dictOf (kwEs w.params t ex) n)).DictOf (mixKind prog w) h.objs.size (ex.map fun x => ((Sum.inr x.1 : Key), x.2)) :=
  ⟨_, (kwEs w.params t ex).toArray, n, Heap.get?_push_size _ rfl, ⟨rfl, rfl, rfl⟩, rfl, fun e he => by
    obtain ⟨k, u, hk, hh⟩ := kwEs_key ex t e (List.mem_toArray.mp he)
    exact ⟨Sum.inr k, by rw [hk]; simp [mixKind, keyIs, Value.isStrOf], hh.trans rfl⟩, kwEs_mix ex t, by
    rw [List.map_map]
    have e : ((fun x : Key × Value => x.1) ∘ fun x : Str × Value => ((Sum.inr x.1 : Key), x.2)) = (fun k : Str => (Sum.inr k : Key)) ∘ (fun x : Str × Value => x.1) := rfl
    rw [e, ← List.map_map]
    exact List.Pairwise.map _ (fun a b q => by simpa using q) hn⟩
end
section
variable {CX : CXT} {P : Program} {w : World} {K : PySem.W.Frag} {mg : Str → Option Value} {base : Heap} {k : Nat} {f : Addr} {name qual : Str} {params : Arguments} {body : List Stmt} {scope : Scope} {doc pm cdv ct oc : Value} {an od : Option Addr}
  {osl : Array (Option Value)} {N : List Str} {sp : Sp} {p1 p2 sa : Arg} {kas : List Arg} {kd : List (Option Expr)} {D0 : Addr} {dv : Str → Value} {dV : Str → V}
theorem vals_map {α : Type} {f : α → V} {g : α → Value} : ∀ (l : List α), (∀ x ∈ l, RelV (f x) (g x)) → Vals (l.map f) (l.map g)
  | [], _ => .nil
  | x :: l, h => .cons (h x List.mem_cons_self) (vals_map l fun y hy => h y (List.mem_cons_of_mem _ hy))
theorem fn_kw (lk : K.lookup f = some ⟨oc, od, .func (PySem.W.fnOf name qual params body scope .none (.ref D0) doc pm an cdv ct), osl⟩) (hcd : PySem.W.codeIn K cdv qual = true)
    (hP : params = { posonlyargs := [], args := [p1, p2], vararg := none, kwonlyargs := kas, kw_defaults := kd, kwarg := some sa, defaults := [] })
    (h12 : p1.arg ≠ p2.arg) (hk1 : ∀ k ∈ kas.map (·.arg), k ≠ p1.arg ∧ k ≠ p2.arg) (hd : ∀ k ∈ kas.map (·.arg), PySem.W.nsIn K D0 k = some (some (dv k)) ∧ RelV (dV k) (dv k))
    (S : FnScope N (p1.arg :: p2.arg :: (kas.map (·.arg) ++ [sa.arg])) scope) (hCX : CXUp CX)
    (hbody : ∀ (A : Around) (outer : List Env) (s : Shared) (H : Hp) (vs : List V) (Q : VK) (E : XK), Room k (A.deeper (envOfC qual scope s.heap.objs.size f cdv)) → sp vs H Q E →
      ∃ t, PSs (cxOf CX P w K mg base N qual scope f cdv A outer s H E) body t ∧ t { nx := fun _ H' => Q .non H', rt := Q } (start N vs) H) :
    FnKw P w K mg base CX (k + 1) f (fun vs zs H Q E => ∃ a b, vs = [a, b] ∧ (zs.map (·.1)).Nodup ∧ (∀ x ∈ zs, x.1 ≠ p1.arg ∧ x.1 ≠ p2.arg) ∧ zs.length ≤ sizeLine ∧
      ∀ d, H d = none → sp (a :: b :: ((kas.map (·.arg)).map (fun k => (zs.lookup k).getD (dV k)) ++ [V.ref d])) (upd H d (.dK ((zs.filter fun x => !(kas.map (·.arg)).contains x.1).map fun x => ((Sum.inr x.1 : Key), x.2)))) Q E) := by
  intro A outer s H us kw vs zs Q E hr e0 r rk hsp
  obtain ⟨a, b, rfl, hnd, hne, hlen, hq⟩ := hsp
  obtain ⟨ua, ub, rfl, ra, rb⟩ : ∃ ua ub, us = [ua, ub] ∧ RelV a ua ∧ RelV b ub := by
    cases r with
    | cons p q =>
      cases q with
      | cons p' q' =>
        cases q'
        exact ⟨_, _, rfl, p, p'⟩
  have KX : K.In s.heap := e0.mod.kin.keeps fun b o e => (e0.bs b o e).1
  have hn : H s.heap.objs.size = none := e0.hok.fresh (Nat.le_refl _)
  have ek := kv_keys rk
  have hl := kv_len rk
  refine run_bnd lk hcd S hr e0 (G := fun xs H2 => ∃ d, H d = none ∧ xs = a :: b :: ((kas.map (·.arg)).map (fun k => (zs.lookup k).getD (dV k)) ++ [V.ref d]) ∧ H2 = upd H d (.dK ((zs.filter fun x => !(kas.map (·.arg)).contains x.1).map fun x => ((Sum.inr x.1 : Key), x.2)))) (fun A' Ex Q' h => ?_) fun s2 H2 xs ⟨d, hp, ex, eH⟩ hr' => ?_
  · refine bnd_kw (dv := dv) hP KX h12 hk1 (fun x hx => ?_) (by rw [← ek]; exact hnd) (fun k hk => (hd k hk).1) (by omega) fun t' => ?_
    · have hm : x.1 ∈ zs.map (·.1) := by rw [ek]; exact List.mem_map_of_mem hx
      obtain ⟨y, hy, e⟩ := List.mem_map.mp hm
      rw [← e]
      exact hne y hy
    · have rf := kv_filter (fun y => !(kas.map (·.arg)).contains y) rk
      have hnf : ((kw.filter fun x => !(kas.map (·.arg)).contains x.1).map (·.1)).Nodup := (List.Sublist.map _ (List.filter_sublist)).nodup (by rw [← ek]; exact hnd)
      have new : ObjOk P w (upd H s.heap.objs.size (.dK ((zs.filter fun x => !(kas.map (·.arg)).contains x.1).map fun x => ((Sum.inr x.1 : Key), x.2)))) (s.heap.push (PySem.W.dictOf (PySem.W.kwEs w.params s.toks (kw.filter fun x => !(kas.map (·.arg)).contains x.1)) (kw.filter fun x => !(kas.map (·.arg)).contains x.1).length)) s.heap.objs.size
          (.dK ((zs.filter fun x => !(kas.map (·.arg)).contains x.1).map fun x => ((Sum.inr x.1 : Key), x.2))) :=
        ⟨by rw [List.length_map]; exact Nat.le_trans (List.length_filter_le _ _) hlen, beq_eq_false_iff_ne.mpr (Ne.symm (Nat.ne_of_lt (env0_big e0))), _, kv_inr rf, kw_dict _ _ hnf⟩
      have e1 := env0_laid e0 new
      have un := un_laid (fs := frs outer) (s := s) (o := PySem.W.dictOf (PySem.W.kwEs w.params s.toks (kw.filter fun x => !(kas.map (·.arg)).contains x.1)) (kw.filter fun x => !(kas.map (·.arg)).contains x.1).length) (u := .dK ((zs.filter fun x => !(kas.map (·.arg)).contains x.1).map fun x => ((Sum.inr x.1 : Key), x.2))) hn
      have z := h { s with heap := s.heap.push (PySem.W.dictOf (PySem.W.kwEs w.params s.toks (kw.filter fun x => !(kas.map (·.arg)).contains x.1)) (kw.filter fun x => !(kas.map (·.arg)).contains x.1).length), toks := t' } _ (a :: b :: ((kas.map (·.arg)).map (fun k => (zs.lookup k).getD (dV k)) ++ [V.ref s.heap.objs.size]))
        (ua :: ub :: ((kas.map (·.arg)).map (fun k => (kw.lookup k).getD (dv k)) ++ [Value.ref s.heap.objs.size])) ⟨e1.frames, e1.mod, e1.bs, e1.bsz, e1.funs, e1.frf, e1.hok, e1.bare⟩ un rfl
        (fun e s' => hCX outer s H _ _ E e s' un (fun b o q => Heap.get?_push_of_some _ q) rfl) (.cons ra (.cons rb (Vals.append (vals_map _ fun k hk => kv_look k rk (hd k hk).2) (.cons rfl .nil)))) (by simp [List.length_map]) ⟨_, hn, rfl, rfl⟩
      have ez : (p1.arg :: p2.arg :: (kas.map (·.arg) ++ [sa.arg])).zip (ua :: ub :: ((kas.map (·.arg)).map (fun k => (kw.lookup k).getD (dv k)) ++ [Value.ref s.heap.objs.size])) = [(p1.arg, ua), (p2.arg, ub)] ++ (kas.map (·.arg)).map (fun k => (k, (kw.lookup k).getD (dv k))) ++ [(sa.arg, Value.ref s.heap.objs.size)] := by
        rw [List.zip_cons_cons, List.zip_cons_cons, List.zip_append (by simp)]
        have : ∀ l : List Str, l.zip (l.map (fun k => (kw.lookup k).getD (dv k))) = l.map (fun k => (k, (kw.lookup k).getD (dv k))) := fun l => by
          induction l with
          | nil => rfl
          | cons x l ih => rw [List.map_cons, List.zip_cons_cons, ih, List.map_cons]
        rw [this]
        rfl
      rw [ez] at z
      exact z
  · subst ex eH
    exact hbody A outer s2 _ _ Q E hr' (hq d hp)
end
end Pa
set_option maxRecDepth 100000
set_option maxHeartbeats 4000000
/-! own == and != with any answer -/
namespace PkNe
open PySem PySem.Spec PyProof.Rows PySem.SeqAt
section
variable {M : Model} {prog : Program} {w : World} {A : Around} {E : Value → Shared → Prop} {s : Shared} {K : PySem.W.Frag} {x C f : Addr} {ox : Obj} {od : Option Obj} {y : Value}
theorem entry_ne {Q : Fin → Shared → Prop} (hu : A.units < cLine) (X : K.In s.heap) (I : PySem.W.InstAt s.heap x ox C od) (hs : PySem.W.findIn K (.ref C) "__eq__" = some (some (.ref f))) (hf : PySem.W.isFn K (.ref f) = true)
    (hcall : wpAny (model prog w) A (call (.ref f) [.ref x, y]) (fun v s' => ∃ b, v = .bool b ∧ Q (.done (.ret (.bool (!b)))) s') E s) :
    wpAny (model prog w) A (Builtin.«object.__ne__» ⟨[.ref x, y], []⟩) Q E s := by
  unfold Builtin.«object.__ne__»
  repeat (first
    | with_reducible refine wpAny_cRoomFor hu ?_
    | (refine wpAny_bind (m := callSpecialIfBound? (.ref x) (Str.ofString "__eq__") [y])
        (PySem.W.ifBound_K X I hs hf (wpAny_mono hcall (fun r s' hr => by
          obtain ⟨b, rfl, hq⟩ := hr
          repeat (first | exact hq | exact wpAny_pure hq | exact wpAny_truthy_bool hq | (refine wpAny_bind (m := truthy (.bool _)) (wpAny_truthy_bool ?_)) | wp_step)) fun _ _ e => e)))
    | wp_step)
theorem ifBound_objNe {args : List Value} {Q : Option Value → Shared → Prop} (X : K.In s.heap) (I : PySem.W.InstAt s.heap x ox C od) (hs : PySem.W.findIn K (.ref C) "__ne__" = some (some (.builtin "object.__ne__")))
    (h : wpAny M A (call (.builtin "object.__ne__") (.ref x :: args)) (fun v => Q (some v)) E s) : wpAny M A (callSpecialIfBound? (.ref x) "__ne__" args) Q E s := by
  simp only [callSpecialIfBound?, bindSpecialIfBound?]
  refine wpAny_holding (wpAny_bind (wpAny_bind (wpAny_bind (I.type.here ((PySem.W.looks_findIn X hs).here ?_)))))
  refine wpAny_bind (wpAny_askSetting (wpAny_ite ?_))
  have fin : wpAny M A (call (.builtin "object.__ne__") ([.ref x] ++ args) >>= fun v => pure (some v)) Q E s := wpAny_bind (wpAny_mono h (fun v s' h' => wpAny_pure h') fun _ _ h' => h')
  split
  · exact wpAny_bind (wpAny_of_eq (F.cmp_object.ne.bind _) (wpAny_pure (by exact fin)))
  · exact wpAny_tryCatch (wpAny_bind (wpAny_of_eq (F.cmp_object.ne.bind _) (wpAny_pure (by exact fin))))
theorem call_objNe {Q : Value → Shared → Prop} (hu : A.units + 1 < cLine) (X : K.In s.heap) (I : PySem.W.InstAt s.heap x ox C od) (hm : PySem.W.mroIn K C (.type "object") = some true) (hs : PySem.W.findIn K (.ref C) "__eq__" = some (some (.ref f))) (hf : PySem.W.isFn K (.ref f) = true)
    (hcall : wpAny (model prog w) A.in1 (call (.ref f) [.ref x, y]) (fun v s' => ∃ b, v = .bool b ∧ Q (.bool (!b)) s') E s) :
    wpAny (model prog w) A (call (.builtin "object.__ne__") [.ref x, y]) Q E s :=
  wpAny_call (codeAny_call_builtin F.cmp_object.ne.plain F.cmpEntry_ne (PySem.W.check_slot F.cmpKind_ne F.cmpSplit_ne (I.type.andThen (PySem.W.looks_mroIn X hm)) (F.cmpArgs_ne _ _)
    (entry_ne (A := A.in1) hu X I hs hf (wpAny_mono hcall (fun v s' hv => by
      obtain ⟨b, rfl, hq⟩ := hv
      first | exact ⟨b, rfl, wpAny_pure hq⟩ | exact ⟨b, rfl, hq⟩) fun _ _ e => e))))
/-- x != y by the own == of x's class -/
theorem rc_ne {tb : Value} {Q : Value → Shared → Prop} (hu : A.units + 1 < cLine) (X : K.In s.heap) (I : PySem.W.InstAt s.heap x ox C od) (hb : PySem.W.Looks (model prog w) s.heap (typeOf y) tb) (hn : PySem.W.notFirst K C tb = true) (hm : PySem.W.mroIn K C (.type "object") = some true)
    (h2 : PySem.W.findIn K (.ref C) "__ne__" = some (some (.builtin "object.__ne__"))) (hs : PySem.W.findIn K (.ref C) "__eq__" = some (some (.ref f))) (hf : PySem.W.isFn K (.ref f) = true)
    (hcall : wpAny (model prog w) A.in1 (call (.ref f) [.ref x, y]) (fun v s' => ∃ b, v = .bool b ∧ Q (.bool (!b)) s') E s) : wpAny (model prog w) A (richCompare .NotEq (.ref x) y) Q E s := by
  have one : wpAny (model prog w) A (tryCompare (.ref x) (cmpInfo .NotEq).2.1 y) (fun r s' => ∃ v, r = some v ∧ Q v s') E s := by
    unfold tryCompare
    refine wpAny_bind (ifBound_objNe X I h2 (call_objNe hu X I hm hs hf (wpAny_mono hcall (fun v s' hv => ?_) fun _ _ e => e)))
    obtain ⟨b, rfl, hq⟩ := hv
    exact ⟨b, rfl, wpAny_pure ⟨_, rfl, hq⟩⟩
  unfold richCompare
  simp only [oneThing_ref]
  refine wpAny_holding (wpAny_bind (wpAny_cRoomFor (Nat.lt_of_succ_lt hu) ?_))
  refine wpAny_bind (I.type.here (wpAny_bind (hb.here ?_)))
  have tail : wpAny (model prog w) A (tryCompare (.ref x) (cmpInfo .NotEq).2.1 y) (fun r s' => ∃ v, r = some v ∧ Q v s') E s := one
  split
  · rename_i q
    have e : PySem.W.subIn K tb (.ref C) = some false := by
      rcases Bool.or_eq_true_iff.mp hn with e | e
      · rw [beq_iff_eq.mp e] at q; simp at q
      · exact beq_iff_eq.mp e
    refine wpAny_bind ((PySem.W.looks_subIn X e).here ?_)
    simp only [Bool.false_eq_true, if_false]
    refine wpAny_bind (wpAny_mono tail (fun r s1 z => ?_) fun _ _ e => e)
    obtain ⟨v, rfl, hq⟩ := z
    first | exact wpAny_pure hq | exact wpAny_pure (wpAny_pure hq)
  · refine wpAny_bind (wpAny_pure ?_)
    simp only [Bool.false_eq_true, if_false]
    refine wpAny_bind (wpAny_mono tail (fun r s1 z => ?_) fun _ _ e => e)
    obtain ⟨v, rfl, hq⟩ := z
    first | exact wpAny_pure hq | exact wpAny_pure (wpAny_pure hq)
end
end PkNe
set_option maxRecDepth 100000
set_option maxHeartbeats 4000000
namespace Pa
open PySem PySem.Spec PyProof.Rows L2 StX
/-- the own == of the class at C, by its def f -/
structure EqO (K : PySem.W.Frag) (C f : Addr) : Prop where
  eq : PySem.W.findIn K (.ref C) "__eq__" = some (some (.ref f))
  ne : PySem.W.findIn K (.ref C) "__ne__" = some (some (.builtin "object.__ne__"))
  fn : PySem.W.isFn K (.ref f) = true
  mro : PySem.W.mroIn K C (.type "object") = some true
/-- own ==, any answer, any right side -/
def rEqO (K : PySem.W.Frag) (C : Addr) (sp : Sp) (E : XK) (z : Bool) : R2 := fun x y H Q => ∃ a dx fs tb, x = .ref a ∧ H a = some (.ins C dx fs) ∧ TyX K H y tb ∧ PySem.W.notFirst K C tb = true ∧ sp [.ref a, y] H (fun v H' => ∃ b, v = .bl b ∧ Q (.bl (z != b)) H') E
section
variable {X : Cx} {CX : CXT} {n : Nat} {C f : Addr} {fd : FuncData} {ps : List Str} {sp : Sp} {E : XK}
theorem run_own {pins : List (Addr × Obj)} {σ : L2.St} {H : Hp} {s : Shared} {a : Addr} {y : V} {u : Value} {A : Around} {R : Value → Shared → Prop} {Q : VK} (F : FnOk X.prog X.w X.K X.mg X.base CX n f fd ps sp) (hb : Binds X.K fd ps []) (hx : Passes CX X E) (hA : A.frames = X.A.frames) (hr : Room n A) (I : Inv X pins σ H s) (ry : RelV y u)
    (hsp : sp [.ref a, y] H Q E) (hR : ∀ v H' w s', Inv X pins σ H' s' → RelV v w → Q v H' → R w s') : wpAny (model X.prog X.w) A (call (.ref f) [.ref a, u]) R X.xe s := by
  have e0 : Env0 X.prog X.w X.K X.mg X.base A X.stack s H := by
    have e := I.env0
    exact ⟨by rw [hA]; exact e.frames, e.mod, e.bs, e.bsz, e.funs, e.frf, e.hok, e.bare⟩
  have hl := F.len _ _ _ _ hsp
  have r2 : Vals [V.ref a, y] [Value.ref a, u] := .cons rfl (.cons ry .nil)
  refine wpAny_call (codeAny_mono (F.run A X.stack s H ⟨[.ref a, u], []⟩ [.ref a, u] [.ref a, y] _ E hr e0 (by
    have := hb s [.ref a, u] I.kIn (by simpa using hl)
    simpa using this) r2 hsp) fun r s' hq => ?_)
  cases r with
  | error e => exact hx pins σ H s e s' I hq
  | ok fl =>
    cases fl with
    | ret w =>
      obtain ⟨z, H', I', rz, q⟩ := I.after hq
      exact hR z H' w s' I' rz q
    | next => exact False.elim hq
    | brk => exact False.elim hq
    | cont => exact False.elim hq
theorem op_eqO (F : FnOk X.prog X.w X.K X.mg X.base CX n f fd ps sp) (hb : Binds X.K fd ps []) (hx : Passes CX X E) (hr : Room n X.A) (e : EqO X.K C f) : OpR X (compareOp .Eq) (rEqO X.K C sp E false) := by
  intro pins s σ H x y v u Q I rx ry h
  obtain ⟨a, dx, fs, tb, rfl, ha, ty, hn, hsp⟩ := h
  obtain rfl : v = Value.ref a := rx
  obtain ⟨mA, J, _⟩ := ins_get I.hok ha
  obtain ⟨od, J, _⟩ := J.look
  obtain ⟨P, Z, p, _⟩ := kit_of I ry ty
  obtain ⟨m, hF⟩ := I.fr
  show wpAny (model X.prog X.w) X.A (richCompare .Eq (.ref a) u) (EP X pins σ Q) X.xe s
  refine PySem.W.cmp_K (op := .Eq) (tb := tb) hr.units0 hF I.ok.mod.kin J (Z.ty _ _ I.kIn p) hn e.eq e.fn ?_
  refine run_own F hb hx rfl hr I ry hsp fun z H' w s' I' rz q => ?_
  obtain ⟨b, rfl, q⟩ := q
  obtain rfl : w = Value.bool b := rz
  have q2 : Q (.bl b) H' := by
    cases b <;> exact q
  exact ⟨.bl b, H', I', rfl, q2⟩
theorem op_neO (F : FnOk X.prog X.w X.K X.mg X.base CX n f fd ps sp) (hb : Binds X.K fd ps []) (hx : Passes CX X E) (hr : Room (n + 1) X.A) (e : EqO X.K C f) : OpR X (compareOp .NotEq) (rEqO X.K C sp E true) := by
  intro pins s σ H x y v u Q I rx ry h
  obtain ⟨a, dx, fs, tb, rfl, ha, ty, hn, hsp⟩ := h
  obtain rfl : v = Value.ref a := rx
  obtain ⟨mA, J, _⟩ := ins_get I.hok ha
  obtain ⟨od, J, _⟩ := J.look
  obtain ⟨P, Z, p, _⟩ := kit_of I ry ty
  show wpAny (model X.prog X.w) X.A (richCompare .NotEq (.ref a) u) (EP X pins σ Q) X.xe s
  refine PkNe.rc_ne (tb := tb) (by have := hr.in1.units0; exact Nat.lt_of_le_of_lt (Nat.le_refl _) this) I.kIn J (Z.ty _ _ I.kIn p) hn e.mro e.ne e.eq e.fn ?_
  refine run_own F hb hx rfl hr.in1 I ry hsp fun z H' w s' I' rz q => ?_
  obtain ⟨b, rfl, q⟩ := q
  obtain rfl : w = Value.bool b := rz
  have q2 : Q (.bl (!b)) H' := by
    cases b <;> exact q
  exact ⟨b, rfl, .bl (!b), H', I', rfl, q2⟩
end
end Pa
set_option maxRecDepth 100000
set_option maxHeartbeats 4000000
/-! f(.., **d) -/
namespace PkKw
open PySem PySem.Spec PyProof.Rows
section
variable {prog : Program} {w : World} {K : Type} [DecidableEq K] {knd : KeyKind prog w K} {A : Around} {E : Value → Shared → Prop} {s : Shared}
theorem put_new {d : Addr} {kvs : List (K × Value)} {k : K} {key v : Value} {Q : Unit → Shared → Prop} (hkey : knd.is k key = true) (hm : s.heap.DictOf knd d kvs) (hnot : k ∉ kvs.map (·.1))
    (hQ : ∀ h', h'.DictOf knd d (kvs ++ [(k, v)]) → Heap.SameBut d s.heap h' → Q () { s with heap := h' }) (hsz : kvs.length ≤ sizeLine) :
    wpAny (model prog w) A (dictFind d key (knd.hash k)) (fun r s' => r = none ∧ s' = s) E s ∧ wpAny (model prog w) A (dictPut d (knd.hash k) key v) Q E s := by
  obtain ⟨o, es, ep, ho, hc, hd, hk, hp, hn⟩ := hm
  have hes : es.size ≤ sizeLine := by
    have e1 := hp.length
    have e2 : es.toList.length = es.size := by simp
    omega
  have hidx : (es.findIdx? fun e => knd.is k e.key) = kvs.findIdx? fun kv => decide (kv.1 = k) := by
    rw [← hp.findIdx k]; obtain ⟨l⟩ := es; simp
  have hi : (es.findIdx? fun e => knd.is k e.key) = none := by
    rw [hidx, List.findIdx?_eq_none_iff]
    intro x hx
    exact decide_eq_false fun e => hnot (List.mem_map.mpr ⟨x, hx, e⟩)
  refine ⟨wpAny_dictFind_of hkey ho hd hk ⟨hi, rfl⟩, ?_⟩
  unfold dictPut
  refine wpAny_bind (wpAny_dictFind_of hkey ho hd hk ?_)
  rw [hi]
  refine wpAny_updateDictKeys (hz := hes) ho hd (hQ _ ⟨_, _, ep + 1, Heap.get?_update_self _ ho (Obj.isFreed_of_dict (Obj.data_mapDictKeys hd _)),
      hc.mapDictKeys _, Obj.data_mapDictKeys hd _, hk.push hkey _, ?_, ?_⟩ (Heap.SameBut.update ..))
  · have := hp.append hkey (knd.hash k) v
    obtain ⟨l⟩ := es
    simpa using this
  · rw [List.map_append, List.nodup_append]
    refine ⟨hn, by simp, ?_⟩
    intro a ha b hb
    simp only [List.map_cons, List.map_nil, List.mem_singleton] at hb
    subst hb
    exact fun e => hnot (e ▸ ha)
theorem merge_new {d a : Addr} {kvs : List (K × Value)} {Q : Unit → Shared → Prop} (hne : d ≠ a) (haS : (a == sysModules) = false) (hd : s.heap.DictOf knd d []) (ha : s.heap.DictOf knd a kvs)
    (hQ : ∀ h', h'.DictOf knd d kvs → Heap.SameBut d s.heap h' → Q () { s with heap := h' }) (hsz : kvs.length ≤ sizeLine) : wpAny (model prog w) A (mergeMapping d (.ref a) true) Q E s := by
  obtain ⟨od, esd, epd, hod, hcd, hdd, hkd, hpd, hnd⟩ := id hd
  obtain ⟨oo, es, ep, hoo, hco, hdo, hko, hpo, hno⟩ := id ha
  have hlen : kvs.length = es.size := by rw [← hpo.length]; simp
  unfold mergeMapping
  refine wpAny_bind (wpAny_isInstance ha.typeIs isSubtype_dict_dict ?_)
  simp only [if_true]
  refine wpAny_bind (wpAny_specialOf ha.typeIs F.slot_dict_iter.lookup (wpAny_bind (wpAny_pure ?_)))
  simp only [beq_self_eq_true, haS, Bool.false_eq_true, if_false]
  refine wpAny_bind (wpAny_dictEntries hod hdd ?_)
  have he0 : esd = #[] := by
    have z := hpd.length
    exact Array.eq_empty_of_size_eq_zero (by simpa using z)
  rw [he0]
  simp only [Array.isEmpty_empty, if_true]
  refine wpAny_bind (wpAny_dictEntries hoo hdo ?_)
  refine wpAny_bind ?_
  rw [← Array.forIn_toList]
  refine wpAny_forIn_list _ (fun rest _ s' => s' = s ∧ ∀ e ∈ rest, carriedByValue e.key = true) _ ?_ ?_ _ _ ⟨rfl, fun e he => ?_⟩
  · rintro e rest b s' ⟨rfl, hall⟩
    have hc := hall e List.mem_cons_self
    have hr : ∀ x ∈ rest, carriedByValue x.key = true := fun x hx => hall x (List.mem_cons_of_mem _ hx)
    obtain ⟨eh, ek, ev⟩ := e
    cases ek <;> first | exact wpAny_pure ⟨rfl, hr⟩ | exact absurd hc (by simp [carriedByValue])
  · rintro b s' ⟨eqs, _⟩
    rw [eqs]
    refine wpAny_bind (wpAny_dictEntries hoo hdo ?_)
    refine wpAny_bind (wpAny_dictEpoch hoo hdo ?_)
    refine wpAny_bind ?_
    refine wpAny_forIn_list _
      (fun rest _ s' => ∃ h' i, s' = { s with heap := h' } ∧ rest = List.range' i (es.size - i) ∧ i ≤ es.size ∧ h'.DictOf knd d (kvs.take i) ∧ h'.get? a = some oo ∧ Heap.SameBut d s.heap h')
      _ ?_ ?_ _ _ ⟨s.heap, 0, rfl, by rw [List.range_eq_range', Nat.sub_zero], Nat.zero_le _, by simpa using hd, hoo, Heap.SameBut.refl _ _⟩
    · rintro x rest b s' ⟨h', i, rfl, hr, hi, hd', hoo', hs'⟩
      have hlt : i < es.size := by
        rcases Nat.lt_or_ge i es.size with h | h
        · exact h
        · rw [Nat.sub_eq_zero_of_le h] at hr; simp at hr
      obtain ⟨rfl, hrest⟩ : x = i ∧ rest = List.range' (i + 1) (es.size - (i + 1)) := by
        have e : es.size - i = (es.size - (i + 1)) + 1 := by omega
        rw [e, List.range'_succ] at hr
        injection hr with h1 h2
        exact ⟨h1, h2⟩
      refine wpAny_bind (wpAny_dictEntries hoo' hdo ?_)
      rw [Array.getElem?_eq_getElem hlt]
      obtain ⟨kv, hkv⟩ : ∃ kv, kvs[x]? = some kv := ⟨kvs[x]'(by rw [hlen]; exact hlt), List.getElem?_eq_getElem _⟩
      obtain ⟨k, v⟩ := kv
      obtain ⟨hkey, hval⟩ := hpo.get? (e := es[x]) (by simp [hlt]) hkv
      obtain ⟨k', hkey', hhash⟩ := hko es[x] (Array.getElem_mem hlt)
      obtain rfl : k' = k := knd.inj _ _ _ hkey' hkey
      have hnot : k' ∉ (kvs.take x).map (·.1) := by
        have hx : x < kvs.length := by rw [hlen]; exact hlt
        have e1 : kvs.take (x + 1) = kvs.take x ++ [(k', v)] := by rw [List.take_add_one, hkv]; rfl
        have n1 : ((kvs.take (x + 1)).map (·.1)).Nodup := (List.Sublist.map _ (List.take_sublist _ _)).nodup hno
        rw [e1, List.map_append, List.nodup_append] at n1
        exact fun hm => n1.2.2 k' hm k' (by simp) rfl
      have hmx : (kvs.take x).length ≤ sizeLine := by
        rw [List.length_take]; omega
      have put := fun Q hQ => put_new (prog := prog) (A := A) (E := E) (s := { s with heap := h' }) (v := v) (Q := Q) hkey hd' hnot hQ hmx
      show wpAny _ _ (holding [es[x].key, es[x].val] _ >>= _) _ _ _
      rw [hhash, hval]
      refine wpAny_bind (wpAny_holding (wpAny_bind (wpAny_mono (put (fun _ _ => True) fun _ _ _ => True.intro).1 (fun r s2 z => ?_) fun _ _ e => e)))
      obtain ⟨z1, z2⟩ := z
      subst z1
      subst z2
      simp only [Option.isSome_none, Bool.false_eq_true, if_false]
      refine (put _ fun h'' hd'' hs'' => ?_).2
      have hoo'' : h''.get? a = some oo := (hs''.2 a (Ne.symm hne)).trans hoo'
      refine wpAny_bind (wpAny_dictEpoch hoo'' hdo ?_)
      rw [if_neg (by simp)]
      have e1 : kvs.take (x + 1) = kvs.take x ++ [(k', v)] := by rw [List.take_add_one, hkv]; rfl
      exact wpAny_pure ⟨h'', x + 1, rfl, hrest, hlt, by rw [e1]; exact hd'', hoo'', hs'.trans hs''⟩
    · rintro b s' ⟨h', i, rfl, hr, hi, hd', hoo', hs'⟩
      have hin : i = es.size := by
        rcases Nat.lt_or_ge i es.size with h | h
        · have e : es.size - i = (es.size - (i + 1)) + 1 := by omega
          rw [e, List.range'_succ] at hr; exact nomatch hr
        · exact Nat.le_antisymm hi h
      refine wpAny_pure (hQ h' ?_ hs')
      rw [hin, ← hlen, List.take_length] at hd'; exact hd'
  · obtain ⟨k, hkey, _⟩ := hko e (Array.mem_toList_iff.mp he)
    exact knd.byValue k _ hkey
end
end PkKw
set_option maxRecDepth 100000
set_option maxHeartbeats 4000000
namespace PkKw
open PySem PySem.Spec PyProof.Rows
section
variable {prog : Program} {w : World} {K : Type} [DecidableEq K] {knd : KeyKind prog w K} {A : Around} {E : Value → Shared → Prop} {s : Shared}
theorem merged_kd {x : Sem Value} {f : Value} {pos : Pos} {Q : Addr → Shared → Prop}
    (h : wpAny (model prog w) A x (fun m s1 => ∃ a kvs, m = .ref a ∧ s.heap.objs.size ≠ a ∧ (a == sysModules) = false ∧ s1.heap.DictOf knd s.heap.objs.size [] ∧ s1.heap.DictOf knd a kvs ∧ kvs.length ≤ sizeLine ∧
      ∀ h', h'.DictOf knd s.heap.objs.size kvs → Heap.SameBut s.heap.objs.size s1.heap h' → Q s.heap.objs.size { s1 with heap := h' }) E { s with heap := s.heap.push { cls := .type "dict", data := .dict #[] } }) :
    wpAny (model prog w) A (mergedKeywords f [(none, (do let v ← x; standAt pos; pure v))]) Q E s := by
  unfold mergedKeywords
  refine wpAny_bind (wpAny_alloc ?_)
  refine wpAny_bind (wpAny_holding ?_)
  refine wpAny_bind ?_
  rw [List.forIn_cons]
  refine wpAny_bind ?_
  dsimp only
  refine wpAny_bind ?_
  rw [if_pos (by rfl)]
  refine wpAny_pure ?_
  refine wpAny_bind (wpAny_bind (wpAny_mono h (fun m s1 z => wpAny_bind (wpAny_standAt (wpAny_pure ?_))) fun _ _ e => e))
  obtain ⟨a, kvs, rfl, hne, haS, hd, ha, hsz, q⟩ := z
  refine wpAny_bind (wpAny_onRaise (wpAny_holding (wpAny_tryCatch (wpAny_onRaise (merge_new hne haS hd ha (fun h' hd' sb => ?_) hsz)))))
  refine wpAny_pure ?_
  refine wpAny_of_eq List.forIn_nil ?_
  rw [if_pos (by rfl)]
  exact wpAny_pure (wpAny_pure (q h' hd' sb))
end
section
variable {prog : Program} {w : World} {A : Around} {E : Value → Shared → Prop} {s : Shared}
theorem kwIn_loop {F : DictEntry → List (Str × Value) → Sem (ForInStep (List (Str × Value)))} (hF : ∀ e kw x t, e.key = .str x t → F e kw = pure (.yield (kw ++ [(x, e.val)]))) :
    ∀ (es : List DictEntry) (ex kw : List (Str × Value)), Pairs (L2.mixKind prog w) es (ex.map fun x => ((Sum.inr x.1 : L2.Key), x.2)) → forIn es kw F = pure (kw ++ ex)
  | [], ex, kw, h => by
    cases ex with
    | nil => rw [List.forIn_nil, List.append_nil]
    | cons x r => cases h
  | e :: es, ex, kw, h => by
    cases ex with
    | nil => cases h
    | cons x r =>
      cases h with
      | cons h1 h2 h3 =>
        obtain ⟨t, ht⟩ : ∃ t, e.key = .str x.1 t := Value.isStrOf_shape h1
        rw [List.forIn_cons, hF e kw x.1 t ht]
        show forIn es (kw ++ [(x.1, e.val)]) F = _
        rw [kwIn_loop hF es r _ h3, h2, List.append_assoc]
        rfl
theorem kwIn_kd {f : Value} {d : Addr} {ex : List (Str × Value)} {Q : List (Str × Value) → Shared → Prop} (hd : s.heap.DictOf (L2.mixKind prog w) d (ex.map fun x => ((Sum.inr x.1 : L2.Key), x.2))) (hq : Q ex s) :
    wpAny (model prog w) A (keywordsIn f d) Q E s := by
  obtain ⟨o, es, ep, ho, hc, hdat, hk, hp, hn⟩ := hd
  unfold keywordsIn
  refine wpAny_bind (wpAny_dictEntries ho hdat ?_)
  refine wpAny_bind ?_
  rw [← Array.forIn_toList, kwIn_loop (fun e kw x t he => ?_) es.toList ex [] hp]
  · exact wpAny_pure (wpAny_pure hq)
  · obtain ⟨eh, ek, ev⟩ := e
    simp only at he
    subst he
    rfl
theorem evalArgs_dstar {f : Value} {pos : Pos} {env : Env} {e g : Expr} {rest : List Expr} {kp : Pos} {Q : Args → Shared → Prop}
    (h : wpAny (model prog w) A (spliced (backTo pos (starEach (e :: rest) env))) (fun vs s0 => wpAny (model prog w) A (eval g env) (fun m s1 => ∃ a ex, m = .ref a ∧ s0.heap.objs.size ≠ a ∧ (a == sysModules) = false ∧
      s1.heap.DictOf (L2.mixKind prog w) s0.heap.objs.size [] ∧ s1.heap.DictOf (L2.mixKind prog w) a (ex.map fun x => ((Sum.inr x.1 : L2.Key), x.2)) ∧ ex.length ≤ sizeLine ∧
      ∀ h', h'.DictOf (L2.mixKind prog w) s0.heap.objs.size (ex.map fun x => ((Sum.inr x.1 : L2.Key), x.2)) → Heap.SameBut s0.heap.objs.size s1.heap h' → Q ⟨vs, ex⟩ { s1 with heap := h' }) E
        { s0 with heap := s0.heap.push { cls := .type "dict", data := .dict #[] } }) E s)
    (he : starEach (e :: rest) env = (false, eval e env) :: starEach rest env) :
    wpAny (model prog w) A (evalArgs f true (backTo pos (starEach (e :: rest) env)) (backToKw pos (keywordEach [⟨none, g, kp⟩] env))) Q E s := by
  rw [he] at h ⊢
  have hall : (backToKw pos (keywordEach [⟨none, g, kp⟩] env)).all (·.1.isSome) = false := rfl
  unfold evalArgs
  show wpAny (model prog w) A (spliced (backTo pos ((false, eval e env) :: starEach rest env)) >>= _) Q E s
  refine wpAny_bind (wpAny_mono h (fun vs s0 z => ?_) fun _ _ e => e)
  refine wpAny_holding ?_
  simp only [hall, Bool.false_eq_true, if_false]
  refine wpAny_bind (merged_kd (knd := L2.mixKind prog w) (wpAny_mono z (fun m s1 y => ?_) fun _ _ e => e))
  obtain ⟨a, ex, rfl, hne, haS, hd, ha, hsz, q⟩ := y
  refine ⟨a, _, rfl, hne, haS, hd, ha, by rw [List.length_map]; exact hsz, fun h' hd' sb => ?_⟩
  refine wpAny_bind (wpAny_pure ?_)
  refine wpAny_bind (wpAny_holding (kwIn_kd hd' ?_))
  exact wpAny_pure (q h' hd' sb)
/-- f(e, .., **g): the call's node -/
theorem callWith_dstar {K : PySem.W.Frag} {h₀ : Heap} {f : Value} {first : List Value} {pos : Pos} {env : Env} {e g : Expr} {rest : List Expr} {kp : Pos} {Q : Value → Shared → Prop} (_X : K.In h₀) (hk : PySem.W.keepIn K f = true)
    (h : wpAny (model prog w) A (spliced (backTo pos (starEach (e :: rest) env))) (fun vs s0 => wpAny (model prog w) A (eval g env) (fun m s1 => ∃ a ex, m = .ref a ∧ s0.heap.objs.size ≠ a ∧ (a == sysModules) = false ∧
      s1.heap.DictOf (L2.mixKind prog w) s0.heap.objs.size [] ∧ s1.heap.DictOf (L2.mixKind prog w) a (ex.map fun x => ((Sum.inr x.1 : L2.Key), x.2)) ∧ ex.length ≤ sizeLine ∧
      ∀ h', h'.DictOf (L2.mixKind prog w) s0.heap.objs.size (ex.map fun x => ((Sum.inr x.1 : L2.Key), x.2)) → Heap.SameBut s0.heap.objs.size s1.heap h' →
        K.In h' ∧ wpAny (model prog w) A (call f (first ++ vs) ex) Q E { s1 with heap := h' }) E
        { s0 with heap := s0.heap.push { cls := .type "dict", data := .dict #[] } }) E s)
    (he : starEach (e :: rest) env = (false, eval e env) :: starEach rest env) :
    wpAny (model prog w) A (callWith pos f first (backTo pos (starEach (e :: rest) env)) (backToKw pos (keywordEach [⟨none, g, kp⟩] env))) Q E s := by
  have hst : ((backTo pos (starEach (e :: rest) env)).any (·.1) || (backToKw pos (keywordEach [⟨none, g, kp⟩] env)).any (·.1.isNone)) = true := by
    rw [show (backToKw pos (keywordEach [⟨none, g, kp⟩] env)).any (·.1.isNone) = true from rfl, Bool.or_true]
  unfold callWith
  refine wpAny_bind (wpAny_holding (wpAny_mono (evalArgs_dstar (Q := fun a s₁ => K.In s₁.heap ∧ wpAny (model prog w) A (call f (first ++ a.pos) a.kw) Q E s₁) h he) (fun a s₁ h₁ => wpAny_bind (wpAny_standAt ?_)) fun _ _ x => x))
  obtain ⟨k, hk', L⟩ := PySem.W.keeps_K hk _ h₁.1
  simp only [hst]
  refine wpAny_bind (L.here ?_)
  have tail : ∀ {t : Sem Value}, wpAny (model prog w) A t Q E s₁ → wpAny (model prog w) A (t >>= fun r => holding [r] point >>= fun _ => pure r) Q E s₁ :=
    fun ht => wpAny_bind (wpAny_mono ht (fun r s₂ hr => wpAny_bind (wpAny_holding (wpAny_point (wpAny_pure hr)))) fun _ _ x => x)
  have marked (mk : Value) : wpAny (model prog w) A (callMarked mk f (first ++ a.pos) a.kw) Q E s₁ := by unfold callMarked; exact Calls.wpAny_keep h₁.2
  rcases hk' with rfl | rfl | rfl <;> dsimp only <;> first | exact tail (marked _) | exact tail (PySem.W.wpAny_operating h₁.2) | exact tail (wpAny_operateT h₁.2)
end
end PkKw
set_option maxRecDepth 100000
set_option maxHeartbeats 4000000
namespace Pa
open PySem PySem.Spec PyProof.Rows L2 StX
theorem kv_zip : ∀ (ks : List Str) {zs : List V} {ws : List Value}, Vals zs ws → KV (ks.zip zs) (ks.zip ws)
  | [], _, _, _ => by simp only [List.zip_nil_left]; exact .nil
  | k :: ks, _, _, .nil => .nil
  | k :: ks, _, _, .cons r rs => .cons ⟨rfl, r⟩ (kv_zip ks rs)
theorem kv_uninr : ∀ {zs : List (Str × V)} {vs : List (Key × Value)}, KV (zs.map fun x => ((Sum.inr x.1 : Key), x.2)) vs → ∃ ex : List (Str × Value), vs = ex.map (fun x => ((Sum.inr x.1 : Key), x.2)) ∧ KV zs ex
  | [], _, .nil => ⟨[], rfl, .nil⟩
  | z :: zs, v :: vs, .cons r rs => by
    obtain ⟨ex, e, q⟩ := kv_uninr rs
    obtain ⟨vk, vv⟩ := v
    obtain ⟨r1, r2⟩ := r
    simp only at r1 r2
    subst r1 e
    exact ⟨(z.1, vv) :: ex, rfl, .cons ⟨rfl, r2⟩ q⟩
/-- a promise of a def with keywords -/
abbrev SpK := List V → List (Str × V) → Hp → VK → XK → Prop
section
variable {X : Cx} {CX : CXT} {k i : Nat} {f C : Addr} {sp : SpK} {E : XK} {x : Str} {e g : Expr} {es : List Expr} {kws : List Keyword} {ks : List Str} {tg : TE} {t tk : TA} {p pos kp : Pos}
theorem run_makeKw {pins : List (Addr × Obj)} {σ : L2.St} {H : Hp} {s : Shared} {Q : VK} {us : List Value} {vs : List V} {kw : List (Str × Value)} {zs : List (Str × V)} (M : Mk X.K C f) (F : FnKw X.prog X.w X.K X.mg X.base CX k f sp) (hr : Room (k + 1) X.A) (hx : Passes CX X E) (I : Inv X pins σ H s) (r : Vals vs us) (rk : KV zs kw)
    (h : ∀ x dx, H x = Option.none → H dx = Option.none → dx ≠ x → sp (V.ref x :: vs) zs (upd (upd H dx (.own x)) x (.ins C dx [])) (fun v H2 => v = .non ∧ Q (.ref x) H2) E) :
    wpAny (model X.prog X.w) X.A (call (.ref C) us kw) (EP X pins σ Q) X.xe s := by
  have hq := h (s.heap.objs.size + 1) s.heap.objs.size (I.hok.fresh (Nat.le_succ _)) (I.hok.fresh (Nat.le_refl _)) (Nat.ne_of_lt (Nat.lt_succ_self _))
  have I2 := Inv.made (C := C) I
  have r2 : Vals (V.ref (s.heap.objs.size + 1) :: vs) (Value.ref (s.heap.objs.size + 1) :: us) := .cons rfl r
  refine wpAny_call (make_map (f := f) I.kIn M.makes M.init (beq_iff_eq.mp M.fn) (codeAny_mono (F _ X.stack _ _ (Value.ref (s.heap.objs.size + 1) :: us) kw _ zs _ E (hr.make C us kw) (I2.env0.make C us kw) r2 rk hq) fun r s' hq' => ?_))
  cases r with
  | error e => exact hx pins σ _ _ e s' I2 hq'
  | ok fl =>
    cases fl with
    | ret u =>
      obtain ⟨v, H', I3, rv, ev, q3⟩ := I2.after hq'
      subst ev
      exact ⟨rv, ⟨V.ref (s.heap.objs.size + 1), H', I3, rfl, q3⟩⟩
    | next => exact False.elim hq'
    | brk => exact False.elim hq'
    | cont => exact False.elim hq'
/-- C(e, .., k = v, ..), the class in the module -/
def tMakeKw (C : Addr) (ks : List Str) (sp : SpK) (E : XK) (t tk : TA) : TE := fun σ H Q => t σ H fun vs H1 => tk σ H1 fun zs H2 => ∀ x dx, H2 x = Option.none → H2 dx = Option.none → dx ≠ x →
  sp (V.ref x :: vs) (ks.zip zs) (upd (upd H2 dx (.own x)) x (.ins C dx [])) (fun v H3 => v = .non ∧ Q (.ref x) H3) E
theorem pe_makeKw (M : Mk X.K C f) (F : FnKw X.prog X.w X.K X.mg X.base CX k f sp) (hr : Room (k + 1) X.A) (hg : Gl X x) (hm : X.mg x = some (.ref C)) (hx : Passes CX X E)
    (ha : PA X (e :: es) t) (hkw : PK X kws tk) (hall : (backToKw pos (keywordEach kws X.env)).all (·.1.isSome) = true := by rfl) (hks : (backToKw pos (keywordEach kws X.env)).filterMap (·.1) = ks := by rfl)
    (hdb : (x == ("__debug__" : Str)) = false := by decide) (he : starEach (e :: es) X.env = (false, eval e X.env) :: starEach es X.env := by rfl)
    (hpl : ((backTo pos (starEach (e :: es) X.env)).any (·.1) || (backToKw pos (keywordEach kws X.env)).any (·.1.isNone)) = false := by rfl) :
    PE X (.Call (.Name x p) (e :: es) kws pos) (tMakeKw C ks sp E t tk) := by
  refine ⟨fun pins s σ H Q I h => ?_⟩
  refine wpAny_Call_Name_kw (ld_glob I hg hm ?_ hdb)
  refine PySem.W.callWith_KW (h₀ := X.base) I.ok.mod.kin M.kp hall (thn (ha.run pos pins s σ H _ I h) fun us s1 ⟨vs, H1, I1, r, q⟩ => ?_) hpl he
  refine thn (hkw.run pos pins s1 σ H1 _ I1 q) fun ws s2 ⟨zs, H2, I2, rz, q2⟩ => ⟨I2.kIn, ?_⟩
  rw [hks]
  exact run_makeKw M F hr hx I2 r (kv_zip ks rz) q2
/-- x(e, .., **g), x a local that holds the class at C -/
def tClsKw (i : Nat) (C : Addr) (sp : SpK) (E : XK) (t : TA) (tg : TE) : TE := fun σ H Q => σ[i]? = some (some (.ref C)) ∧ t σ H fun vs H1 => ∀ d, H1 d = Option.none → tg σ (upd H1 d (.dK [])) fun y H2 => ∃ a zs, y = .ref a ∧ a ≠ d ∧ H2 d = some (.dK []) ∧
  H2 a = some (.dK (zs.map fun x => ((Sum.inr x.1 : Key), x.2))) ∧ ∀ x dx, upd H2 d (.dK (zs.map fun x => ((Sum.inr x.1 : Key), x.2))) x = Option.none → upd H2 d (.dK (zs.map fun x => ((Sum.inr x.1 : Key), x.2))) dx = Option.none → dx ≠ x →
    sp (V.ref x :: vs) zs (upd (upd (upd H2 d (.dK (zs.map fun x => ((Sum.inr x.1 : Key), x.2)))) dx (.own x)) x (.ins C dx [])) (fun v H3 => v = .non ∧ Q (.ref x) H3) E
theorem pe_clsKw (M : Mk X.K C f) (F : FnKw X.prog X.w X.K X.mg X.base CX k f sp) (hr : Room (k + 1) X.A) (hN : X.N[i]? = some x) (hv : Vis X.env.scope x) (hx : Passes CX X E)
    (ha : PA X (e :: es) t) (hg : PE X g tg) (hdb : (x == ("__debug__" : Str)) = false := by decide) (hcd : (x == ("__classdict__" : Str)) = false := by decide)
    (he : starEach (e :: es) X.env = (false, eval e X.env) :: starEach es X.env := by rfl) :
    PE X (.Call (.Name x p) (e :: es) [⟨none, g, kp⟩] pos) (tClsKw i C sp E t tg) := by
  refine ⟨fun pins s σ H Q I h => ?_⟩
  obtain ⟨hs, ht⟩ := h
  refine wpAny_Call_Name_kw (thn ((pe_var (pos := p) hN hv hdb hcd).run pins s σ H (fun v H1 => v = .ref C ∧ H1 = H) I ⟨.ref C, hs, rfl, rfl⟩) fun u s1 ⟨v, H1, I1, r1, q1⟩ => ?_)
  obtain ⟨rfl, rfl⟩ := q1
  cases r1
  refine PkKw.callWith_dstar (h₀ := X.base) I.ok.mod.kin M.kp (thn (ha.run pos pins s1 σ _ _ I1 ht) fun us s0 ⟨vs, H2, I2, r, q⟩ => ?_) he
  have hn := I2.hok.fresh (Nat.le_refl s0.heap.objs.size)
  have I3 := I2.laid (a := s0.heap.objs.size) (o := .dK []) (t' := s0.toks) (fun _ _ q => Heap.get?_push_of_some _ q) (Nat.le_refl _) (dk_empty s0.heap I2.big)
  refine thn (hg.run pins _ σ _ _ I3 (q _ hn)) fun m s2 ⟨y, H3, I4, ry, a, zs, ey, hne, hd, ha', q2⟩ => ?_
  subst ey
  obtain rfl : m = Value.ref a := ry
  obtain ⟨z0, hz0, vs0, rel0, dd0⟩ := dk_of I4.hok hd
  obtain ⟨za, hza, vsa, rela, dda⟩ := dk_of I4.hok ha'
  obtain rfl : vs0 = [] := by cases rel0; rfl
  obtain ⟨ex, rfl, rk⟩ := kv_uninr rela
  have hl := Paired.length rk
  rw [List.length_map] at za
  refine ⟨a, ex, rfl, Ne.symm hne, hza, dd0, dda, by omega, fun h' hd' sb => ?_⟩
  have I5 : Inv X pins σ (upd H3 s0.heap.objs.size (.dK (zs.map fun x => ((Sum.inr x.1 : Key), x.2)))) { s2 with heap := h' } :=
    d_write (t' := s2.toks) I4 (by rw [hd]; exact True.intro) sb (let ⟨q, _, _, hq, _⟩ := hd'; ⟨q, hq⟩) (dk_new (by rw [List.length_map]; exact za) hz0 (kv_inr rk) hd')
  exact ⟨I5.kIn, run_makeKw M F hr hx I5 r rk q2⟩
end
end Pa
set_option maxRecDepth 100000
set_option maxHeartbeats 4000000
/-! dict(zip(a, b)): a a tuple, b a tuple or a list -/
namespace PkZ
open PySem PySem.Spec PyProof.Rows
section
variable {prog : Program} {w : World} {A : Around} {E : Value → Shared → Prop} {s : Shared}
/-- a place in a list or a tuple -/
inductive Cu (h : Heap) (it l : Addr) (k : Nat) (xs : Array Value) : Prop where
  | lst (a : h.IsListIter it l k) (b : h.IsList l xs) : Cu h it l k xs
  | tup (a : h.IsTupleIter it l k) (b : h.IsTuple l xs) : Cu h it l k xs
variable {it l : Addr} {k : Nat} {xs : Array Value} {x : Value}
theorem Cu.mv {h h' : Heap} (c : Cu h it l k xs) (e1 : ∀ o, h.get? it = some o → h'.get? it = some o) (e2 : ∀ o, h.get? l = some o → h'.get? l = some o) : Cu h' it l k xs := by
  cases c with
  | lst a b => exact .lst (a.at e1) (b.at e2)
  | tup a b => exact .tup (a.at e1) (b.at e2)
theorem Cu.off {h h' : Heap} {c : Addr} (C : Cu h it l k xs) (sb : Heap.ExtBut c h h') (n1 : it ≠ c) (n2 : l ≠ c) : Cu h' it l k xs := C.mv (fun o e => sb _ _ n1 e) fun o e => sb _ _ n2 e
theorem Cu.here {h : Heap} (c : Cu h it l k xs) : ∃ o, h.get? it = some o := by
  cases c with
  | lst a b => obtain ⟨o, e, _⟩ := a; exact ⟨o, e⟩
  | tup a b => obtain ⟨o, e, _⟩ := a; exact ⟨o, e⟩
theorem Cu.base {h : Heap} (c : Cu h it l k xs) : ∃ o, h.get? l = some o := by
  cases c with
  | lst a b => obtain ⟨o, e, _⟩ := b; exact ⟨o, e⟩
  | tup a b => obtain ⟨o, e, _⟩ := b; exact ⟨o, e⟩
theorem cu_item {Q : Value → Shared → Prop} (c : Cu s.heap it l k xs) (hn : l ≠ it) (hx : xs[k]? = some x) (hQ : ∀ h', Cu h' it l (k + 1) xs → Heap.SameBut it s.heap h' → Q x { s with heap := h' }) :
    wpAny (model prog w) A (Builtin.SmallTypes.nextOf (.ref it)) Q E s := by
  cases c with
  | lst a b => exact wpAny_nextOf_list_item a b hx fun h' a' sb => hQ h' (.lst a' (b.at fun o e => sb.extBut _ _ hn e)) sb
  | tup a b => exact RZ.nextOf_tuple_item a b hx fun h' a' sb => hQ h' (.tup a' (b.at fun o e => sb.extBut _ _ hn e)) sb
theorem cu_end {Q : Value → Shared → Prop} (hh : A.handled = none) (c : Cu s.heap it l k xs) (hx : xs[k]? = none)
    (hE : ∀ h' e, Heap.ExtBut it s.heap h' → (∃ o, h'.get? e = some o ∧ o.cls = .type "StopIteration") → E (.ref e) { s with heap := h' }) : wpAny (model prog w) A (Builtin.SmallTypes.nextOf (.ref it)) Q E s := by
  cases c with
  | lst a b => exact wpAny_nextOf_list_end hh a b hx hE
  | tup a b => exact RZ.nextOf_tuple_end hh a b hx hE
variable {z TI TO i1 i2 l1 l2 : Addr} {n : Nat} {ys : Array Value} {y : Value}
/-- the first pair -/
theorem zc_first {Q : Value → Shared → Prop} {a b : Value} (D : ZipApart z TI TO i1 i2 l1 l2) (hz : IsZip s.heap z TI TO .none) (hTI : IsPair s.heap TI (.ref i1) (.ref i2)) (hTO : IsPair s.heap TO a b)
    (c1 : Cu s.heap i1 l1 k xs) (c2 : Cu s.heap i2 l2 n ys) (hx : xs[k]? = some x) (hy : ys[n]? = some y)
    (hQ : ∀ h', IsZip h' z TI TO (rawInt s.heap.objs.size) → Cu h' i1 l1 (k + 1) xs → Cu h' i2 l2 (n + 1) ys → IsPair h' s.heap.objs.size x y →
      (∀ c o, c ≠ z → c ≠ TO → c ≠ i1 → c ≠ i2 → s.heap.get? c = some o → h'.get? c = some o) → Q (.ref s.heap.objs.size) { s with heap := h' }) :
    wpAny (model prog w) A (Builtin.«zip.__next__» ⟨[.ref z], []⟩) (fun fin s' => ∃ v, fin = .done (.ret v) ∧ Q v s') E s := by
  show wpAny _ _ (field (.ref z) 2 >>= _) _ _ _
  refine wpAny_bind (wpAny_field hz rfl (x := .bool false) rfl ?_)
  show wpAny _ _ (field (.ref z) 3 >>= _) _ _ _
  refine wpAny_bind (wpAny_field hz rfl (x := .ref TI) rfl ?_)
  refine wpAny_bind (wpAny_seqItems hTI rfl ?_)
  show wpAny _ _ (Builtin.SmallTypes.ownedTupleIsFree (.ref z) >>= _) _ _ _
  refine wpAny_bind ?_
  unfold Builtin.SmallTypes.ownedTupleIsFree
  refine wpAny_bind (wpAny_field hz rfl (x := .none) rfl (wpAny_pure ?_))
  simp only [if_true]
  refine wpAny_bind (wpAny_rule ?_)
  refine wpAny_bind (wpAny_field hz rfl (x := .ref TO) rfl ?_)
  refine wpAny_bind (wpAny_setField_rec hz (by simp) fun g1 z1 b1 => ?_)
  refine wpAny_bind ?_
  simp only [List.zipIdx_cons, List.zipIdx_nil, List.forIn_cons, List.forIn_nil]
  refine wpAny_bind (wpAny_bind (wpAny_onRaise ?_))
  show wpAny _ _ (Builtin.SmallTypes.nextOf (.ref i1) >>= _) _ _ _
  refine wpAny_bind (cu_item (c1.off b1.extBut D.i1z D.l1z) D.l1i1 hx fun g2 c1' b2 => wpAny_pure ?_)
  have t2 : IsPair g2 TO a b := b2.extBut _ _ D.TOi1 (b1.extBut _ _ D.TOz hTO)
  refine wpAny_bind (wpAny_seqItems t2 rfl ?_)
  refine wpAny_bind (wpAny_updateSeq_pair t2 fun g3 t3 b3 => ?_)
  replace t3 : IsPair g3 TO x b := t3
  refine wpAny_bind (wpAny_letGo (wpAny_pure ?_))
  refine wpAny_bind (wpAny_bind (wpAny_onRaise ?_))
  show wpAny _ _ (Builtin.SmallTypes.nextOf (.ref i2) >>= _) _ _ _
  refine wpAny_bind (cu_item (((c2.off b1.extBut D.i2z D.l2z).off b2.extBut D.i12.symm D.l2i1).off b3.extBut D.TOi2.symm D.l2TO) D.l2i2 hy fun g4 c2' b4 => wpAny_pure ?_)
  have t4 : IsPair g4 TO x b := b4.extBut _ _ D.TOi2 t3
  refine wpAny_bind (wpAny_seqItems t4 rfl ?_)
  refine wpAny_bind (wpAny_updateSeq_pair t4 fun g5 t5 b5 => ?_)
  replace t5 : IsPair g5 TO x y := t5
  refine wpAny_bind (wpAny_letGo (wpAny_pure (wpAny_pure ?_)))
  refine wpAny_bind (wpAny_seqItems t5 rfl ?_)
  refine wpAny_bind (wpAny_newTuple ?_)
  have hsz : g5.objs.size = s.heap.objs.size := by rw [b5.1, b4.1, b3.1, b2.1, b1.1]
  have z5 : IsZip g5 z TI TO .ellipsis := b5.extBut _ _ D.TOz.symm (b4.extBut _ _ D.i2z.symm (b3.extBut _ _ D.TOz.symm (b2.extBut _ _ D.i1z.symm z1)))
  have k5 : ∀ c o, c ≠ z → c ≠ TO → c ≠ i1 → c ≠ i2 → s.heap.get? c = some o → g5.get? c = some o := fun c o q1 q2 q3 q4 e =>
    b5.extBut _ _ q2 (b4.extBut _ _ q4 (b3.extBut _ _ q2 (b2.extBut _ _ q3 (b1.extBut _ _ q1 e))))
  have c15 := ((c1'.off b3.extBut D.TOi1.symm D.l1TO).off b4.extBut D.i12 D.l1i2).off b5.extBut D.TOi1.symm D.l1TO
  have c25 := c2'.off b5.extBut D.TOi2.symm D.l2TO
  have zl : z < g5.objs.size := Heap.lt_size z5
  show wpAny _ _ (Builtin.SmallTypes.ownedTupleHandOut (.ref z) (.ref g5.objs.size) >>= _) _ _ _
  refine wpAny_bind ?_
  unfold Builtin.SmallTypes.ownedTupleHandOut
  have z6 : IsZip (g5.push { cls := .type "tuple", data := .seq #[x, y] }) z TI TO .ellipsis := Heap.get?_push_of_some _ z5
  refine wpAny_bind (wpAny_setField_rec z6 (by simp) fun g7 z7 b7 => ?_)
  replace z7 : IsZip g7 z TI TO (rawInt g5.objs.size) := z7
  refine wpAny_setField_rec z7 (by simp) fun g8 z8 b8 => ?_
  replace z8 : IsZip g8 z TI TO (rawInt g5.objs.size) := z8
  have up : ∀ c o, c ≠ z → g5.get? c = some o → g8.get? c = some o := fun c o q1 e => b8.extBut _ _ q1 (b7.extBut _ _ q1 (Heap.get?_push_of_some _ e))
  have p8 : IsPair g8 g5.objs.size x y := b8.extBut _ _ (Nat.ne_of_gt zl) (b7.extBut _ _ (Nat.ne_of_gt zl) (Heap.get?_push_size _ rfl))
  rw [hsz] at z8 p8
  refine wpAny_pure ⟨_, rfl, ?_⟩
  show Q (.ref g5.objs.size) _
  rw [hsz]
  exact hQ g8 z8 (c15.mv (fun o e => up _ o D.i1z e) fun o e => up _ o D.l1z e) (c25.mv (fun o e => up _ o D.i2z e) fun o e => up _ o D.l2z e) p8 fun c o q1 q2 q3 q4 e => up c o q1 (k5 c o q1 q2 q3 q4 e)
/-- a later pair, the first one being held -/
theorem zc_next {Q : Value → Shared → Prop} {T : Addr} {f : Bool} {oT : Obj} (D : ZipApart z TI TO i1 i2 l1 l2) (hz : IsZipHeld s.heap z TI TO T f) (hT : s.heap.get? T = some oT) (hTI : IsPair s.heap TI (.ref i1) (.ref i2))
    (c1 : Cu s.heap i1 l1 k xs) (c2 : Cu s.heap i2 l2 n ys) (hx : xs[k]? = some x) (hy : ys[n]? = some y)
    (hQ : ∀ h', IsZipHeld h' z TI TO T true → Cu h' i1 l1 (k + 1) xs → Cu h' i2 l2 (n + 1) ys → IsPair h' s.heap.objs.size x y →
      (∀ c o, c ≠ z → c ≠ i1 → c ≠ i2 → s.heap.get? c = some o → h'.get? c = some o) → Q (.ref s.heap.objs.size) { s with heap := h' }) :
    wpAny (model prog w) A (Builtin.«zip.__next__» ⟨[.ref z], []⟩) (fun fin s' => ∃ v, fin = .done (.ret v) ∧ Q v s') E s := by
  show wpAny _ _ (field (.ref z) 2 >>= _) _ _ _
  refine wpAny_bind (wpAny_field hz rfl (x := .bool false) rfl ?_)
  show wpAny _ _ (field (.ref z) 3 >>= _) _ _ _
  refine wpAny_bind (wpAny_field hz rfl (x := .ref TI) rfl ?_)
  refine wpAny_bind (wpAny_seqItems hTI rfl ?_)
  show wpAny _ _ (Builtin.SmallTypes.ownedTupleIsFree (.ref z) >>= _) _ _ _
  refine wpAny_bind (wpAny_tupleHeld_zip hz hT fun g1 z1 b1 => ?_)
  simp only [Bool.false_eq_true, if_false]
  refine wpAny_bind ?_
  rw [← Array.forIn_toList]
  simp only [List.forIn_cons, List.forIn_nil]
  refine wpAny_bind (wpAny_bind (wpAny_holding ?_))
  show wpAny _ _ (Builtin.SmallTypes.nextOf (.ref i1) >>= _) _ _ _
  refine wpAny_bind (cu_item (s := { s with heap := g1 }) (c1.off b1.extBut D.i1z D.l1z) D.l1i1 hx fun g2 c1' b2 => wpAny_pure ?_)
  refine wpAny_pure ?_
  refine wpAny_bind (wpAny_bind (wpAny_holding ?_))
  show wpAny _ _ (Builtin.SmallTypes.nextOf (.ref i2) >>= _) _ _ _
  refine wpAny_bind (cu_item (s := { s with heap := g2 }) ((c2.off b1.extBut D.i2z D.l2z).off b2.extBut D.i12.symm D.l2i1) D.l2i2 hy fun g3 c2' b3 => wpAny_pure ?_)
  refine wpAny_pure (wpAny_pure ?_)
  show wpAny _ _ (newTuple [x, y] >>= _) _ _ _
  refine wpAny_bind (wpAny_newTuple ?_)
  have hsz : g3.objs.size = s.heap.objs.size := by rw [b3.1, b2.1, b1.1]
  have z3 : IsZipHeld g3 z TI TO T true := b3.extBut _ _ D.i2z.symm (b2.extBut _ _ D.i1z.symm z1)
  have k3 : ∀ c o, c ≠ z → c ≠ i1 → c ≠ i2 → s.heap.get? c = some o → g3.get? c = some o := fun c o q1 q2 q3 e => b3.extBut _ _ q3 (b2.extBut _ _ q2 (b1.extBut _ _ q1 e))
  have c13 := c1'.off b3.extBut D.i12 D.l1i2
  refine wpAny_pure ⟨_, rfl, ?_⟩
  show Q (.ref g3.objs.size) _
  have p : IsPair (g3.push { cls := .type "tuple", data := .seq #[x, y] }) g3.objs.size x y := Heap.get?_push_size _ rfl
  rw [hsz] at p ⊢
  exact hQ _ (Heap.get?_push_of_some _ z3) (c13.mv (fun o e => Heap.get?_push_of_some _ e) fun o e => Heap.get?_push_of_some _ e) (c2'.mv (fun o e => Heap.get?_push_of_some _ e) fun o e => Heap.get?_push_of_some _ e) p
    fun c o q1 q2 q3 e => Heap.get?_push_of_some _ (k3 c o q1 q2 q3 e)
theorem zc_end {Q : Fin → Shared → Prop} {T : Addr} {f : Bool} {oT : Obj} (hh : A.handled = none) (D : ZipApart z TI TO i1 i2 l1 l2) (hz : IsZipHeld s.heap z TI TO T f) (hT : s.heap.get? T = some oT) (hTI : IsPair s.heap TI (.ref i1) (.ref i2))
    (c1 : Cu s.heap i1 l1 k xs) (hend : xs[k]? = none)
    (hE : ∀ h' e, (∀ c o, c ≠ z → c ≠ i1 → c ≠ i2 → s.heap.get? c = some o → h'.get? c = some o) → (∃ o, h'.get? e = some o ∧ o.cls = .type "StopIteration") → E (.ref e) { s with heap := h' }) :
    wpAny (model prog w) A (Builtin.«zip.__next__» ⟨[.ref z], []⟩) Q E s := by
  show wpAny _ _ (field (.ref z) 2 >>= _) _ _ _
  refine wpAny_bind (wpAny_field hz rfl (x := .bool false) rfl ?_)
  show wpAny _ _ (field (.ref z) 3 >>= _) _ _ _
  refine wpAny_bind (wpAny_field hz rfl (x := .ref TI) rfl ?_)
  refine wpAny_bind (wpAny_seqItems hTI rfl ?_)
  show wpAny _ _ (Builtin.SmallTypes.ownedTupleIsFree (.ref z) >>= _) _ _ _
  refine wpAny_bind (wpAny_tupleHeld_zip hz hT fun g1 z1 b1 => ?_)
  simp only [Bool.false_eq_true, if_false]
  refine wpAny_bind ?_
  rw [← Array.forIn_toList]
  simp only [List.forIn_cons, List.forIn_nil]
  refine wpAny_bind (wpAny_bind (wpAny_holding ?_))
  show wpAny _ _ (Builtin.SmallTypes.nextOf (.ref i1) >>= _) _ _ _
  refine wpAny_bind (cu_end (s := { s with heap := g1 }) hh (c1.off b1.extBut D.i1z D.l1z) hend fun g2 e b2 he => ?_)
  exact hE g2 e (fun c o q1 q2 _ x => b2 _ _ q2 (b1.extBut _ _ q1 x)) he
end
end PkZ
set_option maxRecDepth 100000
set_option maxHeartbeats 4000000
namespace PkZ
open PySem PySem.Spec PyProof.Rows
section
variable {prog : Program} {w : World}
theorem arg_zip (z TI TO i1 i2 l1 l2 : Addr) (D : ZipApart z TI TO i1 i2 l1 l2) (xs ys : Array Value) (hl : xs.size = ys.size) (hp : 0 < xs.size) :
    PairArg prog w "zip" z [z, TI, TO, i1, i2, l1, l2] [z, TO, i1, i2] xs.size (fun i k v => xs[i]? = some k ∧ ys[i]? = some v)
      (fun h => IsZip h z TI TO .none ∧ IsPair h TI (.ref i1) (.ref i2) ∧ (∃ a b, IsPair h TO a b) ∧ Cu h i1 l1 0 xs ∧ Cu h i2 l2 0 ys) where
  type := fun s ok => ⟨_, ok.1, rfl⟩
  notDict := by decide
  keep := fun h h' ok hk => by
    obtain ⟨hz, hTI, ⟨a, b, hTO⟩, c1, c2⟩ := ok
    exact ⟨hk _ _ hz, hk _ _ hTI, ⟨a, b, hk _ _ hTO⟩, c1.mv (fun o e => hk _ o e) (fun o e => hk _ o e), c2.mv (fun o e => hk _ o e) fun o e => hk _ o e⟩
  there := fun h ok b hb => by
    obtain ⟨hz, hTI, ⟨a, c, hTO⟩, c1, c2⟩ := ok
    simp only [List.mem_cons, List.not_mem_nil, or_false] at hb
    rcases hb with rfl | rfl | rfl | rfl | rfl | rfl | rfl
    · exact ⟨_, hz⟩
    · exact ⟨_, hTI⟩
    · exact ⟨_, hTO⟩
    · exact c1.here
    · exact c2.here
    · exact c1.base
    · exact c2.base
  sub := fun b hb => by simp at hb ⊢; rcases hb with rfl | rfl | rfl | rfl <;> simp
  noKeys := fun A s Q E hA ok h => getAttrOr_miss_zip ok.1 rfl rfl rfl zip_no_keys (by decide +kernel) hA h
  iter := fun A s d Q E hA ok hd hdf h => by
    obtain ⟨hz, hTI, ⟨a, b, hTO⟩, c1, c2⟩ := ok
    simp only [List.mem_cons, List.not_mem_nil, or_false, not_or] at hdf
    obtain ⟨dz, dTI, dTO, di1, di2, dl1, dl2⟩ := hdf
    refine wpAny_pyIter_zip hz (h z [z, TO, i1, i2] (fun i h => IsPair h TI (.ref i1) (.ref i2) ∧ Cu h i1 l1 i xs ∧ Cu h i2 l2 i ys ∧
      ((i = 0 ∧ IsZip h z TI TO .none ∧ ∃ a b, IsPair h TO a b) ∨ ∃ T f oT, IsZipHeld h z TI TO T f ∧ h.get? T = some oT ∧ T ≠ z ∧ T ≠ i1 ∧ T ≠ i2 ∧ T ≠ d)) s.heap s.toks ?_
      ⟨hTI, c1, c2, .inl ⟨rfl, hz, a, b, hTO⟩⟩ (fun _ _ e => e) fun b hb => .inl hb)
    exact {
      off := fun hm => by
        simp only [List.mem_cons, List.not_mem_nil, or_false] at hm
        rcases hm with e | e | e | e
        · exact dz e
        · exact dTO e
        · exact di1 e
        · exact di2 e
      frame := fun i g1 g2 st hk => by
        obtain ⟨hTI, c1, c2, hz⟩ := st
        refine ⟨hk _ _ (Ne.symm dTI) hTI, c1.mv (fun o e => hk _ o (Ne.symm di1) e) (fun o e => hk _ o (Ne.symm dl1) e), c2.mv (fun o e => hk _ o (Ne.symm di2) e) (fun o e => hk _ o (Ne.symm dl2) e), ?_⟩
        rcases hz with ⟨hi, hz, a, b, hTO⟩ | ⟨T, f, oT, hz, hT, r1, r2, r3, r4⟩
        · exact .inl ⟨hi, hk _ _ (Ne.symm dz) hz, a, b, hk _ _ (Ne.symm dTO) hTO⟩
        · exact .inr ⟨T, f, oT, hk _ _ (Ne.symm dz) hz, hk _ _ r4 hT, r1, r2, r3, r4⟩
      item := fun i s₁ Q₁ E₁ hi st hds hQ => by
        obtain ⟨hTI, c1, c2, hz⟩ := st
        have ex := Array.getElem?_eq_getElem hi
        have ey := Array.getElem?_eq_getElem (show i < ys.size by omega)
        have lt : ∀ {c o}, s₁.heap.get? c = some o → s₁.heap.objs.size ≠ c := fun e => Nat.ne_of_gt (Heap.lt_size e)
        have n1 : s₁.heap.objs.size ≠ i1 := let ⟨_, e⟩ := c1.here; lt e
        have n2 : s₁.heap.objs.size ≠ i2 := let ⟨_, e⟩ := c2.here; lt e
        have hTy : s₁.TypeIs (.ref z) "zip" := by
          rcases hz with ⟨_, hz, _⟩ | ⟨_, _, _, hz, _⟩
          · exact ⟨_, hz, rfl⟩
          · exact ⟨_, hz, rfl⟩
        unfold pyNext
        refine wpAny_bind (wpAny_attempt (wpAny_callSpecial?_slot (name := Str.ofString "__next__") hTy F.slot_zip_next (wpAny_call_entry F.slot_zip_next hTy F.entry_zip_next ?_ (F.args_zip_next_1 _))))
        rcases hz with ⟨_, hz, a, b, hTO⟩ | ⟨T, f, oT, hz, hT, r1, r2, r3, r4⟩
        · refine zc_first D hz hTI hTO c1 c2 ex ey fun h' a1 a3 a4 a5 hk => wpAny_pure ?_
          exact hQ s₁.heap.objs.size _ _ h' s₁.toks ⟨ex, ey⟩ (.inl ⟨_, a5, rfl, _, rfl⟩)
            ⟨hk _ _ D.TIz D.TITO D.TIi1 D.TIi2 hTI, a3, a4, .inr ⟨s₁.heap.objs.size, false, _, a1, a5, lt hz, n1, n2, Nat.ne_of_gt hds⟩⟩
            fun c o hc e => hk c o (fun x => hc (by simp [x])) (fun x => hc (by simp [x])) (fun x => hc (by simp [x])) (fun x => hc (by simp [x])) e
        · refine zc_next D hz hT hTI c1 c2 ex ey fun h' a1 a3 a4 a5 hk => wpAny_pure ?_
          exact hQ s₁.heap.objs.size _ _ h' s₁.toks ⟨ex, ey⟩ (.inl ⟨_, a5, rfl, _, rfl⟩)
            ⟨hk _ _ D.TIz D.TIi1 D.TIi2 hTI, a3, a4, .inr ⟨T, true, oT, a1, hk _ _ r1 r2 r3 hT, r1, r2, r3, r4⟩⟩
            fun c o hc e => hk c o (fun x => hc (by simp [x])) (fun x => hc (by simp [x])) (fun x => hc (by simp [x])) e
      done := fun s₁ Q₁ E₁ st hQ => by
        obtain ⟨hTI, c1, c2, hz⟩ := st
        rcases hz with ⟨h0, _⟩ | ⟨T, f, oT, hz, hT, r1, r2, r3, r4⟩
        · exact absurd h0 (Nat.ne_of_gt hp)
        · have hTy : s₁.TypeIs (.ref z) "zip" := ⟨_, hz, rfl⟩
          unfold pyNext
          refine wpAny_bind (wpAny_attempt (wpAny_callSpecial?_slot (name := Str.ofString "__next__") hTy F.slot_zip_next
            (wpAny_call_entry F.slot_zip_next hTy F.entry_zip_next (zc_end hA D hz hT hTI c1 (Array.getElem?_eq_none (Nat.le_refl _)) fun h' e hk he => ?_) (F.args_zip_next_1 _))))
          obtain ⟨o, ho, hc⟩ := he
          refine wpAny_bind (wpAny_isInstance (T := "StopIteration") (b := true) ⟨o, ho, hc⟩ isSubtype_stop ?_)
          exact wpAny_pure (hQ h' s₁.toks fun c o hc e => hk c o (fun x => hc (by simp [x])) (fun x => hc (by simp [x])) (fun x => hc (by simp [x])) e) }
end
abbrev mz1 (h : Heap) (l1 : Addr) : Heap := h.push { cls := .type "tuple_iterator", data := .fields #[.ref l1, .int 0 0] }
abbrev mz2 (h : Heap) (l1 l2 : Addr) : Heap := (mz1 h l1).push { cls := .type "list_iterator", data := .fields #[.ref l2, .int 0 0] }
abbrev mz3 (h : Heap) (l1 l2 : Addr) : Heap := (mz2 h l1 l2).push { cls := .type "tuple", data := .seq #[.ref h.objs.size, .ref (mz1 h l1).objs.size] }
abbrev mz4 (h : Heap) (l1 l2 : Addr) : Heap := (mz3 h l1 l2).push { cls := .type "tuple", data := .seq #[.none, .none] }
abbrev mz5 (h : Heap) (l1 l2 : Addr) : Heap := (mz4 h l1 l2).push { cls := .type "zip", data := .fields #[.none, .bool false, .bool false, .ref (mz2 h l1 l2).objs.size, .ref (mz3 h l1 l2).objs.size] }
theorem meets_mz (l1 l2 : Addr) (xs ys : Array Value) :
    Meets (Builtin.«zip.__new__» ⟨[.type "zip", .ref l1, .ref l2], []⟩) (fun _ R s => s.heap.IsTuple l1 xs ∧ s.heap.IsList l2 ys ∧ R (.ok (.ret (.ref (mz4 s.heap l1 l2).objs.size))) { s with heap := mz5 s.heap l1 l2 }) :=
  .of_wp fun prog w A R s h => by
    obtain ⟨hp, g, d, tk, os⟩ := s; obtain ⟨hl1, hl2, h⟩ := h
    have hsub := sub_zip
    have hL1 : Heap.IsTuple (Shared.heap ⟨hp, g, d, tk, os⟩) l1 xs := hl1
    have hL2 : Heap.IsList (Shared.heap ⟨hp.push { cls := .type "tuple_iterator", data := .fields #[.ref l1, .int 0 0] }, g, d, tk, os⟩) l2 ys := Heap.IsList.push hl2 _
    wp_walk using wpAny_pyIter_tuple hL1, wpAny_pyIter_list hL2
    exact ⟨_, rfl, h⟩
section
variable {prog : Program} {w : World} {A : Around} {E : Value → Shared → Prop} {s : Shared}
/-- zip(a, b): a a tuple -/
theorem call_zc {l1 l2 : Addr} {xs ys : Array Value} {Q : Value → Shared → Prop} (hl1 : s.heap.IsTuple l1 xs) (hl2 : s.heap.IsTuple l2 ys ∨ s.heap.IsList l2 ys)
    (h : ∀ h', IsZip h' (s.heap.objs.size + 4) (s.heap.objs.size + 2) (s.heap.objs.size + 3) .none → IsPair h' (s.heap.objs.size + 2) (.ref s.heap.objs.size) (.ref (s.heap.objs.size + 1)) →
      (∃ a b, IsPair h' (s.heap.objs.size + 3) a b) → Cu h' s.heap.objs.size l1 0 xs → Cu h' (s.heap.objs.size + 1) l2 0 ys →
      (∀ c o, s.heap.get? c = some o → h'.get? c = some o) → Q (.ref (s.heap.objs.size + 4)) { s with heap := h' }) :
    wpAny (model prog w) A (call (.type "zip") [.ref l1, .ref l2]) Q E s := by
  rcases hl2 with hl2 | hl2
  · exact RZ.call_zipT hl1 hl2 fun h' a1 a2 a3 a4 a5 _ hk => h h' a1 a2 ⟨_, _, a3⟩ (.tup a4 (hl1.at fun o e => hk _ o e)) (.tup a5 (hl2.at fun o e => hk _ o e)) hk
  · refine callType_new F.called_zip (by decide) (F.typeCall_zip_2 _ _) (F.newCall_zip_2 _ _) (fun obj => F.args_object_init_3 obj _ _) F.entry_zip_new (meets_mz l1 l2 xs ys) ⟨hl1, hl2, ?_⟩
    have e1 : (mz1 s.heap l1).objs.size = s.heap.objs.size + 1 := Heap.size_push ..
    have e2 : (mz2 s.heap l1 l2).objs.size = s.heap.objs.size + 2 := by rw [Heap.size_push, e1]
    have e3 : (mz3 s.heap l1 l2).objs.size = s.heap.objs.size + 3 := by rw [Heap.size_push, e2]
    have e4 : (mz4 s.heap l1 l2).objs.size = s.heap.objs.size + 4 := by rw [Heap.size_push, e3]
    have g5 : (mz5 s.heap l1 l2).get? (mz4 s.heap l1 l2).objs.size = some _ := Heap.get?_push_size _ rfl
    have g4 : (mz5 s.heap l1 l2).get? (mz3 s.heap l1 l2).objs.size = some _ := Heap.get?_push_of_some _ (Heap.get?_push_size _ rfl)
    have g3 : (mz5 s.heap l1 l2).get? (mz2 s.heap l1 l2).objs.size = some _ := Heap.get?_push_of_some _ (Heap.get?_push_of_some _ (Heap.get?_push_size _ rfl))
    have g2 : (mz5 s.heap l1 l2).get? (mz1 s.heap l1).objs.size = some _ := Heap.get?_push_of_some _ (Heap.get?_push_of_some _ (Heap.get?_push_of_some _ (Heap.get?_push_size _ rfl)))
    have g1 : (mz5 s.heap l1 l2).get? s.heap.objs.size = some _ := Heap.get?_push_of_some _ (Heap.get?_push_of_some _ (Heap.get?_push_of_some _ (Heap.get?_push_of_some _ (Heap.get?_push_size _ rfl))))
    have hk : ∀ c o, s.heap.get? c = some o → (mz5 s.heap l1 l2).get? c = some o := fun c o x => Heap.get?_push_of_some _ (Heap.get?_push_of_some _ (Heap.get?_push_of_some _ (Heap.get?_push_of_some _ (Heap.get?_push_of_some _ x))))
    show _ ∧ _
    rw [e2, e3, e4] at g5
    rw [e1, e2] at g3
    rw [e3] at g4
    rw [e1] at g2
    rw [e4]
    exact ⟨⟨_, g5, rfl⟩, h _ g5 g3 ⟨_, _, g4⟩ (.tup ⟨_, g1, rfl, rfl⟩ (hl1.at fun o e => hk _ o e)) (.lst ⟨_, g2, rfl, rfl⟩ (hl2.at fun o e => hk _ o e)) hk⟩
end
end PkZ
namespace Pa
open PySem PySem.Spec PyProof.Rows L2 StX
/-- dict(zip(a, b)) -/
def tDZip (K : PySem.W.Frag) (ta : TA) : TE := fun σ H Q => ta σ H fun vs H1 => ∃ (a b : Addr) (ks : List Str) (ys : List V), vs = [.ref a, .ref b] ∧ SqT K H1 a (ks.map V.str) ∧ (SqT K H1 b ys ∨ SqL K H1 b ys) ∧ ks.length = ys.length ∧ 0 < ks.length ∧ ks.length ≤ sizeLine ∧ ks.Nodup ∧
  ∀ p, H1 p = Option.none → Q (.ref p) (upd H1 p (.dK ((ks.zip ys).map fun x => ((Sum.inr x.1 : Key), x.2))))
section
variable {X : Cx} {e e2 : Expr} {ta : TA} {p p2 pos pos2 : Pos}
theorem kvz : ∀ {ks : List Str} {ys : List V} {us ws : List Value}, Vals (ks.map V.str) us → Vals ys ws → KV ((ks.zip ys).map fun x => ((Sum.inr x.1 : Key), x.2)) ((ks.zip ws).map fun x => ((Sum.inr x.1 : Key), x.2))
  | [], _, _, _, _, _ => by simp only [List.zip_nil_left]; exact .nil
  | _ :: _, _, _, _, _, .nil => .nil
  | k :: ks, y :: ys, _, _, .cons r rs, .cons r' rs' => .cons ⟨rfl, r'⟩ (kvz rs rs')
theorem pe_dictzip (hcalm : X.calm = true) (hgd : Gl X "dict") (hmd : X.mg "dict" = none) (hgz : Gl X "zip") (hmz : X.mg "zip" = none) (ha : PA X [e, e2] ta)
    (hs : starEach [e, e2] X.env = (false, eval e X.env) :: starEach [e2] X.env := by rfl) (hpl : (backTo pos2 (starEach [e2] X.env)).any (·.1) = false := by rfl)
    (hs2 : starEach [.Call (.Name "zip" p2) [e, e2] [] pos2] X.env = [(false, eval (.Call (.Name "zip" p2) [e, e2] [] pos2) X.env)] := by rfl) :
    PE X (.Call (.Name "dict" p) [.Call (.Name "zip" p2) [e, e2] [] pos2] [] pos) (tDZip X.K ta) := by
  refine ⟨fun pins s σ H Q I h => ?_⟩
  refine Call_ (ld_blt I hgd hmd PyProof.Rows.boot_dict (PyProof.Rows.callWith_type1 (args_cons ?_) hs2 rfl))
  refine Call_ (ld_blt I hgz hmz PyProof.Rows.boot_zip (PyProof.Rows.callWith_type1 (thn (ha.run pos2 pins s σ H _ I h) fun us s1 ⟨vs, H1, I1, r1, q1⟩ => ?_) hs hpl))
  obtain ⟨a, b, ks, ys, ex, hx, hy, hl, h0, hz, hnd, q⟩ := q1
  subst ex
  cases r1 with
  | cons r rr =>
    cases rr with
    | cons r' rr =>
      cases rr
      cases r
      cases r'
      obtain ⟨its, rv, p1, _⟩ := I1.tuple hx
      obtain ⟨its2, rv2, p2'⟩ : ∃ its2 : List Value, Vals ys its2 ∧ (s1.heap.IsTuple b its2.toArray ∨ s1.heap.IsList b its2.toArray) := by
        rcases hy with hy | hy
        · obtain ⟨its2, rv2, p2, _⟩ := I1.tuple hy
          exact ⟨its2, rv2, .inl p2⟩
        · obtain ⟨its2, rv2, p2, _⟩ := I1.list hy
          exact ⟨its2, rv2, .inr p2.isList⟩
      have l1 := rv.length
      have l2 := rv2.length
      rw [List.length_map] at l1
      have la : a < s1.heap.objs.size := by obtain ⟨o, ho, _⟩ := id p1; exact Heap.lt_size ho
      have lb : b < s1.heap.objs.size := by
        rcases p2' with p2 | p2
        · obtain ⟨o, ho, _⟩ := id p2; exact Heap.lt_size ho
        · obtain ⟨o, ho, _⟩ := id p2; exact Heap.lt_size ho
      refine PkZ.call_zc (show s1.heap.IsTuple a its.toArray from p1) p2' fun h' a1 a2 a3 c1 c2 hk => ?_
      refine args_nil ?_
      have D := PySem.W.ktu_apart s1.heap.objs.size a b la lb
      have P := PkZ.arg_zip (prog := X.prog) (w := X.w) _ _ _ _ _ _ _ D its.toArray its2.toArray (by simp; omega) (by simp; omega)
      refine PySem.call_dict_pairs (knd := mixKind X.prog X.w) (kvs := (ks.zip its2).map fun x => ((Sum.inr x.1 : Key), x.2)) P (I1.ok.hd hcalm) ⟨a1, a2, a3, c1, c2⟩ ⟨by simp; omega, fun i key v hr => ?_⟩ (by simp; omega) fun h'' tk hd hk2 => ?_
      · obtain ⟨e1, e2⟩ := hr
        have e1' : its[i]? = some key := by simpa using e1
        have e2' : its2[i]? = some v := by simpa using e2
        have hi : i < ks.length := by
          have := (List.getElem?_eq_some_iff.mp e1').1
          omega
        obtain ⟨u, hu, ru⟩ := rv.get (i := i) (x := V.str ks[i]) (by rw [List.getElem?_map, List.getElem?_eq_getElem hi]; rfl)
        rw [e1'] at hu
        obtain rfl := Option.some.inj hu
        obtain ⟨t, rfl⟩ := ru
        refine ⟨Sum.inr ks[i], ?_, mixKind_str X.prog X.w _ t⟩
        rw [List.getElem?_map, (List.getElem?_zip_eq_some (z := (ks[i], v))).mpr ⟨List.getElem?_eq_getElem hi, e2'⟩]
        rfl
      · have hge4 : (s1.heap.objs.size : Nat) + 4 < h'.objs.size := Heap.lt_size a1
        have hge : s1.heap.objs.size ≤ h'.objs.size := Nat.le_of_lt (Nat.lt_of_le_of_lt (Nat.le_add_right _ 4) hge4)
        have hm : (h'.objs.size == sysModules) = false := beq_eq_false_iff_ne.mpr (Nat.ne_of_gt (Nat.lt_of_lt_of_le I1.big hge))
        have hnd2 : (((ks.zip its2).map fun x => ((Sum.inr x.1 : Key), x.2)).map (·.1)).Nodup := by
          rw [List.map_map]
          have e : ((fun x : Key × Value => x.1) ∘ fun x : Str × Value => ((Sum.inr x.1 : Key), x.2)) = (fun k : Str => (Sum.inr k : Key)) ∘ Prod.fst := rfl
          rw [e, ← List.map_map, List.map_fst_zip (by omega)]
          exact List.Pairwise.map _ (fun a b q => by simpa using q) hnd
        rw [PySem.merged_nil_of_nodup _ hnd2] at hd
        have kk : ∀ b u, s1.heap.get? b = some u → h''.get? b = some u := fun b u e => by
          have lt := Heap.lt_size e
          have hb : ∀ n : Nat, b ≠ s1.heap.objs.size + n := fun n q => by
            rw [q] at lt
            exact absurd lt (Nat.not_lt.mpr (Nat.le_add_right _ _))
          refine hk2 b u (fun hm => ?_) (hk b u e)
          simp only [List.mem_cons, List.not_mem_nil, or_false] at hm
          rcases hm with q | q | q | q
          · exact hb 4 q
          · exact hb 3 q
          · exact hb 0 q
          · exact hb 1 q
        exact ⟨.ref h'.objs.size, _, I1.laid (t' := tk) (o := .dK ((ks.zip ys).map fun x => ((Sum.inr x.1 : Key), x.2))) kk hge (dk_new (by simp; omega) hm (kvz rv rv2) hd), rfl, q _ (I1.hok.fresh hge)⟩
end
end Pa
set_option maxRecDepth 100000
set_option maxHeartbeats 4000000
namespace Pa
open PySem PySem.Spec PyProof.Rows L2
/-! ### either of two targets, two walks -/
def gOr (g1 g2 : TG) : TG := fun v σ H Q => g1 v σ H Q ∨ g2 v σ H Q
def iOr (w1 w2 : TI) : TI := fun σ H R => w1 σ H R ∨ w2 σ H R
theorem PG.either {X : Cx} {t : Expr} {g1 g2 : TG} (h1 : PG X t g1) (h2 : PG X t g2) : PG X t (gOr g1 g2) :=
  ⟨fun pins s σ H v u Q I r h => h.elim (h1.run pins s σ H v u Q I r) (h2.run pins s σ H v u Q I r)⟩
theorem PI.either {X : Cx} {tg e : Expr} {w1 w2 : TI} (h1 : PI X tg e w1) (h2 : PI X tg e w2) : PI X tg e (iOr w1 w2) :=
  ⟨fun pins s σ H R I h => h.elim (h1.run pins s σ H R I) (h2.run pins s σ H R I)⟩
theorem call_repr_ib {X : Cx} : CallR X (.builtin "repr") (fun xs H Q => (∃ i, xs = [.int i] ∧ i.natAbs.log2 < 1920 ∧ Q (.str (toString i)) H) ∨ ∃ b : Bool, xs = [.bl b] ∧ Q (.str (if b then "True" else "False")) H) := by
  intro pins s σ H xs us Q I r h
  rcases h with ⟨i, rfl, hz, q⟩ | ⟨b, rfl, q⟩
  · obtain ⟨u, rfl, t, rfl⟩ := vals1 r
    exact PySem.P.repr_of_int hz ⟨.str _, H, I.tok _, ⟨_, rfl⟩, q⟩
  · obtain ⟨u, rfl, rfl⟩ := vals1 r
    exact PySem.P.repr_of_bool ⟨.str _, H, I.tok _, ⟨_, rfl⟩, q⟩
/-! ### a rule's data -/
abbrev VN : List Str := ["face", "measure", "space", "kept", "page", "out"]
abbrev PN : List Str := ["kind", "mark", "parent", "above", "elder"]
def texts (n : Str) : List Str := if n = "mark" ∨ n = "above" then ["x", "y"] else ["A", "B", "C"]
def IsK (s : Str) : Prop := s = "" ∨ s = "A" ∨ s = "B" ∨ s = "C"
def IsM (s : Str) : Prop := s = "" ∨ s = "x" ∨ s = "y"
def PatOk (ps : List Str) : Prop := ∃ k m p a e, ps = [k, m, p, a, e] ∧ IsK k ∧ IsM m ∧ IsK p ∧ IsM a ∧ IsK e
def SetOk (n : Str) (v : V) : Prop := (n = "face" ∧ ∃ i : Int, v = .int i ∧ 0 ≤ i ∧ i ≤ 1) ∨ (n = "measure" ∧ ∃ i : Int, v = .int i ∧ 1 ≤ i ∧ i ≤ 6) ∨ (n = "space" ∧ ∃ i : Int, v = .int i ∧ 0 ≤ i ∧ i ≤ 2) ∨ ((n = "kept" ∨ n = "page" ∨ n = "out") ∧ ∃ b, v = .bl b)
/-- a tuple or a list of these values -/
def Seq (K : PySem.W.Frag) (H : Hp) (a : Addr) (xs : List V) : Prop := SqT K H a xs ∨ SqL K H a xs
/-! ### what the top has written -/
structure Txt (K : PySem.W.Frag) (w : World) (mg : Str → Option Value) (tv tp tk dl C : Addr) : Prop where
  b_len : mg "len" = none
  b_range : mg "range" = none
  b_int : mg "int" = none
  b_abs : mg "abs" = none
  b_enumerate : mg "enumerate" = none
  b_isinstance : mg "isinstance" = none
  b_bool : mg "bool" = none
  b_list : mg "list" = none
  b_tuple : mg "tuple" = none
  b_min : mg "min" = none
  b_all : mg "all" = none
  b_dict : mg "dict" = none
  b_zip : mg "zip" = none
  b_repr : mg "repr" = none
  g_KINDS : mg "KINDS" = some (.ref tk)
  g_VALUE_NAMES : mg "VALUE_NAMES" = some (.ref tv)
  g_PATTERN_NAMES : mg "PATTERN_NAMES" = some (.ref tp)
  g__LIMITS : mg "_LIMITS" = some (.ref dl)
  g_Rule : mg "Rule" = some (.ref C)
  vn : ∀ H, SqT K H tv (VN.map V.str)
  pn : ∀ H, SqT K H tp (PN.map V.str)
  kn : ∀ H, SqT K H tk ((["A", "B", "C"] : List Str).map V.str)
  lim : ∃ es n, KDict K w dl es n
  lims : ∀ n : Str, ∀ lo hi : Int, (n = "face" ∧ lo = 0 ∧ hi = 1) ∨ (n = "measure" ∧ lo = 1 ∧ hi = 6) ∨ (n = "space" ∧ lo = 0 ∧ hi = 2) → ∃ t, PySem.W.nsIn K dl n = some (some (.ref t)) ∧ ∀ H, SqT K H t [.int lo, .int hi]
  nolim : ∀ n : Str, n = "kept" ∨ n = "page" ∨ n = "out" → PySem.W.nsIn K dl n = some none
section
variable {P : Program} {w : World} {K : PySem.W.Frag} {mg : Str → Option Value} {base : Heap} {tv tp tk dl C : Addr}
def spIsInt : Sp := fun vs H Q _ => ∃ i : Int, vs = [.int i] ∧ Q (.bl true) H
abbrev sis_integer : Stmt := topS 1
theorem scis_integer : FnScope ["value"] ["value"] (defScope sis_integer) := ⟨rfl, rfl, rfl, by decide +kernel, rfl, by decide +kernel, by decide +kernel⟩
theorem ok_is_integer {f : Addr} {fd : FuncData} (F : Fun K "is_integer" "is_integer" sis_integer f fd) (T : Txt K w mg tv tp tk dl C) : FnOk P w K mg base CX0 1 f fd ["value"] spIsInt := by
  refine F.ok scis_integer (fun vs H Q E h => ?_) (fun cdv A outer s H vs Q E hr h => ?_)
  · obtain ⟨i, rfl, _⟩ := h
    rfl
  · obtain ⟨i, rfl, k⟩ := h
    refine ⟨_, (pss_one (ps_ret (pe_and (pe_callB call_isi (by rfl) T.b_isinstance (by decide +kernel) (pa_cons (pv 0) (pa_cons (pe_bltn (v := .ty "int") (by rfl) T.b_int (by decide +kernel) rfl) pa_nil))) (pe_one (pe_not (pe_callB call_isi (by rfl) T.b_isinstance (by decide +kernel) (pa_cons (pv 0) (pa_cons (pe_bltn (v := .ty "bool") (by rfl) T.b_bool (by decide +kernel) rfl) pa_nil)))))))), ?_⟩
    refine ⟨_, rfl, _, _, _, _, _, rfl, .ty _, .base (.int i), kit_ty (by decide +kernel), _, rfl, iteT ?_⟩
    exact ⟨_, rfl, _, _, _, _, _, rfl, .ty _, .base (.int i), kit_ty (r := false) (by decide +kernel), _, rfl, k⟩
def spIntFrom : Sp := fun vs H Q _ => ∃ i lo hi : Int, vs = [.int i, .int lo, .int hi] ∧ lo ≤ i ∧ i ≤ hi ∧ Q (.bl true) H
abbrev sis_integer_from : Stmt := topS 2
theorem scis_integer_from : FnScope ["value", "low", "high"] ["value", "low", "high"] (defScope sis_integer_from) := ⟨rfl, rfl, rfl, by decide +kernel, rfl, by decide +kernel, by decide +kernel⟩
theorem ok_int_from {f : Addr} {fd : FuncData} (F : Fun K "is_integer_from" "is_integer_from" sis_integer_from f fd) (C_is_integer : CallOk P w K mg base 1 "is_integer" ["value"] spIsInt) : FnOk P w K mg base CX0 2 f fd ["value", "low", "high"] spIntFrom := by
  refine F.ok scis_integer_from (fun vs H Q E h => ?_) (fun cdv A outer s H vs Q E hr h => ?_)
  · obtain ⟨i, lo, hi, rfl, _⟩ := h
    rfl
  · obtain ⟨i, lo, hi, rfl, h1, h2, k⟩ := h
    refine ⟨_, (pss_one (ps_ret (pe_and (pe_cc C_is_integer (hr.mono (by decide)) (by rfl) (pa_cons (pv 0) pa_nil)) (pe_one (pe_chain op_le op_le (pv 1) (pv 0) (pv 2)))))), ?_⟩
    refine ⟨_, rfl, i, rfl, _, rfl, iteT ⟨_, rfl, _, rfl, _, _, rfl, rfl, _, rfl, ?_⟩⟩
    rw [decide_eq_true h1]
    refine iteT ⟨_, rfl, _, _, rfl, rfl, ?_⟩
    show Q (.bl (decide (i ≤ hi))) H
    rw [decide_eq_true h2]
    exact k
end
/-! ### rows -/
theorem seq_ty {K : PySem.W.Frag} {H : Hp} {a : Addr} {xs : List V} (h : Seq K H a xs) : ∃ t : String, (t = "list" ∨ t = "tuple") ∧ TyX K H (.ref a) (.type t) := by
  rcases h with ((h | ⟨o, h⟩) | h) | ((h | ⟨o, h⟩) | h)
  · exact ⟨_, .inr rfl, .base (.tup h)⟩
  · exact ⟨_, .inr rfl, .fTuple h⟩
  · obtain ⟨o, its, n, e, c, _⟩ := h
    exact ⟨_, .inr rfl, .kTuple e c⟩
  · exact ⟨_, .inl rfl, .base (.lst h)⟩
  · exact ⟨_, .inl rfl, .base (.frz h)⟩
  · obtain ⟨o, its, n, e, c, _⟩ := h
    exact ⟨_, .inl rfl, .kList e c⟩
theorem Seq.ext {K : PySem.W.Frag} {H H' : Hp} {a : Addr} {xs : List V} (h : Seq K H a xs) (e : Ext H H') : Seq K H' a xs := h.imp (fun h => h.ext e) fun h => h.ext e
theorem inV_str (n : Str) : ∀ l : List Str, inV (.str n) (l.map V.str) = decide (n ∈ l)
  | [] => rfl
  | x :: l => by
    have ih := inV_str n l
    unfold inV at ih ⊢
    rw [List.map_cons, List.any_cons, ih]
    by_cases e : x = n
    · subst e
      simp [eqV]
    · have e2 : ¬ n = x := fun q => e q.symm
      simp [eqV, e, e2]
theorem flat_strs (l : List Str) : (l.map V.str).all flatV = true := by simp [flatV]
section
variable {P : Program} {w : World} {K : PySem.W.Frag} {mg : Str → Option Value} {base : Heap} {tv tp tk dl C : Addr}
def spIsRow (K : PySem.W.Frag) : Sp := fun vs H Q _ => ∃ (a : Addr) (xs : List V), vs = [.ref a] ∧ Seq K H a xs ∧ ∀ H', Ext H H' → Q (.bl true) H'
abbrev sis_row : Stmt := topS 3
theorem scis_row : FnScope ["value"] ["value"] (defScope sis_row) := ⟨rfl, rfl, rfl, by decide +kernel, rfl, by decide +kernel, by decide +kernel⟩
theorem ok_is_row {f : Addr} {fd : FuncData} (F : Fun K "is_row" "is_row" sis_row f fd) (T : Txt K w mg tv tp tk dl C) : FnOk P w K mg base CX0 1 f fd ["value"] (spIsRow K) := by
  refine F.ok scis_row (fun vs H Q E h => ?_) (fun cdv A outer s H vs Q E hr h => ?_)
  · obtain ⟨a, xs, rfl, _⟩ := h
    rfl
  · obtain ⟨a, xs, rfl, hs, k⟩ := h
    refine ⟨_, (pss_one (ps_ret (pe_callB call_isiT (by rfl) T.b_isinstance (by decide +kernel) (pa_cons (pv 0) (pa_cons (pe_tup (pa_cons (pe_bltn (v := .ty "list") (by rfl) T.b_list (by decide +kernel) rfl) (pa_cons (pe_bltn (v := .ty "tuple") (by rfl) T.b_tuple (by decide +kernel) rfl) pa_nil))) pa_nil))))), ?_⟩
    refine ⟨_, rfl, (by show 2 ≤ sizeLine; decide), fun t ht => ?_⟩
    obtain ⟨ty, ht2, hty⟩ := seq_ty (hs.ext (Ext.upd (o := .tup [.ty "list", .ty "tuple"]) ht))
    refine ⟨_, t, _, _, [.type "list", .type "tuple"], true, rfl, upd_same, .cons (.ty _) (.cons (.ty _) .nil), hty, ?_, k _ (Ext.upd ht)⟩
    rcases ht2 with rfl | rfl
    · exact kitAny_cons (b := true) (kit_ty (by decide +kernel)) (fun e => nomatch e) fun _ => rfl
    · exact kitAny_cons (b := false) (kit_ty (by decide +kernel)) (fun _ => kitAny_cons (b := true) (kit_ty (by decide +kernel)) (fun e => nomatch e) fun _ => rfl) fun e => nomatch e
def spTexts (K : PySem.W.Frag) : Sp := fun vs H Q _ => ∃ n : Str, vs = [.str n] ∧ ∀ p H', Ext H H' → SqT K H' p ((texts n).map V.str) → Q (.ref p) H'
abbrev stexts_for : Stmt := topS 12
theorem sctexts_for : FnScope ["name"] ["name"] (defScope stexts_for) := ⟨rfl, rfl, rfl, by decide +kernel, rfl, by decide +kernel, by decide +kernel⟩
theorem ok_texts {f : Addr} {fd : FuncData} (F : Fun K "texts_for" "texts_for" stexts_for f fd) (T : Txt K w mg tv tp tk dl C) : FnOk P w K mg base CX0 1 f fd ["name"] (spTexts K) := by
  refine F.ok sctexts_for (fun vs H Q E h => ?_) (fun cdv A outer s H vs Q E hr h => ?_)
  · obtain ⟨n, rfl, _⟩ := h
    rfl
  · obtain ⟨n, rfl, k⟩ := h
    refine ⟨_, (pss_one (ps_ret (pe_ifExp (pt_cmpR op_in_seq (pv 0) (pe_tup (pa_cons pe_str (pa_cons pe_str pa_nil))) (by rfl)) (pe_tup (pa_cons pe_str (pa_cons pe_str pa_nil))) (pe_glob (v := .ref tk) (by rfl) T.g_KINDS rfl)))), ?_⟩
    refine ⟨_, rfl, (by show 2 ≤ sizeLine; decide), fun t ht => ?_⟩
    have e1 := Ext.upd (o := .tup [.str "mark", .str "above"]) ht
    refine ⟨t, [.str "mark", .str "above"], rfl, .inr (SqT.of upd_same), rfl, rfl, ?_⟩
    have ev : inV (.str n) [.str "mark", .str "above"] = decide (n ∈ (["mark", "above"] : List Str)) := inV_str n ["mark", "above"]
    refine ⟨_, rfl, ?_⟩
    show if inV (.str n) [.str "mark", .str "above"] = true then _ else _
    rw [ev]
    by_cases hn : n = "mark" ∨ n = "above"
    · have hx : texts n = (["x", "y"] : List Str) := if_pos hn
      rw [hx] at k
      rw [decide_eq_true (by simpa using hn)]
      refine iteT ⟨(by show 2 ≤ sizeLine; decide), fun p hp => ?_⟩
      exact k p _ (e1.trans (Ext.upd hp)) (SqT.of upd_same)
    · have hx : texts n = (["A", "B", "C"] : List Str) := if_neg hn
      rw [hx] at k
      rw [decide_eq_false (by simpa using hn)]
      refine iteF ?_
      exact k tk _ e1 (T.kn _)
end
end Pa
set_option maxRecDepth 100000
set_option maxHeartbeats 4000000
namespace Pa
open PySem PySem.Spec PyProof.Rows L2 RZ
theorem strs_at {l : List Str} {i : Nat} {x : V} (h : (l.map V.str)[i]? = some x) : ∃ n, l[i]? = some n ∧ x = .str n := by
  rw [List.getElem?_map] at h
  cases e : l[i]? with
  | none => rw [e] at h; cases h
  | some n => rw [e] at h; exact ⟨n, rfl, (Option.some.inj h).symm⟩
theorem isK_in {s : Str} (h : IsK s) : s ∈ (["", "A", "B", "C"] : List Str) := by
  rcases h with rfl | rfl | rfl | rfl <;> decide
theorem isM_in {s : Str} (h : IsM s) : s ∈ (["", "x", "y"] : List Str) := by
  rcases h with rfl | rfl | rfl <;> decide
theorem pat_good {ps : List Str} (h : PatOk ps) {i : Nat} {n t : Str} (hn : PN[i]? = some n) (ht : ps[i]? = some t) : t ∈ (("" : Str) :: texts n) := by
  obtain ⟨k, m, p, a, e, rfl, hk, hm, hp, ha, he⟩ := h
  match i, hn, ht with
  | 0, hn, ht =>
    cases hn; cases ht
    exact isK_in hk
  | 1, hn, ht =>
    cases hn; cases ht
    exact isM_in hm
  | 2, hn, ht =>
    cases hn; cases ht
    exact isK_in hp
  | 3, hn, ht =>
    cases hn; cases ht
    exact isM_in ha
  | 4, hn, ht =>
    cases hn; cases ht
    exact isK_in he
  | i + 5, hn, _ => simp at hn
theorem pat_len {ps : List Str} (h : PatOk ps) : ps.length = 5 := by
  obtain ⟨k, m, p, a, e, rfl, _⟩ := h
  rfl
theorem texts_ne (n : Str) : texts n ≠ [] := by
  unfold texts
  split <;> simp
theorem texts_len (n : Str) : (texts n).length ≤ 3 := by
  unfold texts
  split <;> simp
section
variable {P : Program} {w : World} {K : PySem.W.Frag} {mg : Str → Option Value} {base : Heap} {tv tp tk dl C : Addr}
def spIsPat (K : PySem.W.Frag) : Sp := fun vs H Q _ => ∃ (a : Addr) (ps : List Str), vs = [.ref a] ∧ SqT K H a (ps.map V.str) ∧ PatOk ps ∧ ∀ H', Ext H H' → Q (.bl true) H'
abbrev s_is_pattern : Stmt := topS 14
theorem sc_is_pattern : FnScope ["pattern", "name", "text"] ["pattern"] (defScope s_is_pattern) := ⟨rfl, rfl, rfl, by decide +kernel, rfl, by decide +kernel, by decide +kernel⟩
theorem ok_is_pattern {f : Addr} {fd : FuncData} (F : Fun K "_is_pattern" "_is_pattern" s_is_pattern f fd) (T : Txt K w mg tv tp tk dl C) (C_texts_for : CallOk P w K mg base 1 "texts_for" ["name"] (spTexts K)) : FnOk P w K mg base CX0 2 f fd ["pattern"] (spIsPat K) := by
  refine F.ok sc_is_pattern (fun vs H Q E h => ?_) (fun cdv A outer s H vs Q E hr h => ?_)
  · obtain ⟨a, ps, rfl, _⟩ := h
    rfl
  · obtain ⟨a, ps, rfl, hs, hp, k⟩ := h
    refine ⟨_, (pss_cons (ps_for PassesOwn.never rfl (pi_zipA (by rfl) T.b_zip (pa_cons (pe_glob (v := .ref tp) (by rfl) T.g_PATTERN_NAMES rfl) (pa_cons (pv 0) pa_nil))) (pg_tup rfl (pgs_cons (pg_name (i := 1) sc_is_pattern.nd rfl (.inl rfl)) (pgs_cons (pg_name (i := 2) sc_is_pattern.nd rfl (.inl rfl)) pgs_nil)))
        (pss_one (ps_if (pt_cmpR op_notIn_seq (pv 2) (pe_op op_catA (pe_tup (pa_cons pe_str pa_nil)) (pe_cc C_texts_for (hr.mono (by decide)) (by rfl) (pa_cons (pv 1) pa_nil))) (by rfl))
          (pss_one (ps_ret pe_bl))
          pss_nil)))
      (pss_one (ps_ret pe_bl))), ?_⟩
    refine ⟨_, rfl, tp, a, _, _, rfl, .inr ⟨T.pn _, hs, ?_⟩⟩
    refine for_zipT (xs := PN.map V.str) (ys := ps.map V.str) (by rw [List.length_map, List.length_map, pat_len hp]; rfl) (fun i σ H' => Ext H H' ∧ ∃ x1 x2, σ = [some (.ref a), x1, x2]) ⟨Ext.rfl', _, _, rfl⟩ (fun i σ H' h => ⟨T.pn _, hs.ext h.1⟩) (fun i x y Tt σ H1 hx hy h hT => ?_) (fun σ H1 h => k _ h.1)
    obtain ⟨e, x1, x2, rfl⟩ := h
    obtain ⟨n, hn, rfl⟩ := strs_at hx
    obtain ⟨t, ht, rfl⟩ := strs_at hy
    have hg := pat_good hp hn ht
    have e1 := e.upd' (o := .tup [.str n, .str t]) hT
    refine ⟨_, _, rfl, SqT.of upd_same, rfl, _, _, rfl, _, _, rfl, rfl, ?_⟩
    refine ⟨_, rfl, (by show 1 ≤ sizeLine; decide), fun q hq => ?_⟩
    have e2 := e1.upd' (o := .tup [.str ""]) hq
    refine ⟨_, rfl, n, rfl, fun r H' er hsr => ?_⟩
    refine ⟨q, r, [.str ""], (texts n).map V.str, rfl, rfl, (SqT.of upd_same).ext er, hsr, ?_, (fun z => nomatch z), (fun _ z => absurd (List.map_eq_nil_iff.mp z) (texts_ne n)), fun _ _ u hu => ?_⟩
    · have := texts_len n
      rw [List.length_map]
      show 1 + (texts n).length ≤ sizeLine
      have : (4 : Nat) ≤ sizeLine := by decide
      omega
    refine ⟨u, _, rfl, .inr (SqT.of upd_same), rfl, flat_strs (("" : Str) :: texts n), ?_⟩
    have ev : inV (.str t) ([.str ""] ++ (texts n).map V.str) = true := by
      have := inV_str t (("" : Str) :: texts n)
      rw [decide_eq_true hg] at this
      exact this
    refine ⟨_, rfl, ?_⟩
    show if (!inV (.str t) ([.str ""] ++ (texts n).map V.str)) = true then _ else _
    rw [ev]
    refine iteF ?_
    exact ⟨(e2.trans er).upd' hu, _, _, rfl⟩
def spIsPair (K : PySem.W.Frag) : Sp := fun vs H Q _ => ∃ (a : Addr) (n : Str) (v : V), vs = [.ref a] ∧ Seq K H a [.str n, v] ∧ n ∈ VN ∧ ∀ H', Ext H H' → Q (.bl true) H'
abbrev s_is_pair : Stmt := topS 15
theorem sc_is_pair : FnScope ["pair"] ["pair"] (defScope s_is_pair) := ⟨rfl, rfl, rfl, by decide +kernel, rfl, by decide +kernel, by decide +kernel⟩
theorem ok_is_pair {f : Addr} {fd : FuncData} (F : Fun K "_is_pair" "_is_pair" s_is_pair f fd) (T : Txt K w mg tv tp tk dl C) (C_is_row : CallOk P w K mg base 1 "is_row" ["value"] (spIsRow K)) : FnOk P w K mg base CX0 2 f fd ["pair"] (spIsPair K) := by
  refine F.ok sc_is_pair (fun vs H Q E h => ?_) (fun cdv A outer s H vs Q E hr h => ?_)
  · obtain ⟨a, n, v, rfl, _⟩ := h
    rfl
  · obtain ⟨a, n, v, rfl, hs, hn, k⟩ := h
    refine ⟨_, (pss_one (ps_ret (pe_and (pe_cc C_is_row (hr.mono (by decide)) (by rfl) (pa_cons (pv 0) pa_nil)) (pe_and (pe_cmpR op_eq (pe_callB call_len_seq (by rfl) T.b_len PySem.boot_len (pa_cons (pv 0) pa_nil)) pe_int (nomark _)) (pe_one (pe_cmpR op_in_seq (pe_ix ix_seq (pv 0) pe_int (fun _ _ => rfl)) (pe_glob (v := .ref tv) (by rfl) T.g_VALUE_NAMES rfl) (by rfl))))))), ?_⟩
    refine ⟨_, rfl, a, _, rfl, hs, fun H1 e => ⟨_, rfl, iteT ?_⟩⟩
    have hs1 := hs.ext e
    refine ⟨_, rfl, a, _, rfl, hs1.symm, rfl, _, rfl, iteT ?_⟩
    have fin : ∃ p xs, V.ref tv = .ref p ∧ (SqL K H1 p xs ∨ SqT K H1 p xs) ∧ flatV (V.str n) = true ∧ xs.all flatV = true ∧ Q (.bl (inV (.str n) xs)) H1 := by
      refine ⟨tv, _, rfl, .inr (T.vn _), rfl, flat_strs VN, ?_⟩
      rw [inV_str n VN, decide_eq_true hn]
      exact k _ e
    refine ⟨_, rfl, ?_⟩
    rcases hs1 with h | h
    · exact .inr (.inl ⟨a, _, _, _, rfl, rfl, h, atI_nat (j := 0) rfl, fin⟩)
    · exact .inl ⟨a, _, _, _, rfl, rfl, h, atI_nat (j := 0) rfl, fin⟩
def spIsSet : Sp := fun vs H Q _ => ∃ (n : Str) (v : V), vs = [.str n, v] ∧ SetOk n v ∧ Q (.bl true) H
abbrev s_is_setting : Stmt := topS 16
theorem sc_is_setting : FnScope ["name", "value", "low", "high"] ["name", "value"] (defScope s_is_setting) := ⟨rfl, rfl, rfl, by decide +kernel, rfl, by decide +kernel, by decide +kernel⟩
theorem ok_is_setting {f : Addr} {fd : FuncData} (F : Fun K "_is_setting" "_is_setting" s_is_setting f fd) (T : Txt K w mg tv tp tk dl C) (C_is_integer_from : CallOk P w K mg base 2 "is_integer_from" ["value", "low", "high"] spIntFrom) : FnOk P w K mg base CX0 3 f fd ["name", "value"] spIsSet := by
  obtain ⟨es, en, D⟩ := T.lim
  refine F.ok sc_is_setting (fun vs H Q E h => ?_) (fun cdv A outer s H vs Q E hr h => ?_)
  · obtain ⟨n, v, rfl, _⟩ := h
    rfl
  · obtain ⟨n, v, rfl, hv, k⟩ := h
    refine ⟨_, (pss_cons (ps_if (pt_cmpR (op_in_kd D) (pv 0) (pe_glob (v := .ref dl) (by rfl) T.g__LIMITS rfl) (by rfl))
        (pss_cons (ps_asg (pe_ix ix_kdict (pe_glob (v := .ref dl) (by rfl) T.g__LIMITS rfl) (pv 0) (fun _ _ => rfl)) (pg_tup rfl (pgs_cons (pg_name (i := 2) sc_is_setting.nd rfl (.inl rfl)) (pgs_cons (pg_name (i := 3) sc_is_setting.nd rfl (.inl rfl)) pgs_nil))))
        (pss_one (ps_ret (pe_cc C_is_integer_from (hr.mono (by decide)) (by rfl) (pa_cons (pv 1) (pa_cons (pv 2) (pa_cons (pv 3) pa_nil)))))))
        pss_nil)
      (pss_one (ps_ret (pe_and (pe_cmpR op_in_seq (pv 0) (pe_glob (v := .ref tv) (by rfl) T.g_VALUE_NAMES rfl) (by rfl)) (pe_one (pe_or (pe_cmpR op_is_bl (pv 1) pe_bl (nomark _)) (pe_one (pe_cmpR op_is_bl (pv 1) pe_bl (nomark _))))))))), ?_⟩
    have hc : (∃ lo hi i : Int, ((n = "face" ∧ lo = 0 ∧ hi = 1) ∨ (n = "measure" ∧ lo = 1 ∧ hi = 6) ∨ (n = "space" ∧ lo = 0 ∧ hi = 2)) ∧ v = .int i ∧ lo ≤ i ∧ i ≤ hi) ∨ ((n = "kept" ∨ n = "page" ∨ n = "out") ∧ ∃ b, v = .bl b) := by
      rcases hv with ⟨hn, i, hv, h1, h2⟩ | ⟨hn, i, hv, h1, h2⟩ | ⟨hn, i, hv, h1, h2⟩ | h
      · exact .inl ⟨0, 1, i, .inl ⟨hn, rfl, rfl⟩, hv, h1, h2⟩
      · exact .inl ⟨1, 6, i, .inr (.inl ⟨hn, rfl, rfl⟩), hv, h1, h2⟩
      · exact .inl ⟨0, 2, i, .inr (.inr ⟨hn, rfl, rfl⟩), hv, h1, h2⟩
      · exact .inr h
    rcases hc with ⟨lo, hi, i, hc, rfl, h1, h2⟩ | ⟨hn, b, rfl⟩
    · obtain ⟨t, ht, hq⟩ := T.lims n lo hi hc
      refine ⟨_, rfl, n, _, rfl, rfl, ht, _, rfl, iteT ?_⟩
      refine ⟨_, rfl, dl, n, .ref t, rfl, rfl, ⟨es, en, _, D.at_, D.lit, ht, rfl⟩, ?_⟩
      exact ⟨t, _, rfl, hq _, rfl, _, _, rfl, _, _, rfl, rfl, _, rfl, _, rfl, _, rfl, i, lo, hi, rfl, h1, h2, k⟩
    · refine ⟨_, rfl, n, none, rfl, rfl, T.nolim n hn, _, rfl, iteF ?_⟩
      have hm : n ∈ VN := by rcases hn with rfl | rfl | rfl <;> decide
      refine ⟨_, rfl, tv, _, rfl, .inr (T.vn _), rfl, flat_strs VN, ?_⟩
      show ∃ c, V.bl (inV (.str n) (VN.map V.str)) = .bl c ∧ _
      rw [inV_str n VN, decide_eq_true hm]
      refine ⟨_, rfl, iteT ?_⟩
      cases b with
      | true => exact ⟨_, rfl, _, _, rfl, rfl, _, rfl, iteT k⟩
      | false => exact ⟨_, rfl, _, _, rfl, rfl, _, rfl, iteF ⟨_, rfl, _, _, rfl, rfl, k⟩⟩
end
end Pa
set_option maxRecDepth 100000
set_option maxHeartbeats 4000000
namespace Pa
open PySem PySem.Spec PyProof.Rows L2 RZ
/-! ### data and its == -/
theorem e_tt (a b : List PyData) : PyData.eqv (.tuple a) (.tuple b) = PyData.eqvAll a b := by rw [PyData.eqv]
theorem e_ll (a b : List PyData) : PyData.eqv (.list a) (.list b) = PyData.eqvAll a b := by rw [PyData.eqv]
theorem e_cons (x y : PyData) (xs ys : List PyData) : PyData.eqvAll (x :: xs) (y :: ys) = (PyData.eqv x y && PyData.eqvAll xs ys) := by rw [PyData.eqvAll]
theorem e_nil : PyData.eqvAll [] [] = true := by rw [PyData.eqvAll]
theorem e_nc (y : PyData) (ys : List PyData) : PyData.eqvAll [] (y :: ys) = false := by rw [PyData.eqvAll]
theorem e_cn (x : PyData) (xs : List PyData) : PyData.eqvAll (x :: xs) [] = false := by rw [PyData.eqvAll]
theorem e_ss (x y : Str) : PyData.eqv (.str x) (.str y) = (x == y) := by rw [PyData.eqv]
theorem e_ii (x y : Int) : PyData.eqv (.int x) (.int y) = (x == y) := by rw [PyData.eqv]
theorem e_bb (x y : Bool) : PyData.eqv (.bool x) (.bool y) = (x == y) := by rw [PyData.eqv]
def vD : V → PyData
  | .int i => .int i
  | .bl b => .bool b
  | .str x => .str x
  | _ => .none
def pairD (x : Str × V) : PyData := .tuple [.str x.1, vD x.2]
theorem set_eqv {n : Str} {u v : V} (hu : SetOk n u) (hv : SetOk n v) : PyData.eqv (vD u) (vD v) = decide (u = v) := by
  have int : ∀ i j : Int, PyData.eqv (vD (.int i)) (vD (.int j)) = decide (V.int i = V.int j) := fun i j => by
    show PyData.eqv (.int i) (.int j) = _
    rw [e_ii]
    by_cases e : i = j
    · subst e; simp
    · simp [e]
  have bl : ∀ i j : Bool, PyData.eqv (vD (.bl i)) (vD (.bl j)) = decide (V.bl i = V.bl j) := fun i j => by
    show PyData.eqv (.bool i) (.bool j) = _
    rw [e_bb]
    cases i <;> cases j <;> rfl
  have kd : (∃ i, u = .int i ∧ ∃ j, v = .int j) ∨ ∃ i, u = .bl i ∧ ∃ j, v = .bl j := by
    rcases hu with ⟨a, i, ha, _⟩ | ⟨a, i, ha, _⟩ | ⟨a, i, ha, _⟩ | ⟨a, b, ha⟩
    · rcases hv with ⟨c, j, hc, _⟩ | ⟨c, j, hc, _⟩ | ⟨c, j, hc, _⟩ | ⟨c, j, hc⟩
      · exact .inl ⟨i, ha, j, hc⟩
      · exact .inl ⟨i, ha, j, hc⟩
      · exact .inl ⟨i, ha, j, hc⟩
      · subst a; rcases c with c | c | c <;> exact absurd c (by decide)
    · rcases hv with ⟨c, j, hc, _⟩ | ⟨c, j, hc, _⟩ | ⟨c, j, hc, _⟩ | ⟨c, j, hc⟩
      · exact .inl ⟨i, ha, j, hc⟩
      · exact .inl ⟨i, ha, j, hc⟩
      · exact .inl ⟨i, ha, j, hc⟩
      · subst a; rcases c with c | c | c <;> exact absurd c (by decide)
    · rcases hv with ⟨c, j, hc, _⟩ | ⟨c, j, hc, _⟩ | ⟨c, j, hc, _⟩ | ⟨c, j, hc⟩
      · exact .inl ⟨i, ha, j, hc⟩
      · exact .inl ⟨i, ha, j, hc⟩
      · exact .inl ⟨i, ha, j, hc⟩
      · subst a; rcases c with c | c | c <;> exact absurd c (by decide)
    · rcases hv with ⟨c, j, hc, _⟩ | ⟨c, j, hc, _⟩ | ⟨c, j, hc, _⟩ | ⟨c, j, hc⟩
      · subst c; rcases a with a | a | a <;> exact absurd a (by decide)
      · subst c; rcases a with a | a | a <;> exact absurd a (by decide)
      · subst c; rcases a with a | a | a <;> exact absurd a (by decide)
      · exact .inr ⟨b, ha, j, hc⟩
  rcases kd with ⟨i, rfl, j, rfl⟩ | ⟨i, rfl, j, rfl⟩
  · exact int i j
  · exact bl i j
theorem pair_eqv {x y : Str × V} (hx : SetOk x.1 x.2) (hy : SetOk y.1 y.2) : PyData.eqv (pairD x) (pairD y) = decide (x = y) := by
  obtain ⟨n, u⟩ := x
  obtain ⟨m, v⟩ := y
  show PyData.eqv (.tuple [.str n, vD u]) (.tuple [.str m, vD v]) = _
  rw [e_tt, e_cons, e_cons, e_nil, e_ss, Bool.and_true]
  by_cases e : n = m
  · subst e
    rw [set_eqv hx hy]
    simp
  · simp [e]
theorem pairs_eqv : ∀ {xs ys : List (Str × V)}, (∀ x ∈ xs, SetOk x.1 x.2) → (∀ x ∈ ys, SetOk x.1 x.2) → PyData.eqvAll (xs.map pairD) (ys.map pairD) = decide (xs = ys)
  | [], [], _, _ => by rw [List.map_nil, e_nil]; simp
  | [], y :: ys, _, _ => by rw [List.map_nil, List.map_cons, e_nc]; simp
  | x :: xs, [], _, _ => by rw [List.map_nil, List.map_cons, e_cn]; simp
  | x :: xs, y :: ys, h1, h2 => by
    rw [List.map_cons, List.map_cons, e_cons, pair_eqv (h1 x List.mem_cons_self) (h2 y List.mem_cons_self), pairs_eqv (fun z hz => h1 z (List.mem_cons_of_mem _ hz)) fun z hz => h2 z (List.mem_cons_of_mem _ hz)]
    by_cases e1 : x = y
    · subst e1
      simp
    · simp [e1]
theorem strs_eqv : ∀ xs ys : List Str, PyData.eqvAll (xs.map PyData.str) (ys.map PyData.str) = decide (xs = ys)
  | [], [] => by rw [List.map_nil, e_nil]; simp
  | [], y :: ys => by rw [List.map_nil, List.map_cons, e_nc]; simp
  | x :: xs, [] => by rw [List.map_nil, List.map_cons, e_cn]; simp
  | x :: xs, y :: ys => by
    rw [List.map_cons, List.map_cons, e_cons, e_ss, strs_eqv]
    by_cases e1 : x = y
    · subst e1
      simp
    · simp [e1]
theorem can_all {α : Type} {f : α → PyData} : ∀ {xs : List α}, (∀ x ∈ xs, (f x).canLay0 = true) → PyData.canLayAll0 (xs.map f) = true
  | [], _ => rfl
  | x :: xs, h => by
    rw [List.map_cons, PyData.canLayAll0, h x List.mem_cons_self, can_all fun y hy => h y (List.mem_cons_of_mem _ hy)]
    rfl
theorem dep_all {α : Type} {f : α → PyData} {n : Nat} : ∀ {xs : List α}, (∀ x ∈ xs, (f x).depth ≤ n) → PyData.depthAll (xs.map f) ≤ n
  | [], _ => by rw [List.map_nil, PyData.depthAll]; exact Nat.zero_le _
  | x :: xs, h => by
    rw [List.map_cons, PyData.depthAll]
    exact Nat.max_le.mpr ⟨h x List.mem_cons_self, dep_all fun y hy => h y (List.mem_cons_of_mem _ hy)⟩
theorem sh_tup {α : Type} {f : α → PyData} {xs : List α} (h : ∀ x ∈ xs, (f x).canLay0 = true ∧ (f x).depth ≤ 2) : SeqAt.shaped (.tuple (xs.map f)) = true := by
  unfold SeqAt.shaped
  rw [PyData.canLay0, can_all fun x hx => (h x hx).1, PyData.depth]
  have := dep_all (n := 2) fun x hx => (h x hx).2
  simp only [Bool.true_and, decide_eq_true_eq]
  omega
theorem sh_lst {α : Type} {f : α → PyData} {xs : List α} (h : ∀ x ∈ xs, (f x).canLay0 = true ∧ (f x).depth ≤ 2) : SeqAt.shaped (.list (xs.map f)) = true := by
  unfold SeqAt.shaped
  rw [PyData.canLay0, can_all fun x hx => (h x hx).1, PyData.depth]
  have := dep_all (n := 2) fun x hx => (h x hx).2
  simp only [Bool.true_and, decide_eq_true_eq]
  omega
theorem okK {s : Str} (h : IsK s) : PyData.strOk s = true := by rcases h with rfl | rfl | rfl | rfl <;> decide +kernel
theorem okM {s : Str} (h : IsM s) : PyData.strOk s = true := by rcases h with rfl | rfl | rfl <;> decide +kernel
theorem pat_all {ps : List Str} (h : PatOk ps) : ∀ s ∈ ps, (PyData.str s).canLay0 = true ∧ (PyData.str s).depth ≤ 2 := by
  obtain ⟨k, m, p, a, e, rfl, hk, hm, hp, ha, he⟩ := h
  intro s hs
  refine ⟨?_, by rw [PyData.depth]; exact Nat.zero_le _⟩
  rw [PyData.canLay0]
  simp only [List.mem_cons, List.not_mem_nil, or_false] at hs
  rcases hs with rfl | rfl | rfl | rfl | rfl
  · exact okK hk
  · exact okM hm
  · exact okK hp
  · exact okM ha
  · exact okK he
theorem set_name {n : Str} {v : V} (h : SetOk n v) : n ∈ VN := by
  rcases h with ⟨rfl, _⟩ | ⟨rfl, _⟩ | ⟨rfl, _⟩ | ⟨rfl | rfl | rfl, _⟩ <;> decide
theorem name_ok {n : Str} (h : n ∈ VN) : PyData.strOk n = true := by
  simp only [List.mem_cons, List.not_mem_nil, or_false] at h
  rcases h with rfl | rfl | rfl | rfl | rfl | rfl <;> decide +kernel
theorem vD_lay {n : Str} {v : V} (h : SetOk n v) : (vD v).canLay0 = true ∧ (vD v).depth = 0 := by
  rcases h with ⟨_, i, rfl, _⟩ | ⟨_, i, rfl, _⟩ | ⟨_, i, rfl, _⟩ | ⟨_, b, rfl⟩ <;> exact ⟨by simp [vD, PyData.canLay0], by simp [vD, PyData.depth]⟩
theorem pair_lay {x : Str × V} (h : SetOk x.1 x.2) : (pairD x).canLay0 = true ∧ (pairD x).depth ≤ 2 := by
  obtain ⟨h1, h2⟩ := vD_lay h
  unfold pairD
  refine ⟨?_, ?_⟩
  · rw [PyData.canLay0, PyData.canLayAll0, PyData.canLayAll0, PyData.canLayAll0, PyData.canLay0, name_ok (set_name h), h1]
    rfl
  · simp [PyData.depth, PyData.depthAll, h2]
/-! ### a rule in the heap -/
def Sets (K : PySem.W.Frag) (H : Hp) (rs : List Addr) (sets : List (Str × V)) : Prop := Paired (fun r x => SqT K H r [.str x.1, x.2]) rs sets
theorem Sets.ext {K : PySem.W.Frag} {H H' : Hp} {rs : List Addr} {sets : List (Str × V)} (h : Sets K H rs sets) (e : Ext H H') : Sets K H' rs sets := by
  unfold Sets at *
  induction h with
  | nil => exact .nil
  | cons a _ ih => exact .cons (SqT.ext a e) ih
structure RuleAt (K : PySem.W.Frag) (C : Addr) (H : Hp) (a : Addr) (w : Int) (ps : List Str) (sets : List (Str × V)) : Prop where
  ex : ∃ dx pt st rs, H a = some (.ins C dx [("weight", .int w), ("pattern", .ref pt), ("settings", .ref st)]) ∧ SqT K H pt (ps.map V.str) ∧ SqT K H st (rs.map V.ref) ∧ Sets K H rs sets
theorem RuleAt.ext {K : PySem.W.Frag} {C : Addr} {H H' : Hp} {a : Addr} {w : Int} {ps : List Str} {sets : List (Str × V)} (h : RuleAt K C H a w ps sets) (e : Ext H H') : RuleAt K C H' a w ps sets := by
  obtain ⟨dx, pt, st, rs, h1, h2, h3, h4⟩ := h.ex
  exact ⟨dx, pt, st, rs, e _ _ h1, h2.ext e, h3.ext e, h4.ext e⟩
theorem dp_strs {K : PySem.W.Frag} {H : Hp} : ∀ ps : List Str, DpAll K H (ps.map V.str) (ps.map PyData.str)
  | [] => .nil
  | p :: ps => .cons (.str p) (dp_strs ps)
theorem dp_v {K : PySem.W.Frag} {H : Hp} {n : Str} {v : V} (h : SetOk n v) : Dp K H v (vD v) := by
  rcases h with ⟨_, i, rfl, _⟩ | ⟨_, i, rfl, _⟩ | ⟨_, i, rfl, _⟩ | ⟨_, b, rfl⟩
  · exact .int i
  · exact .int i
  · exact .int i
  · exact .bl b
theorem dp_sets {K : PySem.W.Frag} {H : Hp} {rs : List Addr} {sets : List (Str × V)} (h : Sets K H rs sets) (hs : ∀ x ∈ sets, SetOk x.1 x.2) : DpAll K H (rs.map V.ref) (sets.map pairD) := by
  unfold Sets at h
  induction h with
  | nil => exact .nil
  | @cons r x _ _ a _ ih => exact .cons (.tup a (.cons (.str x.1) (.cons (dp_v (hs x List.mem_cons_self)) .nil))) (ih fun y hy => hs y (List.mem_cons_of_mem _ hy))
/-- facts of the class -/
structure TxR (K : PySem.W.Frag) (C : Addr) : Prop where
  cl : Cls K C
  nw : PySem.W.findIn K (.ref C) "weight" = some none
  np : PySem.W.findIn K (.ref C) "pattern" = some none
  ns : PySem.W.findIn K (.ref C) "settings" = some none
  ha : PySem.W.findIn K (.ref C) "__class__" = some (some (.builtin "object.__class__"))
  hn : PySem.W.specialIn K (.builtin "object.__class__") "__get__" = some (some (.builtin "getset_descriptor.__get__"))
  htk : PySem.W.takesIn K (.builtin "object.__class__") = some true
  hm : PySem.W.mroIn K C (.type "object") = some true
  kc : PySem.W.kitOne K (.ref C) (.ref C) = some true
section
variable {P : Program} {w : World} {K : PySem.W.Frag} {mg : Str → Option Value} {base : Heap} {tv tp tk dl C : Addr}
def spSetting (K : PySem.W.Frag) (C : Addr) : Sp := fun vs H Q _ => ∃ (a : Addr) (n : Str) (wt : Int) (ps : List Str) (sets : List (Str × V)), vs = [.ref a, .str n] ∧ RuleAt K C H a wt ps sets ∧ Q ((sets.lookup n).getD .non) H
abbrev sRule_setting : Stmt := inClass (topS 13) 2
theorem scRule_setting : FnScope ["self", "name", "other", "value"] ["self", "name"] (defScope sRule_setting) := ⟨rfl, rfl, rfl, by decide +kernel, rfl, by decide +kernel, by decide +kernel⟩
theorem sets_at {K : PySem.W.Frag} {H : Hp} {rs : List Addr} {sets : List (Str × V)} (h : Sets K H rs sets) : ∀ {i : Nat} {x : V}, (rs.map V.ref)[i]? = some x → ∃ r y, x = .ref r ∧ sets[i]? = some y ∧ SqT K H r [.str y.1, y.2] := by
  unfold Sets at h
  induction h with
  | nil => intro i x e; simp at e
  | @cons r y _ _ a _ ih =>
    intro i x e
    cases i with
    | zero =>
      cases e
      exact ⟨r, y, rfl, rfl, a⟩
    | succ i => exact ih e
theorem lookup_take {sets : List (Str × V)} {n : Str} {i : Nat} {y : Str × V} (h : (sets.take i).lookup n = none) (hy : sets[i]? = some y) : (sets.take (i + 1)).lookup n = if n == y.1 then some y.2 else none := by
  rw [List.take_add_one, hy, lookup_app, h]
  show ([y] : List (Str × V)).lookup n = _
  rw [List.lookup_cons]
  cases n == y.1 <;> rfl
theorem ok_setting {f : Addr} {fd : FuncData} (F : Fun K "setting" "Rule.setting" sRule_setting f fd) (T : TxR K C) : FnOk P w K mg base CX0 1 f fd ["self", "name"] (spSetting K C) := by
  refine F.ok scRule_setting (fun vs H Q E h => ?_) (fun cdv A outer s H vs Q E hr h => ?_)
  · obtain ⟨a, n, wt, ps, sets, rfl, _⟩ := h
    rfl
  · obtain ⟨a, n, wt, ps, sets, rfl, hR, k⟩ := h
    obtain ⟨dx, pt, st, rs, h1, h2, h3, h4⟩ := hR.ex
    refine ⟨_, (pss_cons (ps_for PassesOwn.never rfl (pi_tup (pe_fld (pv 0) rfl)) (pg_tup rfl (pgs_cons (pg_name (i := 2) scRule_setting.nd rfl (.inl rfl)) (pgs_cons (pg_name (i := 3) scRule_setting.nd rfl (.inl rfl)) pgs_nil)))
        (pss_one (ps_if (pt_cmpR op_eq (pv 2) (pv 1) (nomark _))
          (pss_one (ps_ret (pv 3)))
          pss_nil)))
      (pss_one (ps_ret pe_non))), ?_⟩
    refine ⟨_, rfl, a, C, dx, _, _, rfl, h1, T.cl, T.ns, rfl, st, rfl, ⟨_, h3⟩, ?_⟩
    refine for_tup (xs := rs.map V.ref) (fun i σ H' => H' = H ∧ (sets.take i).lookup n = none ∧ ∃ x2 x3, σ = [some (.ref a), some (.str n), x2, x3]) ⟨rfl, by simp, _, _, rfl⟩ (fun i σ H' _ h => by rw [h.1]; exact h3) (fun i x σ H' hx h => ?_) (fun σ H' h => ?_)
    · obtain ⟨rfl, hl, x2, x3, rfl⟩ := h
      obtain ⟨r, y, rfl, hy, hq⟩ := sets_at h4 hx
      refine ⟨r, _, rfl, hq, rfl, _, _, rfl, _, _, rfl, rfl, ?_⟩
      refine ⟨_, rfl, _, rfl, rfl, _, rfl, ?_⟩
      have el := lookup_take hl hy
      by_cases e : y.1 = n
      · have : (n == y.1) = true := by rw [e]; exact beq_self_eq_true n
        rw [this, if_pos rfl] at el
        have e2 : sets.lookup n = some y.2 := by
          have e3 : sets = sets.take (i + 1) ++ sets.drop (i + 1) := (List.take_append_drop _ _).symm
          rw [e3, lookup_app, el]
          rfl
        rw [decide_eq_true (by rw [e] : V.str y.1 = V.str n)]
        refine iteT ⟨_, rfl, ?_⟩
        rw [e2] at k
        exact k
      · have : (n == y.1) = false := beq_eq_false_iff_ne.mpr fun q => e q.symm
        rw [this, if_neg Bool.false_ne_true] at el
        rw [decide_eq_false (fun q => e (V.str.inj q) : ¬ V.str y.1 = V.str n)]
        exact iteF ⟨rfl, el, _, _, rfl⟩
    · obtain ⟨rfl, hl, _⟩ := h
      have e : sets.length = rs.length := (Paired.length h4).symm
      rw [List.length_map, ← e, List.take_length] at hl
      rw [hl] at k
      exact k
end
end Pa
set_option maxRecDepth 100000
set_option maxHeartbeats 4000000
namespace Pa
open PySem PySem.Spec PyProof.Rows L2 RZ
/-- m stands in mk -/
def sub (m mk : Str) : Bool := !(Builtin.Str.occurrences mk m 0 mk.length 1).isEmpty
/-- whether a rule matches a piece -/
def matchB (ps : List Str) (kd mk c0 c1 c2 : Str) : Bool := match ps with
  | [k, m, p, a, e] => decide (k ∈ (["", kd] : List Str)) && (decide (p ∈ (["", c0] : List Str)) && (decide (e ∈ (["", c2] : List Str)) && (sub m mk && sub a c1)))
  | _ => false
section
variable {P : Program} {w : World} {K : PySem.W.Frag} {mg : Str → Option Value} {base : Heap} {tv tp tk dl C : Addr}
def spCallR (K : PySem.W.Frag) (C : Addr) : Sp := fun vs H Q _ => ∃ (a cx : Addr) (kd mk c0 c1 c2 : Str) (rest : List V) (wt : Int) (ps : List Str) (sets : List (Str × V)), vs = [.ref a, .str kd, .str mk, .ref cx] ∧ RuleAt K C H a wt ps sets ∧ PatOk ps ∧
  SqT K H cx (.str c0 :: .str c1 :: .str c2 :: rest) ∧ ∀ H', Ext H H' → Q (.bl (matchB ps kd mk c0 c1 c2)) H'
abbrev sRule___call__ : Stmt := inClass (topS 13) 3
theorem scRule___call__ : FnScope ["self", "kind", "marks", "context", "kind_text", "mark", "parent", "above", "elder"] ["self", "kind", "marks", "context"] (defScope sRule___call__) := ⟨rfl, rfl, rfl, by decide +kernel, rfl, by decide +kernel, by decide +kernel⟩
theorem ok_callR {f : Addr} {fd : FuncData} (F : Fun K "__call__" "Rule.__call__" sRule___call__ f fd) (T : TxR K C) : FnOk P w K mg base CX0 1 f fd ["self", "kind", "marks", "context"] (spCallR K C) := by
  refine F.ok scRule___call__ (fun vs H Q E h => ?_) (fun cdv A outer s H vs Q E hr h => ?_)
  · obtain ⟨a, cx, kd, mk, c0, c1, c2, rest, wt, ps, sets, rfl, _⟩ := h
    rfl
  · obtain ⟨a, cx, kd, mk, c0, c1, c2, rest, wt, ps, sets, rfl, hR, hp, hc, k⟩ := h
    obtain ⟨dx, pt, st, rs, h1, h2, h3, h4⟩ := hR.ex
    obtain ⟨pk, pm, pp, pa, pe, rfl, _⟩ := hp
    refine ⟨_, (pss_cons (ps_asg (pe_fld (pv 0) rfl) (pg_tup rfl (pgs_cons (pg_name (i := 4) scRule___call__.nd rfl (.inl rfl)) (pgs_cons (pg_name (i := 5) scRule___call__.nd rfl (.inl rfl)) (pgs_cons (pg_name (i := 6) scRule___call__.nd rfl (.inl rfl)) (pgs_cons (pg_name (i := 7) scRule___call__.nd rfl (.inl rfl)) (pgs_cons (pg_name (i := 8) scRule___call__.nd rfl (.inl rfl)) pgs_nil)))))))
      (pss_cons (ps_if (PW.pt (pw_or (pt_cmpR op_notIn_seq (pv 4) (pe_tup (pa_cons pe_str (pa_cons (pv 1) pa_nil))) (by rfl)) (pw_or (pt_cmpR op_notIn_seq (pv 6) (pe_tup (pa_cons pe_str (pa_cons (pe_ix ix_tup (pv 3) pe_int (fun _ _ => rfl)) pa_nil))) (by rfl)) (pw_or1 (pt_cmpR op_notIn_seq (pv 8) (pe_tup (pa_cons pe_str (pa_cons (pe_ix ix_tup (pv 3) pe_int (fun _ _ => rfl)) pa_nil))) (by rfl))))))
        (pss_one (ps_ret pe_bl))
        pss_nil)
      (pss_one (ps_ret (pe_and (pe_cmpR op_in_str (pv 5) (pv 2) (by rfl)) (pe_one (pe_cmpR op_in_str (pv 7) (pe_ix ix_tup (pv 3) pe_int (fun _ _ => rfl)) (by rfl)))))))), ?_⟩
    refine ⟨_, rfl, a, C, dx, _, _, rfl, h1, T.cl, T.np, rfl, pt, _, rfl, h2, rfl, _, _, rfl, _, _, rfl, _, _, rfl, _, _, rfl, _, _, rfl, rfl, ?_⟩
    have iv : ∀ x y : Str, inV (.str x) [.str "", .str y] = decide (x ∈ (["", y] : List Str)) := fun x y => inV_str x ["", y]
    refine ⟨_, rfl, _, rfl, (by show 2 ≤ sizeLine; decide), fun t ht => ⟨t, _, rfl, .inr (SqT.of upd_same), rfl, rfl, _, rfl, ?_⟩⟩
    have e1 := Ext.upd (o := .tup [.str "", .str kd]) ht
    show if (!inV (.str pk) [.str "", .str kd]) = true then _ else _
    rw [iv]
    by_cases qk : pk ∈ (["", kd] : List Str)
    · rw [decide_eq_true qk]
      refine iteF ?_
      refine ⟨_, rfl, _, rfl, cx, _, _, _, rfl, rfl, hc.ext e1, atI_nat (j := 0) rfl, (by show 2 ≤ sizeLine; decide), fun t2 ht2 => ⟨t2, _, rfl, .inr (SqT.of upd_same), rfl, rfl, _, rfl, ?_⟩⟩
      have e2 := e1.upd' (o := .tup [.str "", .str c0]) ht2
      show if (!inV (.str pp) [.str "", .str c0]) = true then _ else _
      rw [iv]
      by_cases qp : pp ∈ (["", c0] : List Str)
      · rw [decide_eq_true qp]
        refine iteF ?_
        refine ⟨_, rfl, _, rfl, cx, _, _, _, rfl, rfl, hc.ext e2, atI_nat (j := 2) rfl, (by show 2 ≤ sizeLine; decide), fun t3 ht3 => ⟨t3, _, rfl, .inr (SqT.of upd_same), rfl, rfl, _, rfl, ?_⟩⟩
        have e3 := e2.upd' (o := .tup [.str "", .str c2]) ht3
        show if (!inV (.str pe) [.str "", .str c2]) = true then _ else _
        rw [iv]
        have k3 := k _ e3
        unfold matchB at k3
        simp only at k3
        rw [decide_eq_true qk, decide_eq_true qp, Bool.true_and, Bool.true_and] at k3
        by_cases qe : pe ∈ (["", c2] : List Str)
        · rw [decide_eq_true qe] at k3 ⊢
          rw [Bool.true_and] at k3
          refine iteF ?_
          refine ⟨_, rfl, _, rfl, _, _, rfl, rfl, ?_⟩
          show ∃ c, V.bl (sub pm mk) = .bl c ∧ _
          refine ⟨_, rfl, ?_⟩
          cases hm : sub pm mk with
          | true =>
            rw [hm, Bool.true_and] at k3
            exact iteT ⟨_, rfl, _, rfl, cx, _, _, _, rfl, rfl, hc.ext e3, atI_nat (j := 1) rfl, _, _, rfl, rfl, k3⟩
          | false =>
            rw [hm, Bool.false_and] at k3
            exact iteF k3
        · rw [decide_eq_false qe] at k3 ⊢
          rw [Bool.false_and] at k3
          exact iteT k3
      · have k2 := k _ e2
        unfold matchB at k2
        simp only at k2
        rw [decide_eq_false qp, Bool.false_and, Bool.and_false] at k2
        rw [decide_eq_false qp]
        exact iteT k2
    · have k1 := k _ e1
      unfold matchB at k1
      simp only at k1
      rw [decide_eq_false qk, Bool.false_and] at k1
      rw [decide_eq_false qk]
      exact iteT k1
/-- settings that may stand -/
def SetsOk (sets : List (Str × V)) : Prop := ∀ x ∈ sets, SetOk x.1 x.2
def spEqR (K : PySem.W.Frag) (C : Addr) : Sp := fun vs H Q _ => ∃ (a : Addr) (y : V) (wt : Int) (ps : List Str) (sets : List (Str × V)), vs = [.ref a, y] ∧ RuleAt K C H a wt ps sets ∧ PatOk ps ∧ SetsOk sets ∧
  ((∃ (b : Addr) (w' : Int) (ps' : List Str) (sets' : List (Str × V)), y = .ref b ∧ RuleAt K C H b w' ps' sets' ∧ PatOk ps' ∧ SetsOk sets' ∧ Q (.bl (decide (wt = w' ∧ ps = ps' ∧ sets = sets'))) H) ∨ ∃ tb, TyX K H y tb ∧ PySem.W.kitOne K tb (.ref C) = some false ∧ Q (.bl false) H)
abbrev sRule___eq__ : Stmt := inClass (topS 13) 4
theorem scRule___eq__ : FnScope ["self", "other"] ["self", "other"] (defScope sRule___eq__) := ⟨rfl, rfl, rfl, by decide +kernel, rfl, by decide +kernel, by decide +kernel⟩
theorem ok_eqR {f : Addr} {fd : FuncData} (F : Fun K "__eq__" "Rule.__eq__" sRule___eq__ f fd) (T : TxR K C) (g : mg "Rule" = some (.ref C)) (bi : mg "isinstance" = none) : FnOk P w K mg base CX0 1 f fd ["self", "other"] (spEqR K C) := by
  refine F.ok scRule___eq__ (fun vs H Q E h => ?_) (fun cdv A outer s H vs Q E hr h => ?_)
  · obtain ⟨a, y, wt, ps, sets, rfl, _⟩ := h
    rfl
  · obtain ⟨a, y, wt, ps, sets, rfl, hR, hp, hs, k⟩ := h
    obtain ⟨dx, pt, st, rs, h1, h2, h3, h4⟩ := hR.ex
    refine ⟨_, (pss_cons (ps_if (pt_not (pt_val (pe_callB call_isi (by rfl) bi (by decide +kernel) (pa_cons (pv 1) (pa_cons (pe_glob (v := .ref C) (by rfl) g rfl) pa_nil)))))
        (pss_one (ps_ret pe_bl))
        pss_nil)
      (pss_one (ps_ret (pe_and (pe_cmpR op_eq (pe_fld (pv 0) rfl) (pe_fld (pv 1) rfl) (nomark _)) (pe_and (pe_cmpR (op_eqD hr.units) (pe_fld (pv 0) rfl) (pe_fld (pv 1) rfl) (nomark _)) (pe_one (pe_cmpR (op_eqD hr.units) (pe_fld (pv 0) rfl) (pe_fld (pv 1) rfl) (nomark _)))))))), ?_⟩
    rcases k with ⟨b, w', ps', sets', rfl, hR', hp', hs', k⟩ | ⟨tb, ht, hk, k⟩
    · obtain ⟨dx', pt', st', rs', h1', h2', h3', h4'⟩ := hR'.ex
      refine ⟨_, rfl, _, _, _, _, _, rfl, .own C, .base (.ins h1' T.cl T.ha T.hn T.htk T.hm), T.kc, _, rfl, iteF ?_⟩
      refine ⟨_, rfl, a, C, dx, _, _, rfl, h1, T.cl, T.nw, rfl, _, rfl, b, C, dx', _, _, rfl, h1', T.cl, T.nw, rfl, rfl, _, rfl, ?_⟩
      by_cases ew : wt = w'
      · subst ew
        rw [decide_eq_true (rfl : V.int wt = V.int wt)]
        refine iteT ?_
        refine ⟨_, rfl, a, C, dx, _, _, rfl, h1, T.cl, T.np, rfl, _, rfl, b, C, dx', _, _, rfl, h1', T.cl, T.np, rfl, _, _, .tup h2 (dp_strs _), .tup h2' (dp_strs _), sh_tup (pat_all hp), sh_tup (pat_all hp'), ?_⟩
        rw [e_tt, strs_eqv]
        refine ⟨_, rfl, ?_⟩
        by_cases ep : ps = ps'
        · rw [decide_eq_true ep]
          refine iteT ?_
          refine ⟨_, rfl, a, C, dx, _, _, rfl, h1, T.cl, T.ns, rfl, _, rfl, b, C, dx', _, _, rfl, h1', T.cl, T.ns, rfl, _, _, .tup h3 (dp_sets h4 hs), .tup h3' (dp_sets h4' hs'), sh_tup (fun x hx => pair_lay (hs x hx)), sh_tup (fun x hx => pair_lay (hs' x hx)), ?_⟩
          rw [e_tt, pairs_eqv hs hs']
          have e : decide (wt = wt ∧ ps = ps' ∧ sets = sets') = decide (sets = sets') := by simp [ep]
          rw [e] at k
          exact k
        · rw [decide_eq_false ep]
          refine iteF ?_
          have e : decide (wt = wt ∧ ps = ps' ∧ sets = sets') = false := by simp [ep]
          rw [e] at k
          exact k
      · rw [decide_eq_false (fun q => ew (V.int.inj q) : ¬ V.int wt = V.int w')]
        refine iteF ?_
        have e : decide (wt = w' ∧ ps = ps' ∧ sets = sets') = false := by simp [ew]
        rw [e] at k
        exact k
    · exact ⟨_, rfl, _, _, _, _, _, rfl, .own C, ht, hk, _, rfl, iteT k⟩
end
end Pa
set_option maxRecDepth 100000
set_option maxHeartbeats 4000000
namespace Pa
open PySem PySem.Spec PyProof.Rows L2 RZ StX
/-- a comprehension over a dict's keys -/
theorem lc_keys {d : Addr} {o : Obj} {kvs : List (Key × V)} {g : TG} {tt : TT} {te : TE} {vs : List Nat} {σ : L2.St} {H1 : Hp} {D : Addr} {Qd : Hp → Prop} (Pv : Nat → Hp → Prop) (h0 : Pv 0 (upd H1 D (.lst []))) (hl : ∀ i H, i ≤ kvs.length → Pv i H → H d = some (.frz o (.dK kvs)))
    (hs : ∀ i k v H, kvs[i]? = some (k, v) → Pv i H → g (kV k) (wipe σ vs) H fun σ2 H2 => wipe σ2 vs = wipe σ vs ∧ tt σ2 H2 fun b H3 =>
      if b = true then te σ2 H3 fun y H4 => ∃ acc, H4 D = some (.lst acc) ∧ acc.length < sizeLine ∧ Pv (i + 1) (upd H4 D (.lst (acc ++ [y]))) else Pv (i + 1) H3) (hd : ∀ H, Pv kvs.length H → Qd H) :
    ∃ W : Nat → Nat → Hp → Prop, (∃ m, W 0 m (upd H1 D (.lst []))) ∧ ∀ i m H, W i m H →
      ((Itk d o kvs).stop i H ∧ Qd H) ∨ ((Itk d o kvs).go i H ∧ ∃ Nx : Hp → Prop, (∀ H', Nx H' → ∃ m', m' < m ∧ W (i + 1) m' H') ∧ ∀ x H', (Itk d o kvs).yld i H x H' → g x (wipe σ vs) H' fun σ2 H2 => wipe σ2 vs = wipe σ vs ∧ tt σ2 H2 fun b H3 =>
        if b = true then te σ2 H3 fun y H4 => ∃ acc, H4 D = some (.lst acc) ∧ acc.length < sizeLine ∧ Nx (upd H4 D (.lst (acc ++ [y]))) else Nx H3) := by
  refine ⟨fun i m H => m = kvs.length - i ∧ i ≤ kvs.length ∧ Pv i H, ⟨kvs.length, by simp, Nat.zero_le _, h0⟩, ?_⟩
  rintro i m H ⟨rfl, hi, p⟩
  have q := hl i H hi p
  by_cases hlt : i < kvs.length
  · refine .inr ⟨⟨q, hlt⟩, Pv (i + 1), fun H' p' => ⟨kvs.length - (i + 1), by omega, rfl, hlt, p'⟩, fun x H' y => ?_⟩
    obtain ⟨rfl, k, v, e, rfl⟩ := y
    exact hs i k v H' e p
  · have e : i = kvs.length := by omega
    subst e
    exact .inl ⟨⟨q, Nat.le_refl _⟩, hd H p⟩
/-- the settings in the order of the names -/
def ord (sets : List (Str × V)) : List (Str × V) := VN.filterMap fun n => (sets.lookup n).map fun v => (n, v)
abbrev inr (sets : List (Str × V)) : List (Key × V) := sets.map fun x => ((Sum.inr x.1 : Key), x.2)
theorem val_inr (n : Str) : ∀ sets : List (Str × V), valV (inr sets) (Sum.inr n) = sets.lookup n
  | [] => rfl
  | x :: sets => by
    have ih := val_inr n sets
    unfold valV at ih ⊢
    rw [List.lookup_cons]
    show ((((Sum.inr x.1 : Key), x.2) :: inr sets).find? fun kv => decide (kv.1 = (Sum.inr n : Key))).map (·.2) = _
    rw [List.find?_cons]
    by_cases e : x.1 = n
    · subst e
      simp
    · have e2 : (n == x.1) = false := beq_eq_false_iff_ne.mpr fun q => e q.symm
      have e3 : decide ((Sum.inr x.1 : Key) = Sum.inr n) = false := decide_eq_false fun q => e (Sum.inr.inj q)
      rw [e2]
      simp only [e3]
      exact ih
theorem lookup_mem {sets : List (Str × V)} {n : Str} {v : V} (h : sets.lookup n = some v) : (n, v) ∈ sets := by
  induction sets with
  | nil => cases h
  | cons x sets ih =>
    rw [List.lookup_cons] at h
    by_cases e : n = x.1
    · subst e
      rw [beq_self_eq_true] at h
      simp only [Option.some.injEq] at h
      subst h
      exact List.mem_cons_self
    · rw [beq_eq_false_iff_ne.mpr e] at h
      exact List.mem_cons_of_mem _ (ih h)
theorem lookup_at {sets : List (Str × V)} (hn : (sets.map (·.1)).Nodup) {x : Str × V} (hx : x ∈ sets) : sets.lookup x.1 = some x.2 := by
  induction sets with
  | nil => cases hx
  | cons y sets ih =>
    obtain ⟨n1, n2⟩ := List.nodup_cons.mp (show (y.1 :: sets.map (·.1)).Nodup from hn)
    rw [List.lookup_cons]
    rcases List.mem_cons.mp hx with e | e
    · subst e
      rw [beq_self_eq_true]
    · have ne : (x.1 == y.1) = false := beq_eq_false_iff_ne.mpr fun q => n1 (by rw [← q]; exact List.mem_map_of_mem e)
      rw [ne]
      exact ih n2 e
theorem ord_ok {sets : List (Str × V)} (h : SetsOk sets) : SetsOk (ord sets) := by
  intro x hx
  unfold ord at hx
  obtain ⟨n, _, e⟩ := List.mem_filterMap.mp hx
  cases q : sets.lookup n with
  | none => rw [q] at e; cases e
  | some v =>
    rw [q] at e
    cases e
    exact h _ (lookup_mem q)
section
variable {P : Program} {w : World} {K : PySem.W.Frag} {mg : Str → Option Value} {base : Heap} {tv tp tk dl C : Addr}
/-- what __init__'s body promises, the names bound -/
def spInitB (K : PySem.W.Frag) (C : Addr) : Sp := fun vs H Q _ => ∃ (x d dx : Addr) (wt : Int) (k m p a e : Str) (sets : List (Str × V)), vs = [.ref x, .int wt, .str k, .str m, .str p, .str a, .str e, .ref d] ∧ x ≠ d ∧ H x = some (.ins C dx []) ∧ H d = some (.dK (inr sets)) ∧
  0 ≤ wt ∧ wt ≤ 9 ∧ PatOk [k, m, p, a, e] ∧ SetsOk sets ∧ (sets.map (·.1)).Nodup ∧ sets ≠ [] ∧ sets.length ≤ 100 ∧ ∀ H', (∀ q o, q ≠ x → H q = some o → H' q = some o) → RuleAt K C H' x wt [k, m, p, a, e] (ord sets) → Q .non H'
abbrev sRule___init__ : Stmt := inClass (topS 13) 0
theorem scRule___init__ : FnScope ["self", "weight", "kind", "mark", "parent", "above", "elder", "sets", "pattern", "name"] ["self", "weight", "kind", "mark", "parent", "above", "elder", "sets"] (defScope sRule___init__) := ⟨rfl, rfl, rfl, by decide +kernel, rfl, by decide +kernel, by decide +kernel⟩
end
theorem sqt_upd {K : PySem.W.Frag} {H : Hp} {r D : Addr} {xs : List V} {u o : HO} (h : SqT K H r xs) (hD : H D = some u) (h1 : ∀ ys, u ≠ .tup ys) (h2 : ∀ ob ys, u ≠ .frz ob (.tup ys)) : SqT K (upd H D o) r xs := by
  rcases h with (h | ⟨ob, h⟩) | h
  · refine .inl (.inl ?_)
    rw [upd_ne (fun q => by rw [q, hD] at h; exact h1 _ (Option.some.inj h))]
    exact h
  · refine .inl (.inr ⟨ob, ?_⟩)
    rw [upd_ne (fun q => by rw [q, hD] at h; exact h2 _ _ (Option.some.inj h))]
    exact h
  · exact .inr h
theorem sets_upd {K : PySem.W.Frag} {H : Hp} {D : Addr} {rs : List Addr} {sets : List (Str × V)} {u o : HO} (h : Sets K H rs sets) (hD : H D = some u) (h1 : ∀ ys, u ≠ .tup ys) (h2 : ∀ ob ys, u ≠ .frz ob (.tup ys)) : Sets K (upd H D o) rs sets := by
  unfold Sets at *
  induction h with
  | nil => exact .nil
  | cons a _ ih => exact .cons (sqt_upd a hD h1 h2) ih
theorem sets_app {K : PySem.W.Frag} {H : Hp} {rs : List Addr} {sets : List (Str × V)} {r : Addr} {x : Str × V} (h : Sets K H rs sets) (hx : SqT K H r [.str x.1, x.2]) : Sets K H (rs ++ [r]) (sets ++ [x]) := by
  unfold Sets at *
  induction h with
  | nil => exact .cons hx .nil
  | cons a _ ih => exact .cons a ih
/-- the names from the left -/
def ordN (ns : List Str) (sets : List (Str × V)) : List (Str × V) := ns.filterMap fun n => (sets.lookup n).map fun v => (n, v)
theorem ordN_len (ns : List Str) (sets : List (Str × V)) : (ordN ns sets).length ≤ ns.length := List.length_filterMap_le _ _
theorem ordN_succ {sets : List (Str × V)} {ns : List Str} {i : Nat} {n : Str} (h : ns[i]? = some n) : ordN (ns.take (i + 1)) sets = ordN (ns.take i) sets ++ (match sets.lookup n with | some v => [(n, v)] | none => []) := by
  unfold ordN
  rw [List.take_add_one, h, List.filterMap_append]
  congr 1
  show List.filterMap _ [n] = _
  cases e : sets.lookup n with
  | none => simp [e]
  | some v => simp [e]
section
variable {P : Program} {w : World} {K : PySem.W.Frag} {mg : Str → Option Value} {base : Heap} {tv tp tk dl C : Addr}
theorem init_body {f : Addr} {cdv : Value} {A : Around} {outer : List Env} {s : Shared} {H : Hp} {vs : List V} {Q : VK} {E : XK} (T : Txt K w mg tv tp tk dl C) (R : TxR K C) (C_is_integer_from : CallOk P w K mg base 2 "is_integer_from" ["value", "low", "high"] spIntFrom)
    (C__is_pattern : CallOk P w K mg base 2 "_is_pattern" ["pattern"] (spIsPat K)) (C__is_setting : CallOk P w K mg base 3 "_is_setting" ["name", "value"] spIsSet)
    (hr : Room 3 (A.deeper (envOfC "Rule.__init__" (defScope sRule___init__) s.heap.objs.size f cdv))) (h : spInitB K C vs H Q E) :
    ∃ t, PSs (cxOf CX0 P w K mg base ["self", "weight", "kind", "mark", "parent", "above", "elder", "sets", "pattern", "name"] "Rule.__init__" (defScope sRule___init__) f cdv A outer s H E) (defBody sRule___init__) t ∧
      t { nx := fun _ H' => Q .non H', rt := Q } (start ["self", "weight", "kind", "mark", "parent", "above", "elder", "sets", "pattern", "name"] vs) H := by
  obtain ⟨x, d, dx, wt, k, m, p, a, e, sets, rfl, hxd, hx, hd, h0, h9, hp, hs, hnd, hne, hlen, kq⟩ := h
  have hu := hu_of hr
  refine ⟨_, (pss_cons (ps_set (i := 8) scRule___init__.nd rfl (.inl rfl) (pe_tup (pa_cons (pv 2) (pa_cons (pv 3) (pa_cons (pv 4) (pa_cons (pv 5) (pa_cons (pv 6) pa_nil)))))))
      (pss_cons (ps_if (PW.pt (pw_or (pt_not (pt_val (pe_cc C_is_integer_from (hr.mono (by decide)) (by rfl) (pa_cons (pv 1) (pa_cons pe_int (pa_cons pe_int pa_nil)))))) (pw_or (pt_not (pt_val (pe_cc C__is_pattern (hr.mono (by decide)) (by rfl) (pa_cons (pv 8) pa_nil)))) (pw_or1 (pt_not (pt_truth (pv 7) (by intro _; rfl)))))))
        (pss_one ps_never)
        pss_nil)
      (pss_cons (ps_if (pt_not (pt_val (pe_callB (cr_all rfl) (by rfl) T.b_all (by decide +kernel) (pa_cons (pe_lock (pe_lc (own := [("name", 9)]) (g := gName 9) (tt := tYes) rfl scRule___init__.nd (pi_keys (pv 7)) (blkOk_by (N := ["self", "weight", "kind", "mark", "parent", "above", "elder", "sets", "pattern", "name"]) (sc := defScope sRule___init__) (by decide +kernel)) (fun _ _ _ _ _ => (pg_name (i := 9) scRule___init__.nd rfl (.inl rfl))) (fun _ _ _ _ _ => pts_nil) (fun _ _ _ _ _ => (pe_cc C__is_setting (hr.mono (by decide)) (by rfl) (pa_cons (pv 9) (pa_cons (pe_dget hu (pv 7) (pv 9) (fun _ _ => rfl)) pa_nil)))))) pa_nil))))
        (pss_one ps_never)
        pss_nil)
      (pss_cons (ps_fld (pv 0) (pv 1) rfl)
      (pss_cons (ps_fld (pv 0) (pv 8) rfl)
      (pss_one (ps_fld (pv 0) (pe_callTy call_tuple_of (by rfl) T.b_tuple (by decide +kernel) (pa_cons (pe_lc (own := [("name", 9)]) (g := gName 9) rfl scRule___init__.nd (pi_tup (pe_glob (v := .ref tv) (by rfl) T.g_VALUE_NAMES rfl)) (blkOk_by (N := ["self", "weight", "kind", "mark", "parent", "above", "elder", "sets", "pattern", "name"]) (sc := defScope sRule___init__) (by decide +kernel)) (fun _ _ _ _ _ => (pg_name (i := 9) scRule___init__.nd rfl (.inl rfl))) (fun _ _ _ _ _ => (pts_one (pt_cmp (pc_din hu (pv 9) (pv 7))))) (fun _ _ _ _ _ => (pe_tup (pa_cons (pv 9) (pa_cons (pe_dget hu (pv 7) (pv 9) (fun _ _ => rfl)) pa_nil))))) pa_nil)) rfl))))))), ?_⟩
  refine ⟨_, rfl, _, rfl, _, rfl, _, rfl, _, rfl, (by show 5 ≤ sizeLine; decide), fun pt hpt => ?_⟩
  have e1 := Ext.upd (o := .tup [.str k, .str m, .str p, .str a, .str e]) hpt
  refine ⟨_, rfl, wt, 0, 9, rfl, h0, h9, _, rfl, iteF ?_⟩
  refine ⟨_, rfl, pt, [k, m, p, a, e], rfl, SqT.of upd_same, hp, fun H2 e2 => ⟨_, rfl, iteF ?_⟩⟩
  have e12 := e1.trans e2
  have hpt2 : SqT K H2 pt [.str k, .str m, .str p, .str a, .str e] := (SqT.of upd_same).ext e2
  refine ⟨_, rfl, true, .inr (.inr ⟨inr sets, e12 _ _ hd, ?_⟩), iteF ?_⟩
  · cases sets with
    | nil => exact absurd rfl hne
    | cons z zs => rfl
  refine ⟨d, .dK (inr sets), e12 _ _ hd, True.intro, fun od => ?_⟩
  refine ⟨_, rfl, d, od, rfl, .inl ⟨inr sets, upd_same, fun D hD => ?_⟩⟩
  have hdD : d ≠ D := ne_of_none (upd_same (H := H2) (a := d) (o := .frz od (.dK (inr sets)))) hD
  refine lc_keys (d := d) (o := od) (kvs := inr sets) (fun i H' => (∀ q u, q ≠ D → upd H2 d (.frz od (.dK (inr sets))) q = some u → H' q = some u) ∧ H' D = some (.lst ((List.replicate i true).map V.bl))) ⟨fun q u hq e => by rw [upd_ne hq]; exact e, upd_same⟩ (fun i H' _ h => h.1 _ _ hdD upd_same) (fun i kk vv H' hkv h => ?_) (fun H' h => ?_)
  · obtain ⟨hk1, hk2⟩ := h
    rw [List.getElem?_map] at hkv
    obtain ⟨y, hy, e3⟩ : ∃ y, sets[i]? = some y ∧ ((Sum.inr y.1 : Key), y.2) = (kk, vv) := by
      cases q : sets[i]? with
      | none => rw [q] at hkv; cases hkv
      | some y => rw [q] at hkv; exact ⟨y, rfl, Option.some.inj hkv⟩
    cases e3
    have hm : y ∈ sets := List.mem_of_getElem? hy
    refine ⟨rfl, _, rfl, _, rfl, _, rfl, d, y.2, rfl, .inl ⟨inr sets, Sum.inr y.1, .inr ⟨od, hk1 _ _ hdD upd_same⟩, rfl, ?_⟩, y.1, y.2, rfl, hs y hm, _, hk2, ?_, fun q u hq e => ?_, ?_⟩
    · rw [val_inr, lookup_at hnd hm]
    · have hi := (List.getElem?_eq_some_iff.mp hy).1
      rw [List.length_map, List.length_replicate]
      exact Nat.lt_of_lt_of_le (by omega : i < 1000) (by decide)
    · rw [upd_ne hq]
      exact hk1 q u hq e
    · rw [upd_same, List.replicate_succ', List.map_append]
      rfl
  obtain ⟨hk1, hk2⟩ := h
  refine ⟨hk1 _ _ hdD upd_same, D, _, rfl, SqL.of (by rw [upd_ne (Ne.symm hdD)]; exact hk2), _, rfl, ?_⟩
  have ea : ∀ n, (List.replicate n true).all id = true := fun n => by
    induction n with
    | zero => rfl
    | succ n ih => rw [List.replicate_succ, List.all_cons, ih]; rfl
  rw [ea]
  refine iteF ?_
  have hD2 : H2 D = none := by
    rw [upd_ne (Ne.symm hdD)] at hD
    exact hD
  have e23 : Ext H2 (upd H' d (.dK (inr sets))) := fun q u e => by
    by_cases hqd : q = d
    · subst hqd
      rw [upd_same, ← e, e12 _ _ hd]
    · rw [upd_ne hqd]
      refine hk1 q u (ne_of_none e hD2) ?_
      rw [upd_ne hqd]
      exact e
  have e13 := e12.trans e23
  generalize upd H' d (.dK (inr sets)) = H3 at e23 e13 ⊢
  have hpt3 := hpt2.ext e23
  have hx3 := e13 _ _ hx
  have hd3 := e13 _ _ hd
  -- the fields
  refine ⟨_, rfl, _, rfl, x, C, dx, _, rfl, hx3, R.cl, R.nw, (by decide), ?_⟩
  refine ⟨_, rfl, _, rfl, x, C, dx, _, rfl, upd_same, R.cl, R.np, (by show 1 < 1000; decide), ?_⟩
  have hd5 : (upd (upd H3 x (.ins C dx (putF "weight" (.int wt) []))) x (.ins C dx (putF "pattern" (.ref pt) (putF "weight" (.int wt) [])))) d = some (.dK (inr sets)) := by
    rw [upd_ne (Ne.symm hxd), upd_ne (Ne.symm hxd)]
    exact hd3
  have hx5 : (upd (upd H3 x (.ins C dx (putF "weight" (.int wt) []))) x (.ins C dx (putF "pattern" (.ref pt) (putF "weight" (.int wt) [])))) x = some (.ins C dx [("weight", .int wt), ("pattern", .ref pt)]) := upd_same
  have hpt5 : SqT K (upd (upd H3 x (.ins C dx (putF "weight" (.int wt) []))) x (.ins C dx (putF "pattern" (.ref pt) (putF "weight" (.int wt) [])))) pt [.str k, .str m, .str p, .str a, .str e] :=
    sqt_upd (sqt_upd hpt3 hx3 (fun _ q => nomatch q) fun _ _ q => nomatch q) upd_same (fun _ q => nomatch q) fun _ _ q => nomatch q
  have k5 : ∀ q o, q ≠ x → H q = some o → (upd (upd H3 x (.ins C dx (putF "weight" (.int wt) []))) x (.ins C dx (putF "pattern" (.ref pt) (putF "weight" (.int wt) [])))) q = some o := fun q o hq e => by
    rw [upd_ne hq, upd_ne hq]
    exact e13 q o e
  generalize upd (upd H3 x (.ins C dx (putF "weight" (.int wt) []))) x (.ins C dx (putF "pattern" (.ref pt) (putF "weight" (.int wt) []))) = H5 at hd5 hx5 hpt5 k5 ⊢
  refine ⟨tv, rfl, ⟨_, T.vn _⟩, fun L hL => ?_⟩
  have hLx : x ≠ L := ne_of_none hx5 hL
  refine lc_tup (xs := VN.map V.str) (fun i H' => (∀ q u, q ≠ L → H5 q = some u → H' q = some u) ∧ ∃ rs, H' L = some (.lst (rs.map V.ref)) ∧ Sets K H' rs (ordN (VN.take i) sets)) ⟨fun q u hq e => by rw [upd_ne hq]; exact e, [], upd_same, .nil⟩ (fun i H' _ h => T.vn _) (fun i v H' hv h => ?_) (fun H' h => ?_)
  · obtain ⟨hk1, rs, hk2, hk3⟩ := h
    obtain ⟨n, hn, rfl⟩ := strs_at hv
    have hdl : d ≠ L := ne_of_none hd5 hL
    have hd' := hk1 _ _ hdl hd5
    refine ⟨rfl, _, rfl, _, rfl, d, sets.lookup n, rfl, .inl ⟨inr sets, Sum.inr n, .inl hd', rfl, (val_inr n sets).symm⟩, ?_⟩
    have es := ordN_succ (sets := sets) hn
    refine ⟨_, rfl, ?_⟩
    cases q : sets.lookup n with
    | none =>
      rw [q] at es
      refine iteF ?_
      refine ⟨hk1, rs, hk2, ?_⟩
      rw [es, List.append_nil]
      exact hk3
    | some v =>
      rw [q] at es
      refine iteT ⟨_, rfl, _, rfl, _, rfl, d, v, rfl, .inl ⟨inr sets, Sum.inr n, .inl hd', rfl, ?_⟩, (by show 2 ≤ sizeLine; decide), fun t ht => ?_⟩
      · rw [val_inr, q]
      have htL : L ≠ t := ne_of_none hk2 ht
      refine ⟨_, by rw [upd_ne htL]; exact hk2, ?_, fun q' u hq e => ?_, rs ++ [t], ?_, ?_⟩
      · have h1 := Paired.length hk3
        have h2 := ordN_len (VN.take i) sets
        have h3 : (VN.take i).length ≤ 6 := by rw [List.length_take]; exact Nat.min_le_right _ _
        rw [List.length_map, h1]
        exact Nat.lt_of_le_of_lt (Nat.le_trans h2 h3) (by decide)
      · rw [upd_ne hq, upd_ne (ne_of_none (hk1 q' u hq e) ht)]
        exact hk1 q' u hq e
      · rw [upd_same, List.map_append]
        rfl
      · rw [es]
        have h1 : Sets K (upd H' t (.tup [.str n, v])) rs (ordN (VN.take i) sets) := hk3.ext (Ext.upd ht)
        have h2 := sets_app (x := (n, v)) h1 (SqT.of upd_same)
        exact sets_upd (u := .lst (rs.map V.ref)) h2 (by rw [upd_ne htL]; exact hk2) (fun _ q => nomatch q) fun _ _ q => nomatch q
  obtain ⟨hk1, rs, hk2, hk3⟩ := h
  refine ⟨L, _, rfl, .inl ⟨SqL.of hk2, fun l hl => ?_⟩⟩
  have hxl : H' x = some (.ins C dx [("weight", .int wt), ("pattern", .ref pt)]) := hk1 _ _ hLx hx5
  have hpl : SqT K H' pt [.str k, .str m, .str p, .str a, .str e] := by
    rcases hpt5 with (q | ⟨ob, q⟩) | q
    · exact .inl (.inl (hk1 _ _ (ne_of_none q hL) q))
    · exact .inl (.inr ⟨ob, hk1 _ _ (ne_of_none q hL) q⟩)
    · exact .inr q
  have hxl2 : upd H' l (.tup (rs.map V.ref)) x = some (.ins C dx [("weight", .int wt), ("pattern", .ref pt)]) := (Ext.upd hl) _ _ hxl
  refine ⟨_, rfl, x, C, dx, _, rfl, hxl2, R.cl, R.ns, (by show 2 < 1000; decide), ?_⟩
  refine kq _ (fun q u hq e => ?_) ⟨dx, pt, l, rs, upd_same, ?_, ?_, ?_⟩
  · have h5 := k5 q u hq e
    rw [upd_ne hq]
    exact (Ext.upd hl) _ _ (hk1 q u (ne_of_none h5 hL) h5)
  · exact sqt_upd (hpl.ext (Ext.upd hl)) hxl2 (fun _ q => nomatch q) fun _ _ q => nomatch q
  · exact sqt_upd (SqT.of upd_same) hxl2 (fun _ q => nomatch q) fun _ _ q => nomatch q
  · have hk4 : Sets K H' rs (ord sets) := hk3
    exact sets_upd (hk4.ext (Ext.upd hl)) hxl2 (fun _ q => nomatch q) fun _ _ q => nomatch q
end
end Pa
set_option maxRecDepth 100000
set_option maxHeartbeats 4000000
namespace Pa
open PySem PySem.Spec PyProof.Rows L2 RZ StX
/-- what is left of the keywords -/
def restK (zs : List (Str × V)) : List (Str × V) := zs.filter fun x => !PN.contains x.1
def spInitK (K : PySem.W.Frag) (C : Addr) : SpK := fun vs zs H Q _ => ∃ (x dx : Addr) (wt : Int) (ps : List Str), vs = [.ref x, .int wt] ∧ (zs.map (·.1)).Nodup ∧ (∀ z ∈ zs, z.1 ∈ PN ∨ z.1 ∈ VN) ∧ zs.length ≤ 20 ∧ H x = some (.ins C dx []) ∧ 0 ≤ wt ∧ wt ≤ 9 ∧ PatOk ps ∧
  PN.map (fun k => (zs.lookup k).getD (.str "")) = ps.map V.str ∧ SetsOk (restK zs) ∧ restK zs ≠ [] ∧ ∀ H', (∀ q o, q ≠ x → H q = some o → H' q = some o) → RuleAt K C H' x wt ps (ord (restK zs)) → Q .non H'
section
variable {P : Program} {w : World} {K : PySem.W.Frag} {mg : Str → Option Value} {base : Heap} {tv tp tk dl C : Addr}
theorem ok_init {f D0 : Addr} {oc doc pm cdv ct : Value} {od an : Option Addr} {osl : Array (Option Value)} (T : Txt K w mg tv tp tk dl C) (R : TxR K C)
    (lk : K.lookup f = some ⟨oc, od, .func (PySem.W.fnOf "__init__" "Rule.__init__" (defArgs sRule___init__) (defBody sRule___init__) (defScope sRule___init__) .none (.ref D0) doc pm an cdv ct), osl⟩) (hcd : PySem.W.codeIn K cdv "Rule.__init__" = true)
    (hdf : ∀ k ∈ PN, ∃ t, PySem.W.nsIn K D0 k = some (some (.str "" t)))
    (C_is_integer_from : CallOk P w K mg base 2 "is_integer_from" ["value", "low", "high"] spIntFrom) (C__is_pattern : CallOk P w K mg base 2 "_is_pattern" ["pattern"] (spIsPat K)) (C__is_setting : CallOk P w K mg base 3 "_is_setting" ["name", "value"] spIsSet) :
    FnKw P w K mg base CX0 4 f (spInitK K C) := by
  have F := fn_kw (P := P) (w := w) (mg := mg) (base := base) (CX := CX0) (k := 3) (sp := spInitB K C) (dv := fun k => ((PySem.W.nsIn K D0 k).getD none).getD .none) (dV := fun _ => .str "") lk hcd rfl (by decide) (by decide +kernel) (fun k hk => ?_) scRule___init__ cxUp_none
    (fun A outer s H vs Q E hr h => init_body T R C_is_integer_from C__is_pattern C__is_setting hr h)
  · intro A outer s H us kw vs zs Q E hr e0 r rk hsp
    refine F A outer s H us kw vs zs Q E hr e0 r rk ?_
    obtain ⟨x, dx, wt, ps, rfl, hnd, hin, hlen, hx, h0, h9, hp, hps, hs, hne, kq⟩ := hsp
    refine ⟨_, _, rfl, hnd, fun z hz => ?_, Nat.le_trans hlen (by decide), fun d hd => ?_⟩
    · have hk : ∀ n : Str, n ∈ PN ∨ n ∈ VN → n ≠ "self" ∧ n ≠ "weight" := fun n hn => by
        simp only [List.mem_cons, List.not_mem_nil, or_false] at hn
        rcases hn with (q | q | q | q | q) | (q | q | q | q | q | q) <;> subst q <;> exact ⟨by decide, by decide⟩
      exact hk _ (hin z hz)
    · obtain ⟨k, m, p, a, e, rfl, hp'⟩ := id hp
      have hxd : x ≠ d := ne_of_none hx hd
      have e1 : PN.map (fun k => (zs.lookup k).getD (.str "")) = [V.str k, .str m, .str p, .str a, .str e] := hps
      refine ⟨x, d, dx, wt, k, m, p, a, e, restK zs, ?_, hxd, by rw [upd_ne hxd]; exact hx, upd_same, h0, h9, hp, hs, (List.Sublist.map _ List.filter_sublist).nodup hnd, hne, Nat.le_trans (List.length_filter_le _ _) (Nat.le_trans hlen (by decide)), fun H' hk hR => kq H' (fun q o hq e => hk q o hq ?_) hR⟩
      · show V.ref x :: V.int wt :: (PN.map (fun k => (zs.lookup k).getD (.str "")) ++ [V.ref d]) = _
        rw [e1]
        rfl
      · rw [upd_ne (ne_of_none e hd)]
        exact e
  · have hk' : k ∈ PN := hk
    obtain ⟨t, ht⟩ := hdf k hk'
    rw [ht]
    exact ⟨rfl, t, rfl⟩
end
end Pa
set_option maxRecDepth 100000
set_option maxHeartbeats 4000000
namespace Pa
open PySem PySem.Spec PyProof.Rows L2 RZ StX
/-- pairs, each a tuple or a list -/
def SetsQ (K : PySem.W.Frag) (H : Hp) (rs : List Addr) (sets : List (Str × V)) : Prop := Paired (fun r x => Seq K H r [.str x.1, x.2]) rs sets
theorem SetsQ.ext {K : PySem.W.Frag} {H H' : Hp} {rs : List Addr} {sets : List (Str × V)} (h : SetsQ K H rs sets) (e : Ext H H') : SetsQ K H' rs sets := by
  unfold SetsQ at *
  induction h with
  | nil => exact .nil
  | cons a _ ih => exact .cons (Seq.ext a e) ih
theorem Sets.q {K : PySem.W.Frag} {H : Hp} {rs : List Addr} {sets : List (Str × V)} (h : Sets K H rs sets) : SetsQ K H rs sets := by
  unfold Sets at h
  unfold SetsQ
  induction h with
  | nil => exact .nil
  | cons a _ ih => exact .cons (.inl a) ih
theorem setsQ_at {K : PySem.W.Frag} {H : Hp} {rs : List Addr} {sets : List (Str × V)} (h : SetsQ K H rs sets) : ∀ {i : Nat} {x : V}, (rs.map V.ref)[i]? = some x → ∃ r y, x = .ref r ∧ sets[i]? = some y ∧ Seq K H r [.str y.1, y.2] := by
  unfold SetsQ at h
  induction h with
  | nil => intro i x e; simp at e
  | @cons r y _ _ a _ ih =>
    intro i x e
    cases i with
    | zero =>
      cases e
      exact ⟨r, y, rfl, rfl, a⟩
    | succ i => exact ih e
theorem pi_seq {X : Cx} {tg e : Expr} {t : TE} (h : PE X e t) : PI X tg e (iOr (iTup X.K t) (iList X.K t)) := PI.either (pi_tup h) (pi_list h)
theorem putK_new {kvs : List (Key × V)} {k : Key} {v : V} (h : k ∉ kvs.map (·.1)) : putK kvs k v = kvs ++ [(k, v)] := by
  unfold putK
  rw [if_neg]
  rw [List.any_eq_true]
  rintro ⟨x, hx, e⟩
  exact h (List.mem_map.mpr ⟨x, hx, of_decide_eq_true e⟩)
theorem all_true : ∀ n : Nat, (List.replicate n true).all id = true := fun n => by
  induction n with
  | zero => rfl
  | succ n ih => rw [List.replicate_succ, List.all_cons, ih]; rfl
theorem inr_app (l : List (Str × V)) (y : Str × V) : inr (l ++ (some y).toList) = inr l ++ [((Sum.inr y.1 : Key), y.2)] := by
  show List.map _ (l ++ [y]) = _
  rw [List.map_append]
  rfl
/-- what the pattern gives -/
abbrev patK (k m p a e : Str) : List (Str × V) := [("kind", .str k), ("mark", .str m), ("parent", .str p), ("above", .str a), ("elder", .str e)]
theorem rest_pat {k m p a e : Str} {sets : List (Str × V)} (h : SetsOk sets) : restK (patK k m p a e ++ sets) = sets := by
  unfold restK
  rw [List.filter_append]
  have e1 : (patK k m p a e).filter (fun x => !PN.contains x.1) = [] := rfl
  rw [e1, List.nil_append, List.filter_eq_self]
  intro x hx
  have := set_name (h x hx)
  simp only [List.mem_cons, List.not_mem_nil, or_false] at this
  rcases this with q | q | q | q | q | q <;> rw [q] <;> rfl
theorem nodup_pat {k m p a e : Str} {sets : List (Str × V)} (h : SetsOk sets) (hn : (sets.map (·.1)).Nodup) : ((patK k m p a e ++ sets).map (·.1)).Nodup := by
  rw [List.map_append, List.nodup_append]
  refine ⟨(show PN.Nodup by decide), hn, fun x hx y hy q => ?_⟩
  subst q
  obtain ⟨z, hz, rfl⟩ := List.mem_map.mp hy
  have h1 := set_name (h z hz)
  have hx' : z.1 ∈ PN := hx
  simp only [List.mem_cons, List.not_mem_nil, or_false] at h1 hx'
  rcases h1 with q | q | q | q | q | q <;> rw [q] at hx' <;> rcases hx' with r | r | r | r | r <;> exact absurd r (by decide)
theorem sqt_back {K : PySem.W.Frag} {H : Hp} {r g : Addr} {xs : List V} {kvs : List (Key × V)} (h : SqT K (upd H g (.dK kvs)) r xs) (hg : H g = none) : SqT K H r xs := by
  have ne : ∀ u, upd H g (.dK kvs) r = some u → (∀ ks, u ≠ .dK ks) → H r = some u := fun u e n => by
    by_cases q : r = g
    · subst q
      rw [upd_same] at e
      exact absurd (Option.some.inj e).symm (n _)
    · rw [upd_ne q] at e
      exact e
  rcases h with (h | ⟨ob, h⟩) | h
  · exact .inl (.inl (ne _ h fun _ q => nomatch q))
  · exact .inl (.inr ⟨ob, ne _ h fun _ q => nomatch q⟩)
  · exact .inr h
theorem sql_back {K : PySem.W.Frag} {H : Hp} {r g : Addr} {xs : List V} {kvs : List (Key × V)} (h : SqL K (upd H g (.dK kvs)) r xs) (hg : H g = none) : SqL K H r xs := by
  have ne : ∀ u, upd H g (.dK kvs) r = some u → (∀ ks, u ≠ .dK ks) → H r = some u := fun u e n => by
    by_cases q : r = g
    · subst q
      rw [upd_same] at e
      exact absurd (Option.some.inj e).symm (n _)
    · rw [upd_ne q] at e
      exact e
  rcases h with (h | ⟨ob, h⟩) | h
  · exact .inl (.inl (ne _ h fun _ q => nomatch q))
  · exact .inl (.inr ⟨ob, ne _ h fun _ q => nomatch q⟩)
  · exact .inr h
section
variable {P : Program} {w : World} {K : PySem.W.Frag} {mg : Str → Option Value} {base : Heap} {tv tp tk dl C : Addr}
def spMade (K : PySem.W.Frag) (C : Addr) : Sp := fun vs H Q _ => ∃ (pp st : Addr) (wt : Int) (ps : List Str) (rs : List Addr) (sets : List (Str × V)), vs = [.ref C, .int wt, .ref pp, .ref st] ∧ Seq K H pp (ps.map V.str) ∧ PatOk ps ∧ 0 ≤ wt ∧ wt ≤ 9 ∧
  Seq K H st (rs.map V.ref) ∧ SetsQ K H rs sets ∧ SetsOk sets ∧ (sets.map (·.1)).Nodup ∧ sets ≠ [] ∧ sets.length ≤ 10 ∧ ∀ x H', H x = none → Ext H H' → RuleAt K C H' x wt ps (ord sets) → Q (.ref x) H'
theorem lc_pairs {st : Addr} {s0 s1 s2 s4 s5 s6 s7 : Option V} {H : Hp} {rs : List Addr} {sets : List (Str × V)} {Q : VK} (hseq : Seq K H st (rs.map V.ref)) (hp : SetsQ K H rs sets) (hok : SetsOk sets) (hl : sets.length ≤ 10)
    (k : ∀ D H', H D = none → Ext H H' → H' D = some (.lst ((List.replicate rs.length true).map V.bl)) → Q (.ref D) H') :
    tLc (iOr (iTup K (tVar 3)) (iList K (tVar 3))) (gName 4) tYes (tCall (spIsPair K) [] E0 (tCons (tVar 4) tNil)) [4] [s0, s1, s2, some (.ref st), s4, s5, s6, s7] H Q := by
  rcases hseq with hq | hq
  · refine .inl ⟨_, rfl, st, rfl, ⟨_, hq⟩, fun D hD => lc_tup (xs := rs.map V.ref) (fun i H' => (∀ q u, q ≠ D → H q = some u → H' q = some u) ∧ H' D = some (.lst ((List.replicate i true).map V.bl))) ⟨fun q u hq e => by rw [upd_ne hq]; exact e, upd_same⟩ (fun i H' _ h => hq.ext fun q u e => h.1 q u (ne_of_none e hD) e) (fun i v H' hv h => ?_) (fun H' h => ?_)⟩
    · obtain ⟨hk1, hk2⟩ := h
      have ex : Ext H H' := fun q u e => hk1 q u (ne_of_none e hD) e
      obtain ⟨r, y, rfl, hy, hr⟩ := setsQ_at hp hv
      have hm : y ∈ sets := List.mem_of_getElem? hy
      have hi := (List.getElem?_eq_some_iff.mp hy).1
      refine ⟨rfl, _, rfl, r, y.1, y.2, rfl, hr.ext ex, set_name (hok y hm), fun H2 e2 => ⟨_, e2 _ _ hk2, ?_, fun q u hq e => ?_, ?_⟩⟩
      · rw [List.length_map, List.length_replicate]
        exact Nat.lt_of_lt_of_le (by omega : i < 1000) (by decide)
      · rw [upd_ne hq]
        exact e2 _ _ (hk1 q u hq e)
      · rw [upd_same, List.replicate_succ', List.map_append]
        rfl
    · obtain ⟨hk1, hk2⟩ := h
      rw [List.length_map] at hk2
      exact k D H' hD (fun q u e => hk1 q u (ne_of_none e hD) e) hk2
  · refine .inr ⟨_, rfl, st, rfl, ⟨_, hq⟩, fun D hD => lc_list (xs := rs.map V.ref) (fun i H' => (∀ q u, q ≠ D → H q = some u → H' q = some u) ∧ H' D = some (.lst ((List.replicate i true).map V.bl))) ⟨fun q u hq e => by rw [upd_ne hq]; exact e, upd_same⟩ (fun i H' _ h => hq.ext fun q u e => h.1 q u (ne_of_none e hD) e) (fun i v H' hv h => ?_) (fun H' h => ?_)⟩
    · obtain ⟨hk1, hk2⟩ := h
      have ex : Ext H H' := fun q u e => hk1 q u (ne_of_none e hD) e
      obtain ⟨r, y, rfl, hy, hr⟩ := setsQ_at hp hv
      have hm : y ∈ sets := List.mem_of_getElem? hy
      have hi := (List.getElem?_eq_some_iff.mp hy).1
      refine ⟨rfl, _, rfl, r, y.1, y.2, rfl, hr.ext ex, set_name (hok y hm), fun H2 e2 => ⟨_, e2 _ _ hk2, ?_, fun q u hq e => ?_, ?_⟩⟩
      · rw [List.length_map, List.length_replicate]
        exact Nat.lt_of_lt_of_le (by omega : i < 1000) (by decide)
      · rw [upd_ne hq]
        exact e2 _ _ (hk1 q u hq e)
      · rw [upd_same, List.replicate_succ', List.map_append]
        rfl
    · obtain ⟨hk1, hk2⟩ := h
      rw [List.length_map] at hk2
      exact k D H' hD (fun q u e => hk1 q u (ne_of_none e hD) e) hk2
abbrev sRule_made : Stmt := inClass (topS 13) 1
theorem scRule_made : FnScope ["cls", "weight", "pattern", "settings", "pair", "given", "name", "value"] ["cls", "weight", "pattern", "settings"] (defScope sRule_made) := ⟨rfl, rfl, rfl, by decide +kernel, rfl, by decide +kernel, by decide +kernel⟩
theorem ok_made {f fi : Addr} {fd : FuncData} (F : Fun K "made" "Rule.made" sRule_made f fd) (T : Txt K w mg tv tp tk dl C) (C_is_row : CallOk P w K mg base 1 "is_row" ["value"] (spIsRow K)) (C__is_pair : CallOk P w K mg base 2 "_is_pair" ["pair"] (spIsPair K))
    (M : Mk K C fi) (Fi : FnKw P w K mg base CX0 4 fi (spInitK K C)) : FnOk P w K mg base CX0 6 f fd ["cls", "weight", "pattern", "settings"] (spMade K C) := by
  refine F.ok scRule_made (fun vs H Q E h => ?_) (fun cdv A outer s H vs Q E hr h => ?_)
  · obtain ⟨pp, st, wt, ps, rs, sets, rfl, _⟩ := h
    rfl
  · obtain ⟨pp, st, wt, ps, rs, sets, rfl, hpp, hp, h0, h9, hst, hq, hok, hnd, hne, hlen, kq⟩ := h
    have hu := hu_of hr
    refine ⟨_, (pss_cons (ps_if (PW.pt (pw_or (pt_not (pt_val (pe_cc C_is_row (hr.mono (by decide)) (by rfl) (pa_cons (pv 2) pa_nil)))) (pw_or1 (pt_cmpR op_ne (pe_callB call_len_seq (by rfl) T.b_len PySem.boot_len (pa_cons (pv 2) pa_nil)) (pe_callB call_len_seq (by rfl) T.b_len PySem.boot_len (pa_cons (pe_glob (v := .ref tp) (by rfl) T.g_PATTERN_NAMES rfl) pa_nil)) (nomark _)))))
        (pss_one ps_never)
        pss_nil)
      (pss_cons (ps_if (PW.pt (pw_or (pt_not (pt_val (pe_cc C_is_row (hr.mono (by decide)) (by rfl) (pa_cons (pv 3) pa_nil)))) (pw_or1 (pt_not (pt_val (pe_callB (cr_all rfl) (by rfl) T.b_all (by decide +kernel) (pa_cons (pe_lc (own := [("pair", 4)]) (g := gName 4) (tt := tYes) rfl scRule_made.nd (pi_seq (pv 3)) (blkOk_by (N := ["cls", "weight", "pattern", "settings", "pair", "given", "name", "value"]) (sc := defScope sRule_made) (by decide +kernel)) (fun _ _ _ _ _ => (pg_name (i := 4) scRule_made.nd rfl (.inl rfl))) (fun _ _ _ _ _ => pts_nil) (fun _ _ _ _ _ => (pe_cc C__is_pair (hr.mono (by decide)) (by rfl) (pa_cons (pv 4) pa_nil)))) pa_nil)))))))
        (pss_one ps_never)
        pss_nil)
      (pss_cons (ps_set (i := 5) scRule_made.nd rfl (.inl rfl) (pe_dictzip rfl (by rfl) T.b_dict (by rfl) T.b_zip (pa_cons (pe_glob (v := .ref tp) (by rfl) T.g_PATTERN_NAMES rfl) (pa_cons (pv 2) pa_nil))))
      (pss_cons (ps_for PassesOwn.never rfl (pi_seq (pv 3)) (PG.either (pg_tup rfl (pgs_cons (pg_name (i := 6) scRule_made.nd rfl (.inl rfl)) (pgs_cons (pg_name (i := 7) scRule_made.nd rfl (.inl rfl)) pgs_nil))) (pg_unl rfl (pgs_cons (pg_name (i := 6) scRule_made.nd rfl (.inl rfl)) (pgs_cons (pg_name (i := 7) scRule_made.nd rfl (.inl rfl)) pgs_nil))))
        (pss_cons (ps_if (pt_cmp (pc_din hu (pv 6) (pv 5)))
          (pss_one ps_never)
          pss_nil)
        (pss_one (ps_dput hu (pv 5) (pv 6) (pv 7) rfl))))
      (pss_one (ps_ret (pe_clsKw (i := 0) M Fi (hr.mono (by decide)) rfl (.inl rfl) pass0 (pa_cons (pv 1) pa_nil) (pv 5)))))))), ?_⟩
    obtain ⟨k, m, p, a, el, rfl, hp'⟩ := id hp
    refine ⟨_, rfl, pp, _, rfl, hpp, fun H1 e1 => ⟨_, rfl, iteF ?_⟩⟩
    have hpp1 := hpp.ext e1
    refine ⟨_, rfl, pp, _, rfl, hpp1.symm, tp, _, rfl, .inr (T.pn _), rfl, _, rfl, iteF ?_⟩
    refine ⟨_, rfl, st, _, rfl, hst.ext e1, fun H2 e2 => ⟨_, rfl, iteF ?_⟩⟩
    have e12 := e1.trans e2
    unfold tNot tB tCB tCons tNil
    refine lc_pairs (hst.ext e12) (hq.ext e12) hok hlen fun D H3 hD e3 hl3 => ?_
    refine ⟨D, _, rfl, SqL.of hl3, _, rfl, ?_⟩
    rw [all_true]
    refine iteF ?_
    have e13 := e12.trans e3
    have hpp3 := hpp.ext e13
    have hst3 := hst.ext e13
    have hq3 := hq.ext e13
    refine ⟨_, rfl, tp, pp, PN, _, rfl, T.pn _, hpp3, rfl, (by decide), (by decide), (by decide), fun g hg => ?_⟩
    have eg := Ext.upd (o := .dK (inr (patK k m p a el))) hg
    have hstg := hst3.ext eg
    have hqg := hq3.ext eg
    have hrs : rs.length = sets.length := Paired.length hq
    rcases hstg with hs' | hs'
    · have hs0' : SqT K H3 st (rs.map V.ref) := sqt_back hs' hg
      refine .inl ⟨_, rfl, st, rfl, ⟨_, hs'⟩, ?_⟩
      refine for_tup (xs := rs.map V.ref) (fun i σ H' => (∀ q u, q ≠ g → H3 q = some u → H' q = some u) ∧ H' g = some (.dK (inr (patK k m p a el ++ sets.take i))) ∧ ∃ x4 x6 x7, σ = [some (.ref C), some (.int wt), some (.ref pp), some (.ref st), x4, some (.ref g), x6, x7]) ⟨fun q u hq e => by rw [upd_ne hq]; exact e, upd_same, _, _, _, rfl⟩
        (fun i σ H' _ h => hs0'.ext fun q u e => h.1 q u (ne_of_none e hg) e) (fun i v σ H' hv h => ?_) (fun σ H' h => ?_)
      · obtain ⟨hk1, hk2, x4, x6, x7, rfl⟩ := h
        obtain ⟨r, y, rfl, hy, hr⟩ := setsQ_at (hq3.ext fun q u e => hk1 q u (ne_of_none e hg) e) hv
        have hm : y ∈ sets := List.mem_of_getElem? hy
        have hi := (List.getElem?_eq_some_iff.mp hy).1
        have hnd2 := nodup_pat (k := k) (m := m) (p := p) (a := a) (e := el) hok hnd
        have hnew0 : y.1 ∉ (patK k m p a el ++ sets.take i).map (·.1) := fun hc => by
          have e4 : sets = sets.take i ++ y :: sets.drop (i + 1) := by
            rw [← List.getElem?_eq_some_iff.mp hy |>.2, List.getElem_cons_drop, List.take_append_drop]
          rw [e4, ← List.append_assoc, List.map_append, List.nodup_append] at hnd2
          exact hnd2.2.2 y.1 hc y.1 (by simp) rfl
        have hnew : (Sum.inr y.1 : Key) ∉ (inr (patK k m p a el ++ sets.take i)).map (·.1) := fun hc => by
          rw [List.map_map] at hc
          obtain ⟨z, hz, e5⟩ := List.mem_map.mp hc
          exact hnew0 (List.mem_map.mpr ⟨z, hz, Sum.inr.inj e5⟩)
        have hv0 : none = valV (inr (patK k m p a el ++ sets.take i)) (Sum.inr y.1) := by
          rw [val_inr]
          cases q : (patK k m p a el ++ sets.take i).lookup y.1 with
          | none => rfl
          | some v => exact absurd (List.mem_map_of_mem (f := (·.1)) (lookup_mem q)) hnew0
        have hsz : (inr (patK k m p a el ++ sets.take i)).length < sizeLine := by
          rw [List.length_map, List.length_append, List.length_take]
          exact Nat.lt_of_lt_of_le (by show 5 + _ < 1000; omega) (by decide)
        rcases hr with hr | hr
        · refine .inl ⟨r, _, rfl, hr, rfl, _, _, rfl, _, _, rfl, rfl, ?_⟩
          refine ⟨_, rfl, _, rfl, g, none, rfl, .inl ⟨_, Sum.inr y.1, .inl hk2, rfl, hv0⟩, _, rfl, iteF ?_⟩
          refine ⟨_, rfl, _, rfl, _, rfl, g, _, rfl, .inl ⟨_, Sum.inr y.1, hk2, rfl, hsz, rfl⟩, ?_⟩
          refine ⟨fun q u hq e => by rw [upd_ne hq]; exact hk1 q u hq e, ?_, _, _, _, rfl⟩
          rw [upd_same, putK_new hnew, List.take_add_one, hy, ← List.append_assoc]
          exact congrArg (fun z => some (HO.dK z)) (inr_app _ y).symm
        · refine .inr ⟨r, _, rfl, hr, rfl, _, _, rfl, _, _, rfl, rfl, ?_⟩
          refine ⟨_, rfl, _, rfl, g, none, rfl, .inl ⟨_, Sum.inr y.1, .inl hk2, rfl, hv0⟩, _, rfl, iteF ?_⟩
          refine ⟨_, rfl, _, rfl, _, rfl, g, _, rfl, .inl ⟨_, Sum.inr y.1, hk2, rfl, hsz, rfl⟩, ?_⟩
          refine ⟨fun q u hq e => by rw [upd_ne hq]; exact hk1 q u hq e, ?_, _, _, _, rfl⟩
          rw [upd_same, putK_new hnew, List.take_add_one, hy, ← List.append_assoc]
          exact congrArg (fun z => some (HO.dK z)) (inr_app _ y).symm
      · obtain ⟨hk1, hk2, x4, x6, x7, rfl⟩ := h
        rw [List.length_map, hrs, List.take_length] at hk2
        refine ⟨rfl, _, rfl, fun d hd => ⟨_, rfl, g, patK k m p a el ++ sets, rfl, ne_of_none hk2 hd, upd_same, by rw [upd_ne (ne_of_none hk2 hd)]; exact hk2, fun x dx hx hdx hne2 => ?_⟩⟩
        have hxd : x ≠ dx := Ne.symm hne2
        refine ⟨x, dx, wt, [k, m, p, a, el], rfl, nodup_pat hok hnd, fun z hz => ?_, ?_, upd_same, h0, h9, hp, rfl, ?_, ?_, fun H5 hk5 hR => ⟨rfl, ?_⟩⟩
        · rcases List.mem_append.mp hz with hz | hz
          · left
            have : z.1 ∈ (patK k m p a el).map (·.1) := List.mem_map_of_mem hz
            exact this
          · exact .inr (set_name (hok z hz))
        · rw [List.length_append]
          show 5 + sets.length ≤ 20
          omega
        · rw [rest_pat hok]
          exact hok
        · rw [rest_pat hok]
          exact hne
        · rw [rest_pat hok] at hR
          have k4 : Ext H H' := fun q u e => by
            have e6 := e13 q u e
            exact hk1 q u (ne_of_none e6 hg) e6
          have k5 : Ext H H5 := fun q u e => by
            have e7 := k4 q u e
            have e8 : upd (upd H' d (.dK [])) d (.dK (inr (patK k m p a el ++ sets))) q = some u := by rw [upd_ne (ne_of_none e7 hd), upd_ne (ne_of_none e7 hd)]; exact e7
            have hqx : q ≠ x := ne_of_none e8 hx
            have hqd : q ≠ dx := ne_of_none e8 hdx
            refine hk5 q u hqx ?_
            rw [upd_ne hqx, upd_ne hqd]
            exact e8
          refine kq x H5 ?_ k5 hR
          cases q : H x with
          | none => rfl
          | some u =>
            have e7 := k4 x u q
            have e8 : upd (upd H' d (.dK [])) d (.dK (inr (patK k m p a el ++ sets))) x = some u := by rw [upd_ne (ne_of_none e7 hd), upd_ne (ne_of_none e7 hd)]; exact e7
            rw [hx] at e8
            cases e8
    · have hs0' : SqL K H3 st (rs.map V.ref) := sql_back hs' hg
      refine .inr ⟨_, rfl, st, rfl, ⟨_, hs'⟩, ?_⟩
      refine for_list (xs := rs.map V.ref) (fun i σ H' => (∀ q u, q ≠ g → H3 q = some u → H' q = some u) ∧ H' g = some (.dK (inr (patK k m p a el ++ sets.take i))) ∧ ∃ x4 x6 x7, σ = [some (.ref C), some (.int wt), some (.ref pp), some (.ref st), x4, some (.ref g), x6, x7]) ⟨fun q u hq e => by rw [upd_ne hq]; exact e, upd_same, _, _, _, rfl⟩
        (fun i σ H' _ h => hs0'.ext fun q u e => h.1 q u (ne_of_none e hg) e) (fun i v σ H' hv h => ?_) (fun σ H' h => ?_)
      · obtain ⟨hk1, hk2, x4, x6, x7, rfl⟩ := h
        obtain ⟨r, y, rfl, hy, hr⟩ := setsQ_at (hq3.ext fun q u e => hk1 q u (ne_of_none e hg) e) hv
        have hm : y ∈ sets := List.mem_of_getElem? hy
        have hi := (List.getElem?_eq_some_iff.mp hy).1
        have hnd2 := nodup_pat (k := k) (m := m) (p := p) (a := a) (e := el) hok hnd
        have hnew0 : y.1 ∉ (patK k m p a el ++ sets.take i).map (·.1) := fun hc => by
          have e4 : sets = sets.take i ++ y :: sets.drop (i + 1) := by
            rw [← List.getElem?_eq_some_iff.mp hy |>.2, List.getElem_cons_drop, List.take_append_drop]
          rw [e4, ← List.append_assoc, List.map_append, List.nodup_append] at hnd2
          exact hnd2.2.2 y.1 hc y.1 (by simp) rfl
        have hnew : (Sum.inr y.1 : Key) ∉ (inr (patK k m p a el ++ sets.take i)).map (·.1) := fun hc => by
          rw [List.map_map] at hc
          obtain ⟨z, hz, e5⟩ := List.mem_map.mp hc
          exact hnew0 (List.mem_map.mpr ⟨z, hz, Sum.inr.inj e5⟩)
        have hv0 : none = valV (inr (patK k m p a el ++ sets.take i)) (Sum.inr y.1) := by
          rw [val_inr]
          cases q : (patK k m p a el ++ sets.take i).lookup y.1 with
          | none => rfl
          | some v => exact absurd (List.mem_map_of_mem (f := (·.1)) (lookup_mem q)) hnew0
        have hsz : (inr (patK k m p a el ++ sets.take i)).length < sizeLine := by
          rw [List.length_map, List.length_append, List.length_take]
          exact Nat.lt_of_lt_of_le (by show 5 + _ < 1000; omega) (by decide)
        rcases hr with hr | hr
        · refine .inl ⟨r, _, rfl, hr, rfl, _, _, rfl, _, _, rfl, rfl, ?_⟩
          refine ⟨_, rfl, _, rfl, g, none, rfl, .inl ⟨_, Sum.inr y.1, .inl hk2, rfl, hv0⟩, _, rfl, iteF ?_⟩
          refine ⟨_, rfl, _, rfl, _, rfl, g, _, rfl, .inl ⟨_, Sum.inr y.1, hk2, rfl, hsz, rfl⟩, ?_⟩
          refine ⟨fun q u hq e => by rw [upd_ne hq]; exact hk1 q u hq e, ?_, _, _, _, rfl⟩
          rw [upd_same, putK_new hnew, List.take_add_one, hy, ← List.append_assoc]
          exact congrArg (fun z => some (HO.dK z)) (inr_app _ y).symm
        · refine .inr ⟨r, _, rfl, hr, rfl, _, _, rfl, _, _, rfl, rfl, ?_⟩
          refine ⟨_, rfl, _, rfl, g, none, rfl, .inl ⟨_, Sum.inr y.1, .inl hk2, rfl, hv0⟩, _, rfl, iteF ?_⟩
          refine ⟨_, rfl, _, rfl, _, rfl, g, _, rfl, .inl ⟨_, Sum.inr y.1, hk2, rfl, hsz, rfl⟩, ?_⟩
          refine ⟨fun q u hq e => by rw [upd_ne hq]; exact hk1 q u hq e, ?_, _, _, _, rfl⟩
          rw [upd_same, putK_new hnew, List.take_add_one, hy, ← List.append_assoc]
          exact congrArg (fun z => some (HO.dK z)) (inr_app _ y).symm
      · obtain ⟨hk1, hk2, x4, x6, x7, rfl⟩ := h
        rw [List.length_map, hrs, List.take_length] at hk2
        refine ⟨rfl, _, rfl, fun d hd => ⟨_, rfl, g, patK k m p a el ++ sets, rfl, ne_of_none hk2 hd, upd_same, by rw [upd_ne (ne_of_none hk2 hd)]; exact hk2, fun x dx hx hdx hne2 => ?_⟩⟩
        have hxd : x ≠ dx := Ne.symm hne2
        refine ⟨x, dx, wt, [k, m, p, a, el], rfl, nodup_pat hok hnd, fun z hz => ?_, ?_, upd_same, h0, h9, hp, rfl, ?_, ?_, fun H5 hk5 hR => ⟨rfl, ?_⟩⟩
        · rcases List.mem_append.mp hz with hz | hz
          · left
            have : z.1 ∈ (patK k m p a el).map (·.1) := List.mem_map_of_mem hz
            exact this
          · exact .inr (set_name (hok z hz))
        · rw [List.length_append]
          show 5 + sets.length ≤ 20
          omega
        · rw [rest_pat hok]
          exact hok
        · rw [rest_pat hok]
          exact hne
        · rw [rest_pat hok] at hR
          have k4 : Ext H H' := fun q u e => by
            have e6 := e13 q u e
            exact hk1 q u (ne_of_none e6 hg) e6
          have k5 : Ext H H5 := fun q u e => by
            have e7 := k4 q u e
            have e8 : upd (upd H' d (.dK [])) d (.dK (inr (patK k m p a el ++ sets))) q = some u := by rw [upd_ne (ne_of_none e7 hd), upd_ne (ne_of_none e7 hd)]; exact e7
            have hqx : q ≠ x := ne_of_none e8 hx
            have hqd : q ≠ dx := ne_of_none e8 hdx
            refine hk5 q u hqx ?_
            rw [upd_ne hqx, upd_ne hqd]
            exact e8
          refine kq x H5 ?_ k5 hR
          cases q : H x with
          | none => rfl
          | some u =>
            have e7 := k4 x u q
            have e8 : upd (upd H' d (.dK [])) d (.dK (inr (patK k m p a el ++ sets))) x = some u := by rw [upd_ne (ne_of_none e7 hd), upd_ne (ne_of_none e7 hd)]; exact e7
            rw [hx] at e8
            cases e8
end
end Pa
set_option maxRecDepth 100000
set_option maxHeartbeats 4000000
namespace Pa
open PySem PySem.Spec PyProof.Rows L2 RZ StX
abbrev signsV (x : Str) : List V := x.cps.toList.map fun c => .str ⟨#[c]⟩
theorem vals_get : ∀ {xs : List V} {us : List Value}, xs.length = us.length → (∀ (j : Nat) x u, xs[j]? = some x → us[j]? = some u → RelV x u) → Vals xs us
  | [], [], _, _ => .nil
  | [], _ :: _, h, _ => nomatch h
  | _ :: _, [], h, _ => nomatch h
  | x :: xs, u :: us, h, k => .cons (k 0 x u rfl rfl) (vals_get (Nat.succ.inj h) fun j y v e1 e2 => k (j + 1) y v e1 e2)
theorem call_list_sg {X : Cx} (hc : X.calm = true) : CallR X (.type "list") (fun xs H Q => ∃ x : Str, xs = [.str x] ∧ x.cps.size ≤ sizeLine ∧ ∀ l, H l = none → Q (.ref l) (upd H l (.lst (signsV x)))) := by
  intro pins s σ H xs us Q I r h
  obtain ⟨x, rfl, hz, q⟩ := h
  obtain ⟨u, rfl, t, rfl⟩ := vals1 r
  refine call_list_str (I.ok.hd hc) x t (hn := hz) fun h' tk acc c' hk hS hacc => ?_
  have hv : Vals (signsV x) acc.toList := by
    refine vals_get (by rw [List.length_map, Array.length_toList, Array.length_toList, hacc.1]) fun j y v e1 e2 => ?_
    obtain ⟨c, u, hc, rfl⟩ := hacc.2 j v (by simpa using e2)
    rw [List.getElem?_map] at e1
    have e3 : x.cps.toList[j]? = some c := by simpa using hc
    rw [e3] at e1
    obtain rfl := Option.some.inj e1
    exact ⟨u, rfl⟩
  exact ⟨.ref s.heap.objs.size, _, I.laid (t' := tk) (o := .lst (signsV x)) hk (Nat.le_refl _) (show ObjOk X.prog X.w _ h' _ (.lst (signsV x)) from ⟨by rw [List.length_map, Array.length_toList]; exact hz, acc.toList, c', hv, by simpa using hS⟩), rfl, q _ (I.hok.fresh (Nat.le_refl _))⟩
section
variable {P : Program} {w : World} {K : PySem.W.Frag} {mg : Str → Option Value} {base : Heap} {tv tp tk dl C : Addr}
def spFew (K : PySem.W.Frag) : Sp := fun vs H Q _ => ∃ (a : Addr) (n : Int) (ns : List Int), vs = [.ref a, .int n] ∧ SqL K H a (ns.map V.int) ∧ 0 ≤ n ∧ n ≤ 100 ∧ ∀ j H', 0 ≤ j → j ≤ n → Ext H H' → Q (.int j) H'
abbrev sL_few : Stmt := topS 21
theorem scL_few : FnScope ["_law_script", "_law_many"] ["_law_script", "_law_many"] (defScope sL_few) := ⟨rfl, rfl, rfl, by decide +kernel, rfl, by decide +kernel, by decide +kernel⟩
theorem dp_ints {K : PySem.W.Frag} {H : Hp} : ∀ ns : List Int, DpAll K H (ns.map V.int) (ns.map PyData.int)
  | [] => .nil
  | n :: ns => .cons (.int n) (dp_ints ns)
theorem ok_few {f : Addr} {fd : FuncData} (F : Fun K "_law_few" "_law_few" sL_few f fd) (T : Txt K w mg tv tp tk dl C) : FnOk P w K mg base CX0 1 f fd ["_law_script", "_law_many"] (spFew K) := by
  refine F.ok scL_few (fun vs H Q E h => ?_) (fun cdv A outer s H vs Q E hr h => ?_)
  · obtain ⟨a, n, ns, rfl, _⟩ := h
    rfl
  · obtain ⟨a, n, ns, rfl, hs, h0, h1, k⟩ := h
    refine ⟨_, (pss_one (ps_ret (pe_ifExp (pt_cmpR (op_neD hr.units) (pv 0) (pe_lst pa_nil) (nomark _)) (pv 1) (pe_callB (call_min2 rfl) (by rfl) T.b_min (by decide +kernel) (pa_cons (pv 1) (pa_cons pe_int pa_nil)))))), ?_⟩
    refine ⟨_, rfl, (by show 0 ≤ sizeLine; decide), fun l hl => ?_⟩
    have e := Ext.upd (o := .lst []) hl
    refine ⟨_, _, .lst (SqL.ext hs e) (dp_ints ns), .lst (SqL.of upd_same) .nil, sh_lst (fun x _ => ⟨by rw [PyData.canLay0], by rw [PyData.depth]; exact Nat.zero_le _⟩), by simp [SeqAt.shaped, PyData.canLay0, PyData.canLayAll0, PyData.depth, PyData.depthAll], ?_⟩
    refine ⟨_, rfl, ite2 (fun _ => ⟨_, rfl, k n _ h0 (Int.le_refl _) e⟩) (fun _ => ⟨_, rfl, _, _, rfl, ?_⟩)⟩
    refine k _ _ ?_ ?_ e
    · split <;> omega
    · split <;> omega
def spAsk : Sp := fun vs H Q _ => ∃ (b : Addr) (sg : Str), vs = [.ref b, .str sg] ∧ IsBag H b ∧ (sg = "BAC" ∨ sg = "xy") ∧ ∀ s H', (sg = "BAC" → IsK s) → (sg = "xy" → IsM s) → Bk b H H' → Q (.str s) H'
abbrev sL_ask : Stmt := topS 22
theorem scL_ask : FnScope ["_law_bag_here", "_law_signs"] ["_law_bag_here", "_law_signs"] (defScope sL_ask) := ⟨rfl, rfl, rfl, by decide +kernel, rfl, by decide +kernel, by decide +kernel⟩
theorem ok_ask {f : Addr} {fd : FuncData} (F : Fun K "_law_ask" "_law_ask" sL_ask f fd) (T : Txt K w mg tv tp tk dl C) (C__law_draw : CallOk P w K mg base 1 "_law_draw" ["_law_bag_here", "_law_many"] spDraw) : FnOk P w K mg base CX0 2 f fd ["_law_bag_here", "_law_signs"] spAsk := by
  refine F.ok scL_ask (fun vs H Q E h => ?_) (fun cdv A outer s H vs Q E hr h => ?_)
  · obtain ⟨b, sg, rfl, _⟩ := h
    rfl
  · obtain ⟨b, sg, rfl, hb, hsg, k⟩ := h
    refine ⟨_, (pss_one (ps_ret (pe_ifExp (pt_cmpR op_lt (pe_cc C__law_draw (hr.mono (by decide)) (by rfl) (pa_cons (pv 0) (pa_cons pe_int pa_nil))) pe_int (nomark _)) pe_str (pe_ix ix_str (pv 1) (pe_cc C__law_draw (hr.mono (by decide)) (by rfl) (pa_cons (pv 0) (pa_cons (pe_callB call_len_str (by rfl) T.b_len PySem.boot_len (pa_cons (pv 1) pa_nil)) pa_nil))) (fun _ _ => rfl))))), ?_⟩
    refine ⟨_, rfl, b, 5, rfl, hb, by decide, by decide, fun d H1 h0 h1 B1 => ⟨_, _, rfl, rfl, _, rfl, ite2 (fun _ => ?_) (fun _ => ?_)⟩⟩
    · exact k "" _ (fun _ => .inl rfl) (fun _ => .inl rfl) B1
    · rcases hsg with rfl | rfl
      · refine ⟨_, rfl, _, rfl, _, rfl, _, rfl, by decide, b, 3, rfl, B1.bag, by decide, by decide, fun d2 H2 h2 h3 B2 => ?_⟩
        rcases (by omega : d2 = 0 ∨ d2 = 1 ∨ d2 = 2) with rfl | rfl | rfl
        · exact ⟨_, _, _, rfl, rfl, by decide, atI_nat (j := 0) rfl, k "B" _ (fun _ => .inr (.inr (.inl rfl))) (fun q => absurd q (by decide)) (B1.trans B2)⟩
        · exact ⟨_, _, _, rfl, rfl, by decide, atI_nat (j := 1) rfl, k "A" _ (fun _ => .inr (.inl rfl)) (fun q => absurd q (by decide)) (B1.trans B2)⟩
        · exact ⟨_, _, _, rfl, rfl, by decide, atI_nat (j := 2) rfl, k "C" _ (fun _ => .inr (.inr (.inr rfl))) (fun q => absurd q (by decide)) (B1.trans B2)⟩
      · refine ⟨_, rfl, _, rfl, _, rfl, _, rfl, by decide, b, 2, rfl, B1.bag, by decide, by decide, fun d2 H2 h2 h3 B2 => ?_⟩
        rcases (by omega : d2 = 0 ∨ d2 = 1) with rfl | rfl
        · exact ⟨_, _, _, rfl, rfl, by decide, atI_nat (j := 0) rfl, k "x" _ (fun q => absurd q (by decide)) (fun _ => .inr (.inl rfl)) (B1.trans B2)⟩
        · exact ⟨_, _, _, rfl, rfl, by decide, atI_nat (j := 1) rfl, k "y" _ (fun q => absurd q (by decide)) (fun _ => .inr (.inr rfl)) (B1.trans B2)⟩
def spSet0 : Sp := fun vs H Q _ => ∃ (b : Addr) (n : Str), vs = [.ref b, .str n, .int 6] ∧ IsBag H b ∧ n ∈ VN ∧ ∀ v H', SetOk n v → Bk b H H' → Q v H'
abbrev sL_setting : Stmt := topS 23
theorem scL_setting : FnScope ["_law_bag_here", "_law_name", "_law_widest"] ["_law_bag_here", "_law_name", "_law_widest"] (defScope sL_setting) := ⟨rfl, rfl, rfl, by decide +kernel, rfl, by decide +kernel, by decide +kernel⟩
theorem ok_set0 {f : Addr} {fd : FuncData} (F : Fun K "_law_setting" "_law_setting" sL_setting f fd) (C__law_draw : CallOk P w K mg base 1 "_law_draw" ["_law_bag_here", "_law_many"] spDraw) : FnOk P w K mg base CX0 2 f fd ["_law_bag_here", "_law_name", "_law_widest"] spSet0 := by
  refine F.ok scL_setting (fun vs H Q E h => ?_) (fun cdv A outer s H vs Q E hr h => ?_)
  · obtain ⟨b, n, rfl, _⟩ := h
    rfl
  · obtain ⟨b, n, rfl, hb, hn, k⟩ := h
    refine ⟨_, (pss_cons (ps_if (pt_cmpR op_eq (pv 1) pe_str (nomark _))
        (pss_one (ps_ret (pe_cc C__law_draw (hr.mono (by decide)) (by rfl) (pa_cons (pv 0) (pa_cons pe_int pa_nil)))))
        pss_nil)
      (pss_cons (ps_if (pt_cmpR op_eq (pv 1) pe_str (nomark _))
        (pss_one (ps_ret (pe_op op_add pe_int (pe_cc C__law_draw (hr.mono (by decide)) (by rfl) (pa_cons (pv 0) (pa_cons (pv 2) pa_nil))))))
        pss_nil)
      (pss_cons (ps_if (pt_cmpR op_eq (pv 1) pe_str (nomark _))
        (pss_one (ps_ret (pe_cc C__law_draw (hr.mono (by decide)) (by rfl) (pa_cons (pv 0) (pa_cons pe_int pa_nil)))))
        pss_nil)
      (pss_one (ps_ret (pe_cmpR op_gt (pe_cc C__law_draw (hr.mono (by decide)) (by rfl) (pa_cons (pv 0) (pa_cons pe_int pa_nil))) pe_int (nomark _))))))), ?_⟩
    have ds : ∀ x : Str, decide (V.str n = V.str x) = decide (n = x) := fun x => by simp
    refine ⟨_, rfl, rfl, _, rfl, ?_⟩
    show if decide (V.str n = V.str "face") = true then _ else _
    rw [ds]
    by_cases q1 : n = "face"
    · rw [decide_eq_true q1]
      exact iteT ⟨_, rfl, b, 2, rfl, hb, by decide, by decide, fun d H1 h0 h1 B1 => k _ _ (.inl ⟨q1, d, rfl, h0, by omega⟩) B1⟩
    rw [decide_eq_false q1]
    refine iteF ⟨_, rfl, rfl, _, rfl, ?_⟩
    show if decide (V.str n = V.str "measure") = true then _ else _
    rw [ds]
    by_cases q2 : n = "measure"
    · rw [decide_eq_true q2]
      exact iteT ⟨_, rfl, _, rfl, b, 6, rfl, hb, by decide, by decide, fun d H1 h0 h1 B1 => ⟨_, _, rfl, rfl, k _ _ (.inr (.inl ⟨q2, 1 + d, rfl, by omega, by omega⟩)) B1⟩⟩
    rw [decide_eq_false q2]
    refine iteF ⟨_, rfl, rfl, _, rfl, ?_⟩
    show if decide (V.str n = V.str "space") = true then _ else _
    rw [ds]
    by_cases q3 : n = "space"
    · rw [decide_eq_true q3]
      exact iteT ⟨_, rfl, b, 3, rfl, hb, by decide, by decide, fun d H1 h0 h1 B1 => k _ _ (.inr (.inr (.inl ⟨q3, d, rfl, h0, by omega⟩))) B1⟩
    rw [decide_eq_false q3]
    refine iteF ⟨_, rfl, b, 3, rfl, hb, by decide, by decide, fun d H1 h0 h1 B1 => ⟨_, _, rfl, rfl, k _ _ (.inr (.inr (.inr ⟨?_, _, rfl⟩))) B1⟩⟩
    simp only [List.mem_cons, List.not_mem_nil, or_false] at hn
    rcases hn with q | q | q | q | q | q
    · exact absurd q q1
    · exact absurd q q2
    · exact absurd q q3
    · exact .inl q
    · exact .inr (.inl q)
    · exact .inr (.inr q)
end
end Pa
set_option maxRecDepth 100000
set_option maxHeartbeats 4000000
namespace Pa
open PySem PySem.Spec PyProof.Rows L2 RZ StX
theorem IsBag.lst {H : Hp} {b : Addr} (h : IsBag H b) : ∃ xs, H b = some (.lst xs) := by
  obtain ⟨g, x, c, e⟩ := h
  exact ⟨_, e⟩
theorem Bk.T {K : PySem.W.Frag} {b p : Addr} {H H' : Hp} {xs : List V} (B : Bk b H H') (hb : IsBag H b) (h : SqT K H p xs) : SqT K H' p xs := by
  obtain ⟨ys, hb⟩ := hb.lst
  rcases h with (h | ⟨o, h⟩) | h
  · exact .inl (.inl (B.keep _ _ (fun q => by rw [q, hb] at h; cases h) h))
  · exact .inl (.inr ⟨o, B.keep _ _ (fun q => by rw [q, hb] at h; cases h) h⟩)
  · exact .inr h
theorem Bk.S {K : PySem.W.Frag} {b : Addr} {H H' : Hp} {rs : List Addr} {sets : List (Str × V)} (B : Bk b H H') (hb : IsBag H b) (h : Sets K H rs sets) : Sets K H' rs sets := by
  unfold Sets at *
  induction h with
  | nil => exact .nil
  | cons a _ ih => exact .cons (B.T hb a) ih
theorem Bk.put {b D : Addr} {H H' : Hp} {o : HO} (B : Bk b H H') (hD : H D = none) (hn : D ≠ b) : Bk b H (upd H' D o) := by
  obtain ⟨⟨g, y, c, e⟩, kp⟩ := B
  exact ⟨⟨g, y, c, by rw [upd_ne (Ne.symm hn)]; exact e⟩, fun q u hq eq => by rw [upd_ne (ne_of_none eq hD)]; exact kp q u hq eq⟩
theorem Bk.of {b : Addr} {H H' : Hp} (hb : IsBag H b) (e : Ext H H') : Bk b H H' := by
  obtain ⟨g, y, c, h⟩ := hb
  exact ⟨⟨g, y, c, e _ _ h⟩, fun q o _ h => e q o h⟩
theorem fm_congr {α β : Type} {f g : α → Option β} : ∀ {l : List α}, (∀ x ∈ l, f x = g x) → l.filterMap f = l.filterMap g
  | [], _ => rfl
  | x :: l, h => by
    rw [List.filterMap_cons, List.filterMap_cons, h x List.mem_cons_self, fm_congr fun y hy => h y (List.mem_cons_of_mem _ hy)]
theorem fresh_ne {H : Hp} {b p : Addr} (hb : IsBag H b) (h : H p = none) : p ≠ b := fun q => by
  obtain ⟨ys, e⟩ := hb.lst
  rw [q, e] at h
  cases h
theorem inV_int (n : Int) : ∀ l : List Int, inV (.int n) (l.map V.int) = decide (n ∈ l)
  | [] => rfl
  | x :: l => by
    have ih := inV_int n l
    unfold inV at ih ⊢
    rw [List.map_cons, List.any_cons, ih]
    by_cases e : x = n
    · subst e
      simp [eqV]
    · have e2 : ¬ n = x := fun q => e q.symm
      simp [eqV, e, e2]
/-- the names in their order -/
def Sub (sets : List (Str × V)) : Prop := (sets.map (·.1)).Sublist VN
theorem ordN_sub : ∀ {ns : List Str} {sets : List (Str × V)}, ns.Nodup → (sets.map (·.1)).Sublist ns → ordN ns sets = sets
  | [], sets, _, h => by
    cases sets with
    | nil => rfl
    | cons x s => cases h
  | n :: ns, sets, hn, h => by
    obtain ⟨n1, n2⟩ := List.nodup_cons.mp hn
    cases sets with
    | nil =>
      have := ordN_sub (sets := []) n2 (List.nil_sublist _)
      unfold ordN at this ⊢
      rw [List.filterMap_cons]
      simpa using this
    | cons x s =>
      rw [List.map_cons] at h
      by_cases e : x.1 = n
      · have h2 : (s.map (·.1)).Sublist ns := by
          rw [e] at h
          exact List.cons_sublist_cons.mp h
        have ih := ordN_sub n2 h2
        unfold ordN at ih ⊢
        have e0 : ((x :: s).lookup n) = some x.2 := by
          rw [List.lookup_cons, ← e, beq_self_eq_true]
        rw [List.filterMap_cons, e0]
        show (n, x.2) :: _ = _
        rw [← e]
        congr 1
        have e3 : ns.filterMap (fun m => ((x :: s).lookup m).map fun v => (m, v)) = ns.filterMap (fun m => (s.lookup m).map fun v => (m, v)) := by
          refine fm_congr fun m hm => ?_
          have ne : (m == x.1) = false := beq_eq_false_iff_ne.mpr fun q => n1 (by rw [← e, ← q]; exact hm)
          rw [List.lookup_cons, ne]
        rw [e3]
        exact ih
      · have h2 : ((x :: s).map (·.1)).Sublist ns := by
          rw [List.map_cons]
          cases h with
          | cons _ h => exact h
          | cons_cons _ h => exact absurd rfl e
        have ih := ordN_sub n2 h2
        unfold ordN at ih ⊢
        have e0 : (x :: s).lookup n = none := by
          cases q : (x :: s).lookup n with
          | none => rfl
          | some v => exact absurd (h2.subset (List.mem_map_of_mem (f := (·.1)) (lookup_mem q))) n1
        rw [List.filterMap_cons, e0]
        exact ih
theorem ord_sub {sets : List (Str × V)} (h : Sub sets) : ord sets = sets := ordN_sub (by decide) h
theorem Sub.nodup {sets : List (Str × V)} (h : Sub sets) : (sets.map (·.1)).Nodup := List.Sublist.nodup h (by decide)
theorem Sub.len {sets : List (Str × V)} (h : Sub sets) : sets.length ≤ 6 := by
  have := h.length_le
  rwa [List.length_map] at this
/-- a row as data -/
structure RowAt (K : PySem.W.Frag) (H : Hp) (p : Addr) (w : Int) (ps : List Str) (sets : List (Str × V)) : Prop where
  ex : ∃ pt st rs, SqT K H p [.int w, .ref pt, .ref st] ∧ SqT K H pt (ps.map V.str) ∧ SqT K H st (rs.map V.ref) ∧ Sets K H rs sets
structure Good (w : Int) (ps : List Str) (sets : List (Str × V)) : Prop where
  w0 : 0 ≤ w
  w9 : w ≤ 9
  ps : PatOk ps
  ok : SetsOk sets
  sub : Sub sets
  ne : sets ≠ []
theorem RowAt.bk {K : PySem.W.Frag} {H H' : Hp} {b p : Addr} {w : Int} {ps : List Str} {sets : List (Str × V)} (h : RowAt K H p w ps sets) (hb : IsBag H b) (B : Bk b H H') : RowAt K H' p w ps sets := by
  obtain ⟨pt, st, rs, h1, h2, h3, h4⟩ := h.ex
  exact ⟨pt, st, rs, B.T hb h1, B.T hb h2, B.T hb h3, B.S hb h4⟩
theorem RowAt.ext {K : PySem.W.Frag} {H H' : Hp} {p : Addr} {w : Int} {ps : List Str} {sets : List (Str × V)} (h : RowAt K H p w ps sets) (e : Ext H H') : RowAt K H' p w ps sets := by
  obtain ⟨pt, st, rs, h1, h2, h3, h4⟩ := h.ex
  exact ⟨pt, st, rs, h1.ext e, h2.ext e, h3.ext e, h4.ext e⟩
section
variable {P : Program} {w : World} {K : PySem.W.Frag} {mg : Str → Option Value} {base : Heap} {tv tp tk dl C : Addr}
def spRow (K : PySem.W.Frag) : Sp := fun vs H Q _ => ∃ b : Addr, vs = [.ref b, .str "BAC", .int 6] ∧ IsBag H b ∧ ∀ p H' wt ps sets, Good wt ps sets → Bk b H H' → RowAt K H' p wt ps sets → Q (.ref p) H'
abbrev sL_rule_row : Stmt := topS 24
theorem scL_rule_row : FnScope ["_law_bag_here", "_law_kinds", "_law_widest", "_law_weight", "_law_pattern", "_law_names", "_law_chosen", "_law_turn", "_law_settings", "_law_at"] ["_law_bag_here", "_law_kinds", "_law_widest"] (defScope sL_rule_row) := ⟨rfl, rfl, rfl, by decide +kernel, rfl, by decide +kernel, by decide +kernel⟩
theorem four {d : Int} (h0 : 0 ≤ d) (h1 : d < 4) : ∃ z : Int, atI [V.int 1, .int 2, .int 0, .int 9] d = some (.int z) ∧ 0 ≤ z ∧ z ≤ 9 := by
  rcases (by omega : d = 0 ∨ d = 1 ∨ d = 2 ∨ d = 3) with rfl | rfl | rfl | rfl
  · exact ⟨1, atI_nat (j := 0) rfl, by decide, by decide⟩
  · exact ⟨2, atI_nat (j := 1) rfl, by decide, by decide⟩
  · exact ⟨0, atI_nat (j := 2) rfl, by decide, by decide⟩
  · exact ⟨9, atI_nat (j := 3) rfl, by decide, by decide⟩
theorem ok_row {f : Addr} {fd : FuncData} (F : Fun K "_law_rule_row" "_law_rule_row" sL_rule_row f fd) (T : Txt K w mg tv tp tk dl C) (C__law_draw : CallOk P w K mg base 1 "_law_draw" ["_law_bag_here", "_law_many"] spDraw) (C__law_ask : CallOk P w K mg base 2 "_law_ask" ["_law_bag_here", "_law_signs"] spAsk)
    (C__law_setting : CallOk P w K mg base 2 "_law_setting" ["_law_bag_here", "_law_name", "_law_widest"] spSet0) : FnOk P w K mg base CX0 3 f fd ["_law_bag_here", "_law_kinds", "_law_widest"] (spRow K) := by
  refine F.ok scL_rule_row (fun vs H Q E h => ?_) (fun cdv A outer s H vs Q E hr h => ?_)
  · obtain ⟨b, rfl, _⟩ := h
    rfl
  · obtain ⟨b, rfl, hb, k⟩ := h
    refine ⟨_, (pss_cons (ps_set (i := 3) scL_rule_row.nd rfl (.inl rfl) (pe_ifExp (pt_cmpR op_gt (pe_cc C__law_draw (hr.mono (by decide)) (by rfl) (pa_cons (pv 0) (pa_cons pe_int pa_nil))) pe_int (nomark _)) (pe_ix ix_list (pe_lst (pa_cons pe_int (pa_cons pe_int (pa_cons pe_int (pa_cons pe_int pa_nil))))) (pe_cc C__law_draw (hr.mono (by decide)) (by rfl) (pa_cons (pv 0) (pa_cons pe_int pa_nil))) (fun _ _ => rfl)) (pe_cc C__law_draw (hr.mono (by decide)) (by rfl) (pa_cons (pv 0) (pa_cons pe_int pa_nil)))))
      (pss_cons (ps_set (i := 4) scL_rule_row.nd rfl (.inl rfl) (pe_tup (pa_cons (pe_cc C__law_ask (hr.mono (by decide)) (by rfl) (pa_cons (pv 0) (pa_cons (pv 1) pa_nil))) (pa_cons (pe_cc C__law_ask (hr.mono (by decide)) (by rfl) (pa_cons (pv 0) (pa_cons pe_str pa_nil))) (pa_cons (pe_cc C__law_ask (hr.mono (by decide)) (by rfl) (pa_cons (pv 0) (pa_cons (pv 1) pa_nil))) (pa_cons (pe_cc C__law_ask (hr.mono (by decide)) (by rfl) (pa_cons (pv 0) (pa_cons pe_str pa_nil))) pa_nil))))))
      (pss_cons (ps_set (i := 4) scL_rule_row.nd rfl (.inl rfl) (pe_op op_catA (pv 4) (pe_tup (pa_cons (pe_cc C__law_ask (hr.mono (by decide)) (by rfl) (pa_cons (pv 0) (pa_cons (pv 1) pa_nil))) pa_nil))))
      (pss_cons (ps_set (i := 5) scL_rule_row.nd rfl (.inr rfl) (pe_lst (pa_cons pe_str (pa_cons pe_str (pa_cons pe_str (pa_cons pe_str (pa_cons pe_str (pa_cons pe_str pa_nil))))))))
      (pss_cons (ps_set (i := 6) scL_rule_row.nd rfl (.inr rfl) (pe_lc (own := [("_law_turn", 7)]) (g := gName 7) (tt := tYes) rfl scL_rule_row.nd (pi_range1 (by rfl) T.b_range (pa_cons (pe_op op_add pe_int (pe_cc C__law_draw (hr.mono (by decide)) (by rfl) (pa_cons (pv 0) (pa_cons pe_int pa_nil)))) pa_nil)) (blkOk_by (N := ["_law_bag_here", "_law_kinds", "_law_widest", "_law_weight", "_law_pattern", "_law_names", "_law_chosen", "_law_turn", "_law_settings", "_law_at"]) (sc := defScope sL_rule_row) (by decide +kernel)) (fun _ _ _ _ _ => (pg_name (i := 7) scL_rule_row.nd rfl (.inl rfl))) (fun _ _ _ _ _ => pts_nil) (fun _ _ _ _ _ => (pe_cc C__law_draw (hr.mono (by decide)) (by rfl) (pa_cons (pv 0) (pa_cons pe_int pa_nil))))))
      (pss_cons (ps_if (pt_cmpR op_eq (pe_cc C__law_draw (hr.mono (by decide)) (by rfl) (pa_cons (pv 0) (pa_cons pe_int pa_nil))) pe_int (nomark _))
        (pss_one (ps_set (i := 6) scL_rule_row.nd rfl (.inr rfl) (pe_lst (pa_cons pe_int (pa_cons pe_int (pa_cons pe_int (pa_cons pe_int (pa_cons pe_int (pa_cons pe_int pa_nil)))))))))
        pss_nil)
      (pss_cons (ps_setLc (i := 8) (own := [("_law_at", 9)]) (g := gName 9) rfl scL_rule_row.nd rfl rfl (sw_true rfl rfl rfl (by decide +kernel)) (pi_range1 (by rfl) T.b_range (pa_cons pe_int pa_nil)) (blkOk_by (N := ["_law_bag_here", "_law_kinds", "_law_widest", "_law_weight", "_law_pattern", "_law_names", "_law_chosen", "_law_turn", "_law_settings", "_law_at"]) (sc := defScope sL_rule_row) (by decide +kernel)) (fun _ _ _ _ _ => (pg_name (i := 9) scL_rule_row.nd rfl (.inl rfl))) (fun _ _ _ _ _ => (pts_one (pt_cmpR (r := rIn K false) op_in_seq (pv 9) (pv 6) (by rfl)))) (fun _ _ _ _ _ => (pe_tup (pa_cons (pe_ix (r := rIxL K) ix_list (pv 5) (pv 9) (fun _ _ => rfl)) (pa_cons (pe_cc C__law_setting (hr.mono (by decide)) (by rfl) (pa_cons (pv 0) (pa_cons (pe_ix (r := rIxL K) ix_list (pv 5) (pv 9) (fun _ _ => rfl)) (pa_cons (pv 2) pa_nil)))) pa_nil)))))
      (pss_one (ps_ret (pe_tup (pa_cons (pv 3) (pa_cons (pv 4) (pa_cons (pe_callTy call_tuple_of (by rfl) T.b_tuple (by decide +kernel) (pa_cons (pv 8) pa_nil)) pa_nil))))))))))))), ?_⟩
    refine join1 (α := { p : Int × Hp // 0 ≤ p.1 ∧ p.1 ≤ 9 ∧ Bk b H p.2 }) (G := ?G) (fun rest => ?br) (fun y => ?fin)
    case br =>
      refine ⟨_, rfl, b, 3, rfl, hb, by decide, by decide, fun d H1 h0 h1 B1 => ⟨_, _, rfl, rfl, _, rfl, ite2 (fun _ => ?_) (fun _ => ?_)⟩⟩
      · refine ⟨(by show 4 ≤ sizeLine; decide), fun l hl => ?_⟩
        have B2 := B1.fresh (o := .lst [.int 1, .int 2, .int 0, .int 9]) hl
        refine ⟨_, rfl, b, 4, rfl, B2.bag, by decide, by decide, fun d2 H2 h2 h3 B3 => ?_⟩
        obtain ⟨z, hz, z0, z9⟩ := four h2 h3
        have hlb : l ≠ b := fun q => by
          obtain ⟨ys, e⟩ := B1.bag.lst
          rw [q, e] at hl
          cases hl
        refine ⟨l, _, _, _, rfl, rfl, SqL.of (B3.keep _ _ hlb upd_same), hz, ?_⟩
        obtain ⟨y, e1, e2⟩ : ∃ y : { p : Int × Hp // 0 ≤ p.1 ∧ p.1 ≤ 9 ∧ Bk b H p.2 }, z = y.1.1 ∧ H2 = y.1.2 := ⟨⟨(z, H2), z0, z9, B2.trans B3⟩, rfl, rfl⟩
        rw [e1, e2]
        exact rest y
      · refine ⟨_, rfl, b, 10, rfl, B1.bag, by decide, by decide, fun d2 H2 h2 h3 B3 => ?_⟩
        obtain ⟨y, e1, e2⟩ : ∃ y : { p : Int × Hp // 0 ≤ p.1 ∧ p.1 ≤ 9 ∧ Bk b H p.2 }, d2 = y.1.1 ∧ H2 = y.1.2 := ⟨⟨(d2, H2), h2, by show d2 ≤ 9; omega, B1.trans B3⟩, rfl, rfl⟩
        rw [e1, e2]
        exact rest y
    case fin =>
      obtain ⟨⟨wt, Hw⟩, w0, w9, Bw⟩ := y
      simp only at w0 w9 Bw
      refine ⟨_, rfl, _, rfl, b, "BAC", rfl, Bw.bag, .inl rfl, fun s1 H1 q1 _ B1 => ?_⟩
      refine ⟨_, rfl, b, "xy", rfl, B1.bag, .inr rfl, fun s2 H2 _ q2 B2 => ?_⟩
      refine ⟨_, rfl, _, rfl, b, "BAC", rfl, B2.bag, .inl rfl, fun s3 H3 q3 _ B3 => ?_⟩
      refine ⟨_, rfl, b, "xy", rfl, B3.bag, .inr rfl, fun s4 H4 _ q4 B4 => ?_⟩
      refine ⟨(by show 4 ≤ sizeLine; decide), fun t ht => ?_⟩
      have B04 := (((Bw.trans B1).trans B2).trans B3).trans B4
      have B05 := B04.fresh (o := .tup [.str s1, .str s2, .str s3, .str s4]) ht
      refine ⟨_, rfl, _, rfl, _, rfl, b, "BAC", rfl, B05.bag, .inl rfl, fun s5 H5 q5 _ B5 => ⟨(by show 1 ≤ sizeLine; decide), fun t2 ht2 => ?_⟩⟩
      have ht5 := B5.T (K := K) B05.bag (SqT.of upd_same)
      refine ⟨t, t2, _, _, rfl, rfl, ht5.ext (Ext.upd ht2), SqT.of upd_same, (by show 4 + 1 ≤ sizeLine; decide), (fun z => nomatch z), (fun _ z => nomatch z), fun _ _ pt hpt => ?_⟩
      refine ⟨(by show 6 ≤ sizeLine; decide), fun nm hnm => ?_⟩
      have B06 := ((B05.trans B5).fresh (o := .tup [.str s5]) ht2).fresh (o := .tup [.str s1, .str s2, .str s3, .str s4, .str s5]) hpt
      have hpat : SqT K (upd (upd H5 t2 (.tup [.str s5])) pt (.tup [.str s1, .str s2, .str s3, .str s4, .str s5])) pt ([s1, s2, s3, s4, s5].map V.str) := SqT.of upd_same
      have B07 := B06.fresh (o := .lst (VN.map V.str)) hnm
      have hpat7 := hpat.ext (Ext.upd (o := .lst (VN.map V.str)) hnm)
      have hnm7 : upd (upd (upd H5 t2 (.tup [.str s5])) pt (.tup [.str s1, .str s2, .str s3, .str s4, .str s5])) nm (.lst (VN.map V.str)) nm = some (.lst (VN.map V.str)) := upd_same
      have hnb : nm ≠ b := fresh_ne B06.bag hnm
      change tSeq _ _ _ _ (upd (upd (upd H5 t2 (.tup [.str s5])) pt (.tup [.str s1, .str s2, .str s3, .str s4, .str s5])) nm (.lst (VN.map V.str)))
      generalize upd (upd (upd H5 t2 (.tup [.str s5])) pt (.tup [.str s1, .str s2, .str s3, .str s4, .str s5])) nm (.lst (VN.map V.str)) = Hn at B07 hpat7 hnm7 ⊢
      refine join1 (α := { p : Addr × List Int × Hp // Bk b Hn p.2.2 ∧ p.1 ≠ b ∧ p.2.2 p.1 = some (.lst (p.2.1.map V.int)) ∧ p.2.1 ≠ [] ∧ ∀ c ∈ p.2.1, (0 : Int) ≤ c ∧ c < 6 }) (G := ?G2) (fun rest => ?br2) (fun y => ?fin2)
      case br2 =>
        refine ⟨_, rfl, b, 2, rfl, B07.bag, by decide, by decide, fun d6 H6 e0 e1 B6 => ⟨_, _, rfl, rfl, 1 + d6, rfl, by omega, by omega, fun D hD => ?_⟩⟩
        have hDb : D ≠ b := fresh_ne B6.bag hD
        refine lc_range (lo := 0) (n := (1 + d6).toNat) (fun i H' => ∃ cs : List Int, cs.length = i ∧ (∀ c ∈ cs, (0 : Int) ≤ c ∧ c < 6) ∧ Bk b H6 H' ∧ H' D = some (.lst (cs.map V.int))) ⟨[], rfl, (fun c hc => nomatch hc), (Bk.of B6.bag Ext.rfl').put hD hDb, upd_same⟩ (fun i H' hi h => ?_) (fun H' h => ?_)
        · obtain ⟨cs, hl, hc, B, hd⟩ := h
          refine ⟨rfl, _, rfl, b, 6, rfl, B.bag, by decide, by decide, fun d H2 h0 h1 B2 => ⟨_, B2.keep _ _ hDb hd, ?_, cs ++ [d], ?_, fun c hc' => ?_, (B.trans B2).put hD hDb, ?_⟩⟩
          · rw [List.length_map, hl]
            exact Nat.lt_of_lt_of_le (by omega : i < 1000) (by decide)
          · rw [List.length_append, hl]
            rfl
          · rcases List.mem_append.mp hc' with q | q
            · exact hc c q
            · rw [List.mem_singleton.mp q]
              exact ⟨h0, h1⟩
          · rw [upd_same, List.map_append]
            rfl
        · obtain ⟨cs, hl, hc, B, hd⟩ := h
          refine ⟨_, rfl, b, 8, rfl, B.bag, by decide, by decide, fun d7 H7 f0 f1 B7 => ⟨rfl, _, rfl, ite2 (fun _ => ?tt) (fun _ => ?ff)⟩⟩
          case ff =>
            obtain ⟨y, e1, e2⟩ : ∃ y : { p : Addr × List Int × Hp // Bk b Hn p.2.2 ∧ p.1 ≠ b ∧ p.2.2 p.1 = some (.lst (p.2.1.map V.int)) ∧ p.2.1 ≠ [] ∧ ∀ c ∈ p.2.1, (0 : Int) ≤ c ∧ c < 6 }, D = y.1.1 ∧ H7 = y.1.2.2 :=
              ⟨⟨(D, cs, H7), (B6.trans B).trans B7, hDb, B7.keep _ _ hDb hd, (fun q => by rw [show cs = [] from q] at hl; simp at hl; omega), hc⟩, rfl, rfl⟩
            rw [e1, e2]
            exact rest y
          case tt =>
            refine ⟨(by show 6 ≤ sizeLine; decide), fun c6 hc6 => ?_⟩
            have hcb : c6 ≠ b := fresh_ne B7.bag hc6
            have BB := ((B6.trans B).trans B7).fresh (o := .lst (([0, 1, 2, 3, 4, 5] : List Int).map V.int)) hc6
            have hcc : upd H7 c6 (.lst (([0, 1, 2, 3, 4, 5] : List Int).map V.int)) c6 = some (.lst (([0, 1, 2, 3, 4, 5] : List Int).map V.int)) := upd_same
            obtain ⟨y, e1, e2⟩ : ∃ y : { p : Addr × List Int × Hp // Bk b Hn p.2.2 ∧ p.1 ≠ b ∧ p.2.2 p.1 = some (.lst (p.2.1.map V.int)) ∧ p.2.1 ≠ [] ∧ ∀ c ∈ p.2.1, (0 : Int) ≤ c ∧ c < 6 }, c6 = y.1.1 ∧ upd H7 c6 (.lst (([0, 1, 2, 3, 4, 5] : List Int).map V.int)) = y.1.2.2 :=
              ⟨⟨(c6, [0, 1, 2, 3, 4, 5], _), BB, hcb, hcc, (show ([0, 1, 2, 3, 4, 5] : List Int) ≠ [] by decide), (show ∀ c ∈ ([0, 1, 2, 3, 4, 5] : List Int), (0 : Int) ≤ c ∧ c < 6 by decide)⟩, rfl, rfl⟩
            have z := rest y
            rw [← e1, ← e2] at z
            exact z
      case fin2 =>
        obtain ⟨⟨cA, cs, H8⟩, B8, hcb, hc8, hcs, hcr⟩ := y
        simp only at B8 hcb hc8 hcs hcr
        have hnm8 := B8.keep _ _ hnb hnm7
        have hpat8 := B8.T (K := K) B07.bag hpat7
        refine ⟨6, rfl, by decide, by decide, fun L hL => ?_⟩
        have hLb : L ≠ b := fresh_ne B8.bag hL
        have hLn : nm ≠ L := ne_of_none hnm8 hL
        have hLc : cA ≠ L := ne_of_none hc8 hL
        refine lc_range (lo := 0) (n := 6) (fun i H' => ∃ (rs : List Addr) (sets : List (Str × V)), H' L = some (.lst (rs.map V.ref)) ∧ Sets K H' rs sets ∧ SetsOk sets ∧ (sets.map (·.1)).Sublist (VN.take i) ∧ (∀ c ∈ cs, c < (i : Int) → sets ≠ []) ∧ Bk b H8 H')
          ⟨[], [], upd_same, .nil, (fun x hx => nomatch hx), List.nil_sublist _, (fun c hc h => absurd (hcr c hc).1 (by omega)), (Bk.of B8.bag Ext.rfl').put hL hLb⟩ (fun i H' hi h => ?_) (fun H' h => ?_)
        · obtain ⟨rs, sets, hl, hS, hok, hsub, hne, B⟩ := h
          obtain ⟨n, hn⟩ : ∃ n, VN[i]? = some n := ⟨VN[i]'hi, List.getElem?_eq_getElem hi⟩
          have hnV : n ∈ VN := List.mem_of_getElem? hn
          have hn' : (VN.map V.str)[i]? = some (.str n) := by rw [List.getElem?_map, hn]; rfl
          have z0 : (0 : Int) + (i : Int) = (i : Int) := by omega
          have hnm' := B.keep _ _ hnb hnm8
          have hc' := B.keep _ _ hcb hc8
          have htk : VN.take (i + 1) = VN.take i ++ [n] := by rw [List.take_add_one, hn]; rfl
          refine ⟨rfl, _, rfl, _, rfl, cA, _, rfl, .inl (SqL.of hc'), rfl, by simp [flatV], ?_⟩
          refine ⟨_, rfl, ?_⟩
          show if inV (.int (0 + (i : Int))) (cs.map V.int) = true then _ else _
          rw [inV_int, z0]
          by_cases hm : (i : Int) ∈ cs
          · rw [decide_eq_true hm]
            refine iteT ?_
            refine ⟨_, rfl, _, rfl, nm, _, _, _, rfl, rfl, SqL.of hnm', atI_nat (j := i) hn', ?_⟩
            refine ⟨_, rfl, _, rfl, _, rfl, nm, _, _, _, rfl, rfl, SqL.of hnm', atI_nat (j := i) hn', _, rfl, b, n, rfl, B.bag, hnV, fun v H2 hv B2 => ⟨(by show 2 ≤ sizeLine; decide), fun t ht => ?_⟩⟩
            have hl2 := B2.keep _ _ hLb hl
            have htL : L ≠ t := ne_of_none hl2 ht
            refine ⟨_, by rw [upd_ne htL]; exact hl2, ?_, rs ++ [t], sets ++ [(n, v)], ?_, ?_, fun x hx => ?_, ?_, fun c _ _ q => ?_, ?_⟩
            · have h1 := Paired.length hS
              have h2 := hsub.length_le
              rw [List.length_map, List.length_take] at h2
              rw [List.length_map, h1]
              exact Nat.lt_of_le_of_lt (Nat.le_trans h2 (Nat.min_le_right _ _)) (by decide)
            · rw [upd_same, List.map_append]
              rfl
            · have h1 : Sets K (upd H2 t (.tup [.str n, v])) rs sets := (B2.S B.bag hS).ext (Ext.upd ht)
              exact sets_upd (u := .lst (rs.map V.ref)) (sets_app (x := (n, v)) h1 (SqT.of upd_same)) (by rw [upd_ne htL]; exact hl2) (fun _ q => nomatch q) fun _ _ q => nomatch q
            · rcases List.mem_append.mp hx with q | q
              · exact hok x q
              · rw [List.mem_singleton.mp q]
                exact hv
            · rw [htk, List.map_append]
              exact List.Sublist.append hsub (List.Sublist.refl _)
            · simp at q
            · exact ((B.trans B2).fresh ht).put hL hLb
          · rw [decide_eq_false hm]
            refine iteF ⟨rs, sets, hl, hS, hok, ?_, fun c hc h => hne c hc ?_, B⟩
            · rw [htk]
              exact hsub.trans (List.sublist_append_left _ _)
            · have : c ≠ (i : Int) := fun q => hm (by rw [← q]; exact hc)
              omega
        · obtain ⟨rs, sets, hl, hS, hok, hsub, hne, B⟩ := h
          refine ⟨_, rfl, _, rfl, _, rfl, L, _, rfl, .inl ⟨SqL.of hl, fun st hst => ⟨(by show 3 ≤ sizeLine; decide), fun p hp => ?_⟩⟩⟩
          have e1 := Ext.upd (o := .tup (rs.map V.ref)) hst
          have e2 := e1.upd' (o := .tup [.int wt, .ref pt, .ref st]) hp
          have BF := ((B04.fresh (o := .tup [.str s1, .str s2, .str s3, .str s4]) ht).trans B5)
          refine k p _ wt [s1, s2, s3, s4, s5] sets ⟨w0, w9, ⟨s1, s2, s3, s4, s5, rfl, q1 rfl, q2 rfl, q3 rfl, q4 rfl, q5 rfl⟩, hok, hsub, ?_⟩ ?_ ⟨pt, st, rs, SqT.of upd_same, ?_, (SqT.of upd_same).ext (Ext.upd hp), hS.ext e2⟩
          · obtain ⟨c, hc⟩ := List.exists_mem_of_ne_nil cs hcs
            exact hne c hc (by have := (hcr c hc).2; omega)
          · exact ((B07.trans B8).trans B).trans (Bk.of B.bag e2)
          · exact (B.T (K := K) B8.bag hpat8).ext e2
end
end Pa
set_option maxRecDepth 100000
set_option maxHeartbeats 4000000
namespace Pa
open PySem PySem.Spec PyProof.Rows L2 RZ StX
theorem ixN_at {n j : Nat} (hj : j < n) : ixN n (j : Int) = some j := by
  unfold ixN
  have h0 : (0 : Int) ≤ (j : Int) := by omega
  have h1 : (j : Int) < (n : Int) := by omega
  rw [if_pos h0, if_pos h1, Int.toNat_natCast]
def IsMk (s : Str) : Prop := s = "" ∨ s = "x" ∨ s = "y" ∨ s = "xy"
/-- five texts in a list, two of them marks -/
def Row5 (H : Hp) (p : Addr) : Prop := ∃ r0 r1 r2 r3 r4 : Str, H p = some (.lst [.str r0, .str r1, .str r2, .str r3, .str r4]) ∧ IsMk r1 ∧ IsMk r3
theorem Row5.set {H : Hp} {p : Addr} (h : Row5 H p) {j : Nat} {s : Str} (hj : j < 5) (hs : j = 1 ∨ j = 3 → IsMk s) : ∃ xs, H p = some (.lst xs) ∧ xs.length = 5 ∧ Row5 (upd H p (.lst (xs.set j (.str s)))) p := by
  obtain ⟨r0, r1, r2, r3, r4, e, h1, h3⟩ := h
  refine ⟨_, e, rfl, ?_⟩
  match j, hj, hs with
  | 0, _, _ => exact ⟨s, r1, r2, r3, r4, upd_same, h1, h3⟩
  | 1, _, hs => exact ⟨r0, s, r2, r3, r4, upd_same, hs (.inl rfl), h3⟩
  | 2, _, _ => exact ⟨r0, r1, s, r3, r4, upd_same, h1, h3⟩
  | 3, _, hs => exact ⟨r0, r1, r2, s, r4, upd_same, h1, hs (.inr rfl)⟩
  | 4, _, _ => exact ⟨r0, r1, r2, r3, s, upd_same, h1, h3⟩
  | j + 5, hj, _ => omega
theorem Row5.get {H : Hp} {p : Addr} (h : Row5 H p) {j : Nat} (hj : j < 5) : ∃ xs s, H p = some (.lst xs) ∧ xs[j]? = some (.str s) ∧ (j = 1 ∨ j = 3 → IsMk s) := by
  obtain ⟨r0, r1, r2, r3, r4, e, h1, h3⟩ := h
  match j, hj with
  | 0, _ => exact ⟨_, r0, e, rfl, fun q => by omega⟩
  | 1, _ => exact ⟨_, r1, e, rfl, fun _ => h1⟩
  | 2, _ => exact ⟨_, r2, e, rfl, fun q => by omega⟩
  | 3, _ => exact ⟨_, r3, e, rfl, fun _ => h3⟩
  | 4, _ => exact ⟨_, r4, e, rfl, fun q => by omega⟩
  | j + 5, hj => omega
theorem Row5.bk {H H' : Hp} {b p : Addr} (h : Row5 H p) (hn : p ≠ b) (B : Bk b H H') : Row5 H' p := by
  obtain ⟨r0, r1, r2, r3, r4, e, h1, h3⟩ := h
  exact ⟨r0, r1, r2, r3, r4, B.keep _ _ hn e, h1, h3⟩
theorem Row5.off {H : Hp} {p q : Addr} {o : HO} (h : Row5 H p) (hn : p ≠ q) : Row5 (upd H q o) p := by
  obtain ⟨r0, r1, r2, r3, r4, e, h1, h3⟩ := h
  exact ⟨r0, r1, r2, r3, r4, by rw [upd_ne hn]; exact e, h1, h3⟩
theorem sub_some {m : Str} (h : IsM m) : ∃ s ∈ (["", "x", "y", "xy"] : List Str), sub m s = true := by
  rcases h with rfl | rfl | rfl
  · exact ⟨"", by decide, by decide +kernel⟩
  · exact ⟨"x", by decide, by decide +kernel⟩
  · exact ⟨"y", by decide, by decide +kernel⟩
theorem mk_of {s : Str} (h : s ∈ (["", "x", "y", "xy"] : List Str)) : IsMk s := by
  simp only [List.mem_cons, List.not_mem_nil, or_false] at h
  exact h
theorem mem_strs {v : V} {l : List Str} (h : v ∈ l.map V.str) : ∃ s ∈ l, v = .str s := by
  obtain ⟨s, hs, rfl⟩ := List.mem_map.mp h
  exact ⟨s, hs, rfl⟩
section
variable {P : Program} {w : World} {K : PySem.W.Frag} {mg : Str → Option Value} {base : Heap} {tv tp tk dl C : Addr}
def spPiece (K : PySem.W.Frag) : Sp := fun vs H Q _ => ∃ (b pt : Addr) (ps : List Str), vs = [.ref b, .ref pt] ∧ IsBag H b ∧ SqT K H pt (ps.map V.str) ∧ PatOk ps ∧
  ∀ t cx kd mk c0 c1 c2 rest H', SqT K H' t [.str kd, .str mk, .ref cx] → SqT K H' cx (.str c0 :: .str c1 :: .str c2 :: rest) → IsMk mk → IsMk c1 → Bk b H H' → Q (.ref t) H'
abbrev sL_piece : Stmt := topS 25
theorem scL_piece : FnScope ["_law_bag_here", "_law_pattern", "_law_kinds", "_law_marks", "_law_anew", "_law_row", "_law_at", "_law_text", "_law_context"] ["_law_bag_here", "_law_pattern"] (defScope sL_piece) := ⟨rfl, rfl, rfl, by decide +kernel, rfl, by decide +kernel, by decide +kernel⟩
theorem ok_piece {f : Addr} {fd : FuncData} (F : Fun K "_law_piece" "_law_piece" sL_piece f fd) (T : Txt K w mg tv tp tk dl C) (C__law_draw : CallOk P w K mg base 1 "_law_draw" ["_law_bag_here", "_law_many"] spDraw) (C__law_one : CallOk P w K mg base 2 "_law_one" ["_law_bag_here", "_law_things"] (spOne K)) :
    FnOk P w K mg base CX0 3 f fd ["_law_bag_here", "_law_pattern"] (spPiece K) := by
  refine F.ok scL_piece (fun vs H Q E h => ?_) (fun cdv A outer s H vs Q E hr h => ?_)
  · obtain ⟨b, pt, ps, rfl, _⟩ := h
    rfl
  · obtain ⟨b, pt, ps, rfl, hb, hpt, hp, k⟩ := h
    refine ⟨_, (pss_cons (ps_par (i := 2) (j := 3) (by rfl) scL_piece.nd rfl rfl (by decide) rfl rfl (pa_cons (pe_lst (pa_cons pe_str (pa_cons pe_str (pa_cons pe_str pa_nil)))) (pa_cons (pe_lst (pa_cons pe_str (pa_cons pe_str (pa_cons pe_str (pa_cons pe_str pa_nil))))) pa_nil)) (by rfl))
      (pss_cons (ps_set (i := 4) scL_piece.nd rfl (.inl rfl) (pe_lst (pa_cons (pe_cc C__law_one (hr.mono (by decide)) (by rfl) (pa_cons (pv 0) (pa_cons (pv 2) pa_nil))) (pa_cons (pe_cc C__law_one (hr.mono (by decide)) (by rfl) (pa_cons (pv 0) (pa_cons (pv 3) pa_nil))) (pa_cons (pe_cc C__law_one (hr.mono (by decide)) (by rfl) (pa_cons (pv 0) (pa_cons (pe_op op_cat (pe_lst (pa_cons pe_str pa_nil)) (pv 2)) pa_nil))) (pa_cons (pe_cc C__law_one (hr.mono (by decide)) (by rfl) (pa_cons (pv 0) (pa_cons (pv 3) pa_nil))) pa_nil))))))
      (pss_cons (ps_expr (pe_bm PySem.F.plainAttrs_list PySem.F.slot_list_append PySem.F.type_list_append mt_append (pv 4) (pa_cons (pe_cc C__law_one (hr.mono (by decide)) (by rfl) (pa_cons (pv 0) (pa_cons (pe_op op_cat (pe_lst (pa_cons pe_str pa_nil)) (pv 2)) pa_nil))) pa_nil)))
      (pss_cons (ps_set (i := 5) scL_piece.nd rfl (.inl rfl) (pe_callTy call_list_of (by rfl) T.b_list (by decide +kernel) (pa_cons (pv 4) pa_nil)))
      (pss_cons (ps_for PassesOwn.never rfl (pi_list (pe_lst (pa_cons pe_int (pa_cons pe_int (pa_cons pe_int pa_nil))))) (pg_name (i := 6) scL_piece.nd rfl (.inr rfl))
        (pss_one (ps_if (pt_cmpR op_ne (pe_ix ix_tup (pv 1) (pv 6) (fun _ _ => rfl)) pe_str (nomark _))
          (pss_one (ps_asg (pe_ix ix_tup (pv 1) (pv 6) (fun _ _ => rfl)) (pg_sub (pv 5) (pv 6) set_list)))
          pss_nil)))
      (pss_cons (ps_for PassesOwn.never rfl (pi_list (pe_lst (pa_cons pe_int (pa_cons pe_int pa_nil)))) (pg_name (i := 6) scL_piece.nd rfl (.inr rfl))
        (pss_one (ps_asg (pe_cc C__law_one (hr.mono (by decide)) (by rfl) (pa_cons (pv 0) (pa_cons (pe_lc (own := [("_law_text", 7)]) (g := gName 7) rfl scL_piece.nd (pi_list (pv 3)) (blkOk_by (N := ["_law_bag_here", "_law_pattern", "_law_kinds", "_law_marks", "_law_anew", "_law_row", "_law_at", "_law_text", "_law_context"]) (sc := defScope sL_piece) (by decide +kernel)) (fun _ _ _ _ _ => (pg_name (i := 7) scL_piece.nd rfl (.inl rfl))) (fun _ _ _ _ _ => (pts_one (pt_cmpR op_in_str (pe_ix (r := rIxT K) ix_tup (pv 1) (pv 6) (fun _ _ => rfl)) (pv 7) (by rfl)))) (fun _ _ _ _ _ => (pv 7))) pa_nil))) (pg_sub (pv 5) (pv 6) set_list))))
      (pss_cons (ps_if (pt_cmpR op_gt (pe_cc C__law_draw (hr.mono (by decide)) (by rfl) (pa_cons (pv 0) (pa_cons pe_int pa_nil))) pe_int (nomark _))
        (pss_cons (ps_set (i := 6) scL_piece.nd rfl (.inr rfl) (pe_cc C__law_draw (hr.mono (by decide)) (by rfl) (pa_cons (pv 0) (pa_cons pe_int pa_nil))))
        (pss_one (ps_asg (pe_ix ix_list (pv 4) (pv 6) (fun _ _ => rfl)) (pg_sub (pv 5) (pv 6) set_list))))
        pss_nil)
      (pss_cons (ps_set (i := 8) scL_piece.nd rfl (.inl rfl) (pe_tup (pa_cons (pe_ix ix_list (pv 5) pe_int (fun _ _ => rfl)) (pa_cons (pe_ix ix_list (pv 5) pe_int (fun _ _ => rfl)) (pa_cons (pe_ix ix_list (pv 5) pe_int (fun _ _ => rfl)) (pa_cons (pe_cc C__law_draw (hr.mono (by decide)) (by rfl) (pa_cons (pv 0) (pa_cons pe_int pa_nil))) (pa_cons (pe_op op_add pe_int (pe_cc C__law_draw (hr.mono (by decide)) (by rfl) (pa_cons (pv 0) (pa_cons pe_int pa_nil)))) (pa_cons (pe_cmpR op_eq (pe_cc C__law_draw (hr.mono (by decide)) (by rfl) (pa_cons (pv 0) (pa_cons pe_int pa_nil))) pe_int (nomark _)) pa_nil))))))))
      (pss_one (ps_ret (pe_tup (pa_cons (pe_ix ix_list (pv 5) pe_int (fun _ _ => rfl)) (pa_cons (pe_ix ix_list (pv 5) pe_int (fun _ _ => rfl)) (pa_cons (pv 8) pa_nil)))))))))))))), ?_⟩
    refine ⟨(by show 3 ≤ sizeLine; decide), fun kl hkl => ⟨(by show 4 ≤ sizeLine; decide), fun ml hml => ⟨_, _, rfl, ?_⟩⟩⟩
    have B0 := ((Bk.of hb Ext.rfl').fresh (o := .lst ((["A", "B", "C"] : List Str).map V.str)) hkl).fresh (o := .lst ((["", "x", "y", "xy"] : List Str).map V.str)) hml
    have hkb : kl ≠ b := fresh_ne hb hkl
    have hmb : ml ≠ b := fresh_ne ((Bk.of hb Ext.rfl').fresh (o := .lst ((["A", "B", "C"] : List Str).map V.str)) hkl).bag hml
    have hk0 : upd (upd H kl (.lst ((["A", "B", "C"] : List Str).map V.str))) ml (.lst ((["", "x", "y", "xy"] : List Str).map V.str)) kl = some (.lst ((["A", "B", "C"] : List Str).map V.str)) := (Ext.upd hml) _ _ upd_same
    have hm0 : upd (upd H kl (.lst ((["A", "B", "C"] : List Str).map V.str))) ml (.lst ((["", "x", "y", "xy"] : List Str).map V.str)) ml = some (.lst ((["", "x", "y", "xy"] : List Str).map V.str)) := upd_same
    change tSeq _ _ _ _ (upd (upd H kl (.lst ((["A", "B", "C"] : List Str).map V.str))) ml (.lst ((["", "x", "y", "xy"] : List Str).map V.str)))
    generalize upd (upd H kl (.lst ((["A", "B", "C"] : List Str).map V.str))) ml (.lst ((["", "x", "y", "xy"] : List Str).map V.str)) = H0 at B0 hk0 hm0 ⊢
    have hpt0 := B0.T (K := K) hb hpt
    refine ⟨_, rfl, _, rfl, b, kl, _, rfl, B0.bag, Ne.symm hkb, (by simp), (by show 3 ≤ 1000; decide), .inl (SqL.of hk0), fun v0 H1 hv0 B1 => ?_⟩
    have hk1 := B1.keep _ _ hkb hk0
    have hm1 := B1.keep _ _ hmb hm0
    refine ⟨_, rfl, _, rfl, b, ml, _, rfl, B1.bag, Ne.symm hmb, (by simp), (by show 4 ≤ 1000; decide), .inl (SqL.of hm1), fun v1 H2 hv1 B2 => ?_⟩
    have hk2 := B2.keep _ _ hkb hk1
    have hm2 := B2.keep _ _ hmb hm1
    refine ⟨_, rfl, (by show 1 ≤ sizeLine; decide), fun l1 hl1 => ⟨_, rfl, l1, kl, _, _, rfl, rfl, upd_same, (Ext.upd hl1) _ _ hk2, (by show 1 + 3 ≤ sizeLine; decide), fun l2 hl2 => ?_⟩⟩
    have B3 := (B2.fresh (o := .lst [.str ""]) hl1).fresh (o := .lst ((["", "A", "B", "C"] : List Str).map V.str)) hl2
    have hlb2 : l2 ≠ b := fresh_ne (B2.fresh (o := .lst [.str ""]) hl1).bag hl2
    refine ⟨b, l2, _, rfl, B3.bag, Ne.symm hlb2, (by simp), (by show 4 ≤ 1000; decide), .inl (SqL.of upd_same), fun v2 H3 hv2 B4 => ?_⟩
    have hm3 := B4.keep _ _ hmb ((Ext.upd hl2) _ _ ((Ext.upd (o := .lst [.str ""]) hl1) _ _ hm2))
    have hk3 := B4.keep _ _ hkb ((Ext.upd hl2) _ _ ((Ext.upd (o := .lst [.str ""]) hl1) _ _ hk2))
    refine ⟨_, rfl, _, rfl, b, ml, _, rfl, B4.bag, Ne.symm hmb, (by simp), (by show 4 ≤ 1000; decide), .inl (SqL.of hm3), fun v3 H4 hv3 B5 => ⟨(by show 4 ≤ sizeLine; decide), fun an han => ?_⟩⟩
    have B05 := (B1.trans B3).trans (B4.trans B5)
    have hanb : an ≠ b := fresh_ne B5.bag han
    have hk4 := (Ext.upd (o := .lst [v0, v1, v2, v3]) han) _ _ (B5.keep _ _ hkb hk3)
    have hman : ml ≠ an := ne_of_none (B5.keep _ _ hmb hm3) han
    have hm4 := (Ext.upd (o := .lst [v0, v1, v2, v3]) han) _ _ (B5.keep _ _ hmb hm3)
    have B06 := B05.fresh (o := .lst [v0, v1, v2, v3]) han
    refine ⟨_, rfl, .inl ⟨rfl, _, SqL.of upd_same⟩, _, rfl, (by show 1 ≤ sizeLine; decide), fun l3 hl3 => ⟨_, rfl, l3, kl, _, _, rfl, rfl, upd_same, (Ext.upd hl3) _ _ hk4, (by show 1 + 3 ≤ sizeLine; decide), fun l4 hl4 => ?_⟩⟩
    have B07 := (B06.fresh (o := .lst [.str ""]) hl3).fresh (o := .lst ((["", "A", "B", "C"] : List Str).map V.str)) hl4
    have hlb4 : l4 ≠ b := fresh_ne (B06.fresh (o := .lst [.str ""]) hl3).bag hl4
    refine ⟨b, l4, _, rfl, B07.bag, Ne.symm hlb4, (by simp), (by show 4 ≤ 1000; decide), .inl (SqL.of upd_same), fun v4 H5 hv4 B8 => ?_⟩
    have han5 : H5 an = some (.lst [v0, v1, v2, v3]) := B8.keep _ _ hanb ((Ext.upd hl4) _ _ ((Ext.upd (o := .lst [.str ""]) hl3) _ _ upd_same))
    refine ⟨an, _, _, rfl, rfl, han5, (by show 4 < sizeLine; decide), ?_⟩
    have B09 := (B07.trans B8).put (o := .lst ([v0, v1, v2, v3] ++ [v4])) (D := an) (by
      cases q : H0 an with
      | none => rfl
      | some u =>
        by_cases qb : an = b
        · exact absurd qb hanb
        · rw [B05.keep _ _ qb q] at han
          cases han) hanb
    have hm5 : upd H5 an (.lst ([v0, v1, v2, v3] ++ [v4])) ml = some (.lst ((["", "x", "y", "xy"] : List Str).map V.str)) := by
      rw [upd_ne hman]
      exact B8.keep _ _ hmb ((Ext.upd hl4) _ _ ((Ext.upd (o := .lst [.str ""]) hl3) _ _ hm4))
    obtain ⟨s0, _, rfl⟩ := mem_strs hv0
    obtain ⟨s1, g1, rfl⟩ := mem_strs hv1
    obtain ⟨s2, _, rfl⟩ := mem_strs (show v2 ∈ (["", "A", "B", "C"] : List Str).map V.str from hv2)
    obtain ⟨s3, g3, rfl⟩ := mem_strs hv3
    obtain ⟨s4, _, rfl⟩ := mem_strs (show v4 ∈ (["", "A", "B", "C"] : List Str).map V.str from hv4)
    have hA : Row5 (upd H5 an (.lst ([V.str s0, .str s1, .str s2, .str s3] ++ [V.str s4]))) an := ⟨s0, s1, s2, s3, s4, upd_same, mk_of g1, mk_of g3⟩
    have hA0 : upd H5 an (.lst ([V.str s0, .str s1, .str s2, .str s3] ++ [V.str s4])) an = some (.lst [.str s0, .str s1, .str s2, .str s3, .str s4]) := upd_same
    have hpt5 := B09.T (K := K) B0.bag hpt0
    change tSeq _ _ _ _ (upd H5 an (.lst ([V.str s0, .str s1, .str s2, .str s3] ++ [V.str s4])))
    generalize upd H5 an (.lst ([V.str s0, .str s1, .str s2, .str s3] ++ [V.str s4])) = H6 at B09 hm5 hA hA0 hpt5 ⊢
    have B6 := B0.trans B09
    refine ⟨_, rfl, an, _, rfl, .inl (SqL.of hA0), fun rw hrw => ?_⟩
    have hrb : rw ≠ b := fresh_ne B6.bag hrw
    have hra : an ≠ rw := ne_of_none hA0 hrw
    have hrm : ml ≠ rw := ne_of_none hm5 hrw
    have B7 := B6.fresh (o := .lst [.str s0, .str s1, .str s2, .str s3, .str s4]) hrw
    have hA7 := hA.off (o := .lst [.str s0, .str s1, .str s2, .str s3, .str s4]) hra
    have hR7 : Row5 (upd H6 rw (.lst [.str s0, .str s1, .str s2, .str s3, .str s4])) rw := ⟨s0, s1, s2, s3, s4, upd_same, mk_of g1, mk_of g3⟩
    have hm7 := (Ext.upd (o := .lst [.str s0, .str s1, .str s2, .str s3, .str s4]) hrw) _ _ hm5
    have hpt7 := hpt5.ext (Ext.upd (o := .lst [.str s0, .str s1, .str s2, .str s3, .str s4]) hrw)
    have hrH : H rw = none := by
      cases q : H rw with
      | none => rfl
      | some u => rw [B6.keep _ _ hrb q] at hrw; cases hrw
    generalize upd H6 rw (.lst [.str s0, .str s1, .str s2, .str s3, .str s4]) = H7 at B7 hA7 hR7 hm7 hpt7 ⊢
    obtain ⟨pk, pm, pp, pa, pe, rfl, hpk, hpm, hpp, hpa, hpe⟩ := hp
    -- the kinds of the pattern
    refine ⟨(by show 3 ≤ sizeLine; decide), fun z hz => ⟨z, rfl, ⟨_, SqL.of upd_same⟩, ?_⟩⟩
    have hzb : z ≠ b := fresh_ne B7.bag hz
    have hzr : rw ≠ z := let ⟨_, _, _, _, _, e, _⟩ := hR7; ne_of_none e hz
    have hza : an ≠ z := let ⟨_, _, _, _, _, e, _⟩ := hA7; ne_of_none e hz
    have hzm : ml ≠ z := ne_of_none hm7 hz
    refine for_list (xs := [V.int 0, .int 2, .int 4]) (fun i σ H' => Bk b H H' ∧ Row5 H' rw ∧ Row5 H' an ∧ H' ml = some (.lst ((["", "x", "y", "xy"] : List Str).map V.str)) ∧ H' z = some (.lst [.int 0, .int 2, .int 4]) ∧ SqT K H' pt ([pk, pm, pp, pa, pe].map V.str) ∧ ∃ x6, σ = [some (.ref b), some (.ref pt), some (.ref kl), some (.ref ml), some (.ref an), some (.ref rw), x6, none, none])
      ⟨B7.fresh hz, hR7.off hzr, hA7.off hza, by rw [upd_ne hzm]; exact hm7, upd_same, hpt7.ext (Ext.upd hz), _, rfl⟩ (fun i σ H' _ h => SqL.of h.2.2.2.2.1) (fun i x σ H' hx h => ?_) (fun σ H' h => ?_)
    · obtain ⟨B, hR, hA', hm', hz', hp', x6, rfl⟩ := h
      obtain ⟨j, t, rfl, hj, ht⟩ : ∃ (j : Nat) (t : Str), x = .int j ∧ (j < 5 ∧ j ≠ 1 ∧ j ≠ 3) ∧ ([pk, pm, pp, pa, pe].map V.str)[j]? = some (.str t) := by
        match i, hx with
        | 0, hx => cases hx; exact ⟨0, pk, rfl, by decide, rfl⟩
        | 1, hx => cases hx; exact ⟨2, pp, rfl, by decide, rfl⟩
        | 2, hx => cases hx; exact ⟨4, pe, rfl, by decide, rfl⟩
        | i + 3, hx => simp at hx
      refine ⟨_, rfl, _, rfl, pt, _, _, _, rfl, rfl, hp', atI_nat (j := j) ht, rfl, _, rfl, ite2 (fun _ => ?_) (fun _ => ?_)⟩
      · obtain ⟨xs, ex, hl, hR2⟩ := hR.set (s := t) hj.1 (fun q => by omega)
        refine ⟨_, rfl, _, rfl, pt, _, _, _, rfl, rfl, hp', atI_nat (j := j) ht, _, rfl, _, rfl, rw, xs, _, j, rfl, rfl, ex, ixN_at (by rw [hl]; exact hj.1), ?_⟩
        exact ⟨B.put hrH hrb, hR2, hA'.off hra, by rw [upd_ne hrm]; exact hm', by rw [upd_ne (Ne.symm hzr)]; exact hz', sqt_upd (u := .lst xs) hp' ex (fun _ q => nomatch q) (fun _ _ q => nomatch q), _, rfl⟩
      · exact ⟨B, hR, hA', hm', hz', hp', _, rfl⟩
    obtain ⟨B8', hR8, hA8, hm8, _, hp8, x6, rfl⟩ := h
    -- the marks
    refine ⟨(by show 2 ≤ sizeLine; decide), fun y hy => ⟨y, rfl, ⟨_, SqL.of upd_same⟩, ?_⟩⟩
    have hyb : y ≠ b := fresh_ne B8'.bag hy
    have hyr : rw ≠ y := let ⟨_, _, _, _, _, e, _⟩ := hR8; ne_of_none e hy
    have hya : an ≠ y := let ⟨_, _, _, _, _, e, _⟩ := hA8; ne_of_none e hy
    have hym : ml ≠ y := ne_of_none hm8 hy
    refine for_list (xs := [V.int 1, .int 3]) (fun i σ H' => Bk b H H' ∧ Row5 H' rw ∧ Row5 H' an ∧ H' ml = some (.lst ((["", "x", "y", "xy"] : List Str).map V.str)) ∧ H' y = some (.lst [.int 1, .int 3]) ∧ SqT K H' pt ([pk, pm, pp, pa, pe].map V.str) ∧ ∃ x6, σ = [some (.ref b), some (.ref pt), some (.ref kl), some (.ref ml), some (.ref an), some (.ref rw), x6, none, none])
      ⟨B8'.fresh hy, hR8.off hyr, hA8.off hya, by rw [upd_ne hym]; exact hm8, upd_same, hp8.ext (Ext.upd hy), _, rfl⟩ (fun i σ H' _ h => SqL.of h.2.2.2.2.1) (fun i x σ H' hx h => ?_) (fun σ H' h => ?_)
    · obtain ⟨B, hR, hA', hm', hz', hp', x6, rfl⟩ := h
      obtain ⟨j, t, rfl, hj, ht, htm⟩ : ∃ (j : Nat) (t : Str), x = .int j ∧ j < 5 ∧ ([pk, pm, pp, pa, pe].map V.str)[j]? = some (.str t) ∧ IsM t := by
        match i, hx with
        | 0, hx => cases hx; exact ⟨1, pm, rfl, by decide, rfl, hpm⟩
        | 1, hx => cases hx; exact ⟨3, pa, rfl, by decide, rfl, hpa⟩
        | i + 2, hx => simp at hx
      refine ⟨_, rfl, _, rfl, ml, rfl, ⟨_, SqL.of hm'⟩, fun D hD => ?_⟩
      have hDb : D ≠ b := fresh_ne B.bag hD
      have hDm : ml ≠ D := ne_of_none hm' hD
      refine lc_list (xs := (["", "x", "y", "xy"] : List Str).map V.str) (fun i H2 => (∀ q u, q ≠ D → H' q = some u → H2 q = some u) ∧ ∃ l : List Str, H2 D = some (.lst (l.map V.str)) ∧ l.length ≤ i ∧ (∀ s ∈ l, s ∈ (["", "x", "y", "xy"] : List Str)) ∧ ∀ s ∈ (["", "x", "y", "xy"] : List Str).take i, sub t s = true → l ≠ [])
        ⟨fun q u hq e => by rw [upd_ne hq]; exact e, [], upd_same, Nat.le_refl _, (fun s hs => nomatch hs), (fun s hs => nomatch hs)⟩ (fun i H2 _ h => SqL.of (h.1 _ _ hDm hm')) (fun i v H2 hv h => ?_) (fun H2 h => ?_)
      · obtain ⟨k1, l, hl, hll, hlm, hls⟩ := h
        obtain ⟨n, hn, rfl⟩ := strs_at hv
        have hp2 : SqT K H2 pt ([pk, pm, pp, pa, pe].map V.str) := by
          rcases hp' with (q | ⟨ob, q⟩) | q
          · exact .inl (.inl (k1 _ _ (ne_of_none q hD) q))
          · exact .inl (.inr ⟨ob, k1 _ _ (ne_of_none q hD) q⟩)
          · exact .inr q
        have htk : (["", "x", "y", "xy"] : List Str).take (i + 1) = (["", "x", "y", "xy"] : List Str).take i ++ [n] := by rw [List.take_add_one, hn]; rfl
        refine ⟨rfl, _, rfl, _, rfl, pt, _, _, _, rfl, rfl, hp2, atI_nat (j := j) ht, _, rfl, _, _, rfl, rfl, ?_⟩
        refine ⟨_, rfl, ?_⟩
        show if sub t n = true then _ else _
        by_cases hs : sub t n = true
        · rw [hs]
          have hi : i < 4 := (List.getElem?_eq_some_iff.mp hn).1
          refine iteT ⟨_, rfl, _, hl, ?_, fun q u hq e => by rw [upd_ne hq]; exact k1 q u hq e, l ++ [n], ?_, ?_, fun s hs' => ?_, fun s _ _ q => by simp at q⟩
          · rw [List.length_map]
            exact Nat.lt_of_le_of_lt hll (Nat.lt_of_lt_of_le (by omega : i < 1000) (by decide))
          · rw [upd_same, List.map_append]
            rfl
          · rw [List.length_append]
            show l.length + 1 ≤ i + 1
            omega
          · rcases List.mem_append.mp hs' with q | q
            · exact hlm s q
            · rw [List.mem_singleton.mp q]
              exact List.mem_of_getElem? hn
        · rw [Bool.eq_false_iff.mpr hs]
          refine iteF ⟨k1, l, hl, by omega, hlm, fun s hs' hs2 => ?_⟩
          rw [htk] at hs'
          rcases List.mem_append.mp hs' with q | q
          · exact hls s q hs2
          · rw [List.mem_singleton.mp q] at hs2
            exact absurd hs2 hs
      · obtain ⟨k1, l, hl, hll, hlm, hls⟩ := h
        have hne : l ≠ [] := by
          obtain ⟨s, hs, hs2⟩ := sub_some htm
          exact hls s hs hs2
        have hR2 := hR.get (j := 0) (by decide)
        have B2 : Bk b H H2 := by
          obtain ⟨⟨g, y', c, e⟩, kp⟩ := B
          exact ⟨⟨g, y', c, k1 _ _ (Ne.symm hDb) e⟩, fun q u hq e => k1 q u (ne_of_none (kp q u hq e) hD) (kp q u hq e)⟩
        have ext2 : Ext H' H2 := fun q u e => k1 q u (ne_of_none e hD) e
        refine ⟨b, D, _, rfl, B2.bag, Ne.symm hDb, ?_, ?_, .inl (SqL.of hl), fun v H3' hv B3' => ?_⟩
        · simpa using hne
        · rw [List.length_map]
          have : l.length ≤ 4 := hll
          omega
        · obtain ⟨sv, hsv, rfl⟩ := mem_strs hv
          have hR3 : Row5 H3' rw := by
            obtain ⟨r0, r1, r2, r3, r4, e, q1, q3⟩ := hR
            exact ⟨r0, r1, r2, r3, r4, B3'.keep _ _ hrb (ext2 _ _ e), q1, q3⟩
          have hA3 : Row5 H3' an := by
            obtain ⟨r0, r1, r2, r3, r4, e, q1, q3⟩ := hA'
            exact ⟨r0, r1, r2, r3, r4, B3'.keep _ _ hanb (ext2 _ _ e), q1, q3⟩
          obtain ⟨xs, ex, hl5, hR4⟩ := hR3.set (s := sv) hj (fun _ => mk_of (hlm sv hsv))
          refine ⟨_, rfl, _, rfl, rw, xs, _, j, rfl, rfl, ex, ixN_at (by rw [hl5]; exact hj), ?_⟩
          exact ⟨(B2.trans B3').put hrH hrb, hR4, hA3.off hra, by rw [upd_ne hrm]; exact B3'.keep _ _ hmb (ext2 _ _ hm'), by rw [upd_ne (Ne.symm hyr)]; exact B3'.keep _ _ hyb (ext2 _ _ hz'), sqt_upd (u := .lst xs) (B3'.T B2.bag (hp'.ext ext2)) ex (fun _ q => nomatch q) (fun _ _ q => nomatch q), _, rfl⟩
    obtain ⟨B9, hR9, hA9, _, _, _, x6', rfl⟩ := h
    refine join1 (α := { p : Option V × Hp // Bk b H p.2 ∧ Row5 p.2 rw }) (G := ?G) (fun rest => ?br) (fun y => ?fin)
    case br =>
      refine ⟨_, rfl, b, 3, rfl, B9.bag, by decide, by decide, fun d Ha h0 h1 Ba => ⟨_, _, rfl, rfl, _, rfl, ite2 (fun _ => ?tt) (fun _ => ?ff)⟩⟩
      case ff =>
        obtain ⟨y, e1, e2⟩ : ∃ y : { p : Option V × Hp // Bk b H p.2 ∧ Row5 p.2 rw }, x6' = y.1.1 ∧ Ha = y.1.2 := ⟨⟨(x6', Ha), B9.trans Ba, hR9.bk hrb Ba⟩, rfl, rfl⟩
        subst e1 e2
        exact rest y
      case tt =>
        refine ⟨_, rfl, b, 5, rfl, Ba.bag, by decide, by decide, fun d5 Hb h2 h3 Bb => ?_⟩
        obtain ⟨j, rfl⟩ : ∃ j : Nat, d5 = (j : Int) := ⟨d5.toNat, by omega⟩
        have hj : j < 5 := by omega
        have hRb := (hR9.bk hrb Ba).bk hrb Bb
        obtain ⟨xs, s, ex, hs, hsm⟩ := ((hA9.bk hanb Ba).bk hanb Bb).get hj
        obtain ⟨ys, ey, hl5, hR4⟩ := hRb.set (s := s) hj hsm
        refine ⟨_, rfl, _, rfl, an, _, _, _, rfl, rfl, SqL.of ex, atI_nat (j := j) hs, _, rfl, _, rfl, rw, ys, _, j, rfl, rfl, ey, ixN_at (by rw [hl5]; exact hj), ?_⟩
        have BB := ((B9.trans Ba).trans Bb).put (o := .lst (ys.set j (.str s))) hrH hrb
        have z := rest ⟨(some (.int j), upd Hb rw (.lst (ys.set j (.str s)))), BB, hR4⟩
        exact z
    case fin =>
      obtain ⟨⟨x6, Hc⟩, Bc, hRc⟩ := y
      simp only at Bc hRc
      obtain ⟨r0, r1, r2, r3, r4, hr, m1, m3⟩ := hRc
      refine ⟨_, rfl, rw, _, _, _, rfl, rfl, SqL.of hr, atI_nat (j := 2) rfl, _, rfl, rw, _, _, _, rfl, rfl, SqL.of hr, atI_nat (j := 3) rfl, _, rfl, rw, _, _, _, rfl, rfl, SqL.of hr, atI_nat (j := 4) rfl, ?_⟩
      refine ⟨_, rfl, b, 2, rfl, Bc.bag, by decide, by decide, fun c3 Hd _ _ Bd => ?_⟩
      refine ⟨_, rfl, b, 6, rfl, Bd.bag, by decide, by decide, fun c4 He _ _ Be => ⟨_, _, rfl, rfl, ?_⟩⟩
      refine ⟨_, rfl, b, 3, rfl, Be.bag, by decide, by decide, fun c5 Hf _ _ Bf => ⟨rfl, (by show 6 ≤ sizeLine; decide), fun cx hcx => ?_⟩⟩
      have hrf := Bf.keep _ _ hrb (Be.keep _ _ hrb (Bd.keep _ _ hrb hr))
      have hrx := (Ext.upd (o := .tup [.str r2, .str r3, .str r4, .int c3, .int (1 + c4), .bl (decide (V.int c5 = V.int 2))]) hcx) _ _ hrf
      refine ⟨_, rfl, rw, _, _, _, rfl, rfl, SqL.of hrx, atI_nat (j := 0) rfl, _, rfl, rw, _, _, _, rfl, rfl, SqL.of hrx, atI_nat (j := 1) rfl, _, rfl, (by show 3 ≤ sizeLine; decide), fun t ht => ?_⟩
      exact k t cx r0 r1 r2 r3 r4 _ _ (SqT.of upd_same) ((SqT.of upd_same).ext (Ext.upd ht)) m1 m3 ((((Bc.trans Bd).trans (Be.trans Bf)).fresh hcx).fresh ht)
end
end Pa
set_option maxRecDepth 100000
set_option maxHeartbeats 4000000
namespace Pa
open PySem PySem.Spec PyProof.Rows L2 RZ StX
theorem mk_sub {m mk : Str} (h : IsM m) (h2 : IsMk mk) : (decide (m = "") || inV (.str m) (signsV mk)) = sub m mk := by
  rcases h with rfl | rfl | rfl <;> rcases h2 with rfl | rfl | rfl | rfl <;> decide +kernel
theorem flat_signs (x : Str) : (signsV x).all flatV = true := by simp [flatV]
theorem mk_len {s : Str} (h : IsMk s) : s.cps.size ≤ sizeLine := by
  rcases h with rfl | rfl | rfl | rfl <;> decide
section
variable {P : Program} {w : World} {K : PySem.W.Frag} {mg : Str → Option Value} {base : Heap} {tv tp tk dl C : Addr}
def spMatch (K : PySem.W.Frag) : Sp := fun vs H Q _ => ∃ (pt cx : Addr) (kd mk c0 c1 c2 : Str) (rest : List V) (ps : List Str), vs = [.ref pt, .str kd, .str mk, .ref cx] ∧ SqT K H pt (ps.map V.str) ∧ PatOk ps ∧
  SqT K H cx (.str c0 :: .str c1 :: .str c2 :: rest) ∧ IsMk mk ∧ IsMk c1 ∧ ∀ H', Ext H H' → Q (.bl (matchB ps kd mk c0 c1 c2)) H'
abbrev sL_matches : Stmt := topS 26
theorem scL_matches : FnScope ["_law_pattern", "_law_kind", "_law_marks", "_law_context", "_law_wanted", "_law_at"] ["_law_pattern", "_law_kind", "_law_marks", "_law_context"] (defScope sL_matches) := ⟨rfl, rfl, rfl, by decide +kernel, rfl, by decide +kernel, by decide +kernel⟩
theorem ok_matches {f : Addr} {fd : FuncData} (F : Fun K "_law_matches" "_law_matches" sL_matches f fd) (T : Txt K w mg tv tp tk dl C) : FnOk P w K mg base CX0 1 f fd ["_law_pattern", "_law_kind", "_law_marks", "_law_context"] (spMatch K) := by
  refine F.ok scL_matches (fun vs H Q E h => ?_) (fun cdv A outer s H vs Q E hr h => ?_)
  · obtain ⟨pt, cx, kd, mk, c0, c1, c2, rest, ps, rfl, _⟩ := h
    rfl
  · obtain ⟨pt, cx, kd, mk, c0, c1, c2, rest, ps, rfl, hpt, hp, hcx, hm0, hm1, kq⟩ := h
    refine ⟨_, (pss_cons (ps_set (i := 4) scL_matches.nd rfl (.inl rfl) (pe_lst (pa_cons (pv 1) (pa_cons (pv 2) (pa_cons (pe_ix ix_tup (pv 3) pe_int (fun _ _ => rfl)) (pa_cons (pe_ix ix_tup (pv 3) pe_int (fun _ _ => rfl)) (pa_cons (pe_ix ix_tup (pv 3) pe_int (fun _ _ => rfl)) pa_nil)))))))
      (pss_cons (ps_for PassesOwn.never rfl (pi_list (pe_lst (pa_cons pe_int (pa_cons pe_int (pa_cons pe_int pa_nil))))) (pg_name (i := 5) scL_matches.nd rfl (.inl rfl))
        (pss_one (ps_if (PW.pt (pw_and (pt_cmpR op_ne (pe_ix ix_tup (pv 0) (pv 5) (fun _ _ => rfl)) pe_str (nomark _)) (pw_and1 (pt_cmpR op_ne (pe_ix ix_tup (pv 0) (pv 5) (fun _ _ => rfl)) (pe_ix ix_list (pv 4) (pv 5) (fun _ _ => rfl)) (nomark _)))))
          (pss_one (ps_ret pe_bl))
          pss_nil)))
      (pss_cons (ps_for PassesOwn.never rfl (pi_list (pe_lst (pa_cons pe_int (pa_cons pe_int pa_nil)))) (pg_name (i := 5) scL_matches.nd rfl (.inl rfl))
        (pss_one (ps_if (PW.pt (pw_and (pt_cmpR op_ne (pe_ix ix_tup (pv 0) (pv 5) (fun _ _ => rfl)) pe_str (nomark _)) (pw_and1 (pt_cmpR op_notIn_seq (pe_ix ix_tup (pv 0) (pv 5) (fun _ _ => rfl)) (pe_callTy (call_list_sg rfl) (by rfl) T.b_list (by decide +kernel) (pa_cons (pe_ix ix_list (pv 4) (pv 5) (fun _ _ => rfl)) pa_nil)) (by rfl)))))
          (pss_one (ps_ret pe_bl))
          pss_nil)))
      (pss_one (ps_ret pe_bl))))), ?_⟩
    obtain ⟨k, m, p, a, e, rfl, hk, hm, hpp, ha, he⟩ := hp
    refine ⟨_, rfl, _, rfl, _, rfl, cx, _, _, _, rfl, rfl, hcx, atI_nat (j := 0) rfl, _, rfl, cx, _, _, _, rfl, rfl, hcx, atI_nat (j := 1) rfl, _, rfl, cx, _, _, _, rfl, rfl, hcx, atI_nat (j := 2) rfl, (by show 5 ≤ sizeLine; decide), fun wl hwl => ?_⟩
    have e0 := Ext.upd (o := .lst [.str kd, .str mk, .str c0, .str c1, .str c2]) hwl
    refine ⟨(by show 3 ≤ sizeLine; decide), fun z hz => ⟨z, rfl, ⟨_, SqL.of upd_same⟩, ?_⟩⟩
    have e1 := e0.upd' (o := .lst [.int 0, .int 2, .int 4]) hz
    have hw1 := (Ext.upd (o := .lst [.int 0, .int 2, .int 4]) hz) wl _ (upd_same (H := H))
    refine for_list (xs := [V.int 0, .int 2, .int 4]) (fun i σ H' => H' = upd (upd H wl (.lst [.str kd, .str mk, .str c0, .str c1, .str c2])) z (.lst [.int 0, .int 2, .int 4]) ∧ (1 ≤ i → k ∈ (["", kd] : List Str)) ∧ (2 ≤ i → p ∈ (["", c0] : List Str)) ∧ (3 ≤ i → e ∈ (["", c2] : List Str)) ∧ ∃ x5, σ = [some (.ref pt), some (.str kd), some (.str mk), some (.ref cx), some (.ref wl), x5])
      ⟨rfl, (fun q => by omega), (fun q => by omega), (fun q => by omega), _, rfl⟩ (fun i σ H' _ h => by rw [h.1]; exact SqL.of upd_same) (fun i x σ H' hx h => ?_) (fun σ H' h => ?_)
    · obtain ⟨rfl, o0, o2, o4, x5, rfl⟩ := h
      obtain ⟨j, s, v, rfl, hs, hv, hok, hbad⟩ : ∃ (j : Nat) (s v : Str), x = .int j ∧ ([k, m, p, a, e].map V.str)[j]? = some (.str s) ∧ ([V.str kd, .str mk, .str c0, .str c1, .str c2])[j]? = some (.str v) ∧
          (s ∈ (["", v] : List Str) → (1 ≤ i + 1 → k ∈ (["", kd] : List Str)) ∧ (2 ≤ i + 1 → p ∈ (["", c0] : List Str)) ∧ (3 ≤ i + 1 → e ∈ (["", c2] : List Str))) ∧ (s ∉ (["", v] : List Str) → matchB [k, m, p, a, e] kd mk c0 c1 c2 = false) := by
        match i, hx, o0, o2, o4 with
        | 0, hx, o0, o2, o4 => cases hx; exact ⟨0, k, kd, rfl, rfl, rfl, fun q => ⟨fun _ => q, fun q => by omega, fun q => by omega⟩, fun q => by unfold matchB; simp only; rw [decide_eq_false q]; rfl⟩
        | 1, hx, o0, o2, o4 => cases hx; exact ⟨2, p, c0, rfl, rfl, rfl, fun q => ⟨fun _ => o0 (by omega), fun _ => q, fun q => by omega⟩, fun q => by unfold matchB; simp only; rw [decide_eq_false q, Bool.false_and, Bool.and_false]⟩
        | 2, hx, o0, o2, o4 => cases hx; exact ⟨4, e, c2, rfl, rfl, rfl, fun q => ⟨fun _ => o0 (by omega), fun _ => o2 (by omega), fun _ => q⟩, fun q => by unfold matchB; simp only; rw [decide_eq_false q, Bool.false_and, Bool.and_false, Bool.and_false]⟩
        | i + 3, hx, _, _, _ => simp at hx
      refine ⟨_, rfl, _, rfl, pt, _, _, _, rfl, rfl, hpt.ext e1, atI_nat (j := j) hs, rfl, _, rfl, ?_⟩
      by_cases q1 : s = ""
      · subst q1
        rw [decide_eq_true (rfl : V.str "" = V.str "")]
        exact iteF ⟨rfl, (hok (by simp)).1, (hok (by simp)).2.1, (hok (by simp)).2.2, _, rfl⟩
      · rw [decide_eq_false (fun q => q1 (V.str.inj q) : ¬ V.str s = V.str "")]
        refine iteT ⟨_, rfl, _, rfl, pt, _, _, _, rfl, rfl, hpt.ext e1, atI_nat (j := j) hs, _, rfl, _, rfl, wl, _, _, _, rfl, rfl, SqL.of hw1, atI_nat (j := j) hv, rfl, _, rfl, ?_⟩
        by_cases q2 : s = v
        · rw [decide_eq_true (congrArg V.str q2)]
          have hin : s ∈ (["", v] : List Str) := by rw [q2]; simp
          exact iteF ⟨rfl, (hok hin).1, (hok hin).2.1, (hok hin).2.2, _, rfl⟩
        · rw [decide_eq_false (fun q => q2 (V.str.inj q) : ¬ V.str s = V.str v)]
          have z := kq _ e1
          rw [hbad (by simp [q1, q2])] at z
          exact iteT z
    obtain ⟨rfl, o0, o2, o4, x5, rfl⟩ := h
    have p0 := o0 (by decide)
    have p2 := o2 (by decide)
    have p4 := o4 (by decide)
    have hM : matchB [k, m, p, a, e] kd mk c0 c1 c2 = (sub m mk && sub a c1) := by
      unfold matchB
      simp only
      rw [decide_eq_true p0, decide_eq_true p2, decide_eq_true p4, Bool.true_and, Bool.true_and, Bool.true_and]
    refine ⟨(by show 2 ≤ sizeLine; decide), fun y hy => ⟨y, rfl, ⟨_, SqL.of upd_same⟩, ?_⟩⟩
    have e2 := e1.upd' (o := .lst [.int 1, .int 3]) hy
    have hw2 := (Ext.upd (o := .lst [.int 1, .int 3]) hy) _ _ hw1
    have hpt2 := hpt.ext e2
    have hyl : upd (upd (upd H wl (.lst [.str kd, .str mk, .str c0, .str c1, .str c2])) z (.lst [.int 0, .int 2, .int 4])) y (.lst [.int 1, .int 3]) y = some (.lst [.int 1, .int 3]) := upd_same
    generalize upd (upd (upd H wl (.lst [.str kd, .str mk, .str c0, .str c1, .str c2])) z (.lst [.int 0, .int 2, .int 4])) y (.lst [.int 1, .int 3]) = H2 at e2 hw2 hpt2 hyl ⊢
    refine for_list (xs := [V.int 1, .int 3]) (fun i σ H' => Ext H2 H' ∧ (1 ≤ i → sub m mk = true) ∧ (2 ≤ i → sub a c1 = true) ∧ ∃ x5, σ = [some (.ref pt), some (.str kd), some (.str mk), some (.ref cx), some (.ref wl), x5])
      ⟨Ext.rfl', (fun q => by omega), (fun q => by omega), _, rfl⟩ (fun i σ H' _ h => SqL.of (h.1 _ _ hyl)) (fun i x σ H' hx h => ?_) (fun σ H' h => ?_)
    · obtain ⟨ex, o1, o3, x5, rfl⟩ := h
      obtain ⟨j, s, v, rfl, hs, hv, hsm, hvm, hok, hbad⟩ : ∃ (j : Nat) (s v : Str), x = .int j ∧ ([k, m, p, a, e].map V.str)[j]? = some (.str s) ∧ ([V.str kd, .str mk, .str c0, .str c1, .str c2])[j]? = some (.str v) ∧ IsM s ∧ IsMk v ∧
          (sub s v = true → (1 ≤ i + 1 → sub m mk = true) ∧ (2 ≤ i + 1 → sub a c1 = true)) ∧ (sub s v = false → matchB [k, m, p, a, e] kd mk c0 c1 c2 = false) := by
        match i, hx, o1, o3 with
        | 0, hx, _, _ => cases hx; exact ⟨1, m, mk, rfl, rfl, rfl, hm, hm0, fun q => ⟨fun _ => q, fun q => by omega⟩, fun q => by rw [hM, q]; rfl⟩
        | 1, hx, o1, _ => cases hx; exact ⟨3, a, c1, rfl, rfl, rfl, ha, hm1, fun q => ⟨fun _ => o1 (by omega), fun _ => q⟩, fun q => by rw [hM, q, Bool.and_false]⟩
        | i + 2, hx, _, _ => simp at hx
      have hms := mk_sub hsm hvm
      refine ⟨_, rfl, _, rfl, pt, _, _, _, rfl, rfl, hpt2.ext ex, atI_nat (j := j) hs, rfl, _, rfl, ?_⟩
      by_cases q1 : s = ""
      · rw [decide_eq_true q1, Bool.true_or] at hms
        rw [decide_eq_true (congrArg V.str q1)]
        exact iteF ⟨ex, (hok hms.symm).1, (hok hms.symm).2, _, rfl⟩
      · rw [decide_eq_false q1, Bool.false_or] at hms
        rw [decide_eq_false (fun q => q1 (V.str.inj q) : ¬ V.str s = V.str "")]
        refine iteT ⟨_, rfl, _, rfl, pt, _, _, _, rfl, rfl, hpt2.ext ex, atI_nat (j := j) hs, _, rfl, _, rfl, wl, _, _, _, rfl, rfl, SqL.of (ex _ _ hw2), atI_nat (j := j) hv, v, rfl, mk_len hvm, fun l hl => ⟨l, _, rfl, .inl (SqL.of upd_same), rfl, flat_signs v, _, rfl, ?_⟩⟩
        have ex2 := ex.upd' (o := .lst (signsV v)) hl
        show if (!inV (.str s) (signsV v)) = true then _ else _
        rw [hms]
        cases hsub : sub s v with
        | true => exact iteF ⟨ex2, (hok hsub).1, (hok hsub).2, _, rfl⟩
        | false =>
          have zz := kq _ (e2.trans ex2)
          rw [hbad hsub] at zz
          exact iteT zz
    · obtain ⟨ex, o1, o3, x5, rfl⟩ := h
      have zz := kq _ (e2.trans ex)
      rw [hM, o1 (by decide), o3 (by decide)] at zz
      exact zz
end
end Pa
set_option maxRecDepth 100000
set_option maxHeartbeats 4000000
namespace Pa
open PySem PySem.Spec PyProof.Rows L2 RZ StX
structure MethOk (P : Program) (w : World) (K : PySem.W.Frag) (mg : Str → Option Value) (base : Heap) (C : Addr) (k : Nat) (m : Str) (ps : List Str) (sp : Sp) : Prop where
  ok : ∃ (f : Addr) (fd : FuncData), Meth K C m f ∧ Binds K fd ps [] ∧ FnOk P w K mg base CX0 k f fd ps sp
section
variable {X : Cx} {k : Nat} {ps : List Str} {sp : Sp} {m : Str} {C : Addr} {apos pos : Pos} {o e : Expr} {es : List Expr} {t : TA} {ta : TE} {pl : Sem Bool}
theorem pe_mc (he : PE X o ta) (c : Cls X.K C) (M : MethOk X.prog X.w X.K X.mg X.base C k m ps sp) (hr : Room k X.A) (ha : PA X (e :: es) t)
    (hst : starEach (e :: es) X.env = (false, eval e X.env) :: starEach es X.env := by rfl) (hpl : (backTo pos (starEach es X.env)).any (·.1) = false := by rfl)
    (ht : eval (.Call (.Attribute o m apos) (e :: es) [] pos) X.env = (do
      let z ← eval o X.env
      standAt apos.atName
      let (f, first) ← holding [z] (getMethod z m pl)
      callWith pos f first (backTo pos (starEach (e :: es) X.env)) (backToKw pos (keywordEach [] X.env))) := by rfl) :
    PE X (.Call (.Attribute o m apos) (e :: es) [] pos) (tMeth C m sp [] E0 ta t) := by
  obtain ⟨f, fd, h1, h2, h3⟩ := M.ok
  exact pe_meth he c h1 h3 hr h2 .nil pass0 ha hst hpl ht
end
/-- what the settings say of a name -/
def due (n : Str) (sets : List (Str × V)) : List V := match sets.lookup n with
  | some v => [v]
  | none => []
theorem due_take {sets : List (Str × V)} {n : Str} {i : Nat} {y : Str × V} (hnd : (sets.map (·.1)).Nodup) (hy : sets[i]? = some y) : due n (sets.take (i + 1)) = due n (sets.take i) ++ if y.1 = n then [y.2] else [] := by
  have hi := (List.getElem?_eq_some_iff.mp hy).1
  have e1 : sets.take (i + 1) = sets.take i ++ [y] := by rw [List.take_add_one, hy]; rfl
  unfold due
  by_cases e : y.1 = n
  · have h0 : (sets.take i).lookup n = none := by
      cases q : (sets.take i).lookup n with
      | none => rfl
      | some v =>
        have hm := List.mem_map_of_mem (f := (·.1)) (lookup_mem q)
        have n1 : ((sets.take (i + 1)).map (·.1)).Nodup := (List.Sublist.map _ (List.take_sublist _ _)).nodup hnd
        rw [e1, List.map_append, List.nodup_append] at n1
        exact absurd rfl (n1.2.2 n hm n (by simp [e]))
    rw [lookup_take h0 hy, h0, if_pos e, e, beq_self_eq_true]
    rfl
  · have ne : (n == y.1) = false := beq_eq_false_iff_ne.mpr fun q => e q.symm
    have h1 : (sets.take (i + 1)).lookup n = (sets.take i).lookup n := by
      rw [e1, lookup_app, List.lookup_cons, ne]
      cases (sets.take i).lookup n <;> rfl
    rw [h1, if_neg e, List.append_nil]
theorem due_len (n : Str) (sets : List (Str × V)) : (due n sets).length ≤ 1 := by
  unfold due
  split <;> simp
theorem scal_set {n : Str} {v : V} (h : SetOk n v) : scal v v = true ∧ v ≠ .non := by
  rcases h with ⟨_, i, rfl, _⟩ | ⟨_, i, rfl, _⟩ | ⟨_, i, rfl, _⟩ | ⟨_, b, rfl⟩ <;> exact ⟨rfl, fun q => nomatch q⟩
theorem set_repr {n : Str} {v : V} (h : SetOk n v) : (∃ i : Int, v = .int i ∧ i.natAbs.log2 < 1920) ∨ ∃ b, v = .bl b := by
  have sm : ∀ i : Int, 0 ≤ i → i ≤ 6 → i.natAbs.log2 < 1920 := fun i h0 h1 => by
    rcases (by omega : i = 0 ∨ i = 1 ∨ i = 2 ∨ i = 3 ∨ i = 4 ∨ i = 5 ∨ i = 6) with rfl | rfl | rfl | rfl | rfl | rfl | rfl <;> decide
  rcases h with ⟨_, i, rfl, h0, h1⟩ | ⟨_, i, rfl, h0, h1⟩ | ⟨_, i, rfl, h0, h1⟩ | ⟨_, b, rfl⟩
  · exact .inl ⟨i, rfl, sm i h0 (by omega)⟩
  · exact .inl ⟨i, rfl, sm i (by omega) h1⟩
  · exact .inl ⟨i, rfl, sm i h0 (by omega)⟩
  · exact .inr ⟨b, rfl⟩
theorem tup_ty {K : PySem.W.Frag} {H : Hp} {a : Addr} {xs : List V} (h : SqT K H a xs) : TyX K H (.ref a) (.type "tuple") := by
  rcases h with (h | ⟨o, h⟩) | h
  · exact .base (.tup h)
  · exact .fTuple h
  · obtain ⟨o, its, n, e, c, _⟩ := h
    exact .kTuple e c
section
variable {P : Program} {w : World} {K : PySem.W.Frag} {mg : Str → Option Value} {base : Heap} {tv tp tk dl C : Addr}
def spAttr (K : PySem.W.Frag) (C : Addr) : Sp := fun vs H Q _ => ∃ (a r : Addr) (wt : Int) (ps : List Str) (sets : List (Str × V)), vs = [.ref a, .ref r] ∧ RuleAt K C H a wt ps sets ∧ RowAt K H r wt ps sets ∧ Good wt ps sets ∧ ∀ H', Ext H H' → Q (.bl true) H'
abbrev sL_attributes : Stmt := topS 27
theorem scL_attributes : FnScope ["_law_rule", "_law_row", "_law_weight", "_law_pattern", "_law_settings", "_law_name", "_law_due", "_law_own", "_law_value", "_law_told"] ["_law_rule", "_law_row"] (defScope sL_attributes) := ⟨rfl, rfl, rfl, by decide +kernel, rfl, by decide +kernel, by decide +kernel⟩
theorem ok_attr {f : Addr} {fd : FuncData} (F : Fun K "_law_attributes" "_law_attributes" sL_attributes f fd) (T : Txt K w mg tv tp tk dl C) (R : TxR K C) (M_setting : MethOk P w K mg base C 1 "setting" ["self", "name"] (spSetting K C)) : FnOk P w K mg base CX0 2 f fd ["_law_rule", "_law_row"] (spAttr K C) := by
  refine F.ok scL_attributes (fun vs H Q E h => ?_) (fun cdv A outer s H vs Q E hr h => ?_)
  · obtain ⟨a, r, wt, ps, sets, rfl, _⟩ := h
    rfl
  · obtain ⟨a, r, wt, ps, sets, rfl, hR, hW, hG, kq⟩ := h
    obtain ⟨dx, pt, st, rs, h1, h2, h3, h4⟩ := hR.ex
    obtain ⟨pt', st', rs', g0, g2, g3, g4⟩ := hW.ex
    have hnd := hG.sub.nodup
    refine ⟨_, (pss_cons (ps_asg (pv 1) (pg_tup rfl (pgs_cons (pg_name (i := 2) scL_attributes.nd rfl (.inl rfl)) (pgs_cons (pg_name (i := 3) scL_attributes.nd rfl (.inl rfl)) (pgs_cons (pg_name (i := 4) scL_attributes.nd rfl (.inl rfl)) pgs_nil)))))
      (pss_cons (ps_if (PW.pt (pw_or (pt_val (pe_callB call_isi (by rfl) T.b_isinstance (by decide +kernel) (pa_cons (pe_fld (pv 0) rfl) (pa_cons (pe_bltn (v := .ty "bool") (by rfl) T.b_bool (by decide +kernel) rfl) pa_nil)))) (pw_or (pt_not (pt_val (pe_callB call_isi (by rfl) T.b_isinstance (by decide +kernel) (pa_cons (pe_fld (pv 0) rfl) (pa_cons (pe_bltn (v := .ty "int") (by rfl) T.b_int (by decide +kernel) rfl) pa_nil))))) (pw_or1 (pt_cmpR op_ne (pe_fld (pv 0) rfl) (pv 2) (nomark _))))))
        (pss_one (ps_ret pe_bl))
        pss_nil)
      (pss_cons (ps_if (PW.pt (pw_or (pt_not (pt_val (pe_callB call_isi (by rfl) T.b_isinstance (by decide +kernel) (pa_cons (pe_fld (pv 0) rfl) (pa_cons (pe_bltn (v := .ty "tuple") (by rfl) T.b_tuple (by decide +kernel) rfl) pa_nil))))) (pw_or1 (pt_cmpR (op_neD hr.units) (pe_fld (pv 0) rfl) (pv 3) (nomark _)))))
        (pss_one (ps_ret pe_bl))
        pss_nil)
      (pss_cons (ps_if (PW.pt (pw_or (pt_not (pt_val (pe_callB call_isi (by rfl) T.b_isinstance (by decide +kernel) (pa_cons (pe_fld (pv 0) rfl) (pa_cons (pe_bltn (v := .ty "tuple") (by rfl) T.b_tuple (by decide +kernel) rfl) pa_nil))))) (pw_or1 (pt_cmpR (op_neD hr.units) (pe_fld (pv 0) rfl) (pv 4) (nomark _)))))
        (pss_one (ps_ret pe_bl))
        pss_nil)
      (pss_cons (ps_for PassesOwn.never rfl (pi_list (pe_lst (pa_cons pe_str (pa_cons pe_str (pa_cons pe_str (pa_cons pe_str (pa_cons pe_str (pa_cons pe_str pa_nil)))))))) (pg_name (i := 5) scL_attributes.nd rfl (.inr rfl))
        (pss_cons (ps_setLc (i := 6) (own := [("_law_own", 7), ("_law_value", 8)]) (g := gTup K 2 (gCons (gName 7) (gCons (gName 8) gNil))) rfl scL_attributes.nd rfl rfl (sw_true rfl rfl rfl (by decide +kernel)) (pi_tup (pv 4)) (blkOk_by (N := ["_law_rule", "_law_row", "_law_weight", "_law_pattern", "_law_settings", "_law_name", "_law_due", "_law_own", "_law_value", "_law_told"]) (sc := defScope sL_attributes) (by decide +kernel)) (fun _ _ _ _ _ => (pg_tup rfl (pgs_cons (pg_name (i := 7) scL_attributes.nd rfl (.inl rfl)) (pgs_cons (pg_name (i := 8) scL_attributes.nd rfl (.inl rfl)) pgs_nil)))) (fun _ _ _ _ _ => (pts_one (pt_cmpR op_eq (pv 7) (pv 5) (nomark _)))) (fun _ _ _ _ _ => (pv 8)))
        (pss_cons (ps_set (i := 9) scL_attributes.nd rfl (.inl rfl) (pe_mc (pv 0) R.cl M_setting (hr.mono (by decide)) (pa_cons (pv 5) pa_nil)))
        (pss_one (ps_if (PW.pt (pw_or (pt_cmpR op_ne (pe_cmpR (op_eqD hr.units) (pv 6) (pe_lst pa_nil) (nomark _)) (pe_cmpR op_isN (pv 9) pe_non (nomark _)) (nomark _)) (pw_or1 (PW.pt (pw_and (pt_cmpR (op_neD hr.units) (pv 6) (pe_lst pa_nil) (nomark _)) (pw_and1 (PW.pt (pw_or (pt_cmpR op_ne (pv 9) (pe_ix ix_list (pv 6) pe_int (fun _ _ => rfl)) (nomark _)) (pw_or1 (pt_cmpR op_ne (pe_callB call_repr_ib (by rfl) T.b_repr (by decide +kernel) (pa_cons (pv 9) pa_nil)) (pe_callB call_repr_ib (by rfl) T.b_repr (by decide +kernel) (pa_cons (pe_ix ix_list (pv 6) pe_int (fun _ _ => rfl)) pa_nil)) (nomark _)))))))))))
          (pss_one (ps_ret pe_bl))
          pss_nil)))))
      (pss_one (ps_ret pe_bl))))))), ?_⟩
    refine ⟨_, rfl, r, _, rfl, g0, rfl, _, _, rfl, _, _, rfl, _, _, rfl, rfl, ?_⟩
    refine ⟨_, rfl, a, C, dx, _, _, rfl, h1, R.cl, R.nw, rfl, _, _, _, _, false, rfl, .ty _, .base (.int wt), kit_ty (by decide +kernel), _, rfl, iteF ?_⟩
    refine ⟨_, rfl, a, C, dx, _, _, rfl, h1, R.cl, R.nw, rfl, _, _, _, _, true, rfl, .ty _, .base (.int wt), kit_ty (by decide +kernel), _, rfl, iteF ?_⟩
    refine ⟨_, rfl, a, C, dx, _, _, rfl, h1, R.cl, R.nw, rfl, _, rfl, rfl, _, rfl, ?_⟩
    rw [decide_eq_true (rfl : V.int wt = V.int wt)]
    refine iteF ?_
    refine ⟨_, rfl, a, C, dx, _, _, rfl, h1, R.cl, R.np, rfl, _, _, _, _, true, rfl, .ty _, tup_ty h2, kit_ty (by decide +kernel), _, rfl, iteF ?_⟩
    refine ⟨_, rfl, a, C, dx, _, _, rfl, h1, R.cl, R.np, rfl, _, rfl, _, _, .tup h2 (dp_strs _), .tup g2 (dp_strs _), sh_tup (pat_all hG.ps), sh_tup (pat_all hG.ps), ?_⟩
    rw [e_tt, strs_eqv, decide_eq_true rfl]
    refine ⟨_, rfl, iteF ?_⟩
    refine ⟨_, rfl, a, C, dx, _, _, rfl, h1, R.cl, R.ns, rfl, _, _, _, _, true, rfl, .ty _, tup_ty h3, kit_ty (by decide +kernel), _, rfl, iteF ?_⟩
    refine ⟨_, rfl, a, C, dx, _, _, rfl, h1, R.cl, R.ns, rfl, _, rfl, _, _, .tup h3 (dp_sets h4 hG.ok), .tup g3 (dp_sets g4 hG.ok), sh_tup (fun x hx => pair_lay (hG.ok x hx)), sh_tup (fun x hx => pair_lay (hG.ok x hx)), ?_⟩
    rw [e_tt, pairs_eqv hG.ok hG.ok, decide_eq_true rfl]
    refine ⟨_, rfl, iteF ?_⟩
    refine ⟨(by show 6 ≤ sizeLine; decide), fun z hz => ⟨z, rfl, ⟨_, SqL.of upd_same⟩, ?_⟩⟩
    have hzl : upd H z (.lst (VN.map V.str)) z = some (.lst (VN.map V.str)) := upd_same
    refine for_list (xs := VN.map V.str) (fun i σ H' => Ext (upd H z (.lst (VN.map V.str))) H' ∧ ∃ x5 x6 x7 x8 x9, σ = [some (.ref a), some (.ref r), some (.int wt), some (.ref pt'), some (.ref st'), x5, x6, x7, x8, x9])
      ⟨Ext.rfl', _, _, _, _, _, rfl⟩ (fun i σ H' _ h => SqL.of (h.1 _ _ hzl)) (fun i x σ H' hx h => ?_) (fun σ H' h => kq _ ((Ext.upd hz).trans h.1))
    obtain ⟨ex, x5, x6, x7, x8, x9, rfl⟩ := h
    obtain ⟨n, _, rfl⟩ := strs_at hx
    have e0 : Ext H H' := (Ext.upd hz).trans ex
    refine ⟨_, rfl, st', rfl, ⟨_, g3.ext e0⟩, fun D hD => ?_⟩
    refine lc_tup (xs := rs'.map V.ref) (fun i H2 => (∀ q u, q ≠ D → H' q = some u → H2 q = some u) ∧ H2 D = some (.lst (due n (sets.take i)))) ⟨fun q u hq e => by rw [upd_ne hq]; exact e, upd_same⟩ (fun i H2 _ h => (g3.ext e0).ext fun q u e => h.1 q u (ne_of_none e hD) e) (fun i v H2 hv h => ?_) (fun H2 h => ?_)
    · obtain ⟨k1, k2⟩ := h
      obtain ⟨q, y, rfl, hy, hq⟩ := sets_at g4 hv
      have e2 : Ext H' H2 := fun q u e => k1 q u (ne_of_none e hD) e
      refine ⟨q, _, rfl, (hq.ext e0).ext e2, rfl, _, _, rfl, _, _, rfl, rfl, rfl, _, rfl, _, rfl, rfl, _, rfl, ?_⟩
      have ed := due_take (n := n) hnd hy
      by_cases e : y.1 = n
      · rw [decide_eq_true (congrArg V.str e)]
        rw [if_pos e] at ed
        refine iteT ⟨_, rfl, _, k2, ?_, fun q u hq e => by rw [upd_ne hq]; exact k1 q u hq e, ?_⟩
        · have := due_len n (sets.take i)
          exact Nat.lt_of_le_of_lt this (by decide)
        · rw [upd_same, ed]
      · rw [decide_eq_false (fun q => e (V.str.inj q) : ¬ V.str y.1 = V.str n)]
        rw [if_neg e, List.append_nil] at ed
        exact iteF ⟨k1, by rw [ed]; exact k2⟩
    obtain ⟨k1, k2⟩ := h
    have e2 : Ext H' H2 := fun q u e => k1 q u (ne_of_none e hD) e
    rw [List.length_map, Paired.length g4, List.take_length] at k2
    have e3 := e0.trans e2
    have h12 := e3 _ _ h1
    refine ⟨_, rfl, a, dx, _, rfl, h12, rfl, _, rfl, a, n, wt, ps, sets, rfl, hR.ext e3, ?_⟩
    have emp : SeqAt.shaped (.list []) = true := by simp [SeqAt.shaped, PyData.canLay0, PyData.canLayAll0, PyData.depth, PyData.depthAll]
    have ee := ex.trans e2
    cases hlk : sets.lookup n with
    | none =>
      have hdu : due n sets = [] := by unfold due; rw [hlk]
      rw [hdu] at k2
      refine ⟨_, rfl, (by show 0 ≤ sizeLine; decide), fun l hl => ?_⟩
      have ea := Ext.upd (o := .lst []) hl
      refine ⟨_, _, .lst (SqL.ext (SqL.of k2) ea) .nil, .lst (SqL.of upd_same) .nil, emp, emp, ?_⟩
      rw [e_ll, e_nil]
      refine ⟨_, rfl, rfl, rfl, _, rfl, iteF ?_⟩
      refine ⟨_, rfl, (by show 0 ≤ sizeLine; decide), fun l2 hl2 => ?_⟩
      have eb := Ext.upd (o := .lst []) hl2
      refine ⟨_, _, .lst (SqL.ext (SqL.ext (SqL.of k2) ea) eb) .nil, .lst (SqL.of upd_same) .nil, emp, emp, ?_⟩
      rw [e_ll, e_nil]
      exact ⟨_, rfl, iteF (iteF ⟨(ee.trans ea).trans eb, _, _, _, _, _, rfl⟩)⟩
    | some v =>
      have hdu : due n sets = [v] := by unfold due; rw [hlk]
      rw [hdu] at k2
      have hv := hG.ok _ (lookup_mem hlk)
      obtain ⟨hsc, hnn⟩ := scal_set hv
      have shv : SeqAt.shaped (.list [vD v]) = true := sh_lst (f := vD) (xs := [v]) (fun x hx => by
        rw [List.mem_singleton.mp hx]
        exact ⟨(vD_lay hv).1, by rw [(vD_lay hv).2]; exact Nat.zero_le _⟩)
      refine ⟨_, rfl, (by show 0 ≤ sizeLine; decide), fun l hl => ?_⟩
      have ea := Ext.upd (o := .lst []) hl
      refine ⟨_, _, .lst (SqL.ext (SqL.of k2) ea) (.cons (dp_v hv) .nil), .lst (SqL.of upd_same) .nil, shv, emp, ?_⟩
      rw [e_ll, e_cn]
      refine ⟨_, rfl, rfl, rfl, _, rfl, ?_⟩
      show if (!decide (V.bl false = V.bl (decide (v = V.non)))) = true then _ else _
      rw [decide_eq_false hnn]
      refine iteF ?_
      refine ⟨_, rfl, (by show 0 ≤ sizeLine; decide), fun l2 hl2 => ?_⟩
      have eb := Ext.upd (o := .lst []) hl2
      have k3 := eb _ _ (ea _ _ k2)
      refine ⟨_, _, .lst (SqL.of k3) (.cons (dp_v hv) .nil), .lst (SqL.of upd_same) .nil, shv, emp, ?_⟩
      rw [e_ll, e_cn]
      refine ⟨_, rfl, iteT ?_⟩
      refine ⟨_, rfl, _, rfl, D, _, _, _, rfl, rfl, SqL.of k3, atI_nat (j := 0) rfl, hsc, _, rfl, ?_⟩
      show if (!decide (v = v)) = true then _ else _
      rw [decide_eq_true rfl]
      refine iteF ?_
      have done : Ext (upd H z (.lst (VN.map V.str))) (upd (upd H2 l (.lst [])) l2 (.lst [])) := (ee.trans ea).trans eb
      rcases set_repr hv with ⟨j, rfl, hj⟩ | ⟨j, rfl⟩
      · refine ⟨_, rfl, .inl ⟨j, rfl, hj, _, rfl, D, _, _, _, rfl, rfl, SqL.of k3, atI_nat (j := 0) rfl, .inl ⟨j, rfl, hj, rfl, _, rfl, ?_⟩⟩⟩
        rw [decide_eq_true rfl]
        exact iteF ⟨done, _, _, _, _, _, rfl⟩
      · refine ⟨_, rfl, .inr ⟨j, rfl, _, rfl, D, _, _, _, rfl, rfl, SqL.of k3, atI_nat (j := 0) rfl, .inr ⟨j, rfl, rfl, _, rfl, ?_⟩⟩⟩
        rw [decide_eq_true rfl]
        exact iteF ⟨done, _, _, _, _, _, rfl⟩
end
end Pa
set_option maxRecDepth 100000
set_option maxHeartbeats 4000000
namespace Pa
open PySem PySem.Spec PyProof.Rows L2 RZ StX
theorem cut_take {xs : List V} {j : Nat} (hj : j ≤ xs.length) : cutV xs none (some (j : Int)) = xs.take j := by
  unfold cutV
  rw [HT.sIx_none, HT.sIx_nat, Nat.min_eq_left hj, List.drop_zero, Nat.sub_zero]
theorem cut_drop {xs : List V} {j : Nat} (hj : j ≤ xs.length) : cutV xs (some (j : Int)) none = xs.drop j := by
  unfold cutV
  rw [HT.sIx_none, HT.sIx_nat, Nat.min_eq_left hj]
  exact List.take_of_length_le (by rw [List.length_drop]; exact Nat.le_refl _)
theorem cat_red {K : PySem.W.Frag} {H : Hp} {a b : Addr} {xs ys : List V} {Q : VK} (hx : SqT K H a xs) (hy : SqT K H b ys) (hl : xs.length + ys.length ≤ sizeLine) (k : ∀ q H', Ext H H' → SqT K H' q (xs ++ ys) → Q (.ref q) H') : rCatA K (.ref a) (.ref b) H Q := by
  refine ⟨a, b, xs, ys, rfl, rfl, hx, hy, hl, fun e => ?_, fun _ e => ?_, fun _ _ p hp => k p _ (Ext.upd hp) (SqT.of upd_same)⟩
  · subst e
    exact k b H Ext.rfl' hy
  · subst e
    rw [List.append_nil] at k
    exact k a H Ext.rfl' hx
theorem cut_red {K : PySem.W.Frag} {H : Hp} {a : Addr} {xs : List V} {lo hi : Option Int} {Q : VK} (hx : SqT K H a xs) (k : ∀ q H', Ext H H' → SqT K H' q (cutV xs lo hi) → Q (.ref q) H') : rSlA K (.ref a) lo hi H Q := by
  refine ⟨a, xs, rfl, hx, fun e => ?_, fun _ p hp => k p _ (Ext.upd hp) (SqT.of upd_same)⟩
  have ec : cutV xs lo hi = xs := by
    unfold cutV
    rw [e.1, e.2, List.drop_zero, Nat.sub_zero, List.take_length]
  rw [ec] at k
  exact k a H Ext.rfl' hx
theorem set_cut {α : Type} {xs : List α} {j : Nat} {v : α} (hj : j < xs.length) : xs.take j ++ [v] ++ xs.drop (j + 1) = xs.set j v := by
  rw [List.set_eq_take_append_cons_drop, if_pos hj, List.append_assoc]
  rfl
theorem map_set' {α β : Type} (f : α → β) (xs : List α) (j : Nat) (v : α) : (xs.set j v).map f = (xs.map f).set j (f v) := List.map_set
theorem sets_set {K : PySem.W.Frag} {H : Hp} {rs : List Addr} {sets : List (Str × V)} {r : Addr} {x : Str × V} (h : Sets K H rs sets) (hx : SqT K H r [.str x.1, x.2]) : ∀ j, Sets K H (rs.set j r) (sets.set j x) := by
  unfold Sets at *
  induction h with
  | nil => intro j; exact .nil
  | cons a _ ih =>
    intro j
    cases j with
    | zero => exact .cons hx (by assumption)
    | succ j => exact .cons a (ih j)
theorem set_ne {α : Type} {xs : List α} {j : Nat} {v y : α} (hy : xs[j]? = some y) (hv : v ≠ y) : xs ≠ xs.set j v := fun e => by
  have hj := (List.getElem?_eq_some_iff.mp hy).1
  have h2 : (xs.set j v)[j]? = some v := by rw [List.getElem?_set_self hj]
  rw [← e, hy] at h2
  exact hv (Option.some.inj h2).symm
theorem pat_set {ps : List Str} (h : PatOk ps) {j : Nat} {t : Str} (hj : j < 5) (hm : j = 1 ∨ j = 3 → IsM t) (hk : ¬ (j = 1 ∨ j = 3) → IsK t) : PatOk (ps.set j t) := by
  obtain ⟨k, m, p, a, e, rfl, h1, h2, h3, h4, h5⟩ := h
  match j, hj, hm, hk with
  | 0, _, _, hk => exact ⟨t, m, p, a, e, rfl, hk (by decide), h2, h3, h4, h5⟩
  | 1, _, hm, _ => exact ⟨k, t, p, a, e, rfl, h1, hm (by decide), h3, h4, h5⟩
  | 2, _, _, hk => exact ⟨k, m, t, a, e, rfl, h1, h2, hk (by decide), h4, h5⟩
  | 3, _, hm, _ => exact ⟨k, m, p, t, e, rfl, h1, h2, h3, hm (by decide), h5⟩
  | 4, _, _, hk => exact ⟨k, m, p, a, t, rfl, h1, h2, h3, h4, hk (by decide)⟩
  | j + 5, hj, _, _ => omega
theorem good_set {wt : Int} {ps : List Str} {sets : List (Str × V)} (G : Good wt ps sets) {j : Nat} {n : Str} {v v' : V} (hy : sets[j]? = some (n, v)) (hv : SetOk n v') : Good wt ps (sets.set j (n, v')) := by
  refine ⟨G.w0, G.w9, G.ps, fun x hx => ?_, ?_, fun q => ?_⟩
  · rcases List.mem_or_eq_of_mem_set hx with q | q
    · exact G.ok x q
    · rw [q]
      exact hv
  · have e : (sets.set j (n, v')).map (·.1) = sets.map (·.1) := by
      rw [map_set' (fun x : Str × V => x.1)]
      refine List.ext_getElem? fun i => ?_
      rw [List.getElem?_set]
      split
      · rename_i q
        subst q
        rw [List.getElem?_map, hy]
        split <;> simp_all
      · rfl
    unfold Sub
    rw [e]
    exact G.sub
  · have := congrArg List.length q
    rw [List.length_set] at this
    exact G.ne (List.length_eq_zero_iff.mp this)
theorem other_sign (l : List Str) (h : ∃ a ∈ l, ∃ b ∈ l, a ≠ b) (t : Str) : ∃ s ∈ l, s ≠ t := by
  obtain ⟨a, ha, b, hb, hab⟩ := h
  by_cases q : a = t
  · exact ⟨b, hb, fun e => hab (q.trans e.symm)⟩
  · exact ⟨a, ha, q⟩
theorem with_tail {A B C' D' L : TS} {D : Ends} {σ : L2.St} {H : Hp} (cond : V → Hp → Prop) (σf : V → L2.St) (h : (∀ v H', cond v H' → L D (σf v) H') → tSeq A (tSeq B (tSeq C' (tSeq D' L))) D σ H) (hL : ∀ v H', cond v H' → L D (σf v) H') : tSeq A (tSeq B (tSeq C' (tSeq D' L))) D σ H := h hL
section
variable {P : Program} {w : World} {K : PySem.W.Frag} {mg : Str → Option Value} {base : Heap} {tv tp tk dl C : Addr}
def spOther (K : PySem.W.Frag) : Sp := fun vs H Q _ => ∃ (b r : Addr) (wt : Int) (ps : List Str) (sets : List (Str × V)), vs = [.ref b, .ref r] ∧ IsBag H b ∧ RowAt K H r wt ps sets ∧ Good wt ps sets ∧
  ∀ p H' wt' ps' sets', Good wt' ps' sets' → ¬ (wt = wt' ∧ ps = ps' ∧ sets = sets') → Bk b H H' → RowAt K H' p wt' ps' sets' → Q (.ref p) H'
abbrev sL_other : Stmt := topS 28
theorem scL_other : FnScope ["_law_bag_here", "_law_row", "_law_weight", "_law_pattern", "_law_settings", "_law_way", "_law_at", "_law_signs", "_law_text", "_law_sign", "_law_name", "_law_value", "_law_fresh"] ["_law_bag_here", "_law_row"] (defScope sL_other) := ⟨rfl, rfl, rfl, by decide +kernel, rfl, by decide +kernel, by decide +kernel⟩
theorem ok_other {f : Addr} {fd : FuncData} (F : Fun K "_law_other" "_law_other" sL_other f fd) (T : Txt K w mg tv tp tk dl C) (C__law_draw : CallOk P w K mg base 1 "_law_draw" ["_law_bag_here", "_law_many"] spDraw) (C__law_one : CallOk P w K mg base 2 "_law_one" ["_law_bag_here", "_law_things"] (spOne K)) :
    FnOk P w K mg base CX0 3 f fd ["_law_bag_here", "_law_row"] (spOther K) := by
  refine F.ok scL_other (fun vs H Q E h => ?_) (fun cdv A outer s H vs Q E hr h => ?_)
  · obtain ⟨b, r, wt, ps, sets, rfl, _⟩ := h
    rfl
  · obtain ⟨b, r, wt, ps, sets, rfl, hb, hW, hG, kq⟩ := h
    obtain ⟨pt, st, rs, g0, g2, g3, g4⟩ := hW.ex
    have hnd := hG.sub.nodup
    have hsl := hG.sub.len
    have hlen : rs.length = sets.length := Paired.length g4
    refine ⟨_, (pss_cons (ps_asg (pv 1) (pg_tup rfl (pgs_cons (pg_name (i := 2) scL_other.nd rfl (.inl rfl)) (pgs_cons (pg_name (i := 3) scL_other.nd rfl (.inr rfl)) (pgs_cons (pg_name (i := 4) scL_other.nd rfl (.inl rfl)) pgs_nil)))))
      (pss_cons (ps_set (i := 5) scL_other.nd rfl (.inl rfl) (pe_cc C__law_draw (hr.mono (by decide)) (by rfl) (pa_cons (pv 0) (pa_cons pe_int pa_nil))))
      (pss_cons (ps_if (pt_cmpR op_eq (pv 5) pe_int (nomark _))
        (pss_one (ps_ret (pe_tup (pa_cons (pe_op op_mod (pe_callTy call_int1 (by rfl) T.b_int (by decide +kernel) (pa_cons (pe_op op_add (pe_op op_add (pv 2) pe_int) (pe_cc C__law_draw (hr.mono (by decide)) (by rfl) (pa_cons (pv 0) (pa_cons pe_int pa_nil)))) pa_nil)) pe_int) (pa_cons (pv 3) (pa_cons (pv 4) pa_nil))))))
        pss_nil)
      (pss_cons (ps_if (pt_cmpR op_eq (pv 5) pe_int (nomark _))
        (pss_cons (ps_set (i := 6) scL_other.nd rfl (.inr rfl) (pe_cc C__law_draw (hr.mono (by decide)) (by rfl) (pa_cons (pv 0) (pa_cons pe_int pa_nil))))
        (pss_cons (ps_set (i := 7) scL_other.nd rfl (.inl rfl) (pe_ifExp (pt_cmpR op_in_seq (pv 6) (pe_lst (pa_cons pe_int (pa_cons pe_int pa_nil))) (by rfl)) (pe_lst (pa_cons pe_str (pa_cons pe_str (pa_cons pe_str pa_nil)))) (pe_lst (pa_cons pe_str (pa_cons pe_str (pa_cons pe_str (pa_cons pe_str pa_nil)))))))
        (pss_cons (ps_set (i := 8) scL_other.nd rfl (.inl rfl) (pe_cc C__law_one (hr.mono (by decide)) (by rfl) (pa_cons (pv 0) (pa_cons (pe_lc (own := [("_law_sign", 9)]) (g := gName 9) rfl scL_other.nd (pi_list (pv 7)) (blkOk_by (N := ["_law_bag_here", "_law_row", "_law_weight", "_law_pattern", "_law_settings", "_law_way", "_law_at", "_law_signs", "_law_text", "_law_sign", "_law_name", "_law_value", "_law_fresh"]) (sc := defScope sL_other) (by decide +kernel)) (fun _ _ _ _ _ => (pg_name (i := 9) scL_other.nd rfl (.inl rfl))) (fun _ _ _ _ _ => (pts_one (pt_cmpR op_ne (pv 9) (pe_ix (r := rIxT K) ix_tup (pv 3) (pv 6) (fun _ _ => rfl)) (nomark _)))) (fun _ _ _ _ _ => (pv 9))) pa_nil))))
        (pss_one (ps_ret (pe_tup (pa_cons (pv 2) (pa_cons (pe_op op_catA (pe_op op_catA (pe_slice sl_tupA (pv 3) po_none (po_some (pv 6))) (pe_tup (pa_cons (pv 8) pa_nil))) (pe_slice sl_tupA (pv 3) (po_some (pe_op op_add (pv 6) pe_int)) po_none)) (pa_cons (pv 4) pa_nil)))))))))
        pss_nil)
      (pss_cons (ps_set (i := 6) scL_other.nd rfl (.inr rfl) (pe_cc C__law_draw (hr.mono (by decide)) (by rfl) (pa_cons (pv 0) (pa_cons (pe_callB call_len_seq (by rfl) T.b_len PySem.boot_len (pa_cons (pv 4) pa_nil)) pa_nil))))
      (pss_cons (ps_asg (pe_ix ix_tup (pv 4) (pv 6) (fun _ _ => rfl)) (pg_tup rfl (pgs_cons (pg_name (i := 10) scL_other.nd rfl (.inl rfl)) (pgs_cons (pg_name (i := 11) scL_other.nd rfl (.inl rfl)) pgs_nil))))
      (pss_cons (ps_set (i := 12) scL_other.nd rfl (.inl rfl) (pe_notT (pv 11)))
      (pss_cons (ps_if (pt_cmpR op_eq (pv 10) pe_str (nomark _))
        (pss_one (ps_set (i := 12) scL_other.nd rfl (.inl rfl) (pe_op op_sub pe_int (pv 11))))
        pss_nil)
      (pss_cons (ps_if (pt_cmpR op_eq (pv 10) pe_str (nomark _))
        (pss_one (ps_set (i := 12) scL_other.nd rfl (.inl rfl) (pe_op op_mod (pe_callTy call_int1 (by rfl) T.b_int (by decide +kernel) (pa_cons (pe_op op_add (pe_op op_add (pv 11) pe_int) (pe_cc C__law_draw (hr.mono (by decide)) (by rfl) (pa_cons (pv 0) (pa_cons pe_int pa_nil)))) pa_nil)) pe_int)))
        pss_nil)
      (pss_cons (ps_if (pt_cmpR op_eq (pv 10) pe_str (nomark _))
        (pss_one (ps_set (i := 12) scL_other.nd rfl (.inl rfl) (pe_op op_add (pe_op op_mod (pe_callTy call_int1 (by rfl) T.b_int (by decide +kernel) (pa_cons (pv 11) pa_nil)) pe_int) pe_int)))
        pss_nil)
      (pss_one (ps_ret (pe_tup (pa_cons (pv 2) (pa_cons (pv 3) (pa_cons (pe_op op_catA (pe_op op_catA (pe_slice sl_tupA (pv 4) po_none (po_some (pv 6))) (pe_tup (pa_cons (pe_tup (pa_cons (pv 10) (pa_cons (pv 12) pa_nil))) pa_nil))) (pe_slice sl_tupA (pv 4) (po_some (pe_op op_add (pv 6) pe_int)) po_none)) pa_nil)))))))))))))))), ?_⟩
    refine ⟨_, rfl, r, _, rfl, g0, rfl, _, _, rfl, _, _, rfl, _, _, rfl, rfl, ?_⟩
    refine ⟨_, rfl, b, 3, rfl, hb, by decide, by decide, fun dw H1 w0 w1 B1 => ⟨_, rfl, rfl, _, rfl, ?_⟩⟩
    have g21 := B1.T hb g2
    have g31 := B1.T hb g3
    have g41 := B1.S hb g4
    by_cases q0 : dw = 0
    · rw [decide_eq_true (congrArg V.int q0)]
      refine iteT ⟨_, rfl, _, _, rfl, rfl, _, rfl, b, 9, rfl, B1.bag, by decide, by decide, fun d2 H2 h0 h1 B2 => ⟨_, _, rfl, rfl, .inl ⟨_, rfl, _, _, rfl, rfl, (by show (0 : Int) < 10; decide), _, rfl, _, rfl, (by show 3 ≤ sizeLine; decide), fun p hp => ?_⟩⟩⟩
      have e := Ext.upd (o := .tup [.int ((wt + 1 + d2) % 10), .ref pt, .ref st]) hp
      have hw0 := hG.w0
      have hw9 := hG.w9
      refine kq p _ ((wt + 1 + d2) % 10) ps sets ⟨by omega, by omega, hG.ps, hG.ok, hG.sub, hG.ne⟩ (fun q => ?_) ((B1.trans B2).fresh hp) ⟨pt, st, rs, SqT.of upd_same, (B2.T B1.bag g21).ext e, (B2.T B1.bag g31).ext e, (B2.S B1.bag g41).ext e⟩
      have := q.1
      omega
    · rw [decide_eq_false (fun q => q0 (V.int.inj q) : ¬ V.int dw = V.int 0)]
      refine iteF ⟨_, rfl, rfl, _, rfl, ?_⟩
      by_cases q1 : dw = 1
      · rw [decide_eq_true (congrArg V.int q1)]
        refine iteT ?_
        refine ⟨_, rfl, b, 5, rfl, B1.bag, by decide, by decide, fun d H2 h0 h1 B2 => ?_⟩
        obtain ⟨j, rfl⟩ : ∃ j : Nat, d = (j : Int) := ⟨d.toNat, by omega⟩
        have hj : j < 5 := by omega
        have g22 := B2.T B1.bag g21
        have hpl := pat_len hG.ps
        obtain ⟨tj, htj⟩ : ∃ tj, ps[j]? = some tj := ⟨ps[j]'(by omega), List.getElem?_eq_getElem _⟩
        have htj' : (ps.map V.str)[j]? = some (.str tj) := by rw [List.getElem?_map, htj]; rfl
        refine join1 (α := { p : Addr × List Str × Hp // Bk b H2 p.2.2 ∧ p.2.2 p.1 = some (.lst (p.2.1.map V.str)) ∧ p.1 ≠ b ∧ p.2.1.length ≤ 4 ∧ (∀ s ∈ p.2.1, (j = 1 ∨ j = 3 → IsM s) ∧ (¬ (j = 1 ∨ j = 3) → IsK s)) ∧ ∃ x ∈ p.2.1, ∃ y ∈ p.2.1, x ≠ y }) (G := ?G) (fun rest => ?br) (fun y => ?fin)
        case br =>
          refine ⟨_, rfl, (by show 2 ≤ sizeLine; decide), fun l hl => ⟨l, _, rfl, .inl (SqL.of upd_same), rfl, rfl, _, rfl, ?_⟩⟩
          have B3 := (Bk.of B2.bag Ext.rfl').fresh (o := .lst [.int 1, .int 3]) hl
          have ev : inV (.int (j : Int)) [.int 1, .int 3] = decide ((j : Int) ∈ ([1, 3] : List Int)) := inV_int j [1, 3]
          show if inV (.int (j : Int)) [.int 1, .int 3] = true then _ else _
          rw [ev]
          by_cases hm : (j : Int) ∈ ([1, 3] : List Int)
          · rw [decide_eq_true hm]
            have hj13 : j = 1 ∨ j = 3 := by
              simp only [List.mem_cons, List.not_mem_nil, or_false] at hm
              omega
            refine iteT ⟨(by show 3 ≤ sizeLine; decide), fun sg hsg => ?_⟩
            have hc : upd (upd H2 l (.lst [.int 1, .int 3])) sg (.lst ((["", "x", "y"] : List Str).map V.str)) sg = some (.lst ((["", "x", "y"] : List Str).map V.str)) := upd_same
            obtain ⟨y, e1, e2⟩ : ∃ y : { p : Addr × List Str × Hp // Bk b H2 p.2.2 ∧ p.2.2 p.1 = some (.lst (p.2.1.map V.str)) ∧ p.1 ≠ b ∧ p.2.1.length ≤ 4 ∧ (∀ s ∈ p.2.1, (j = 1 ∨ j = 3 → IsM s) ∧ (¬ (j = 1 ∨ j = 3) → IsK s)) ∧ ∃ x ∈ p.2.1, ∃ y ∈ p.2.1, x ≠ y }, sg = y.1.1 ∧ upd (upd H2 l (.lst [.int 1, .int 3])) sg (.lst ((["", "x", "y"] : List Str).map V.str)) = y.1.2.2 :=
              ⟨⟨(sg, ["", "x", "y"], _), B3.fresh hsg, hc, fresh_ne B3.bag hsg, (show 3 ≤ 4 by decide), (fun s hs => ⟨fun _ => by simpa [IsM] using hs, fun q => absurd hj13 q⟩), (show ∃ x ∈ (["", "x", "y"] : List Str), ∃ y ∈ (["", "x", "y"] : List Str), x ≠ y from ⟨"", by decide, "x", by decide, by decide⟩)⟩, rfl, rfl⟩
            have e2' : upd (upd H2 l (.lst [.int 1, .int 3])) sg (.lst [.str "", .str "x", .str "y"]) = y.1.2.2 := e2
            rw [e2', e1]
            exact rest y
          · rw [decide_eq_false hm]
            have hj13 : ¬ (j = 1 ∨ j = 3) := by
              simp only [List.mem_cons, List.not_mem_nil, or_false] at hm
              omega
            refine iteF ⟨(by show 4 ≤ sizeLine; decide), fun sg hsg => ?_⟩
            have hc : upd (upd H2 l (.lst [.int 1, .int 3])) sg (.lst ((["", "A", "B", "C"] : List Str).map V.str)) sg = some (.lst ((["", "A", "B", "C"] : List Str).map V.str)) := upd_same
            obtain ⟨y, e1, e2⟩ : ∃ y : { p : Addr × List Str × Hp // Bk b H2 p.2.2 ∧ p.2.2 p.1 = some (.lst (p.2.1.map V.str)) ∧ p.1 ≠ b ∧ p.2.1.length ≤ 4 ∧ (∀ s ∈ p.2.1, (j = 1 ∨ j = 3 → IsM s) ∧ (¬ (j = 1 ∨ j = 3) → IsK s)) ∧ ∃ x ∈ p.2.1, ∃ y ∈ p.2.1, x ≠ y }, sg = y.1.1 ∧ upd (upd H2 l (.lst [.int 1, .int 3])) sg (.lst ((["", "A", "B", "C"] : List Str).map V.str)) = y.1.2.2 :=
              ⟨⟨(sg, ["", "A", "B", "C"], _), B3.fresh hsg, hc, fresh_ne B3.bag hsg, (show 4 ≤ 4 by decide), (fun s hs => ⟨fun q => absurd q hj13, fun _ => by simpa [IsK] using hs⟩), (show ∃ x ∈ (["", "A", "B", "C"] : List Str), ∃ y ∈ (["", "A", "B", "C"] : List Str), x ≠ y from ⟨"", by decide, "A", by decide, by decide⟩)⟩, rfl, rfl⟩
            have e2' : upd (upd H2 l (.lst [.int 1, .int 3])) sg (.lst [.str "", .str "A", .str "B", .str "C"]) = y.1.2.2 := e2
            rw [e2', e1]
            exact rest y
        case fin =>
          obtain ⟨⟨sg, sl, H3⟩, B3, hsg, hsb, hsl4, hsk, hsd⟩ := y
          simp only at B3 hsg hsb hsl4 hsk hsd
          have g23 := B3.T B2.bag g22
          refine ⟨_, rfl, _, rfl, sg, rfl, ⟨_, SqL.of hsg⟩, fun D hD => ?_⟩
          have hDb : D ≠ b := fresh_ne B3.bag hD
          refine lc_list (xs := sl.map V.str) (fun i H' => (∀ q u, q ≠ D → H3 q = some u → H' q = some u) ∧ ∃ l : List Str, H' D = some (.lst (l.map V.str)) ∧ l.length ≤ i ∧ (∀ s ∈ l, s ∈ sl ∧ s ≠ tj) ∧ ∀ s ∈ sl.take i, s ≠ tj → l ≠ [])
            ⟨fun q u hq e => by rw [upd_ne hq]; exact e, [], upd_same, Nat.le_refl _, (fun s hs => nomatch hs), (fun s hs => by simp at hs)⟩ (fun i H' _ h => SqL.of (h.1 _ _ (ne_of_none hsg hD) hsg)) (fun i v H' hv h => ?_) (fun H' h => ?_)
          · obtain ⟨k1, l, hl, hll, hlm, hls⟩ := h
            obtain ⟨n, hn, rfl⟩ := strs_at hv
            have e3 : Ext H3 H' := fun q u e => k1 q u (ne_of_none e hD) e
            have htk : sl.take (i + 1) = sl.take i ++ [n] := by rw [List.take_add_one, hn]; rfl
            refine ⟨rfl, _, rfl, _, rfl, _, rfl, pt, _, _, _, rfl, rfl, g23.ext e3, atI_nat (j := j) htj', rfl, _, rfl, ?_⟩
            by_cases hs : n = tj
            · rw [decide_eq_true (congrArg V.str hs)]
              refine iteF ⟨k1, l, hl, by omega, hlm, fun s hs' hs2 => ?_⟩
              rw [htk] at hs'
              rcases List.mem_append.mp hs' with q | q
              · exact hls s q hs2
              · rw [List.mem_singleton.mp q] at hs2
                exact absurd hs hs2
            · rw [decide_eq_false (fun q => hs (V.str.inj q) : ¬ V.str n = V.str tj)]
              have hi := (List.getElem?_eq_some_iff.mp hn).1
              refine iteT ⟨_, rfl, _, hl, ?_, fun q u hq e => by rw [upd_ne hq]; exact k1 q u hq e, l ++ [n], ?_, ?_, fun s hs' => ?_, fun s _ _ q => by simp at q⟩
              · rw [List.length_map]
                exact Nat.lt_of_le_of_lt hll (Nat.lt_of_lt_of_le (by omega : i < 1000) (by decide))
              · rw [upd_same, List.map_append]
                rfl
              · rw [List.length_append]
                show l.length + 1 ≤ i + 1
                omega
              · rcases List.mem_append.mp hs' with q | q
                · exact hlm s q
                · rw [List.mem_singleton.mp q]
                  exact ⟨List.mem_of_getElem? hn, hs⟩
          · obtain ⟨k1, l, hl, hll, hlm, hls⟩ := h
            rw [List.length_map] at hll hls
            have e3 : Ext H3 H' := fun q u e => k1 q u (ne_of_none e hD) e
            have B4 := Bk.of B3.bag e3
            have hne : l ≠ [] := by
              obtain ⟨s, hs, hs2⟩ := other_sign sl hsd tj
              exact hls s (by rw [List.take_length]; exact hs) hs2
            refine ⟨b, D, _, rfl, B4.bag, Ne.symm hDb, by simpa using hne, by rw [List.length_map]; omega, .inl (SqL.of hl), fun v H5 hv B5 => ?_⟩
            obtain ⟨s, hs, rfl⟩ := mem_strs hv
            obtain ⟨hsm, hst⟩ := hlm s hs
            have g25 := B5.T B4.bag (g23.ext e3)
            have g35 := B5.T B4.bag ((B3.T B2.bag (B2.T B1.bag g31)).ext e3)
            have g45 := B5.S B4.bag (Sets.ext (B3.S B2.bag (B2.S B1.bag g41)) e3)
            have hz : (4 : Nat) + 4 + 4 ≤ sizeLine := by decide
            refine ⟨_, rfl, _, rfl, _, rfl, _, rfl, cut_red g25 fun q1 X1 x1 k1' => ⟨_, rfl, (by show 1 ≤ sizeLine; decide), fun t ht => ?_⟩⟩
            rw [cut_take (by rw [List.length_map]; omega)] at k1'
            refine cat_red (k1'.ext (Ext.upd ht)) (SqT.of upd_same) ?_ fun q2 X2 x2 k2' => ?_
            · rw [List.length_take, List.length_map]
              show _ + 1 ≤ _
              omega
            have x02 := (x1.trans (Ext.upd (o := .tup [.str s]) ht)).trans x2
            refine ⟨_, rfl, _, rfl, _, _, rfl, rfl, _, rfl, ?_⟩
            unfold tNoPart
            refine cut_red (g25.ext x02) fun q3 X3 x3 k3' => ?_
            have k3'' : SqT K X3 q3 ((ps.map V.str).drop (j + 1)) := by
              have z := cut_drop (xs := ps.map V.str) (j := j + 1) (by rw [List.length_map]; omega)
              rw [← z]
              exact k3'
            refine cat_red (k2'.ext x3) k3'' ?_ fun q4 X4 x4 k4' => ?_
            · rw [List.length_append, List.length_take, List.length_drop, List.length_map]
              show _ + 1 + _ ≤ _
              omega
            have x04 := (x02.trans x3).trans x4
            refine ⟨_, rfl, (by show 3 ≤ sizeLine; decide), fun p hp => ?_⟩
            have x05 := x04.upd' (o := .tup [.int wt, .ref q4, .ref st]) hp
            rw [set_cut (by rw [List.length_map]; omega)] at k4'
            refine kq p _ wt (ps.set j s) sets ⟨hG.w0, hG.w9, pat_set hG.ps hj (hsk s hsm).1 (hsk s hsm).2, hG.ok, hG.sub, hG.ne⟩ (fun q => set_ne htj hst q.2.1) ?_ ⟨q4, st, rs, SqT.of upd_same, ?_, g35.ext x05, Sets.ext g45 x05⟩
            · exact ((B1.trans B2).trans B3).trans ((B4.trans B5).trans (Bk.of B5.bag x05))
            · rw [map_set']
              exact k4'.ext (Ext.upd hp)
      · rw [decide_eq_false (fun q => q1 (V.int.inj q) : ¬ V.int dw = V.int 1)]
        refine iteF ?_
        have hll : (rs.map V.ref).length = sets.length := by rw [List.length_map, hlen]
        have hsp : 0 < sets.length := List.length_pos_iff.mpr hG.ne
        refine ⟨_, rfl, _, rfl, st, _, rfl, .inr g31, b, _, rfl, B1.bag, by rw [hll]; omega, by rw [hll]; omega, fun d H2 h0 h1 B2 => ?_⟩
        rw [hll] at h1
        obtain ⟨j, rfl⟩ : ∃ j : Nat, d = (j : Int) := ⟨d.toNat, by omega⟩
        have hj : j < sets.length := by omega
        have g22 := B2.T B1.bag g21
        have g32 := B2.T B1.bag g31
        have g42 := B2.S B1.bag g41
        have hrj : (rs.map V.ref)[j]? = some ((rs.map V.ref)[j]'(by omega)) := List.getElem?_eq_getElem _
        obtain ⟨q, ⟨n, v⟩, eq, hy, hq⟩ := sets_at g42 hrj
        rw [eq] at hrj
        have hv := hG.ok _ (List.mem_of_getElem? hy)
        obtain ⟨k0, hk0⟩ : ∃ k0, TruV K v H2 k0 := by
          rcases hv with ⟨_, i, hi, _⟩ | ⟨_, i, hi, _⟩ | ⟨_, i, hi, _⟩ | ⟨_, i, hi⟩ <;> (simp only at hi; subst hi; exact ⟨_, rfl⟩)
        refine ⟨_, rfl, _, rfl, st, _, _, _, rfl, rfl, g32, atI_nat (j := j) hrj, q, _, rfl, hq, rfl, _, _, rfl, _, _, rfl, rfl, ?_⟩
        refine ⟨_, rfl, k0, hk0, ?_⟩
        refine with_tail (fun fr Hf => SetOk n fr ∧ fr ≠ v ∧ Bk b H2 Hf) (fun fr => [some (.ref b), some (.ref r), some (.int wt), some (.ref pt), some (.ref st), some (.int dw), some (.int j), none, none, none, some (.str n), some v, some fr]) (fun rest => ?_) (fun fr Hf hf => ?_)
        · have B0 := Bk.of B2.bag (Ext.rfl' (H := H2))
          rcases hv with ⟨hn, i, hi, i0, i1⟩ | ⟨hn, i, hi, i0, i1⟩ | ⟨hn, i, hi, i0, i1⟩ | ⟨hn, i, hi⟩
          · simp only at hn hi
            subst hn hi
            refine ⟨_, rfl, rfl, _, rfl, iteT ⟨_, rfl, _, _, rfl, rfl, ?_⟩⟩
            refine ⟨_, rfl, rfl, _, rfl, iteF ⟨_, rfl, rfl, _, rfl, iteF ?_⟩⟩
            exact rest (.int (1 - i)) H2 ⟨.inl ⟨rfl, 1 - i, rfl, by omega, by omega⟩, fun e => by have := V.int.inj e; omega, B0⟩
          · simp only at hn hi
            subst hn hi
            refine ⟨_, rfl, rfl, _, rfl, iteF ?_⟩
            refine ⟨_, rfl, rfl, _, rfl, iteF ⟨_, rfl, rfl, _, rfl, iteT ⟨_, rfl, .inl ⟨i, rfl, _, _, rfl, rfl, (by show (0 : Int) < 6; decide), _, _, rfl, rfl, ?_⟩⟩⟩⟩
            exact rest (.int (i % 6 + 1)) H2 ⟨.inr (.inl ⟨rfl, i % 6 + 1, rfl, by omega, by omega⟩), fun e => by have := V.int.inj e; omega, B0⟩
          · simp only at hn hi
            subst hn hi
            refine ⟨_, rfl, rfl, _, rfl, iteF ?_⟩
            refine ⟨_, rfl, rfl, _, rfl, iteT ⟨_, rfl, _, _, rfl, rfl, _, rfl, b, 2, rfl, B2.bag, by decide, by decide, fun d3 H3 f0 f1 B3 => ⟨_, _, rfl, rfl, .inl ⟨_, rfl, _, _, rfl, rfl, (by show (0 : Int) < 3; decide), _, rfl, rfl, _, rfl, iteF ?_⟩⟩⟩⟩
            exact rest (.int ((i + 1 + d3) % 3)) H3 ⟨.inr (.inr (.inl ⟨rfl, (i + 1 + d3) % 3, rfl, by omega, by omega⟩)), fun e => by have := V.int.inj e; omega, B3⟩
          · simp only at hn hi
            subst hi
            have hk : k0 = i := hk0
            subst hk
            have nf : n ≠ "face" ∧ n ≠ "space" ∧ n ≠ "measure" := by rcases hn with rfl | rfl | rfl <;> decide
            have hb' : V.bl (!k0) ≠ V.bl k0 := fun e => by cases k0 <;> exact absurd (V.bl.inj e) (by decide)
            refine ⟨_, rfl, rfl, _, rfl, ?_⟩
            rw [decide_eq_false (fun q => nf.1 (V.str.inj q) : ¬ V.str n = V.str "face")]
            refine iteF ⟨_, rfl, rfl, _, rfl, ?_⟩
            rw [decide_eq_false (fun q => nf.2.1 (V.str.inj q) : ¬ V.str n = V.str "space")]
            refine iteF ⟨_, rfl, rfl, _, rfl, ?_⟩
            rw [decide_eq_false (fun q => nf.2.2 (V.str.inj q) : ¬ V.str n = V.str "measure")]
            exact iteF (rest (.bl (!k0)) H2 ⟨.inr (.inr (.inr ⟨hn, _, rfl⟩)), hb', B0⟩)
        · obtain ⟨hfo, hfv, Bf⟩ := hf
          have g2f := Bf.T B2.bag g22
          have g3f := Bf.T B2.bag g32
          have g4f := Bf.S B2.bag g42
          have hz : (6 : Nat) + 6 + 6 ≤ sizeLine := by decide
          refine ⟨_, rfl, _, rfl, _, rfl, _, rfl, _, rfl, cut_red g3f fun q1 X1 x1 k1' => ⟨_, rfl, _, rfl, (by show 2 ≤ sizeLine; decide), fun t0 ht0 => ⟨(by show 1 ≤ sizeLine; decide), fun t ht => ?_⟩⟩⟩
          rw [cut_take (by omega)] at k1'
          have y1 := (Ext.upd (o := .tup [.str n, fr]) ht0).upd' (o := .tup [.ref t0]) ht
          refine cat_red (k1'.ext y1) (SqT.of upd_same) ?_ fun q2 X2 x2 k2' => ?_
          · rw [List.length_take]
            show _ + 1 ≤ _
            omega
          have x02 := (x1.trans y1).trans x2
          have ht02 : SqT K X2 t0 [.str n, fr] := ((SqT.of upd_same).ext (Ext.upd (o := .tup [.ref t0]) ht)).ext x2
          refine ⟨_, rfl, _, rfl, _, _, rfl, rfl, _, rfl, ?_⟩
          unfold tNoPart
          refine cut_red (g3f.ext x02) fun q3 X3 x3 k3' => ?_
          have k3'' : SqT K X3 q3 ((rs.map V.ref).drop (j + 1)) := by
            have z := cut_drop (xs := rs.map V.ref) (j := j + 1) (by omega)
            rw [← z]
            exact k3'
          refine cat_red (k2'.ext x3) k3'' ?_ fun q4 X4 x4 k4' => ?_
          · rw [List.length_append, List.length_take, List.length_drop]
            show _ + 1 + _ ≤ _
            omega
          have x04 := (x02.trans x3).trans x4
          refine ⟨(by show 3 ≤ sizeLine; decide), fun p hp => ?_⟩
          have x05 := x04.upd' (o := .tup [.int wt, .ref pt, .ref q4]) hp
          have e25 := (x3.trans x4).upd' (o := .tup [.int wt, .ref pt, .ref q4]) hp
          rw [set_cut (by omega)] at k4'
          refine kq p _ wt ps (sets.set j (n, fr)) (good_set hG hy hfo) (fun q => set_ne hy (fun e => hfv (congrArg Prod.snd e)) q.2.2) ?_ ⟨pt, q4, rs.set j t0, SqT.of upd_same, g2f.ext x05, ?_, sets_set (x := (n, fr)) (Sets.ext g4f x05) (ht02.ext e25) j⟩
          · exact ((B1.trans B2).trans Bf).trans (Bk.of Bf.bag x05)
          · rw [map_set']
            exact k4'.ext (Ext.upd hp)
end
end Pa
set_option maxRecDepth 100000
set_option maxHeartbeats 4000000
namespace Pa
open PySem PySem.Spec PyProof.Rows L2 RZ StX ClX
/-- x, y, z = a, b, c with plain local names -/
def tPar3 (i j l : Nat) (ta : TA) : TS := fun D σ H => ta σ H fun vs H1 => ∃ u v w, vs = [u, v, w] ∧ D.nx (((σ.set i (some u)).set j (some v)).set l (some w)) H1
theorem ps_par3 {X : Cx} {i j l : Nat} {x y z : Str} {a b c : Expr} {ta : TA} {pos px py pz pt : Pos} {kt k2 pt2} (hc : X.calm = true) (hN : X.N.Nodup) (hi : X.N[i]? = some x) (hj : X.N[j]? = some y) (hl : X.N[l]? = some z) (hij : i ≠ j) (hil : i ≠ l) (hjl : j ≠ l)
    (hx : X.env.scope.names.lookup x = some .local) (hy : X.env.scope.names.lookup y = some .local) (hz : X.env.scope.names.lookup z = some .local) (ha : PA X [a, b, c] ta)
    (hw : swappedStores [.Tuple [.Name x px, .Name y py, .Name z pz] kt pt] (.Tuple [a, b, c] k2 pt2) X.env = pure (some [x, y, z]))
    (hs : swapsWithSole [.Tuple [.Name x px, .Name y py, .Name z pz] kt pt] (.Tuple [a, b, c] k2 pt2) pos.line X.env = pure false := by rfl) :
    PS X (.Assign [.Tuple [.Name x px, .Name y py, .Name z pz] kt pt] (.Tuple [a, b, c] k2 pt2) pos) (tPar3 i j l ta) := by
  refine ⟨fun pins s σ H D I h => ?_⟩
  rw [exec_Assign_arm]
  refine wpAny_bind (wpAny_standAt ?_)
  rw [hs]
  refine wpAny_bind (wpAny_pure ?_)
  rw [if_neg (by decide)]
  refine wpAny_bind (Tuple_ (thn (ha.run _ pins s σ H _ I h) fun us s1 ⟨vs, H1, I1, r1, q1⟩ => ?_))
  obtain ⟨u, v, w, e1, q1⟩ := q1
  subst e1
  obtain ⟨u1, u2, u3, rfl, ru, rv, rw'⟩ : ∃ u1 u2 u3, us = [u1, u2, u3] ∧ RelV u u1 ∧ RelV v u2 ∧ RelV w u3 := by
    cases r1 with
    | cons p q =>
      cases q with
      | cons p' q' =>
        cases q' with
        | cons p'' q'' =>
          cases q''
          exact ⟨_, _, _, rfl, p, p', p''⟩
  refine wpAny_newObj_type ?_ (by show 3 ≤ sizeLine; decide)
  have I2 : Inv X pins σ H1 { s1 with heap := s1.heap.push { cls := .type "tuple", data := .seq [u1, u2, u3].toArray } } := I1.kept (t' := s1.toks) fun b o e => Heap.get?_push_of_some _ e
  rw [hw]
  refine wpAny_bind (wpAny_pure ?_)
  show wpAny (model X.prog X.w) X.A (do rule "assign.swapped-stores"; let items ← unpackItems (.ref s1.heap.objs.size) 3 none; assignInOrder [fun v => bindName X.env z v, fun v => bindName X.env y v, fun v => bindName X.env x v] items.reverse; pure Flow.next) _ _ _
  refine wpAny_bind (wpAny_rule (wpAny_bind (unpackItems_tuple (items := #[u1, u2, u3]) (I.ok.hd hc) (IsTup.new s1.heap _) fun h' hx' => ?_)))
  have I3 := I2.kept (h' := h') (t' := s1.toks) fun b o e => hx' b o (Nat.ne_of_lt (Heap.lt_size e)) e
  show wpAny _ _ (assignInOrder [fun v => bindName X.env z v, fun v => bindName X.env y v, fun v => bindName X.env x v] [u3, u2, u1] >>= fun _ => pure Flow.next) _ _ _
  refine wpAny_bind (assignInOrder_cons (wpAny_bindName (store_ok I3 hN hl (.inl hz) rw' (fun s2 I4 => ?_) (.inr hz))))
  refine assignInOrder_cons (wpAny_bindName (store_ok I4 hN hj (.inl hy) rv (fun s3 I5 => ?_) (.inr hy)))
  refine assignInOrder_cons (wpAny_bindName (store_ok I5 hN hi (.inl hx) ru (fun s4 I6 => assignInOrder_nil (wpAny_pure ?_)) (.inr hx)))
  have e : ((σ.set l (some w)).set j (some v)).set i (some u) = ((σ.set i (some u)).set j (some v)).set l (some w) := by
    rw [List.set_comm _ _ (Ne.symm hjl), List.set_comm _ _ (Ne.symm hil), List.set_comm _ _ (Ne.symm hij)]
  rw [e] at I6
  exact ⟨_, H1, I6, q1⟩
/-- what the class's defs promise -/
structure RuleOk (P : Program) (w : World) (K : PySem.W.Frag) (mg : Str → Option Value) (base : Heap) (C : Addr) : Prop where
  mak : ∃ fi, Mk K C fi ∧ FnKw P w K mg base CX0 4 fi (spInitK K C)
  eq : ∃ fe fd, EqO K C fe ∧ FnOk P w K mg base CX0 1 fe fd ["self", "other"] (spEqR K C) ∧ Binds K fd ["self", "other"] []
  made : ∃ mc p fm, CRead K C mc ∧ CMet K C mc "made" p fm ∧ FnR P w K mg base CX0 6 fm (fun vs H Q E => spMade K C (vs ++ []) H Q E)
  call : ∃ fc, CallO K C fc ∧ FnR P w K mg base CX0 1 fc (fun vs H Q E => spCallR K C (vs ++ []) H Q E)
  nf : PySem.W.notFirst K C (.ref C) = true
section
variable {X : Cx} {C : Addr} {p pos apos : Pos} {e : Expr} {es : List Expr} {kws : List Keyword} {ks : List Str} {t tk : TA} {x : Str} {o : Expr} {ta : TE} {pl : Sem Bool}
theorem pe_mk (R : RuleOk X.prog X.w X.K X.mg X.base C) (hr : Room 5 X.A) (hg : Gl X x) (hm : X.mg x = some (.ref C)) (ha : PA X (e :: es) t) (hkw : PK X kws tk) (hall : (backToKw pos (keywordEach kws X.env)).all (·.1.isSome) = true := by rfl) (hks : (backToKw pos (keywordEach kws X.env)).filterMap (·.1) = ks := by rfl)
    (hdb : (x == ("__debug__" : Str)) = false := by decide) (he : starEach (e :: es) X.env = (false, eval e X.env) :: starEach es X.env := by rfl)
    (hpl : ((backTo pos (starEach (e :: es) X.env)).any (·.1) || (backToKw pos (keywordEach kws X.env)).any (·.1.isNone)) = false := by rfl) :
    PE X (.Call (.Name x p) (e :: es) kws pos) (tMakeKw C ks (spInitK X.K C) E0 t tk) := by
  obtain ⟨fi, M, F⟩ := R.mak
  exact pe_makeKw M F hr hg hm pass0 ha hkw hall hks hdb he hpl
theorem op_eqR (R : RuleOk X.prog X.w X.K X.mg X.base C) (hr : Room 1 X.A) : OpR X (compareOp .Eq) (rEqO X.K C (spEqR X.K C) E0 false) := by
  obtain ⟨fe, fd, e, F, b⟩ := R.eq
  exact op_eqO F b pass0 hr e
theorem op_neR (R : RuleOk X.prog X.w X.K X.mg X.base C) (hr : Room 2 X.A) : OpR X (compareOp .NotEq) (rEqO X.K C (spEqR X.K C) E0 true) := by
  obtain ⟨fe, fd, e, F, b⟩ := R.eq
  exact op_neO F b pass0 hr e
theorem pe_made (R : RuleOk X.prog X.w X.K X.mg X.base C) (he : PE X o ta) (hr : Room 6 X.A) (ha : PA X (e :: es) t)
    (hst : starEach (e :: es) X.env = (false, eval e X.env) :: starEach es X.env := by rfl) (hpl : (backTo pos (starEach es X.env)).any (·.1) = false := by rfl)
    (ht : eval (.Call (.Attribute o "made" apos) (e :: es) [] pos) X.env = (do
      let ov ← eval o X.env
      standAt apos.atName
      let (f, first) ← holding [ov] (getMethod ov "made" pl)
      callWith pos f first (backTo pos (starEach (e :: es) X.env)) (backToKw pos (keywordEach [] X.env))) := by rfl) :
    PE X (.Call (.Attribute o "made" apos) (e :: es) [] pos) (tCMeth C (fun vs H Q E => spMade X.K C (vs ++ []) H Q E) E0 ta t) := by
  obtain ⟨mc, p, fm, r, c, F⟩ := R.made
  exact pe_cmeth he r c F hr pass0 ha hst hpl ht
end
/-- two rules of the class compared -/
theorem eq_red {K : PySem.W.Frag} {C : Addr} {H : Hp} {a b : Addr} {wt w' : Int} {ps ps' : List Str} {sets sets' : List (Str × V)} {z : Bool} {Q : VK} (T : TxR K C) (nf : PySem.W.notFirst K C (.ref C) = true) (h1 : RuleAt K C H a wt ps sets) (h2 : RuleAt K C H b w' ps' sets') (p1 : PatOk ps) (p2 : PatOk ps') (s1 : SetsOk sets) (s2 : SetsOk sets')
    (k : Q (.bl (z != decide (wt = w' ∧ ps = ps' ∧ sets = sets'))) H) : rEqO K C (spEqR K C) E0 z (.ref a) (.ref b) H Q := by
  obtain ⟨dx, _, _, _, e1, _⟩ := h1.ex
  obtain ⟨dx', _, _, _, e2, _⟩ := h2.ex
  exact ⟨a, dx, _, _, rfl, e1, .base (.ins e2 T.cl T.ha T.hn T.htk T.hm), nf, a, _, wt, ps, sets, rfl, h1, p1, s1, .inl ⟨b, w', ps', sets', rfl, h2, p2, s2, _, rfl, k⟩⟩
/-- making by keywords -/
theorem mk_red {K : PySem.W.Frag} {C : Addr} {H : Hp} {wt : Int} {ks : List Str} {zs : List V} {ps : List Str} {sets : List (Str × V)} {Q : VK} (h0 : 0 ≤ wt) (h9 : wt ≤ 9) (hn : ((ks.zip zs).map (·.1)).Nodup) (hin : ∀ z ∈ ks.zip zs, z.1 ∈ PN ∨ z.1 ∈ VN) (hl : (ks.zip zs).length ≤ 20) (hp : PatOk ps)
    (hpat : PN.map (fun k => ((ks.zip zs).lookup k).getD (.str "")) = ps.map V.str) (hr : restK (ks.zip zs) = sets) (hs : SetsOk sets) (hne : sets ≠ []) (k : ∀ x H', H x = none → Ext H H' → RuleAt K C H' x wt ps (ord sets) → Q (.ref x) H') :
    ∀ x dx, H x = none → H dx = none → dx ≠ x → spInitK K C (.ref x :: [.int wt]) (ks.zip zs) (upd (upd H dx (.own x)) x (.ins C dx [])) (fun v H3 => v = .non ∧ Q (.ref x) H3) E0 := fun x dx hx hdx hd => by
  refine ⟨x, dx, wt, ps, rfl, hn, hin, hl, upd_same, h0, h9, hp, hpat, by rw [hr]; exact hs, by rw [hr]; exact hne, fun H' hk hR => ⟨rfl, k x H' hx (fun q u e => ?_) (by rw [hr] at hR; exact hR)⟩⟩
  have q1 := ne_of_none e hx
  have q2 := ne_of_none e hdx
  refine hk q u q1 ?_
  rw [upd_ne q1, upd_ne q2]
  exact e
theorem ord_ok2 {K : PySem.W.Frag} : True := True.intro
end Pa
set_option maxRecDepth 100000
set_option maxHeartbeats 4000000
namespace Pa
open PySem PySem.Spec PyProof.Rows L2 RZ StX ClX
section
variable {P : Program} {w : World} {K : PySem.W.Frag} {mg : Str → Option Value} {base : Heap} {tv tp tk dl C : Addr}
theorem at_state {D : Ends} {σ : L2.St} {H : Hp} (σ' : L2.St) (e : σ = σ') (h : D.nx σ' H) : D.nx σ H := e ▸ h
theorem mk_ext {H H' : Hp} {x dx C : Addr} (hx : H x = none) (hdx : H dx = none) (hk : ∀ q o, q ≠ x → upd (upd H dx (.own x)) x (.ins C dx []) q = some o → H' q = some o) : Ext H H' := fun q u e => by
  have q1 := ne_of_none e hx
  refine hk q u q1 ?_
  rw [upd_ne q1, upd_ne (ne_of_none e hdx)]
  exact e
theorem pat_blank {el : Str} (h : IsK el) : PatOk ["", "", "", "", el] := ⟨"", "", "", "", el, rfl, .inl rfl, .inl rfl, .inl rfl, .inl rfl, h⟩
def spKeyw (K : PySem.W.Frag) : Sp := fun vs H Q _ => ∃ (b r : Addr) (wt : Int) (ps : List Str) (sets : List (Str × V)), vs = [.ref b, .ref r] ∧ IsBag H b ∧ RowAt K H r wt ps sets ∧ Good wt ps sets ∧ ∀ H', Bk b H H' → Q (.bl true) H'
abbrev sL_keywords : Stmt := topS 29
theorem scL_keywords : FnScope ["_law_bag_here", "_law_row", "_law_weight", "_law_pattern", "_law_settings", "_law_space", "_law_kept", "_law_measure", "_law_face", "_law_kind", "_law_mark", "_law_parent", "_law_above", "_law_elder", "_law_one_here", "_law_bare", "_law_most", "_law_due"] ["_law_bag_here", "_law_row"] (defScope sL_keywords) := ⟨rfl, rfl, rfl, by decide +kernel, rfl, by decide +kernel, by decide +kernel⟩
theorem ok_keyw {f : Addr} {fd : FuncData} (F : Fun K "_law_keywords" "_law_keywords" sL_keywords f fd) (T : Txt K w mg tv tp tk dl C) (R : TxR K C) (RO : RuleOk P w K mg base C) (C__law_draw : CallOk P w K mg base 1 "_law_draw" ["_law_bag_here", "_law_many"] spDraw)
    (C__law_attributes : CallOk P w K mg base 2 "_law_attributes" ["_law_rule", "_law_row"] (spAttr K C)) : FnOk P w K mg base CX0 7 f fd ["_law_bag_here", "_law_row"] (spKeyw K) := by
  refine F.ok scL_keywords (fun vs H Q E h => ?_) (fun cdv A outer s H vs Q E hr h => ?_)
  · obtain ⟨b, r, wt, ps, sets, rfl, _⟩ := h
    rfl
  · obtain ⟨b, r, wt, ps, sets, rfl, hb, hW, hG, kq⟩ := h
    obtain ⟨pt, st, rs, g0, g2, g3, g4⟩ := hW.ex
    refine ⟨_, (pss_cons (ps_asg (pv 1) (pg_tup rfl (pgs_cons (pg_name (i := 2) scL_keywords.nd rfl (.inl rfl)) (pgs_cons (pg_name (i := 3) scL_keywords.nd rfl (.inl rfl)) (pgs_cons (pg_name (i := 4) scL_keywords.nd rfl (.inl rfl)) pgs_nil)))))
      (pss_cons (ps_par3 (i := 5) (j := 6) (l := 7) (by rfl) scL_keywords.nd rfl rfl rfl (by decide) (by decide) (by decide) rfl rfl rfl (pa_cons (pe_cc C__law_draw (hr.mono (by decide)) (by rfl) (pa_cons (pv 0) (pa_cons pe_int pa_nil))) (pa_cons (pe_cmpR op_eq (pe_cc C__law_draw (hr.mono (by decide)) (by rfl) (pa_cons (pv 0) (pa_cons pe_int pa_nil))) pe_int (nomark _)) (pa_cons (pe_op op_add pe_int (pe_cc C__law_draw (hr.mono (by decide)) (by rfl) (pa_cons (pv 0) (pa_cons pe_int pa_nil)))) pa_nil))) (by rfl))
      (pss_cons (ps_set (i := 8) scL_keywords.nd rfl (.inl rfl) (pe_cc C__law_draw (hr.mono (by decide)) (by rfl) (pa_cons (pv 0) (pa_cons pe_int pa_nil))))
      (pss_cons (ps_asg (pv 3) (pg_tup rfl (pgs_cons (pg_name (i := 9) scL_keywords.nd rfl (.inl rfl)) (pgs_cons (pg_name (i := 10) scL_keywords.nd rfl (.inl rfl)) (pgs_cons (pg_name (i := 11) scL_keywords.nd rfl (.inl rfl)) (pgs_cons (pg_name (i := 12) scL_keywords.nd rfl (.inl rfl)) (pgs_cons (pg_name (i := 13) scL_keywords.nd rfl (.inl rfl)) pgs_nil)))))))
      (pss_cons (ps_set (i := 14) scL_keywords.nd rfl (.inl rfl) (pe_mk (ks := ["kept", "kind", "space", "mark", "parent", "above", "elder"]) RO (hr.mono (by decide)) (by rfl) T.g_Rule (pa_cons (pv 2) pa_nil) (pk_cons (pv 6) (pk_cons (pv 9) (pk_cons (pv 5) (pk_cons (pv 10) (pk_cons (pv 11) (pk_cons (pv 12) (pk_cons (pv 13) pk_nil)))))))))
      (pss_cons (ps_if (pt_cmpR (op_neR RO (hr.mono (by decide))) (pv 14) (pe_made RO (pe_glob (v := .ref C) (by rfl) T.g_Rule rfl) (hr.mono (by decide)) (pa_cons (pv 2) (pa_cons (pv 3) (pa_cons (pe_lst (pa_cons (pe_tup (pa_cons pe_str (pa_cons (pv 5) pa_nil))) (pa_cons (pe_tup (pa_cons pe_str (pa_cons (pv 6) pa_nil))) pa_nil))) pa_nil)))) (nomark _))
        (pss_one (ps_ret pe_bl))
        pss_nil)
      (pss_cons (ps_set (i := 15) scL_keywords.nd rfl (.inl rfl) (pe_mk (ks := ["measure"]) RO (hr.mono (by decide)) (by rfl) T.g_Rule (pa_cons (pv 2) pa_nil) (pk_cons (pv 7) pk_nil)))
      (pss_cons (ps_if (pt_not (pt_val (pe_cc C__law_attributes (hr.mono (by decide)) (by rfl) (pa_cons (pv 15) (pa_cons (pe_tup (pa_cons (pv 2) (pa_cons (pe_tup (pa_cons pe_str (pa_cons pe_str (pa_cons pe_str (pa_cons pe_str (pa_cons pe_str pa_nil)))))) (pa_cons (pe_tup (pa_cons (pe_tup (pa_cons pe_str (pa_cons (pv 7) pa_nil))) pa_nil)) pa_nil)))) pa_nil)))))
        (pss_one (ps_ret pe_bl))
        pss_nil)
      (pss_cons (ps_set (i := 16) scL_keywords.nd rfl (.inl rfl) (pe_mk (ks := ["elder", "out", "page", "kept", "space", "measure", "face"]) RO (hr.mono (by decide)) (by rfl) T.g_Rule (pa_cons (pv 2) pa_nil) (pk_cons (pv 13) (pk_cons (pv 6) (pk_cons (pe_not (pv 6)) (pk_cons (pv 6) (pk_cons (pv 5) (pk_cons (pv 7) (pk_cons (pv 8) pk_nil)))))))))
      (pss_cons (ps_set (i := 17) scL_keywords.nd rfl (.inl rfl) (pe_tup (pa_cons (pe_tup (pa_cons pe_str (pa_cons (pv 8) pa_nil))) (pa_cons (pe_tup (pa_cons pe_str (pa_cons (pv 7) pa_nil))) (pa_cons (pe_tup (pa_cons pe_str (pa_cons (pv 5) pa_nil))) (pa_cons (pe_tup (pa_cons pe_str (pa_cons (pv 6) pa_nil))) (pa_cons (pe_tup (pa_cons pe_str (pa_cons (pe_not (pv 6)) pa_nil))) pa_nil)))))))
      (pss_one (ps_ret (pe_cc C__law_attributes (hr.mono (by decide)) (by rfl) (pa_cons (pv 16) (pa_cons (pe_tup (pa_cons (pv 2) (pa_cons (pe_tup (pa_cons pe_str (pa_cons pe_str (pa_cons pe_str (pa_cons pe_str (pa_cons (pv 13) pa_nil)))))) (pa_cons (pe_op op_catA (pv 17) (pe_tup (pa_cons (pe_tup (pa_cons pe_str (pa_cons (pv 6) pa_nil))) pa_nil))) pa_nil)))) pa_nil))))))))))))))), ?_⟩
    refine ⟨_, rfl, r, _, rfl, g0, rfl, _, _, rfl, _, _, rfl, _, _, rfl, rfl, ?_⟩
    refine ⟨_, rfl, b, 3, rfl, hb, by decide, by decide, fun sp H1 a0 a1 B1 => ?_⟩
    refine ⟨_, rfl, b, 2, rfl, B1.bag, by decide, by decide, fun d2 H2 b0 b1 B2 => ⟨rfl, ?_⟩⟩
    refine ⟨_, rfl, b, 6, rfl, B2.bag, by decide, by decide, fun me H3 c0 c1 B3 => ⟨_, _, rfl, rfl, _, _, _, rfl, ?_⟩⟩
    refine ⟨_, rfl, b, 2, rfl, B3.bag, by decide, by decide, fun fa H4 d0 d1 B4 => ?_⟩
    generalize decide (V.int d2 = V.int 1) = kp
    have B04 := (B1.trans B2).trans (B3.trans B4)
    have g24 := B04.T hb g2
    obtain ⟨k, m, p, a, el, rfl, hk, hm, hp, ha, he⟩ := id hG.ps
    refine ⟨_, rfl, pt, _, rfl, g24, rfl, _, _, rfl, _, _, rfl, _, _, rfl, _, _, rfl, _, _, rfl, rfl, ?_⟩
    have so : SetOk "space" (.int sp) := .inr (.inr (.inl ⟨rfl, sp, rfl, a0, by omega⟩))
    have ko : ∀ c : Bool, SetOk "kept" (.bl c) := fun c => .inr (.inr (.inr ⟨.inl rfl, c, rfl⟩))
    have po : ∀ c : Bool, SetOk "page" (.bl c) := fun c => .inr (.inr (.inr ⟨.inr (.inl rfl), c, rfl⟩))
    have oo : ∀ c : Bool, SetOk "out" (.bl c) := fun c => .inr (.inr (.inr ⟨.inr (.inr rfl), c, rfl⟩))
    have mo : SetOk "measure" (.int (1 + me)) := .inr (.inl ⟨rfl, 1 + me, rfl, by omega, by omega⟩)
    have fo : SetOk "face" (.int fa) := .inl ⟨rfl, fa, rfl, d0, by omega⟩
    have s2 : SetsOk [("space", .int sp), ("kept", .bl kp)] := fun x hx => by
      simp only [List.mem_cons, List.not_mem_nil, or_false] at hx
      rcases hx with rfl | rfl
      · exact so
      · exact ko kp
    have s2' : SetsOk [("kept", .bl kp), ("space", .int sp)] := fun x hx => by
      simp only [List.mem_cons, List.not_mem_nil, or_false] at hx
      rcases hx with rfl | rfl
      · exact ko kp
      · exact so
    refine ⟨_, rfl, _, rfl, _, rfl, _, rfl, _, rfl, _, rfl, _, rfl, _, rfl, ?_⟩
    intro x1 dx hx hdx hd
    refine ⟨x1, dx, wt, [k, m, p, a, el], rfl, (show (["kept", "kind", "space", "mark", "parent", "above", "elder"] : List Str).Nodup by decide), (fun z hz => ?_), (show 7 ≤ 20 by decide), upd_same, hG.w0, hG.w9, hG.ps, rfl, (show SetsOk ([("kept", .bl kp), ("space", .int sp)] : List (Str × V)) from s2'), (fun q => nomatch (show ([("kept", .bl kp), ("space", .int sp)] : List (Str × V)) = [] from q)), fun H5 hk hR5 => ⟨rfl, ?_⟩⟩
    · have hz' : z.1 ∈ (["kept", "kind", "space", "mark", "parent", "above", "elder"] : List Str) := List.mem_map_of_mem (f := (·.1)) hz
      have ha : ∀ n ∈ (["kept", "kind", "space", "mark", "parent", "above", "elder"] : List Str), n ∈ PN ∨ n ∈ VN := by decide
      exact ha _ hz'
    have e5 := mk_ext hx hdx hk
    clear hk hx hdx hd
    have hR5' : RuleAt K C H5 x1 wt [k, m, p, a, el] [("space", .int sp), ("kept", .bl kp)] := hR5
    refine at_state [some (.ref b), some (.ref r), some (.int wt), some (.ref pt), some (.ref st), some (.int sp), some (.bl kp), some (.int (1 + me)), some (.int fa), some (.str k), some (.str m), some (.str p), some (.str a), some (.str el), some (.ref x1), none, none, none] rfl ?_
    have hnmade : (([("space", .int sp), ("kept", .bl kp)] : List (Str × V)).map (·.1)).Nodup := (show (["space", "kept"] : List Str).Nodup by decide)
    refine ⟨_, rfl, rfl, _, rfl, _, rfl, _, rfl, (by show 2 ≤ sizeLine; decide), fun t1 ht1 => ⟨_, rfl, (by show 2 ≤ sizeLine; decide), fun t2 ht2 => ⟨(by show 2 ≤ sizeLine; decide), fun l hl => ?_⟩⟩⟩
    have x1' := Ext.upd (o := .tup [.str "space", .int sp]) ht1
    have x2' := Ext.upd (o := .tup [.str "kept", .bl kp]) ht2
    have x3' := Ext.upd (o := .lst [.ref t1, .ref t2]) hl
    have e6 := (x1'.trans x2').trans x3'
    have B05 := B04.trans (Bk.of B04.bag e5)
    have g25 := (SqT.ext g24 e5).ext e6
    refine ⟨pt, l, wt, [k, m, p, a, el], [t1, t2], [("space", .int sp), ("kept", .bl kp)], rfl, .inl g25, hG.ps, hG.w0, hG.w9, .inr (SqL.of upd_same), .cons (.inl ((SqT.of upd_same).ext (x2'.trans x3'))) (.cons (.inl ((SqT.of upd_same).ext x3')) .nil), s2, hnmade, (fun q => nomatch q), (show 2 ≤ 10 by decide), fun y2 H6 _ e7 hR6 => ?_⟩
    have hR6' : RuleAt K C H6 y2 wt [k, m, p, a, el] [("space", .int sp), ("kept", .bl kp)] := hR6
    refine eq_red R RO.nf (hR5'.ext (e6.trans e7)) hR6' hG.ps hG.ps s2 s2 ?_
    rw [decide_eq_true ⟨rfl, rfl, rfl⟩]
    refine ⟨_, rfl, iteF ?_⟩
    have e56 := (e5.trans e6).trans e7
    -- one setting
    have sm : SetsOk [("measure", .int (1 + me))] := fun x hx => by
      simp only [List.mem_cons, List.not_mem_nil, or_false] at hx
      rw [hx]
      exact mo
    refine ⟨_, rfl, _, rfl, ?_⟩
    intro y3 dx hx hdx hd
    refine ⟨y3, dx, wt, ["", "", "", "", ""], rfl, (show (["measure"] : List Str).Nodup by decide), (fun z hz => ?_), (show 1 ≤ 20 by decide), upd_same, hG.w0, hG.w9, pat_blank (.inl rfl), rfl, (show SetsOk ([("measure", .int (1 + me))] : List (Str × V)) from sm), (fun q => nomatch (show ([("measure", .int (1 + me))] : List (Str × V)) = [] from q)), fun H7 hk hR7 => ⟨rfl, ?_⟩⟩
    · have hz' : z.1 ∈ (["measure"] : List Str) := List.mem_map_of_mem (f := (·.1)) hz
      have ha : ∀ n ∈ (["measure"] : List Str), n ∈ PN ∨ n ∈ VN := by decide
      exact ha _ hz'
    have e8 := mk_ext hx hdx hk
    clear hk hx hdx hd
    have hR7' : RuleAt K C H7 y3 wt ["", "", "", "", ""] [("measure", .int (1 + me))] := hR7
    refine at_state [some (.ref b), some (.ref r), some (.int wt), some (.ref pt), some (.ref st), some (.int sp), some (.bl kp), some (.int (1 + me)), some (.int fa), some (.str k), some (.str m), some (.str p), some (.str a), some (.str el), some (.ref x1), some (.ref y3), none, none] rfl ?_
    refine ⟨_, rfl, _, rfl, (by show 5 ≤ sizeLine; decide), fun u1 hu1 => ⟨_, rfl, (by show 2 ≤ sizeLine; decide), fun u2 hu2 => ⟨(by show 1 ≤ sizeLine; decide), fun u3 hu3 => ⟨(by show 3 ≤ sizeLine; decide), fun u4 hu4 => ?_⟩⟩⟩⟩
    have y1 := Ext.upd (o := .tup [.str "", .str "", .str "", .str "", .str ""]) hu1
    have y2' := Ext.upd (o := .tup [.str "measure", .int (1 + me)]) hu2
    have y3' := Ext.upd (o := .tup [.ref u2]) hu3
    have y4 := Ext.upd (o := .tup [.int wt, .ref u1, .ref u3]) hu4
    refine ⟨y3, u4, wt, ["", "", "", "", ""], [("measure", .int (1 + me))], rfl, hR7'.ext (((y1.trans y2').trans y3').trans y4), ⟨u1, u3, [u2], SqT.of upd_same, (SqT.of upd_same).ext ((y2'.trans y3').trans y4), (SqT.of upd_same).ext y4, .cons ((SqT.of upd_same).ext (y3'.trans y4)) .nil⟩,
      ⟨hG.w0, hG.w9, pat_blank (.inl rfl), sm, (show (["measure"] : List Str).Sublist VN by decide), fun q => nomatch q⟩, fun H8 e9 => ⟨_, rfl, iteF ?_⟩⟩
    have e58 := ((e56.trans e8).trans (((y1.trans y2').trans y3').trans y4)).trans e9
    -- all settings
    have sa : SetsOk [("face", .int fa), ("measure", .int (1 + me)), ("space", .int sp), ("kept", .bl kp), ("page", .bl (!kp)), ("out", .bl kp)] := fun x hx => by
      simp only [List.mem_cons, List.not_mem_nil, or_false] at hx
      rcases hx with rfl | rfl | rfl | rfl | rfl | rfl
      · exact fo
      · exact mo
      · exact so
      · exact ko _
      · exact po _
      · exact oo _
    have sr : SetsOk [("out", .bl kp), ("page", .bl (!kp)), ("kept", .bl kp), ("space", .int sp), ("measure", .int (1 + me)), ("face", .int fa)] := fun x hx => by
      simp only [List.mem_cons, List.not_mem_nil, or_false] at hx
      rcases hx with rfl | rfl | rfl | rfl | rfl | rfl
      · exact oo _
      · exact po _
      · exact ko _
      · exact so
      · exact mo
      · exact fo
    refine ⟨_, rfl, _, rfl, _, rfl, _, rfl, _, rfl, _, rfl, _, rfl, _, rfl, _, rfl, ?_⟩
    intro y5 dx hx hdx hd
    refine ⟨y5, dx, wt, ["", "", "", "", el], rfl, (show (["elder", "out", "page", "kept", "space", "measure", "face"] : List Str).Nodup by decide), (fun z hz => ?_), (show 7 ≤ 20 by decide), upd_same, hG.w0, hG.w9, pat_blank he, rfl, (show SetsOk ([("out", .bl kp), ("page", .bl (!kp)), ("kept", .bl kp), ("space", .int sp), ("measure", .int (1 + me)), ("face", .int fa)] : List (Str × V)) from sr), (fun q => nomatch (show ([("out", .bl kp), ("page", .bl (!kp)), ("kept", .bl kp), ("space", .int sp), ("measure", .int (1 + me)), ("face", .int fa)] : List (Str × V)) = [] from q)), fun H9 hk hR9 => ⟨rfl, ?_⟩⟩
    · have hz' : z.1 ∈ (["elder", "out", "page", "kept", "space", "measure", "face"] : List Str) := List.mem_map_of_mem (f := (·.1)) hz
      have ha : ∀ n ∈ (["elder", "out", "page", "kept", "space", "measure", "face"] : List Str), n ∈ PN ∨ n ∈ VN := by decide
      exact ha _ hz'
    have e10 := mk_ext hx hdx hk
    clear hk hx hdx hd
    have hR9' : RuleAt K C H9 y5 wt ["", "", "", "", el] [("face", .int fa), ("measure", .int (1 + me)), ("space", .int sp), ("kept", .bl kp), ("page", .bl (!kp)), ("out", .bl kp)] := hR9
    refine at_state [some (.ref b), some (.ref r), some (.int wt), some (.ref pt), some (.ref st), some (.int sp), some (.bl kp), some (.int (1 + me)), some (.int fa), some (.str k), some (.str m), some (.str p), some (.str a), some (.str el), some (.ref x1), some (.ref y3), some (.ref y5), none] rfl ?_
    refine ⟨_, rfl, (by show 2 ≤ sizeLine; decide), fun f1 hf1 => ⟨_, rfl, (by show 2 ≤ sizeLine; decide), fun f2 hf2 => ⟨_, rfl, (by show 2 ≤ sizeLine; decide), fun f3 hf3 => ⟨_, rfl, (by show 2 ≤ sizeLine; decide), fun f4 hf4 => ⟨_, rfl, _, rfl, (by show 2 ≤ sizeLine; decide), fun f5 hf5 => ⟨(by show 5 ≤ sizeLine; decide), fun f6 hf6 => ?_⟩⟩⟩⟩⟩⟩
    have z1 := Ext.upd (o := .tup [.str "face", .int fa]) hf1
    have z2 := Ext.upd (o := .tup [.str "measure", .int (1 + me)]) hf2
    have z3 := Ext.upd (o := .tup [.str "space", .int sp]) hf3
    have z4 := Ext.upd (o := .tup [.str "kept", .bl kp]) hf4
    have z5 := Ext.upd (o := .tup [.str "page", .bl (!kp)]) hf5
    have z6 := Ext.upd (o := .tup [.ref f1, .ref f2, .ref f3, .ref f4, .ref f5]) hf6
    have z56 := z5.trans z6
    have z46 := z4.trans z56
    have z36 := z3.trans z46
    have z26 := z2.trans z36
    have k1 : SqT K _ f1 [.str "face", .int fa] := (SqT.of upd_same).ext z26
    have k2 : SqT K _ f2 [.str "measure", .int (1 + me)] := (SqT.of upd_same).ext z36
    have k3 : SqT K _ f3 [.str "space", .int sp] := (SqT.of upd_same).ext z46
    have k4 : SqT K _ f4 [.str "kept", .bl kp] := (SqT.of upd_same).ext z56
    have k5 : SqT K _ f5 [.str "page", .bl (!kp)] := (SqT.of upd_same).ext z6
    have k6 : SqT K (upd (upd (upd (upd (upd (upd H9 f1 (.tup [.str "face", .int fa])) f2 (.tup [.str "measure", .int (1 + me)])) f3 (.tup [.str "space", .int sp])) f4 (.tup [.str "kept", .bl kp])) f5 (.tup [.str "page", .bl (!kp)])) f6 (.tup [.ref f1, .ref f2, .ref f3, .ref f4, .ref f5])) f6 [.ref f1, .ref f2, .ref f3, .ref f4, .ref f5] := SqT.of upd_same
    have e910 := z1.trans z26
    generalize upd (upd (upd (upd (upd (upd H9 f1 (.tup [.str "face", .int fa])) f2 (.tup [.str "measure", .int (1 + me)])) f3 (.tup [.str "space", .int sp])) f4 (.tup [.str "kept", .bl kp])) f5 (.tup [.str "page", .bl (!kp)])) f6 (.tup [.ref f1, .ref f2, .ref f3, .ref f4, .ref f5]) = HA at k1 k2 k3 k4 k5 k6 e910 ⊢
    refine ⟨_, rfl, _, rfl, _, rfl, (by show 5 ≤ sizeLine; decide), fun v1 hv1 => ⟨_, rfl, _, rfl, (by show 2 ≤ sizeLine; decide), fun v2 hv2 => ⟨(by show 1 ≤ sizeLine; decide), fun v3 hv3 => ?_⟩⟩⟩
    have w1 := Ext.upd (o := .tup [.str "", .str "", .str "", .str "", .str el]) hv1
    have w2 := Ext.upd (o := .tup [.str "out", .bl kp]) hv2
    have w3 := Ext.upd (o := .tup [.ref v2]) hv3
    have w13 := (w1.trans w2).trans w3
    refine cat_red (k6.ext w13) (SqT.of upd_same) (by show 5 + 1 ≤ sizeLine; decide) fun q HB eB hq => ⟨(by show 3 ≤ sizeLine; decide), fun v4 hv4 => ?_⟩
    have w4 := eB.trans (Ext.upd (o := .tup [.int wt, .ref v1, .ref q]) hv4)
    have wA := w13.trans w4
    refine ⟨y5, v4, wt, ["", "", "", "", el], [("face", .int fa), ("measure", .int (1 + me)), ("space", .int sp), ("kept", .bl kp), ("page", .bl (!kp)), ("out", .bl kp)], rfl, hR9'.ext (e910.trans wA), ⟨v1, q, [f1, f2, f3, f4, f5, v2], SqT.of upd_same, (SqT.of upd_same).ext ((w2.trans w3).trans w4), hq.ext (Ext.upd hv4),
      .cons (k1.ext wA) (.cons (k2.ext wA) (.cons (k3.ext wA) (.cons (k4.ext wA) (.cons (k5.ext wA) (.cons ((SqT.of upd_same).ext (w3.trans w4)) .nil)))))⟩,
      ⟨hG.w0, hG.w9, pat_blank he, sa, (show VN.Sublist VN from List.Sublist.refl _), fun q => nomatch q⟩, fun HZ eZ => ?_⟩
    exact kq HZ (B04.trans (Bk.of B04.bag ((e58.trans e10).trans ((e910.trans wA).trans eZ))))
end
end Pa
set_option maxRecDepth 100000
set_option maxHeartbeats 4000000
namespace Pa
open PySem PySem.Spec PyProof.Rows L2 RZ StX ClX
section
variable {X : Cx}
/-! ### xs[::e], e 1 or -1 -/
theorem pick_one (items : Array Value) : slicePick items none none (some 1) = slicePick items none none none := rfl
def tStepL (K : PySem.W.Frag) (te ts : TE) : TE := fun σ H Q => te σ H fun x H1 => tPart ts σ H1 fun o H2 => ∃ (a : Addr) (xs : List V) (b : Bool), x = .ref a ∧ o = some (if b = true then 1 else -1) ∧ SqL K H2 a xs ∧ ∀ p, H2 p = none → Q (.ref p) (upd H2 p (.lst (if b = true then xs else xs.reverse)))
theorem pe_stepL {e st : Expr} {te ts : TE} {p3 pos : Pos} (he : PE X e te) (hs : PE X st ts) : PE X (.Subscript e (.Slice none none (some st) p3) pos) (tStepL X.K te ts) := by
  refine ⟨fun pins s σ H Q I h => ?_⟩
  refine Subscript_ (thn (he.run pins s σ H _ I h) fun v s1 ⟨x, H1, I1, r1, q1⟩ => ?_)
  have hst : PO X (some st) (tPart ts) := po_some hs
  refine wpAny_Slice (thn (po_none.run pins s1 σ H1 (fun o H2 => o = none ∧ H2 = H1) I1 ⟨rfl, rfl⟩) fun vl s2 ⟨l, H2, I2, pl, el, e2⟩ => ?_)
  subst el e2
  refine thn (po_none.run pins s2 σ H2 (fun o H3 => o = none ∧ H3 = H2) I2 ⟨rfl, rfl⟩) fun vu s3 ⟨u, H3, I3, pu, eu, e3⟩ => ?_
  subst eu e3
  refine thn (hst.run pins s3 σ H3 _ I3 q1) fun vs s4 ⟨o, H4, I4, ps, q2⟩ => ?_
  obtain ⟨a, xs, b, ex, eo, hx, q⟩ := q2
  subst ex eo
  cases r1
  have I5 : Inv X pins σ H4 { s4 with heap := s4.heap.push { cls := .type "slice", data := .fields #[vl, vu, vs] } } := I4.kept (t' := s4.toks) fun b ob q => Heap.get?_push_of_some _ q
  obtain ⟨its, r, ht, hz⟩ := I5.list hx
  have hlen := r.length
  show wpAny (model X.prog X.w) X.A (subscriptTail e (.Slice none none (some st) p3) (.ref a) (.ref s4.heap.objs.size)) (EP X pins σ Q) X.xe { s4 with heap := s4.heap.push { cls := .type "slice", data := .fields #[vl, vu, vs] } }
  refine tail_any (ops := [.ref a, .ref s4.heap.objs.size]) ht.isList.typeIs (PySem.slot_list_getitem.lookup) ?_ (by with_unfolding_all rfl)
  cases b with
  | false =>
    refine wpAny_getItem_list_slice ht.isList (Heap.IsSliceOf.new _ vl vu vs) pl pu ps (by decide) ?_ (by rw [List.size_toArray]; omega)
    rw [show (if false = true then (1 : Int) else -1) = -1 from rfl, PySem.W.krv_pick]
    refine ⟨.ref _, _, I5.laid (t' := s4.toks) (o := .lst xs.reverse) (fun b ob q => Heap.get?_push_of_some _ q) (Nat.le_refl _) ?_, rfl, q _ (I5.hok.fresh (Nat.le_refl _))⟩
    exact ⟨by rw [List.length_reverse]; exact hz, _, 0, r.reverse, Heap.get?_push_size _ rfl⟩
  | true =>
    refine wpAny_getItem_list_slice ht.isList (Heap.IsSliceOf.new _ vl vu vs) pl pu ps (by decide) ?_ (by rw [List.size_toArray]; omega)
    rw [show (if true = true then (1 : Int) else -1) = 1 from rfl, pick_one]
    rw [slicePick_cut, ← hlen]
    have ec : cutV xs none none = xs := by
      unfold cutV
      rw [HT.sIx_none, HT.sIx_none]
      simp
    rw [show (if true = true then xs else xs.reverse) = cutV xs none none from ec.symm] at q
    refine ⟨.ref _, _, I5.laid (t' := s4.toks) (o := .lst (cutV xs none none)) (fun b ob q => Heap.get?_push_of_some _ q) (Nat.le_refl _) ?_, rfl, q _ (I5.hok.fresh (Nat.le_refl _))⟩
    exact ⟨Nat.le_trans (cutV_length xs none none) hz, _, 0, (r.drop (HT.sIx xs.length 0 none)).take (HT.sIx xs.length xs.length none - HT.sIx xs.length 0 none), Heap.get?_push_size _ rfl⟩
end
/-! ### rules and rows beside lists that change -/
theorem RuleAt.lst {K : PySem.W.Frag} {C : Addr} {H : Hp} {a p : Addr} {wt : Int} {ps : List Str} {sets : List (Str × V)} {xs : List V} {o : HO} (h : RuleAt K C H a wt ps sets) (hp : H p = some (.lst xs)) : RuleAt K C (upd H p o) a wt ps sets := by
  obtain ⟨dx, pt, st, rs, h1, h2, h3, h4⟩ := h.ex
  exact ⟨dx, pt, st, rs, by rw [upd_ne (fun q => by rw [q, hp] at h1; cases h1)]; exact h1, sqt_upd h2 hp (fun _ q => nomatch q) (fun _ _ q => nomatch q), sqt_upd h3 hp (fun _ q => nomatch q) (fun _ _ q => nomatch q), sets_upd h4 hp (fun _ q => nomatch q) (fun _ _ q => nomatch q)⟩
theorem RowAt.lst {K : PySem.W.Frag} {H : Hp} {r p : Addr} {wt : Int} {ps : List Str} {sets : List (Str × V)} {xs : List V} {o : HO} (h : RowAt K H r wt ps sets) (hp : H p = some (.lst xs)) : RowAt K (upd H p o) r wt ps sets := by
  obtain ⟨pt, st, rs, h1, h2, h3, h4⟩ := h.ex
  exact ⟨pt, st, rs, sqt_upd h1 hp (fun _ q => nomatch q) (fun _ _ q => nomatch q), sqt_upd h2 hp (fun _ q => nomatch q) (fun _ _ q => nomatch q), sqt_upd h3 hp (fun _ q => nomatch q) (fun _ _ q => nomatch q), sets_upd h4 hp (fun _ q => nomatch q) (fun _ _ q => nomatch q)⟩
/-- pairs, each a list of its own -/
def LSets (H : Hp) (ls : List Addr) (sets : List (Str × V)) : Prop := Paired (fun l x => H l = some (.lst [.str x.1, x.2])) ls sets
theorem LSets.ext {H H' : Hp} {ls : List Addr} {sets : List (Str × V)} (h : LSets H ls sets) (e : Ext H H') : LSets H' ls sets := by
  unfold LSets at *
  induction h with
  | nil => exact .nil
  | cons a _ ih => exact .cons (e _ _ a) ih
theorem LSets.app {H : Hp} {ls : List Addr} {sets : List (Str × V)} {l : Addr} {x : Str × V} (h : LSets H ls sets) (hx : H l = some (.lst [.str x.1, x.2])) : LSets H (ls ++ [l]) (sets ++ [x]) := by
  unfold LSets at *
  induction h with
  | nil => exact .cons hx .nil
  | cons a _ ih => exact .cons a ih
theorem SetsQ.app {K : PySem.W.Frag} {H : Hp} {rs : List Addr} {sets : List (Str × V)} {r : Addr} {x : Str × V} (h : SetsQ K H rs sets) (hx : Seq K H r [.str x.1, x.2]) : SetsQ K H (rs ++ [r]) (sets ++ [x]) := by
  unfold SetsQ at *
  induction h with
  | nil => exact .cons hx .nil
  | cons a _ ih => exact .cons a ih
theorem LSets.rev {K : PySem.W.Frag} {H : Hp} {ls : List Addr} {sets : List (Str × V)} (h : LSets H ls sets) : SetsQ K H ls.reverse sets.reverse := by
  unfold LSets at h
  induction h with
  | nil => exact .nil
  | cons a _ ih =>
    rw [List.reverse_cons, List.reverse_cons]
    exact SetsQ.app ih (.inr (SqL.of a))
theorem LSets.dp {K : PySem.W.Frag} {H : Hp} {ls : List Addr} {sets : List (Str × V)} (h : LSets H ls sets) (hs : SetsOk sets) : DpAll K H (ls.map V.ref) (sets.map fun x => PyData.list [.str x.1, vD x.2]) := by
  unfold LSets at h
  induction h with
  | nil => exact .nil
  | @cons l x _ _ a _ ih => exact .cons (.lst (SqL.of a) (.cons (.str x.1) (.cons (dp_v (hs x List.mem_cons_self)) .nil))) (ih fun y hy => hs y (List.mem_cons_of_mem _ hy))
/-- a list of refs to lists that aren't among what is written -/
theorem LSets.off {H : Hp} {ls : List Addr} {sets : List (Str × V)} {D : Addr} {o : HO} (h : LSets H ls sets) (hD : D ∉ ls) : LSets (upd H D o) ls sets := by
  unfold LSets at *
  induction h with
  | nil => exact .nil
  | @cons l x _ _ a _ ih =>
    rw [List.mem_cons, not_or] at hD
    exact .cons (by rw [upd_ne (Ne.symm hD.1)]; exact a) (ih hD.2)
theorem LSets.last {H : Hp} {ls : List Addr} {sets : List (Str × V)} (h : LSets H ls sets) (hne : sets ≠ []) : ∃ l0 n v, l0 ∈ ls ∧ (ls.reverse.map V.ref)[0]? = some (.ref l0) ∧ H l0 = some (.lst [.str n, v]) := by
  unfold LSets at h
  induction h with
  | nil => exact absurd rfl hne
  | @cons l x ls' sets' a b ih =>
    by_cases q : sets' = []
    · subst q
      cases b
      exact ⟨l, x.1, x.2, List.mem_cons_self, rfl, a⟩
    · obtain ⟨l0, n, v, h1, h2, h3⟩ := ih q
      refine ⟨l0, n, v, List.mem_cons_of_mem _ h1, ?_, h3⟩
      rw [List.reverse_cons, List.map_append, List.getElem?_append_left (List.getElem?_eq_some_iff.mp h2).1]
      exact h2
theorem RuleAt.bk {K : PySem.W.Frag} {C : Addr} {H H' : Hp} {a b : Addr} {wt : Int} {ps : List Str} {sets : List (Str × V)} (h : RuleAt K C H a wt ps sets) (hb : IsBag H b) (B : Bk b H H') : RuleAt K C H' a wt ps sets := by
  obtain ⟨dx, pt, st, rs, h1, h2, h3, h4⟩ := h.ex
  obtain ⟨ys, hy⟩ := hb.lst
  exact ⟨dx, pt, st, rs, B.keep _ _ (fun q => by rw [q, hy] at h1; cases h1) h1, B.T hb h2, B.T hb h3, B.S hb h4⟩
/-- the class beside built-in ones -/
structure TxK (K : PySem.W.Frag) (C : Addr) : Prop where
  nfi : PySem.W.notFirst K C (.type "int") = true
  nft : PySem.W.notFirst K C (.type "tuple") = true
  ki : PySem.W.kitOne K (.type "int") (.ref C) = some false
  kt : PySem.W.kitOne K (.type "tuple") (.ref C) = some false
theorem lookup_rev {sets : List (Str × V)} (hn : (sets.map (·.1)).Nodup) (n : Str) : sets.reverse.lookup n = sets.lookup n := by
  have hn2 : (sets.reverse.map (·.1)).Nodup := by
    rw [List.map_reverse]
    exact List.pairwise_reverse.mpr (List.Pairwise.imp Ne.symm hn)
  cases q : sets.lookup n with
  | some v =>
    have hm := lookup_mem q
    exact lookup_at (x := (n, v)) hn2 (List.mem_reverse.mpr hm)
  | none =>
    cases q2 : sets.reverse.lookup n with
    | none => rfl
    | some v =>
      have hm := List.mem_reverse.mp (lookup_mem q2)
      have := lookup_at (x := (n, v)) hn hm
      rw [q] at this
      cases this
theorem ord_rev {sets : List (Str × V)} (h : Sub sets) : ord sets.reverse = sets := by
  have e : ord sets.reverse = ord sets := by
    unfold ord
    exact fm_congr fun n _ => by rw [lookup_rev h.nodup]
  rw [e, ord_sub h]
theorem SetsOk.rev {sets : List (Str × V)} (h : SetsOk sets) : SetsOk sets.reverse := fun x hx => h x (List.mem_reverse.mp hx)
theorem nodup_rev {sets : List (Str × V)} (hn : (sets.map (·.1)).Nodup) : (sets.reverse.map (·.1)).Nodup := by
  rw [List.map_reverse]
  exact List.pairwise_reverse.mpr (List.Pairwise.imp Ne.symm hn)
theorem lay2 {x : Str × V} (h : SetOk x.1 x.2) : (PyData.list [.str x.1, vD x.2]).canLay0 = true ∧ (PyData.list [.str x.1, vD x.2]).depth ≤ 2 := by
  obtain ⟨h1, h2⟩ := vD_lay h
  refine ⟨?_, ?_⟩
  · rw [PyData.canLay0, PyData.canLayAll0, PyData.canLayAll0, PyData.canLayAll0, PyData.canLay0, name_ok (set_name h), h1]
    rfl
  · simp [PyData.depth, PyData.depthAll, h2]
theorem eqv_self {d : PyData} (h : SeqAt.shaped d = true) : PyData.eqv d d = true := SeqAt.eqv_refl d (SeqAt.canLay_of_shaped h)
/-- [list(pair) for pair in row[2]] -/
theorem lc_lists {K : PySem.W.Frag} {st : Addr} {σ : L2.St} {H : Hp} {rs : List Addr} {sets : List (Str × V)} {Q : VK} {te : TE} (h3 : SqT K H st (rs.map V.ref)) (h4 : Sets K H rs sets) (hl : sets.length ≤ 10) (hte : ∀ R : VK, R (.ref st) H → te σ H R)
    (hw : ∀ v, wipe ((wipe σ [6]).set 6 (some v)) [6] = wipe σ [6]) (hv : ∀ v, ((wipe σ [6]).set 6 (some v))[6]? = some (some v))
    (k : ∀ D ls H', H D = none → Ext H H' → H' D = some (.lst (ls.map V.ref)) → LSets H' ls sets → D ∉ ls → (∀ l ∈ ls, H l = none) → Q (.ref D) H') :
    tLc (iTup K te) (gName 6) tYes (tCB (fun xs H Q => ∃ p ys, xs = [.ref p] ∧ (SqL K H p ys ∨ SqT K H p ys) ∧ ∀ l, H l = none → Q (.ref l) (upd H l (.lst ys))) (tCons (tVar 6) tNil)) [6] σ H Q := by
  refine hte _ ⟨st, rfl, ⟨_, h3⟩, fun D hD => ?_⟩
  refine lc_tup (xs := rs.map V.ref) (fun i H' => (∀ q u, q ≠ D → H q = some u → H' q = some u) ∧ ∃ ls : List Addr, H' D = some (.lst (ls.map V.ref)) ∧ LSets H' ls (sets.take i) ∧ D ∉ ls ∧ ∀ l ∈ ls, H l = none)
    ⟨fun q u hq e => by rw [upd_ne hq]; exact e, [], upd_same, .nil, (fun q => nomatch q), fun l q => nomatch q⟩ (fun i H' _ h => h3.ext fun q u e => h.1 q u (ne_of_none e hD) e) (fun i v H' hv' h => ?_) (fun H' h => ?_)
  · obtain ⟨k1, ls, k2, k3, k4, k5⟩ := h
    obtain ⟨r, y, rfl, hy, hq⟩ := sets_at h4 hv'
    have e1 : Ext H H' := fun q u e => k1 q u (ne_of_none e hD) e
    refine ⟨hw _, _, hv _, r, _, rfl, .inr (hq.ext e1), fun l hl' => ?_⟩
    have hDl : D ≠ l := ne_of_none k2 hl'
    have hi := (List.getElem?_eq_some_iff.mp hy).1
    refine ⟨_, by rw [upd_ne hDl]; exact k2, ?_, fun q u hq' e => ?_, ls ++ [l], ?_, ?_, ?_, fun m hm => ?_⟩
    · rw [List.length_map]
      have h1 := Paired.length k3
      rw [List.length_take] at h1
      exact Nat.lt_of_lt_of_le (by omega : ls.length < 1000) (by decide)
    · rw [upd_ne hq', upd_ne (ne_of_none (k1 q u hq' e) hl')]
      exact k1 q u hq' e
    · rw [upd_same, List.map_append]
      rfl
    · have et : sets.take (i + 1) = sets.take i ++ [y] := by rw [List.take_add_one, hy]; rfl
      rw [et]
      have h1 : LSets (upd H' l (.lst [.str y.1, y.2])) (ls ++ [l]) (sets.take i ++ [y]) := (k3.ext (Ext.upd hl')).app upd_same
      exact h1.off (by
        rw [List.mem_append, List.mem_singleton, not_or]
        exact ⟨k4, hDl⟩)
    · rw [List.mem_append, List.mem_singleton, not_or]
      exact ⟨k4, hDl⟩
    · rcases List.mem_append.mp hm with q | q
      · exact k5 m q
      · rw [List.mem_singleton.mp q]
        cases q2 : H l with
        | none => rfl
        | some u => rw [e1 _ _ q2] at hl'; cases hl'
  · obtain ⟨k1, ls, k2, k3, k4, k5⟩ := h
    rw [List.length_map, Paired.length h4, List.take_length] at k3
    exact k D ls H' hD (fun q u e => k1 q u (ne_of_none e hD) e) k2 k3 k4 k5
section
variable {P : Program} {w : World} {K : PySem.W.Frag} {mg : Str → Option Value} {base : Heap} {tv tp tk dl C : Addr}
def spLaw (K : PySem.W.Frag) : Sp := fun vs H Q _ => ∃ (a : Addr) (ns : List Int), vs = [.ref a] ∧ SqL K H a (ns.map V.int) ∧ ns.length ≤ 63 ∧ ∀ H', Q (.bl true) H'
abbrev slaw : Stmt := topS 30
theorem sclaw : FnScope ["_law_script", "_law_at", "_law_bag_here", "_law_row", "_law_pattern", "_law_settings", "_law_pair", "_law_rule", "_law_turn", "_law_kind", "_law_marks", "_law_context", "_law_told", "_law_other_here", "_law_strange"] ["_law_script"] (defScope slaw) := ⟨rfl, rfl, rfl, by decide +kernel, rfl, by decide +kernel, by decide +kernel⟩
theorem pe_callR {X : Cx} {i : Nat} {fe e : Expr} {es : List Expr} {pos : Pos} {tf : TE} {t : TA} (R : RuleOk X.prog X.w X.K X.mg X.base C) (hf : PE X fe tf) (hr : Room 1 X.A) (ha : PA X (e :: es) t)
    (ht : eval (.Call fe (e :: es) [] pos) X.env = (do callWith pos (← eval fe X.env) [] (backTo pos (starEach (e :: es) X.env)) (backToKw pos (keywordEach [] X.env))) := by rfl)
    (he : starEach (e :: es) X.env = (false, eval e X.env) :: starEach es X.env := by rfl) (hpl : (backTo pos (starEach es X.env)).any (·.1) = false := by rfl) : PE X (.Call fe (e :: es) [] pos) (tCallO X C (fun vs H Q E => spCallR X.K C (vs ++ []) H Q E) E0 tf t) := by
  obtain ⟨fc, c, F⟩ := R.call
  exact pe_callO hf c F hr pass0 ha ht he hpl
set_option maxHeartbeats 8000000 in
theorem ok_law {f : Addr} {fd : FuncData} (F : Fun K "law" "law" slaw f fd) (T : Txt K w mg tv tp tk dl C) (R : TxR K C) (TK : TxK K C) (RO : RuleOk P w K mg base C) (C__law_few : CallOk P w K mg base 1 "_law_few" ["_law_script", "_law_many"] (spFew K)) (C__law_bag : CallOk P w K mg base 1 "_law_bag" ["_law_script", "_law_at"] (spBag K))
    (C__law_rule_row : CallOk P w K mg base 3 "_law_rule_row" ["_law_bag_here", "_law_kinds", "_law_widest"] (spRow K)) (C__law_piece : CallOk P w K mg base 3 "_law_piece" ["_law_bag_here", "_law_pattern"] (spPiece K)) (C__law_matches : CallOk P w K mg base 1 "_law_matches" ["_law_pattern", "_law_kind", "_law_marks", "_law_context"] (spMatch K))
    (C__law_attributes : CallOk P w K mg base 2 "_law_attributes" ["_law_rule", "_law_row"] (spAttr K C)) (C__law_other : CallOk P w K mg base 3 "_law_other" ["_law_bag_here", "_law_row"] (spOther K)) (C__law_keywords : CallOk P w K mg base 7 "_law_keywords" ["_law_bag_here", "_law_row"] (spKeyw K)) : FnOk P w K mg base CX0 8 f fd ["_law_script"] (spLaw K) := by
  refine F.ok sclaw (fun vs H Q E h => ?_) (fun cdv A outer s H vs Q E hr h => ?_)
  · obtain ⟨a, ns, rfl, _⟩ := h
    rfl
  · obtain ⟨a, ns, rfl, hS, hns, kq⟩ := h
    refine ⟨_, (pss_cons (ps_if (pt_cmpR (op_neD hr.units) (pe_glob (v := .ref tv) (by rfl) T.g_VALUE_NAMES rfl) (pe_tup (pa_cons pe_str (pa_cons pe_str (pa_cons pe_str (pa_cons pe_str (pa_cons pe_str (pa_cons pe_str pa_nil))))))) (nomark _))
        (pss_one (ps_ret pe_bl))
        pss_nil)
      (pss_cons (ps_for PassesOwn.never rfl (pi_range1 (by rfl) T.b_range (pa_cons (pe_cc C__law_few (hr.mono (by decide)) (by rfl) (pa_cons (pv 0) (pa_cons pe_int pa_nil))) pa_nil)) (pg_name (i := 1) sclaw.nd rfl (.inl rfl))
        (pss_cons (ps_set (i := 2) sclaw.nd rfl (.inl rfl) (pe_cc C__law_bag (hr.mono (by decide)) (by rfl) (pa_cons (pv 0) (pa_cons (pv 1) pa_nil))))
        (pss_cons (ps_set (i := 3) sclaw.nd rfl (.inl rfl) (pe_cc C__law_rule_row (hr.mono (by decide)) (by rfl) (pa_cons (pv 2) (pa_cons pe_str (pa_cons pe_int pa_nil)))))
        (pss_cons (ps_par (i := 4) (j := 5) (by rfl) sclaw.nd rfl rfl (by decide) rfl rfl (pa_cons (pe_callTy call_list_of (by rfl) T.b_list (by decide +kernel) (pa_cons (pe_ix ix_tup (pv 3) pe_int (fun _ _ => rfl)) pa_nil)) (pa_cons (pe_lc (own := [("_law_pair", 6)]) (g := gName 6) (tt := tYes) rfl sclaw.nd (pi_tup (pe_ix ix_tup (pv 3) pe_int (fun _ _ => rfl))) (blkOk_by (N := ["_law_script", "_law_at", "_law_bag_here", "_law_row", "_law_pattern", "_law_settings", "_law_pair", "_law_rule", "_law_turn", "_law_kind", "_law_marks", "_law_context", "_law_told", "_law_other_here", "_law_strange"]) (sc := defScope slaw) (by decide +kernel)) (fun _ _ _ _ _ => (pg_name (i := 6) sclaw.nd rfl (.inl rfl))) (fun _ _ _ _ _ => pts_nil) (fun _ _ _ _ _ => (pe_callTy (r := fun xs H Q => ∃ p ys, xs = [.ref p] ∧ (SqL K H p ys ∨ SqT K H p ys) ∧ ∀ l, H l = none → Q (.ref l) (upd H l (.lst ys))) call_list_of (by rfl) T.b_list (by decide +kernel) (pa_cons (pv 6) pa_nil)))) pa_nil)) (by rfl))
        (pss_cons (ps_expr (pe_bm0 PySem.F.plainAttrs_list PySem.F.slot_list_reverse PySem.F.type_list_reverse mt_reverse (pv 5)))
        (pss_cons (ps_set (i := 7) sclaw.nd rfl (.inl rfl) (pe_made RO (pe_glob (v := .ref C) (by rfl) T.g_Rule rfl) (hr.mono (by decide)) (pa_cons (pe_ix ix_tup (pv 3) pe_int (fun _ _ => rfl)) (pa_cons (pv 4) (pa_cons (pv 5) pa_nil)))))
        (pss_cons (ps_if (PW.pt (pw_or (pt_cmpR (op_neD hr.units) (pv 4) (pe_callTy call_list_of (by rfl) T.b_list (by decide +kernel) (pa_cons (pe_ix ix_tup (pv 3) pe_int (fun _ _ => rfl)) pa_nil)) (nomark _)) (pw_or1 (pt_cmpR (op_neD hr.units) (pe_stepL (pv 5) (pe_un un_neg pe_int)) (pe_lc (own := [("_law_pair", 6)]) (g := gName 6) (tt := tYes) rfl sclaw.nd (pi_tup (pe_ix ix_tup (pv 3) pe_int (fun _ _ => rfl))) (blkOk_by (N := ["_law_script", "_law_at", "_law_bag_here", "_law_row", "_law_pattern", "_law_settings", "_law_pair", "_law_rule", "_law_turn", "_law_kind", "_law_marks", "_law_context", "_law_told", "_law_other_here", "_law_strange"]) (sc := defScope slaw) (by decide +kernel)) (fun _ _ _ _ _ => (pg_name (i := 6) sclaw.nd rfl (.inl rfl))) (fun _ _ _ _ _ => pts_nil) (fun _ _ _ _ _ => (pe_callTy (r := fun xs H Q => ∃ p ys, xs = [.ref p] ∧ (SqL K H p ys ∨ SqT K H p ys) ∧ ∀ l, H l = none → Q (.ref l) (upd H l (.lst ys))) call_list_of (by rfl) T.b_list (by decide +kernel) (pa_cons (pv 6) pa_nil)))) (nomark _)))))
          (pss_one (ps_ret pe_bl))
          pss_nil)
        (pss_cons (ps_asg pe_str (pg_sub (pv 4) pe_int set_list))
        (pss_cons (ps_asg pe_non (pg_sub (pe_ix ix_list (pv 5) pe_int (fun _ _ => rfl)) pe_int set_list))
        (pss_cons (ps_expr (pe_bm0 PySem.F.plainAttrs_list PySem.F.slot_list_clear PySem.F.type_list_clear mt_clear (pv 5)))
        (pss_cons (ps_if (pt_not (pt_val (pe_cc C__law_attributes (hr.mono (by decide)) (by rfl) (pa_cons (pv 7) (pa_cons (pv 3) pa_nil)))))
          (pss_one (ps_ret pe_bl))
          pss_nil)
        (pss_cons (ps_for PassesOwn.never rfl (pi_range1 (by rfl) T.b_range (pa_cons pe_int pa_nil)) (pg_name (i := 8) sclaw.nd rfl (.inl rfl))
          (pss_cons (ps_asg (pe_cc C__law_piece (hr.mono (by decide)) (by rfl) (pa_cons (pv 2) (pa_cons (pe_ix ix_tup (pv 3) pe_int (fun _ _ => rfl)) pa_nil))) (pg_tup rfl (pgs_cons (pg_name (i := 9) sclaw.nd rfl (.inl rfl)) (pgs_cons (pg_name (i := 10) sclaw.nd rfl (.inl rfl)) (pgs_cons (pg_name (i := 11) sclaw.nd rfl (.inl rfl)) pgs_nil)))))
          (pss_cons (ps_set (i := 12) sclaw.nd rfl (.inl rfl) (pe_callR (i := 0) RO (pv 7) (hr.mono (by decide)) (pa_cons (pv 9) (pa_cons (pv 10) (pa_cons (pv 11) pa_nil)))))
          (pss_one (ps_if (PW.pt (pw_or (pt_not (pt_val (pe_callB call_isi (by rfl) T.b_isinstance (by decide +kernel) (pa_cons (pv 12) (pa_cons (pe_bltn (v := .ty "bool") (by rfl) T.b_bool (by decide +kernel) rfl) pa_nil))))) (pw_or1 (pt_cmpR op_ne (pv 12) (pe_cc C__law_matches (hr.mono (by decide)) (by rfl) (pa_cons (pe_ix ix_tup (pv 3) pe_int (fun _ _ => rfl)) (pa_cons (pv 9) (pa_cons (pv 10) (pa_cons (pv 11) pa_nil))))) (nomark _)))))
            (pss_one (ps_ret pe_bl))
            pss_nil)))))
        (pss_cons (ps_set (i := 13) sclaw.nd rfl (.inl rfl) (pe_cc C__law_other (hr.mono (by decide)) (by rfl) (pa_cons (pv 2) (pa_cons (pv 3) pa_nil))))
        (pss_cons (ps_set (i := 14) sclaw.nd rfl (.inl rfl) (pe_made RO (pe_glob (v := .ref C) (by rfl) T.g_Rule rfl) (hr.mono (by decide)) (pa_cons (pe_ix ix_tup (pv 13) pe_int (fun _ _ => rfl)) (pa_cons (pe_callTy call_list_of (by rfl) T.b_list (by decide +kernel) (pa_cons (pe_ix ix_tup (pv 13) pe_int (fun _ _ => rfl)) pa_nil)) (pa_cons (pe_callTy call_list_of (by rfl) T.b_list (by decide +kernel) (pa_cons (pe_ix ix_tup (pv 13) pe_int (fun _ _ => rfl)) pa_nil)) pa_nil)))))
        (pss_cons (ps_if (PW.pt (pw_or (pt_cmpR (op_eqR RO (hr.mono (by decide))) (pv 7) (pv 14) (nomark _)) (pw_or (pt_not (pt_cmpR (op_neR RO (hr.mono (by decide))) (pv 7) (pv 14) (nomark _))) (pw_or1 (pt_not (pt_cmpR (op_eqR RO (hr.mono (by decide))) (pv 7) (pe_made RO (pe_glob (v := .ref C) (by rfl) T.g_Rule rfl) (hr.mono (by decide)) (pa_cons (pe_ix ix_tup (pv 3) pe_int (fun _ _ => rfl)) (pa_cons (pe_ix ix_tup (pv 3) pe_int (fun _ _ => rfl)) (pa_cons (pe_ix ix_tup (pv 3) pe_int (fun _ _ => rfl)) pa_nil)))) (nomark _)))))))
          (pss_one (ps_ret pe_bl))
          pss_nil)
        (pss_one (ps_if (PW.pt (pw_or (pt_cmpR (op_eqR RO (hr.mono (by decide))) (pv 7) (pe_ix ix_tup (pv 3) pe_int (fun _ _ => rfl)) (nomark _)) (pw_or (pt_cmpR (op_eqR RO (hr.mono (by decide))) (pv 7) (pv 3) (nomark _)) (pw_or (pt_not (pt_val (pe_cc C__law_keywords (hr.mono (by decide)) (by rfl) (pa_cons (pv 2) (pa_cons (pv 3) pa_nil))))) (pw_or1 (pt_not (pt_val (pe_cc C__law_attributes (hr.mono (by decide)) (by rfl) (pa_cons (pv 14) (pa_cons (pv 13) pa_nil))))))))))
          (pss_one (ps_ret pe_bl))
          pss_nil)))))))))))))))))
      (pss_one (ps_ret pe_bl)))), ?_⟩
    refine ⟨(by show 6 ≤ sizeLine; decide), fun t0 ht0 => ?_⟩
    have e00 := Ext.upd (o := .tup (VN.map V.str)) ht0
    have shV : SeqAt.shaped (.tuple (VN.map PyData.str)) = true := sh_tup (fun x hx => ⟨by rw [PyData.canLay0]; exact name_ok hx, by rw [PyData.depth]; exact Nat.zero_le _⟩)
    refine ⟨_, _, .tup (T.vn _) (dp_strs VN), .tup (SqT.of upd_same) (dp_strs VN), shV, shV, ?_⟩
    rw [eqv_self shV]
    refine ⟨_, rfl, iteF ?_⟩
    have hS0 := SqL.ext hS e00
    refine ⟨_, rfl, a, 3, ns, rfl, hS0, by decide, by decide, fun jf H1 j0 j3 e01 => ⟨jf, rfl, by omega, by omega, ?_⟩⟩
    refine for_range (lo := 0) (n := jf.toNat) (fun i σ H' => Ext H1 H' ∧ ∃ x1 x2 x3 x4 x5 x6 x7 x8 x9 x10 x11 x12 x13 x14, σ = [some (.ref a), x1, x2, x3, x4, x5, x6, x7, x8, x9, x10, x11, x12, x13, x14])
      ⟨Ext.rfl', _, _, _, _, _, _, _, _, _, _, _, _, _, _, rfl⟩ (fun i σ H' hi h => ?_) (fun σ H' h => kq _)
    obtain ⟨ex, x1, x2, x3, x4, x5, x6, x7, x8, x9, x10, x11, x12, x13, x14, rfl⟩ := h
    have hS' := SqL.ext hS0 (e01.trans ex)
    refine ⟨_, rfl, _, rfl, a, 0 + (i : Int), ns, rfl, hS', by omega, by omega, fun b H2 hbn hb hkeep => ?_⟩
    have e2 : Ext H' H2 := fun q u e => hkeep q u (ne_of_none e hbn) e
    refine ⟨_, rfl, b, rfl, hb, fun rp H3 wt ps sets hG B3 hW => ?_⟩
    obtain ⟨pt, st, rs, g0, g2, g3, g4⟩ := hW.ex
    have hlen := hG.sub.len
    have hnd := hG.sub.nodup
    refine ⟨_, rfl, rp, _, _, _, rfl, rfl, g0, atI_nat (j := 1) rfl, pt, _, rfl, .inr g2, fun pl hpl => ?_⟩
    have e4 := Ext.upd (o := .lst (ps.map V.str)) hpl
    unfold tCons tNil
    refine lc_lists (g3.ext e4) (Sets.ext g4 e4) (by omega) (fun R h => ⟨_, rfl, rp, _, _, _, rfl, rfl, g0.ext e4, atI_nat (j := 2) rfl, h⟩) (fun _ => rfl) (fun _ => rfl) fun D ls H5 hD e5 hd5 hls hDn hlf => ?_
    refine ⟨_, _, rfl, ?_⟩
    have hpl5 := e5 _ _ (upd_same (H := H3) (a := pl) (o := .lst (ps.map V.str)))
    have hplD : pl ≠ D := ne_of_none upd_same hD
    have row5 := hW.ext (e4.trans e5)
    refine ⟨_, rfl, .inl ⟨rfl, _, SqL.of hd5⟩, D, _, rfl, rfl, hd5, ?_⟩
    have row6 := row5.lst (o := .lst (ls.map V.ref).reverse) hd5
    have hls6 := hls.off (o := .lst (ls.map V.ref).reverse) hDn
    have hpl6 : upd H5 D (.lst (ls.map V.ref).reverse) pl = some (.lst (ps.map V.str)) := by rw [upd_ne hplD]; exact hpl5
    have hd6 : upd H5 D (.lst (ls.map V.ref).reverse) D = some (.lst (ls.reverse.map V.ref)) := by rw [upd_same, List.map_reverse]
    have B6 : Bk b H2 (upd H5 D (.lst (ls.map V.ref).reverse)) := by
      have hDb : D ≠ b := fresh_ne (B3.fresh (o := .lst (ps.map V.str)) hpl).bag hD
      have hD2 : H2 D = none := by
        cases q : H2 D with
        | none => rfl
        | some u =>
          have z := (B3.fresh (o := .lst (ps.map V.str)) hpl).keep _ _ hDb q
          rw [hD] at z
          cases z
      exact ((B3.fresh hpl).trans (Bk.of (B3.fresh hpl).bag e5)).put hD2 hDb
    change tSeq _ _ _ _ (upd H5 D (.lst (ls.map V.ref).reverse))
    generalize upd H5 D (.lst (ls.map V.ref).reverse) = H6 at row6 hls6 hpl6 hd6 B6 ⊢
    obtain ⟨pt6, st6, rs6, m0, m2, m3, m4⟩ := row6.ex
    refine ⟨rfl, _, rfl, rp, _, _, _, rfl, rfl, m0, atI_nat (j := 0) rfl, _, rfl, _, rfl, pl, D, wt, ps, ls.reverse, sets.reverse, rfl, .inr (SqL.of hpl6), hG.ps, hG.w0, hG.w9, .inr (SqL.of hd6), hls6.rev, hG.ok.rev, nodup_rev hnd, (fun q => hG.ne (List.reverse_eq_nil_iff.mp q)), (by rw [List.length_reverse]; omega), fun x H7 hx e7 hR => ?_⟩
    rw [ord_rev hG.sub] at hR
    refine at_state [some (.ref a), some (.int (0 + (i : Int))), some (.ref b), some (.ref rp), some (.ref pl), some (.ref D), x6, some (.ref x), x8, x9, x10, x11, x12, x13, x14] rfl ?_
    -- what was passed is as it was
    have hpl7 := e7 _ _ hpl6
    have hd7 := e7 _ _ hd6
    have hls7 := hls6.ext e7
    have shP : SeqAt.shaped (.list (ps.map PyData.str)) = true := sh_lst (pat_all hG.ps)
    refine ⟨_, rfl, _, rfl, rp, _, _, _, rfl, rfl, m0.ext e7, atI_nat (j := 1) rfl, pt6, _, rfl, .inr (m2.ext e7), fun p2 hp2 => ?_⟩
    have e8 := Ext.upd (o := .lst (ps.map V.str)) hp2
    refine ⟨_, _, .lst (SqL.of (e8 _ _ hpl7)) (dp_strs ps), .lst (SqL.of upd_same) (dp_strs ps), shP, shP, ?_⟩
    rw [eqv_self shP]
    refine ⟨_, rfl, iteF ?_⟩
    refine ⟨_, rfl, _, rfl, _, rfl, D, _, false, rfl, rfl, SqL.of (e8 _ _ hd7), fun p3 hp3 => ?_⟩
    have e9 := Ext.upd (o := .lst (if false = true then ls.reverse.map V.ref else (ls.reverse.map V.ref).reverse)) hp3
    have e79 := e8.trans e9
    have hp3' : upd (upd H7 p2 (.lst (ps.map V.str))) p3 (.lst (if false = true then ls.reverse.map V.ref else (ls.reverse.map V.ref).reverse)) p3 = some (.lst (ls.map V.ref)) := by
      rw [upd_same, if_neg Bool.false_ne_true, List.map_reverse, List.reverse_reverse]
    refine lc_lists ((m3.ext e7).ext e79) (Sets.ext (Sets.ext m4 e7) e79) (by omega) (fun R h => ⟨_, rfl, rp, _, _, _, rfl, rfl, (m0.ext e7).ext e79, atI_nat (j := 2) rfl, h⟩) (fun _ => rfl) (fun _ => rfl) fun D2 ls2 H9 hD2 e10 hd9 hls9 hDn2 _ => ?_
    have shL : SeqAt.shaped (.list (sets.map fun x => PyData.list [.str x.1, vD x.2])) = true := sh_lst (fun x hx => lay2 (hG.ok x hx))
    have e710 := e79.trans e10
    refine ⟨_, _, .lst (SqL.of (e10 _ _ hp3')) ((hls7.ext e710).dp hG.ok), .lst (SqL.of hd9) (hls9.dp hG.ok), shL, shL, ?_⟩
    rw [eqv_self shL]
    refine ⟨_, rfl, iteF ?_⟩
    have B9 := (B6.trans (Bk.of B6.bag e7)).trans (Bk.of (B6.trans (Bk.of B6.bag e7)).bag e710)
    have row9 := (row6.ext e7).ext e710
    have hR9 := hR.ext e710
    have hpl9 := e710 _ _ hpl7
    have hd9' := e710 _ _ hd7
    have hls9' := hls7.ext e710
    clear e8 e9 e79 hp3' hD2 e10 hd9 hls9 hDn2 e710 hpl7 hd7 hls7
    -- what was passed is changed
    have hb3 := B3.fresh (o := .lst (ps.map V.str)) hpl
    have hplb : pl ≠ b := fresh_ne B3.bag hpl
    have hDb : D ≠ b := fresh_ne hb3.bag hD
    have hpl2 : H2 pl = none := B3.free hb hpl
    have hD2 : H2 D = none := hb3.free hb hD
    obtain ⟨l0, n0, v0, hl0, hg0, hl9⟩ := hls9'.last hG.ne
    have hl2 : H2 l0 = none := hb3.free hb (hlf l0 hl0)
    have hlb : l0 ≠ b := fresh_ne hb3.bag (hlf l0 hl0)
    have hlpl : l0 ≠ pl := fun q => by
      have z := hlf l0 hl0
      rw [q, upd_same] at z
      cases z
    have hDl : D ≠ l0 := fun q => hDn (by rw [q]; exact hl0)
    refine ⟨_, rfl, pl, _, 0, 0, rfl, rfl, hpl9, ixN_at (j := 0) (by rw [List.length_map, pat_len hG.ps]; decide), ?_⟩
    refine ⟨_, rfl, D, _, _, _, rfl, rfl, SqL.of (by rw [upd_ne (Ne.symm hplD)]; exact hd9'), atI_nat (j := 0) hg0, l0, _, 1, 1, rfl, rfl, by rw [upd_ne hlpl]; exact hl9, ixN_at (j := 1) (by show 1 < 2; decide), ?_⟩
    have hlA : upd H9 pl (.lst ((ps.map V.str).set 0 (.str "A"))) l0 = some (.lst [.str n0, v0]) := by rw [upd_ne hlpl]; exact hl9
    have hdB : upd (upd H9 pl (.lst ((ps.map V.str).set 0 (.str "A")))) l0 (.lst ([V.str n0, v0].set 1 .non)) D = some (.lst (ls.reverse.map V.ref)) := by rw [upd_ne hDl, upd_ne (Ne.symm hplD)]; exact hd9'
    refine ⟨_, rfl, .inl ⟨rfl, _, SqL.of hdB⟩, D, _, rfl, rfl, hdB, ?_⟩
    have rowC := ((row9.lst (o := .lst ((ps.map V.str).set 0 (.str "A"))) hpl9).lst (o := .lst ([V.str n0, v0].set 1 .non)) hlA).lst (o := .lst []) hdB
    have hRC := ((hR9.lst (o := .lst ((ps.map V.str).set 0 (.str "A"))) hpl9).lst (o := .lst ([V.str n0, v0].set 1 .non)) hlA).lst (o := .lst []) hdB
    have BC := ((B9.put (o := .lst ((ps.map V.str).set 0 (.str "A"))) hpl2 hplb).put (o := .lst ([V.str n0, v0].set 1 .non)) hl2 hlb).put (o := .lst []) hD2 hDb
    change tSeq _ _ _ _ (upd (upd (upd H9 pl (.lst ((ps.map V.str).set 0 (.str "A")))) l0 (.lst ([V.str n0, v0].set 1 .non))) D (.lst []))
    generalize upd (upd (upd H9 pl (.lst ((ps.map V.str).set 0 (.str "A")))) l0 (.lst ([V.str n0, v0].set 1 .non))) D (.lst []) = HC at rowC hRC BC ⊢
    clear hlA hdB hl9 hg0 hpl9 hd9' hls9' row9 hR9 B9
    refine ⟨_, rfl, _, rfl, x, rp, wt, ps, sets, rfl, hRC, rowC, hG, fun HD eD => ⟨_, rfl, iteF ?_⟩⟩
    have rowD := rowC.ext eD
    have hRD := hRC.ext eD
    have BD := BC.trans (Bk.of BC.bag eD)
    -- twelve pieces
    refine ⟨12, rfl, by decide, by decide, ?_⟩
    refine for_range (lo := 0) (n := 12) (fun _ σ H' => Bk b H2 H' ∧ RuleAt K C H' x wt ps sets ∧ RowAt K H' rp wt ps sets ∧ ∃ x8 x9 x10 x11 x12, σ = [some (.ref a), some (.int (0 + (i : Int))), some (.ref b), some (.ref rp), some (.ref pl), some (.ref D), x6, some (.ref x), x8, x9, x10, x11, x12, x13, x14])
      ⟨BD, hRD, rowD, _, _, _, _, _, rfl⟩ (fun i2 σ H' _ h => ?_) (fun σ H' h => ?_)
    · obtain ⟨B', hR', row', y8, y9, y10, y11, y12, rfl⟩ := h
      obtain ⟨pt', st', rs', q0, q2, q3, q4⟩ := row'.ex
      refine ⟨_, rfl, _, rfl, rp, _, _, _, rfl, rfl, q0, atI_nat (j := 1) rfl, b, pt', ps, rfl, B'.bag, q2, hG.ps, fun t cx kd mk c0 c1 c2 rest HE ht hcx hm0 hm1 BE => ?_⟩
      have hRE := hR'.bk B'.bag BE
      have rowE := row'.bk B'.bag BE
      obtain ⟨dx, _, _, _, hins, _⟩ := hRE.ex
      refine ⟨t, _, rfl, ht, rfl, _, _, rfl, _, _, rfl, _, _, rfl, rfl, ?_⟩
      refine ⟨_, rfl, x, rfl, _, rfl, _, rfl, _, rfl, .inr ⟨dx, _, hins⟩, x, cx, kd, mk, c0, c1, c2, rest, wt, ps, sets, rfl, hRE, hG.ps, hcx, fun HF eF => ?_⟩
      refine ⟨_, rfl, _, _, _, _, true, rfl, .ty _, .base (.bl _), kit_ty (by decide +kernel), _, rfl, iteF ?_⟩
      obtain ⟨pt2, st2, rs2, u0, u2, _, _⟩ := (rowE.ext eF).ex
      refine ⟨_, rfl, _, rfl, rp, _, _, _, rfl, rfl, u0, atI_nat (j := 1) rfl, _, rfl, _, rfl, _, rfl, pt2, cx, kd, mk, c0, c1, c2, rest, ps, rfl, u2, hG.ps, hcx.ext eF, hm0, hm1, fun HG eG => ⟨rfl, _, rfl, ?_⟩⟩
      rw [decide_eq_true rfl]
      exact iteF ⟨(B'.trans BE).trans (Bk.of BE.bag (eF.trans eG)), (hRE.ext eF).ext eG, (rowE.ext eF).ext eG, _, _, _, _, _, rfl⟩
    obtain ⟨B', hR', row', y8, y9, y10, y11, y12, rfl⟩ := h
    -- another row
    refine ⟨_, rfl, _, rfl, b, rp, wt, ps, sets, rfl, B'.bag, row', hG, fun op HH wt' ps' sets' hG' hdiff BH hrow' => ?_⟩
    have hRH := hR'.bk B'.bag BH
    have rowH := row'.bk B'.bag BH
    obtain ⟨pt', st', rs', q0, q2, q3, q4⟩ := hrow'.ex
    have hlen' := hG'.sub.len
    refine ⟨rfl, _, rfl, op, _, _, _, rfl, rfl, q0, atI_nat (j := 0) rfl, _, rfl, op, _, _, _, rfl, rfl, q0, atI_nat (j := 1) rfl, pt', _, rfl, .inr q2, fun p4 hp4 => ?_⟩
    have f1 := Ext.upd (o := .lst (ps'.map V.str)) hp4
    refine ⟨_, rfl, op, _, _, _, rfl, rfl, q0.ext f1, atI_nat (j := 2) rfl, st', _, rfl, .inr (q3.ext f1), fun p5 hp5 => ?_⟩
    have f2 := Ext.upd (o := .lst (rs'.map V.ref)) hp5
    refine ⟨p4, p5, wt', ps', rs', sets', rfl, .inr (SqL.of (f2 _ _ upd_same)), hG'.ps, hG'.w0, hG'.w9, .inr (SqL.of upd_same), (Sets.ext (Sets.ext q4 f1) f2).q, hG'.ok, hG'.sub.nodup, hG'.ne, by omega, fun y HI hy eI hRI => ?_⟩
    rw [ord_sub hG'.sub] at hRI
    have f12 := (f1.trans f2).trans eI
    have hRxI := hRH.ext f12
    have rowI := rowH.ext f12
    have hrowI := hrow'.ext f12
    have BI := (B'.trans BH).trans (Bk.of BH.bag f12)
    refine at_state [some (.ref a), some (.int (0 + (i : Int))), some (.ref b), some (.ref rp), some (.ref pl), some (.ref D), x6, some (.ref x), y8, y9, y10, y11, y12, some (.ref op), some (.ref y)] rfl ?_
    refine ⟨_, rfl, _, rfl, eq_red R RO.nf hRxI hRI hG.ps hG'.ps hG.ok hG'.ok ?_⟩
    rw [decide_eq_false hdiff]
    refine ⟨_, rfl, iteF ⟨_, rfl, _, rfl, eq_red R RO.nf hRxI hRI hG.ps hG'.ps hG.ok hG'.ok ?_⟩⟩
    rw [decide_eq_false hdiff]
    refine ⟨_, rfl, iteF ?_⟩
    obtain ⟨pt3, st3, rs3, w0, w2, w3, w4⟩ := rowI.ex
    refine ⟨_, rfl, rfl, _, rfl, rp, _, _, _, rfl, rfl, w0, atI_nat (j := 0) rfl, _, rfl, rp, _, _, _, rfl, rfl, w0, atI_nat (j := 1) rfl, _, rfl, rp, _, _, _, rfl, rfl, w0, atI_nat (j := 2) rfl, pt3, st3, wt, ps, rs3, sets, rfl, .inl w2, hG.ps, hG.w0, hG.w9, .inl w3, w4.q, hG.ok, hnd, hG.ne, by omega, fun z HJ hz eJ hRJ => ?_⟩
    rw [ord_sub hG.sub] at hRJ
    refine eq_red R RO.nf (hRxI.ext eJ) hRJ hG.ps hG.ps hG.ok hG.ok ?_
    rw [decide_eq_true ⟨rfl, rfl, rfl⟩]
    refine ⟨_, rfl, iteF ?_⟩
    have hRxJ := hRxI.ext eJ
    have rowJ := rowI.ext eJ
    have BJ := BI.trans (Bk.of BI.bag eJ)
    obtain ⟨dxJ, _, _, _, hinsJ, _⟩ := hRxJ.ex
    refine ⟨_, rfl, _, rfl, rp, _, _, _, rfl, rfl, w0.ext eJ, atI_nat (j := 0) rfl, x, dxJ, _, _, rfl, hinsJ, .base (.int wt), TK.nfi, x, _, wt, ps, sets, rfl, hRxJ, hG.ps, hG.ok, .inr ⟨_, .base (.int wt), TK.ki, false, rfl, _, rfl, iteF ?_⟩⟩
    refine ⟨_, rfl, _, rfl, x, dxJ, _, _, rfl, hinsJ, tup_ty (w0.ext eJ), TK.nft, x, _, wt, ps, sets, rfl, hRxJ, hG.ps, hG.ok, .inr ⟨_, tup_ty (w0.ext eJ), TK.kt, false, rfl, _, rfl, iteF ?_⟩⟩
    refine ⟨_, rfl, _, rfl, b, rp, wt, ps, sets, rfl, BJ.bag, rowJ, hG, fun HK BK => ⟨_, rfl, iteF ?_⟩⟩
    have hRyK := (hRI.ext eJ).bk BJ.bag BK
    have hrowK := (hrowI.ext eJ).bk BJ.bag BK
    refine ⟨_, rfl, _, rfl, y, op, wt', ps', sets', rfl, hRyK, hrowK, hG', fun HL eL => ⟨_, rfl, iteF ⟨fun q u hq => ?_, _, _, _, _, _, _, _, _, _, _, _, _, _, _, rfl⟩⟩⟩
    have hq' := ex q u hq
    exact eL _ _ ((BJ.trans BK).keep q u (ne_of_none hq' hbn) (e2 q u hq'))
end
end Pa
set_option maxRecDepth 100000
set_option maxHeartbeats 4000000
namespace Pa
open PySem PySem.Spec PyProof.Rows L2 RZ StX ClX
/-! ### what the top has written -/
theorem all_mk {l : PySem.W.OpenLaw} {w : World} {K : PySem.W.Frag} {h : Heap} {mg : Str → Option Value} {fa C tv tp tk dl D0 t1 t2 t3 pM f0 f1 f2 f3 f4 f5 f6 f7 f8 f9 f10 f11 f12 f13 f14 f15 f16 f17 f18 f19 f20 f21 f22 f23 f24 : Addr} {mcC : Value} {rsM : List Value} {es : Array DictEntry} (X : K.In h) (G : h.Ns mainGlobals mg) (hfa : mg "law" = some (.ref fa))
    {od0 an0 od1 an1 od2 an2 od3 an3 od4 an4 od5 an5 od6 an6 od7 an7 od8 an8 od9 an9 od10 an10 od11 an11 od12 an12 od13 an13 od14 an14 od15 an15 od16 an16 od17 an17 od18 an18 od19 an19 od20 an20 od21 an21 od22 an22 od23 an23 od24 an24 : Option Addr} {sl0 sl1 sl2 sl3 sl4 sl5 sl6 sl7 sl8 sl9 sl10 sl11 sl12 sl13 sl14 sl15 sl16 sl17 sl18 sl19 sl20 sl21 sl22 sl23 sl24 : Array (Option Value)} {oc0 kV0 dc0 pm0 cd0 ct0 oc1 kV1 dc1 pm1 cd1 ct1 oc2 kV2 dc2 pm2 cd2 ct2 oc3 kV3 dc3 pm3 cd3 ct3 oc4 kV4 dc4 pm4 cd4 ct4 oc5 kV5 dc5 pm5 cd5 ct5 oc6 kV6 dc6 pm6 cd6 ct6 oc7 kV7 dc7 pm7 cd7 ct7 oc8 kV8 dc8 pm8 cd8 ct8 oc9 kV9 dc9 pm9 cd9 ct9 oc10 kV10 dc10 pm10 cd10 ct10 oc11 kV11 dc11 pm11 cd11 ct11 oc12 kV12 dc12 pm12 cd12 ct12 oc13 kV13 dc13 pm13 cd13 ct13 oc14 kV14 dc14 pm14 cd14 ct14 oc15 kV15 dc15 pm15 cd15 ct15 oc16 kV16 dc16 pm16 cd16 ct16 oc17 kV17 dc17 pm17 cd17 ct17 oc18 kV18 dc18 pm18 cd18 ct18 oc19 kV19 dc19 pm19 cd19 ct19 oc20 dc20 pm20 cd20 ct20 oc21 kV21 dc21 pm21 cd21 ct21 oc22 kV22 dc22 pm22 cd22 ct22 oc23 kV23 dc23 pm23 cd23 ct23 oc24 kV24 dc24 pm24 cd24 ct24 : Value}
    {n1 n2 n3 n4 n5 n6 n7 : Nat} {u1 u2 u3 u4 u5 u6 v1 v2 v3 v4 v5 w1 w2 w3 x1 x2 y1 y2 z1 z2 d1 d2 d3 d4 d5 : Tok}
    (aK : PySem.W.nsIn K mainGlobals "KINDS" = some (some (.ref tk))) (aV : PySem.W.nsIn K mainGlobals "VALUE_NAMES" = some (some (.ref tv))) (aP : PySem.W.nsIn K mainGlobals "PATTERN_NAMES" = some (some (.ref tp))) (aL : PySem.W.nsIn K mainGlobals "_LIMITS" = some (some (.ref dl))) (aC : PySem.W.nsIn K mainGlobals "Rule" = some (some (.ref C)))
    (a0 : PySem.W.nsIn K mainGlobals "is_integer" = some (some (.ref f0)))
    (l0 : K.lookup f0 = some ⟨oc0, od0, .func (PySem.W.fnOf "is_integer" "is_integer" (defArgs sis_integer) (defBody sis_integer) (defScope sis_integer) .none kV0 dc0 pm0 an0 cd0 ct0), sl0⟩) (c0 : PySem.W.codeIn K cd0 "is_integer" = true) (k0 : PySem.W.keepIn K (.ref f0) = true)
    (a1 : PySem.W.nsIn K mainGlobals "is_integer_from" = some (some (.ref f1)))
    (l1 : K.lookup f1 = some ⟨oc1, od1, .func (PySem.W.fnOf "is_integer_from" "is_integer_from" (defArgs sis_integer_from) (defBody sis_integer_from) (defScope sis_integer_from) .none kV1 dc1 pm1 an1 cd1 ct1), sl1⟩) (c1 : PySem.W.codeIn K cd1 "is_integer_from" = true) (k1 : PySem.W.keepIn K (.ref f1) = true)
    (a2 : PySem.W.nsIn K mainGlobals "is_row" = some (some (.ref f2)))
    (l2 : K.lookup f2 = some ⟨oc2, od2, .func (PySem.W.fnOf "is_row" "is_row" (defArgs sis_row) (defBody sis_row) (defScope sis_row) .none kV2 dc2 pm2 an2 cd2 ct2), sl2⟩) (c2 : PySem.W.codeIn K cd2 "is_row" = true) (k2 : PySem.W.keepIn K (.ref f2) = true)
    (a3 : PySem.W.nsIn K mainGlobals "texts_for" = some (some (.ref f3)))
    (l3 : K.lookup f3 = some ⟨oc3, od3, .func (PySem.W.fnOf "texts_for" "texts_for" (defArgs stexts_for) (defBody stexts_for) (defScope stexts_for) .none kV3 dc3 pm3 an3 cd3 ct3), sl3⟩) (c3 : PySem.W.codeIn K cd3 "texts_for" = true) (k3 : PySem.W.keepIn K (.ref f3) = true)
    (a4 : PySem.W.nsIn K mainGlobals "_is_pattern" = some (some (.ref f4)))
    (l4 : K.lookup f4 = some ⟨oc4, od4, .func (PySem.W.fnOf "_is_pattern" "_is_pattern" (defArgs s_is_pattern) (defBody s_is_pattern) (defScope s_is_pattern) .none kV4 dc4 pm4 an4 cd4 ct4), sl4⟩) (c4 : PySem.W.codeIn K cd4 "_is_pattern" = true) (k4 : PySem.W.keepIn K (.ref f4) = true)
    (a5 : PySem.W.nsIn K mainGlobals "_is_pair" = some (some (.ref f5)))
    (l5 : K.lookup f5 = some ⟨oc5, od5, .func (PySem.W.fnOf "_is_pair" "_is_pair" (defArgs s_is_pair) (defBody s_is_pair) (defScope s_is_pair) .none kV5 dc5 pm5 an5 cd5 ct5), sl5⟩) (c5 : PySem.W.codeIn K cd5 "_is_pair" = true) (k5 : PySem.W.keepIn K (.ref f5) = true)
    (a6 : PySem.W.nsIn K mainGlobals "_is_setting" = some (some (.ref f6)))
    (l6 : K.lookup f6 = some ⟨oc6, od6, .func (PySem.W.fnOf "_is_setting" "_is_setting" (defArgs s_is_setting) (defBody s_is_setting) (defScope s_is_setting) .none kV6 dc6 pm6 an6 cd6 ct6), sl6⟩) (c6 : PySem.W.codeIn K cd6 "_is_setting" = true) (k6 : PySem.W.keepIn K (.ref f6) = true)
    (a7 : PySem.W.nsIn K mainGlobals "_law_bag" = some (some (.ref f7)))
    (l7 : K.lookup f7 = some ⟨oc7, od7, .func (PySem.W.fnOf "_law_bag" "_law_bag" (defArgs sBag) (defBody sBag) (defScope sBag) .none kV7 dc7 pm7 an7 cd7 ct7), sl7⟩) (c7 : PySem.W.codeIn K cd7 "_law_bag" = true) (k7 : PySem.W.keepIn K (.ref f7) = true)
    (a8 : PySem.W.nsIn K mainGlobals "_law_draw" = some (some (.ref f8)))
    (l8 : K.lookup f8 = some ⟨oc8, od8, .func (PySem.W.fnOf "_law_draw" "_law_draw" (defArgs sDraw) (defBody sDraw) (defScope sDraw) .none kV8 dc8 pm8 an8 cd8 ct8), sl8⟩) (c8 : PySem.W.codeIn K cd8 "_law_draw" = true) (k8 : PySem.W.keepIn K (.ref f8) = true)
    (a9 : PySem.W.nsIn K mainGlobals "_law_one" = some (some (.ref f9)))
    (l9 : K.lookup f9 = some ⟨oc9, od9, .func (PySem.W.fnOf "_law_one" "_law_one" (defArgs sL_one) (defBody sL_one) (defScope sL_one) .none kV9 dc9 pm9 an9 cd9 ct9), sl9⟩) (c9 : PySem.W.codeIn K cd9 "_law_one" = true) (k9 : PySem.W.keepIn K (.ref f9) = true)
    (a10 : PySem.W.nsIn K mainGlobals "_law_few" = some (some (.ref f10)))
    (l10 : K.lookup f10 = some ⟨oc10, od10, .func (PySem.W.fnOf "_law_few" "_law_few" (defArgs sL_few) (defBody sL_few) (defScope sL_few) .none kV10 dc10 pm10 an10 cd10 ct10), sl10⟩) (c10 : PySem.W.codeIn K cd10 "_law_few" = true) (k10 : PySem.W.keepIn K (.ref f10) = true)
    (a11 : PySem.W.nsIn K mainGlobals "_law_ask" = some (some (.ref f11)))
    (l11 : K.lookup f11 = some ⟨oc11, od11, .func (PySem.W.fnOf "_law_ask" "_law_ask" (defArgs sL_ask) (defBody sL_ask) (defScope sL_ask) .none kV11 dc11 pm11 an11 cd11 ct11), sl11⟩) (c11 : PySem.W.codeIn K cd11 "_law_ask" = true) (k11 : PySem.W.keepIn K (.ref f11) = true)
    (a12 : PySem.W.nsIn K mainGlobals "_law_setting" = some (some (.ref f12)))
    (l12 : K.lookup f12 = some ⟨oc12, od12, .func (PySem.W.fnOf "_law_setting" "_law_setting" (defArgs sL_setting) (defBody sL_setting) (defScope sL_setting) .none kV12 dc12 pm12 an12 cd12 ct12), sl12⟩) (c12 : PySem.W.codeIn K cd12 "_law_setting" = true) (k12 : PySem.W.keepIn K (.ref f12) = true)
    (a13 : PySem.W.nsIn K mainGlobals "_law_rule_row" = some (some (.ref f13)))
    (l13 : K.lookup f13 = some ⟨oc13, od13, .func (PySem.W.fnOf "_law_rule_row" "_law_rule_row" (defArgs sL_rule_row) (defBody sL_rule_row) (defScope sL_rule_row) .none kV13 dc13 pm13 an13 cd13 ct13), sl13⟩) (c13 : PySem.W.codeIn K cd13 "_law_rule_row" = true) (k13 : PySem.W.keepIn K (.ref f13) = true)
    (a14 : PySem.W.nsIn K mainGlobals "_law_piece" = some (some (.ref f14)))
    (l14 : K.lookup f14 = some ⟨oc14, od14, .func (PySem.W.fnOf "_law_piece" "_law_piece" (defArgs sL_piece) (defBody sL_piece) (defScope sL_piece) .none kV14 dc14 pm14 an14 cd14 ct14), sl14⟩) (c14 : PySem.W.codeIn K cd14 "_law_piece" = true) (k14 : PySem.W.keepIn K (.ref f14) = true)
    (a15 : PySem.W.nsIn K mainGlobals "_law_matches" = some (some (.ref f15)))
    (l15 : K.lookup f15 = some ⟨oc15, od15, .func (PySem.W.fnOf "_law_matches" "_law_matches" (defArgs sL_matches) (defBody sL_matches) (defScope sL_matches) .none kV15 dc15 pm15 an15 cd15 ct15), sl15⟩) (c15 : PySem.W.codeIn K cd15 "_law_matches" = true) (k15 : PySem.W.keepIn K (.ref f15) = true)
    (a16 : PySem.W.nsIn K mainGlobals "_law_attributes" = some (some (.ref f16)))
    (l16 : K.lookup f16 = some ⟨oc16, od16, .func (PySem.W.fnOf "_law_attributes" "_law_attributes" (defArgs sL_attributes) (defBody sL_attributes) (defScope sL_attributes) .none kV16 dc16 pm16 an16 cd16 ct16), sl16⟩) (c16 : PySem.W.codeIn K cd16 "_law_attributes" = true) (k16 : PySem.W.keepIn K (.ref f16) = true)
    (a17 : PySem.W.nsIn K mainGlobals "_law_other" = some (some (.ref f17)))
    (l17 : K.lookup f17 = some ⟨oc17, od17, .func (PySem.W.fnOf "_law_other" "_law_other" (defArgs sL_other) (defBody sL_other) (defScope sL_other) .none kV17 dc17 pm17 an17 cd17 ct17), sl17⟩) (c17 : PySem.W.codeIn K cd17 "_law_other" = true) (k17 : PySem.W.keepIn K (.ref f17) = true)
    (a18 : PySem.W.nsIn K mainGlobals "_law_keywords" = some (some (.ref f18)))
    (l18 : K.lookup f18 = some ⟨oc18, od18, .func (PySem.W.fnOf "_law_keywords" "_law_keywords" (defArgs sL_keywords) (defBody sL_keywords) (defScope sL_keywords) .none kV18 dc18 pm18 an18 cd18 ct18), sl18⟩) (c18 : PySem.W.codeIn K cd18 "_law_keywords" = true) (k18 : PySem.W.keepIn K (.ref f18) = true)
    (a19 : PySem.W.nsIn K mainGlobals "law" = some (some (.ref f19)))
    (l19 : K.lookup f19 = some ⟨oc19, od19, .func (PySem.W.fnOf "law" "law" (defArgs slaw) (defBody slaw) (defScope slaw) .none kV19 dc19 pm19 an19 cd19 ct19), sl19⟩) (c19 : PySem.W.codeIn K cd19 "law" = true) (k19 : PySem.W.keepIn K (.ref f19) = true)
    (a20 : PySem.W.findIn K (.ref C) "__init__" = some (some (.ref f20))) (i20 : PySem.W.isFn K (.ref f20) = true)
    (l20 : K.lookup f20 = some ⟨oc20, od20, .func (PySem.W.fnOf "__init__" "Rule.__init__" (defArgs sRule___init__) (defBody sRule___init__) (defScope sRule___init__) .none (.ref D0) dc20 pm20 an20 cd20 ct20), sl20⟩) (c20 : PySem.W.codeIn K cd20 "Rule.__init__" = true) (k20 : PySem.W.keepIn K (.ref f20) = true)
    (mcT : PySem.W.typeIn K (.ref C) = some mcC) (a21 : PySem.W.findCls K (.ref C) mcC "made" = some (.get (.builtin "classmethod.__get__") (.ref pM) .none (.ref C))) (r21 : PySem.W.recIn K pM "classmethod" = some (.ref f21 :: rsM)) (i21 : PySem.W.fnIn K f21 = true) (crd : PySem.W.readsIn K C mcC = true) (cga : PySem.W.specialIn K (.ref C) "__getattribute__" = some (some (.builtin "type.__getattribute__")))
    (l21 : K.lookup f21 = some ⟨oc21, od21, .func (PySem.W.fnOf "made" "Rule.made" (defArgs sRule_made) (defBody sRule_made) (defScope sRule_made) .none kV21 dc21 pm21 an21 cd21 ct21), sl21⟩) (c21 : PySem.W.codeIn K cd21 "Rule.made" = true) (k21 : PySem.W.keepIn K (.ref f21) = true)
    (a22 : PySem.W.findIn K (.ref C) "setting" = some (some (.ref f22))) (i22 : PySem.W.isFn K (.ref f22) = true)
    (l22 : K.lookup f22 = some ⟨oc22, od22, .func (PySem.W.fnOf "setting" "Rule.setting" (defArgs sRule_setting) (defBody sRule_setting) (defScope sRule_setting) .none kV22 dc22 pm22 an22 cd22 ct22), sl22⟩) (c22 : PySem.W.codeIn K cd22 "Rule.setting" = true) (k22 : PySem.W.keepIn K (.ref f22) = true)
    (a23 : PySem.W.findIn K (.ref C) "__call__" = some (some (.ref f23))) (i23 : PySem.W.isFn K (.ref f23) = true)
    (j23 : PySem.W.fnIn K f23 = true)
    (l23 : K.lookup f23 = some ⟨oc23, od23, .func (PySem.W.fnOf "__call__" "Rule.__call__" (defArgs sRule___call__) (defBody sRule___call__) (defScope sRule___call__) .none kV23 dc23 pm23 an23 cd23 ct23), sl23⟩) (c23 : PySem.W.codeIn K cd23 "Rule.__call__" = true) (k23 : PySem.W.keepIn K (.ref f23) = true)
    (a24 : PySem.W.findIn K (.ref C) "__eq__" = some (some (.ref f24))) (i24 : PySem.W.isFn K (.ref f24) = true)
    (l24 : K.lookup f24 = some ⟨oc24, od24, .func (PySem.W.fnOf "__eq__" "Rule.__eq__" (defArgs sRule___eq__) (defBody sRule___eq__) (defScope sRule___eq__) .none kV24 dc24 pm24 an24 cd24 ct24), sl24⟩) (c24 : PySem.W.codeIn K cd24 "Rule.__eq__" = true) (k24 : PySem.W.keepIn K (.ref f24) = true)
    (lV : K.lookup tv = some ⟨.type "tuple", none, .seq #[.str (Str.ofString "face") u1, .str (Str.ofString "measure") u2, .str (Str.ofString "space") u3, .str (Str.ofString "kept") u4, .str (Str.ofString "page") u5, .str (Str.ofString "out") u6] n1, #[]⟩)
    (lP : K.lookup tp = some ⟨.type "tuple", none, .seq #[.str (Str.ofString "kind") v1, .str (Str.ofString "mark") v2, .str (Str.ofString "parent") v3, .str (Str.ofString "above") v4, .str (Str.ofString "elder") v5] n2, #[]⟩)
    (lK : K.lookup tk = some ⟨.type "tuple", none, .seq #[.str (Str.ofString "A") w1, .str (Str.ofString "B") w2, .str (Str.ofString "C") w3] n3, #[]⟩)
    (lL : K.lookup dl = some ⟨.type "dict", none, .dict es n4, #[]⟩)
    (m_face : PySem.W.nsIn K dl "face" = some (some (.ref t1)))
    (m_measure : PySem.W.nsIn K dl "measure" = some (some (.ref t2)))
    (m_space : PySem.W.nsIn K dl "space" = some (some (.ref t3)))
    (m_kept : PySem.W.nsIn K dl "kept" = some none)
    (m_page : PySem.W.nsIn K dl "page" = some none)
    (m_out : PySem.W.nsIn K dl "out" = some none)
    (lt1 : K.lookup t1 = some ⟨.type "tuple", none, .seq #[.int 0 x1, .int 1 x2] n5, #[]⟩)
    (lt2 : K.lookup t2 = some ⟨.type "tuple", none, .seq #[.int 1 y1, .int 6 y2] n6, #[]⟩)
    (lt3 : K.lookup t3 = some ⟨.type "tuple", none, .seq #[.int 0 z1, .int 2 z2] n7, #[]⟩)
    (q_kind : PySem.W.nsIn K D0 "kind" = some (some (.str (Str.ofString "") d1)))
    (q_mark : PySem.W.nsIn K D0 "mark" = some (some (.str (Str.ofString "") d2)))
    (q_parent : PySem.W.nsIn K D0 "parent" = some (some (.str (Str.ofString "") d3)))
    (q_above : PySem.W.nsIn K D0 "above" = some (some (.str (Str.ofString "") d4)))
    (q_elder : PySem.W.nsIn K D0 "elder" = some (some (.str (Str.ofString "") d5)))
    (pg : PySem.W.plainGet K C Str.empty = true) (hd : PySem.W.hasDictIn K C = true) (po : PySem.W.plainOver K C = true) (sa : PySem.W.findIn K (.ref C) "__setattr__" = some (some (.builtin "object.__setattr__"))) (mk : PySem.W.makesIn K C = true) (kc : PySem.W.keepIn K (.ref C) = true)
    (nW : PySem.W.findIn K (.ref C) "weight" = some none)
    (nP : PySem.W.findIn K (.ref C) "pattern" = some none)
    (nS : PySem.W.findIn K (.ref C) "settings" = some none)
    (g1 : PySem.W.findIn K (.ref C) "__class__" = some (some (.builtin "object.__class__"))) (g2 : PySem.W.specialIn K (.builtin "object.__class__") "__get__" = some (some (.builtin "getset_descriptor.__get__"))) (g3 : PySem.W.takesIn K (.builtin "object.__class__") = some true) (g4 : PySem.W.mroIn K C (.type "object") = some true) (g5 : PySem.W.kitOne K (.ref C) (.ref C) = some true)
    (g6 : PySem.W.findIn K (.ref C) "__ne__" = some (some (.builtin "object.__ne__"))) (g7 : PySem.W.subIn K (.type "int") (.ref C) = some false) (g8 : PySem.W.subIn K (.type "tuple") (.ref C) = some false) (g9 : PySem.W.kitOne K (.type "int") (.ref C) = some false) (g10 : PySem.W.kitOne K (.type "tuple") (.ref C) = some false)
    (z_len : PySem.W.nsIn K mainGlobals "len" = some none)
    (z_range : PySem.W.nsIn K mainGlobals "range" = some none)
    (z_int : PySem.W.nsIn K mainGlobals "int" = some none)
    (z_abs : PySem.W.nsIn K mainGlobals "abs" = some none)
    (z_enumerate : PySem.W.nsIn K mainGlobals "enumerate" = some none)
    (z_isinstance : PySem.W.nsIn K mainGlobals "isinstance" = some none)
    (z_bool : PySem.W.nsIn K mainGlobals "bool" = some none)
    (z_list : PySem.W.nsIn K mainGlobals "list" = some none)
    (z_tuple : PySem.W.nsIn K mainGlobals "tuple" = some none)
    (z_min : PySem.W.nsIn K mainGlobals "min" = some none)
    (z_all : PySem.W.nsIn K mainGlobals "all" = some none)
    (z_dict : PySem.W.nsIn K mainGlobals "dict" = some none)
    (z_zip : PySem.W.nsIn K mainGlobals "zip" = some none)
    (z_repr : PySem.W.nsIn K mainGlobals "repr" = some none)
    (lit : PySem.W.KeysLit w.params es.toList) (low : (dl == sysModules) = false)
    : ∃ fd : FuncData, (∀ (s : Shared) (v : Value), BindsTo s fd ⟨[v], []⟩ [("_law_script", v)]) ∧ ∀ base : Heap, K.In base → base.Ns mainGlobals mg → FnOk l.prog w K mg base CX0 8 fa fd ["_law_script"] (spLaw K) := by
  have e := hfa.symm.trans (PySem.W.mg_of X G a19)
  cases e
  have T : Txt K w mg tv tp tk dl C := by
    refine ⟨(PySem.W.mg_none_of X G z_len), (PySem.W.mg_none_of X G z_range), (PySem.W.mg_none_of X G z_int), (PySem.W.mg_none_of X G z_abs), (PySem.W.mg_none_of X G z_enumerate), (PySem.W.mg_none_of X G z_isinstance), (PySem.W.mg_none_of X G z_bool), (PySem.W.mg_none_of X G z_list), (PySem.W.mg_none_of X G z_tuple), (PySem.W.mg_none_of X G z_min), (PySem.W.mg_none_of X G z_all), (PySem.W.mg_none_of X G z_dict), (PySem.W.mg_none_of X G z_zip), (PySem.W.mg_none_of X G z_repr), (PySem.W.mg_of X G aK), (PySem.W.mg_of X G aV), (PySem.W.mg_of X G aP), (PySem.W.mg_of X G aL), (PySem.W.mg_of X G aC), fun H => .inr ⟨_, _, _, lV, rfl, rfl, (by show 6 ≤ sizeLine; decide), .cons ⟨_, rfl⟩ (.cons ⟨_, rfl⟩ (.cons ⟨_, rfl⟩ (.cons ⟨_, rfl⟩ (.cons ⟨_, rfl⟩ (.cons ⟨_, rfl⟩ (.nil))))))⟩, fun H => .inr ⟨_, _, _, lP, rfl, rfl, (by show 5 ≤ sizeLine; decide), .cons ⟨_, rfl⟩ (.cons ⟨_, rfl⟩ (.cons ⟨_, rfl⟩ (.cons ⟨_, rfl⟩ (.cons ⟨_, rfl⟩ (.nil)))))⟩, fun H => .inr ⟨_, _, _, lK, rfl, rfl, (by show 3 ≤ sizeLine; decide), .cons ⟨_, rfl⟩ (.cons ⟨_, rfl⟩ (.cons ⟨_, rfl⟩ (.nil)))⟩, ⟨es, n4, lL, lit, low⟩, ?t1, ?t2⟩
    case t1 =>
      intro n lo hi hc
      rcases hc with ⟨rfl, rfl, rfl⟩ | ⟨rfl, rfl, rfl⟩ | ⟨rfl, rfl, rfl⟩
      · exact ⟨t1, m_face, fun H => .inr ⟨_, _, _, lt1, rfl, rfl, (by show 2 ≤ sizeLine; decide), .cons ⟨_, rfl⟩ (.cons ⟨_, rfl⟩ (.nil))⟩⟩
      · exact ⟨t2, m_measure, fun H => .inr ⟨_, _, _, lt2, rfl, rfl, (by show 2 ≤ sizeLine; decide), .cons ⟨_, rfl⟩ (.cons ⟨_, rfl⟩ (.nil))⟩⟩
      · exact ⟨t3, m_space, fun H => .inr ⟨_, _, _, lt3, rfl, rfl, (by show 2 ≤ sizeLine; decide), .cons ⟨_, rfl⟩ (.cons ⟨_, rfl⟩ (.nil))⟩⟩
    case t2 =>
      intro n hn
      rcases hn with rfl | rfl | rfl
      · exact m_kept
      · exact m_page
      · exact m_out
  have R : TxR K C := ⟨⟨pg, hd, po, sa⟩, nW, nP, nS, g1, g2, g3, g4, g5⟩
  have TK : TxK K C := ⟨by simp [PySem.W.notFirst, g7], by simp [PySem.W.notFirst, g8], g9, g10⟩
  have F0 := fun_mk (st := sis_integer) l0 c0 k0
  have b0 := F0.binds (ps := ["value"]) fun _ _ _ _ _ _ us hl => match us, hl with | [_], _ => rfl
  have F1 := fun_mk (st := sis_integer_from) l1 c1 k1
  have b1 := F1.binds (ps := ["value", "low", "high"]) fun _ _ _ _ _ _ us hl => match us, hl with | [_, _, _], _ => rfl
  have F2 := fun_mk (st := sis_row) l2 c2 k2
  have b2 := F2.binds (ps := ["value"]) fun _ _ _ _ _ _ us hl => match us, hl with | [_], _ => rfl
  have F3 := fun_mk (st := stexts_for) l3 c3 k3
  have b3 := F3.binds (ps := ["name"]) fun _ _ _ _ _ _ us hl => match us, hl with | [_], _ => rfl
  have F4 := fun_mk (st := s_is_pattern) l4 c4 k4
  have b4 := F4.binds (ps := ["pattern"]) fun _ _ _ _ _ _ us hl => match us, hl with | [_], _ => rfl
  have F5 := fun_mk (st := s_is_pair) l5 c5 k5
  have b5 := F5.binds (ps := ["pair"]) fun _ _ _ _ _ _ us hl => match us, hl with | [_], _ => rfl
  have F6 := fun_mk (st := s_is_setting) l6 c6 k6
  have b6 := F6.binds (ps := ["name", "value"]) fun _ _ _ _ _ _ us hl => match us, hl with | [_, _], _ => rfl
  have F7 := fun_mk (st := sBag) l7 c7 k7
  have b7 := F7.binds (ps := ["_law_script", "_law_at"]) fun _ _ _ _ _ _ us hl => match us, hl with | [_, _], _ => rfl
  have F8 := fun_mk (st := sDraw) l8 c8 k8
  have b8 := F8.binds (ps := ["_law_bag_here", "_law_many"]) fun _ _ _ _ _ _ us hl => match us, hl with | [_, _], _ => rfl
  have F9 := fun_mk (st := sL_one) l9 c9 k9
  have b9 := F9.binds (ps := ["_law_bag_here", "_law_things"]) fun _ _ _ _ _ _ us hl => match us, hl with | [_, _], _ => rfl
  have F10 := fun_mk (st := sL_few) l10 c10 k10
  have b10 := F10.binds (ps := ["_law_script", "_law_many"]) fun _ _ _ _ _ _ us hl => match us, hl with | [_, _], _ => rfl
  have F11 := fun_mk (st := sL_ask) l11 c11 k11
  have b11 := F11.binds (ps := ["_law_bag_here", "_law_signs"]) fun _ _ _ _ _ _ us hl => match us, hl with | [_, _], _ => rfl
  have F12 := fun_mk (st := sL_setting) l12 c12 k12
  have b12 := F12.binds (ps := ["_law_bag_here", "_law_name", "_law_widest"]) fun _ _ _ _ _ _ us hl => match us, hl with | [_, _, _], _ => rfl
  have F13 := fun_mk (st := sL_rule_row) l13 c13 k13
  have b13 := F13.binds (ps := ["_law_bag_here", "_law_kinds", "_law_widest"]) fun _ _ _ _ _ _ us hl => match us, hl with | [_, _, _], _ => rfl
  have F14 := fun_mk (st := sL_piece) l14 c14 k14
  have b14 := F14.binds (ps := ["_law_bag_here", "_law_pattern"]) fun _ _ _ _ _ _ us hl => match us, hl with | [_, _], _ => rfl
  have F15 := fun_mk (st := sL_matches) l15 c15 k15
  have b15 := F15.binds (ps := ["_law_pattern", "_law_kind", "_law_marks", "_law_context"]) fun _ _ _ _ _ _ us hl => match us, hl with | [_, _, _, _], _ => rfl
  have F16 := fun_mk (st := sL_attributes) l16 c16 k16
  have b16 := F16.binds (ps := ["_law_rule", "_law_row"]) fun _ _ _ _ _ _ us hl => match us, hl with | [_, _], _ => rfl
  have F17 := fun_mk (st := sL_other) l17 c17 k17
  have b17 := F17.binds (ps := ["_law_bag_here", "_law_row"]) fun _ _ _ _ _ _ us hl => match us, hl with | [_, _], _ => rfl
  have F18 := fun_mk (st := sL_keywords) l18 c18 k18
  have b18 := F18.binds (ps := ["_law_bag_here", "_law_row"]) fun _ _ _ _ _ _ us hl => match us, hl with | [_, _], _ => rfl
  have F19 := fun_mk (st := slaw) l19 c19 k19
  have b19 := F19.binds (ps := ["_law_script"]) fun _ _ _ _ _ _ us hl => match us, hl with | [_], _ => rfl
  have F21 := fun_mk (st := sRule_made) l21 c21 k21
  have b21 := F21.binds (ps := ["cls", "weight", "pattern", "settings"]) fun _ _ _ _ _ _ us hl => match us, hl with | [_, _, _, _], _ => rfl
  have F22 := fun_mk (st := sRule_setting) l22 c22 k22
  have b22 := F22.binds (ps := ["self", "name"]) fun _ _ _ _ _ _ us hl => match us, hl with | [_, _], _ => rfl
  have F23 := fun_mk (st := sRule___call__) l23 c23 k23
  have b23 := F23.binds (ps := ["self", "kind", "marks", "context"]) fun _ _ _ _ _ _ us hl => match us, hl with | [_, _, _, _], _ => rfl
  have F24 := fun_mk (st := sRule___eq__) l24 c24 k24
  have b24 := F24.binds (ps := ["self", "other"]) fun _ _ _ _ _ _ us hl => match us, hl with | [_, _], _ => rfl
  refine ⟨PySem.W.fnOf "law" "law" (defArgs slaw) (defBody slaw) (defScope slaw) .none kV19 dc19 pm19 an19 cd19 ct19, fun s v => .of_eq rfl, fun base _ _ => ?_⟩
  have C_is_integer : CallOk l.prog w K mg base 1 "is_integer" ["value"] spIsInt := call_ok (PySem.W.mg_of X G a0) k0 b0 (ok_is_integer F0 T)
  have C_is_integer_from : CallOk l.prog w K mg base 2 "is_integer_from" ["value", "low", "high"] spIntFrom := call_ok (PySem.W.mg_of X G a1) k1 b1 (ok_int_from F1 C_is_integer)
  have C_is_row : CallOk l.prog w K mg base 1 "is_row" ["value"] (spIsRow K) := call_ok (PySem.W.mg_of X G a2) k2 b2 (ok_is_row F2 T)
  have C_texts_for : CallOk l.prog w K mg base 1 "texts_for" ["name"] (spTexts K) := call_ok (PySem.W.mg_of X G a3) k3 b3 (ok_texts F3 T)
  have C__is_pattern : CallOk l.prog w K mg base 2 "_is_pattern" ["pattern"] (spIsPat K) := call_ok (PySem.W.mg_of X G a4) k4 b4 (ok_is_pattern F4 T C_texts_for)
  have C__is_pair : CallOk l.prog w K mg base 2 "_is_pair" ["pair"] (spIsPair K) := call_ok (PySem.W.mg_of X G a5) k5 b5 (ok_is_pair F5 T C_is_row)
  have C__is_setting : CallOk l.prog w K mg base 3 "_is_setting" ["name", "value"] spIsSet := call_ok (PySem.W.mg_of X G a6) k6 b6 (ok_is_setting F6 T C_is_integer_from)
  have M : Mk K C f20 := ⟨mk, a20, i20, kc⟩
  have FI : FnKw l.prog w K mg base CX0 4 f20 (spInitK K C) := ok_init T R l20 c20 (fun k hk => by
    simp only [List.mem_cons, List.not_mem_nil, or_false] at hk
    rcases hk with rfl | rfl | rfl | rfl | rfl
    · exact ⟨_, q_kind⟩
    · exact ⟨_, q_mark⟩
    · exact ⟨_, q_parent⟩
    · exact ⟨_, q_above⟩
    · exact ⟨_, q_elder⟩) C_is_integer_from C__is_pattern C__is_setting
  have RO : RuleOk l.prog w K mg base C := ⟨⟨_, M, FI⟩, ⟨f24, _, ⟨a24, g6, i24, g4⟩, ok_eqR F24 R (PySem.W.mg_of X G aC) (PySem.W.mg_none_of X G z_isinstance), b24⟩, ⟨mcC, pM, f21, ⟨crd, cga⟩, ⟨a21, ⟨_, r21⟩, i21⟩, (ok_made F21 T C_is_row C__is_pair M FI).raw b21 .nil⟩, ⟨f23, ⟨a23, i23, j23⟩, (ok_callR F23 R).raw b23 .nil⟩, by simp [PySem.W.notFirst]⟩
  have M_setting : MethOk l.prog w K mg base C 1 "setting" ["self", "name"] (spSetting K C) := ⟨f22, _, ⟨a22, i22, k22⟩, b22, ok_setting F22 R⟩
  have C__law_bag : CallOk l.prog w K mg base 1 "_law_bag" ["_law_script", "_law_at"] (spBag K) := call_ok (PySem.W.mg_of X G a7) k7 b7 (ok_bag F7 (PySem.W.mg_none_of X G z_int) (PySem.W.mg_none_of X G z_abs) (PySem.W.mg_none_of X G z_len) (PySem.W.mg_none_of X G z_enumerate))
  have C__law_draw : CallOk l.prog w K mg base 1 "_law_draw" ["_law_bag_here", "_law_many"] spDraw := call_ok (PySem.W.mg_of X G a8) k8 b8 (ok_draw F8 (PySem.W.mg_none_of X G z_int))
  have C__law_one : CallOk l.prog w K mg base 2 "_law_one" ["_law_bag_here", "_law_things"] (spOne K) := call_ok (PySem.W.mg_of X G a9) k9 b9 (ok_one F9 C__law_draw (PySem.W.mg_none_of X G z_len))
  have C__law_few : CallOk l.prog w K mg base 1 "_law_few" ["_law_script", "_law_many"] (spFew K) := call_ok (PySem.W.mg_of X G a10) k10 b10 (ok_few F10 T)
  have C__law_ask : CallOk l.prog w K mg base 2 "_law_ask" ["_law_bag_here", "_law_signs"] spAsk := call_ok (PySem.W.mg_of X G a11) k11 b11 (ok_ask F11 T C__law_draw)
  have C__law_setting : CallOk l.prog w K mg base 2 "_law_setting" ["_law_bag_here", "_law_name", "_law_widest"] spSet0 := call_ok (PySem.W.mg_of X G a12) k12 b12 (ok_set0 F12 C__law_draw)
  have C__law_rule_row : CallOk l.prog w K mg base 3 "_law_rule_row" ["_law_bag_here", "_law_kinds", "_law_widest"] (spRow K) := call_ok (PySem.W.mg_of X G a13) k13 b13 (ok_row F13 T C__law_draw C__law_ask C__law_setting)
  have C__law_piece : CallOk l.prog w K mg base 3 "_law_piece" ["_law_bag_here", "_law_pattern"] (spPiece K) := call_ok (PySem.W.mg_of X G a14) k14 b14 (ok_piece F14 T C__law_draw C__law_one)
  have C__law_matches : CallOk l.prog w K mg base 1 "_law_matches" ["_law_pattern", "_law_kind", "_law_marks", "_law_context"] (spMatch K) := call_ok (PySem.W.mg_of X G a15) k15 b15 (ok_matches F15 T)
  have C__law_attributes : CallOk l.prog w K mg base 2 "_law_attributes" ["_law_rule", "_law_row"] (spAttr K C) := call_ok (PySem.W.mg_of X G a16) k16 b16 (ok_attr F16 T R M_setting)
  have C__law_other : CallOk l.prog w K mg base 3 "_law_other" ["_law_bag_here", "_law_row"] (spOther K) := call_ok (PySem.W.mg_of X G a17) k17 b17 (ok_other F17 T C__law_draw C__law_one)
  have C__law_keywords : CallOk l.prog w K mg base 7 "_law_keywords" ["_law_bag_here", "_law_row"] (spKeyw K) := call_ok (PySem.W.mg_of X G a18) k18 b18 (ok_keyw F18 T R RO C__law_draw C__law_attributes)
  exact ok_law F19 T R TK RO C__law_few C__law_bag C__law_rule_row C__law_piece C__law_matches C__law_attributes C__law_other C__law_keywords
theorem walk_law {l : PySem.W.OpenLaw} {q : Program} {loose : List Str} {XP : (Str → Option Value) → Heap → Prop} {YP : World → Heap → Prop} {d : DefRec} {K : Params → PySem.W.Frag} (hmost : l.most = some 63) (hdf : d.params.defaults = [])
    (hin : ∀ (w : World) (h : Heap), YP w h → (K w.params).In h)
    (all : ∀ (w : World) (mg : Str → Option Value) (fa : Addr) (h : Heap), (K w.params).In h → h.Ns mainGlobals mg → mg d.name = some (.ref fa) →
      ∃ fd : FuncData, (∀ (s : Shared) (u : Value), BindsTo s fd ⟨[u], []⟩ [("_law_script", u)]) ∧ ∀ base : Heap, (K w.params).In base → base.Ns mainGlobals mg → FnOk l.prog w (K w.params) mg base CX0 8 fa fd ["_law_script"] (spLaw (K w.params))) :
    PySem.W.WalkO q loose XP YP l.row.toRowW d [] (fun f vs => PySem.call f vs) :=
  L2.walk_of (n := 63) (k := 8) (x := "_law_script") (CX := fun _ => CX0) (sp := fun w => spLaw (K w.params)) hmost (by decide) hdf ⟨rfl, by decide, by decide⟩ hin all (fun _ _ a ns hl _ hS => ⟨a, ns, rfl, hS, hl, fun _ => rfl⟩) fun _ _ _ _ _ z => z
end Pa
namespace Pa
open PySem PySem.Spec PyProof.Rows
theorem kitOne_self (K : PySem.W.Frag) (t : Value) : PySem.W.kitOne K t t = some true := by
  unfold PySem.W.kitOne
  exact if_pos (beq_self_eq_true t)
theorem kitOne_ref {K : PySem.W.Frag} {T : String} {C : Addr} (h : PySem.W.isClsIn K C = true) (ht : PySem.W.typeIn K (.ref C) = some (.type "type")) (hs : PySem.W.subIn K (.type T) (.ref C) = some false) : PySem.W.kitOne K (.type T) (.ref C) = some false := by
  have n : (Value.type T == Value.ref C) = false := by
    cases e : (Value.type T == Value.ref C)
    · rfl
    · exact absurd (eq_of_beq e) (by intro z; cases z)
  unfold PySem.W.kitOne PySem.W.kitCls
  rw [if_neg (by rw [n]; decide)]
  simp only []
  rw [if_pos (by rw [Bool.and_eq_true]; exact ⟨h, beq_iff_eq.mpr ht⟩)]
  exact hs
end Pa
open PySem PySem.W PyProof.Rows in
set_option maxRecDepth 100000 in
set_option maxHeartbeats 0 in
theorem PySem.Challenge.cw_pressalike_k16_rules_match_pieces_holds : PySem.Challenge.rw_pressalike_k16_rules_match_pieces.Holds := by
  w_on; o_law; k_head; (case hw => w_witness2)
  k_fill
  refine Pa.walk_law (l := PySem.Challenge.rw_pressalike_k16_rules_match_pieces) rfl rfl (fun w h Y => PySem.W.kIn_of Y) ?F
  case F =>
    intro w mg fa h KX G hmg
    refine' Pa.all_mk KX G hmg ?aK ?aV ?aP ?aL ?aC ?a0 ?l0 ?c0 ?k0 ?a1 ?l1 ?c1 ?k1 ?a2 ?l2 ?c2 ?k2 ?a3 ?l3 ?c3 ?k3 ?a4 ?l4 ?c4 ?k4 ?a5 ?l5 ?c5 ?k5 ?a6 ?l6 ?c6 ?k6 ?a7 ?l7 ?c7 ?k7 ?a8 ?l8 ?c8 ?k8 ?a9 ?l9 ?c9 ?k9 ?a10 ?l10 ?c10 ?k10 ?a11 ?l11 ?c11 ?k11 ?a12 ?l12 ?c12 ?k12 ?a13 ?l13 ?c13 ?k13 ?a14 ?l14 ?c14 ?k14 ?a15 ?l15 ?c15 ?k15 ?a16 ?l16 ?c16 ?k16 ?a17 ?l17 ?c17 ?k17 ?a18 ?l18 ?c18 ?k18 ?a19 ?l19 ?c19 ?k19 ?a20 ?i20 ?l20 ?c20 ?k20 ?mcT ?a21 ?r21 ?i21 ?crd ?cga ?l21 ?c21 ?k21 ?a22 ?i22 ?l22 ?c22 ?k22 ?a23 ?i23 ?j23 ?l23 ?c23 ?k23 ?a24 ?i24 ?l24 ?c24 ?k24 ?lV ?lP ?lK ?lL ?m_face ?m_measure ?m_space ?m_kept ?m_page ?m_out ?lt1 ?lt2 ?lt3 ?q_kind ?q_mark ?q_parent ?q_above ?q_elder ?pg ?hd ?po ?sa ?mk ?kc ?nW ?nP ?nS ?g1 ?g2 ?g3 ?g4 ?g5 ?g6 ?g7 ?g8 ?g9 ?g10 ?z_len ?z_range ?z_int ?z_abs ?z_enumerate ?z_isinstance ?z_bool ?z_list ?z_tuple ?z_min ?z_all ?z_dict ?z_zip ?z_repr ?lit ?low
    (case aK => k_is)
    (case aV => k_is)
    (case aP => k_is)
    (case aL => k_is)
    (case aC => k_is)
    (case a0 => k_is)
    (case l0 => k_is)
    (case c0 => k_is)
    (case k0 => k_is)
    (case a1 => k_is)
    (case l1 => k_is)
    (case c1 => k_is)
    (case k1 => k_is)
    (case a2 => k_is)
    (case l2 => k_is)
    (case c2 => k_is)
    (case k2 => k_is)
    (case a3 => k_is)
    (case l3 => k_is)
    (case c3 => k_is)
    (case k3 => k_is)
    (case a4 => k_is)
    (case l4 => k_is)
    (case c4 => k_is)
    (case k4 => k_is)
    (case a5 => k_is)
    (case l5 => k_is)
    (case c5 => k_is)
    (case k5 => k_is)
    (case a6 => k_is)
    (case l6 => k_is)
    (case c6 => k_is)
    (case k6 => k_is)
    (case a7 => k_is)
    (case l7 => k_is)
    (case c7 => k_is)
    (case k7 => k_is)
    (case a8 => k_is)
    (case l8 => k_is)
    (case c8 => k_is)
    (case k8 => k_is)
    (case a9 => k_is)
    (case l9 => k_is)
    (case c9 => k_is)
    (case k9 => k_is)
    (case a10 => k_is)
    (case l10 => k_is)
    (case c10 => k_is)
    (case k10 => k_is)
    (case a11 => k_is)
    (case l11 => k_is)
    (case c11 => k_is)
    (case k11 => k_is)
    (case a12 => k_is)
    (case l12 => k_is)
    (case c12 => k_is)
    (case k12 => k_is)
    (case a13 => k_is)
    (case l13 => k_is)
    (case c13 => k_is)
    (case k13 => k_is)
    (case a14 => k_is)
    (case l14 => k_is)
    (case c14 => k_is)
    (case k14 => k_is)
    (case a15 => k_is)
    (case l15 => k_is)
    (case c15 => k_is)
    (case k15 => k_is)
    (case a16 => k_is)
    (case l16 => k_is)
    (case c16 => k_is)
    (case k16 => k_is)
    (case a17 => k_is)
    (case l17 => k_is)
    (case c17 => k_is)
    (case k17 => k_is)
    (case a18 => k_is)
    (case l18 => k_is)
    (case c18 => k_is)
    (case k18 => k_is)
    (case a19 => k_is)
    (case l19 => k_is)
    (case c19 => k_is)
    (case k19 => k_is)
    (case a20 => k_is)
    (case i20 => k_is)
    (case l20 => k_is)
    (case c20 => k_is)
    (case k20 => k_is)
    (case mcT => k_is)
    (case a21 => k_is)
    (case r21 => k_is)
    (case i21 => k_is)
    (case crd => k_is)
    (case cga => k_is)
    (case l21 => k_is)
    (case c21 => k_is)
    (case k21 => k_is)
    (case a22 => k_is)
    (case i22 => k_is)
    (case l22 => k_is)
    (case c22 => k_is)
    (case k22 => k_is)
    (case a23 => k_is)
    (case i23 => k_is)
    (case j23 => k_is)
    (case l23 => k_is)
    (case c23 => k_is)
    (case k23 => k_is)
    (case a24 => k_is)
    (case i24 => k_is)
    (case l24 => k_is)
    (case c24 => k_is)
    (case k24 => k_is)
    (case lV => k_is)
    (case lP => k_is)
    (case lK => k_is)
    (case lL => k_is)
    (case m_face => k_is)
    (case m_measure => k_is)
    (case m_space => k_is)
    (case m_kept => k_is)
    (case m_page => k_is)
    (case m_out => k_is)
    (case lt1 => k_is)
    (case lt2 => k_is)
    (case lt3 => k_is)
    (case q_kind => k_is)
    (case q_mark => k_is)
    (case q_parent => k_is)
    (case q_above => k_is)
    (case q_elder => k_is)
    (case pg => k_is)
    (case hd => k_is)
    (case po => k_is)
    (case sa => k_is)
    (case mk => k_is)
    (case kc => k_is)
    (case nW => k_is)
    (case nP => k_is)
    (case nS => k_is)
    (case g1 => k_is)
    (case g2 => k_is)
    (case g3 => k_is)
    (case g4 => k_is)
    (case g5 => exact Pa.kitOne_self _ _)
    (case g6 => k_is)
    (case g7 => k_is)
    (case g8 => k_is)
    (case g9 => (refine Pa.kitOne_ref ?gk1 ?gk2 ?gk3; (case gk1 => k_is); (case gk2 => k_is); (case gk3 => k_is)))
    (case g10 => (refine Pa.kitOne_ref ?gk1 ?gk2 ?gk3; (case gk1 => k_is); (case gk2 => k_is); (case gk3 => k_is)))
    (case z_len => k_is)
    (case z_range => k_is)
    (case z_int => k_is)
    (case z_abs => k_is)
    (case z_enumerate => k_is)
    (case z_isinstance => k_is)
    (case z_bool => k_is)
    (case z_list => k_is)
    (case z_tuple => k_is)
    (case z_min => k_is)
    (case z_all => k_is)
    (case z_dict => k_is)
    (case z_zip => k_is)
    (case z_repr => k_is)
    (case lit => (first | k_keys | k_is))
    (case low => (first | decide | k_is | rfl))
