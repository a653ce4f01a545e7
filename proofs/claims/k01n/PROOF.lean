import PyProof.Rows.All
import Wide.All
import OpenK.AllK
import Wide.FinOn
import HandS.Base
import HandS.Call
import HandS.List
import HandS.Comp
import HandS.Ends
import HandS.Words
import HandS.WordsList
import PySem.Challenge.RW_commonanswer_k01_limits_and_errors
import HandS.Defaults
import HandS.Exc
import HandS.ExcInit
import HandS.ExcField
import HandS.ExcIs
import KE.KExcInit
import KE.KExcIs
import HandS.ExcValue
import HandS.ExcOwn
import HandS.HeadEnd
import HandS.ForMost
import HandS.IsInst
import HandS.Dict
import PyProof.ReprRoads
import HandS.Head0
import HandS.Head1
import HandS.Head2
import HandS.HeadHook1
import HandS.HeadHook2
set_option Elab.async false
set_option linter.all false
set_option maxRecDepth 100000
set_option maxHeartbeats 4000000
namespace Ca
open PySem L2
/-! ### a mid-condition at a statement, an expression, a test -/
def cutS (t : TS) : TS := fun D σ H => ∃ P : St → Hp → Prop, t { D with nx := P } σ H ∧ ∀ σ' H', P σ' H' → D.nx σ' H'
def cutE (t : TE) : TE := fun σ H Q => ∃ P : VK, t σ H P ∧ ∀ v H', P v H' → Q v H'
def cutT (t : TT) : TT := fun σ H Q => ∃ P : Bool → Hp → Prop, t σ H P ∧ ∀ b H', P b H' → Q b H'
theorem sp_mono {X : Cx} {pins : List (Addr × Obj)} {D : Ends} {P : St → Hp → Prop} {f : Flow} {s : Shared} (h : SP X pins { D with nx := P } f s) (k : ∀ σ' H', P σ' H' → D.nx σ' H') : SP X pins D f s := by
  cases f with
  | next => obtain ⟨σ', H', I, q⟩ := h; exact ⟨σ', H', I, k _ _ q⟩
  | brk => exact h
  | cont => exact h
  | ret u => exact h
theorem ps_cut {X : Cx} {st : Stmt} {t : TS} (h : PS X st t) : PS X st (cutS t) := ⟨fun pins s σ H D I q => by
  obtain ⟨P, q1, q2⟩ := q
  exact thn (h.run pins s σ H _ I q1) fun f s' z => sp_mono z q2⟩
theorem pss_cut {X : Cx} {st : List Stmt} {t : TS} (h : PSs X st t) : PSs X st (cutS t) := ⟨fun pins s σ H D I q => by
  obtain ⟨P, q1, q2⟩ := q
  exact thn (h.run pins s σ H _ I q1) fun f s' z => sp_mono z q2⟩
theorem pe_cut {X : Cx} {e : Expr} {t : TE} (h : PE X e t) : PE X e (cutE t) := ⟨fun pins s σ H Q I q => by
  obtain ⟨P, q1, q2⟩ := q
  exact thn (h.run pins s σ H _ I q1) fun u s' ⟨v, H', I', r, z⟩ => ⟨v, H', I', r, q2 _ _ z⟩⟩
theorem pt_cut {X : Cx} {e : Expr} {t : TT} (h : PT X e t) : PT X e (cutT t) := ⟨fun pins s σ H Q I q => by
  obtain ⟨P, q1, q2⟩ := q
  exact thn (h.run pins s σ H _ I q1) fun b s' ⟨H', I', z⟩ => ⟨H', I', q2 _ _ z⟩⟩

/-! ### heaps -/
/-- an urn stands at l -/
def Urn (H : Hp) (l : Addr) : Prop := ∃ g x n : Int, 0 ≤ g ∧ 0 ≤ x ∧ x < 2147483563 ∧ H l = some (.lst [.int g, .int x, .int n])
/-- all that was tracked, but what stands at l, is as it was -/
def Kept (l : Addr) (H H' : Hp) : Prop := ∀ b o, b ≠ l → H b = some o → H' b = some o
theorem Kept.refl (l : Addr) (H : Hp) : Kept l H H := fun _ _ _ h => h
theorem Kept.trans {l : Addr} {H H1 H2 : Hp} (a : Kept l H H1) (b : Kept l H1 H2) : Kept l H H2 := fun c o n h => b c o n (a c o n h)
theorem _root_.L2.Same.kept {l : Addr} {H H' : Hp} (a : Same H H') : Kept l H H' := fun c o _ h => a c o h
theorem Kept.upd {l : Addr} {H : Hp} {o : HO} : Kept l H (L2.upd H l o) := fun b u n h => by rw [upd_ne n]; exact h
theorem Kept.new {l p : Addr} {H : Hp} {o : HO} (h : H p = none) : Kept l H (L2.upd H p o) := fun b u _ e => by rw [upd_ne (ne_of_none e h)]; exact e
theorem _root_.L2.Same.new {p : Addr} {H : Hp} {o : HO} (h : H p = none) : Same H (L2.upd H p o) := fun b u e => by rw [upd_ne (ne_of_none e h)]; exact e
theorem Urn.same {H H' : Hp} {l : Addr} (u : Urn H l) (s : Same H H') : Urn H' l := by
  obtain ⟨g, x, n, h1, h2, h3, h⟩ := u
  exact ⟨g, x, n, h1, h2, h3, s _ _ h⟩
theorem Urn.some {H : Hp} {l : Addr} (u : Urn H l) : ∃ o, H l = some o := by
  obtain ⟨g, x, n, h1, h2, h3, h⟩ := u
  exact ⟨_, h⟩
/-- what is new stands apart from what stood, also behind changes at l -/
theorem Kept.free {l b : Addr} {H H' : Hp} (k : Kept l H H') (n : b ≠ l) (h : H' b = none) : H b = none := by
  cases q : H b with
  | none => rfl
  | some o => rw [k b o n q] at h; cases h

/-- the built-in names are still their own -/
structure Bi (mg : Str → Option Value) : Prop where
  len : mg "len" = none
  int : mg "int" = none
  abs : mg "abs" = none
  divmod : mg "divmod" = none

def spUrn (K : PySem.W.Frag) : Sp := fun vs H Q _ => ∃ (a : Addr) (ns : List Int) (k : Nat), vs = [.ref a, .int k] ∧ SqL K H a (ns.map V.int) ∧
  ∀ H' l, H l = none → Same H H' → Urn H' l → Q (.ref l) H'
def spDip : Sp := fun vs H Q _ => ∃ (l : Addr) (t : Int), vs = [.ref l, .int t] ∧ Urn H l ∧ 0 < t ∧ t < 1073741824 ∧
  ∀ H' r, Kept l H H' → Urn H' l → 0 ≤ r → r < t → Q (.int r) H'
def spFrom (K : PySem.W.Frag) : Sp := fun vs H Q _ => ∃ (l a : Addr) (xs : List V), vs = [.ref l, .ref a] ∧ Urn H l ∧ H a = some (.lst xs) ∧ a ≠ l ∧ 0 < xs.length ∧ xs.length < 1000 ∧
  ∀ H' (i : Nat) v, xs[i]? = some v → Kept l H H' → Urn H' l → Q v H'

theorem map_int_get {ns : List Int} {i : Nat} {y : V} (hi : (ns.map V.int)[i]? = some y) : ∃ z, y = V.int z := by
  rw [List.getElem?_map] at hi
  cases e : ns[i]? with
  | none => rw [e] at hi; cases hi
  | some z => rw [e] at hi; exact ⟨z, (Option.some.inj hi).symm⟩
theorem cut_int_get {ns : List Int} {lo hi : Option Int} {i : Nat} {y : V} (h : (cutV (ns.map V.int) lo hi)[i]? = some y) : ∃ z, y = V.int z := by
  have m := List.mem_of_getElem? h
  unfold cutV at m
  have m2 := List.mem_of_mem_drop (List.mem_of_mem_take m)
  obtain ⟨z, _, e⟩ := List.mem_map.mp m2
  exact ⟨z, e.symm⟩
end Ca
set_option Elab.async false
set_option linter.all false
set_option maxRecDepth 100000
set_option maxHeartbeats 4000000
namespace Ca
open PySem L2
def top (i : Nat) : Stmt := PySem.Challenge.pw_commonanswer_k01_limits_and_errors.main.body.getD i (.Pass ⟨0, 0, 0, 0⟩)
abbrev sUrn : Stmt := top 36
abbrev sDip : Stmt := top 37
abbrev sFrom : Stmt := top 38

section
variable {P : Program} {w : World} {K : PySem.W.Frag} {mg : Str → Option Value} {base : Heap}
theorem scUrn : FnScope ["_law_cells", "_law_at", "_law_own", "_law_stirred", "_law_each", "_law_great"] ["_law_cells", "_law_at"] (defScope sUrn) := ⟨rfl, rfl, rfl, by decide +kernel, rfl, by decide +kernel, by decide +kernel⟩
theorem ok_urn {f : Addr} {fd : FuncData} (F : Fun K "_law_urn" "_law_urn" sUrn f fd) (B : Bi mg) : FnOk P w K mg base CX0 1 f fd ["_law_cells", "_law_at"] (spUrn K) := by
  refine F.ok scUrn (fun vs H Q E h => ?_) (fun cdv A outer s H vs Q E hr h => ?_)
  · obtain ⟨a, ns, k, rfl, _⟩ := h
    rfl
  · obtain ⟨a, ns, k, rfl, hS, q⟩ := h
    have nd := scUrn.nd
    refine ⟨_, pss_cons (ps_cut (ps_set (i := 2) nd rfl (.inl rfl) (pe_ifExp (pt_cmpR op_lt (pv 1) (pe_callB call_len_seq (by rfl) B.len PySem.boot_len (pa_cons (pv 0) pa_nil)) (nomark _))
        (pe_callTy call_int1 (by rfl) B.int PyProof.Rows.boot_int (pa_cons (pe_ix ix_list (pv 0) (pv 1) (fun _ _ => rfl)) pa_nil)) (pe_op op_add (pe_op op_mul pe_int (pv 1)) pe_int))))
      (pss_cons (ps_set (i := 3) nd rfl (.inl rfl) (pe_op op_add pe_int (pe_op op_mul pe_int (pv 1))))
      (pss_cons (ps_for PassesOwn.never rfl (pi_list (pe_slice sl_list (pv 0) po_none (po_some pe_int))) (pg_name (i := 4) nd rfl (.inl rfl))
        (pss_one (ps_set (i := 3) nd rfl (.inl rfl) (pe_op op_mod (pe_callTy call_int1 (by rfl) B.int PyProof.Rows.boot_int (pa_cons (pe_op op_add (pe_op op_add (pe_op op_mul (pv 3) pe_int) (pe_op op_mul (pe_callTy call_int1 (by rfl) B.int PyProof.Rows.boot_int (pa_cons (pv 4) pa_nil)) pe_int)) pe_int) pa_nil)) pe_int))))
      (pss_cons (ps_cut (ps_set (i := 5) nd rfl (.inl rfl) (pe_ifExp (PW.pt (pw_or (pt_cmpR op_lt (pv 2) pe_int (nomark _)) (pw_or1 (pt_cmpR op_ge (pv 2) (pe_op op_pow pe_int pe_int) (nomark _))))) (pe_callB call_abs (by rfl) B.abs (by decide +kernel) (pa_cons (pv 2) pa_nil)) pe_int)))
      (pss_one (ps_ret (pe_lst (pa_cons (pv 5) (pa_cons (pe_op op_mod (pe_callTy call_int1 (by rfl) B.int PyProof.Rows.boot_int (pa_cons (pe_op op_add (pv 3) (pe_op op_mul (pv 2) pe_int)) pa_nil)) pe_int) (pa_cons pe_int pa_nil))))))))), ?_⟩
    refine ⟨fun σ' H' => ∃ own : Int, σ' = [some (.ref a), some (.int k), some (.int own), none, none, none] ∧ H' = H, ⟨_, rfl, _, rfl, _, _, rfl, .inl hS, _, _, rfl, rfl, _, rfl, ite2 (fun c => ?_) (fun c => ?_)⟩, ?_⟩
    · have hk : k < ns.length := by
        have c' := of_decide_eq_true c
        rw [List.length_map] at c'
        exact Int.ofNat_lt.mp c'
      obtain ⟨z, hz⟩ : ∃ z, ns[k]? = some z := ⟨_, List.getElem?_eq_getElem hk⟩
      exact ⟨_, rfl, _, rfl, _, _, _, _, rfl, rfl, hS, atI_nat (v := .int z) (by rw [List.getElem?_map, hz]; rfl), .inl ⟨_, rfl, _, rfl, rfl⟩⟩
    · exact ⟨_, rfl, _, _, rfl, rfl, .inl ⟨by decide, by decide⟩, _, _, rfl, rfl, _, rfl, rfl⟩
    rintro σ1 H1 ⟨own, rfl, rfl⟩
    refine ⟨_, rfl, _, _, rfl, rfl, .inl ⟨by decide, by decide⟩, _, _, rfl, rfl, ?_⟩
    refine ⟨_, rfl, _, rfl, a, _, rfl, hS, fun p hp => ?_⟩
    have s1 : Same H1 (upd H1 p (.lst (cutV (ns.map V.int) none (some 7)))) := Same.new hp
    refine ⟨_, rfl, ⟨_, SqL.of upd_same⟩, for_list (K := K) (a := p) (xs := cutV (ns.map V.int) none (some 7)) (fun i σ H' => ∃ (st : Int) (v : Option V), σ = [some (.ref a), some (.int k), some (.int own), some (.int st), v, none] ∧ H' = upd H1 p (.lst (cutV (ns.map V.int) none (some 7))))
      ⟨_, none, rfl, rfl⟩ (fun i σ H' _ h => ?_) ?_ ?_⟩
    · obtain ⟨_, _, _, rfl⟩ := h
      exact SqL.of upd_same
    · rintro i y σ H' hi ⟨st, v, rfl, rfl⟩
      obtain ⟨z, rfl⟩ := cut_int_get hi
      exact ⟨_, rfl, _, _, rfl, rfl, .inr ⟨by decide, by decide⟩, _, rfl, .inl ⟨_, rfl, _, _, rfl, rfl, .inr ⟨by decide, by decide⟩, _, _, rfl, rfl, _, _, rfl, rfl, .inl ⟨_, rfl, _, _, rfl, rfl, by show (0 : Int) < 2147483563; decide, _, _, rfl, rfl⟩⟩⟩
    · rintro σ H' ⟨st, v, rfl, rfl⟩
      refine ⟨fun σ' H' => ∃ g : Int, 0 ≤ g ∧ σ' = [some (.ref a), some (.int k), some (.int own), some (.int st), v, some (.int g)] ∧ H' = upd H1 p (.lst (cutV (ns.map V.int) none (some 7))), ?_, ?_⟩
      · refine ⟨_, rfl, _, _, rfl, rfl, _, rfl, ?_⟩
        refine ite2 (fun c => ?_) (fun c => ?_)
        · refine iteT ?_
          refine ⟨_, rfl, _, rfl, _, ?_, rfl, rfl⟩
          split <;> omega
        · refine ⟨_, rfl, _, _, rfl, rfl, ⟨by decide, by decide, by decide⟩, _, _, rfl, rfl, _, rfl, ?_⟩
          refine ite2 (fun c => ?_) (fun c => ?_)
          · refine ⟨_, rfl, _, rfl, _, ?_, rfl, rfl⟩
            split <;> omega
          · exact ⟨0, Int.le_refl _, rfl, rfl⟩
      · rintro σ2 H2 ⟨g, hg, rfl, rfl⟩
        refine ⟨_, rfl, _, rfl, _, rfl, _, _, rfl, rfl, .inr ⟨by decide, by decide⟩, _, _, rfl, rfl, .inl ⟨_, rfl, _, _, rfl, rfl, by show (0 : Int) < 2147483563; decide, by show 3 ≤ sizeLine; decide, fun l hl => ?_⟩⟩
        refine q _ l (s1.free hl) (s1.trans (Same.new hl)) ⟨g, _, 4, hg, Int.emod_nonneg _ (by decide), Int.emod_lt_of_pos _ (by decide), upd_same⟩
theorem scDip : FnScope ["_law_urn_here", "_law_top", "_law_figure", "_law_held"] ["_law_urn_here", "_law_top"] (defScope sDip) := ⟨rfl, rfl, rfl, by decide +kernel, rfl, by decide +kernel, by decide +kernel⟩
theorem ok_dip {f : Addr} {fd : FuncData} (F : Fun K "_law_dip" "_law_dip" sDip f fd) (B : Bi mg) : FnOk P w K mg base CX0 1 f fd ["_law_urn_here", "_law_top"] spDip := by
  refine F.ok scDip (fun vs H Q E h => ?_) (fun cdv A outer s H vs Q E hr h => ?_)
  · obtain ⟨a, t, rfl, _⟩ := h
    rfl
  · obtain ⟨l, t, rfl, ⟨g, x, n, hg, hx, hx2, hU⟩, ht, ht2, q⟩ := h
    have nd := scDip.nd
    refine ⟨_, pss_cons (ps_if (pt_cmpR op_gt (pe_ix ix_list (pv 0) pe_int (fun _ _ => rfl)) pe_int (nomark _))
        (pss_cons (ps_asg (pe_callB call_divmod (by rfl) B.divmod (by decide +kernel) (pa_cons (pe_ix ix_list (pv 0) pe_int (fun _ _ => rfl)) (pa_cons (pv 1) pa_nil)))
            (pg_tup rfl (pgs_cons (pg_sub (pv 0) pe_int set_list) (pgs_cons (pg_name (i := 2) nd rfl (.inl rfl)) pgs_nil))))
          (pss_one (ps_ret (pv 2)))) pss_nil)
      (pss_cons (ps_asg (pe_op op_add (pe_ix ix_list (pv 0) pe_int (fun _ _ => rfl)) pe_int) (pg_sub (pv 0) pe_int set_list))
      (pss_cons (ps_set (i := 3) nd rfl (.inl rfl) (pe_callTy call_int1 (by rfl) B.int PyProof.Rows.boot_int (pa_cons (pe_op op_mul (pe_ix ix_list (pv 0) pe_int (fun _ _ => rfl)) (pe_op op_add pe_int (pe_op op_mod (pe_callTy call_int1 (by rfl) B.int PyProof.Rows.boot_int (pa_cons (pe_ix ix_list (pv 0) pe_int (fun _ _ => rfl)) pa_nil)) pe_int))) pa_nil)))
      (pss_cons (ps_asg (pe_op op_mod (pe_callTy call_int1 (by rfl) B.int PyProof.Rows.boot_int (pa_cons (pe_op op_add (pe_op op_add (pv 3) (pe_op op_mul pe_int (pe_ix ix_list (pv 0) pe_int (fun _ _ => rfl)))) pe_int) pa_nil)) pe_int) (pg_sub (pv 0) pe_int set_list))
      (pss_one (ps_ret (pe_op op_mod (pe_callTy call_int1 (by rfl) B.int PyProof.Rows.boot_int (pa_cons (pe_op op_fdiv (pe_ix ix_list (pv 0) pe_int (fun _ _ => rfl)) pe_int) pa_nil)) (pv 1))))))), ?_⟩
    refine ⟨_, rfl, _, _, _, _, rfl, rfl, SqL.of hU, rfl, _, _, rfl, rfl, _, rfl, ite2 (fun c => ?_) (fun c => ?_)⟩
    · refine ⟨_, rfl, _, _, _, _, rfl, rfl, SqL.of hU, rfl, _, rfl, _, _, rfl, ⟨ht, ht2⟩, fun p hp => ?_⟩
      have npl : l ≠ p := ne_of_none hU hp
      refine ⟨_, _, rfl, SqT.of upd_same, rfl, _, _, rfl, ⟨_, rfl, _, _, _, _, rfl, rfl, Eq.trans (upd_ne npl) hU, rfl, ?_⟩⟩
      refine ⟨_, _, rfl, ⟨rfl, ?_⟩⟩
      refine ⟨_, rfl, q _ _ ((Kept.new hp).trans Kept.upd) ⟨_, x, n, ?_, hx, hx2, upd_same⟩ (Int.emod_nonneg _ (by omega)) (Int.emod_lt_of_pos _ ht)⟩
      exact Int.ediv_nonneg hg (Int.le_of_lt ht)
    · refine ⟨_, rfl, _, _, _, _, rfl, rfl, SqL.of hU, rfl, _, _, rfl, rfl, _, rfl, _, _, _, _, rfl, rfl, hU, rfl, ?_⟩
      refine ⟨_, rfl, _, _, _, _, rfl, rfl, SqL.of upd_same, rfl, _, rfl, _, _, _, _, rfl, rfl, SqL.of upd_same, rfl, .inl ⟨_, rfl, _, _, rfl, rfl, by show (0 : Int) < 5003; decide, _, _, rfl, rfl, _, _, rfl, rfl, .inl ⟨by show -(2 ^ 64) < x; omega, by show x < 2 ^ 64; omega⟩, .inl ⟨_, rfl, ?_⟩⟩⟩
      refine ⟨_, rfl, _, rfl, _, _, _, _, rfl, rfl, SqL.of upd_same, rfl, _, _, rfl, rfl, .inl ⟨by decide, by decide⟩, _, _, rfl, rfl, _, _, rfl, rfl, .inl ⟨_, rfl, _, _, rfl, rfl, by show (0 : Int) < 2147483563; decide, _, rfl, _, _, _, _, rfl, rfl, upd_same, rfl, ?_⟩⟩
      refine ⟨_, rfl, _, _, _, _, rfl, rfl, SqL.of upd_same, rfl, _, _, rfl, rfl, ⟨by decide, by decide⟩, .inl ⟨_, rfl, _, rfl, _, _, rfl, rfl, ht, ?_⟩⟩
      exact q _ _ (Kept.upd.trans Kept.upd) ⟨g, _, _, hg, Int.emod_nonneg _ (by decide), Int.emod_lt_of_pos _ (by decide), upd_same⟩ (Int.emod_nonneg _ (by omega)) (Int.emod_lt_of_pos _ ht)
theorem scFrom : FnScope ["_law_urn_here", "_law_some"] ["_law_urn_here", "_law_some"] (defScope sFrom) := ⟨rfl, rfl, rfl, by decide +kernel, rfl, by decide +kernel, by decide +kernel⟩
theorem ok_from {f fD : Addr} {fd fdD : FuncData} (F : Fun K "_law_from" "_law_from" sFrom f fd) (B : Bi mg) (gD : mg "_law_dip" = some (.ref fD)) (FD : Fun K "_law_dip" "_law_dip" sDip fD fdD) (bD : Binds K fdD ["_law_urn_here", "_law_top"] []) :
    FnOk P w K mg base CX0 2 f fd ["_law_urn_here", "_law_some"] (spFrom K) := by
  have GD : FnOk P w K mg base CX0 1 fD fdD ["_law_urn_here", "_law_top"] spDip := ok_dip FD B
  refine F.ok scFrom (fun vs H Q E h => ?_) (fun cdv A outer s H vs Q E hr h => ?_)
  · obtain ⟨l, a, xs, rfl, _⟩ := h
    rfl
  · obtain ⟨l, a, xs, rfl, hU, hA, nal, h0, h1, q⟩ := h
    refine ⟨_, pss_one (ps_ret (pe_ix ix_list (pv 1) (pe_call GD hr rfl gD FD.kp bD .nil pass0 (pa_cons (pv 0) (pa_cons (pe_callB call_len_seq (by rfl) B.len PySem.boot_len (pa_cons (pv 1) pa_nil)) pa_nil))) (fun _ _ => rfl))), ?_⟩
    refine ⟨_, rfl, _, rfl, _, rfl, _, _, rfl, .inl (SqL.of hA), l, _, rfl, hU, by omega, by omega, fun H' r k u r0 r1 => ?_⟩
    have hi : r.toNat < xs.length := by omega
    refine ⟨a, xs, r, xs[r.toNat], rfl, rfl, SqL.of (k _ _ nal hA), ?_, ?_⟩
    · exact at_of (j := r.toNat) (by omega) (List.getElem?_eq_getElem hi)
    · exact q _ r.toNat _ (List.getElem?_eq_getElem hi) k u
end
end Ca
set_option Elab.async false
set_option linter.all false
set_option maxRecDepth 100000
set_option maxHeartbeats 4000000
namespace Ca
open PySem PySem.W PySem.Calls PyProof.Rows
section
variable {prog : Program} {w : World} {A : Around} {E : Value → Shared → Prop} {hp : Heap} {g : Array GenState} {d : Drawn} {t : Nat} {os : OsState}
/-- the first field of a new exception of an own class over any built-in error class -/
theorem sto0 {B : String} {bmB : List Value} {K : W.Frag} {C x tt : Addr} {name : PySem.Str} {v : Value} {Q : Unit → Shared → Prop}
    (SF : StoreFacts B bmB "object.__setattr__" "object") (X : K.In hp)
    (hx : hp.get? x = some (W.excObj C tt none .none))
    (sa : W.findIn K (.ref C) "__setattr__" = some (some (.builtin "object.__setattr__"))) (ho : W.excOver K C bmB = true)
    (ht : W.takerIn K C name = some none) (hh : W.hasDictIn K C = true)
    (hq : ∀ h' tk' dx, (∀ b o, b ≠ x → hp.get? b = some o → h'.get? b = some o) → hp.objs.size ≤ dx → dx ≠ x →
      h'.get? x = some (W.excObj C tt (some dx) .none) → h'.Ns1 dx (fun y => if y = name then some v else none) → Q () ⟨h', g, d, tk', os⟩) :
    wpAny (model prog w) A (setAttr (.ref x) name v) Q E ⟨hp, g, d, t, os⟩ := by
  obtain ⟨cd, hc, hd'⟩ := W.any_some hh
  have hxs : x ≠ hp.objs.size := Nat.ne_of_lt (Heap.lt_size hx)
  refine W.set_plain (od := none) X ⟨hx, rfl, rfl, trivial⟩ sa ?_
  refine W.osa_openX (od := none) SF X ⟨hx, rfl, rfl, trivial⟩ ho ht fun b => ?_
  refine wpAny_bind (wpAny_pure (wpAny_bind (W.instanceDict_exc hx (W.looks_clsIn X hc) hd' ?_)))
  have hx1 : (hp.push (W.dictOf [] 0)).get? x = some (W.excObj C tt none .none) := Heap.get?_push_of_some _ hx
  refine HandSPX.store_in_new (dx := hp.objs.size) ?nd ?st
  case nd =>
    exact ⟨_, #[], _, Eq.trans (Heap.get?_update_ne _ _ _ _ hxs.symm) (Heap.get?_push_at rfl rfl), rfl, (fun e he => absurd he (by simp)), fun _ => rfl⟩
  case st =>
    intro h' tk' hn hs
    refine hq h' tk' hp.objs.size (fun b o nb e => ?_) (Nat.le_refl _) hxs.symm ?_ hn
    · have nbs := Nat.ne_of_lt (Heap.lt_size e)
      rw [hs.2 b nbs, Heap.get?_update_ne _ _ _ _ nb]
      exact Heap.get?_push_of_some _ e
    · rw [hs.2 x hxs]
      exact Heap.get?_update_self _ hx1 rfl
end
end Ca
set_option Elab.async false
set_option linter.all false
set_option maxRecDepth 100000
set_option maxHeartbeats 4000000
namespace Ca
open PySem L2
/-! ### exceptions as values -/
/-- an exception of the class at C stands at e; its one field f holds v -/
def Exc (H : Hp) (e C : Addr) (f : Str) (v : V) : Prop := ∃ d, H e = some (exo e C (some d)) ∧ H d = some (exd d [(f, v)])
theorem Exc.same {H H' : Hp} {e C : Addr} {f : Str} {v : V} (x : Exc H e C f v) (s : Same H H') : Exc H' e C f v := by
  obtain ⟨d, h1, h2⟩ := x
  exact ⟨d, s _ _ h1, s _ _ h2⟩
/-- what the written part says of an own exception class, for its fields -/
structure StoC (K : PySem.W.Frag) (C : Addr) (bmB : List Value) (f : Str) : Prop where
  sa : PySem.W.findIn K (.ref C) "__setattr__" = some (some (.builtin "object.__setattr__"))
  ov : PySem.W.excOver K C bmB = true
  tk : PySem.W.takerIn K C f = some none
  hd : PySem.W.hasDictIn K C = true

section
variable {X : Cx} {pins : List (Addr × Obj)} {σ : St} {H : Hp} {s : Shared} {a C dx : Addr} {f : Str} {y : V} {u : Value} {Q : Unit → Shared → Prop} {E : Value → Shared → Prop} {A : Around} {B : String} {bmB : List Value}
theorem sto_ok (SF : StoreFacts B bmB "object.__setattr__" "object") (T : StoC X.K C bmB f) (I : Inv X pins σ H s) (e : H a = some (exo a C none)) (ry : RelV y u)
    (h : ∀ d s', H d = none → d ≠ a → Inv X pins σ (upd (upd H d (exd d [(f, y)])) a (exo a C (some d))) s' → Q () s') :
    wpAny (model X.prog X.w) A (setAttr (.ref a) f u) Q E s := by
  obtain ⟨t1, ho⟩ := exo_at I.hok e
  obtain ⟨hp, g, dr, t, os⟩ := s
  refine sto0 SF I.kIn ho T.sa T.ov T.tk T.hd (fun h' tk' d k dn dne hx hn => ?_)
  have hd0 : H d = none := I.hok.fresh dn
  have nold : ∀ {b : Addr} {o : Obj}, hp.get? b = some o → b ≠ d := fun z => Nat.ne_of_lt (Nat.lt_of_lt_of_le (Heap.lt_size z) dn)
  have nfree : ∀ {b : Addr}, H b = none → b ≠ a := fun n z => by
    rw [z, e] at n
    cases n
  have there : ∀ b o, hp.get? b = some o → ∃ o', h'.get? b = some o' := fun b o z => by
    by_cases q : b = a
    · exact ⟨_, by rw [q]; exact hx⟩
    · exact ⟨o, k b o q z⟩
  have un : Un X.fs [] H (upd (upd H d (exd d [(f, y)])) a (exo a C (some d))) hp h' := by
    constructor
    · exact fun b o z n _ _ => k b o (nfree n) z
    · exact fun b o z n _ _ => ⟨o.slots, k b o (nfree n) z⟩
    · exact fun b o z n _ => by rw [upd_ne (nfree n), upd_ne (nold z), n]
    · exact fun b o z _ => there b o z
    · exact fun b xs z => by rw [upd_ne (at_ne e z exo_tup), upd_ne (ne_of_none z hd0), z]
    · exact fun b o v z => by rw [upd_ne (at_ne e z exo_frz), upd_ne (ne_of_none z hd0), z]
    · exact fun b ps z => ⟨#[], by rw [upd_ne (at_ne e z exo_tbl), upd_ne (ne_of_none z hd0), z]; simp⟩
  refine h d _ hd0 dne (I.un (t' := tk') un fun b o z => ?_)
  by_cases qa : b = a
  · rw [qa] at z ⊢
    rw [upd_same] at z
    cases z
    exact exo_ok hx
  · rw [upd_ne qa] at z
    by_cases qd : b = d
    · rw [qd] at z ⊢
      rw [upd_same] at z
      cases z
      exact exd_ok hn (relO_put (fs := []) ry fun _ => trivial)
    · rw [upd_ne qd] at z
      refine (I.hok b o z).stay (fun c v hc w => k c v ?_ w) (fun c hc => ?_) (fun c xs hc => ?_)
      · rcases hc with hc | hc
        · rw [hc]; exact qa
        · exact at_ne e hc exo_own
      · rw [upd_ne (at_ne e hc exo_own), upd_ne (ne_of_none hc hd0), hc]
      · rw [upd_ne (at_ne e hc exo_tup), upd_ne (ne_of_none hc hd0), hc]
/-- self.f = e in the __init__ of such a class -/
def tSto (K : PySem.W.Frag) (bmB : List Value) (f : Str) (to te : TE) : TS := fun D σ H => te σ H fun y H1 => to σ H1 fun x H2 => ∃ a C : Addr, x = .ref a ∧ StoC K C bmB f ∧ H2 a = some (exo a C none) ∧
  ∀ d, H2 d = none → d ≠ a → D.nx σ (upd (upd H2 d (exd d [(f, y)])) a (exo a C (some d)))
theorem ps_sto {o e : Expr} {to te : TE} {p' pos : Pos} (SF : StoreFacts B bmB "object.__setattr__" "object") (ho : PE X o to) (he : PE X e te) (hs : swapsWith e (some (.Attribute o f p')) pos.line X.env = pure false := by rfl) :
    PS X (.Assign [.Attribute o f p'] e pos) (tSto X.K bmB f to te) := by
  refine ⟨fun pins s σ H D I h => ?_⟩
  refine plainObj_wpAny_Assign_Attribute (thn (he.run pins s σ H _ I h) fun v s1 z1 => ?_) hs
  obtain ⟨y, H1, I1, r1, q1⟩ := z1
  refine thn (ho.run pins s1 σ H1 _ I1 q1) fun u s2 z2 => ?_
  obtain ⟨x, H2, I2, r2, a, C, ex, T, ea, q⟩ := z2
  rw [ex] at r2
  obtain rfl : u = Value.ref a := r2
  exact sto_ok SF T I2 ea r1 fun d s' n ne J => ⟨σ, _, J, q d n ne⟩
end

/-! ### the __init__ of such a class -/
def spIni (K : PySem.W.Frag) (bmB : List Value) (f : Str) : Sp := fun vs H Q _ => ∃ (a C : Addr) (v : V), vs = [.ref a, v] ∧ StoC K C bmB f ∧ H a = some (exo a C none) ∧
  ∀ d, H d = none → d ≠ a → Q .non (upd (upd H d (exd d [(f, v)])) a (exo a C (some d)))
def iA (f : Str) (p1 p2 : Pos) : Arguments := { posonlyargs := [], args := [{ arg := "self", annotation := none, pos := p1 }, { arg := f, annotation := none, pos := p2 }], vararg := none, kwonlyargs := [], kw_defaults := [], kwarg := none, defaults := [] }
def iB (f : Str) (q1 q2 q3 q4 : Pos) : List Stmt := [.Assign [.Attribute (.Name "self" q1) f q2] (.Name f q3) q4]
def iS (f : Str) : Scope := { kind := .function, names := [("self", .local), (f, .local)], isGenerator := false, isCoroutine := false, more := [] }
section
variable {P : Program} {w : World} {K : PySem.W.Frag} {mg : Str → Option Value} {base : Heap} {B : String} {bmB : List Value}
theorem scG : FnScope ["self", "given"] ["self", "given"] (iS "given") := ⟨rfl, rfl, rfl, by decide +kernel, rfl, by decide +kernel, by decide +kernel⟩
theorem scI : FnScope ["self", "index"] ["self", "index"] (iS "index") := ⟨rfl, rfl, rfl, by decide +kernel, rfl, by decide +kernel, by decide +kernel⟩
theorem ok_given {qn : Str} {p1 p2 q1 q2 q3 q4 : Pos} {fa : Addr} {fd : FuncData} (SF : StoreFacts B bmB "object.__setattr__" "object") (F : FunD K "__init__" qn (iA "given" p1 p2) (iB "given" q1 q2 q3 q4) (iS "given") [] [] fa fd) :
    FnOk P w K mg base CX0 1 fa fd ["self", "given"] (spIni K bmB "given") := by
  refine F.ok scG (fun vs H Q E h => ?_) (fun cdv A outer s H vs Q E hr h => ?_)
  · obtain ⟨a, C, v, rfl, _⟩ := h
    rfl
  · obtain ⟨a, C, v, rfl, T, ea, q⟩ := h
    exact ⟨_, PSs.nox (pss_one (ps_sto SF (pv 0) (pv 1))), _, rfl, _, rfl, a, C, rfl, T, ea, fun d n ne => q d n ne⟩
theorem ok_index {qn : Str} {p1 p2 q1 q2 q3 q4 : Pos} {fa : Addr} {fd : FuncData} (SF : StoreFacts B bmB "object.__setattr__" "object") (F : FunD K "__init__" qn (iA "index" p1 p2) (iB "index" q1 q2 q3 q4) (iS "index") [] [] fa fd) :
    FnOk P w K mg base CX0 1 fa fd ["self", "index"] (spIni K bmB "index") := by
  refine F.ok scI (fun vs H Q E h => ?_) (fun cdv A outer s H vs Q E hr h => ?_)
  · obtain ⟨a, C, v, rfl, _⟩ := h
    rfl
  · obtain ⟨a, C, v, rfl, T, ea, q⟩ := h
    exact ⟨_, PSs.nox (pss_one (ps_sto SF (pv 0) (pv 1))), _, rfl, _, rfl, a, C, rfl, T, ea, fun d n ne => q d n ne⟩
end
end Ca
set_option Elab.async false
set_option linter.all false
set_option maxRecDepth 100000
set_option maxHeartbeats 8000000
namespace Ca
open PySem PySem.W PySem.Calls PyProof.Rows PySem.HandSPX
section
variable {prog : Program} {w : World} {A : Around} {E : Value → Shared → Prop} {R : Result → Shared → Prop} {hp : Heap} {gs : Array GenState} {dr : Drawn} {tk : Nat} {os : OsState}
variable {nm q : PySem.Str} {C N : Addr} {bs bm bmB : List Value} {hdct : Bool} {sn : List PySem.Str} {sub : List Value} {ab : Bool} {col : Option Bool} {dd : Option Addr} {k0 k1 k2 k3 k5 : Option Value} {B newId initId : String}
variable {kn : PySem.Str} {u : Value}
/-- type.__call__ is asked with one keyword and no value -/
theorem kw_check {M : Model} {Q : Unit → Shared → Prop} (hC : hp.get? C = some (excClassObj nm q C N bs bm hdct sn sub ab col dd k0 k1 k2 k3 k5 newId))
    (hq : Q () ⟨hp, gs, dr, tk, os⟩) : wpAny M A (checkBuiltinCall "type.__call__" ⟨[.ref C], [(kn, u)]⟩) Q E ⟨hp, gs, dr, tk, os⟩ := by
  have e3 := tc_sub
  have ty : (⟨hp, gs, dr, tk, os⟩ : Shared).TypeIs (.ref C) "type" := ⟨_, hC, rfl⟩
  simp only [checkBuiltinCall, tc_kind, tc_split]
  repeat (any_goals (first | assumption | (with_reducible refine wpAny_loadPart_at hC ?_) | (with_reducible refine wpAny_onRaise ?_) | (with_reducible refine wpAny_map ?_) | wp_step))
/-- .. and the base's __new__ -/
theorem kw_checkNew (F : ExcBaseFacts B newId initId bmB) (hT : ∀ X : String, bm.contains (.type X) = bmB.contains (.type X)) {Q : Unit → Shared → Prop} {M : Model}
    (hC : hp.get? C = some (excClassObj nm q C N bs bm hdct sn sub ab col dd k0 k1 k2 k3 k5 newId)) (hq : Q () ⟨hp, gs, dr, tk, os⟩) :
    wpAny M A (checkBuiltinCall newId ⟨[.ref C], [(kn, u)]⟩) Q E ⟨hp, gs, dr, tk, os⟩ := by
  have inB : (Value.ref C :: bm).contains (.type B) = true := by
    rw [List.contains_cons, hT, F.hasB]
    exact Bool.or_true _
  have star := F.noStar
  simp only [checkBuiltinCall, F.newKind, F.newSplit, F.newRow]
  repeat (first
    | refine wpAny_loadPart_at hC ?_
    | (refine wpAny_isSubtype_exc hC ?_; rw [inB])
    | refine wpAny_staticBase_exc hC ?_
    | refine wpAny_madeBy_exc hC ?_
    | simp only [bne_self_eq_false, Bool.false_eq_true, if_false]
    | wp_step)
  exact hq
/-- the base's __new__ lets the keyword be -/
theorem kw_new (F : ExcBaseFacts B newId initId bmB) (hT : ∀ X : String, bm.contains (.type X) = bmB.contains (.type X))
    (hC : hp.get? C = some (excClassObj nm q C N bs bm hdct sn sub ab col dd k0 k1 k2 k3 k5 newId))
    (hq : R (.ok (.ret (.ref (hp.objs.size + 1)))) ⟨(hp.push (W.kdv_tup [])).push (excO C hp.objs.size), gs, dr, tk, os⟩) :
    codeAny (model prog w) A (.builtin newId ⟨[.ref C], [(kn, u)]⟩) R ⟨hp, gs, dr, tk, os⟩ := by
  have en := F.ends
  have c1 : (Value.ref C :: bm).contains (.type B) = true := by
    rw [List.contains_cons, hT, F.hasB]
    exact Bool.or_true _
  have c2 : (Value.ref C :: bm).contains (.type "AttributeError") = false := by
    rw [List.contains_cons, hT, F.noAttr]
    rfl
  have c3 : (Value.ref C :: bm).contains (.type "NameError") = false := by
    rw [List.contains_cons, hT, F.noName]
    rfl
  refine codeAny_builtinAt F.entry ?_
  unfold Builtin.«BaseException.__new__»
  refine PySem.wpAt_bind ?_
  show PySem.wpAt _ _ _ (stack >>= _) _ _ _
  refine PySem.wpAt_bind (PySem.wpAt_stack fun p below => PySem.wpAt_of_wpAny ?_)
  wp_walk
  refine PySem.wpAt_of_wpAny ?_
  rw [F.owner]
  have hz : ([] : List Value).length ≤ sizeLine := Nat.zero_le _
  repeat (first
    | with_reducible refine wpAny_madeHere_exc F.canon hC ?_
    | with_reducible refine wpAny_loadPart_at hC ?_
    | (with_reducible refine wpAny_isSubtype_exc hC ?_; first | rw [c1] | rw [c2] | rw [c3])
    | wp_step)
  show R _ _
  rw [Heap.size_push]
  exact hq
/-- type.__call__ upon such a class: a new exception, then its own __init__ with the keyword -/
theorem kw_type (F : ExcBaseFacts B newId initId bmB) (hT : ∀ X : String, bm.contains (.type X) = bmB.contains (.type X)) {fI : Addr} {Q : Fin → Shared → Prop}
    (hC : hp.get? C = some (excClassObj nm q C N bs bm hdct sn sub ab col dd k0 k1 k2 k3 k5 newId))
    (hi : W.Looks (model prog w) hp (typeLookup (.ref C) "__init__") (some (.ref fI))) (hb : ∀ self, W.Looks (model prog w) hp (bindSpecial (.ref fI) self) (.ref fI, [self]))
    (hq : codeAny (model prog w) A (.call (.ref fI) ⟨[.ref (hp.objs.size + 1)], [(kn, u)]⟩)
      (fun r s' => match r with
        | .ok (.ret v) => v = .none ∧ Q (.done (.ret (.ref (hp.objs.size + 1)))) s'
        | .ok _ => False
        | .error e => E e s')
      ⟨(hp.push (W.kdv_tup [])).push (excO C hp.objs.size), gs, dr, tk, os⟩) :
    wpAny (model prog w) A (Builtin.«type.__call__» ⟨[.ref C], [(kn, u)]⟩) Q E ⟨hp, gs, dr, tk, os⟩ := by
  repeat (first
    | with_reducible refine wpAny_loadPart_at hC ?_
    | with_reducible refine wpAny_madeBy_exc hC ?_
    | wp_step)
  refine codeAny_call_builtin_code (Code.quiet_builtin _ F.quiet) (kw_checkNew F hT hC ?_)
  refine kw_new F hT hC ?_
  show wpAny _ _ _ _ _ _
  have keep : ∀ b o, hp.get? b = some o → ((hp.push (W.kdv_tup [])).push (excO C hp.objs.size)).get? b = some o := fun b o z => Heap.get?_push_of_some _ (Heap.get?_push_of_some _ z)
  have hC' := keep _ _ hC
  have self' : ((hp.push (W.kdv_tup [])).push (excO C hp.objs.size)).get? (hp.objs.size + 1) = some (excO C hp.objs.size) := by heap_get
  have own : (Value.ref C :: bm).contains (.ref C) = true := by simp
  have i' := hi.keeps keep
  have b' := (hb (.ref (hp.objs.size + 1))).keeps keep
  unfold isInstance
  repeat (first
    | with_reducible refine wpAny_loadPart_at self' ?_
    | (with_reducible refine wpAny_isSubtype_exc hC' ?_; rw [own])
    | wp_step)
  show wpAny _ _ (typeLookup (.ref C) _) _ _ _
  refine i'.at ?_
  refine wpAny_holding (wpAny_bind (b'.at ?_))
  refine wpAny_bind (wpAny_call (codeAny_mono hq fun r s' z => ?_))
  rcases r with e | (v | _ | _ | _)
  case error => exact z
  any_goals first
    | exact False.elim z
    | (obtain ⟨ev, z⟩ := z
       subst ev
       first
         | exact wpAny_pure (wpAny_pure z)
         | (wp_walk; exact z))
/-- C(f = u) -/
theorem kw_call (F : ExcBaseFacts B newId initId bmB) (hT : ∀ X : String, bm.contains (.type X) = bmB.contains (.type X)) {fI : Addr}
    (hC : hp.get? C = some (excClassObj nm q C N bs bm hdct sn sub ab col dd k0 k1 k2 k3 k5 newId))
    (hi : W.Looks (model prog w) hp (typeLookup (.ref C) "__init__") (some (.ref fI))) (hb : ∀ self, W.Looks (model prog w) hp (bindSpecial (.ref fI) self) (.ref fI, [self]))
    (hq : codeAny (model prog w) (A.under (.builtin "type.__call__" ⟨[.ref C], [(kn, u)]⟩)) (.call (.ref fI) ⟨[.ref (hp.objs.size + 1)], [(kn, u)]⟩) (W.InitBack (hp.objs.size + 1) R)
      ⟨(hp.push (W.kdv_tup [])).push (excO C hp.objs.size), gs, dr, tk, os⟩) :
    codeAny (model prog w) A (.call (.ref C) ⟨[], [(kn, u)]⟩) R ⟨hp, gs, dr, tk, os⟩ := by
  have e1 := tc_lookup
  have e2 := tc_bind (.ref C)
  have ty : (⟨hp, gs, dr, tk, os⟩ : Shared).TypeIs (.ref C) "type" := ⟨_, hC, rfl⟩
  refine codeAny_of_tree ?_
  show wpAny _ _ (callAny (.ref C) _) _ _ _
  repeat (any_goals (first | assumption | (with_reducible refine wpAny_loadPart_at hC ?_) | wp_step))
  refine ⟨rfl, ?_⟩
  refine codeAny_call_builtin_at (Code.quiet_builtin _ (by decide +kernel)) entry_typeCall (kw_check hC (kw_type F hT hC hi hb ?_))
  refine codeAny_mono hq fun r s' z => ?_
  rcases r with e | (v | _ | _ | _) <;> exact z
end
end Ca
set_option Elab.async false
set_option linter.all false
set_option maxRecDepth 100000
set_option maxHeartbeats 4000000
namespace Ca
open PySem L2
/-- what the written part says of a class, for its making -/
structure MkC (K : PySem.W.Frag) (C fI : Addr) (bmB : List Value) (newId : String) : Prop where
  xI : PySem.W.excInitIn K C bmB newId = true
  kC : PySem.W.keepIn K (.ref C) = true
  iI : PySem.W.findIn K (.ref C) "__init__" = some (some (.ref fI))
  tI : PySem.W.typeIn K (.ref fI) = some (.type "function")

section
variable {X : Cx} {pins : List (Addr × Obj)} {σ : St} {H : Hp} {s : Shared} {C fI : Addr} {f x : Str} {v : V} {u : Value} {Q : VK} {B newId initId : String} {bmB : List Value} {k : Nat} {fd : FuncData} {ps : List Str}
/-- a new exception, ahead of its __init__ -/
theorem mk_new (I : Inv X pins σ H s) (us : List Value) : Inv X pins σ (upd H (s.heap.objs.size + 1) (exo (s.heap.objs.size + 1) C none)) { s with heap := (s.heap.push (PySem.W.kdv_tup us)).push (PySem.HandSPX.excO C s.heap.objs.size) } := by
  have keep : ∀ b o, s.heap.get? b = some o → ((s.heap.push (PySem.W.kdv_tup us)).push (PySem.HandSPX.excO C s.heap.objs.size)).get? b = some o := fun b o z => Heap.get?_push_of_some _ (Heap.get?_push_of_some _ z)
  have self' : ((s.heap.push (PySem.W.kdv_tup us)).push (PySem.HandSPX.excO C s.heap.objs.size)).get? (s.heap.objs.size + 1) = some (PySem.HandSPX.excO C s.heap.objs.size) := by heap_get
  exact I.laid (t' := s.toks) (a := s.heap.objs.size + 1) (o := exo (s.heap.objs.size + 1) C none) keep (Nat.le_succ _) (exo_ok self')
/-- what __init__ leaves is an exception of its own, all else as it was -/
theorem mk_same {a d : Addr} (na : H a = none) (nd : upd H a (exo a C none) d = none) :
    Same H (upd (upd (upd H a (exo a C none)) d (exd d [(f, v)])) a (exo a C (some d))) ∧ Exc (upd (upd (upd H a (exo a C none)) d (exd d [(f, v)])) a (exo a C (some d))) a C f v := by
  have dne : d ≠ a := fun z => by
    rw [z, upd_same] at nd
    cases nd
  refine ⟨fun b o e => ?_, d, upd_same, ?_⟩
  · have n1 := ne_of_none e na
    have n2 : b ≠ d := fun z => by
      rw [z] at e n1
      rw [upd_ne n1, e] at nd
      cases nd
    rw [upd_ne n1, upd_ne n2, upd_ne n1, e]
  · rw [upd_ne dne, upd_same]
theorem mk_run (FB : ExcBaseFacts B newId initId bmB) (M : MkC X.K C fI bmB newId) (S : StoC X.K C bmB f) (G : FnOk X.prog X.w X.K X.mg X.base CX0 k fI fd ["self", f] (spIni X.K bmB f)) (hr : Room (k + 1) X.A) (hb : Binds X.K fd ["self", f] [])
    (I : Inv X pins σ H s) (r : RelV v u) (h : ∀ a H', H a = none → Same H H' → Exc H' a C f v → Q (.ref a) H') :
    wpAny (model X.prog X.w) X.A (call (.ref C) [u]) (EP X pins σ Q) X.xe s := by
  obtain ⟨nm, N', qn, bs, bm, hdct, sn, sub, ab, col, dd, k0, k1, k2, k3, k5, hC, hT⟩ := PySem.W.excInit_of I.kIn M.xI
  have I2 := mk_new (C := C) I [u]
  have na : H (s.heap.objs.size + 1) = none := I.hok.fresh (Nat.le_succ _)
  obtain ⟨hp, g, dr, tk, os⟩ := s
  refine wpAny_call (PySem.HandSPX.call_own FB hT hC (PySem.W.looks_findIn I.kIn M.iI) (fun self => PySem.W.bind_fn I.kIn self M.tI) (by show 1 ≤ sizeLine; decide) ?_)
  have bd := hb _ [.ref (hp.objs.size + 1), u] I2.kIn rfl
  refine codeAny_mono (G.run _ X.stack _ _ _ _ [.ref (hp.objs.size + 1), v] (fun z H' => z = .non ∧ Q (.ref (hp.objs.size + 1)) H') (fun _ _ _ => False) (hr.make C [u] []) (I2.env0.make C [u] []) bd (.cons rfl (.cons r .nil))
    ⟨_, C, v, rfl, S, upd_same, fun d nd dne => ⟨rfl, ?_⟩⟩) fun res s' z => ?_
  · obtain ⟨q1, q2⟩ := mk_same (C := C) (f := f) (v := v) na nd
    exact h _ _ na q1 q2
  · cases res with
    | error er => exact z.elim
    | ok fl =>
      cases fl with
      | ret uu =>
        obtain ⟨z0, H', os', bare, un, hok, rv, ev, q⟩ := z
        subst ev
        have J := I2.call' (s' := s') (ch := []) os' un hok bare (fun b y => absurd y (by simp))
        exact ⟨rv, .ref (hp.objs.size + 1), H', J, rfl, q⟩
      | next => exact False.elim z
      | brk => exact False.elim z
      | cont => exact False.elim z
theorem mk_runK (FB : ExcBaseFacts B newId initId bmB) (M : MkC X.K C fI bmB newId) (S : StoC X.K C bmB f) (G : FnOk X.prog X.w X.K X.mg X.base CX0 k fI fd ["self", f] (spIni X.K bmB f)) (hr : Room (k + 1) X.A)
    (hb : ∀ (s : Shared) (e z : Value), BindsTo s fd ⟨[e], [(f, z)]⟩ [("self", e), (f, z)])
    (I : Inv X pins σ H s) (r : RelV v u) (h : ∀ a H', H a = none → Same H H' → Exc H' a C f v → Q (.ref a) H') :
    wpAny (model X.prog X.w) X.A (call (.ref C) [] [(f, u)]) (EP X pins σ Q) X.xe s := by
  obtain ⟨nm, N', qn, bs, bm, hdct, sn, sub, ab, col, dd, k0, k1, k2, k3, k5, hC, hT⟩ := PySem.W.excInit_of I.kIn M.xI
  have I2 := mk_new (C := C) I []
  have na : H (s.heap.objs.size + 1) = none := I.hok.fresh (Nat.le_succ _)
  obtain ⟨hp, g, dr, tk, os⟩ := s
  refine wpAny_call (kw_call FB hT hC (PySem.W.looks_findIn I.kIn M.iI) (fun self => PySem.W.bind_fn I.kIn self M.tI) ?_)
  refine codeAny_mono (G.run _ X.stack _ _ _ [.ref (hp.objs.size + 1), u] [.ref (hp.objs.size + 1), v] (fun z H' => z = .non ∧ Q (.ref (hp.objs.size + 1)) H') (fun _ _ _ => False) (hr.make C [] [(f, u)]) (I2.env0.make C [] [(f, u)]) (hb _ _ _) (.cons rfl (.cons r .nil))
    ⟨_, C, v, rfl, S, upd_same, fun d nd dne => ⟨rfl, ?_⟩⟩) fun res s' z => ?_
  · obtain ⟨q1, q2⟩ := mk_same (C := C) (f := f) (v := v) na nd
    exact h _ _ na q1 q2
  · cases res with
    | error er => exact z.elim
    | ok fl =>
      cases fl with
      | ret uu =>
        obtain ⟨z0, H', os', bare, un, hok, rv, ev, q⟩ := z
        subst ev
        have J := I2.call' (s' := s') (ch := []) os' un hok bare (fun b y => absurd y (by simp))
        exact ⟨rv, .ref (hp.objs.size + 1), H', J, rfl, q⟩
      | next => exact False.elim z
      | brk => exact False.elim z
      | cont => exact False.elim z
/-- C(e), C(f = e): a new exception whose field holds the value -/
def tMkC (C : Addr) (f : Str) (ta : TA) : TE := fun σ H Q => ta σ H fun vs H1 => ∃ v, vs = [v] ∧ ∀ a H', H1 a = none → Same H1 H' → Exc H' a C f v → Q (.ref a) H'
theorem pe_mkC {e : Expr} {ta : TA} {p pos : Pos} (FB : ExcBaseFacts B newId initId bmB) (M : MkC X.K C fI bmB newId) (S : StoC X.K C bmB f) (G : FnOk X.prog X.w X.K X.mg X.base CX0 k fI fd ["self", f] (spIni X.K bmB f)) (hr : Room (k + 1) X.A) (hb : Binds X.K fd ["self", f] [])
    (hm : X.mg x = some (.ref C)) (ha : PA X [e] ta) (hg : Gl X x := by rfl) (hdb : (x == ("__debug__" : Str)) = false := by decide)
    (hs : starEach (e :: []) X.env = (false, eval e X.env) :: starEach [] X.env := by rfl) (hpl : (backTo pos (starEach [] X.env)).any (·.1) = false := by rfl) : PE X (.Call (.Name x p) [e] [] pos) (tMkC C f ta) := by
  refine ⟨fun pins s σ H Q I h => ?_⟩
  refine wpAny_Call_Name_kw (ld_glob I hg hm ?_ hdb)
  refine PySem.W.callWith_K (h₀ := X.base) I.ok.mod.kin M.kC (thn (ha.run pos pins s σ H _ I h) fun us s1 z => ?_) hs hpl
  obtain ⟨vs, H1, I1, r, v, ev, q⟩ := z
  subst ev
  cases r with
  | cons r rn =>
    cases rn
    exact ⟨I1.kIn, mk_run FB M S G hr hb I1 r q⟩
theorem pe_mkK {kws : List Keyword} {ta : TA} {p pos : Pos} (FB : ExcBaseFacts B newId initId bmB) (M : MkC X.K C fI bmB newId) (S : StoC X.K C bmB f) (G : FnOk X.prog X.w X.K X.mg X.base CX0 k fI fd ["self", f] (spIni X.K bmB f)) (hr : Room (k + 1) X.A)
    (hb : ∀ (s : Shared) (e z : Value), BindsTo s fd ⟨[e], [(f, z)]⟩ [("self", e), (f, z)])
    (hm : X.mg x = some (.ref C)) (hk : PK X kws ta) (hg : Gl X x := by rfl) (hdb : (x == ("__debug__" : Str)) = false := by decide)
    (hall : (backToKw pos (keywordEach kws X.env)).all (·.1.isSome) = true := by rfl) (hks : (backToKw pos (keywordEach kws X.env)).filterMap (·.1) = [f] := by rfl)
    (hpl : ((backTo pos (starEach [] X.env)).any (·.1) || (backToKw pos (keywordEach kws X.env)).any (·.1.isNone)) = false := by rfl) : PE X (.Call (.Name x p) [] kws pos) (tMkC C f ta) := by
  refine ⟨fun pins s σ H Q I h => ?_⟩
  refine wpAny_Call_Name_kw (ld_glob I hg hm ?_ hdb)
  refine PySem.W.callWith_KW0 (h₀ := X.base) I.ok.mod.kin M.kC hall (thn (hk.run pos pins s σ H _ I h) fun us s1 z => ?_) hpl
  obtain ⟨vs, H1, I1, r, v, ev, q⟩ := z
  subst ev
  rw [hks]
  cases r with
  | cons r rn =>
    cases rn
    exact ⟨I1.kIn, mk_runK FB M S G hr hb I1 r q⟩
/-- C(), C without an __init__ of its own -/
def tMk0 (C : Addr) : TE := fun σ H Q => ∀ a, H a = none → Q (.ref a) (upd H a (exo a C none))
theorem pe_mk0 {p pos : Pos} (FB : ExcBaseFacts B newId initId bmB) (hx : PySem.W.excIn X.K C bmB newId = true) (hk : PySem.W.keepIn X.K (.ref C) = true) (hm : X.mg x = some (.ref C)) (hg : Gl X x := by rfl) (hdb : (x == ("__debug__" : Str)) = false := by decide) :
    PE X (.Call (.Name x p) [] [] pos) (tMk0 C) := by
  refine ⟨fun pins s σ H Q I h => ?_⟩
  refine wpAny_Call_Name_kw (ld_glob I hg hm ?_ hdb)
  refine PySem.W.callWith_K0 I.kIn hk ?_
  obtain ⟨bm, N, nm, qn, bs, hdct, sn, sub, ab, col, dd, k0, k1, k2, k3, k5, mN, hC, hN, hni, T⟩ := exc_obj I.kIn hx
  refine wpAny_call_exc_subT FB T hC hN hni (fun h' e hm => ?_) (Nat.zero_le _)
  obtain ⟨t, he, _, _⟩ := hm.there
  have na := I.hok.gone hm.new
  exact ⟨.ref e, _, I.laidN (t' := s.toks) hm.keeps hm.new na (exo_ok he), rfl, h e na⟩
/-- the field of such an exception -/
def tXat (K : PySem.W.Frag) (f : Str) (te : TE) : TE := fun σ H Q => te σ H fun y H1 => ∃ a C v, y = .ref a ∧ XfC K C ∧ PySem.W.findIn K (.ref C) f = some none ∧ Exc H1 a C f v ∧ Q v H1
theorem pe_xat {e : Expr} {te : TE} {pos : Pos} (he : PE X e te) (hb : attributeBase e f X.env (eval e X.env) = eval e X.env := by rfl) : PE X (.Attribute e f pos) (tXat X.K f te) := by
  refine ⟨fun pins s σ H Q I h => ?_⟩
  refine attr_of hb (thn (he.run pins s σ H _ I h) fun u s1 z => ?_)
  obtain ⟨y, H1, I1, ry, a, C, v, ey, T, no, ⟨d, ea, ed⟩, q⟩ := z
  subst ey
  obtain rfl : u = Value.ref a := ry
  obtain ⟨t1, ha⟩ := exo_at I1.hok ea
  obtain ⟨mA, hns, rel⟩ := exd_at I1.hok ed
  obtain ⟨od, ho, hl⟩ := lookIn_ns hns
  have rf := rel f
  rw [show ([(f, v)] : List (Str × V)).lookup f = some v by simp [List.lookup]] at rf
  obtain ⟨w', hw, rw'⟩ := RelO.some_of rf
  refine PySem.HandSPX.exc_get (od := some od) I1.kIn ⟨ha, rfl, rfl, ho⟩ T.ga T.gg T.exC (PySem.W.findObj_own T.hdC no rfl (by rw [hl, hw])) (handed_of rw') ?_
  exact ⟨v, H1, I1.tok _, rw', q⟩
/-- isinstance of such an exception -/
def IsE (H : Hp) (a D : Addr) : Prop := H a = some (exo a D none) ∨ ∃ f v, Exc H a D f v
theorem IsE.same {H H' : Hp} {a D : Addr} (x : IsE H a D) (s : Same H H') : IsE H' a D := x.elim (fun e => .inl (s _ _ e)) fun ⟨f, v, e⟩ => .inr ⟨f, v, e.same s⟩
def rIsX (K : PySem.W.Frag) : List V → Hp → VK → Prop := fun xs H Q => ∃ (a D : Addr) (c : V) (cv : Value) (b : Bool), xs = [.ref a, c] ∧ IsE H a D ∧ ExcC K D ∧ (∀ u, RelV c u → u = cv) ∧ PySem.W.kitOne K (.ref D) cv = some b ∧ Q (.bl b) H
theorem call_isX : CallR X (.builtin "isinstance") (rIsX X.K) := by
  intro pins s σ H xs us Q I r h
  obtain ⟨a, D, c, cv, b, rfl, ie, C, hcv, e, q⟩ := h
  cases r with
  | cons ra rr =>
    cases rr with
    | cons rc rr =>
      cases rr
      cases ra
      have ec := hcv _ rc
      subst ec
      obtain ⟨cd, hcd, _⟩ := PySem.W.any_some C.hd
      have some' : (PySem.W.clsIn X.K D).isSome = true := by
        rw [hcd]
        rfl
      rcases ie with ea | ⟨f, v, d, ea, ed⟩
      · obtain ⟨t1, ha⟩ := exo_at I.hok ea
        exact PySem.W.kia_one (PySem.W.kitx_exc (od := none) some' C.hg C.hk C.hs C.ha C.hn C.ht C.hm) I.kIn ⟨ha, rfl, rfl, trivial⟩ e (fun z => nomatch z) fun tk => ⟨.bl b, H, I.tok tk, rfl, q⟩
      · obtain ⟨t1, ha⟩ := exo_at I.hok ea
        obtain ⟨mA, hns, rel⟩ := exd_at I.hok ed
        obtain ⟨od, ho, hl⟩ := lookIn_ns hns
        exact PySem.W.kia_one (PySem.W.kitx_exc (od := some od) some' C.hg C.hk C.hs C.ha C.hn C.ht C.hm) I.kIn ⟨ha, rfl, rfl, ho⟩ e (fun z => nomatch z) fun tk => ⟨.bl b, H, I.tok tk, rfl, q⟩
end
end Ca
set_option Elab.async false
set_option linter.all false
set_option maxRecDepth 100000
set_option maxHeartbeats 4000000
namespace Ca
open PySem PySem.Spec PyProof.Rows L2
/-! ### defs that ask repr: called where no repr is under way -/
structure FnG (P : Program) (w : World) (K : PySem.W.Frag) (mg : Str → Option Value) (base : Heap) (k : Nat) (f : Addr) (fd : FuncData) (ps : List Str) (sp : Sp) : Prop where
  len : ∀ vs H Q E, sp vs H Q E → vs.length = ps.length
  run : ∀ (A : Around) (outer : List Env) (s : Shared) (H : Hp) (args : Args) (us : List Value) (vs : List V) (Q : VK), A.guards = some [] → Room k A → Env0 P w K mg base A outer s H → BindsTo s fd args (ps.zip us) → Vals vs us → sp vs H Q E0 →
    codeAny (model P w) A (.call (.ref f) args) (CR CX0 outer P w H s Q E0) s
theorem guards_deeper {A : Around} (h : A.guards = some []) (env : Env) : (A.deeper env).guards = some [] := by
  first | exact h | (simp [Around.deeper, h]; done)
/-- a def by its body: the body may ask that no repr is under way -/
theorem fnG_of {P : Program} {w : World} {K : PySem.W.Frag} {mg : Str → Option Value} {base : Heap} {k : Nat} {f : Addr} {x qual : Str} {params : Arguments} {body : List Stmt} {scope : Scope} {dvs : List V} {kws : List (Str × V)} {fd : FuncData} {N ps : List Str} {sp : Sp}
    (F : FunD K x qual params body scope dvs kws f fd) (S : FnScope N ps scope) (len : ∀ vs H Q E, sp vs H Q E → vs.length = ps.length)
    (hbody : ∀ (cdv : Value) (A : Around) (outer : List Env) (s : Shared) (H : Hp) (vs : List V) (Q : VK), (A.deeper (envOfC qual scope s.heap.objs.size f cdv)).guards = some [] → Room k (A.deeper (envOfC qual scope s.heap.objs.size f cdv)) → sp vs H Q E0 →
      ∃ t, PSs (cxOf CX0 P w K mg base N qual scope f cdv A outer s H E0) body t ∧ t { nx := fun _ H' => Q .non H', rt := Q } (start N vs) H) :
    FnG P w K mg base (k + 1) f fd ps sp := by
  obtain ⟨oc, od, dV, kV, doc, pm, an, cdv, ct, osl, rfl, lk, hcd, _, _⟩ := F.ex
  constructor
  · exact len
  · intro A outer s H args us vs Q hgd hr e0 hb r hsp
    have hl := len _ _ _ _ hsp
    have stays : ∀ b o, base.get? b = some o → s.heap.get? b = some o := fun b o e => (e0.bs b o e).1
    have KX : K.In s.heap := e0.mod.kin.keeps stays
    have kinds : ∀ y ∈ ps.zip us, scope.names.lookup y.1 = some .local ∨ (scope.names.lookup y.1 = some .cell ∧ ((cellsFrom (s.heap.objs.size + 1) scope.names []).lookup y.1).isSome = true) := by
      intro y hy
      obtain ⟨n, v⟩ := y
      cases S.par n (List.of_mem_zip hy).1 with
      | inl q => exact .inl q
      | inr q => exact .inr ⟨q, PySem.W.cellsFrom_some _ _ _ (.inl q)⟩
    refine codeAny_call_function hr.depth (KX _ _ lk) rfl S.co S.gen rfl (PySem.W.codeRec_of KX hcd) (hb _ _ _ _ ?_)
    refine wpAny_newFunctionEnv_cells S.kind kinds fun env he s1 x => ?_
    subst he
    refine ⟨(e0.mod.nolimit.keeps stays).keeps x.toInCall.keep, codeAny_func ?_⟩
    obtain ⟨t, ht, hq⟩ := hbody cdv A outer s H vs Q (guards_deeper hgd _) (hr.deeper _) hsp
    have I : Inv (cxOf CX0 P w K mg base N qual scope f cdv A outer s H E0) [] (start N vs) H s1 := inv_start S hr.hd e0 hl r x
    refine wpAny_mono (ht.run [] s1 (start N vs) H _ I hq) (fun fl s' hs => ?_) fun e s' hs => hs
    cases fl with
    | ret u =>
      obtain ⟨v, σ', H', J, rv, q⟩ := hs
      exact ⟨v, H', J.os, J.bare, J.base, J.hok, rv, q⟩
    | next =>
      obtain ⟨σ', H', J, q⟩ := hs
      exact ⟨.non, H', J.os, J.bare, J.base, J.hok, rfl, q⟩
    | brk => exact hs.elim fun _ z => z.elim fun _ y => y.2.elim
    | cont => exact hs.elim fun _ z => z.elim fun _ y => y.2.elim
section
variable {X : Cx} {k : Nat} {f : Addr} {fd : FuncData} {ps : List Str} {sp : Sp} {x : Str} {p pos : Pos} {e : Expr} {es : List Expr} {t : TA}
/-- a call of such a def -/
theorem pe_callG (F : FnG X.prog X.w X.K X.mg X.base k f fd ps sp) (hgd : X.A.guards = some []) (hr : Room k X.A) (hm : X.mg x = some (.ref f)) (hk : PySem.W.keepIn X.K (.ref f) = true) (hb : Binds X.K fd ps [])
    (ha : PA X (e :: es) t) (hg : Gl X x := by rfl) (hdb : (x == ("__debug__" : Str)) = false := by decide) (he : starEach (e :: es) X.env = (false, eval e X.env) :: starEach es X.env := by rfl) (hpl : (backTo pos (starEach es X.env)).any (·.1) = false := by rfl) :
    PE X (.Call (.Name x p) (e :: es) [] pos) (tCall sp [] E0 t) := by
  refine ⟨fun pins s σ H Q I h => ?_⟩
  refine wpAny_Call_Name_kw (ld_glob I hg hm ?_ hdb)
  refine PySem.W.callWith_K (h₀ := X.base) I.ok.mod.kin hk (thn (ha.run pos pins s σ H _ I h) fun us s1 z => ?_) he hpl
  obtain ⟨vs, H1, I1, r, q⟩ := z
  rw [List.append_nil] at q
  refine ⟨I1.kIn, ?_⟩
  have hl : us.length = ps.length := by
    rw [← r.length]
    exact F.len _ _ _ _ q
  have bd := hb s1 us I1.kIn (by rw [List.append_nil]; exact hl)
  rw [List.append_nil] at bd
  show wpAny _ _ (call (.ref f) us) _ _ _
  refine wpAny_call (codeAny_mono (F.run X.A X.stack s1 H1 ⟨us, []⟩ us vs Q hgd hr I1.env0 bd r q) fun res s' z => ?_)
  cases res with
  | error er => exact z.elim
  | ok fl =>
    cases fl with
    | ret u => exact I1.after z
    | next => exact z.elim
    | brk => exact z.elim
    | cont => exact z.elim
end
/-- the law's own call, where such a def is the law -/
theorem lawG {P : Program} {w : World} {K : PySem.W.Frag} {mg mb : Str → Option Value} {k : Nat} {fa a : Addr} {fd : FuncData} {x : Str} {sp : Sp} {s₁ : Shared} {vs : List Value} {ns : List Int}
    (KX : K.In s₁.heap) (hns : s₁.heap.Ns mainGlobals mg) (hb : s₁.heap.Ns builtinsNs mb) (hbb : ∀ x : Str, x ≠ "__name__" → mb x = bootBuiltins x) (hlim : s₁.heap.NoLimit) (hg : s₁.gens = #[])
    (ha : s₁.heap.get? a = some { cls := .type "list", data := .seq vs.toArray }) (hi : IntsAre vs ns) (hl : ns.length ≤ sizeLine) (hr : Room k callerA)
    (F : ∀ base : Heap, K.In base → base.Ns mainGlobals mg → FnG P w K mg base k fa fd [x] sp) (hbind : ∀ (s : Shared) (u : Value), BindsTo s fd ⟨[u], []⟩ [(x, u)])
    (hsp : ∀ H : Hp, SqL K H a (ns.map V.int) → sp [.ref a] H (fun v _ => v = .bl true) E0) :
    codeAny (model P w) callerA (.call (.ref fa) ⟨[.ref a], []⟩) (fun r s' => r = .ok (.ret (.bool true)) ∧ OldK s₁.heap s'.heap ∧ s'.os = s₁.os ∧ AllBare s'.gens) s₁ := by
  have rv := vals_ints hi
  -- whatever is tracked at first: nothing, or the script alone
  have go : ∀ H : Hp, (∀ b u, H b = some u → b = a ∧ u = .frz { cls := .type "list", data := .seq vs.toArray } (.lst (ns.map V.int)) ∧ K.lookup a = none) → SqL K H a (ns.map V.int) →
      codeAny (model P w) callerA (.call (.ref fa) ⟨[.ref a], []⟩) (fun r s' => r = .ok (.ret (.bool true)) ∧ OldK s₁.heap s'.heap ∧ s'.os = s₁.os ∧ AllBare s'.gens) s₁ := by
    intro H hH hS
    have hok : HOk P w H s₁.heap := fun b u z => by
      obtain ⟨rfl, rfl, _⟩ := hH b u z
      exact ⟨ha, by rw [List.length_map]; exact hl, vs, _, rv, ha⟩
    have free : ∀ {b : Addr} {o : Obj}, s₁.heap.get? b = some o → (∀ es ep, o.data ≠ .dict es ep → False) → H b = none := fun {b o} e d => by
      cases q : H b with
      | none => rfl
      | some u =>
        obtain ⟨rfl, _, _⟩ := hH b u q
        rw [ha] at e
        cases e
        exact (d #[] 0 (fun z => nomatch z)).elim
    have dictFree : ∀ {b : Addr} {m : Str → Option Value}, s₁.heap.Ns b m → (hidT s₁.heap H).Ns b m := fun {b m} z => by
      obtain ⟨o, es, ep, e, dd, r⟩ := z
      have n : H b = none := by
        cases q : H b with
        | none => rfl
        | some u =>
          obtain ⟨rfl, _, _⟩ := hH b u q
          rw [ha] at e
          cases e
          cases dd
      exact ⟨o, es, ep, hidT_get e n, dd, r⟩
    have hKb : K.In (hidT s₁.heap H) := fun b o e => hidT_get (KX b o e) (by
      cases q : H b with
      | none => rfl
      | some u =>
        obtain ⟨rfl, _, z⟩ := hH b u q
        rw [z] at e
        cases e)
    obtain ⟨mc, l1, l2⟩ := hlim
    have md : Mod K mg (hidT s₁.heap H) := { kin := hKb, glob := dictFree hns, blt := ⟨mb, dictFree hb, hbb⟩, nolimit := ⟨mc, dictFree l1, l2⟩ }
    have none' : ∀ b : Addr, b ∉ frs [] := fun b z => nomatch z
    have e0 : Env0 P w K mg (hidT s₁.heap H) callerA [] s₁ H :=
      { frames := rfl, mod := md, bs := fun b o e => of_hidT e, bsz := Nat.le_of_eq (hidT_size _ _), funs := trivial, frf := fun b z => (none' b z).elim, hok := hok, bare := .of_eq hg }
    have run := (F _ hKb (dictFree hns)).run callerA [] s₁ H ⟨[.ref a], []⟩ [.ref a] [.ref a] (fun v _ => v = .bl true) rfl hr e0 (hbind s₁ (.ref a)) (.cons rfl .nil) (hsp H hS)
    refine codeAny_mono run fun r s' z => ?_
    cases r with
    | error e => exact z.elim
    | ok fl =>
      cases fl with
      | next => exact z.elim
      | brk => exact z.elim
      | cont => exact z.elim
      | ret u =>
        obtain ⟨v, H', os, bare, un, hok', r', q⟩ := z
        obtain rfl : v = .bl true := q
        obtain rfl : u = Value.bool true := r'
        refine ⟨rfl, OldK.of_keep fun b o e => ?_, os, bare⟩
        cases q : H b with
        | none => exact un.keep b o e q (none' b) (by simp)
        | some y =>
          obtain ⟨rfl, rfl, _⟩ := hH b y q
          rw [ha] at e
          cases e
          exact (hok' b _ (un.frzs b _ _ q)).1
  cases hk : K.lookup a with
  | some o =>
    have e := KX a o hk
    rw [ha] at e
    cases e
    exact go (fun _ => none) (fun b u z => nomatch z) (.inr ⟨_, vs.toArray, _, hk, rfl, rfl, rfl, by rw [List.size_toArray, ← hi.length] at *; first | exact hl | omega, by simpa using rv⟩)
  | none =>
    refine go (fun b => if b = a then some (.frz { cls := .type "list", data := .seq vs.toArray } (.lst (ns.map V.int))) else none) (fun b u z => ?_) (.inl (.inr ⟨{ cls := .type "list", data := .seq vs.toArray }, if_pos rfl⟩))
    by_cases hb' : b = a
    · subst hb'
      have z' : some _ = some u := (if_pos rfl).symm.trans z
      exact ⟨rfl, (Option.some.inj z').symm, hk⟩
    · have z' : none = some u := (if_neg hb').symm.trans z
      cases z'
end Ca
set_option Elab.async false
set_option linter.all false
set_option maxRecDepth 100000
set_option maxHeartbeats 4000000
namespace Ca
open PySem L2
/-! ### the 23 classes of errors and their three bases -/
def nms : List Str := ["InvalidText", "InvalidName", "InvalidAnswer", "InvalidCosts", "InvalidSteps", "InvalidIndex", "InvalidRow", "InvalidStretch", "InvalidChange", "InvalidDemand", "NotASystem", "OtherUnknowns", "UnknownName", "InvalidUnknowns", "InvalidRows", "InvalidSeen", "InvalidChanges", "InvalidDemands", "InUse", "Broken", "NothingToUndo", "NoSure", "NoPossible"]
def nm (j : Nat) : Str := nms.getD j ""
/-- which base a class has -/
def ownOf (i : Nat) : Nat := if i = 12 ∨ i = 18 then 1 else if 18 < i then 2 else 0
structure Kinds (K : PySem.W.Frag) (mg : Str → Option Value) (cl bs : Nat → Addr) : Prop where
  g : ∀ j, j < 23 → mg (nm j) = some (.ref (cl j))
  g0 : mg "BadValue" = some (.ref (bs 0))
  g1 : mg "BadName" = some (.ref (bs 1))
  g2 : mg "NoAnswer" = some (.ref (bs 2))
  kit : ∀ i j, i < 23 → j < 23 → PySem.W.kitOne K (.ref (cl i)) (.ref (cl j)) = some (decide (j = i))
  kitB : ∀ i j, i < 23 → j < 3 → PySem.W.kitOne K (.ref (cl i)) (.ref (bs j)) = some (decide (j = ownOf i))
  kit0 : ∀ i, i < 23 → PySem.W.kitOne K (.ref (cl i)) (.type "ValueError") = some (decide (0 = ownOf i))
  kit1 : ∀ i, i < 23 → PySem.W.kitOne K (.ref (cl i)) (.type "LookupError") = some (decide (1 = ownOf i))
  kit2 : ∀ i, i < 23 → PySem.W.kitOne K (.ref (cl i)) (.type "ArithmeticError") = some (decide (2 = ownOf i))
  ex : ∀ i, i < 23 → ExcC K (cl i)
  isi : mg "isinstance" = none
  ve : mg "ValueError" = none
  le : mg "LookupError" = none
  ae : mg "ArithmeticError" = none
  rng : mg "range" = none
abbrev sKinds : Stmt := top 41
abbrev sIsKind : Stmt := top 42
def kindsOf (n i : Nat) : List V := (List.range n).map fun j => .bl (decide (j = i))
def spKinds (cl : Nat → Addr) : Sp := fun vs H Q _ => ∃ (e : Addr) (i : Nat), vs = [.ref e] ∧ i < 23 ∧ IsE H e (cl i) ∧ ∀ H' p, H p = none → Same H H' → H' p = some (.lst (kindsOf 23 i)) → Q (.ref p) H'
section
variable {P : Program} {w : World} {K : PySem.W.Frag} {mg : Str → Option Value} {base : Heap} {cl bs : Nat → Addr}
/-- isinstance(e, C_j), as it is read -/
theorem rd_isi (T : Kinds K mg cl bs) {σ : St} {H : Hp} {Q : VK} {e : Addr} {i : Nat} (j : Nat) (hσ : σ[0]? = some (some (.ref e))) (hi : IsE H e (cl i)) (h1 : i < 23) (q : Q (.bl (decide (j = i))) H) (h2 : j < 23 := by decide) :
    tCB (rIsX K) (tCons (tVar 0) (tCons (tC (.ref (cl j))) tNil)) σ H Q := ⟨_, hσ, e, cl i, _, _, _, rfl, hi, T.ex i h1, fun u r => r, T.kit i j h1 h2, q⟩
theorem len3 {a b c : V} : [a, b, c].length ≤ sizeLine := by show 3 ≤ sizeLine; decide
theorem rd_cat {H : Hp} {Q : VK} {l p : Addr} {xs ys : List V} (h1 : H l = some (.lst xs)) (h2 : H p = some (.lst ys)) (hz : xs.length + ys.length ≤ 1000) (q : ∀ m, H m = none → Q (.ref m) (upd H m (.lst (xs ++ ys)))) : rCat (.ref l) (.ref p) H Q :=
  ⟨l, p, xs, ys, rfl, rfl, h1, h2, Nat.le_trans hz (by decide), q⟩

theorem scKinds : FnScope ["_law_e", "_law_found"] ["_law_e"] (defScope sKinds) := ⟨rfl, rfl, rfl, by decide +kernel, rfl, by decide +kernel, by decide +kernel⟩
theorem ok_kinds {f : Addr} {fd : FuncData} (F : FunD K "_law_kinds" "_law_kinds" (defArgs sKinds) (defBody sKinds) (defScope sKinds) [] [] f fd) (T : Kinds K mg cl bs) : FnOk P w K mg base CX0 1 f fd ["_law_e"] (spKinds cl) := by
  refine F.ok scKinds (fun vs H Q E h => ?_) (fun cdv A outer s H vs Q E hr h => ?_)
  · obtain ⟨e, i, rfl, _⟩ := h
    rfl
  · obtain ⟨e, i, rfl, hi, hE, q⟩ := h
    have nd := scKinds.nd
    refine ⟨_, PSs.nox (pss_cons (ps_set (i := 1) nd rfl (.inl rfl) (pe_lst (pa_cons (pe_callB call_isX (by rfl) T.isi PyProof.Rows.boot_isinstance (pa_cons (pv 0) (pa_cons (pe_glob (v := .ref (cl 0)) rfl (show mg "InvalidText" = some (.ref (cl 0)) from T.g 0 (by decide)) rfl) pa_nil))) (pa_cons (pe_callB call_isX (by rfl) T.isi PyProof.Rows.boot_isinstance (pa_cons (pv 0) (pa_cons (pe_glob (v := .ref (cl 1)) rfl (show mg "InvalidName" = some (.ref (cl 1)) from T.g 1 (by decide)) rfl) pa_nil))) (pa_cons (pe_callB call_isX (by rfl) T.isi PyProof.Rows.boot_isinstance (pa_cons (pv 0) (pa_cons (pe_glob (v := .ref (cl 2)) rfl (show mg "InvalidAnswer" = some (.ref (cl 2)) from T.g 2 (by decide)) rfl) pa_nil))) pa_nil))))) (
      pss_cons (ps_set (i := 1) nd rfl (.inl rfl) (pe_op op_cat (pv 1) (pe_lst (pa_cons (pe_callB call_isX (by rfl) T.isi PyProof.Rows.boot_isinstance (pa_cons (pv 0) (pa_cons (pe_glob (v := .ref (cl 3)) rfl (show mg "InvalidCosts" = some (.ref (cl 3)) from T.g 3 (by decide)) rfl) pa_nil))) (pa_cons (pe_callB call_isX (by rfl) T.isi PyProof.Rows.boot_isinstance (pa_cons (pv 0) (pa_cons (pe_glob (v := .ref (cl 4)) rfl (show mg "InvalidSteps" = some (.ref (cl 4)) from T.g 4 (by decide)) rfl) pa_nil))) (pa_cons (pe_callB call_isX (by rfl) T.isi PyProof.Rows.boot_isinstance (pa_cons (pv 0) (pa_cons (pe_glob (v := .ref (cl 5)) rfl (show mg "InvalidIndex" = some (.ref (cl 5)) from T.g 5 (by decide)) rfl) pa_nil))) pa_nil)))))) (
      pss_cons (ps_set (i := 1) nd rfl (.inl rfl) (pe_op op_cat (pv 1) (pe_lst (pa_cons (pe_callB call_isX (by rfl) T.isi PyProof.Rows.boot_isinstance (pa_cons (pv 0) (pa_cons (pe_glob (v := .ref (cl 6)) rfl (show mg "InvalidRow" = some (.ref (cl 6)) from T.g 6 (by decide)) rfl) pa_nil))) (pa_cons (pe_callB call_isX (by rfl) T.isi PyProof.Rows.boot_isinstance (pa_cons (pv 0) (pa_cons (pe_glob (v := .ref (cl 7)) rfl (show mg "InvalidStretch" = some (.ref (cl 7)) from T.g 7 (by decide)) rfl) pa_nil))) (pa_cons (pe_callB call_isX (by rfl) T.isi PyProof.Rows.boot_isinstance (pa_cons (pv 0) (pa_cons (pe_glob (v := .ref (cl 8)) rfl (show mg "InvalidChange" = some (.ref (cl 8)) from T.g 8 (by decide)) rfl) pa_nil))) pa_nil)))))) (
      pss_cons (ps_set (i := 1) nd rfl (.inl rfl) (pe_op op_cat (pv 1) (pe_lst (pa_cons (pe_callB call_isX (by rfl) T.isi PyProof.Rows.boot_isinstance (pa_cons (pv 0) (pa_cons (pe_glob (v := .ref (cl 9)) rfl (show mg "InvalidDemand" = some (.ref (cl 9)) from T.g 9 (by decide)) rfl) pa_nil))) (pa_cons (pe_callB call_isX (by rfl) T.isi PyProof.Rows.boot_isinstance (pa_cons (pv 0) (pa_cons (pe_glob (v := .ref (cl 10)) rfl (show mg "NotASystem" = some (.ref (cl 10)) from T.g 10 (by decide)) rfl) pa_nil))) (pa_cons (pe_callB call_isX (by rfl) T.isi PyProof.Rows.boot_isinstance (pa_cons (pv 0) (pa_cons (pe_glob (v := .ref (cl 11)) rfl (show mg "OtherUnknowns" = some (.ref (cl 11)) from T.g 11 (by decide)) rfl) pa_nil))) pa_nil)))))) (
      pss_cons (ps_set (i := 1) nd rfl (.inl rfl) (pe_op op_cat (pv 1) (pe_lst (pa_cons (pe_callB call_isX (by rfl) T.isi PyProof.Rows.boot_isinstance (pa_cons (pv 0) (pa_cons (pe_glob (v := .ref (cl 12)) rfl (show mg "UnknownName" = some (.ref (cl 12)) from T.g 12 (by decide)) rfl) pa_nil))) (pa_cons (pe_callB call_isX (by rfl) T.isi PyProof.Rows.boot_isinstance (pa_cons (pv 0) (pa_cons (pe_glob (v := .ref (cl 13)) rfl (show mg "InvalidUnknowns" = some (.ref (cl 13)) from T.g 13 (by decide)) rfl) pa_nil))) (pa_cons (pe_callB call_isX (by rfl) T.isi PyProof.Rows.boot_isinstance (pa_cons (pv 0) (pa_cons (pe_glob (v := .ref (cl 14)) rfl (show mg "InvalidRows" = some (.ref (cl 14)) from T.g 14 (by decide)) rfl) pa_nil))) pa_nil)))))) (
      pss_cons (ps_set (i := 1) nd rfl (.inl rfl) (pe_op op_cat (pv 1) (pe_lst (pa_cons (pe_callB call_isX (by rfl) T.isi PyProof.Rows.boot_isinstance (pa_cons (pv 0) (pa_cons (pe_glob (v := .ref (cl 15)) rfl (show mg "InvalidSeen" = some (.ref (cl 15)) from T.g 15 (by decide)) rfl) pa_nil))) (pa_cons (pe_callB call_isX (by rfl) T.isi PyProof.Rows.boot_isinstance (pa_cons (pv 0) (pa_cons (pe_glob (v := .ref (cl 16)) rfl (show mg "InvalidChanges" = some (.ref (cl 16)) from T.g 16 (by decide)) rfl) pa_nil))) (pa_cons (pe_callB call_isX (by rfl) T.isi PyProof.Rows.boot_isinstance (pa_cons (pv 0) (pa_cons (pe_glob (v := .ref (cl 17)) rfl (show mg "InvalidDemands" = some (.ref (cl 17)) from T.g 17 (by decide)) rfl) pa_nil))) pa_nil)))))) (
      pss_cons (ps_set (i := 1) nd rfl (.inl rfl) (pe_op op_cat (pv 1) (pe_lst (pa_cons (pe_callB call_isX (by rfl) T.isi PyProof.Rows.boot_isinstance (pa_cons (pv 0) (pa_cons (pe_glob (v := .ref (cl 18)) rfl (show mg "InUse" = some (.ref (cl 18)) from T.g 18 (by decide)) rfl) pa_nil))) (pa_cons (pe_callB call_isX (by rfl) T.isi PyProof.Rows.boot_isinstance (pa_cons (pv 0) (pa_cons (pe_glob (v := .ref (cl 19)) rfl (show mg "Broken" = some (.ref (cl 19)) from T.g 19 (by decide)) rfl) pa_nil))) (pa_cons (pe_callB call_isX (by rfl) T.isi PyProof.Rows.boot_isinstance (pa_cons (pv 0) (pa_cons (pe_glob (v := .ref (cl 20)) rfl (show mg "NothingToUndo" = some (.ref (cl 20)) from T.g 20 (by decide)) rfl) pa_nil))) pa_nil)))))) (
      pss_one (ps_ret (pe_op op_cat (pv 1) (pe_lst (pa_cons (pe_callB call_isX (by rfl) T.isi PyProof.Rows.boot_isinstance (pa_cons (pv 0) (pa_cons (pe_glob (v := .ref (cl 21)) rfl (show mg "NoSure" = some (.ref (cl 21)) from T.g 21 (by decide)) rfl) pa_nil))) (pa_cons (pe_callB call_isX (by rfl) T.isi PyProof.Rows.boot_isinstance (pa_cons (pv 0) (pa_cons (pe_glob (v := .ref (cl 22)) rfl (show mg "NoPossible" = some (.ref (cl 22)) from T.g 22 (by decide)) rfl) pa_nil))) pa_nil))))))))))))), ?_⟩
    refine rd_isi T 0 rfl hE hi (rd_isi T 1 rfl hE hi (rd_isi T 2 rfl hE hi ⟨len3, fun p0 hp0 => ?_⟩))
    have s0 := Same.new (o := .lst (kindsOf 3 i)) hp0
    have hl0 : upd H p0 (.lst (kindsOf 3 i)) p0 = some (.lst (kindsOf 3 i)) := upd_same
    have hE1 := hE.same s0
    change tSeq _ _ _ _ (upd H p0 (.lst (kindsOf 3 i)))
    generalize hG0 : upd H p0 (.lst (kindsOf 3 i)) = G0 at s0 hl0 hE1 ⊢
    clear hG0
    refine ⟨_, rfl, ?_⟩
    refine rd_isi T 3 rfl hE1 hi (rd_isi T 4 rfl hE1 hi (rd_isi T 5 rfl hE1 hi ⟨len3, fun p1 hp1 => ?_⟩))
    refine rd_cat (xs := kindsOf 3 i) (Eq.trans (upd_ne (ne_of_none hl0 hp1)) hl0) upd_same (by show 6 ≤ 1000; decide) (fun m1 hm1 => ?_)
    have s1 : Same G0 (upd (upd G0 p1 _) m1 (.lst (kindsOf 6 i))) := (Same.new hp1).trans (Same.new hm1)
    have hE2 := hE1.same s1
    have t1 := s0.trans s1
    have hl1 := (upd_same (H := upd G0 p1 (.lst [V.bl (decide (3 = i)), V.bl (decide (4 = i)), V.bl (decide (5 = i))])) (a := m1) (o := .lst (kindsOf 6 i)))
    rw [show kindsOf 3 i ++ [V.bl (decide (3 = i)), V.bl (decide (4 = i)), V.bl (decide (5 = i))] = kindsOf 6 i from rfl]
    generalize upd (upd G0 p1 (.lst [V.bl (decide (3 = i)), V.bl (decide (4 = i)), V.bl (decide (5 = i))])) m1 (.lst (kindsOf 6 i)) = G1 at hE2 t1 hl1 ⊢
    refine ⟨_, rfl, ?_⟩
    refine rd_isi T 6 rfl hE2 hi (rd_isi T 7 rfl hE2 hi (rd_isi T 8 rfl hE2 hi ⟨len3, fun p2 hp2 => ?_⟩))
    refine rd_cat (xs := kindsOf 6 i) (Eq.trans (upd_ne (ne_of_none hl1 hp2)) hl1) upd_same (by show 9 ≤ 1000; decide) (fun m2 hm2 => ?_)
    have s2 : Same G1 (upd (upd G1 p2 _) m2 (.lst (kindsOf 9 i))) := (Same.new hp2).trans (Same.new hm2)
    have hE3 := hE2.same s2
    have t2 := t1.trans s2
    have hl2 := (upd_same (H := upd G1 p2 (.lst [V.bl (decide (6 = i)), V.bl (decide (7 = i)), V.bl (decide (8 = i))])) (a := m2) (o := .lst (kindsOf 9 i)))
    rw [show kindsOf 6 i ++ [V.bl (decide (6 = i)), V.bl (decide (7 = i)), V.bl (decide (8 = i))] = kindsOf 9 i from rfl]
    generalize upd (upd G1 p2 (.lst [V.bl (decide (6 = i)), V.bl (decide (7 = i)), V.bl (decide (8 = i))])) m2 (.lst (kindsOf 9 i)) = G2 at hE3 t2 hl2 ⊢
    refine ⟨_, rfl, ?_⟩
    refine rd_isi T 9 rfl hE3 hi (rd_isi T 10 rfl hE3 hi (rd_isi T 11 rfl hE3 hi ⟨len3, fun p3 hp3 => ?_⟩))
    refine rd_cat (xs := kindsOf 9 i) (Eq.trans (upd_ne (ne_of_none hl2 hp3)) hl2) upd_same (by show 12 ≤ 1000; decide) (fun m3 hm3 => ?_)
    have s3 : Same G2 (upd (upd G2 p3 _) m3 (.lst (kindsOf 12 i))) := (Same.new hp3).trans (Same.new hm3)
    have hE4 := hE3.same s3
    have t3 := t2.trans s3
    have hl3 := (upd_same (H := upd G2 p3 (.lst [V.bl (decide (9 = i)), V.bl (decide (10 = i)), V.bl (decide (11 = i))])) (a := m3) (o := .lst (kindsOf 12 i)))
    rw [show kindsOf 9 i ++ [V.bl (decide (9 = i)), V.bl (decide (10 = i)), V.bl (decide (11 = i))] = kindsOf 12 i from rfl]
    generalize upd (upd G2 p3 (.lst [V.bl (decide (9 = i)), V.bl (decide (10 = i)), V.bl (decide (11 = i))])) m3 (.lst (kindsOf 12 i)) = G3 at hE4 t3 hl3 ⊢
    refine ⟨_, rfl, ?_⟩
    refine rd_isi T 12 rfl hE4 hi (rd_isi T 13 rfl hE4 hi (rd_isi T 14 rfl hE4 hi ⟨len3, fun p4 hp4 => ?_⟩))
    refine rd_cat (xs := kindsOf 12 i) (Eq.trans (upd_ne (ne_of_none hl3 hp4)) hl3) upd_same (by show 15 ≤ 1000; decide) (fun m4 hm4 => ?_)
    have s4 : Same G3 (upd (upd G3 p4 _) m4 (.lst (kindsOf 15 i))) := (Same.new hp4).trans (Same.new hm4)
    have hE5 := hE4.same s4
    have t4 := t3.trans s4
    have hl4 := (upd_same (H := upd G3 p4 (.lst [V.bl (decide (12 = i)), V.bl (decide (13 = i)), V.bl (decide (14 = i))])) (a := m4) (o := .lst (kindsOf 15 i)))
    rw [show kindsOf 12 i ++ [V.bl (decide (12 = i)), V.bl (decide (13 = i)), V.bl (decide (14 = i))] = kindsOf 15 i from rfl]
    generalize upd (upd G3 p4 (.lst [V.bl (decide (12 = i)), V.bl (decide (13 = i)), V.bl (decide (14 = i))])) m4 (.lst (kindsOf 15 i)) = G4 at hE5 t4 hl4 ⊢
    refine ⟨_, rfl, ?_⟩
    refine rd_isi T 15 rfl hE5 hi (rd_isi T 16 rfl hE5 hi (rd_isi T 17 rfl hE5 hi ⟨len3, fun p5 hp5 => ?_⟩))
    refine rd_cat (xs := kindsOf 15 i) (Eq.trans (upd_ne (ne_of_none hl4 hp5)) hl4) upd_same (by show 18 ≤ 1000; decide) (fun m5 hm5 => ?_)
    have s5 : Same G4 (upd (upd G4 p5 _) m5 (.lst (kindsOf 18 i))) := (Same.new hp5).trans (Same.new hm5)
    have hE6 := hE5.same s5
    have t5 := t4.trans s5
    have hl5 := (upd_same (H := upd G4 p5 (.lst [V.bl (decide (15 = i)), V.bl (decide (16 = i)), V.bl (decide (17 = i))])) (a := m5) (o := .lst (kindsOf 18 i)))
    rw [show kindsOf 15 i ++ [V.bl (decide (15 = i)), V.bl (decide (16 = i)), V.bl (decide (17 = i))] = kindsOf 18 i from rfl]
    generalize upd (upd G4 p5 (.lst [V.bl (decide (15 = i)), V.bl (decide (16 = i)), V.bl (decide (17 = i))])) m5 (.lst (kindsOf 18 i)) = G5 at hE6 t5 hl5 ⊢
    refine ⟨_, rfl, ?_⟩
    refine rd_isi T 18 rfl hE6 hi (rd_isi T 19 rfl hE6 hi (rd_isi T 20 rfl hE6 hi ⟨len3, fun p6 hp6 => ?_⟩))
    refine rd_cat (xs := kindsOf 18 i) (Eq.trans (upd_ne (ne_of_none hl5 hp6)) hl5) upd_same (by show 21 ≤ 1000; decide) (fun m6 hm6 => ?_)
    have s6 : Same G5 (upd (upd G5 p6 _) m6 (.lst (kindsOf 21 i))) := (Same.new hp6).trans (Same.new hm6)
    have hE7 := hE6.same s6
    have t6 := t5.trans s6
    have hl6 := (upd_same (H := upd G5 p6 (.lst [V.bl (decide (18 = i)), V.bl (decide (19 = i)), V.bl (decide (20 = i))])) (a := m6) (o := .lst (kindsOf 21 i)))
    rw [show kindsOf 18 i ++ [V.bl (decide (18 = i)), V.bl (decide (19 = i)), V.bl (decide (20 = i))] = kindsOf 21 i from rfl]
    generalize upd (upd G5 p6 (.lst [V.bl (decide (18 = i)), V.bl (decide (19 = i)), V.bl (decide (20 = i))])) m6 (.lst (kindsOf 21 i)) = G6 at hE7 t6 hl6 ⊢
    refine ⟨_, rfl, ?_⟩
    refine rd_isi T 21 rfl hE7 hi (rd_isi T 22 rfl hE7 hi ⟨by show 2 ≤ sizeLine; decide, fun p7 hp7 => ?_⟩)
    refine rd_cat (xs := kindsOf 21 i) (Eq.trans (upd_ne (ne_of_none hl6 hp7)) hl6) upd_same (by show 23 ≤ 1000; decide) (fun m7 hm7 => ?_)
    have s7 : Same G6 (upd (upd G6 p7 _) m7 (.lst (kindsOf 23 i))) := (Same.new hp7).trans (Same.new hm7)
    exact q _ m7 (t6.free (show G6 m7 = none from (Same.new hp7).free hm7)) (t6.trans s7) upd_same
end
end Ca
set_option Elab.async false
set_option linter.all false
set_option maxRecDepth 100000
set_option maxHeartbeats 4000000
namespace Ca
open PySem L2
def spIsKind (cl : Nat → Addr) : Sp := fun vs H Q _ => ∃ (e : Addr) (i : Nat), vs = [.ref e, .int i] ∧ i < 23 ∧ IsE H e (cl i) ∧ ∀ H', Same H H' → Q (.bl true) H'
theorem in_two (k : Int) : inV (.int k) [.int 12, .int 18] = decide (k = 12 ∨ k = 18) := by
  show (decide (12 = k) || (decide (18 = k) || false)) = _
  by_cases h1 : k = 12
  · subst h1; rfl
  · by_cases h2 : k = 18
    · subst h2; rfl
    · rw [decide_eq_false (fun q => h1 q.symm), decide_eq_false (fun q => h2 q.symm), decide_eq_false (fun q => q.elim h1 h2)]
      rfl
theorem dpAll_bools {K : PySem.W.Frag} {H : Hp} : ∀ bs : List Bool, DpAll K H (bs.map V.bl) (bs.map PyData.bool)
  | [] => .nil
  | b :: bs => .cons (.bl b) (dpAll_bools bs)
theorem dp_bools {K : PySem.W.Frag} {H : Hp} {a : Addr} {bs : List Bool} (h : SqL K H a (bs.map V.bl)) : Dp K H (.ref a) (.list (bs.map PyData.bool)) := .lst h (dpAll_bools bs)
theorem kinds_bools (n i : Nat) : kindsOf n i = ((List.range n).map fun j => decide (j = i)).map V.bl := by
  unfold kindsOf
  rw [List.map_map]
  rfl
theorem kinds_more (n i : Nat) : kindsOf (n + 1) i = kindsOf n i ++ [.bl (decide (n = i))] := by
  unfold kindsOf
  rw [List.range_succ, List.map_append]
  rfl
theorem int_nat_eq (m n : Nat) : decide (V.int ((0 : Int) + (m : Int)) = V.int (n : Int)) = decide (m = n) := by
  have e : (V.int ((0 : Int) + (m : Int)) = V.int (n : Int)) ↔ m = n := by
    constructor
    · intro q
      injection q with q
      omega
    · rintro rfl
      rw [Int.zero_add]
  by_cases h : m = n
  · rw [decide_eq_true h, decide_eq_true (e.mpr h)]
  · rw [decide_eq_false h, decide_eq_false fun q => h (e.mp q)]
theorem rd_yes {A B : Hp → Prop} {σ : St} {H : Hp} (h : A H) : tYes σ H (fun b H3 => if b = true then A H3 else B H3) := by
  show (if true = true then A H else B H)
  rw [if_pos rfl]
  exact h
theorem kinds_len (n i : Nat) : (kindsOf n i).length = n := by
  unfold kindsOf
  rw [List.length_map, List.length_range]
theorem dp_kinds {K : PySem.W.Frag} {H : Hp} {a : Addr} {n i : Nat} (h : H a = some (.lst (kindsOf n i))) : Dp K H (.ref a) (.list (((List.range n).map fun j => decide (j = i)).map PyData.bool)) :=
  dp_bools (by
    rw [← kinds_bools]
    exact SqL.of h)
section
variable {P : Program} {w : World} {K : PySem.W.Frag} {mg : Str → Option Value} {base : Heap} {cl bs : Nat → Addr}
theorem scIsKind : FnScope ["_law_e", "_law_k", "_law_own", "_law_bases", "_law_kinds_here", "_law_due", "_law_j"] ["_law_e", "_law_k"] (defScope sIsKind) := ⟨rfl, rfl, rfl, by decide +kernel, rfl, by decide +kernel, by decide +kernel⟩
theorem rd_isiB (T : Kinds K mg cl bs) {σ : St} {H : Hp} {Q : VK} {e : Addr} {i : Nat} (j : Nat) (hσ : σ[0]? = some (some (.ref e))) (hi : IsE H e (cl i)) (h1 : i < 23) (q : Q (.bl (decide (j = ownOf i))) H) (h2 : j < 3 := by decide) :
    tCB (rIsX K) (tCons (tVar 0) (tCons (tC (.ref (bs j))) tNil)) σ H Q := ⟨_, hσ, e, cl i, _, _, _, rfl, hi, T.ex i h1, fun u r => r, T.kitB i j h1 h2, q⟩
theorem rd_isiV {σ : St} {H : Hp} {Q : VK} {e D : Addr} {b : Bool} {n : String} (hσ : σ[0]? = some (some (.ref e))) (hi : IsE H e D) (hx : ExcC K D) (hk : PySem.W.kitOne K (.ref D) (.type n) = some b) (q : Q (.bl b) H) :
    tCB (rIsX K) (tCons (tVar 0) (tCons (tC (.ty n)) tNil)) σ H Q := ⟨_, hσ, e, D, _, _, _, rfl, hi, hx, fun u r => r, hk, q⟩
theorem ok_isKind {f fK : Addr} {fd fdK : FuncData} (F : FunD K "_law_is_kind" "_law_is_kind" (defArgs sIsKind) (defBody sIsKind) (defScope sIsKind) [] [] f fd) (T : Kinds K mg cl bs)
    (gK : mg "_law_kinds" = some (.ref fK)) (FK : FunD K "_law_kinds" "_law_kinds" (defArgs sKinds) (defBody sKinds) (defScope sKinds) [] [] fK fdK) (bK : Binds K fdK ["_law_e"] []) :
    FnOk P w K mg base CX0 2 f fd ["_law_e", "_law_k"] (spIsKind cl) := by
  have GK : FnOk P w K mg base CX0 1 fK fdK ["_law_e"] (spKinds cl) := ok_kinds FK T
  refine F.ok scIsKind (fun vs H Q E h => ?_) (fun cdv A outer s H vs Q E hr h => ?_)
  · obtain ⟨e, i, rfl, _⟩ := h
    rfl
  · obtain ⟨e, i, rfl, hi, hE, q⟩ := h
    have nd := scIsKind.nd
    refine ⟨_, PSs.nox (pss_cons (ps_cut (ps_set (i := 2) nd rfl (Or.inr rfl) (pe_ifExp (pt_cmpR op_in_seq (pv 1) (pe_lst (pa_cons pe_int (pa_cons pe_int pa_nil))) rfl) pe_int (pe_ifExp (pt_cmpR op_gt (pv 1) pe_int (nomark _)) pe_int pe_int))))
      (pss_cons (ps_set (i := 3) nd rfl (.inl rfl) (pe_lst (pa_cons (pe_callB call_isX (by rfl) T.isi PyProof.Rows.boot_isinstance (pa_cons (pv 0) (pa_cons (pe_glob (v := .ref (bs 0)) rfl T.g0 rfl) pa_nil)))
          (pa_cons (pe_callB call_isX (by rfl) T.isi PyProof.Rows.boot_isinstance (pa_cons (pv 0) (pa_cons (pe_glob (v := .ref (bs 1)) rfl T.g1 rfl) pa_nil)))
          (pa_cons (pe_callB call_isX (by rfl) T.isi PyProof.Rows.boot_isinstance (pa_cons (pv 0) (pa_cons (pe_glob (v := .ref (bs 2)) rfl T.g2 rfl) pa_nil))) pa_nil)))))
      (pss_cons (ps_set (i := 4) nd rfl (.inl rfl) (pe_lst (pa_cons (pe_callB call_isX (by rfl) T.isi PyProof.Rows.boot_isinstance (pa_cons (pv 0) (pa_cons (pe_bltn (v := .ty "ValueError") (by rfl) T.ve (by decide +kernel) rfl) pa_nil)))
          (pa_cons (pe_callB call_isX (by rfl) T.isi PyProof.Rows.boot_isinstance (pa_cons (pv 0) (pa_cons (pe_bltn (v := .ty "LookupError") (by rfl) T.le (by decide +kernel) rfl) pa_nil)))
          (pa_cons (pe_callB call_isX (by rfl) T.isi PyProof.Rows.boot_isinstance (pa_cons (pv 0) (pa_cons (pe_bltn (v := .ty "ArithmeticError") (by rfl) T.ae (by decide +kernel) rfl) pa_nil))) pa_nil)))))
      (pss_cons (ps_setLc (i := 5) (own := [("_law_j", 6)]) (g := gName 6) (tt := tYes) rfl nd rfl rfl (sw_true rfl rfl rfl (by decide +kernel)) (pi_range1 rfl T.rng (pa_cons pe_int pa_nil))
          (blkOk_by (own := [("_law_j", 6)]) (N := ["_law_e", "_law_k", "_law_own", "_law_bases", "_law_kinds_here", "_law_due", "_law_j"]) (sc := defScope sIsKind) (by decide +kernel))
          (fun _ _ _ _ _ => pg_name (i := 6) nd rfl (Or.inl rfl)) (fun _ _ _ _ _ => pts_nil) (fun _ _ _ _ _ => (pe_cmpR op_eq (pv 6) (pv 2) (nomark _))))
      (pss_one (ps_ret (pe_and (pe_cmpR (op_eqD hr.units) (pv 3) (pv 5) (nomark _)) (pe_and (pe_cmpR (op_eqD hr.units) (pv 4) (pv 5) (nomark _))
        (pe_one (pe_cmpR (op_eqD hr.units) (pe_call GK hr rfl gK FK.kp bK .nil pass0 (pa_cons (pv 0) pa_nil))
          (pe_lc (own := [("_law_j", 6)]) (g := gName 6) (tt := tYes) rfl nd (pi_range1 rfl T.rng (pa_cons pe_int pa_nil))
            (blkOk_by (own := [("_law_j", 6)]) (N := ["_law_e", "_law_k", "_law_own", "_law_bases", "_law_kinds_here", "_law_due", "_law_j"]) (sc := defScope sIsKind) (by decide +kernel))
            (fun _ _ _ _ _ => pg_name (i := 6) nd rfl (Or.inl rfl)) (fun _ _ _ _ _ => pts_nil) (fun _ _ _ _ _ => (pe_cmpR op_eq (pv 6) (pv 1) (nomark _)))) (nomark _)))))))))))
      , ?_⟩
    refine ⟨fun σ' H' => σ' = [some (.ref e), some (.int i), some (.int (ownOf i)), none, none, none, none] ∧ Same H H', ?_, ?_⟩
    · refine ⟨_, rfl, by show 2 ≤ sizeLine; decide, fun p hp => ⟨p, _, rfl, .inl (SqL.of upd_same), rfl, rfl, _, rfl, ?_⟩⟩
      rw [if_neg Bool.false_ne_true, in_two]
      refine ite2 (fun c => ?_) (fun c => ?_)
      · have c' := of_decide_eq_true c
        refine ⟨?_, Same.new hp⟩
        have eo : ownOf i = 1 := if_pos (by omega)
        rw [eo]
        rfl
      · have c' : ¬ ((i : Int) = 12 ∨ (i : Int) = 18) := fun z => c (decide_eq_true z)
        refine ⟨_, rfl, _, _, rfl, rfl, _, rfl, ite2 (fun d => ?_) (fun d => ?_)⟩
        · have d' := of_decide_eq_true d
          refine ⟨?_, Same.new hp⟩
          have eo : ownOf i = 2 := by
            unfold ownOf
            rw [if_neg (by omega), if_pos (by omega)]
          rw [eo]
          rfl
        · have d' : ¬ ((18 : Int) < (i : Int)) := fun z => d (decide_eq_true z)
          refine ⟨?_, Same.new hp⟩
          have eo : ownOf i = 0 := by
            unfold ownOf
            rw [if_neg (by omega), if_neg (by omega)]
          rw [eo]
          rfl
    · rintro σ1 H1 ⟨rfl, s1⟩
      have ho : ownOf i < 3 := by
        unfold ownOf
        split
        · omega
        · split <;> omega
      have hE1 := hE.same s1
      refine rd_isiB T 0 rfl hE1 hi (rd_isiB T 1 rfl hE1 hi (rd_isiB T 2 rfl hE1 hi ⟨len3, fun p hp => ?_⟩))
      have s2 : Same H1 (upd H1 p (.lst (kindsOf 3 (ownOf i)))) := Same.new hp
      have hE2 := hE1.same s2
      have b2 : upd H1 p (.lst (kindsOf 3 (ownOf i))) p = some (.lst (kindsOf 3 (ownOf i))) := upd_same
      rw [show ([V.bl (decide (0 = ownOf i)), V.bl (decide (1 = ownOf i)), V.bl (decide (2 = ownOf i))] : List V) = kindsOf 3 (ownOf i) from rfl]
      generalize upd H1 p (.lst (kindsOf 3 (ownOf i))) = H2 at s2 hE2 b2 ⊢
      refine rd_isiV rfl hE2 (T.ex i hi) (T.kit0 i hi) (rd_isiV rfl hE2 (T.ex i hi) (T.kit1 i hi) (rd_isiV rfl hE2 (T.ex i hi) (T.kit2 i hi) ⟨len3, fun p' hp' => ?_⟩))
      have s3 : Same H2 (upd H2 p' (.lst (kindsOf 3 (ownOf i)))) := Same.new hp'
      have hE3 := hE2.same s3
      have b3 := s3 _ _ b2
      have c3 : upd H2 p' (.lst (kindsOf 3 (ownOf i))) p' = some (.lst (kindsOf 3 (ownOf i))) := upd_same
      rw [show ([V.bl (decide (0 = ownOf i)), V.bl (decide (1 = ownOf i)), V.bl (decide (2 = ownOf i))] : List V) = kindsOf 3 (ownOf i) from rfl]
      generalize upd H2 p' (.lst (kindsOf 3 (ownOf i))) = H3 at s3 hE3 b3 c3 ⊢
      have s13 : Same H H3 := s1.trans (s2.trans s3)
      refine ⟨3, rfl, by decide, by decide, fun D hD => lc_range (lo := 0) (n := 3) (fun t H' => H' = upd H3 D (.lst (kindsOf t (ownOf i)))) rfl ?_ ?_⟩
      · rintro t H' ht rfl
        refine ⟨rfl, ?_⟩
        refine rd_yes ?_
        refine ⟨_, rfl, _, rfl, rfl, _, upd_same, ?_, ?_⟩
        · rw [kinds_len]
          exact Nat.lt_of_lt_of_le ht (by decide)
        · rw [int_nat_eq, upd_upd, kinds_more]
      · rintro H' rfl
        have s4 : Same H3 (upd H3 D (.lst (kindsOf 3 (ownOf i)))) := Same.new hD
        have hE4 := hE3.same s4
        have b4 := s4 _ _ b3
        have c4 := s4 _ _ c3
        have d4 : upd H3 D (.lst (kindsOf 3 (ownOf i))) D = some (.lst (kindsOf 3 (ownOf i))) := upd_same
        generalize upd H3 D (.lst (kindsOf 3 (ownOf i))) = H4 at s4 hE4 b4 c4 d4 ⊢
        have s14 := s13.trans s4
        have eq3 : ∀ b : Nat, PyData.eqv (.list (((List.range 3).map fun j => decide (j = b)).map PyData.bool)) (.list (((List.range 3).map fun j => decide (j = b)).map PyData.bool)) = true := fun b => SeqAt.eqv_refl _ rfl
        refine ⟨_, rfl, _, rfl, _, _, dp_kinds b4, dp_kinds d4, rfl, rfl, _, rfl, ?_⟩
        rw [eq3]
        refine iteT ⟨_, rfl, _, rfl, _, _, dp_kinds c4, dp_kinds d4, rfl, rfl, _, rfl, ?_⟩
        rw [eq3]
        refine iteT ⟨_, rfl, e, i, rfl, hi, hE4, fun H5 l hl s5 l5 => ?_⟩
        refine ⟨23, rfl, by decide, by decide, fun D' hD' => lc_range (lo := 0) (n := 23) (fun t H' => H' = upd H5 D' (.lst (kindsOf t i))) rfl ?_ ?_⟩
        · rintro t H' ht rfl
          refine ⟨rfl, ?_⟩
          refine rd_yes ?_
          refine ⟨_, rfl, _, rfl, rfl, _, upd_same, ?_, ?_⟩
          · rw [kinds_len]
            exact Nat.lt_of_lt_of_le ht (by decide)
          · rw [int_nat_eq, upd_upd, kinds_more]
        · rintro H' rfl
          have s6 : Same H5 (upd H5 D' (.lst (kindsOf 23 i))) := Same.new hD'
          refine ⟨_, _, dp_kinds (s6 _ _ l5), dp_kinds upd_same, rfl, rfl, ?_⟩
          rw [show PyData.eqv (.list (((List.range 23).map fun j => decide (j = i)).map PyData.bool)) (.list (((List.range 23).map fun j => decide (j = i)).map PyData.bool)) = true from SeqAt.eqv_refl _ rfl]
          exact q _ (s14.trans (s5.trans s6))
end
end Ca
set_option Elab.async false
set_option linter.all false
set_option maxRecDepth 100000
set_option maxHeartbeats 8000000
namespace Ca
open PySem L2
/-- all that is wanted of an own error class with an __init__ that keeps one field -/
structure Mkr (P : Program) (w : World) (K : PySem.W.Frag) (mg : Str → Option Value) (base : Heap) (C : Addr) (f : Str) : Prop where
  ex : ∃ (B newId initId : String) (bmB : List Value) (fI : Addr) (fd : FuncData), ExcBaseFacts B newId initId bmB ∧ MkC K C fI bmB newId ∧ StoC K C bmB f ∧ FnOk P w K mg base CX0 1 fI fd ["self", f] (spIni K bmB f) ∧ Binds K fd ["self", f] [] ∧
    ∀ (s : Shared) (e z : Value), BindsTo s fd ⟨[e], [(f, z)]⟩ [("self", e), (f, z)]
section
variable {X : Cx} {C : Addr} {f x : Str}
theorem pe_m {e : Expr} {ta : TA} {p pos : Pos} (M : Mkr X.prog X.w X.K X.mg X.base C f) (hr : Room 2 X.A) (hm : X.mg x = some (.ref C)) (ha : PA X [e] ta) (hg : Gl X x := by rfl) (hdb : (x == ("__debug__" : Str)) = false := by decide)
    (hs : starEach (e :: []) X.env = (false, eval e X.env) :: starEach [] X.env := by rfl) (hpl : (backTo pos (starEach [] X.env)).any (·.1) = false := by rfl) : PE X (.Call (.Name x p) [e] [] pos) (tMkC C f ta) := by
  obtain ⟨B, newId, initId, bmB, fI, fd, h1, h2, h3, h4, h5, h6⟩ := M.ex
  exact pe_mkC h1 h2 h3 h4 hr h5 hm ha hg hdb hs hpl
theorem pe_k {kws : List Keyword} {ta : TA} {p pos : Pos} (M : Mkr X.prog X.w X.K X.mg X.base C f) (hr : Room 2 X.A) (hm : X.mg x = some (.ref C)) (hk : PK X kws ta) (hg : Gl X x := by rfl) (hdb : (x == ("__debug__" : Str)) = false := by decide)
    (hall : (backToKw pos (keywordEach kws X.env)).all (·.1.isSome) = true := by rfl) (hks : (backToKw pos (keywordEach kws X.env)).filterMap (·.1) = [f] := by rfl)
    (hpl : ((backTo pos (starEach [] X.env)).any (·.1) || (backToKw pos (keywordEach kws X.env)).any (·.1.isNone)) = false := by rfl) : PE X (.Call (.Name x p) [] kws pos) (tMkC C f ta) := by
  obtain ⟨B, newId, initId, bmB, fI, fd, h1, h2, h3, h4, h5, h6⟩ := M.ex
  exact pe_mkK h1 h2 h3 h4 hr h6 hm hk hg hdb hall hks hpl
end
/-- errors of the classes from the o-th on, two of each, their fields holding v -/
def Made (cl : Nat → Addr) (o : Nat) (f : Str) (v : V) (H : Hp) (a : Nat) (xs : List V) : Prop := ∀ k x, xs[k]? = some x → ∃ e, x = .ref e ∧ Exc H e (cl (o + (a + k) / 2)) f v
section
variable {cl : Nat → Addr} {o : Nat} {f : Str} {v : V} {H H' : Hp} {a : Nat} {xs ys : List V}
theorem Made.same (m : Made cl o f v H a xs) (s : Same H H') : Made cl o f v H' a xs := fun k x h => by
  obtain ⟨e, he, x'⟩ := m k x h
  exact ⟨e, he, x'.same s⟩
theorem Made.nil : Made cl o f v H a [] := fun k x h => by cases h
theorem Made.cons {e : Addr} (h : Exc H e (cl (o + a / 2)) f v) (m : Made cl o f v H (a + 1) xs) : Made cl o f v H a (.ref e :: xs) := fun k x hx => by
  cases k with
  | zero =>
    cases hx
    exact ⟨e, rfl, h⟩
  | succ k =>
    obtain ⟨e', h1, h2⟩ := m k x hx
    refine ⟨e', h1, ?_⟩
    rw [show a + (k + 1) = a + 1 + k by omega]
    exact h2
theorem Made.app {n : Nat} (m : Made cl o f v H a xs) (hn : xs.length = n) (m' : Made cl o f v H (a + n) ys) : Made cl o f v H a (xs ++ ys) := fun k x h => by
  by_cases hk : k < xs.length
  · rw [List.getElem?_append_left hk] at h
    exact m k x h
  · have hk' : xs.length ≤ k := Nat.le_of_not_lt hk
    rw [List.getElem?_append_right hk'] at h
    obtain ⟨e, h1, h2⟩ := m' _ x h
    refine ⟨e, h1, ?_⟩
    rw [show a + k = a + n + (k - xs.length) by omega]
    exact h2
end
def spMade (cl : Nat → Addr) (o n : Nat) (f : Str) : Sp := fun vs H Q _ => ∃ v : V, vs = [v] ∧ ∀ H' p xs, H p = none → Same H H' → H' p = some (.lst xs) → xs.length = n → Made cl o f v H' 0 xs → Q (.ref p) H'
abbrev sFirsts : Stmt := top 39
abbrev sSeconds : Stmt := top 40
section
variable {P : Program} {w : World} {K : PySem.W.Frag} {mg : Str → Option Value} {base : Heap} {cl bs : Nat → Addr}
theorem scFirsts : FnScope ["_law_thing", "_law_found"] ["_law_thing"] (defScope sFirsts) := ⟨rfl, rfl, rfl, by decide +kernel, rfl, by decide +kernel, by decide +kernel⟩
theorem ok_firsts {fa : Addr} {fd : FuncData} (F : FunD K "_law_firsts" "_law_firsts" (defArgs sFirsts) (defBody sFirsts) (defScope sFirsts) [] [] fa fd) (T : Kinds K mg cl bs) (M : ∀ j, 0 ≤ j → j < 13 → Mkr P w K mg base (cl j) "given") :
    FnOk P w K mg base CX0 3 fa fd ["_law_thing"] (spMade cl 0 26 "given") := by
  refine F.ok scFirsts (fun vs H Q E h => ?_) (fun cdv A outer s H vs Q E hr h => ?_)
  · obtain ⟨v, rfl, _⟩ := h
    rfl
  · obtain ⟨v, rfl, q⟩ := h
    have nd := scFirsts.nd
    refine ⟨_, PSs.nox (pss_cons (ps_set (i := 1) nd rfl (.inl rfl) (pe_lst (pa_cons (pe_m (M 0 (by decide) (by decide)) hr (show mg "InvalidText" = some (.ref (cl 0)) from T.g 0 (by decide)) (pa_cons (pv 0) pa_nil)) (pa_cons (pe_k (M 0 (by decide) (by decide)) hr (show mg "InvalidText" = some (.ref (cl 0)) from T.g 0 (by decide)) (pk_cons (pv 0) pk_nil)) (pa_cons (pe_m (M 1 (by decide) (by decide)) hr (show mg "InvalidName" = some (.ref (cl 1)) from T.g 1 (by decide)) (pa_cons (pv 0) pa_nil)) (pa_cons (pe_k (M 1 (by decide) (by decide)) hr (show mg "InvalidName" = some (.ref (cl 1)) from T.g 1 (by decide)) (pk_cons (pv 0) pk_nil)) pa_nil)))))) (
      pss_cons (ps_set (i := 1) nd rfl (.inl rfl) (pe_op op_cat (pv 1) (pe_lst (pa_cons (pe_m (M 2 (by decide) (by decide)) hr (show mg "InvalidAnswer" = some (.ref (cl 2)) from T.g 2 (by decide)) (pa_cons (pv 0) pa_nil)) (pa_cons (pe_k (M 2 (by decide) (by decide)) hr (show mg "InvalidAnswer" = some (.ref (cl 2)) from T.g 2 (by decide)) (pk_cons (pv 0) pk_nil)) pa_nil))))) (
      pss_cons (ps_set (i := 1) nd rfl (.inl rfl) (pe_op op_cat (pv 1) (pe_lst (pa_cons (pe_m (M 3 (by decide) (by decide)) hr (show mg "InvalidCosts" = some (.ref (cl 3)) from T.g 3 (by decide)) (pa_cons (pv 0) pa_nil)) (pa_cons (pe_k (M 3 (by decide) (by decide)) hr (show mg "InvalidCosts" = some (.ref (cl 3)) from T.g 3 (by decide)) (pk_cons (pv 0) pk_nil)) pa_nil))))) (
      pss_cons (ps_set (i := 1) nd rfl (.inl rfl) (pe_op op_cat (pv 1) (pe_lst (pa_cons (pe_m (M 4 (by decide) (by decide)) hr (show mg "InvalidSteps" = some (.ref (cl 4)) from T.g 4 (by decide)) (pa_cons (pv 0) pa_nil)) (pa_cons (pe_k (M 4 (by decide) (by decide)) hr (show mg "InvalidSteps" = some (.ref (cl 4)) from T.g 4 (by decide)) (pk_cons (pv 0) pk_nil)) (pa_cons (pe_m (M 5 (by decide) (by decide)) hr (show mg "InvalidIndex" = some (.ref (cl 5)) from T.g 5 (by decide)) (pa_cons (pv 0) pa_nil)) (pa_cons (pe_k (M 5 (by decide) (by decide)) hr (show mg "InvalidIndex" = some (.ref (cl 5)) from T.g 5 (by decide)) (pk_cons (pv 0) pk_nil)) pa_nil))))))) (
      pss_cons (ps_set (i := 1) nd rfl (.inl rfl) (pe_op op_cat (pv 1) (pe_lst (pa_cons (pe_m (M 6 (by decide) (by decide)) hr (show mg "InvalidRow" = some (.ref (cl 6)) from T.g 6 (by decide)) (pa_cons (pv 0) pa_nil)) (pa_cons (pe_k (M 6 (by decide) (by decide)) hr (show mg "InvalidRow" = some (.ref (cl 6)) from T.g 6 (by decide)) (pk_cons (pv 0) pk_nil)) (pa_cons (pe_m (M 7 (by decide) (by decide)) hr (show mg "InvalidStretch" = some (.ref (cl 7)) from T.g 7 (by decide)) (pa_cons (pv 0) pa_nil)) (pa_cons (pe_k (M 7 (by decide) (by decide)) hr (show mg "InvalidStretch" = some (.ref (cl 7)) from T.g 7 (by decide)) (pk_cons (pv 0) pk_nil)) pa_nil))))))) (
      pss_cons (ps_set (i := 1) nd rfl (.inl rfl) (pe_op op_cat (pv 1) (pe_lst (pa_cons (pe_m (M 8 (by decide) (by decide)) hr (show mg "InvalidChange" = some (.ref (cl 8)) from T.g 8 (by decide)) (pa_cons (pv 0) pa_nil)) (pa_cons (pe_k (M 8 (by decide) (by decide)) hr (show mg "InvalidChange" = some (.ref (cl 8)) from T.g 8 (by decide)) (pk_cons (pv 0) pk_nil)) pa_nil))))) (
      pss_cons (ps_set (i := 1) nd rfl (.inl rfl) (pe_op op_cat (pv 1) (pe_lst (pa_cons (pe_m (M 9 (by decide) (by decide)) hr (show mg "InvalidDemand" = some (.ref (cl 9)) from T.g 9 (by decide)) (pa_cons (pv 0) pa_nil)) (pa_cons (pe_k (M 9 (by decide) (by decide)) hr (show mg "InvalidDemand" = some (.ref (cl 9)) from T.g 9 (by decide)) (pk_cons (pv 0) pk_nil)) pa_nil))))) (
      pss_cons (ps_set (i := 1) nd rfl (.inl rfl) (pe_op op_cat (pv 1) (pe_lst (pa_cons (pe_m (M 10 (by decide) (by decide)) hr (show mg "NotASystem" = some (.ref (cl 10)) from T.g 10 (by decide)) (pa_cons (pv 0) pa_nil)) (pa_cons (pe_k (M 10 (by decide) (by decide)) hr (show mg "NotASystem" = some (.ref (cl 10)) from T.g 10 (by decide)) (pk_cons (pv 0) pk_nil)) (pa_cons (pe_m (M 11 (by decide) (by decide)) hr (show mg "OtherUnknowns" = some (.ref (cl 11)) from T.g 11 (by decide)) (pa_cons (pv 0) pa_nil)) (pa_cons (pe_k (M 11 (by decide) (by decide)) hr (show mg "OtherUnknowns" = some (.ref (cl 11)) from T.g 11 (by decide)) (pk_cons (pv 0) pk_nil)) pa_nil))))))) (
      pss_one (ps_ret (pe_op op_cat (pv 1) (pe_lst (pa_cons (pe_m (M 12 (by decide) (by decide)) hr (show mg "UnknownName" = some (.ref (cl 12)) from T.g 12 (by decide)) (pa_cons (pv 0) pa_nil)) (pa_cons (pe_k (M 12 (by decide) (by decide)) hr (show mg "UnknownName" = some (.ref (cl 12)) from T.g 12 (by decide)) (pk_cons (pv 0) pk_nil)) pa_nil)))))))))))))), ?_⟩
    refine ⟨_, rfl, v, rfl, fun e0_0 H0_0 n0_0 s0_0 x0_0 => ⟨_, rfl, v, rfl, fun e0_1 H0_1 n0_1 s0_1 x0_1 => ⟨_, rfl, v, rfl, fun e0_2 H0_2 n0_2 s0_2 x0_2 => ⟨_, rfl, v, rfl, fun e0_3 H0_3 n0_3 s0_3 x0_3 => ⟨by show 4 ≤ sizeLine; decide, fun p0 hp0 => ?_⟩⟩⟩⟩⟩
    have a0 : Same H H0_3 := (((s0_0).trans s0_1).trans s0_2).trans s0_3
    have m0 : Made cl 0 "given" v H0_3 0 [V.ref e0_0, V.ref e0_1, V.ref e0_2, V.ref e0_3] := Made.cons ((((x0_0).same s0_1).same s0_2).same s0_3) (Made.cons (((x0_1).same s0_2).same s0_3) (Made.cons ((x0_2).same s0_3) (Made.cons (x0_3) (Made.nil))))
    have b0 : Same H0_3 (upd H0_3 p0 (.lst [V.ref e0_0, V.ref e0_1, V.ref e0_2, V.ref e0_3])) := Same.new hp0
    have l0 : upd H0_3 p0 (.lst [V.ref e0_0, V.ref e0_1, V.ref e0_2, V.ref e0_3]) p0 = some (.lst [V.ref e0_0, V.ref e0_1, V.ref e0_2, V.ref e0_3]) := upd_same
    have t0 : Same H (upd H0_3 p0 (.lst [V.ref e0_0, V.ref e0_1, V.ref e0_2, V.ref e0_3])) := a0.trans b0
    have k0 := m0.same b0
    have z0 : ([V.ref e0_0, V.ref e0_1, V.ref e0_2, V.ref e0_3] : List V).length = 4 := rfl
    generalize upd H0_3 p0 (.lst [V.ref e0_0, V.ref e0_1, V.ref e0_2, V.ref e0_3]) = G0 at l0 t0 k0 ⊢
    generalize ([V.ref e0_0, V.ref e0_1, V.ref e0_2, V.ref e0_3] : List V) = xs0 at l0 k0 z0 ⊢
    refine ⟨_, rfl, ?_⟩
    refine ⟨_, rfl, v, rfl, fun e1_0 H1_0 n1_0 s1_0 x1_0 => ⟨_, rfl, v, rfl, fun e1_1 H1_1 n1_1 s1_1 x1_1 => ⟨by show 2 ≤ sizeLine; decide, fun p1 hp1 => ?_⟩⟩⟩
    have a1 : Same G0 H1_1 := (s1_0).trans s1_1
    have m1 : Made cl 0 "given" v H1_1 4 [V.ref e1_0, V.ref e1_1] := Made.cons ((x1_0).same s1_1) (Made.cons (x1_1) (Made.nil))
    have b1 : Same H1_1 (upd H1_1 p1 (.lst [V.ref e1_0, V.ref e1_1])) := Same.new hp1
    refine rd_cat (xs := xs0) (b1 _ _ (a1 _ _ l0)) upd_same (by rw [z0]; show 6 ≤ 1000; decide) (fun q1 hq1 => ?_)
    have c1 : Same (upd H1_1 p1 (.lst [V.ref e1_0, V.ref e1_1])) (upd (upd H1_1 p1 (.lst [V.ref e1_0, V.ref e1_1])) q1 (.lst (xs0 ++ [V.ref e1_0, V.ref e1_1]))) := Same.new hq1
    have d1 : Same G0 (upd (upd H1_1 p1 (.lst [V.ref e1_0, V.ref e1_1])) q1 (.lst (xs0 ++ [V.ref e1_0, V.ref e1_1]))) := (a1.trans b1).trans c1
    have t1 : Same H (upd (upd H1_1 p1 (.lst [V.ref e1_0, V.ref e1_1])) q1 (.lst (xs0 ++ [V.ref e1_0, V.ref e1_1]))) := t0.trans d1
    have k1 := (k0.same d1).app z0 ((m1.same b1).same c1)
    have z1 : (xs0 ++ [V.ref e1_0, V.ref e1_1]).length = 6 := by rw [List.length_append, z0]; rfl
    have l1 : (upd (upd H1_1 p1 (.lst [V.ref e1_0, V.ref e1_1])) q1 (.lst (xs0 ++ [V.ref e1_0, V.ref e1_1]))) q1 = some (.lst (xs0 ++ [V.ref e1_0, V.ref e1_1])) := upd_same
    generalize upd (upd H1_1 p1 (.lst [V.ref e1_0, V.ref e1_1])) q1 (.lst (xs0 ++ [V.ref e1_0, V.ref e1_1])) = G1 at l1 t1 k1 ⊢
    generalize xs0 ++ [V.ref e1_0, V.ref e1_1] = xs1 at l1 k1 z1 ⊢
    refine ⟨_, rfl, ?_⟩
    refine ⟨_, rfl, v, rfl, fun e2_0 H2_0 n2_0 s2_0 x2_0 => ⟨_, rfl, v, rfl, fun e2_1 H2_1 n2_1 s2_1 x2_1 => ⟨by show 2 ≤ sizeLine; decide, fun p2 hp2 => ?_⟩⟩⟩
    have a2 : Same G1 H2_1 := (s2_0).trans s2_1
    have m2 : Made cl 0 "given" v H2_1 6 [V.ref e2_0, V.ref e2_1] := Made.cons ((x2_0).same s2_1) (Made.cons (x2_1) (Made.nil))
    have b2 : Same H2_1 (upd H2_1 p2 (.lst [V.ref e2_0, V.ref e2_1])) := Same.new hp2
    refine rd_cat (xs := xs1) (b2 _ _ (a2 _ _ l1)) upd_same (by rw [z1]; show 8 ≤ 1000; decide) (fun q2 hq2 => ?_)
    have c2 : Same (upd H2_1 p2 (.lst [V.ref e2_0, V.ref e2_1])) (upd (upd H2_1 p2 (.lst [V.ref e2_0, V.ref e2_1])) q2 (.lst (xs1 ++ [V.ref e2_0, V.ref e2_1]))) := Same.new hq2
    have d2 : Same G1 (upd (upd H2_1 p2 (.lst [V.ref e2_0, V.ref e2_1])) q2 (.lst (xs1 ++ [V.ref e2_0, V.ref e2_1]))) := (a2.trans b2).trans c2
    have t2 : Same H (upd (upd H2_1 p2 (.lst [V.ref e2_0, V.ref e2_1])) q2 (.lst (xs1 ++ [V.ref e2_0, V.ref e2_1]))) := t1.trans d2
    have k2 := (k1.same d2).app z1 ((m2.same b2).same c2)
    have z2 : (xs1 ++ [V.ref e2_0, V.ref e2_1]).length = 8 := by rw [List.length_append, z1]; rfl
    have l2 : (upd (upd H2_1 p2 (.lst [V.ref e2_0, V.ref e2_1])) q2 (.lst (xs1 ++ [V.ref e2_0, V.ref e2_1]))) q2 = some (.lst (xs1 ++ [V.ref e2_0, V.ref e2_1])) := upd_same
    generalize upd (upd H2_1 p2 (.lst [V.ref e2_0, V.ref e2_1])) q2 (.lst (xs1 ++ [V.ref e2_0, V.ref e2_1])) = G2 at l2 t2 k2 ⊢
    generalize xs1 ++ [V.ref e2_0, V.ref e2_1] = xs2 at l2 k2 z2 ⊢
    refine ⟨_, rfl, ?_⟩
    refine ⟨_, rfl, v, rfl, fun e3_0 H3_0 n3_0 s3_0 x3_0 => ⟨_, rfl, v, rfl, fun e3_1 H3_1 n3_1 s3_1 x3_1 => ⟨_, rfl, v, rfl, fun e3_2 H3_2 n3_2 s3_2 x3_2 => ⟨_, rfl, v, rfl, fun e3_3 H3_3 n3_3 s3_3 x3_3 => ⟨by show 4 ≤ sizeLine; decide, fun p3 hp3 => ?_⟩⟩⟩⟩⟩
    have a3 : Same G2 H3_3 := (((s3_0).trans s3_1).trans s3_2).trans s3_3
    have m3 : Made cl 0 "given" v H3_3 8 [V.ref e3_0, V.ref e3_1, V.ref e3_2, V.ref e3_3] := Made.cons ((((x3_0).same s3_1).same s3_2).same s3_3) (Made.cons (((x3_1).same s3_2).same s3_3) (Made.cons ((x3_2).same s3_3) (Made.cons (x3_3) (Made.nil))))
    have b3 : Same H3_3 (upd H3_3 p3 (.lst [V.ref e3_0, V.ref e3_1, V.ref e3_2, V.ref e3_3])) := Same.new hp3
    refine rd_cat (xs := xs2) (b3 _ _ (a3 _ _ l2)) upd_same (by rw [z2]; show 12 ≤ 1000; decide) (fun q3 hq3 => ?_)
    have c3 : Same (upd H3_3 p3 (.lst [V.ref e3_0, V.ref e3_1, V.ref e3_2, V.ref e3_3])) (upd (upd H3_3 p3 (.lst [V.ref e3_0, V.ref e3_1, V.ref e3_2, V.ref e3_3])) q3 (.lst (xs2 ++ [V.ref e3_0, V.ref e3_1, V.ref e3_2, V.ref e3_3]))) := Same.new hq3
    have d3 : Same G2 (upd (upd H3_3 p3 (.lst [V.ref e3_0, V.ref e3_1, V.ref e3_2, V.ref e3_3])) q3 (.lst (xs2 ++ [V.ref e3_0, V.ref e3_1, V.ref e3_2, V.ref e3_3]))) := (a3.trans b3).trans c3
    have t3 : Same H (upd (upd H3_3 p3 (.lst [V.ref e3_0, V.ref e3_1, V.ref e3_2, V.ref e3_3])) q3 (.lst (xs2 ++ [V.ref e3_0, V.ref e3_1, V.ref e3_2, V.ref e3_3]))) := t2.trans d3
    have k3 := (k2.same d3).app z2 ((m3.same b3).same c3)
    have z3 : (xs2 ++ [V.ref e3_0, V.ref e3_1, V.ref e3_2, V.ref e3_3]).length = 12 := by rw [List.length_append, z2]; rfl
    have l3 : (upd (upd H3_3 p3 (.lst [V.ref e3_0, V.ref e3_1, V.ref e3_2, V.ref e3_3])) q3 (.lst (xs2 ++ [V.ref e3_0, V.ref e3_1, V.ref e3_2, V.ref e3_3]))) q3 = some (.lst (xs2 ++ [V.ref e3_0, V.ref e3_1, V.ref e3_2, V.ref e3_3])) := upd_same
    generalize upd (upd H3_3 p3 (.lst [V.ref e3_0, V.ref e3_1, V.ref e3_2, V.ref e3_3])) q3 (.lst (xs2 ++ [V.ref e3_0, V.ref e3_1, V.ref e3_2, V.ref e3_3])) = G3 at l3 t3 k3 ⊢
    generalize xs2 ++ [V.ref e3_0, V.ref e3_1, V.ref e3_2, V.ref e3_3] = xs3 at l3 k3 z3 ⊢
    refine ⟨_, rfl, ?_⟩
    refine ⟨_, rfl, v, rfl, fun e4_0 H4_0 n4_0 s4_0 x4_0 => ⟨_, rfl, v, rfl, fun e4_1 H4_1 n4_1 s4_1 x4_1 => ⟨_, rfl, v, rfl, fun e4_2 H4_2 n4_2 s4_2 x4_2 => ⟨_, rfl, v, rfl, fun e4_3 H4_3 n4_3 s4_3 x4_3 => ⟨by show 4 ≤ sizeLine; decide, fun p4 hp4 => ?_⟩⟩⟩⟩⟩
    have a4 : Same G3 H4_3 := (((s4_0).trans s4_1).trans s4_2).trans s4_3
    have m4 : Made cl 0 "given" v H4_3 12 [V.ref e4_0, V.ref e4_1, V.ref e4_2, V.ref e4_3] := Made.cons ((((x4_0).same s4_1).same s4_2).same s4_3) (Made.cons (((x4_1).same s4_2).same s4_3) (Made.cons ((x4_2).same s4_3) (Made.cons (x4_3) (Made.nil))))
    have b4 : Same H4_3 (upd H4_3 p4 (.lst [V.ref e4_0, V.ref e4_1, V.ref e4_2, V.ref e4_3])) := Same.new hp4
    refine rd_cat (xs := xs3) (b4 _ _ (a4 _ _ l3)) upd_same (by rw [z3]; show 16 ≤ 1000; decide) (fun q4 hq4 => ?_)
    have c4 : Same (upd H4_3 p4 (.lst [V.ref e4_0, V.ref e4_1, V.ref e4_2, V.ref e4_3])) (upd (upd H4_3 p4 (.lst [V.ref e4_0, V.ref e4_1, V.ref e4_2, V.ref e4_3])) q4 (.lst (xs3 ++ [V.ref e4_0, V.ref e4_1, V.ref e4_2, V.ref e4_3]))) := Same.new hq4
    have d4 : Same G3 (upd (upd H4_3 p4 (.lst [V.ref e4_0, V.ref e4_1, V.ref e4_2, V.ref e4_3])) q4 (.lst (xs3 ++ [V.ref e4_0, V.ref e4_1, V.ref e4_2, V.ref e4_3]))) := (a4.trans b4).trans c4
    have t4 : Same H (upd (upd H4_3 p4 (.lst [V.ref e4_0, V.ref e4_1, V.ref e4_2, V.ref e4_3])) q4 (.lst (xs3 ++ [V.ref e4_0, V.ref e4_1, V.ref e4_2, V.ref e4_3]))) := t3.trans d4
    have k4 := (k3.same d4).app z3 ((m4.same b4).same c4)
    have z4 : (xs3 ++ [V.ref e4_0, V.ref e4_1, V.ref e4_2, V.ref e4_3]).length = 16 := by rw [List.length_append, z3]; rfl
    have l4 : (upd (upd H4_3 p4 (.lst [V.ref e4_0, V.ref e4_1, V.ref e4_2, V.ref e4_3])) q4 (.lst (xs3 ++ [V.ref e4_0, V.ref e4_1, V.ref e4_2, V.ref e4_3]))) q4 = some (.lst (xs3 ++ [V.ref e4_0, V.ref e4_1, V.ref e4_2, V.ref e4_3])) := upd_same
    generalize upd (upd H4_3 p4 (.lst [V.ref e4_0, V.ref e4_1, V.ref e4_2, V.ref e4_3])) q4 (.lst (xs3 ++ [V.ref e4_0, V.ref e4_1, V.ref e4_2, V.ref e4_3])) = G4 at l4 t4 k4 ⊢
    generalize xs3 ++ [V.ref e4_0, V.ref e4_1, V.ref e4_2, V.ref e4_3] = xs4 at l4 k4 z4 ⊢
    refine ⟨_, rfl, ?_⟩
    refine ⟨_, rfl, v, rfl, fun e5_0 H5_0 n5_0 s5_0 x5_0 => ⟨_, rfl, v, rfl, fun e5_1 H5_1 n5_1 s5_1 x5_1 => ⟨by show 2 ≤ sizeLine; decide, fun p5 hp5 => ?_⟩⟩⟩
    have a5 : Same G4 H5_1 := (s5_0).trans s5_1
    have m5 : Made cl 0 "given" v H5_1 16 [V.ref e5_0, V.ref e5_1] := Made.cons ((x5_0).same s5_1) (Made.cons (x5_1) (Made.nil))
    have b5 : Same H5_1 (upd H5_1 p5 (.lst [V.ref e5_0, V.ref e5_1])) := Same.new hp5
    refine rd_cat (xs := xs4) (b5 _ _ (a5 _ _ l4)) upd_same (by rw [z4]; show 18 ≤ 1000; decide) (fun q5 hq5 => ?_)
    have c5 : Same (upd H5_1 p5 (.lst [V.ref e5_0, V.ref e5_1])) (upd (upd H5_1 p5 (.lst [V.ref e5_0, V.ref e5_1])) q5 (.lst (xs4 ++ [V.ref e5_0, V.ref e5_1]))) := Same.new hq5
    have d5 : Same G4 (upd (upd H5_1 p5 (.lst [V.ref e5_0, V.ref e5_1])) q5 (.lst (xs4 ++ [V.ref e5_0, V.ref e5_1]))) := (a5.trans b5).trans c5
    have t5 : Same H (upd (upd H5_1 p5 (.lst [V.ref e5_0, V.ref e5_1])) q5 (.lst (xs4 ++ [V.ref e5_0, V.ref e5_1]))) := t4.trans d5
    have k5 := (k4.same d5).app z4 ((m5.same b5).same c5)
    have z5 : (xs4 ++ [V.ref e5_0, V.ref e5_1]).length = 18 := by rw [List.length_append, z4]; rfl
    have l5 : (upd (upd H5_1 p5 (.lst [V.ref e5_0, V.ref e5_1])) q5 (.lst (xs4 ++ [V.ref e5_0, V.ref e5_1]))) q5 = some (.lst (xs4 ++ [V.ref e5_0, V.ref e5_1])) := upd_same
    generalize upd (upd H5_1 p5 (.lst [V.ref e5_0, V.ref e5_1])) q5 (.lst (xs4 ++ [V.ref e5_0, V.ref e5_1])) = G5 at l5 t5 k5 ⊢
    generalize xs4 ++ [V.ref e5_0, V.ref e5_1] = xs5 at l5 k5 z5 ⊢
    refine ⟨_, rfl, ?_⟩
    refine ⟨_, rfl, v, rfl, fun e6_0 H6_0 n6_0 s6_0 x6_0 => ⟨_, rfl, v, rfl, fun e6_1 H6_1 n6_1 s6_1 x6_1 => ⟨by show 2 ≤ sizeLine; decide, fun p6 hp6 => ?_⟩⟩⟩
    have a6 : Same G5 H6_1 := (s6_0).trans s6_1
    have m6 : Made cl 0 "given" v H6_1 18 [V.ref e6_0, V.ref e6_1] := Made.cons ((x6_0).same s6_1) (Made.cons (x6_1) (Made.nil))
    have b6 : Same H6_1 (upd H6_1 p6 (.lst [V.ref e6_0, V.ref e6_1])) := Same.new hp6
    refine rd_cat (xs := xs5) (b6 _ _ (a6 _ _ l5)) upd_same (by rw [z5]; show 20 ≤ 1000; decide) (fun q6 hq6 => ?_)
    have c6 : Same (upd H6_1 p6 (.lst [V.ref e6_0, V.ref e6_1])) (upd (upd H6_1 p6 (.lst [V.ref e6_0, V.ref e6_1])) q6 (.lst (xs5 ++ [V.ref e6_0, V.ref e6_1]))) := Same.new hq6
    have d6 : Same G5 (upd (upd H6_1 p6 (.lst [V.ref e6_0, V.ref e6_1])) q6 (.lst (xs5 ++ [V.ref e6_0, V.ref e6_1]))) := (a6.trans b6).trans c6
    have t6 : Same H (upd (upd H6_1 p6 (.lst [V.ref e6_0, V.ref e6_1])) q6 (.lst (xs5 ++ [V.ref e6_0, V.ref e6_1]))) := t5.trans d6
    have k6 := (k5.same d6).app z5 ((m6.same b6).same c6)
    have z6 : (xs5 ++ [V.ref e6_0, V.ref e6_1]).length = 20 := by rw [List.length_append, z5]; rfl
    have l6 : (upd (upd H6_1 p6 (.lst [V.ref e6_0, V.ref e6_1])) q6 (.lst (xs5 ++ [V.ref e6_0, V.ref e6_1]))) q6 = some (.lst (xs5 ++ [V.ref e6_0, V.ref e6_1])) := upd_same
    generalize upd (upd H6_1 p6 (.lst [V.ref e6_0, V.ref e6_1])) q6 (.lst (xs5 ++ [V.ref e6_0, V.ref e6_1])) = G6 at l6 t6 k6 ⊢
    generalize xs5 ++ [V.ref e6_0, V.ref e6_1] = xs6 at l6 k6 z6 ⊢
    refine ⟨_, rfl, ?_⟩
    refine ⟨_, rfl, v, rfl, fun e7_0 H7_0 n7_0 s7_0 x7_0 => ⟨_, rfl, v, rfl, fun e7_1 H7_1 n7_1 s7_1 x7_1 => ⟨_, rfl, v, rfl, fun e7_2 H7_2 n7_2 s7_2 x7_2 => ⟨_, rfl, v, rfl, fun e7_3 H7_3 n7_3 s7_3 x7_3 => ⟨by show 4 ≤ sizeLine; decide, fun p7 hp7 => ?_⟩⟩⟩⟩⟩
    have a7 : Same G6 H7_3 := (((s7_0).trans s7_1).trans s7_2).trans s7_3
    have m7 : Made cl 0 "given" v H7_3 20 [V.ref e7_0, V.ref e7_1, V.ref e7_2, V.ref e7_3] := Made.cons ((((x7_0).same s7_1).same s7_2).same s7_3) (Made.cons (((x7_1).same s7_2).same s7_3) (Made.cons ((x7_2).same s7_3) (Made.cons (x7_3) (Made.nil))))
    have b7 : Same H7_3 (upd H7_3 p7 (.lst [V.ref e7_0, V.ref e7_1, V.ref e7_2, V.ref e7_3])) := Same.new hp7
    refine rd_cat (xs := xs6) (b7 _ _ (a7 _ _ l6)) upd_same (by rw [z6]; show 24 ≤ 1000; decide) (fun q7 hq7 => ?_)
    have c7 : Same (upd H7_3 p7 (.lst [V.ref e7_0, V.ref e7_1, V.ref e7_2, V.ref e7_3])) (upd (upd H7_3 p7 (.lst [V.ref e7_0, V.ref e7_1, V.ref e7_2, V.ref e7_3])) q7 (.lst (xs6 ++ [V.ref e7_0, V.ref e7_1, V.ref e7_2, V.ref e7_3]))) := Same.new hq7
    have d7 : Same G6 (upd (upd H7_3 p7 (.lst [V.ref e7_0, V.ref e7_1, V.ref e7_2, V.ref e7_3])) q7 (.lst (xs6 ++ [V.ref e7_0, V.ref e7_1, V.ref e7_2, V.ref e7_3]))) := (a7.trans b7).trans c7
    have t7 : Same H (upd (upd H7_3 p7 (.lst [V.ref e7_0, V.ref e7_1, V.ref e7_2, V.ref e7_3])) q7 (.lst (xs6 ++ [V.ref e7_0, V.ref e7_1, V.ref e7_2, V.ref e7_3]))) := t6.trans d7
    have k7 := (k6.same d7).app z6 ((m7.same b7).same c7)
    have z7 : (xs6 ++ [V.ref e7_0, V.ref e7_1, V.ref e7_2, V.ref e7_3]).length = 24 := by rw [List.length_append, z6]; rfl
    have l7 : (upd (upd H7_3 p7 (.lst [V.ref e7_0, V.ref e7_1, V.ref e7_2, V.ref e7_3])) q7 (.lst (xs6 ++ [V.ref e7_0, V.ref e7_1, V.ref e7_2, V.ref e7_3]))) q7 = some (.lst (xs6 ++ [V.ref e7_0, V.ref e7_1, V.ref e7_2, V.ref e7_3])) := upd_same
    generalize upd (upd H7_3 p7 (.lst [V.ref e7_0, V.ref e7_1, V.ref e7_2, V.ref e7_3])) q7 (.lst (xs6 ++ [V.ref e7_0, V.ref e7_1, V.ref e7_2, V.ref e7_3])) = G7 at l7 t7 k7 ⊢
    generalize xs6 ++ [V.ref e7_0, V.ref e7_1, V.ref e7_2, V.ref e7_3] = xs7 at l7 k7 z7 ⊢
    refine ⟨_, rfl, ?_⟩
    refine ⟨_, rfl, v, rfl, fun e8_0 H8_0 n8_0 s8_0 x8_0 => ⟨_, rfl, v, rfl, fun e8_1 H8_1 n8_1 s8_1 x8_1 => ⟨by show 2 ≤ sizeLine; decide, fun p8 hp8 => ?_⟩⟩⟩
    have a8 : Same G7 H8_1 := (s8_0).trans s8_1
    have m8 : Made cl 0 "given" v H8_1 24 [V.ref e8_0, V.ref e8_1] := Made.cons ((x8_0).same s8_1) (Made.cons (x8_1) (Made.nil))
    have b8 : Same H8_1 (upd H8_1 p8 (.lst [V.ref e8_0, V.ref e8_1])) := Same.new hp8
    refine rd_cat (xs := xs7) (b8 _ _ (a8 _ _ l7)) upd_same (by rw [z7]; show 26 ≤ 1000; decide) (fun q8 hq8 => ?_)
    have c8 : Same (upd H8_1 p8 (.lst [V.ref e8_0, V.ref e8_1])) (upd (upd H8_1 p8 (.lst [V.ref e8_0, V.ref e8_1])) q8 (.lst (xs7 ++ [V.ref e8_0, V.ref e8_1]))) := Same.new hq8
    have d8 : Same G7 (upd (upd H8_1 p8 (.lst [V.ref e8_0, V.ref e8_1])) q8 (.lst (xs7 ++ [V.ref e8_0, V.ref e8_1]))) := (a8.trans b8).trans c8
    have t8 : Same H (upd (upd H8_1 p8 (.lst [V.ref e8_0, V.ref e8_1])) q8 (.lst (xs7 ++ [V.ref e8_0, V.ref e8_1]))) := t7.trans d8
    have k8 := (k7.same d8).app z7 ((m8.same b8).same c8)
    have z8 : (xs7 ++ [V.ref e8_0, V.ref e8_1]).length = 26 := by rw [List.length_append, z7]; rfl
    exact q _ q8 _ (t7.free ((a8.trans b8).free hq8)) t8 upd_same z8 k8
theorem scSeconds : FnScope ["_law_thing", "_law_found"] ["_law_thing"] (defScope sSeconds) := ⟨rfl, rfl, rfl, by decide +kernel, rfl, by decide +kernel, by decide +kernel⟩
theorem ok_seconds {fa : Addr} {fd : FuncData} (F : FunD K "_law_seconds" "_law_seconds" (defArgs sSeconds) (defBody sSeconds) (defScope sSeconds) [] [] fa fd) (T : Kinds K mg cl bs) (M : ∀ j, 13 ≤ j → j < 20 → Mkr P w K mg base (cl j) "index") :
    FnOk P w K mg base CX0 3 fa fd ["_law_thing"] (spMade cl 13 14 "index") := by
  refine F.ok scSeconds (fun vs H Q E h => ?_) (fun cdv A outer s H vs Q E hr h => ?_)
  · obtain ⟨v, rfl, _⟩ := h
    rfl
  · obtain ⟨v, rfl, q⟩ := h
    have nd := scSeconds.nd
    refine ⟨_, PSs.nox (pss_cons (ps_set (i := 1) nd rfl (.inl rfl) (pe_lst (pa_cons (pe_m (M 13 (by decide) (by decide)) hr (show mg "InvalidUnknowns" = some (.ref (cl 13)) from T.g 13 (by decide)) (pa_cons (pv 0) pa_nil)) (pa_cons (pe_k (M 13 (by decide) (by decide)) hr (show mg "InvalidUnknowns" = some (.ref (cl 13)) from T.g 13 (by decide)) (pk_cons (pv 0) pk_nil)) (pa_cons (pe_m (M 14 (by decide) (by decide)) hr (show mg "InvalidRows" = some (.ref (cl 14)) from T.g 14 (by decide)) (pa_cons (pv 0) pa_nil)) (pa_cons (pe_k (M 14 (by decide) (by decide)) hr (show mg "InvalidRows" = some (.ref (cl 14)) from T.g 14 (by decide)) (pk_cons (pv 0) pk_nil)) pa_nil)))))) (
      pss_cons (ps_set (i := 1) nd rfl (.inl rfl) (pe_op op_cat (pv 1) (pe_lst (pa_cons (pe_m (M 15 (by decide) (by decide)) hr (show mg "InvalidSeen" = some (.ref (cl 15)) from T.g 15 (by decide)) (pa_cons (pv 0) pa_nil)) (pa_cons (pe_k (M 15 (by decide) (by decide)) hr (show mg "InvalidSeen" = some (.ref (cl 15)) from T.g 15 (by decide)) (pk_cons (pv 0) pk_nil)) pa_nil))))) (
      pss_cons (ps_set (i := 1) nd rfl (.inl rfl) (pe_op op_cat (pv 1) (pe_lst (pa_cons (pe_m (M 16 (by decide) (by decide)) hr (show mg "InvalidChanges" = some (.ref (cl 16)) from T.g 16 (by decide)) (pa_cons (pv 0) pa_nil)) (pa_cons (pe_k (M 16 (by decide) (by decide)) hr (show mg "InvalidChanges" = some (.ref (cl 16)) from T.g 16 (by decide)) (pk_cons (pv 0) pk_nil)) pa_nil))))) (
      pss_cons (ps_set (i := 1) nd rfl (.inl rfl) (pe_op op_cat (pv 1) (pe_lst (pa_cons (pe_m (M 17 (by decide) (by decide)) hr (show mg "InvalidDemands" = some (.ref (cl 17)) from T.g 17 (by decide)) (pa_cons (pv 0) pa_nil)) (pa_cons (pe_k (M 17 (by decide) (by decide)) hr (show mg "InvalidDemands" = some (.ref (cl 17)) from T.g 17 (by decide)) (pk_cons (pv 0) pk_nil)) (pa_cons (pe_m (M 18 (by decide) (by decide)) hr (show mg "InUse" = some (.ref (cl 18)) from T.g 18 (by decide)) (pa_cons (pv 0) pa_nil)) (pa_cons (pe_k (M 18 (by decide) (by decide)) hr (show mg "InUse" = some (.ref (cl 18)) from T.g 18 (by decide)) (pk_cons (pv 0) pk_nil)) pa_nil))))))) (
      pss_one (ps_ret (pe_op op_cat (pv 1) (pe_lst (pa_cons (pe_m (M 19 (by decide) (by decide)) hr (show mg "Broken" = some (.ref (cl 19)) from T.g 19 (by decide)) (pa_cons (pv 0) pa_nil)) (pa_cons (pe_k (M 19 (by decide) (by decide)) hr (show mg "Broken" = some (.ref (cl 19)) from T.g 19 (by decide)) (pk_cons (pv 0) pk_nil)) pa_nil)))))))))), ?_⟩
    refine ⟨_, rfl, v, rfl, fun e0_0 H0_0 n0_0 s0_0 x0_0 => ⟨_, rfl, v, rfl, fun e0_1 H0_1 n0_1 s0_1 x0_1 => ⟨_, rfl, v, rfl, fun e0_2 H0_2 n0_2 s0_2 x0_2 => ⟨_, rfl, v, rfl, fun e0_3 H0_3 n0_3 s0_3 x0_3 => ⟨by show 4 ≤ sizeLine; decide, fun p0 hp0 => ?_⟩⟩⟩⟩⟩
    have a0 : Same H H0_3 := (((s0_0).trans s0_1).trans s0_2).trans s0_3
    have m0 : Made cl 13 "index" v H0_3 0 [V.ref e0_0, V.ref e0_1, V.ref e0_2, V.ref e0_3] := Made.cons ((((x0_0).same s0_1).same s0_2).same s0_3) (Made.cons (((x0_1).same s0_2).same s0_3) (Made.cons ((x0_2).same s0_3) (Made.cons (x0_3) (Made.nil))))
    have b0 : Same H0_3 (upd H0_3 p0 (.lst [V.ref e0_0, V.ref e0_1, V.ref e0_2, V.ref e0_3])) := Same.new hp0
    have l0 : upd H0_3 p0 (.lst [V.ref e0_0, V.ref e0_1, V.ref e0_2, V.ref e0_3]) p0 = some (.lst [V.ref e0_0, V.ref e0_1, V.ref e0_2, V.ref e0_3]) := upd_same
    have t0 : Same H (upd H0_3 p0 (.lst [V.ref e0_0, V.ref e0_1, V.ref e0_2, V.ref e0_3])) := a0.trans b0
    have k0 := m0.same b0
    have z0 : ([V.ref e0_0, V.ref e0_1, V.ref e0_2, V.ref e0_3] : List V).length = 4 := rfl
    generalize upd H0_3 p0 (.lst [V.ref e0_0, V.ref e0_1, V.ref e0_2, V.ref e0_3]) = G0 at l0 t0 k0 ⊢
    generalize ([V.ref e0_0, V.ref e0_1, V.ref e0_2, V.ref e0_3] : List V) = xs0 at l0 k0 z0 ⊢
    refine ⟨_, rfl, ?_⟩
    refine ⟨_, rfl, v, rfl, fun e1_0 H1_0 n1_0 s1_0 x1_0 => ⟨_, rfl, v, rfl, fun e1_1 H1_1 n1_1 s1_1 x1_1 => ⟨by show 2 ≤ sizeLine; decide, fun p1 hp1 => ?_⟩⟩⟩
    have a1 : Same G0 H1_1 := (s1_0).trans s1_1
    have m1 : Made cl 13 "index" v H1_1 4 [V.ref e1_0, V.ref e1_1] := Made.cons ((x1_0).same s1_1) (Made.cons (x1_1) (Made.nil))
    have b1 : Same H1_1 (upd H1_1 p1 (.lst [V.ref e1_0, V.ref e1_1])) := Same.new hp1
    refine rd_cat (xs := xs0) (b1 _ _ (a1 _ _ l0)) upd_same (by rw [z0]; show 6 ≤ 1000; decide) (fun q1 hq1 => ?_)
    have c1 : Same (upd H1_1 p1 (.lst [V.ref e1_0, V.ref e1_1])) (upd (upd H1_1 p1 (.lst [V.ref e1_0, V.ref e1_1])) q1 (.lst (xs0 ++ [V.ref e1_0, V.ref e1_1]))) := Same.new hq1
    have d1 : Same G0 (upd (upd H1_1 p1 (.lst [V.ref e1_0, V.ref e1_1])) q1 (.lst (xs0 ++ [V.ref e1_0, V.ref e1_1]))) := (a1.trans b1).trans c1
    have t1 : Same H (upd (upd H1_1 p1 (.lst [V.ref e1_0, V.ref e1_1])) q1 (.lst (xs0 ++ [V.ref e1_0, V.ref e1_1]))) := t0.trans d1
    have k1 := (k0.same d1).app z0 ((m1.same b1).same c1)
    have z1 : (xs0 ++ [V.ref e1_0, V.ref e1_1]).length = 6 := by rw [List.length_append, z0]; rfl
    have l1 : (upd (upd H1_1 p1 (.lst [V.ref e1_0, V.ref e1_1])) q1 (.lst (xs0 ++ [V.ref e1_0, V.ref e1_1]))) q1 = some (.lst (xs0 ++ [V.ref e1_0, V.ref e1_1])) := upd_same
    generalize upd (upd H1_1 p1 (.lst [V.ref e1_0, V.ref e1_1])) q1 (.lst (xs0 ++ [V.ref e1_0, V.ref e1_1])) = G1 at l1 t1 k1 ⊢
    generalize xs0 ++ [V.ref e1_0, V.ref e1_1] = xs1 at l1 k1 z1 ⊢
    refine ⟨_, rfl, ?_⟩
    refine ⟨_, rfl, v, rfl, fun e2_0 H2_0 n2_0 s2_0 x2_0 => ⟨_, rfl, v, rfl, fun e2_1 H2_1 n2_1 s2_1 x2_1 => ⟨by show 2 ≤ sizeLine; decide, fun p2 hp2 => ?_⟩⟩⟩
    have a2 : Same G1 H2_1 := (s2_0).trans s2_1
    have m2 : Made cl 13 "index" v H2_1 6 [V.ref e2_0, V.ref e2_1] := Made.cons ((x2_0).same s2_1) (Made.cons (x2_1) (Made.nil))
    have b2 : Same H2_1 (upd H2_1 p2 (.lst [V.ref e2_0, V.ref e2_1])) := Same.new hp2
    refine rd_cat (xs := xs1) (b2 _ _ (a2 _ _ l1)) upd_same (by rw [z1]; show 8 ≤ 1000; decide) (fun q2 hq2 => ?_)
    have c2 : Same (upd H2_1 p2 (.lst [V.ref e2_0, V.ref e2_1])) (upd (upd H2_1 p2 (.lst [V.ref e2_0, V.ref e2_1])) q2 (.lst (xs1 ++ [V.ref e2_0, V.ref e2_1]))) := Same.new hq2
    have d2 : Same G1 (upd (upd H2_1 p2 (.lst [V.ref e2_0, V.ref e2_1])) q2 (.lst (xs1 ++ [V.ref e2_0, V.ref e2_1]))) := (a2.trans b2).trans c2
    have t2 : Same H (upd (upd H2_1 p2 (.lst [V.ref e2_0, V.ref e2_1])) q2 (.lst (xs1 ++ [V.ref e2_0, V.ref e2_1]))) := t1.trans d2
    have k2 := (k1.same d2).app z1 ((m2.same b2).same c2)
    have z2 : (xs1 ++ [V.ref e2_0, V.ref e2_1]).length = 8 := by rw [List.length_append, z1]; rfl
    have l2 : (upd (upd H2_1 p2 (.lst [V.ref e2_0, V.ref e2_1])) q2 (.lst (xs1 ++ [V.ref e2_0, V.ref e2_1]))) q2 = some (.lst (xs1 ++ [V.ref e2_0, V.ref e2_1])) := upd_same
    generalize upd (upd H2_1 p2 (.lst [V.ref e2_0, V.ref e2_1])) q2 (.lst (xs1 ++ [V.ref e2_0, V.ref e2_1])) = G2 at l2 t2 k2 ⊢
    generalize xs1 ++ [V.ref e2_0, V.ref e2_1] = xs2 at l2 k2 z2 ⊢
    refine ⟨_, rfl, ?_⟩
    refine ⟨_, rfl, v, rfl, fun e3_0 H3_0 n3_0 s3_0 x3_0 => ⟨_, rfl, v, rfl, fun e3_1 H3_1 n3_1 s3_1 x3_1 => ⟨_, rfl, v, rfl, fun e3_2 H3_2 n3_2 s3_2 x3_2 => ⟨_, rfl, v, rfl, fun e3_3 H3_3 n3_3 s3_3 x3_3 => ⟨by show 4 ≤ sizeLine; decide, fun p3 hp3 => ?_⟩⟩⟩⟩⟩
    have a3 : Same G2 H3_3 := (((s3_0).trans s3_1).trans s3_2).trans s3_3
    have m3 : Made cl 13 "index" v H3_3 8 [V.ref e3_0, V.ref e3_1, V.ref e3_2, V.ref e3_3] := Made.cons ((((x3_0).same s3_1).same s3_2).same s3_3) (Made.cons (((x3_1).same s3_2).same s3_3) (Made.cons ((x3_2).same s3_3) (Made.cons (x3_3) (Made.nil))))
    have b3 : Same H3_3 (upd H3_3 p3 (.lst [V.ref e3_0, V.ref e3_1, V.ref e3_2, V.ref e3_3])) := Same.new hp3
    refine rd_cat (xs := xs2) (b3 _ _ (a3 _ _ l2)) upd_same (by rw [z2]; show 12 ≤ 1000; decide) (fun q3 hq3 => ?_)
    have c3 : Same (upd H3_3 p3 (.lst [V.ref e3_0, V.ref e3_1, V.ref e3_2, V.ref e3_3])) (upd (upd H3_3 p3 (.lst [V.ref e3_0, V.ref e3_1, V.ref e3_2, V.ref e3_3])) q3 (.lst (xs2 ++ [V.ref e3_0, V.ref e3_1, V.ref e3_2, V.ref e3_3]))) := Same.new hq3
    have d3 : Same G2 (upd (upd H3_3 p3 (.lst [V.ref e3_0, V.ref e3_1, V.ref e3_2, V.ref e3_3])) q3 (.lst (xs2 ++ [V.ref e3_0, V.ref e3_1, V.ref e3_2, V.ref e3_3]))) := (a3.trans b3).trans c3
    have t3 : Same H (upd (upd H3_3 p3 (.lst [V.ref e3_0, V.ref e3_1, V.ref e3_2, V.ref e3_3])) q3 (.lst (xs2 ++ [V.ref e3_0, V.ref e3_1, V.ref e3_2, V.ref e3_3]))) := t2.trans d3
    have k3 := (k2.same d3).app z2 ((m3.same b3).same c3)
    have z3 : (xs2 ++ [V.ref e3_0, V.ref e3_1, V.ref e3_2, V.ref e3_3]).length = 12 := by rw [List.length_append, z2]; rfl
    have l3 : (upd (upd H3_3 p3 (.lst [V.ref e3_0, V.ref e3_1, V.ref e3_2, V.ref e3_3])) q3 (.lst (xs2 ++ [V.ref e3_0, V.ref e3_1, V.ref e3_2, V.ref e3_3]))) q3 = some (.lst (xs2 ++ [V.ref e3_0, V.ref e3_1, V.ref e3_2, V.ref e3_3])) := upd_same
    generalize upd (upd H3_3 p3 (.lst [V.ref e3_0, V.ref e3_1, V.ref e3_2, V.ref e3_3])) q3 (.lst (xs2 ++ [V.ref e3_0, V.ref e3_1, V.ref e3_2, V.ref e3_3])) = G3 at l3 t3 k3 ⊢
    generalize xs2 ++ [V.ref e3_0, V.ref e3_1, V.ref e3_2, V.ref e3_3] = xs3 at l3 k3 z3 ⊢
    refine ⟨_, rfl, ?_⟩
    refine ⟨_, rfl, v, rfl, fun e4_0 H4_0 n4_0 s4_0 x4_0 => ⟨_, rfl, v, rfl, fun e4_1 H4_1 n4_1 s4_1 x4_1 => ⟨by show 2 ≤ sizeLine; decide, fun p4 hp4 => ?_⟩⟩⟩
    have a4 : Same G3 H4_1 := (s4_0).trans s4_1
    have m4 : Made cl 13 "index" v H4_1 12 [V.ref e4_0, V.ref e4_1] := Made.cons ((x4_0).same s4_1) (Made.cons (x4_1) (Made.nil))
    have b4 : Same H4_1 (upd H4_1 p4 (.lst [V.ref e4_0, V.ref e4_1])) := Same.new hp4
    refine rd_cat (xs := xs3) (b4 _ _ (a4 _ _ l3)) upd_same (by rw [z3]; show 14 ≤ 1000; decide) (fun q4 hq4 => ?_)
    have c4 : Same (upd H4_1 p4 (.lst [V.ref e4_0, V.ref e4_1])) (upd (upd H4_1 p4 (.lst [V.ref e4_0, V.ref e4_1])) q4 (.lst (xs3 ++ [V.ref e4_0, V.ref e4_1]))) := Same.new hq4
    have d4 : Same G3 (upd (upd H4_1 p4 (.lst [V.ref e4_0, V.ref e4_1])) q4 (.lst (xs3 ++ [V.ref e4_0, V.ref e4_1]))) := (a4.trans b4).trans c4
    have t4 : Same H (upd (upd H4_1 p4 (.lst [V.ref e4_0, V.ref e4_1])) q4 (.lst (xs3 ++ [V.ref e4_0, V.ref e4_1]))) := t3.trans d4
    have k4 := (k3.same d4).app z3 ((m4.same b4).same c4)
    have z4 : (xs3 ++ [V.ref e4_0, V.ref e4_1]).length = 14 := by rw [List.length_append, z3]; rfl
    exact q _ q4 _ (t3.free ((a4.trans b4).free hq4)) t4 upd_same z4 k4
end
end Ca
set_option Elab.async false
set_option linter.all false
set_option maxRecDepth 100000
set_option maxHeartbeats 4000000
namespace Ca
open PySem PySem.Spec PyProof.Rows L2
/-- a key as data -/
def kd : Key → PyData
  | .inl i => .int i
  | .inr x => .str x
/-- a value whose repr is known: data without dicts, or a dict of such -/
inductive Rp (K : PySem.W.Frag) (H : Hp) : V → PyData → Prop
  | dat {v : V} {d : PyData} : Dp K H v d → SeqAt.shaped d = true → Rp K H v d
  | dic {p : Addr} {kvs : List (Key × V)} {ds : List PyData} : H p = some (.dK kvs) → DpAll K H (kvs.map (·.2)) ds → PyData.hasDictAll ds = false → Rp K H (.ref p) (.dict ((kvs.map fun kv => kd kv.1).zip ds))
def rRepr (K : PySem.W.Frag) : List V → Hp → VK → Prop := fun xs H Q => ∃ v d, xs = [v] ∧ Rp K H v d ∧ d.showable = true ∧ d.depth ≤ 64 ∧ d.shown.length ≤ sizeLine ∧ Q (.str d.shown) H
theorem dpAll_len {K : PySem.W.Frag} {H : Hp} : ∀ {vs : List V} {ds : List PyData}, DpAll K H vs ds → vs.length = ds.length
  | _, _, .nil => rfl
  | _, _, .cons _ t => congrArg Nat.succ (dpAll_len t)
section
variable {X : Cx} {pins : List (Addr × Obj)} {σ : L2.St} {H : Hp} {s : Shared}
/-- the keys and the values of a dict as they stand -/
theorem pairs_read {P : Program} {w : World} {h : Heap} : ∀ {es : List DictEntry} {ws : List (Key × Value)}, PySem.Pairs (mixKind P w) es ws →
    (∃ as, ReadsAll h (es.map (·.key)) (ws.map fun kv => kd kv.1) as) ∧ es.map (·.val) = ws.map (·.2)
  | _, _, .nil => ⟨⟨[], .nil⟩, rfl⟩
  | _, _, .cons (e := e) (kv := kv) hk hv t => by
    obtain ⟨⟨as, r⟩, q⟩ := pairs_read (h := h) t
    refine ⟨?_, by rw [List.map_cons, List.map_cons, q, hv]⟩
    obtain ⟨k, v⟩ := kv
    rcases keyIs_shape (show keyIs k e.key = true from hk) with ⟨i, t', ek, ev⟩ | ⟨x, t', ek, ev⟩
    · subst ek
      refine ⟨[] ++ as, ReadsAll.cons (as := []) ?_ r⟩
      show Reads h e.key (.int i) []
      rw [ev]
      exact Reads.int i t'
    · subst ek
      refine ⟨[] ++ as, ReadsAll.cons (as := []) ?_ r⟩
      show Reads h e.key (.str x) []
      rw [ev]
      exact Reads.str x t'
theorem kv_vals : ∀ {kvs : List (Key × V)} {ws : List (Key × Value)}, KV kvs ws → Vals (kvs.map (·.2)) (ws.map (·.2)) ∧ (kvs.map fun kv => kd kv.1) = ws.map fun kv => kd kv.1
  | _, _, .nil => ⟨.nil, rfl⟩
  | _, _, .cons r t => by
    obtain ⟨h1, h2⟩ := kv_vals t
    exact ⟨.cons r.2 h1, by rw [List.map_cons, List.map_cons, h2, r.1]⟩
theorem keys_plain : ∀ ws : List (Key × Value), PyData.hasDictAll (ws.map fun kv => kd kv.1) = false
  | [] => by simp only [List.map_nil, PyData.hasDictAll]
  | (.inl i, v) :: l => by
    show PyData.hasDictAll (.int i :: l.map fun kv => kd kv.1) = false
    simp only [PyData.hasDictAll, PyData.hasDict, Bool.false_or]
    exact keys_plain l
  | (.inr x, v) :: l => by
    show PyData.hasDictAll (.str x :: l.map fun kv => kd kv.1) = false
    simp only [PyData.hasDictAll, PyData.hasDict, Bool.false_or]
    exact keys_plain l
theorem call_repr (hgd : X.A.guards = some []) (hu : X.A.units + 200 < cLine) : CallR X (.builtin "repr") (rRepr X.K) := by
  intro pins s σ H xs us Q I r h
  obtain ⟨v, d, rfl, rp, sh, dp, sz, q⟩ := h
  cases r with
  | @cons _ u _ _ ru rr =>
    cases rr
    cases rp with
    | dat D sd =>
      obtain ⟨as, R⟩ := Dp.reads I d v u D ru
      have nd : d.hasDict = false := PyData.hasDict_of_canLay d (SeqAt.canLay_of_shaped sd)
      have fin : ∀ h' z tk, (∀ b o, s.heap.get? b = some o → h'.get? b = some o) → EP X pins σ Q (.str d.shown z) { s with heap := h', toks := tk } := fun h' z tk kp => ⟨.str d.shown, H, I.kept (t' := tk) kp, ⟨z, rfl⟩, q⟩
      cases R with
      | none => exact P.repr_of_none (by simpa only [PyData.shown] using fin s.heap s.toks _ (fun _ _ e => e))
      | bool b => exact P.repr_of_bool (by simpa only [PyData.shown] using fin s.heap s.toks _ (fun _ _ e => e))
      | int i t => exact P.repr_of_int (by simpa only [PyData.showable, decide_eq_true_eq] using sh) (by simpa only [PyData.shown] using fin s.heap s.toks _ (fun _ _ e => e))
      | str x t => exact P.repr_of_str (by simpa only [PyData.shown] using fin s.heap s.toks _ (fun _ _ e => e)) (by simpa only [PyData.shown] using sz)
      | list h1 h2 h3 h4 => exact repr_of_reads' (.list h1 h2 h3 h4) sh (PyData.noDict_hsm nd) hgd (by omega) (fun _ _ e => e) fin sz
      | tuple h1 h2 h3 h4 => exact repr_of_reads' (.tuple h1 h2 h3 h4) sh (PyData.noDict_hsm nd) hgd (by omega) (fun _ _ e => e) fin sz
      | dict h1 h2 h3 h4 h5 => exact repr_of_reads' (.dict h1 h2 h3 h4 h5) sh (PyData.noDict_hsm nd) hgd (by omega) (fun _ _ e => e) fin sz
    | @dic p kvs ds hp D nd =>
      obtain rfl : u = Value.ref p := ru
      obtain ⟨_, sys, ws, rel, o, es, ep, ho, hx, hd, _, ps, _⟩ := dk_of I.hok hp
      obtain ⟨rv, ek⟩ := kv_vals rel
      obtain ⟨⟨as, rk⟩, evs⟩ := pairs_read (h := s.heap) ps
      obtain ⟨bs, rvs⟩ := Dp.readsAll I ds _ _ D rv
      rw [← evs] at rvs
      have lz : (kvs.map fun kv => kd kv.1).length = ds.length := by
        rw [List.length_map, ← dpAll_len D, List.length_map]
      have z1 : ((kvs.map fun kv => kd kv.1).zip ds).map (·.1) = ws.map fun kv => kd kv.1 := by
        rw [← ek]
        exact List.map_fst_zip (Nat.le_of_eq lz)
      have z2 : ((kvs.map fun kv => kd kv.1).zip ds).map (·.2) = ds := List.map_snd_zip (Nat.le_of_eq lz.symm)
      have R : Reads s.heap (.ref p) (.dict ((kvs.map fun kv => kd kv.1).zip ds)) _ := Reads.dict ho hx.1 hd (by rw [z1]; exact rk) (by rw [z2]; exact rvs)
      generalize (kvs.map fun kv => kd kv.1).zip ds = kk at R z1 z2 sh dp sz q
      have hz' : (dictText (PyData.shownKv kk)).length ≤ sizeLine := by simpa only [PyData.shown] using sz
      obtain ⟨hs1, hs2⟩ := PyData.showableKv_split kk (by simpa only [PyData.showable] using sh)
      have nk : PyData.hasDictAll (kk.map (·.1)) = false := by
        rw [z1]
        exact keys_plain ws
      obtain ⟨b1, hb1, k1⟩ := ReprAllK.of_readsAll (prog := X.prog) (w := X.w) (by rw [z1]; exact rk : ReadsAll s.heap (es.toList.map (·.key)) (kk.map (·.1)) as) hs1 (fun y => by rw [nk] at y; cases y)
        (fun t ht => let ⟨e, he, hl⟩ := PyData.shownKv_key_le kk t ht; Nat.le_trans hl (Nat.le_trans (dictText_mem_le he) hz'))
      obtain ⟨b2, hb2, k2⟩ := ReprAllK.of_readsAll (prog := X.prog) (w := X.w) (by rw [z2]; exact rvs : ReadsAll s.heap (es.toList.map (·.val)) (kk.map (·.2)) bs) hs2 (fun y => by rw [z2, nd] at y; cases y)
        (fun t ht => let ⟨e, he, hl⟩ := PyData.shownKv_val_le kk t ht; Nat.le_trans hl (Nat.le_trans (dictText_mem_le he) hz'))
      have hb : ReadAtMost s.heap (PyData.depthKv kk) (b1 ++ b2) := (hb1.mono (PyData.depthAll_keys_le kk)).append (hb2.mono (PyData.depthAll_vals_le kk))
      have hna : p ∉ b1 ++ b2 := not_mem_of_deeper R (by simp only [PyData.depth]; omega) hb
      have dp' : PyData.depthKv kk + 1 ≤ 64 := by simpa only [PyData.depth] using dp
      have ent := ReprEntriesK.of_two es.toList _ _ (k1.more_le (fun b hb => List.mem_append_left _ hb) (PyData.depthAll_keys_le kk)) (k2.more_le (fun b hb => List.mem_append_right _ hb) (PyData.depthAll_vals_le kk))
      refine call_repr_slot (by omega) ⟨o, ho, hx.1⟩ F.slot_dict_repr ?_
      refine call_dict_reprK ho hx.1 hd sys hna ent hgd (fun b _ => Clear.nil b) (by show X.A.units + 1 + (PyData.depthKv kk + 1) < cLine; omega) (fun _ _ e => e) (fun h' z tk kp => ⟨_, _, rfl, ?_⟩) (by rw [← PyData.shownKv_eq]; exact hz')
      refine ⟨.str (PyData.dict kk).shown, H, I.kept (t' := tk) kp, ⟨z, ?_⟩, q⟩
      simp only [PyData.shown, PyData.shownKv_eq]
end
end Ca
set_option Elab.async false
set_option linter.all false
set_option maxRecDepth 100000
set_option maxHeartbeats 8000000
namespace Ca
open PySem L2
section
variable {X : Cx}
theorem ixK (K : PySem.W.Frag) (h : X.K = K := by rfl) : IxR X (rIxL K) := h ▸ ix_list
theorem xatK (K : PySem.W.Frag) {f : Str} {e : Expr} {te : TE} {pos : Pos} (he : PE X e te) (h : X.K = K := by rfl) (hb : attributeBase e f X.env (eval e X.env) = eval e X.env := by rfl) : PE X (.Attribute e f pos) (tXat K f te) := h ▸ pe_xat he hb
theorem reprK (K : PySem.W.Frag) (hgd : X.A.guards = some []) (hu : X.A.units + 200 < cLine) (h : X.K = K := by rfl) : CallR X (.builtin "repr") (rRepr K) := h ▸ call_repr hgd hu
end
abbrev sRight : Stmt := top 43
structure Rights (P : Program) (w : World) (K : PySem.W.Frag) (mg : Str → Option Value) (base : Heap) (cl bs : Nat → Addr) : Prop where
  T : Kinds K mg cl bs
  M1 : ∀ j, 0 ≤ j → j < 13 → Mkr P w K mg base (cl j) "given"
  M2 : ∀ j, 13 ≤ j → j < 20 → Mkr P w K mg base (cl j) "index"
  xf : ∀ j, j < 20 → XfC K (cl j)
  no1 : ∀ j, j < 13 → PySem.W.findIn K (.ref (cl j)) "given" = some none
  no2 : ∀ j, 13 ≤ j → j < 20 → PySem.W.findIn K (.ref (cl j)) "index" = some none
  z : ∀ j, 20 ≤ j → j < 23 → PySem.W.excIn K (cl j) [.type "ArithmeticError", .type "Exception", .type "BaseException", .type "object"] "ArithmeticError.__new__" = true ∧ PySem.W.keepIn K (.ref (cl j)) = true
  rep : mg "repr" = none
def spRight : Sp := fun vs H Q _ => ∃ l : Addr, vs = [.ref l] ∧ Urn H l ∧ ∀ H', Kept l H H' → Urn H' l → Q (.bl true) H'
abbrev NR : List Str := ["_law_urn_here", "_law_some", "_law_thing", "_law_firsts_here", "_law_seconds_here", "_law_plain", "_law_k"]
/-! ### data that stand as they stood -/
mutual
theorem dpSame {K : PySem.W.Frag} {H H' : Hp} (s : Same H H') : ∀ (d : PyData) (v : V), Dp K H v d → Dp K H' v d
  | .none, _, h => by cases h; exact .non
  | .bool b, _, h => by cases h; exact .bl b
  | .int i, _, h => by cases h; exact .int i
  | .str x, _, h => by cases h; exact .str x
  | .list ds, _, h => by
    cases h with
    | lst hs ha => exact .lst (s.seq hs) (dpAllSame s ds _ ha)
  | .tuple ds, _, h => by
    cases h with
    | tup hs ha =>
      refine .tup ?_ (dpAllSame s ds _ ha)
      rcases hs with (e | ⟨o, e⟩) | e
      · exact .inl (.inl (s _ _ e))
      · exact .inl (.inr ⟨o, s _ _ e⟩)
      · exact .inr e
  | .dict _, _, h => by cases h
theorem dpAllSame {K : PySem.W.Frag} {H H' : Hp} (s : Same H H') : ∀ (ds : List PyData) (vs : List V), DpAll K H vs ds → DpAll K H' vs ds
  | [], _, h => by cases h; exact .nil
  | d :: ds, _, h => by
    cases h with
    | cons h1 h2 => exact .cons (dpSame s d _ h1) (dpAllSame s ds _ h2)
end
/-- a value whose repr comes through -/
def Good (K : PySem.W.Frag) (H : Hp) (v : V) (d : PyData) : Prop := Rp K H v d ∧ d.showable = true ∧ d.depth ≤ 64 ∧ d.shown.length ≤ sizeLine
theorem Good.same {K : PySem.W.Frag} {H H' : Hp} {v : V} {d : PyData} (g : Good K H v d) (s : Same H H') : Good K H' v d := by
  obtain ⟨r, g⟩ := g
  refine ⟨?_, g⟩
  cases r with
  | dat D sh => exact .dat (dpSame s _ _ D) sh
  | dic hp D nd => exact .dic (s _ _ hp) (dpAllSame s _ _ D) nd
theorem new_ne {H : Hp} {a b : Addr} {o : HO} (h : L2.upd H a o b = none) : b ≠ a ∧ H b = none := by
  have n : b ≠ a := fun z => by
    rw [z, upd_same] at h
    cases h
  exact ⟨n, by rw [upd_ne n] at h; exact h⟩
theorem at0 {xs : List V} {t : Nat} {y : V} (h : xs[t]? = some y) : atI xs ((0 : Int) + (t : Int)) = some y := by
  rw [Int.zero_add]
  exact atI_nat h
theorem get_lt {xs : List V} {n t : Nat} (hz : xs.length = n) (h : t < n) : ∃ y, xs[t]? = some y := ⟨xs[t]'(hz ▸ h), List.getElem?_eq_getElem _⟩
section
variable {K : PySem.W.Frag} {cl : Nat → Addr} {σ : St} {H : Hp} {p e : Addr} {xs : List V} {m t o n : Nat} {f : Str} {v y : V} {d : PyData}
theorem rd_at {Q : VK} (hσ : σ[m]? = some (some (.ref p))) (hk : σ[6]? = some (some (.int ((0 : Int) + (t : Int))))) (hp : H p = some (.lst xs)) (hx : xs[t]? = some y) (q : Q y H) : tOp (rIxL K) (tVar m) (tVar 6) σ H Q :=
  ⟨_, hσ, _, hk, p, xs, _, y, rfl, rfl, SqL.of hp, at0 hx, q⟩
theorem rd_rv {Q : VK} (g : Good K H v d) (q : Q (.str d.shown) H) : rRepr K [v] H Q := by
  obtain ⟨r, h1, h2, h3⟩ := g
  exact ⟨v, d, rfl, r, h1, h2, h3, q⟩
/-- the test of one repr -/
theorem rd_rx {Q : Bool → Hp → Prop} (hσ : σ[m]? = some (some (.ref p))) (hk : σ[6]? = some (some (.int ((0 : Int) + (t : Int))))) (hv : σ[2]? = some (some v)) (hp : H p = some (.lst xs)) (hz : xs.length = n) (ht : t < n) (M : Made cl o f v H 0 xs)
    (hx : ∀ j, o ≤ j → j < o + (n + 1) / 2 → XfC K (cl j) ∧ PySem.W.findIn K (.ref (cl j)) f = some none) (g : Good K H v d) (q : Q false H) :
    tTest (tOp rNe (tCB (rRepr K) (tCons (tXat K f (tOp (rIxL K) (tVar m) (tVar 6))) tNil)) (tCB (rRepr K) (tCons (tVar 2) tNil))) σ H Q := by
  obtain ⟨y, hy⟩ := get_lt hz ht
  obtain ⟨e, rfl, x⟩ := M t y hy
  obtain ⟨x1, x2⟩ := hx (o + (0 + t) / 2) (by omega) (by omega)
  refine rd_at hσ hk hp hy ⟨e, _, v, rfl, x1, x2, x, ?_⟩
  show rRepr K [v] H fun x H1 => tCB (rRepr K) (tCons (tVar 2) tNil) σ H1 fun y H2 => rNe x y H2 fun x H' => ∃ k, x = V.bl k ∧ Q k H'
  refine rd_rv g ⟨_, hv, ?_⟩
  show rRepr K [v] H fun y H2 => rNe (.str d.shown) y H2 fun x H' => ∃ k, x = V.bl k ∧ Q k H'
  exact rd_rv g ⟨rfl, _, rfl, by rw [decide_eq_true rfl]; exact q⟩
theorem _root_.Ca.Exc.isE {C : Addr} (x : Exc H e C f v) : IsE H e C := .inr ⟨f, v, x⟩
theorem rd_ik {Q : Bool → Hp → Prop} {te : TE} {i : Nat} (hσ : σ[m]? = some (some (.ref p))) (hk : σ[6]? = some (some (.int ((0 : Int) + (t : Int))))) (hp : H p = some (.lst xs)) (hy : xs[t]? = some (.ref e)) (h2 : ∀ Q' : VK, Q' (.int (i : Int)) H → te σ H Q')
    (hi : i < 23) (hE : IsE H e (cl i)) (q : ∀ H', Same H H' → Q false H') : tNot (tB (tCall (spIsKind cl) [] E0 (tCons (tOp (rIxL K) (tVar m) (tVar 6)) (tCons te tNil)))) σ H Q :=
  rd_at hσ hk hp hy (h2 _ ⟨e, i, rfl, hi, hE, fun H' s => ⟨true, rfl, q H' s⟩⟩)
theorem rd_half {Q : VK} (hk : σ[6]? = some (some (.int ((0 : Int) + (t : Int))))) (q : Q (.int ((t / 2 : Nat) : Int)) H) : tOp (rI CDiv fun i j => V.int (i / j)) (tVar 6) (tC (V.int 2)) σ H Q :=
  ⟨_, hk, _, _, rfl, rfl, ⟨by decide, by decide⟩, by rw [Int.zero_add]; exact q⟩
theorem rd_nil {K' : PySem.W.Frag} {D : Addr} {Q : VK} (hD : H D = some (.lst [])) (q : ∀ H', Same H H' → Q (.bl false) H') : tLst tNil σ H fun y H2 => rNeD K' (.ref D) y H2 Q :=
  ⟨by show 0 ≤ sizeLine; decide, fun p hp => ⟨.list [], .list [], .lst (SqL.of (Same.new hp _ _ hD)) .nil, .lst (SqL.of upd_same) .nil, rfl, rfl, q _ (Same.new hp)⟩⟩
theorem rd_nilE {K' : PySem.W.Frag} {D : Addr} {Q : VK} (hD : H D = some (.lst [])) (q : ∀ H', Same H H' → Q (.bl true) H') : tLst tNil σ H fun y H2 => rEqD K' (.ref D) y H2 Q :=
  ⟨by show 0 ≤ sizeLine; decide, fun p hp => ⟨.list [], .list [], .lst (SqL.of (Same.new hp _ _ hD)) .nil, .lst (SqL.of upd_same) .nil, rfl, rfl, q _ (Same.new hp)⟩⟩
end
theorem scRight : FnScope NR ["_law_urn_here"] (defScope sRight) := ⟨rfl, rfl, rfl, by decide +kernel, rfl, by decide +kernel, by decide +kernel⟩
section
variable {P : Program} {w : World} {K : PySem.W.Frag} {mg : Str → Option Value} {base : Heap} {cl bs : Nat → Addr}
theorem ok_right {f fF fA fB fI : Addr} {fd fdF fdA fdB fdI : FuncData} (F : FunD K "_law_right" "_law_right" (defArgs sRight) (defBody sRight) (defScope sRight) [] [] f fd) (R : Rights P w K mg base cl bs)
    (gF : mg "_law_from" = some (.ref fF)) (GF : FnOk P w K mg base CX0 2 fF fdF ["_law_urn_here", "_law_some"] (spFrom K)) (kF : PySem.W.keepIn K (.ref fF) = true) (bF : Binds K fdF ["_law_urn_here", "_law_some"] [])
    (gA : mg "_law_firsts" = some (.ref fA)) (GA : FnOk P w K mg base CX0 3 fA fdA ["_law_thing"] (spMade cl 0 26 "given")) (kA : PySem.W.keepIn K (.ref fA) = true) (bA : Binds K fdA ["_law_thing"] [])
    (gB : mg "_law_seconds" = some (.ref fB)) (GB : FnOk P w K mg base CX0 3 fB fdB ["_law_thing"] (spMade cl 13 14 "index")) (kB : PySem.W.keepIn K (.ref fB) = true) (bB : Binds K fdB ["_law_thing"] [])
    (gI : mg "_law_is_kind" = some (.ref fI)) (GI : FnOk P w K mg base CX0 2 fI fdI ["_law_e", "_law_k"] (spIsKind cl)) (kI : PySem.W.keepIn K (.ref fI) = true) (bI : Binds K fdI ["_law_e", "_law_k"] []) :
    FnG P w K mg base 4 f fd ["_law_urn_here"] spRight := by
  refine fnG_of F scRight (fun vs H Q E h => ?_) (fun cdv A outer s H vs Q hgd hr h => ?_)
  · obtain ⟨l, rfl, _⟩ := h
    rfl
  · obtain ⟨l, rfl, hU, q⟩ := h
    have nd := scRight.nd
    have hr2 : Room 2 _ := hr.mono (by decide)
    have hu := hr.un
    have hu' : (A.deeper (PyProof.Rows.envOfC "_law_right" (defScope sRight) s.heap.objs.size f cdv)).units + 200 < cLine := by omega
    have T := R.T
    refine ⟨_, PSs.nox (pss_cons (ps_cut (ps_set (i := 1) nd rfl (.inl rfl) (pe_lst (pa_cons pe_non (pa_cons pe_bl (pa_cons pe_int (pa_cons (pe_un un_neg (pe_op op_pow pe_int pe_int)) (pa_cons pe_str
          (pa_cons (pe_tup (pa_cons pe_int (pa_cons (pe_tup (pa_cons pe_int (pa_cons pe_str pa_nil))) pa_nil))) (pa_cons (pe_lst (pa_cons pe_int pa_nil)) (pa_cons pe_dnewK
          (pa_cons (pe_disp (pps_cons pe_str (pe_lst (pa_cons pe_int pa_nil)) pps_nil) (by rfl) (by rfl) (fun z => by cases z) (by decide)) (pa_cons (pe_tup pa_nil) (pa_cons pe_str pa_nil))))))))))))))
      (pss_cons (ps_set (i := 2) nd rfl (.inr rfl) (pe_call GF hr2 rfl gF kF bF .nil pass0 (pa_cons (pv 0) (pa_cons (pv 1) pa_nil))))
      (pss_cons (ps_asg (pe_tup (pa_cons (pe_call GA hr rfl gA kA bA .nil pass0 (pa_cons (pv 2) pa_nil)) (pa_cons (pe_call GB hr rfl gB kB bB .nil pass0 (pa_cons (pv 2) pa_nil)) pa_nil)))
          (pg_tup rfl (pgs_cons (pg_name (i := 3) nd rfl (.inr rfl)) (pgs_cons (pg_name (i := 4) nd rfl (.inr rfl)) pgs_nil))))
      (pss_cons (ps_cut (ps_if (pt_cmpR (op_neD hr.units) (pe_lc (own := [("_law_k", 6)]) (g := gName 6) rfl nd (pi_range1 rfl T.rng (pa_cons pe_int pa_nil))
          (blkOk_by (own := [("_law_k", 6)]) (N := NR) (sc := defScope sRight) (by decide +kernel)) (fun _ _ _ _ _ => pg_name (i := 6) nd rfl (Or.inl rfl))
          (fun _ _ _ _ _ => pts_one (PW.pt (pw_or (pt_cmpR op_ne (pe_callB (reprK K hgd hu') (by rfl) R.rep PyProof.Rows.boot_repr (pa_cons (xatK K (pe_ix (ixK K) (pv 3) (pv 6) (fun _ _ => rfl))) pa_nil)) (pe_callB (reprK K hgd hu') (by rfl) R.rep PyProof.Rows.boot_repr (pa_cons (pv 2) pa_nil)) (nomark _))
            (pw_or1 (pt_not (pt_val (pe_call GI hr2 rfl gI kI bI .nil pass0 (pa_cons (pe_ix (ixK K) (pv 3) (pv 6) (fun _ _ => rfl)) (pa_cons (pe_op op_fdiv (pv 6) pe_int) pa_nil)))))))))
          (fun _ _ _ _ _ => pv 6)) (pe_lst pa_nil) (nomark _)) (pss_one (ps_ret pe_bl)) pss_nil))
      (pss_cons (ps_cut (ps_if (pt_cmpR (op_neD hr.units) (pe_lc (own := [("_law_k", 6)]) (g := gName 6) rfl nd (pi_range1 rfl T.rng (pa_cons pe_int pa_nil))
          (blkOk_by (own := [("_law_k", 6)]) (N := NR) (sc := defScope sRight) (by decide +kernel)) (fun _ _ _ _ _ => pg_name (i := 6) nd rfl (Or.inl rfl))
          (fun _ _ _ _ _ => pts_one (pt_cmpR op_ne (pe_callB (reprK K hgd hu') (by rfl) R.rep PyProof.Rows.boot_repr (pa_cons (xatK K (pe_ix (ixK K) (pv 4) (pv 6) (fun _ _ => rfl))) pa_nil)) (pe_callB (reprK K hgd hu') (by rfl) R.rep PyProof.Rows.boot_repr (pa_cons (pv 2) pa_nil)) (nomark _)))
          (fun _ _ _ _ _ => pv 6)) (pe_lst pa_nil) (nomark _)) (pss_one (ps_ret pe_bl)) pss_nil))
      (pss_cons (ps_cut (ps_if (pt_cmpR (op_neD hr.units) (pe_lc (own := [("_law_k", 6)]) (g := gName 6) rfl nd (pi_range1 rfl T.rng (pa_cons pe_int pa_nil))
          (blkOk_by (own := [("_law_k", 6)]) (N := NR) (sc := defScope sRight) (by decide +kernel)) (fun _ _ _ _ _ => pg_name (i := 6) nd rfl (Or.inl rfl))
          (fun _ _ _ _ _ => pts_one (pt_not (pt_val (pe_call GI hr2 rfl gI kI bI .nil pass0 (pa_cons (pe_ix (ixK K) (pv 4) (pv 6) (fun _ _ => rfl)) (pa_cons (pe_op op_add pe_int (pe_op op_fdiv (pv 6) pe_int)) pa_nil))))))
          (fun _ _ _ _ _ => pv 6)) (pe_lst pa_nil) (nomark _)) (pss_one (ps_ret pe_bl)) pss_nil))
      (pss_cons (ps_set (i := 5) nd rfl (.inr rfl) (pe_lst (pa_cons (pe_mk0 PySem.F.excBase_ArithmeticError (R.z 20 (by decide) (by decide)).1 (R.z 20 (by decide) (by decide)).2 (show mg "NothingToUndo" = some (.ref (cl 20)) from T.g 20 (by decide)))
          (pa_cons (pe_mk0 PySem.F.excBase_ArithmeticError (R.z 21 (by decide) (by decide)).1 (R.z 21 (by decide) (by decide)).2 (show mg "NoSure" = some (.ref (cl 21)) from T.g 21 (by decide)))
          (pa_cons (pe_mk0 PySem.F.excBase_ArithmeticError (R.z 22 (by decide) (by decide)).1 (R.z 22 (by decide) (by decide)).2 (show mg "NoPossible" = some (.ref (cl 22)) from T.g 22 (by decide))) pa_nil)))))
      (pss_one (ps_ret (pe_cmpR (op_eqD hr.units) (pe_lc (own := [("_law_k", 6)]) (g := gName 6) rfl nd (pi_range1 rfl T.rng (pa_cons pe_int pa_nil))
          (blkOk_by (own := [("_law_k", 6)]) (N := NR) (sc := defScope sRight) (by decide +kernel)) (fun _ _ _ _ _ => pg_name (i := 6) nd rfl (Or.inl rfl))
          (fun _ _ _ _ _ => pts_one (pt_not (pt_val (pe_call GI hr2 rfl gI kI bI .nil pass0 (pa_cons (pe_ix (ixK K) (pv 5) (pv 6) (fun _ _ => rfl)) (pa_cons (pe_op op_add pe_int (pv 6)) pa_nil))))))
          (fun _ _ _ _ _ => pv 6)) (pe_lst pa_nil) (nomark _)))))))))))
      , ?_⟩
    -- the things
    refine ⟨fun σ' H' => ∃ a0 a1 a2 a3 a4 a5 a6 a7 : Addr, σ' = [some (.ref l), some (.ref a7), none, none, none, none, none] ∧ Same H H' ∧ H' a0 = some (.tup [.int 2, .str "x"]) ∧ H' a1 = some (.tup [.int 1, .ref a0]) ∧ H' a2 = some (.lst [.int 3]) ∧ H' a3 = some (.dK []) ∧
        H' a5 = some (.lst [.int 1]) ∧ H' a4 = some (.dK [(.inr "a", .ref a5)]) ∧ H' a6 = some (.tup []) ∧ H' a7 = some (.lst [.non, .bl true, .int 7, .int (-(10 ^ 39)), .str "a b", .ref a1, .ref a2, .ref a3, .ref a4, .ref a6, .str ""]) ∧
        a0 ≠ l ∧ a1 ≠ l ∧ a2 ≠ l ∧ a3 ≠ l ∧ a4 ≠ l ∧ a5 ≠ l ∧ a6 ≠ l ∧ a7 ≠ l, ?_, ?_⟩
    · refine ⟨_, _, rfl, rfl, ⟨by decide, by decide, by decide⟩, _, rfl, by show 2 ≤ sizeLine; decide, fun a0 h0 => ⟨by show 2 ≤ sizeLine; decide, fun a1 h1 => ⟨by show 1 ≤ sizeLine; decide, fun a2 h2 => fun a3 h3 => fun a4 h4 => ⟨by show 1 ≤ sizeLine; decide, fun a5 h5 => ?_⟩⟩⟩⟩
      obtain ⟨u, hUl⟩ := hU.some
      obtain ⟨n54, h5⟩ := new_ne h5
      obtain ⟨n53, h5⟩ := new_ne h5
      obtain ⟨n52, h5⟩ := new_ne h5
      obtain ⟨n51, h5⟩ := new_ne h5
      obtain ⟨n50, h5⟩ := new_ne h5
      obtain ⟨n43, h4⟩ := new_ne h4
      obtain ⟨n42, h4⟩ := new_ne h4
      obtain ⟨n41, h4⟩ := new_ne h4
      obtain ⟨n40, h4⟩ := new_ne h4
      obtain ⟨n32, h3⟩ := new_ne h3
      obtain ⟨n31, h3⟩ := new_ne h3
      obtain ⟨n30, h3⟩ := new_ne h3
      obtain ⟨n21, h2⟩ := new_ne h2
      obtain ⟨n20, h2⟩ := new_ne h2
      obtain ⟨n10, h1⟩ := new_ne h1
      refine ⟨by rw [upd_ne n54.symm, upd_same], [(.inr "a", .ref a5)], rfl, by show 1 ≤ 15; decide, Nat.zero_le _, fun a6 h6 => ⟨by show 11 ≤ sizeLine; decide, fun a7 h7 => ?_⟩⟩
      obtain ⟨n64, h6⟩ := new_ne h6
      obtain ⟨n65, h6⟩ := new_ne h6
      obtain ⟨_, h6⟩ := new_ne h6
      obtain ⟨n63, h6⟩ := new_ne h6
      obtain ⟨n62, h6⟩ := new_ne h6
      obtain ⟨n61, h6⟩ := new_ne h6
      obtain ⟨n60, h6⟩ := new_ne h6
      obtain ⟨n76, h7⟩ := new_ne h7
      obtain ⟨n74, h7⟩ := new_ne h7
      obtain ⟨n75, h7⟩ := new_ne h7
      obtain ⟨_, h7⟩ := new_ne h7
      obtain ⟨n73, h7⟩ := new_ne h7
      obtain ⟨n72, h7⟩ := new_ne h7
      obtain ⟨n71, h7⟩ := new_ne h7
      obtain ⟨n70, h7⟩ := new_ne h7
      refine ⟨a0, a1, a2, a3, a4, a5, a6, a7, rfl, fun b o e => ?_, ?_, ?_, ?_, ?_, ?_, ?_, ?_, upd_same, (ne_of_none hUl h0).symm, (ne_of_none hUl h1).symm, (ne_of_none hUl h2).symm, (ne_of_none hUl h3).symm, (ne_of_none hUl h4).symm, (ne_of_none hUl h5).symm, (ne_of_none hUl h6).symm, (ne_of_none hUl h7).symm⟩
      · rw [upd_ne (ne_of_none e h7), upd_ne (ne_of_none e h6), upd_ne (ne_of_none e h4), upd_ne (ne_of_none e h5), upd_ne (ne_of_none e h4), upd_ne (ne_of_none e h3), upd_ne (ne_of_none e h2), upd_ne (ne_of_none e h1), upd_ne (ne_of_none e h0), e]
      · rw [upd_ne n70.symm, upd_ne n60.symm, upd_ne n40.symm, upd_ne n50.symm, upd_ne n40.symm, upd_ne n30.symm, upd_ne n20.symm, upd_ne n10.symm, upd_same]
      · rw [upd_ne n71.symm, upd_ne n61.symm, upd_ne n41.symm, upd_ne n51.symm, upd_ne n41.symm, upd_ne n31.symm, upd_ne n21.symm, upd_same]
      · rw [upd_ne n72.symm, upd_ne n62.symm, upd_ne n42.symm, upd_ne n52.symm, upd_ne n42.symm, upd_ne n32.symm, upd_same]
      · rw [upd_ne n73.symm, upd_ne n63.symm, upd_ne n43.symm, upd_ne n53.symm, upd_ne n43.symm, upd_same]
      · rw [upd_ne n75.symm, upd_ne n65.symm, upd_ne n54, upd_same]
      · rw [upd_ne n74.symm, upd_ne n64.symm, upd_same]
        rfl
      · rw [upd_ne n76.symm, upd_same]
    rintro σ1 H1 ⟨a0, a1, a2, a3, a4, a5, a6, a7, rfl, s1, e0, e1, e2, e3, e5, e4, e6, e7, l0, l1, l2, l3, l4, l5, l6, l7⟩
    -- one of them
    refine ⟨_, rfl, _, rfl, l, a7, _, rfl, hU.same s1, e7, l7, by show 0 < 11; decide, by show 11 < 1000; decide, fun H2 i v hv k2 hU2 => ?_⟩
    have good : ∃ d, Good K H2 v d := by
      have f0 := k2 _ _ l0 e0
      have f1 := k2 _ _ l1 e1
      have f2 := k2 _ _ l2 e2
      have f3 := k2 _ _ l3 e3
      have f4 := k2 _ _ l4 e4
      have f5 := k2 _ _ l5 e5
      have f6 := k2 _ _ l6 e6
      match i, hv with
      | 0, hv => cases hv; exact ⟨.none, .dat .non rfl, rfl, by decide, by decide +kernel⟩
      | 1, hv => cases hv; exact ⟨.bool true, .dat (.bl _) rfl, rfl, by decide, by decide +kernel⟩
      | 2, hv => cases hv; exact ⟨.int 7, .dat (.int _) rfl, by decide +kernel, by decide, by decide +kernel⟩
      | 3, hv => cases hv; exact ⟨.int (-(10 ^ 39)), .dat (.int _) rfl, by decide +kernel, by decide, by decide +kernel⟩
      | 4, hv => cases hv; exact ⟨.str "a b", .dat (.str _) (by decide +kernel), rfl, by decide, by decide +kernel⟩
      | 5, hv => cases hv; exact ⟨.tuple [.int 1, .tuple [.int 2, .str "x"]], .dat (.tup (.inl (.inl f1)) (.cons (.int _) (.cons (.tup (.inl (.inl f0)) (.cons (.int _) (.cons (.str _) .nil))) .nil))) (by decide +kernel), by decide +kernel, by decide, by decide +kernel⟩
      | 6, hv => cases hv; exact ⟨.list [.int 3], .dat (.lst (SqL.of f2) (.cons (.int _) .nil)) rfl, by decide +kernel, by decide, by decide +kernel⟩
      | 7, hv => cases hv; exact ⟨_, .dic f3 .nil rfl, by decide +kernel, by decide, by decide +kernel⟩
      | 8, hv => cases hv; exact ⟨.dict [(.str "a", .list [.int 1])], .dic (ds := [.list [.int 1]]) f4 (.cons (.lst (SqL.of f5) (.cons (.int _) .nil)) .nil) rfl, by decide +kernel, by decide, by decide +kernel⟩
      | 9, hv => cases hv; exact ⟨.tuple [], .dat (.tup (.inl (.inl f6)) .nil) rfl, rfl, by decide, by decide +kernel⟩
      | 10, hv => cases hv; exact ⟨.str "", .dat (.str _) (by decide +kernel), rfl, by decide, by decide +kernel⟩
      | n + 11, hv => cases hv
    obtain ⟨d, good⟩ := good
    have k12 : Kept l H H2 := s1.kept.trans k2
    clear hv e0 e1 e2 e3 e4 e5 e6 e7 k2
    -- what is made of it
    refine ⟨_, rfl, v, rfl, fun H3 pF xsF n3 s3 b3 z3 m3 => ⟨_, rfl, v, rfl, fun H4 pS xsS n4 s4 b4 z4 m4 => ⟨by show 2 ≤ sizeLine; decide, fun pt ht => ⟨_, _, rfl, SqT.of upd_same, rfl, _, _, rfl, ⟨_, _, rfl, ⟨rfl, ?_⟩⟩⟩⟩⟩⟩
    have s5 : Same H4 (upd H4 pt (.tup [.ref pF, .ref pS])) := Same.new ht
    have k15 : Kept l H (upd H4 pt (.tup [.ref pF, .ref pS])) := k12.trans ((s3.trans (s4.trans s5)).kept)
    have hUG : Urn (upd H4 pt (.tup [.ref pF, .ref pS])) l := hU2.same (s3.trans (s4.trans s5))
    replace good := good.same (s3.trans (s4.trans s5))
    replace b3 := s5 _ _ (s4 _ _ b3)
    replace b4 := s5 _ _ b4
    replace m3 := m3.same (s4.trans s5)
    replace m4 := m4.same s5
    change tSeq _ _ _ _ (upd H4 pt (.tup [.ref pF, .ref pS]))
    generalize upd H4 pt (.tup [.ref pF, .ref pS]) = G at good b3 b4 m3 m4 k15 hUG ⊢
    clear s3 s4 s5 ht n3 n4 k12
    -- the first loop
    refine ⟨fun σ' H' => σ' = [some (.ref l), some (.ref a7), some v, some (.ref pF), some (.ref pS), none, none] ∧ Same G H', ?_, ?_⟩
    · refine ⟨26, rfl, by decide, by decide, fun D hD => lc_range (lo := 0) (n := 26) (fun t H' => Same G H' ∧ H' D = some (.lst [])) ⟨Same.new hD, upd_same⟩ ?_ ?_⟩
      · rintro t H' ht ⟨sG, bD⟩
        refine ⟨rfl, ?_⟩
        refine rd_rx (m := 3) (o := 0) (n := 26) rfl rfl rfl (sG _ _ b3) z3 ht (m3.same sG) (fun j h1 h2 => ⟨R.xf j (by omega), R.no1 j (by omega)⟩) (good.same sG) (iteF ?_)
        obtain ⟨y, hy⟩ := get_lt z3 ht
        obtain ⟨e, rfl, x⟩ := (m3.same sG) t y hy
        rw [Nat.zero_add, Nat.zero_add] at x
        exact rd_ik (m := 3) rfl rfl (sG _ _ b3) hy (fun Q' q => rd_half rfl q) (by omega) x.isE (fun H'' s => iteF ⟨sG.trans s, s _ _ bD⟩)
      · rintro H' ⟨sG, bD⟩
        exact rd_nil bD fun H'' s => ⟨_, rfl, iteF ⟨rfl, sG.trans s⟩⟩
    rintro σ' H5 ⟨rfl, s5⟩
    replace good := good.same s5
    replace b4 := s5 _ _ b4
    replace m4 := m4.same s5
    replace k15 := k15.trans s5.kept
    replace hUG := hUG.same s5
    clear s5 b3 m3
    -- the second
    refine ⟨fun σ' H' => σ' = [some (.ref l), some (.ref a7), some v, some (.ref pF), some (.ref pS), none, none] ∧ Same H5 H', ?_, ?_⟩
    · refine ⟨14, rfl, by decide, by decide, fun D hD => lc_range (lo := 0) (n := 14) (fun t H' => Same H5 H' ∧ H' D = some (.lst [])) ⟨Same.new hD, upd_same⟩ ?_ ?_⟩
      · rintro t H' ht ⟨sG, bD⟩
        refine ⟨rfl, ?_⟩
        exact rd_rx (m := 4) (o := 13) (n := 14) rfl rfl rfl (sG _ _ b4) z4 ht (m4.same sG) (fun j h1 h2 => ⟨R.xf j (by omega), R.no2 j (by omega) (by omega)⟩) (good.same sG) (iteF ⟨sG, bD⟩)
      · rintro H' ⟨sG, bD⟩
        exact rd_nil bD fun H'' s => ⟨_, rfl, iteF ⟨rfl, sG.trans s⟩⟩
    rintro σ' H6 ⟨rfl, s6⟩
    replace b4 := s6 _ _ b4
    replace m4 := m4.same s6
    replace k15 := k15.trans s6.kept
    replace hUG := hUG.same s6
    clear s6 good
    -- the third
    refine ⟨fun σ' H' => σ' = [some (.ref l), some (.ref a7), some v, some (.ref pF), some (.ref pS), none, none] ∧ Same H6 H', ?_, ?_⟩
    · refine ⟨14, rfl, by decide, by decide, fun D hD => lc_range (lo := 0) (n := 14) (fun t H' => Same H6 H' ∧ H' D = some (.lst [])) ⟨Same.new hD, upd_same⟩ ?_ ?_⟩
      · rintro t H' ht ⟨sG, bD⟩
        refine ⟨rfl, ?_⟩
        obtain ⟨y, hy⟩ := get_lt z4 ht
        obtain ⟨e, rfl, x⟩ := (m4.same sG) t y hy
        rw [Nat.zero_add] at x
        exact rd_ik (m := 4) (i := 13 + t / 2) rfl rfl (sG _ _ b4) hy (fun Q' q => rd_half rfl ⟨_, _, rfl, rfl, q⟩) (by omega) x.isE (fun H'' s => iteF ⟨sG.trans s, s _ _ bD⟩)
      · rintro H' ⟨sG, bD⟩
        exact rd_nil bD fun H'' s => ⟨_, rfl, iteF ⟨rfl, sG.trans s⟩⟩
    rintro σ' H7 ⟨rfl, s7⟩
    replace k15 := k15.trans s7.kept
    replace hUG := hUG.same s7
    clear s7 b4 m4
    -- the plain ones
    refine fun x0 h0 x1 h1 x2 h2 => ⟨by show 3 ≤ sizeLine; decide, fun pp hpp => ?_⟩
    have t0 : Same H7 (upd H7 x0 (exo x0 (cl 20) none)) := Same.new h0
    have t1 := Same.new (o := exo x1 (cl 21) none) h1
    have t2 := Same.new (o := exo x2 (cl 22) none) h2
    have t3 := Same.new (o := .lst [.ref x0, .ref x1, .ref x2]) hpp
    have g0 := t3 _ _ (t2 _ _ (t1 _ _ (upd_same (H := H7) (a := x0) (o := exo x0 (cl 20) none))))
    have g1 := t3 _ _ (t2 _ _ (upd_same (H := upd H7 x0 (exo x0 (cl 20) none)) (a := x1) (o := exo x1 (cl 21) none)))
    have g2 := t3 _ _ (upd_same (H := upd (upd H7 x0 (exo x0 (cl 20) none)) x1 (exo x1 (cl 21) none)) (a := x2) (o := exo x2 (cl 22) none))
    have g3 := upd_same (H := upd (upd (upd H7 x0 (exo x0 (cl 20) none)) x1 (exo x1 (cl 21) none)) x2 (exo x2 (cl 22) none)) (a := pp) (o := .lst [.ref x0, .ref x1, .ref x2])
    have t := t0.trans (t1.trans (t2.trans t3))
    clear t0 t1 t2 t3 h0 h1 h2 hpp
    generalize upd (upd (upd (upd H7 x0 (exo x0 (cl 20) none)) x1 (exo x1 (cl 21) none)) x2 (exo x2 (cl 22) none)) pp (.lst [.ref x0, .ref x1, .ref x2]) = H8 at g0 g1 g2 g3 t ⊢
    replace k15 := k15.trans t.kept
    replace hUG := hUG.same t
    clear t
    refine ⟨3, rfl, by decide, by decide, fun D hD => lc_range (lo := 0) (n := 3) (fun t H' => Same H8 H' ∧ H' D = some (.lst [])) ⟨Same.new hD, upd_same⟩ ?_ ?_⟩
    · rintro t H' ht ⟨sG, bD⟩
      refine ⟨rfl, ?_⟩
      have hy : ∃ e, [V.ref x0, V.ref x1, V.ref x2][t]? = some (.ref e) ∧ IsE H8 e (cl (20 + t)) := by
        match t, ht with
        | 0, _ => exact ⟨x0, rfl, .inl g0⟩
        | 1, _ => exact ⟨x1, rfl, .inl g1⟩
        | 2, _ => exact ⟨x2, rfl, .inl g2⟩
      obtain ⟨e, hy, hE⟩ := hy
      exact rd_ik (m := 5) (i := 20 + t) rfl rfl (sG _ _ g3) hy (fun Q' q => ⟨_, rfl, _, _, rfl, rfl, by rw [Int.zero_add]; exact q⟩) (by omega) (hE.same sG) (fun H'' s => iteF ⟨sG.trans s, s _ _ bD⟩)
    · rintro H' ⟨sG, bD⟩
      exact rd_nilE bD fun H'' s => q _ (k15.trans (sG.trans s).kept) (hUG.same (sG.trans s))
end
end Ca
set_option Elab.async false
set_option linter.all false
set_option maxRecDepth 100000
set_option maxHeartbeats 8000000
namespace Ca
open PySem L2
abbrev sLaw : Stmt := top 44
abbrev NL : List Str := ["_law_cells", "_law_found", "_law_at"]
def spLaw (K : PySem.W.Frag) : Sp := fun vs H Q _ => ∃ (a : Addr) (ns : List Int), vs = [.ref a] ∧ SqL K H a (ns.map V.int) ∧ ∀ H', Q (.bl true) H'
theorem scLaw : FnScope NL ["_law_cells"] (defScope sLaw) := ⟨rfl, rfl, rfl, by decide +kernel, rfl, by decide +kernel, by decide +kernel⟩
def lims : List Int := [3, 6, 10000, 1000, 8, 1000, 5, 5]
theorem dpAll_ints {K : PySem.W.Frag} {H : Hp} : ∀ ns : List Int, DpAll K H (ns.map V.int) (ns.map PyData.int)
  | [] => .nil
  | n :: ns => .cons (.int n) (dpAll_ints ns)
theorem good_lims {K : PySem.W.Frag} {H : Hp} {p : Addr} (h : H p = some (.lst (lims.map V.int))) : Good K H (.ref p) (.list (lims.map PyData.int)) :=
  ⟨.dat (.lst (SqL.of h) (dpAll_ints lims)) (by decide +kernel), by decide +kernel, by decide, by decide +kernel⟩
theorem rep_more (t : Nat) : (List.replicate t true).map V.bl ++ [V.bl true] = (List.replicate (t + 1) true).map V.bl := by
  rw [List.replicate_succ', List.map_append]
  rfl
theorem rep_all : ∀ t : Nat, (List.replicate t true).all id = true
  | 0 => rfl
  | t + 1 => by
    rw [List.replicate_succ, List.all_cons, rep_all t]
    rfl
theorem few (n : Nat) : (2 : Int) ≤ (if (if (6 : Int) < (n : Int) then (6 : Int) else (n : Int)) > 2 then (if (6 : Int) < (n : Int) then (6 : Int) else (n : Int)) else 2) ∧ (if (if (6 : Int) < (n : Int) then (6 : Int) else (n : Int)) > 2 then (if (6 : Int) < (n : Int) then (6 : Int) else (n : Int)) else 2) ≤ 6 := by
  split <;> split <;> omega
theorem rd_cb1 {K : PySem.W.Frag} {te : TE} {σ : St} {H : Hp} {Q : VK} (h : te σ H fun x H1 => rRepr K [x] H1 Q) : tCB (rRepr K) (tCons te tNil) σ H Q := h
theorem rd_call1 {sp : Sp} {te : TE} {σ : St} {H : Hp} {Q : VK} (h : te σ H fun x H1 => sp [x] H1 Q E0) : tCall sp [] E0 (tCons te tNil) σ H Q := h
section
variable {P : Program} {w : World} {K : PySem.W.Frag} {mg : Str → Option Value} {base : Heap}
theorem ok_law {f fR fU : Addr} {fd fdR fdU : FuncData} (F : FunD K "law" "law" (defArgs sLaw) (defBody sLaw) (defScope sLaw) [] [] f fd)
    (gR : mg "_law_right" = some (.ref fR)) (GR : FnG P w K mg base 4 fR fdR ["_law_urn_here"] spRight) (kR : PySem.W.keepIn K (.ref fR) = true) (bR : Binds K fdR ["_law_urn_here"] [])
    (gU : mg "_law_urn" = some (.ref fU)) (GU : FnOk P w K mg base CX0 1 fU fdU ["_law_cells", "_law_at"] (spUrn K)) (kU : PySem.W.keepIn K (.ref fU) = true) (bU : Binds K fdU ["_law_cells", "_law_at"] [])
    (c0 : ∃ t, mg "MOST_UNKNOWNS" = some (.int 3 t)) (c1 : ∃ t, mg "MOST_ROWS" = some (.int 6 t)) (c2 : ∃ t, mg "MOST_NUMBER" = some (.int 10000 t)) (c3 : ∃ t, mg "MOST_COST" = some (.int 1000 t))
    (c4 : ∃ t, mg "MOST_SEEN" = some (.int 8 t)) (c5 : ∃ t, mg "MOST_STEPS" = some (.int 1000 t)) (c6 : ∃ t, mg "MOST_CHANGES" = some (.int 5 t)) (c7 : ∃ t, mg "MOST_DEMANDS" = some (.int 5 t))
    (mrep : mg "repr" = none) (mall : mg "all" = none) (mrng : mg "range" = none) (mmax : mg "max" = none) (mmin : mg "min" = none) (mlen : mg "len" = none) :
    FnG P w K mg base 5 f fd ["_law_cells"] (spLaw K) := by
  obtain ⟨t0, c0⟩ := c0
  obtain ⟨t1, c1⟩ := c1
  obtain ⟨t2, c2⟩ := c2
  obtain ⟨t3, c3⟩ := c3
  obtain ⟨t4, c4⟩ := c4
  obtain ⟨t5, c5⟩ := c5
  obtain ⟨t6, c6⟩ := c6
  obtain ⟨t7, c7⟩ := c7
  refine fnG_of F scLaw (fun vs H Q E h => ?_) (fun cdv A outer s H vs Q hgd hr h => ?_)
  · obtain ⟨a, ns, rfl, _⟩ := h
    rfl
  · obtain ⟨a, ns, rfl, hS, q⟩ := h
    have nd := scLaw.nd
    have hr1 : Room 1 _ := hr.mono (by decide)
    have hu := hr.un
    have hu' : (A.deeper (PyProof.Rows.envOfC "law" (defScope sLaw) s.heap.objs.size f cdv)).units + 200 < cLine := by omega
    refine ⟨_, PSs.nox (pss_cons (ps_cut (ps_set (i := 1) nd rfl (.inl rfl) (pe_lst (pa_cons (pe_glob (v := .int 3) rfl c0 ⟨_, rfl⟩) (pa_cons (pe_glob (v := .int 6) rfl c1 ⟨_, rfl⟩) (pa_cons (pe_glob (v := .int 10000) rfl c2 ⟨_, rfl⟩) (pa_cons (pe_glob (v := .int 1000) rfl c3 ⟨_, rfl⟩)
          (pa_cons (pe_glob (v := .int 8) rfl c4 ⟨_, rfl⟩) (pa_cons (pe_glob (v := .int 1000) rfl c5 ⟨_, rfl⟩) (pa_cons (pe_glob (v := .int 5) rfl c6 ⟨_, rfl⟩) (pa_cons (pe_glob (v := .int 5) rfl c7 ⟨_, rfl⟩) pa_nil)))))))))))
      (pss_cons (ps_cut (ps_if (pt_cmpR op_ne (pe_callB (reprK K hgd hu') (by rfl) mrep PyProof.Rows.boot_repr (pa_cons (pv 1) pa_nil))
          (pe_callB (reprK K hgd hu') (by rfl) mrep PyProof.Rows.boot_repr (pa_cons (pe_lst (pa_cons pe_int (pa_cons pe_int (pa_cons (pe_op op_pow pe_int pe_int) (pa_cons pe_int (pa_cons pe_int (pa_cons pe_int (pa_cons pe_int (pa_cons pe_int pa_nil))))))))) pa_nil)) (nomark _)) (pss_one (ps_ret pe_bl)) pss_nil))
      (pss_one (ps_ret (pe_callB (cr_all rfl) (by rfl) mall PyProof.Rows.boot_all (pa_cons (pe_lc (own := [("_law_at", 2)]) (g := gName 2) (tt := tYes) rfl nd
          (pi_range1 rfl mrng (pa_cons (pe_callB (call_max2 rfl) (by rfl) mmax PyProof.Rows.boot_max (pa_cons pe_int (pa_cons (pe_callB (call_min2 rfl) (by rfl) mmin PyProof.Rows.boot_min (pa_cons (pe_callB call_len (by rfl) mlen boot_len (pa_cons (pv 0) pa_nil)) (pa_cons pe_int pa_nil))) pa_nil))) pa_nil))
          (blkOk_by (own := [("_law_at", 2)]) (N := NL) (sc := defScope sLaw) (by decide +kernel)) (fun _ _ _ _ _ => pg_name (i := 2) nd rfl (Or.inl rfl)) (fun _ _ _ _ _ => pts_nil)
          (fun _ _ _ _ _ => pe_callG GR hgd hr gR kR bR (pa_cons (pe_call GU hr1 rfl gU kU bU .nil pass0 (pa_cons (pv 0) (pa_cons (pv 2) pa_nil))) pa_nil))) pa_nil))))))
      , ?_⟩
    refine ⟨fun σ' H' => ∃ p, σ' = [some (.ref a), some (.ref p), none] ∧ Same H H' ∧ H' p = some (.lst (lims.map V.int)), ⟨by show 8 ≤ sizeLine; decide, fun p hp => ⟨p, rfl, Same.new hp, upd_same⟩⟩, ?_⟩
    rintro σ1 H1 ⟨p, rfl, s1, e1⟩
    refine ⟨fun σ' H' => σ' = [some (.ref a), some (.ref p), none] ∧ Same H1 H', ?_, ?_⟩
    · refine rd_cb1 ⟨_, rfl, rd_rv (good_lims e1) (rd_cb1 ⟨_, _, rfl, rfl, ⟨by decide, by decide, by decide⟩, by show 8 ≤ sizeLine; decide, fun p2 h2 => rd_rv (good_lims upd_same) ⟨rfl, _, rfl, ?_⟩⟩)⟩
      rw [decide_eq_true rfl]
      exact iteF ⟨rfl, Same.new h2⟩
    rintro σ2 H2 ⟨rfl, s2⟩
    have hS2 := (s1.trans s2).seq hS
    refine ⟨_, rfl, _, _, rfl, .inl ⟨_, hS2, rfl⟩, _, _, rfl, _, _, rfl, ?_⟩
    obtain ⟨hlo, hhi⟩ := few (ns.map V.int).length
    generalize (if (if (6 : Int) < ((ns.map V.int).length : Int) then (6 : Int) else ((ns.map V.int).length : Int)) > 2 then (if (6 : Int) < ((ns.map V.int).length : Int) then (6 : Int) else ((ns.map V.int).length : Int)) else 2) = j at hlo hhi
    refine ⟨j, rfl, Int.le_trans (by decide) hlo, Int.lt_of_le_of_lt hhi (by decide), fun D hD => lc_range (lo := 0) (n := j.toNat) (fun t H' => Same H2 H' ∧ H' D = some (.lst ((List.replicate t true).map V.bl))) ⟨Same.new hD, upd_same⟩ ?_ ?_⟩
    · rintro t H' ht ⟨sG, bD⟩
      refine ⟨rfl, rd_yes (rd_call1 ⟨_, rfl, _, rfl, a, ns, t, by rw [Int.zero_add]; rfl, sG.seq hS2, fun H3 l hl s3 u3 => ⟨l, rfl, u3, fun H4 k4 u4 => ?_⟩⟩)⟩
      have nD : D ≠ l := ne_of_none bD hl
      have bD4 := k4 _ _ nD (s3 _ _ bD)
      have s4 : Same H2 H4 := fun b o e => by
        have e1 := sG _ _ e
        exact k4 _ _ (ne_of_none e1 hl) (s3 _ _ e1)
      refine ⟨_, bD4, ?_, fun b o e => ?_, ?_⟩
      · rw [List.length_map, List.length_replicate]
        have : t < 6 := by omega
        exact Nat.lt_trans this (by decide)
      · rw [upd_ne (ne_of_none e hD)]
        exact s4 b o e
      · rw [rep_more]
        exact upd_same
    · rintro H' ⟨sG, bD⟩
      refine ⟨D, _, rfl, SqL.of bD, ?_⟩
      rw [rep_all]
      exact q H'
end
end Ca
set_option Elab.async false
set_option linter.all false
set_option maxRecDepth 100000
set_option maxHeartbeats 0
namespace Ca
open PySem PySem.Spec PyProof.Rows L2
/-! ### what the top leaves, by names -/
def fo (j : Nat) : Str := if j < 13 then "given" else "index"
def qns : List Str := ["InvalidText.__init__", "InvalidName.__init__", "InvalidAnswer.__init__", "InvalidCosts.__init__", "InvalidSteps.__init__", "InvalidIndex.__init__", "InvalidRow.__init__", "InvalidStretch.__init__", "InvalidChange.__init__", "InvalidDemand.__init__", "NotASystem.__init__", "OtherUnknowns.__init__", "UnknownName.__init__", "InvalidUnknowns.__init__", "InvalidRows.__init__", "InvalidSeen.__init__", "InvalidChanges.__init__", "InvalidDemands.__init__", "InUse.__init__", "Broken.__init__"]
def rows : List Nat := [10, 14, 18, 22, 26, 30, 34, 38, 42, 46, 50, 54, 78, 58, 62, 66, 70, 74, 82, 92]
def iniD (j : Nat) (L : Nat) : He.DefD := ⟨(nm j, some "__init__"), "__init__", qns.getD j "", iA (fo j) ⟨L, 17, L, 21⟩ ⟨L, 23, L, 28⟩, iB (fo j) ⟨L + 1, 8, L + 1, 12⟩ ⟨L + 1, 8, L + 1, 18⟩ ⟨L + 1, 21, L + 1, 26⟩ ⟨L + 1, 8, L + 1, 26⟩, iS (fo j), [], []⟩
def topD (x : Str) (st : Stmt) : He.DefD := ⟨(x, none), x, x, defArgs st, defBody st, defScope st, [], []⟩
def fnsT : List He.DefD := [topD "_law_urn" sUrn, topD "_law_dip" sDip, topD "_law_from" sFrom, topD "_law_firsts" sFirsts, topD "_law_seconds" sSeconds, topD "_law_kinds" sKinds, topD "_law_is_kind" sIsKind, topD "_law_right" sRight, topD "law" sLaw]
def fnsI : List He.DefD := (List.range 20).map fun j => iniD j (rows.getD j 0)
def fns : List He.DefD := fnsT ++ fnsI
def fas : List He.Fa := [.glo "_law_urn", .glo "_law_dip", .glo "_law_from", .glo "_law_firsts", .glo "_law_seconds", .glo "_law_kinds", .glo "_law_is_kind", .glo "_law_right", .glo "law", .glo "BadValue", .glo "BadName", .glo "NoAnswer",
  .int "MOST_UNKNOWNS" 3, .int "MOST_ROWS" 6, .int "MOST_NUMBER" 10000, .int "MOST_COST" 1000, .int "MOST_SEEN" 8, .int "MOST_STEPS" 1000, .int "MOST_CHANGES" 5, .int "MOST_DEMANDS" 5,
  .free "len", .free "int", .free "abs", .free "divmod", .free "isinstance", .free "ValueError", .free "LookupError", .free "ArithmeticError", .free "range", .free "repr", .free "all", .free "max", .free "min"]
/-! ### and of the classes of errors -/
def bnm : Nat → Str
  | 0 => "BadValue"
  | 1 => "BadName"
  | _ => "NoAnswer"
def bN : Nat → String
  | 0 => "ValueError"
  | 1 => "LookupError"
  | _ => "ArithmeticError"
def bW : Nat → String
  | 0 => "ValueError.__new__"
  | 1 => "LookupError.__new__"
  | _ => "ArithmeticError.__new__"
def bI : Nat → String
  | 0 => "ValueError.__init__"
  | 1 => "LookupError.__init__"
  | _ => "ArithmeticError.__init__"
def bM (k : Nat) : List Value := [.type (bN k), .type "Exception", .type "BaseException", .type "object"]
theorem fbs : ∀ k, ExcBaseFacts (bN k) (bW k) (bI k) (bM k)
  | 0 => PySem.F.excBase_ValueError
  | 1 => PySem.F.excBase_LookupError
  | _ + 2 => PySem.F.excBase_ArithmeticError
theorem sfs : ∀ k, StoreFacts (bN k) (bM k) "object.__setattr__" "object"
  | 0 => PySem.F.store_ValueError
  | 1 => PySem.F.store_LookupError
  | _ + 2 => PySem.F.store_ArithmeticError
abbrev cA (K : PySem.W.Frag) (j : Nat) : Addr := He.ga K (nm j)
abbrev bA (K : PySem.W.Frag) (j : Nat) : Addr := He.ga K (bnm j)
def isF (a b : Option (Option Value)) : Bool := decide (a = b)
/-- any of the classes -/
def exB (K : PySem.W.Frag) (j : Nat) : Bool := isF (PySem.W.nsIn K mainGlobals (nm j)) (some (some (.ref (cA K j)))) && (PySem.W.keepIn K (.ref (cA K j)) && (isF (PySem.W.findIn K (.ref (cA K j)) "__getattribute__") (some (some (.builtin "BaseException.__getattribute__"))) &&
  (isF (PySem.W.findIn K (.ref (cA K j)) "__getattr__") (some none) && (decide (PySem.W.subIn K (.ref (cA K j)) (.type "BaseException") = some true) && (PySem.W.hasDictIn K (cA K j) && (isF (PySem.W.findIn K (.ref (cA K j)) "__class__") (some (some (.builtin "object.__class__"))) &&
  (isF (PySem.W.specialIn K (.builtin "object.__class__") "__get__") (some (some (.builtin "getset_descriptor.__get__"))) && (decide (PySem.W.takesIn K (.builtin "object.__class__") = some true) && decide (PySem.W.mroIn K (cA K j) (.type "object") = some true)))))))))
/-- one that keeps a field -/
def mkB (K : PySem.W.Frag) (j : Nat) : Bool := PySem.W.excInitIn K (cA K j) (bM (ownOf j)) (bW (ownOf j)) && (isF (PySem.W.findIn K (.ref (cA K j)) "__init__") (some (some (.ref (He.ma K (cA K j) "__init__")))) &&
  (decide (PySem.W.typeIn K (.ref (He.ma K (cA K j) "__init__")) = some (.type "function")) && (isF (PySem.W.findIn K (.ref (cA K j)) "__setattr__") (some (some (.builtin "object.__setattr__"))) &&
  (PySem.W.excOver K (cA K j) (bM (ownOf j)) && (decide (PySem.W.takerIn K (cA K j) (fo j) = some none) && isF (PySem.W.findIn K (.ref (cA K j)) (fo j)) (some none))))))
/-- one that keeps none -/
def plB (K : PySem.W.Frag) (j : Nat) : Bool := PySem.W.excIn K (cA K (20 + j)) (bM 2) "ArithmeticError.__new__"
/-- which is a kind of which -/
def kiB (K : PySem.W.Frag) (i : Nat) : Bool := ((List.range 23).all fun j => decide (PySem.W.kitOne K (.ref (cA K i)) (.ref (cA K j)) = some (decide (j = i)))) && (((List.range 3).all fun j => decide (PySem.W.kitOne K (.ref (cA K i)) (.ref (bA K j)) = some (decide (j = ownOf i)))) &&
  (List.range 3).all fun j => decide (PySem.W.kitOne K (.ref (cA K i)) (.type (bN j)) = some (decide (j = ownOf i))))
def allB (K : PySem.W.Frag) : Bool := (List.range 23).all (exB K) && ((List.range 20).all (mkB K) && ((List.range 3).all (plB K) && (List.range 23).all (kiB K)))
abbrev AlM : Type := Bool × He.AlD
def obsM (g : Addr → Option Obj) : AlM := (allB (He.frG g (He.asD g 5)), He.obsDG 5 fas fns g)
def hkM : PySem.W.Hook where
  α := AlM
  obs s := obsM s.heap.get?
  val _ := (true, He.valD fns)
  says _ h := ∃ K : PySem.W.Frag, K.In h ∧ allB K = true ∧ He.SaysD fas fns K
  of _ _ e := ⟨He.frG _ (He.asD _ 5), He.frG_in, congrArg Prod.fst e, congrArg Prod.snd e⟩
  keeps _ _ _ c k := c.elim fun K z => ⟨K, z.1.keeps k, z.2⟩
def obT (s : PySem.W.SharedT) : AlM := obsM (HandSHeadRun.getT s)
theorem obT_eq (s : PySem.W.SharedT) : obT s = hkM.obs s.abs := by
  have e : HandSHeadRun.getT s = s.abs.heap.get? := funext (HandSHeadRun.getT_eq s)
  unfold obT
  rw [e]
  rfl
abbrev rowM : PySem.W.OpenRow := PySem.W.OpenLaw.row PySem.Challenge.rw_commonanswer_k01_limits_and_errors
def namesA : List Str := ["BadValue", "BadName", "NoAnswer", "InvalidText", "InvalidName", "InvalidAnswer", "InvalidCosts", "InvalidSteps", "InvalidIndex", "InvalidRow", "InvalidStretch", "InvalidChange", "InvalidDemand", "NotASystem", "OtherUnknowns", "UnknownName", "InvalidUnknowns", "InvalidRows", "InvalidSeen", "InvalidChanges", "InvalidDemands", "InUse", "Broken"]
def namesB : List Str := ["NothingToUndo", "NoSure", "NoPossible", "MOST_UNKNOWNS", "MOST_ROWS", "MOST_NUMBER", "MOST_COST", "MOST_SEEN", "MOST_STEPS", "MOST_CHANGES", "MOST_DEMANDS", "_law_urn", "_law_dip", "_law_from", "_law_firsts", "_law_seconds", "_law_kinds", "_law_is_kind", "_law_right"]
def namesM : List Str := namesA ++ namesB
theorem runM (w : World) : HandSHeadRun.RunEq rowM (PySem.W.view rowM.prog [44]) hkM obT 7000 namesM w := by
  intro os
  kernel_rfl
end Ca
set_option Elab.async false
set_option linter.all false
set_option maxRecDepth 100000
set_option maxHeartbeats 0
namespace Ca
open PySem PySem.Spec PyProof.Rows L2
section
variable {K : PySem.W.Frag}
theorem isF_ok {a b : Option (Option Value)} (h : isF a b = true) : a = b := of_decide_eq_true h
theorem an {a b : Bool} (h : (a && b) = true) : a = true ∧ b = true := Bool.and_eq_true_iff.mp h
theorem of_range {n j : Nat} {f : Nat → Bool} (h : (List.range n).all f = true) (hj : j < n) : f j = true := List.all_eq_true.mp h j (List.mem_range.mpr hj)
/-- every fact of the classes, out of the one Bool -/
structure Cs (K : PySem.W.Frag) : Prop where
  g : ∀ j, j < 23 → PySem.W.nsIn K mainGlobals (nm j) = some (some (.ref (cA K j)))
  kp : ∀ j, j < 23 → PySem.W.keepIn K (.ref (cA K j)) = true
  ex : ∀ j, j < 23 → ExcC K (cA K j)
  xf : ∀ j, j < 23 → XfC K (cA K j)
  mkc : ∀ j, j < 20 → MkC K (cA K j) (He.ma K (cA K j) "__init__") (bM (ownOf j)) (bW (ownOf j))
  st : ∀ j, j < 20 → StoC K (cA K j) (bM (ownOf j)) (fo j)
  no : ∀ j, j < 20 → PySem.W.findIn K (.ref (cA K j)) (fo j) = some none
  pl : ∀ j, j < 3 → PySem.W.excIn K (cA K (20 + j)) (bM 2) "ArithmeticError.__new__" = true
  kk : ∀ i j, i < 23 → j < 23 → PySem.W.kitOne K (.ref (cA K i)) (.ref (cA K j)) = some (decide (j = i))
  kb : ∀ i j, i < 23 → j < 3 → PySem.W.kitOne K (.ref (cA K i)) (.ref (bA K j)) = some (decide (j = ownOf i))
  kt : ∀ i j, i < 23 → j < 3 → PySem.W.kitOne K (.ref (cA K i)) (.type (bN j)) = some (decide (j = ownOf i))
theorem cs_of (h : allB K = true) : Cs K := by
  obtain ⟨h1, h⟩ := an h
  obtain ⟨h2, h⟩ := an h
  obtain ⟨h3, h4⟩ := an h
  have xs : ∀ j, j < 23 → _ := fun j hj => of_range h1 hj
  have ms : ∀ j, j < 20 → _ := fun j hj => of_range h2 hj
  have ks : ∀ j, j < 23 → _ := fun j hj => of_range h4 hj
  refine ⟨fun j hj => ?_, fun j hj => ?_, fun j hj => ?_, fun j hj => ?_, fun j hj => ?_, fun j hj => ?_, fun j hj => ?_, fun j hj => of_range h3 hj, fun i j hi hj => ?_, fun i j hi hj => ?_, fun i j hi hj => ?_⟩
  · exact isF_ok (an (xs j hj)).1
  · exact (an (an (xs j hj)).2).1
  · obtain ⟨_, x⟩ := an (xs j hj)
    obtain ⟨_, x⟩ := an x
    obtain ⟨a1, x⟩ := an x
    obtain ⟨a2, x⟩ := an x
    obtain ⟨a3, x⟩ := an x
    obtain ⟨a4, x⟩ := an x
    obtain ⟨a5, x⟩ := an x
    obtain ⟨a6, x⟩ := an x
    obtain ⟨a7, a8⟩ := an x
    exact ⟨isF_ok a1, isF_ok a2, of_decide_eq_true a3, a4, isF_ok a5, isF_ok a6, of_decide_eq_true a7, of_decide_eq_true a8⟩
  · obtain ⟨_, x⟩ := an (xs j hj)
    obtain ⟨_, x⟩ := an x
    obtain ⟨a1, x⟩ := an x
    obtain ⟨a2, x⟩ := an x
    obtain ⟨a3, x⟩ := an x
    obtain ⟨a4, x⟩ := an x
    exact ⟨isF_ok a1, isF_ok a2, of_decide_eq_true a3, a4⟩
  · obtain ⟨a1, x⟩ := an (ms j hj)
    obtain ⟨a2, x⟩ := an x
    obtain ⟨a3, x⟩ := an x
    exact ⟨a1, (an (an (xs j (by omega))).2).1, isF_ok a2, of_decide_eq_true a3⟩
  · obtain ⟨a1, x⟩ := an (ms j hj)
    obtain ⟨a2, x⟩ := an x
    obtain ⟨a3, x⟩ := an x
    obtain ⟨a4, x⟩ := an x
    obtain ⟨a5, x⟩ := an x
    obtain ⟨a6, a7⟩ := an x
    obtain ⟨_, y⟩ := an (xs j (by omega))
    obtain ⟨_, y⟩ := an y
    obtain ⟨_, y⟩ := an y
    obtain ⟨_, y⟩ := an y
    obtain ⟨_, y⟩ := an y
    exact ⟨isF_ok a4, a5, of_decide_eq_true a6, (an y).1⟩
  · obtain ⟨a1, x⟩ := an (ms j hj)
    obtain ⟨a2, x⟩ := an x
    obtain ⟨a3, x⟩ := an x
    obtain ⟨a4, x⟩ := an x
    obtain ⟨a5, x⟩ := an x
    exact isF_ok (an x).2
  · exact of_decide_eq_true (of_range (an (ks i hi)).1 hj)
  · exact of_decide_eq_true (of_range (an (an (ks i hi)).2).1 hj)
  · exact of_decide_eq_true (of_range (an (an (ks i hi)).2).2 hj)
end
section
variable {P : Program} {w : World} {K : PySem.W.Frag} {h : Heap} {mg : Str → Option Value}
/-- f(self, given), f(self, index): how values reach them -/
theorem ini_bind {f qn : Str} {p1 p2 : Pos} {body : List Stmt} {fa : Addr} {fd : FuncData} (hf : f = "given" ∨ f = "index") (F : FunD K "__init__" qn (iA f p1 p2) body (iS f) [] [] fa fd) :
    Binds K fd ["self", f] [] ∧ ∀ (s : Shared) (e z : Value), BindsTo s fd ⟨[e], [(f, z)]⟩ [("self", e), (f, z)] := by
  refine ⟨F.bindsN fun _ _ _ _ _ _ us hl => ?_, fun s e z => ?_⟩
  · match us, hl with
    | [_, _], _ => rcases hf with rfl | rfl <;> rfl
  · obtain ⟨oc, od, dV, kV, doc, pm, an, cdv, ct, osl, rfl, lk, hcd, hD, hK⟩ := F.ex
    rcases hD with ⟨_, rfl⟩ | ⟨e', _⟩
    · rcases hf with rfl | rfl <;> exact .of_eq rfl
    · exact absurd rfl e'
theorem mkr_of {base : Heap} (c : Cs K) (d : He.SaysD fas fns K) {j : Nat} (hj : j < 20) : Mkr P w K mg base (cA K j) (fo j) := by
  have hd : fns[9 + j]? = some (iniD j (rows.getD j 0)) := by
    unfold fns fnsI
    rw [List.getElem?_append_right (by show 9 ≤ 9 + j; omega), show 9 + j - fnsT.length = j by show 9 + j - 9 = j; omega, List.getElem?_map, List.getElem?_range hj]
    rfl
  obtain ⟨fd, F⟩ := d.def_ (9 + j) hd
  have hf : fo j = "given" ∨ fo j = "index" := by
    unfold fo
    split
    · exact .inl rfl
    · exact .inr rfl
  obtain ⟨b1, b2⟩ := ini_bind (K := K) hf (show FunD K "__init__" (qns.getD j "") (iA (fo j) _ _) _ (iS (fo j)) [] [] _ fd from F)
  have G : FnOk P w K mg base CX0 1 (He.ma K (cA K j) "__init__") fd ["self", fo j] (spIni K (bM (ownOf j)) (fo j)) := by
    have F' : FunD K "__init__" (qns.getD j "") (iA (fo j) ⟨rows.getD j 0, 17, rows.getD j 0, 21⟩ ⟨rows.getD j 0, 23, rows.getD j 0, 28⟩) (iB (fo j) ⟨rows.getD j 0 + 1, 8, rows.getD j 0 + 1, 12⟩ ⟨rows.getD j 0 + 1, 8, rows.getD j 0 + 1, 18⟩ ⟨rows.getD j 0 + 1, 21, rows.getD j 0 + 1, 26⟩ ⟨rows.getD j 0 + 1, 8, rows.getD j 0 + 1, 26⟩) (iS (fo j)) [] [] (He.ma K (cA K j) "__init__") fd := F
    generalize fo j = f at F' hf
    rcases hf with rfl | rfl
    · exact ok_given (sfs _) F'
    · exact ok_index (sfs _) F'
  exact ⟨⟨_, _, _, _, _, _, fbs _, c.mkc j hj, c.st j hj, G, b1, b2⟩⟩
theorem fun_of {x : Str} {st : Stmt} {f : Addr} {fd : FuncData} (F : FunD K x x (defArgs st) (defBody st) (defScope st) [] [] f fd) : Fun K x x st f fd := by
  obtain ⟨⟨oc, od, dV, kV, doc, pm, an, cdv, ct, osl, rfl, lk, hcd, hD, hK⟩, kp⟩ := F
  rcases hD with ⟨_, rfl⟩ | ⟨e, _⟩
  · exact fun_mk lk hcd kp
  · exact absurd rfl e
theorem facts (X : K.In h) (G : h.Ns mainGlobals mg) {f : Addr} (hfa : mg "law" = some (.ref f)) (cc : allB K = true) (d : He.SaysD fas fns K) :
    ∃ fd : FuncData, (∀ (s : Shared) (v : Value), BindsTo s fd ⟨[v], []⟩ [("_law_cells", v)]) ∧ ∀ base : Heap, FnG P w K mg base 5 f fd ["_law_cells"] (spLaw K) := by
  have c := cs_of cc
  obtain ⟨fdU, FU⟩ := d.def_ 0 (d := topD "_law_urn" sUrn) rfl
  obtain ⟨fdD, FD⟩ := d.def_ 1 (d := topD "_law_dip" sDip) rfl
  obtain ⟨fdF, FF⟩ := d.def_ 2 (d := topD "_law_from" sFrom) rfl
  obtain ⟨fdA, FA⟩ := d.def_ 3 (d := topD "_law_firsts" sFirsts) rfl
  obtain ⟨fdB, FB⟩ := d.def_ 4 (d := topD "_law_seconds" sSeconds) rfl
  obtain ⟨fdK, FK⟩ := d.def_ 5 (d := topD "_law_kinds" sKinds) rfl
  obtain ⟨fdI, FI⟩ := d.def_ 6 (d := topD "_law_is_kind" sIsKind) rfl
  obtain ⟨fdR, FR⟩ := d.def_ 7 (d := topD "_law_right" sRight) rfl
  obtain ⟨fd, FL⟩ := d.def_ 8 (d := topD "law" sLaw) rfl
  have gl : ∀ (i : Nat) {x : Str}, fas[i]? = some (.glo x) → mg x = some (.ref (He.ga K x)) := fun i x q => He.glo_ok X G (d.fact i q)
  have fr : ∀ (i : Nat) {x : Str}, fas[i]? = some (.free x) → mg x = none := fun i x q => He.free_ok X G (d.fact i q)
  have it : ∀ (i : Nat) {x : Str} {z : Int}, fas[i]? = some (.int x z) → ∃ t, mg x = some (.int z t) := fun i x z q => He.int_ok X G (d.fact i q)
  have B : Bi mg := ⟨fr 20 rfl, fr 21 rfl, fr 22 rfl, fr 23 rfl⟩
  have T : Kinds K mg (cA K) (bA K) :=
    { g := fun j hj => PySem.W.mg_of X G (c.g j hj), g0 := gl 9 rfl, g1 := gl 10 rfl, g2 := gl 11 rfl, kit := c.kk, kitB := c.kb, kit0 := fun i hi => c.kt i 0 hi (by decide), kit1 := fun i hi => c.kt i 1 hi (by decide), kit2 := fun i hi => c.kt i 2 hi (by decide),
      ex := c.ex, isi := fr 24 rfl, ve := fr 25 rfl, le := fr 26 rfl, ae := fr 27 rfl, rng := fr 28 rfl }
  have e := hfa.symm.trans (gl 8 rfl)
  cases e
  have bL := FunD.bindsA (ps := ["_law_cells"]) FL fun _ _ _ _ _ _ us hl => match us, hl with | [_], _ => rfl
  refine ⟨fd, fun s v => bL s [v] rfl, fun base => ?_⟩
  have M1 : ∀ j, 0 ≤ j → j < 13 → Mkr P w K mg base (cA K j) "given" := fun j _ hj => by
    have m := mkr_of (P := P) (w := w) (mg := mg) (base := base) c d (j := j) (by omega)
    rw [show fo j = "given" from if_pos hj] at m
    exact m
  have M2 : ∀ j, 13 ≤ j → j < 20 → Mkr P w K mg base (cA K j) "index" := fun j h1 h2 => by
    have m := mkr_of (P := P) (w := w) (mg := mg) (base := base) c d (j := j) h2
    rw [show fo j = "index" from if_neg (by omega)] at m
    exact m
  have R : Rights P w K mg base (cA K) (bA K) :=
    { T := T, M1 := M1, M2 := M2, xf := fun j hj => c.xf j (by omega)
      no1 := fun j hj => by
        have m := c.no j (by omega)
        rw [show fo j = "given" from if_pos hj] at m
        exact m
      no2 := fun j h1 h2 => by
        have m := c.no j h2
        rw [show fo j = "index" from if_neg (by omega)] at m
        exact m
      z := fun j h1 h2 => by
        have m := c.pl (j - 20) (by omega)
        rw [show 20 + (j - 20) = j by omega] at m
        exact ⟨m, c.kp j (by omega)⟩
      rep := fr 29 rfl }
  have bU : Binds K fdU ["_law_cells", "_law_at"] [] := FU.bindsN fun _ _ _ _ _ _ us hl => match us, hl with | [_, _], _ => rfl
  have bD : Binds K fdD ["_law_urn_here", "_law_top"] [] := FD.bindsN fun _ _ _ _ _ _ us hl => match us, hl with | [_, _], _ => rfl
  have bF : Binds K fdF ["_law_urn_here", "_law_some"] [] := FF.bindsN fun _ _ _ _ _ _ us hl => match us, hl with | [_, _], _ => rfl
  have bA' : Binds K fdA ["_law_thing"] [] := FA.bindsN fun _ _ _ _ _ _ us hl => match us, hl with | [_], _ => rfl
  have bB : Binds K fdB ["_law_thing"] [] := FB.bindsN fun _ _ _ _ _ _ us hl => match us, hl with | [_], _ => rfl
  have bK : Binds K fdK ["_law_e"] [] := FK.bindsN fun _ _ _ _ _ _ us hl => match us, hl with | [_], _ => rfl
  have bI' : Binds K fdI ["_law_e", "_law_k"] [] := FI.bindsN fun _ _ _ _ _ _ us hl => match us, hl with | [_, _], _ => rfl
  have bR : Binds K fdR ["_law_urn_here"] [] := FR.bindsN fun _ _ _ _ _ _ us hl => match us, hl with | [_], _ => rfl
  have GU : FnOk P w K mg base CX0 1 _ fdU ["_law_cells", "_law_at"] (spUrn K) := ok_urn (fun_of FU) B
  have GF : FnOk P w K mg base CX0 2 _ fdF ["_law_urn_here", "_law_some"] (spFrom K) := ok_from (fun_of FF) B (gl 1 rfl) (fun_of FD) bD
  have GA : FnOk P w K mg base CX0 3 _ fdA ["_law_thing"] (spMade (cA K) 0 26 "given") := ok_firsts FA T M1
  have GB : FnOk P w K mg base CX0 3 _ fdB ["_law_thing"] (spMade (cA K) 13 14 "index") := ok_seconds FB T M2
  have GI : FnOk P w K mg base CX0 2 _ fdI ["_law_e", "_law_k"] (spIsKind (cA K)) := ok_isKind FI T (gl 5 rfl) FK bK
  have GR : FnG P w K mg base 4 _ fdR ["_law_urn_here"] spRight := ok_right FR R (gl 2 rfl) GF FF.kp bF (gl 3 rfl) GA FA.kp bA' (gl 4 rfl) GB FB.kp bB (gl 6 rfl) GI FI.kp bI'
  exact ok_law FL (gl 7 rfl) GR FR.kp bR (gl 0 rfl) GU FU.kp bU (it 12 rfl) (it 13 rfl) (it 14 rfl) (it 15 rfl) (it 16 rfl) (it 17 rfl) (it 18 rfl) (it 19 rfl)
    (fr 29 rfl) (fr 30 rfl) (fr 28 rfl) (fr 31 rfl) (fr 32 rfl) (fr 20 rfl)
end
end Ca
open PySem PySem.W PySem.Calls PyProof.Rows
theorem PySem.Challenge.cw_commonanswer_k01_limits_and_errors_holds : PySem.Challenge.rw_commonanswer_k01_limits_and_errors.Holds := by
  w_on; o_law
  refine HandSHeadRun.head_any (r := Ca.rowM) (q := view Ca.rowM.prog [44]) (H := Ca.hkM) (ob := Ca.obT) (M := 7000) (loose := Ca.namesM) (d := HandSHeadRun.topDef Ca.rowM.prog 44) (kwd := []) Ca.obT_eq
    (by kernel_rfl) (fun s => by kernel_rfl) Ca.runM (by kernel_rfl) (by kernel_rfl) (by kernel_rfl) (by rfl) (by first | assumption | decide +kernel) (by decide +kernel) ⟨rfl, rfl, rfl, rfl, rfl, by decide +kernel⟩ ?hw ?hc
  case hw => w_witness2
  case hc =>
    refine Att.attach_call (l := PySem.Challenge.rw_commonanswer_k01_limits_and_errors) (n := 63) rfl (by kernel_rfl) fun w s₀ s₁ mg mb fa o pm cd doc a vs ns G Y ho hd hcd hmg hobj hints hlen hg => ?_
    obtain ⟨K, KX, cc, d⟩ := Y
    have hmg' : mg ("law" : PySem.Str) = some (.ref fa) := by
      rw [← show (HandSHeadRun.topDef Ca.rowM.prog 44).name = ("law" : PySem.Str) by kernel_rfl]
      exact hmg
    obtain ⟨fd, hb, hF⟩ := Ca.facts (P := (PySem.Challenge.rw_commonanswer_k01_limits_and_errors).prog) (w := w) KX G.T.g hmg' cc d
    refine Ca.lawG (k := 5) KX G.T.g G.T.b G.T.builtins G.T.nolimit hg hobj hints (Nat.le_trans hlen (by decide)) ⟨rfl, by decide, by decide⟩ (fun base _ _ => hF base) hb (fun H hS => ⟨a, ns, rfl, hS, fun _ => rfl⟩)
