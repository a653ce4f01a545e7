import PyProof.Rows.All
import Wide.All
import OpenK.AllK
import Wide.FinOn
import HandS.Base
import HandS.Call
import HandS.List
import HandS.Comp
import HandS.Ends
import HandS.Words
import HandS.WordsList
import HandS.Defaults
import HandS.HeadEnd
import HandS.Dict
import PyProof.ReprRoads
import HandS.OwnEq
import HandS.IsInst
import PyProof.InstNe
import KE.KCallOwn
import HandS.Iter
import KE.GoesEnum
import HandS.ForMost
import HandS.Star
import HandS.Walk
import PySem.Challenge.RW_commonanswer_k07_whole_systems_changed
import HandS.TupAny
import HandS.Property
import PyProof.Rows.RegStrFacts
import KE.KRevSl
import HandS.Style
import PyProof.Rows.RegFStrParts
import PyProof.Rows.ReprOcc
import HandS.MakeKw
import HandS.Zip
import HandS.Head0
import HandS.Head1
import HandS.Head2
import HandS.HeadHook1
import HandS.HeadHook2
import HandS.Strs
set_option Elab.async false
set_option linter.all false
set_option maxRecDepth 100000
set_option maxHeartbeats 4000000
namespace Ca
open PySem L2
/-! ### a mid-condition at a statement, an expression, a test -/
def cutS (t : TS) : TS := fun D σ H => ∃ P : St → Hp → Prop, t { D with nx := P } σ H ∧ ∀ σ' H', P σ' H' → D.nx σ' H'
def cutE (t : TE) : TE := fun σ H Q => ∃ P : VK, t σ H P ∧ ∀ v H', P v H' → Q v H'
def cutT (t : TT) : TT := fun σ H Q => ∃ P : Bool → Hp → Prop, t σ H P ∧ ∀ b H', P b H' → Q b H'
theorem sp_mono {X : Cx} {pins : List (Addr × Obj)} {D : Ends} {P : St → Hp → Prop} {f : Flow} {s : Shared} (h : SP X pins { D with nx := P } f s) (k : ∀ σ' H', P σ' H' → D.nx σ' H') : SP X pins D f s := by
  cases f with
  | next => obtain ⟨σ', H', I, q⟩ := h; exact ⟨σ', H', I, k _ _ q⟩
  | brk => exact h
  | cont => exact h
  | ret u => exact h
theorem ps_cut {X : Cx} {st : Stmt} {t : TS} (h : PS X st t) : PS X st (cutS t) := ⟨fun pins s σ H D I q => by
  obtain ⟨P, q1, q2⟩ := q
  exact thn (h.run pins s σ H _ I q1) fun f s' z => sp_mono z q2⟩
theorem pss_cut {X : Cx} {st : List Stmt} {t : TS} (h : PSs X st t) : PSs X st (cutS t) := ⟨fun pins s σ H D I q => by
  obtain ⟨P, q1, q2⟩ := q
  exact thn (h.run pins s σ H _ I q1) fun f s' z => sp_mono z q2⟩
theorem pe_cut {X : Cx} {e : Expr} {t : TE} (h : PE X e t) : PE X e (cutE t) := ⟨fun pins s σ H Q I q => by
  obtain ⟨P, q1, q2⟩ := q
  exact thn (h.run pins s σ H _ I q1) fun u s' ⟨v, H', I', r, z⟩ => ⟨v, H', I', r, q2 _ _ z⟩⟩
theorem pt_cut {X : Cx} {e : Expr} {t : TT} (h : PT X e t) : PT X e (cutT t) := ⟨fun pins s σ H Q I q => by
  obtain ⟨P, q1, q2⟩ := q
  exact thn (h.run pins s σ H _ I q1) fun b s' ⟨H', I', z⟩ => ⟨H', I', q2 _ _ z⟩⟩

/-! ### heaps -/
/-- an urn stands at l -/
def Urn (H : Hp) (l : Addr) : Prop := ∃ g x n : Int, 0 ≤ g ∧ 0 ≤ x ∧ x < 2147483563 ∧ H l = some (.lst [.int g, .int x, .int n])
/-- all that was tracked, but what stands at l, is as it was -/
def Kept (l : Addr) (H H' : Hp) : Prop := ∀ b o, b ≠ l → H b = some o → H' b = some o
theorem Kept.refl (l : Addr) (H : Hp) : Kept l H H := fun _ _ _ h => h
theorem Kept.trans {l : Addr} {H H1 H2 : Hp} (a : Kept l H H1) (b : Kept l H1 H2) : Kept l H H2 := fun c o n h => b c o n (a c o n h)
theorem _root_.L2.Same.kept {l : Addr} {H H' : Hp} (a : Same H H') : Kept l H H' := fun c o _ h => a c o h
theorem Kept.upd {l : Addr} {H : Hp} {o : HO} : Kept l H (L2.upd H l o) := fun b u n h => by rw [upd_ne n]; exact h
theorem Kept.new {l p : Addr} {H : Hp} {o : HO} (h : H p = none) : Kept l H (L2.upd H p o) := fun b u _ e => by rw [upd_ne (ne_of_none e h)]; exact e
theorem _root_.L2.Same.new {p : Addr} {H : Hp} {o : HO} (h : H p = none) : Same H (L2.upd H p o) := fun b u e => by rw [upd_ne (ne_of_none e h)]; exact e
theorem Urn.same {H H' : Hp} {l : Addr} (u : Urn H l) (s : Same H H') : Urn H' l := by
  obtain ⟨g, x, n, h1, h2, h3, h⟩ := u
  exact ⟨g, x, n, h1, h2, h3, s _ _ h⟩
theorem Urn.some {H : Hp} {l : Addr} (u : Urn H l) : ∃ o, H l = some o := by
  obtain ⟨g, x, n, h1, h2, h3, h⟩ := u
  exact ⟨_, h⟩
/-- what is new stands apart from what stood, also behind changes at l -/
theorem Kept.free {l b : Addr} {H H' : Hp} (k : Kept l H H') (n : b ≠ l) (h : H' b = none) : H b = none := by
  cases q : H b with
  | none => rfl
  | some o => rw [k b o n q] at h; cases h

/-- the built-in names are still their own -/
structure Bi (mg : Str → Option Value) : Prop where
  len : mg "len" = none
  int : mg "int" = none
  abs : mg "abs" = none
  divmod : mg "divmod" = none

def spUrn (K : PySem.W.Frag) : Sp := fun vs H Q _ => ∃ (a : Addr) (ns : List Int) (k : Nat), vs = [.ref a, .int k] ∧ SqL K H a (ns.map V.int) ∧
  ∀ H' l, H l = none → Same H H' → Urn H' l → Q (.ref l) H'
def spDip : Sp := fun vs H Q _ => ∃ (l : Addr) (t : Int), vs = [.ref l, .int t] ∧ Urn H l ∧ 0 < t ∧ t < 1073741824 ∧
  ∀ H' r, Kept l H H' → Urn H' l → 0 ≤ r → r < t → Q (.int r) H'
def spFrom (K : PySem.W.Frag) : Sp := fun vs H Q _ => ∃ (l a : Addr) (xs : List V), vs = [.ref l, .ref a] ∧ Urn H l ∧ H a = some (.lst xs) ∧ a ≠ l ∧ 0 < xs.length ∧ xs.length < 1000 ∧
  ∀ H' (i : Nat) v, xs[i]? = some v → Kept l H H' → Urn H' l → Q v H'

theorem map_int_get {ns : List Int} {i : Nat} {y : V} (hi : (ns.map V.int)[i]? = some y) : ∃ z, y = V.int z := by
  rw [List.getElem?_map] at hi
  cases e : ns[i]? with
  | none => rw [e] at hi; cases hi
  | some z => rw [e] at hi; exact ⟨z, (Option.some.inj hi).symm⟩
theorem cut_int_get {ns : List Int} {lo hi : Option Int} {i : Nat} {y : V} (h : (cutV (ns.map V.int) lo hi)[i]? = some y) : ∃ z, y = V.int z := by
  have m := List.mem_of_getElem? h
  unfold cutV at m
  have m2 := List.mem_of_mem_drop (List.mem_of_mem_take m)
  obtain ⟨z, _, e⟩ := List.mem_map.mp m2
  exact ⟨z, e.symm⟩
end Ca
set_option Elab.async false
set_option linter.all false
set_option maxRecDepth 100000
set_option maxHeartbeats 4000000
namespace Ca
open PySem PySem.Spec PyProof.Rows L2
/-! ### defs that ask repr: called where no repr is under way -/
structure FnG (P : Program) (w : World) (K : PySem.W.Frag) (mg : Str → Option Value) (base : Heap) (k : Nat) (f : Addr) (fd : FuncData) (ps : List Str) (sp : Sp) : Prop where
  len : ∀ vs H Q E, sp vs H Q E → vs.length = ps.length
  run : ∀ (A : Around) (outer : List Env) (s : Shared) (H : Hp) (args : Args) (us : List Value) (vs : List V) (Q : VK), A.guards = some [] → Room k A → Env0 P w K mg base A outer s H → BindsTo s fd args (ps.zip us) → Vals vs us → sp vs H Q E0 →
    codeAny (model P w) A (.call (.ref f) args) (CR CX0 outer P w H s Q E0) s
theorem guards_deeper {A : Around} (h : A.guards = some []) (env : Env) : (A.deeper env).guards = some [] := by
  first | exact h | (simp [Around.deeper, h]; done)
/-- a def by its body: the body may ask that no repr is under way -/
theorem fnG_of {P : Program} {w : World} {K : PySem.W.Frag} {mg : Str → Option Value} {base : Heap} {k : Nat} {f : Addr} {x qual : Str} {params : Arguments} {body : List Stmt} {scope : Scope} {dvs : List V} {kws : List (Str × V)} {fd : FuncData} {N ps : List Str} {sp : Sp}
    (F : FunD K x qual params body scope dvs kws f fd) (S : FnScope N ps scope) (len : ∀ vs H Q E, sp vs H Q E → vs.length = ps.length)
    (hbody : ∀ (cdv : Value) (A : Around) (outer : List Env) (s : Shared) (H : Hp) (vs : List V) (Q : VK), (A.deeper (envOfC qual scope s.heap.objs.size f cdv)).guards = some [] → Room k (A.deeper (envOfC qual scope s.heap.objs.size f cdv)) → sp vs H Q E0 →
      ∃ t, PSs (cxOf CX0 P w K mg base N qual scope f cdv A outer s H E0) body t ∧ t { nx := fun _ H' => Q .non H', rt := Q } (start N vs) H) :
    FnG P w K mg base (k + 1) f fd ps sp := by
  obtain ⟨oc, od, dV, kV, doc, pm, an, cdv, ct, osl, rfl, lk, hcd, _, _⟩ := F.ex
  constructor
  · exact len
  · intro A outer s H args us vs Q hgd hr e0 hb r hsp
    have hl := len _ _ _ _ hsp
    have stays : ∀ b o, base.get? b = some o → s.heap.get? b = some o := fun b o e => (e0.bs b o e).1
    have KX : K.In s.heap := e0.mod.kin.keeps stays
    have kinds : ∀ y ∈ ps.zip us, scope.names.lookup y.1 = some .local ∨ (scope.names.lookup y.1 = some .cell ∧ ((cellsFrom (s.heap.objs.size + 1) scope.names []).lookup y.1).isSome = true) := by
      intro y hy
      obtain ⟨n, v⟩ := y
      cases S.par n (List.of_mem_zip hy).1 with
      | inl q => exact .inl q
      | inr q => exact .inr ⟨q, PySem.W.cellsFrom_some _ _ _ (.inl q)⟩
    refine codeAny_call_function hr.depth (KX _ _ lk) rfl S.co S.gen rfl (PySem.W.codeRec_of KX hcd) (hb _ _ _ _ ?_)
    refine wpAny_newFunctionEnv_cells S.kind kinds fun env he s1 x => ?_
    subst he
    refine ⟨(e0.mod.nolimit.keeps stays).keeps x.toInCall.keep, codeAny_func ?_⟩
    obtain ⟨t, ht, hq⟩ := hbody cdv A outer s H vs Q (guards_deeper hgd _) (hr.deeper _) hsp
    have I : Inv (cxOf CX0 P w K mg base N qual scope f cdv A outer s H E0) [] (start N vs) H s1 := inv_start S hr.hd e0 hl r x
    refine wpAny_mono (ht.run [] s1 (start N vs) H _ I hq) (fun fl s' hs => ?_) fun e s' hs => hs
    cases fl with
    | ret u =>
      obtain ⟨v, σ', H', J, rv, q⟩ := hs
      exact ⟨v, H', J.os, J.bare, J.base, J.hok, rv, q⟩
    | next =>
      obtain ⟨σ', H', J, q⟩ := hs
      exact ⟨.non, H', J.os, J.bare, J.base, J.hok, rfl, q⟩
    | brk => exact hs.elim fun _ z => z.elim fun _ y => y.2.elim
    | cont => exact hs.elim fun _ z => z.elim fun _ y => y.2.elim
section
variable {X : Cx} {k : Nat} {f : Addr} {fd : FuncData} {ps : List Str} {sp : Sp} {x : Str} {p pos : Pos} {e : Expr} {es : List Expr} {t : TA}
/-- a call of such a def -/
theorem pe_callG (F : FnG X.prog X.w X.K X.mg X.base k f fd ps sp) (hgd : X.A.guards = some []) (hr : Room k X.A) (hm : X.mg x = some (.ref f)) (hk : PySem.W.keepIn X.K (.ref f) = true) (hb : Binds X.K fd ps [])
    (ha : PA X (e :: es) t) (hg : Gl X x := by rfl) (hdb : (x == ("__debug__" : Str)) = false := by decide) (he : starEach (e :: es) X.env = (false, eval e X.env) :: starEach es X.env := by rfl) (hpl : (backTo pos (starEach es X.env)).any (·.1) = false := by rfl) :
    PE X (.Call (.Name x p) (e :: es) [] pos) (tCall sp [] E0 t) := by
  refine ⟨fun pins s σ H Q I h => ?_⟩
  refine wpAny_Call_Name_kw (ld_glob I hg hm ?_ hdb)
  refine PySem.W.callWith_K (h₀ := X.base) I.ok.mod.kin hk (thn (ha.run pos pins s σ H _ I h) fun us s1 z => ?_) he hpl
  obtain ⟨vs, H1, I1, r, q⟩ := z
  rw [List.append_nil] at q
  refine ⟨I1.kIn, ?_⟩
  have hl : us.length = ps.length := by
    rw [← r.length]
    exact F.len _ _ _ _ q
  have bd := hb s1 us I1.kIn (by rw [List.append_nil]; exact hl)
  rw [List.append_nil] at bd
  show wpAny _ _ (call (.ref f) us) _ _ _
  refine wpAny_call (codeAny_mono (F.run X.A X.stack s1 H1 ⟨us, []⟩ us vs Q hgd hr I1.env0 bd r q) fun res s' z => ?_)
  cases res with
  | error er => exact z.elim
  | ok fl =>
    cases fl with
    | ret u => exact I1.after z
    | next => exact z.elim
    | brk => exact z.elim
    | cont => exact z.elim
end
/-- the law's own call, where such a def is the law -/
theorem lawG {P : Program} {w : World} {K : PySem.W.Frag} {mg mb : Str → Option Value} {k : Nat} {fa a : Addr} {fd : FuncData} {x : Str} {sp : Sp} {s₁ : Shared} {vs : List Value} {ns : List Int}
    (KX : K.In s₁.heap) (hns : s₁.heap.Ns mainGlobals mg) (hb : s₁.heap.Ns builtinsNs mb) (hbb : ∀ x : Str, x ≠ "__name__" → mb x = bootBuiltins x) (hlim : s₁.heap.NoLimit) (hg : s₁.gens = #[])
    (ha : s₁.heap.get? a = some { cls := .type "list", data := .seq vs.toArray }) (hi : IntsAre vs ns) (hl : ns.length ≤ sizeLine) (hr : Room k callerA)
    (F : ∀ base : Heap, K.In base → base.Ns mainGlobals mg → FnG P w K mg base k fa fd [x] sp) (hbind : ∀ (s : Shared) (u : Value), BindsTo s fd ⟨[u], []⟩ [(x, u)])
    (hsp : ∀ H : Hp, SqL K H a (ns.map V.int) → sp [.ref a] H (fun v _ => v = .bl true) E0) :
    codeAny (model P w) callerA (.call (.ref fa) ⟨[.ref a], []⟩) (fun r s' => r = .ok (.ret (.bool true)) ∧ OldK s₁.heap s'.heap ∧ s'.os = s₁.os ∧ AllBare s'.gens) s₁ := by
  have rv := vals_ints hi
  -- whatever is tracked at first: nothing, or the script alone
  have go : ∀ H : Hp, (∀ b u, H b = some u → b = a ∧ u = .frz { cls := .type "list", data := .seq vs.toArray } (.lst (ns.map V.int)) ∧ K.lookup a = none) → SqL K H a (ns.map V.int) →
      codeAny (model P w) callerA (.call (.ref fa) ⟨[.ref a], []⟩) (fun r s' => r = .ok (.ret (.bool true)) ∧ OldK s₁.heap s'.heap ∧ s'.os = s₁.os ∧ AllBare s'.gens) s₁ := by
    intro H hH hS
    have hok : HOk P w H s₁.heap := fun b u z => by
      obtain ⟨rfl, rfl, _⟩ := hH b u z
      exact ⟨ha, by rw [List.length_map]; exact hl, vs, _, rv, ha⟩
    have free : ∀ {b : Addr} {o : Obj}, s₁.heap.get? b = some o → (∀ es ep, o.data ≠ .dict es ep → False) → H b = none := fun {b o} e d => by
      cases q : H b with
      | none => rfl
      | some u =>
        obtain ⟨rfl, _, _⟩ := hH b u q
        rw [ha] at e
        cases e
        exact (d #[] 0 (fun z => nomatch z)).elim
    have dictFree : ∀ {b : Addr} {m : Str → Option Value}, s₁.heap.Ns b m → (hidT s₁.heap H).Ns b m := fun {b m} z => by
      obtain ⟨o, es, ep, e, dd, r⟩ := z
      have n : H b = none := by
        cases q : H b with
        | none => rfl
        | some u =>
          obtain ⟨rfl, _, _⟩ := hH b u q
          rw [ha] at e
          cases e
          cases dd
      exact ⟨o, es, ep, hidT_get e n, dd, r⟩
    have hKb : K.In (hidT s₁.heap H) := fun b o e => hidT_get (KX b o e) (by
      cases q : H b with
      | none => rfl
      | some u =>
        obtain ⟨rfl, _, z⟩ := hH b u q
        rw [z] at e
        cases e)
    obtain ⟨mc, l1, l2⟩ := hlim
    have md : Mod K mg (hidT s₁.heap H) := { kin := hKb, glob := dictFree hns, blt := ⟨mb, dictFree hb, hbb⟩, nolimit := ⟨mc, dictFree l1, l2⟩ }
    have none' : ∀ b : Addr, b ∉ frs [] := fun b z => nomatch z
    have e0 : Env0 P w K mg (hidT s₁.heap H) callerA [] s₁ H :=
      { frames := rfl, mod := md, bs := fun b o e => of_hidT e, bsz := Nat.le_of_eq (hidT_size _ _), funs := trivial, frf := fun b z => (none' b z).elim, hok := hok, bare := .of_eq hg }
    have run := (F _ hKb (dictFree hns)).run callerA [] s₁ H ⟨[.ref a], []⟩ [.ref a] [.ref a] (fun v _ => v = .bl true) rfl hr e0 (hbind s₁ (.ref a)) (.cons rfl .nil) (hsp H hS)
    refine codeAny_mono run fun r s' z => ?_
    cases r with
    | error e => exact z.elim
    | ok fl =>
      cases fl with
      | next => exact z.elim
      | brk => exact z.elim
      | cont => exact z.elim
      | ret u =>
        obtain ⟨v, H', os, bare, un, hok', r', q⟩ := z
        obtain rfl : v = .bl true := q
        obtain rfl : u = Value.bool true := r'
        refine ⟨rfl, OldK.of_keep fun b o e => ?_, os, bare⟩
        cases q : H b with
        | none => exact un.keep b o e q (none' b) (by simp)
        | some y =>
          obtain ⟨rfl, rfl, _⟩ := hH b y q
          rw [ha] at e
          cases e
          exact (hok' b _ (un.frzs b _ _ q)).1
  cases hk : K.lookup a with
  | some o =>
    have e := KX a o hk
    rw [ha] at e
    cases e
    exact go (fun _ => none) (fun b u z => nomatch z) (.inr ⟨_, vs.toArray, _, hk, rfl, rfl, rfl, by rw [List.size_toArray, ← hi.length] at *; first | exact hl | omega, by simpa using rv⟩)
  | none =>
    refine go (fun b => if b = a then some (.frz { cls := .type "list", data := .seq vs.toArray } (.lst (ns.map V.int))) else none) (fun b u z => ?_) (.inl (.inr ⟨{ cls := .type "list", data := .seq vs.toArray }, if_pos rfl⟩))
    by_cases hb' : b = a
    · subst hb'
      have z' : some _ = some u := (if_pos rfl).symm.trans z
      exact ⟨rfl, (Option.some.inj z').symm, hk⟩
    · have z' : none = some u := (if_neg hb').symm.trans z
      cases z'
end Ca
set_option Elab.async false
set_option linter.all false
set_option maxRecDepth 100000
set_option maxHeartbeats 4000000
namespace Ca
open PySem PySem.Spec PyProof.Rows L2
/-- a key as data -/
def kd : Key → PyData
  | .inl i => .int i
  | .inr x => .str x
/-- a value whose repr is known: data without dicts, or a dict of such -/
inductive Rp (K : PySem.W.Frag) (H : Hp) : V → PyData → Prop
  | dat {v : V} {d : PyData} : Dp K H v d → SeqAt.shaped d = true → Rp K H v d
  | dic {p : Addr} {kvs : List (Key × V)} {ds : List PyData} : H p = some (.dK kvs) → DpAll K H (kvs.map (·.2)) ds → PyData.hasDictAll ds = false → Rp K H (.ref p) (.dict ((kvs.map fun kv => kd kv.1).zip ds))
def rRepr (K : PySem.W.Frag) : List V → Hp → VK → Prop := fun xs H Q => ∃ v d, xs = [v] ∧ Rp K H v d ∧ d.showable = true ∧ d.depth ≤ 64 ∧ d.shown.length ≤ sizeLine ∧ Q (.str d.shown) H
theorem dpAll_len {K : PySem.W.Frag} {H : Hp} : ∀ {vs : List V} {ds : List PyData}, DpAll K H vs ds → vs.length = ds.length
  | _, _, .nil => rfl
  | _, _, .cons _ t => congrArg Nat.succ (dpAll_len t)
section
variable {X : Cx} {pins : List (Addr × Obj)} {σ : L2.St} {H : Hp} {s : Shared}
/-- the keys and the values of a dict as they stand -/
theorem pairs_read {P : Program} {w : World} {h : Heap} : ∀ {es : List DictEntry} {ws : List (Key × Value)}, PySem.Pairs (mixKind P w) es ws →
    (∃ as, ReadsAll h (es.map (·.key)) (ws.map fun kv => kd kv.1) as) ∧ es.map (·.val) = ws.map (·.2)
  | _, _, .nil => ⟨⟨[], .nil⟩, rfl⟩
  | _, _, .cons (e := e) (kv := kv) hk hv t => by
    obtain ⟨⟨as, r⟩, q⟩ := pairs_read (h := h) t
    refine ⟨?_, by rw [List.map_cons, List.map_cons, q, hv]⟩
    obtain ⟨k, v⟩ := kv
    rcases keyIs_shape (show keyIs k e.key = true from hk) with ⟨i, t', ek, ev⟩ | ⟨x, t', ek, ev⟩
    · subst ek
      refine ⟨[] ++ as, ReadsAll.cons (as := []) ?_ r⟩
      show Reads h e.key (.int i) []
      rw [ev]
      exact Reads.int i t'
    · subst ek
      refine ⟨[] ++ as, ReadsAll.cons (as := []) ?_ r⟩
      show Reads h e.key (.str x) []
      rw [ev]
      exact Reads.str x t'
theorem kv_vals : ∀ {kvs : List (Key × V)} {ws : List (Key × Value)}, KV kvs ws → Vals (kvs.map (·.2)) (ws.map (·.2)) ∧ (kvs.map fun kv => kd kv.1) = ws.map fun kv => kd kv.1
  | _, _, .nil => ⟨.nil, rfl⟩
  | _, _, .cons r t => by
    obtain ⟨h1, h2⟩ := kv_vals t
    exact ⟨.cons r.2 h1, by rw [List.map_cons, List.map_cons, h2, r.1]⟩
theorem keys_plain : ∀ ws : List (Key × Value), PyData.hasDictAll (ws.map fun kv => kd kv.1) = false
  | [] => by simp only [List.map_nil, PyData.hasDictAll]
  | (.inl i, v) :: l => by
    show PyData.hasDictAll (.int i :: l.map fun kv => kd kv.1) = false
    simp only [PyData.hasDictAll, PyData.hasDict, Bool.false_or]
    exact keys_plain l
  | (.inr x, v) :: l => by
    show PyData.hasDictAll (.str x :: l.map fun kv => kd kv.1) = false
    simp only [PyData.hasDictAll, PyData.hasDict, Bool.false_or]
    exact keys_plain l
theorem call_repr (hgd : X.A.guards = some []) (hu : X.A.units + 200 < cLine) : CallR X (.builtin "repr") (rRepr X.K) := by
  intro pins s σ H xs us Q I r h
  obtain ⟨v, d, rfl, rp, sh, dp, sz, q⟩ := h
  cases r with
  | @cons _ u _ _ ru rr =>
    cases rr
    cases rp with
    | dat D sd =>
      obtain ⟨as, R⟩ := Dp.reads I d v u D ru
      have nd : d.hasDict = false := PyData.hasDict_of_canLay d (SeqAt.canLay_of_shaped sd)
      have fin : ∀ h' z tk, (∀ b o, s.heap.get? b = some o → h'.get? b = some o) → EP X pins σ Q (.str d.shown z) { s with heap := h', toks := tk } := fun h' z tk kp => ⟨.str d.shown, H, I.kept (t' := tk) kp, ⟨z, rfl⟩, q⟩
      cases R with
      | none => exact P.repr_of_none (by simpa only [PyData.shown] using fin s.heap s.toks _ (fun _ _ e => e))
      | bool b => exact P.repr_of_bool (by simpa only [PyData.shown] using fin s.heap s.toks _ (fun _ _ e => e))
      | int i t => exact P.repr_of_int (by simpa only [PyData.showable, decide_eq_true_eq] using sh) (by simpa only [PyData.shown] using fin s.heap s.toks _ (fun _ _ e => e))
      | str x t => exact P.repr_of_str (by simpa only [PyData.shown] using fin s.heap s.toks _ (fun _ _ e => e)) (by simpa only [PyData.shown] using sz)
      | list h1 h2 h3 h4 => exact repr_of_reads' (.list h1 h2 h3 h4) sh (PyData.noDict_hsm nd) hgd (by omega) (fun _ _ e => e) fin sz
      | tuple h1 h2 h3 h4 => exact repr_of_reads' (.tuple h1 h2 h3 h4) sh (PyData.noDict_hsm nd) hgd (by omega) (fun _ _ e => e) fin sz
      | dict h1 h2 h3 h4 h5 => exact repr_of_reads' (.dict h1 h2 h3 h4 h5) sh (PyData.noDict_hsm nd) hgd (by omega) (fun _ _ e => e) fin sz
    | @dic p kvs ds hp D nd =>
      obtain rfl : u = Value.ref p := ru
      obtain ⟨_, sys, ws, rel, o, es, ep, ho, hx, hd, _, ps, _⟩ := dk_of I.hok hp
      obtain ⟨rv, ek⟩ := kv_vals rel
      obtain ⟨⟨as, rk⟩, evs⟩ := pairs_read (h := s.heap) ps
      obtain ⟨bs, rvs⟩ := Dp.readsAll I ds _ _ D rv
      rw [← evs] at rvs
      have lz : (kvs.map fun kv => kd kv.1).length = ds.length := by
        rw [List.length_map, ← dpAll_len D, List.length_map]
      have z1 : ((kvs.map fun kv => kd kv.1).zip ds).map (·.1) = ws.map fun kv => kd kv.1 := by
        rw [← ek]
        exact List.map_fst_zip (Nat.le_of_eq lz)
      have z2 : ((kvs.map fun kv => kd kv.1).zip ds).map (·.2) = ds := List.map_snd_zip (Nat.le_of_eq lz.symm)
      have R : Reads s.heap (.ref p) (.dict ((kvs.map fun kv => kd kv.1).zip ds)) _ := Reads.dict ho hx.1 hd (by rw [z1]; exact rk) (by rw [z2]; exact rvs)
      generalize (kvs.map fun kv => kd kv.1).zip ds = kk at R z1 z2 sh dp sz q
      have hz' : (dictText (PyData.shownKv kk)).length ≤ sizeLine := by simpa only [PyData.shown] using sz
      obtain ⟨hs1, hs2⟩ := PyData.showableKv_split kk (by simpa only [PyData.showable] using sh)
      have nk : PyData.hasDictAll (kk.map (·.1)) = false := by
        rw [z1]
        exact keys_plain ws
      obtain ⟨b1, hb1, k1⟩ := ReprAllK.of_readsAll (prog := X.prog) (w := X.w) (by rw [z1]; exact rk : ReadsAll s.heap (es.toList.map (·.key)) (kk.map (·.1)) as) hs1 (fun y => by rw [nk] at y; cases y)
        (fun t ht => let ⟨e, he, hl⟩ := PyData.shownKv_key_le kk t ht; Nat.le_trans hl (Nat.le_trans (dictText_mem_le he) hz'))
      obtain ⟨b2, hb2, k2⟩ := ReprAllK.of_readsAll (prog := X.prog) (w := X.w) (by rw [z2]; exact rvs : ReadsAll s.heap (es.toList.map (·.val)) (kk.map (·.2)) bs) hs2 (fun y => by rw [z2, nd] at y; cases y)
        (fun t ht => let ⟨e, he, hl⟩ := PyData.shownKv_val_le kk t ht; Nat.le_trans hl (Nat.le_trans (dictText_mem_le he) hz'))
      have hb : ReadAtMost s.heap (PyData.depthKv kk) (b1 ++ b2) := (hb1.mono (PyData.depthAll_keys_le kk)).append (hb2.mono (PyData.depthAll_vals_le kk))
      have hna : p ∉ b1 ++ b2 := not_mem_of_deeper R (by simp only [PyData.depth]; omega) hb
      have dp' : PyData.depthKv kk + 1 ≤ 64 := by simpa only [PyData.depth] using dp
      have ent := ReprEntriesK.of_two es.toList _ _ (k1.more_le (fun b hb => List.mem_append_left _ hb) (PyData.depthAll_keys_le kk)) (k2.more_le (fun b hb => List.mem_append_right _ hb) (PyData.depthAll_vals_le kk))
      refine call_repr_slot (by omega) ⟨o, ho, hx.1⟩ F.slot_dict_repr ?_
      refine call_dict_reprK ho hx.1 hd sys hna ent hgd (fun b _ => Clear.nil b) (by show X.A.units + 1 + (PyData.depthKv kk + 1) < cLine; omega) (fun _ _ e => e) (fun h' z tk kp => ⟨_, _, rfl, ?_⟩) (by rw [← PyData.shownKv_eq]; exact hz')
      refine ⟨.str (PyData.dict kk).shown, H, I.kept (t' := tk) kp, ⟨z, ?_⟩, q⟩
      simp only [PyData.shown, PyData.shownKv_eq]
end
end Ca
set_option Elab.async false
set_option linter.all false
set_option maxRecDepth 100000
set_option maxHeartbeats 4000000
namespace Ca
open PySem PySem.Spec PyProof.Rows L2
/-! ### a < b < c < d -/
def tChain3 (r r' r'' : R2) (ta tb tc td : TE) : TE := fun σ H Q => ta σ H fun x H1 => tb σ H1 fun y H2 => r x y H2 fun z G3 => ∃ k, z = .bl k ∧
  (if k = true then tc σ G3 fun w' H4 => r' y w' H4 fun z' H5 => ∃ k', z' = .bl k' ∧ (if k' = true then td σ H5 fun x' H6 => r'' w' x' H6 Q else Q (.bl false) H5) else Q (.bl false) G3)
section
variable {X : Cx} {a b c d : Expr} {ta tb tc td : TE} {pos : Pos} {k : Nat} {f C : Addr} {fd : FuncData} {ps : List Str} {sp : Sp} {pins : List (Addr × Obj)} {σ : L2.St} {H : Hp} {s : Shared}
theorem pe_chain3 {op op' op'' : CmpOp} {r r' r'' : R2} (ho : OpR X (compareOp op) r) (ho' : OpR X (compareOp op') r') (ho'' : OpR X (compareOp op'') r'') (ha : PE X a ta) (hb : PE X b tb) (hc : PE X c tc) (hd : PE X d td)
    (hm : lastMarks [op, op', op''] [b, c, d] = false := by with_unfolding_all rfl) : PE X (.Compare a [op, op', op''] [b, c, d] pos) (tChain3 r r' r'' ta tb tc td) := by
  refine ⟨fun pins s σ H Q I h => ?_⟩
  refine Compare_chain (thn (ha.run pins s σ H _ I h) fun v s1 ⟨x, H1, I1, r1, q1⟩ => chain_link (thn (hb.run pins s1 σ H1 _ I1 q1) fun u s2 ⟨y, H2, I2, r2, q2⟩ =>
    thn (ho pins s2 σ H2 x y v u _ I2 r1 r2 q2) fun z0 s3 ⟨z, G3, J3, c3, k, e, w3⟩ => ?_)) hm
  subst e
  cases c3
  refine wpAny_truthy_bool ?_
  cases k with
  | false => exact ite_ff ⟨.bl false, G3, J3, rfl, w3⟩
  | true =>
    refine ite_tt (chain_link (thn (hc.run pins s3 σ G3 _ J3 w3) fun w' s4 ⟨z', H4, I4, r4, q4⟩ => thn (ho' pins s4 σ H4 y z' u w' _ I4 r2 r4 q4) fun z1 s5 ⟨z2, H5, I5, r5, k', e', q5⟩ => ?_))
    subst e'
    cases r5
    refine wpAny_truthy_bool ?_
    cases k' with
    | false => exact ite_ff ⟨.bl false, H5, I5, rfl, q5⟩
    | true => exact ite_tt (chain_last (thn (hd.run pins s5 σ H5 _ I5 q5) fun x' s6 ⟨z3, H6, I6, r6, q6⟩ => ho'' pins s6 σ H6 z' z3 w' x' Q I6 r4 r6 q6))
/-! ### own methods that the language itself calls -/
theorem own_call {A : Around} {us : List Value} {vs : List V} {Q : VK} (sub : Sub X k A) (F : FnOk X.prog X.w X.K X.mg X.base CX0 k f fd ps sp) (hb : Binds X.K fd ps []) (I : Inv X pins σ H s) (r : Vals vs us) (h : sp vs H Q E0) :
    wpAny (model X.prog X.w) A (call (.ref f) us) (EP X pins σ Q) X.xe s := by
  have env0 : Env0 X.prog X.w X.K X.mg X.base A X.stack s H := by
    have e := I.env0
    exact ⟨by rw [sub.fr]; exact e.frames, e.mod, e.bs, e.bsz, e.funs, e.frf, e.hok, e.bare⟩
  have hl : us.length = ps.length := by
    rw [← r.length]
    exact F.len _ _ _ _ h
  have bd := hb s us I.kIn (by rw [List.append_nil]; exact hl)
  rw [List.append_nil] at bd
  refine wpAny_call (codeAny_mono (F.run A X.stack s H ⟨us, []⟩ us vs Q E0 sub.room env0 bd r h) fun res s' z => ?_)
  cases res with
  | error e => exact pass0 pins σ H s e s' I z
  | ok fl =>
    cases fl with
    | ret u => exact I.after z
    | next => exact z.elim
    | brk => exact z.elim
    | cont => exact z.elim
end
/-- a value's type, for a comparison -/
inductive Ty (K : PySem.W.Frag) (H : Hp) : V → Value → Prop where
  | non : Ty K H .non (.type "NoneType")
  | bl (x : Bool) : Ty K H (.bl x) (.type "bool")
  | int (i : Int) : Ty K H (.int i) (.type "int")
  | str (x : Str) : Ty K H (.str x) (.type "str")
  | lst {a : Addr} {xs : List V} (e : SqL K H a xs) : Ty K H (.ref a) (.type "list")
  | tup {a : Addr} {xs : List V} (e : SqT K H a xs) : Ty K H (.ref a) (.type "tuple")
  | dic {a : Addr} {kvs : List (Key × V)} (e : H a = some (.dK kvs)) : Ty K H (.ref a) (.type "dict")
  | ins {a C dx : Addr} {fs : List (Str × V)} (e : H a = some (.ins C dx fs)) : Ty K H (.ref a) (.ref C)
section
variable {X : Cx} {k : Nat} {f C : Addr} {fd : FuncData} {ps : List Str} {sp : Sp} {pins : List (Addr × Obj)} {σ : L2.St} {H : Hp} {s : Shared}
theorem type_at {M : Model} {h : Heap} {a : Addr} {o : Obj} {t : Value} (e : h.get? a = some o) (c : o.cls = t) : PySem.W.Looks M h (typeOf (.ref a)) t := c ▸ (PySem.W.Looks.ld e).andThen .now
theorem ty_of {M : Model} {y : V} {u t : Value} (I : Inv X pins σ H s) (ry : RelV y u) (ty : Ty X.K H y t) : PySem.W.Looks M s.heap (typeOf u) t := by
  cases ty with
  | non => cases (show u = Value.none from ry); exact .of_pure rfl
  | bl b => cases (show u = Value.bool b from ry); exact .of_pure rfl
  | int i => obtain ⟨t, q⟩ := (show ∃ t, u = Value.int i t from ry); cases q; exact .of_pure rfl
  | str x => obtain ⟨t, q⟩ := (show ∃ t, u = Value.str x t from ry); cases q; exact .of_pure rfl
  | @lst a xs e =>
    cases (show u = Value.ref a from ry)
    obtain ⟨its, _, pl, _⟩ := I.list e
    obtain ⟨o, h1, h2, _⟩ := pl.isList
    exact type_at h1 h2
  | @tup a xs e =>
    cases (show u = Value.ref a from ry)
    obtain ⟨its, _, tt, _⟩ := I.tuple e
    obtain ⟨o, h1, h2, _⟩ := tt
    exact type_at h1 h2
  | @dic a kvs e =>
    cases (show u = Value.ref a from ry)
    obtain ⟨_, _, vs, _, o, es, ep, h1, h2, _⟩ := (show ObjOk X.prog X.w H s.heap a (.dK kvs) from I.hok a _ e)
    exact type_at h1 h2.1
  | @ins a C dx fs e =>
    cases (show u = Value.ref a from ry)
    obtain ⟨mA, O, _⟩ := ins_get I.hok e
    obtain ⟨od, J, _⟩ := O.look
    exact J.type
/-- o == y by the class's own __eq__, whose answer is True or False -/
def rEqO (K : PySem.W.Frag) (C : Addr) (sp : Sp) : R2 := fun x y H Q => ∃ a dx fs t, x = .ref a ∧ H a = some (.ins C dx fs) ∧ Ty K H y t ∧ PySem.W.notFirst K C t = true ∧ sp [x, y] H (fun v H' => ∃ b, v = .bl b ∧ Q v H') E0
theorem op_eqO (F : FnOk X.prog X.w X.K X.mg X.base CX0 k f fd ps sp) (hr : Room k X.A) (hs : PySem.W.findIn X.K (.ref C) "__eq__" = some (some (.ref f))) (hf : PySem.W.isFn X.K (.ref f) = true) (hb : Binds X.K fd ps []) : OpR X (compareOp .Eq) (rEqO X.K C sp) := by
  intro pins s σ H x y v u Q I rx ry h
  obtain ⟨a, dx, fs, t, rfl, e, ty, nf, q⟩ := h
  cases rx
  show wpAny (model X.prog X.w) X.A (richCompare .Eq (.ref a) u) (EP X pins σ Q) X.xe s
  obtain ⟨mA, O, _⟩ := ins_get I.hok e
  obtain ⟨od, J, _⟩ := O.look
  obtain ⟨m, hF⟩ := I.fr
  refine PySem.W.cmp_K (op := .Eq) (tb := t) hr.units0 hF I.ok.mod.kin J (ty_of I ry ty) nf hs hf ?_
  refine thn (own_call (vs := [.ref a, y]) ⟨hr, rfl⟩ F hb I (.cons rfl (.cons ry .nil)) q) fun w s' z => ?_
  obtain ⟨v, H', I', rv, b, ev, q'⟩ := z
  subst ev
  cases rv
  exact ⟨.bl b, H', I', rfl, q'⟩
/-- .. o != y, where the class has no __ne__ of its own -/
def rNeO (K : PySem.W.Frag) (C : Addr) (sp : Sp) : R2 := fun x y H Q => ∃ a dx fs t, x = .ref a ∧ H a = some (.ins C dx fs) ∧ Ty K H y t ∧ PySem.W.notFirst K C t = true ∧ sp [x, y] H (fun v H' => ∃ b, v = .bl b ∧ Q (.bl (!b)) H') E0
theorem ne_slot : Slot "object" "__ne__" "object.__ne__" := .of (owner := "object") (n := "__ne__") (by rw [typeLookup_type, builtinLookup_eq_fast]; kernel_rfl) (by decide +kernel) (by decide +kernel) (by decide +kernel) (by first | exact .inl (by decide +kernel) | exact .inr (by decide +kernel)) (by rw [isSubtype_type]; kernel_rfl)
theorem ne_try {prog : Program} {w : World} {A : Around} {E : Value → Shared → Prop} {x : Addr} {b : Value} {ox : Obj} {od : Option Obj} {K : PySem.W.Frag} {Q : Option Value → Shared → Prop} (X : K.In s.heap) (I : PySem.W.InstAt s.heap x ox C od) (hu : A.in1.units < cLine)
    (ho : PySem.W.instIn K (.ref x) (.type "object") = some true ∨ PySem.W.Looks (model prog w) s.heap (isInstance (.ref x) (.type "object")) true)
    (hn : PySem.W.findIn K (.ref C) "__ne__" = some (some (.builtin "object.__ne__"))) (hs : PySem.W.findIn K (.ref C) "__eq__" = some (some (.ref f))) (hf : PySem.W.isFn K (.ref f) = true)
    (h : wpAny (model prog w) A.in1 (call (.ref f) [.ref x, b]) (fun v s' => ∃ r, v = .bool r ∧ Q (some (.bool (!r))) s') E s) : wpAny (model prog w) A (tryCompare (.ref x) "__ne__" b) Q E s := by
  have hi : PySem.W.Looks (model prog w) s.heap (isInstance (.ref x) (.type "object")) true := ho.elim (PySem.W.looks_instIn X) id
  unfold tryCompare
  refine wpAny_bind ?_
  simp only [callSpecialIfBound?, bindSpecialIfBound?]
  refine wpAny_holding (wpAny_bind (wpAny_bind (wpAny_bind (I.type.here ((PySem.W.looks_findIn X hn).here ?_)))))
  refine wpAny_bind (wpAny_askSetting (wpAny_ite ?_))
  have core : wpAny (model prog w) A (call (.builtin "object.__ne__") ([.ref x] ++ [b])) (fun v s' => ∃ r, v = .bool r ∧ Q (some (.bool r)) s') E s := by
    refine wpAny_call (codeAny_call_builtin ne_slot.plain F.cmpEntry_ne (PySem.W.check_slot F.cmpKind_ne F.cmpSplit_ne hi (F.cmpArgs_ne _ _) ?_))
    unfold Builtin.«object.__ne__»
    repeat (first
      | with_reducible refine wpAny_cRoomFor hu ?_
      | (refine wpAny_bind (m := callSpecialIfBound? (.ref x) (Str.ofString "__eq__") [b])
          (PySem.W.ifBound_K X I hs hf (wpAny_mono h (fun r s' hr => by
            obtain ⟨b, rfl, hq⟩ := hr
            repeat (first | exact ⟨_, rfl, hq⟩ | exact hq | exact wpAny_pure ⟨_, rfl, hq⟩ | exact wpAny_truthy_bool ⟨_, rfl, hq⟩ | (refine wpAny_bind (m := truthy (.bool _)) (wpAny_truthy_bool ?_)) | wp_step)) fun _ _ e => e)))
      | wp_step)
  simp only [ne_slot.bind]
  have fin : wpAny (model prog w) A (call (.builtin "object.__ne__") ([.ref x] ++ [b]) >>= fun v => pure (some v)) (fun r s' => ∃ b, r = some (.bool b) ∧ Q (some (.bool b)) s') E s :=
    wpAny_bind (wpAny_mono core (fun v s' ⟨r, ev, q⟩ => wpAny_pure ⟨r, by rw [ev], q⟩) fun _ _ e => e)
  have fin2 := wpAny_mono (Q' := fun a s' => wpAny (model prog w) A (match a with
      | some Value.notImplemented => pure none
      | none => pure none
      | some r => pure (some r)) Q E s') fin (fun r s' ⟨b, e, q⟩ => by
    subst e
    exact wpAny_pure q) fun _ _ e => e
  split
  · exact wpAny_bind (wpAny_pure (wpAny_pure fin2))
  · exact wpAny_tryCatch (wpAny_bind (wpAny_pure (wpAny_pure fin2)))
theorem op_neO (F : FnOk X.prog X.w X.K X.mg X.base CX0 k f fd ps sp) (hr : Room (k + 1) X.A) (hn : PySem.W.findIn X.K (.ref C) "__ne__" = some (some (.builtin "object.__ne__"))) (hs : PySem.W.findIn X.K (.ref C) "__eq__" = some (some (.ref f))) (hf : PySem.W.isFn X.K (.ref f) = true)
    (ho : PySem.W.subIn X.K (.ref C) (.type "object") = some true) (hb : Binds X.K fd ps []) : OpR X (compareOp .NotEq) (rNeO X.K C sp) := by
  intro pins s σ H x y v u Q I rx ry h
  obtain ⟨a, dx, fs, t, rfl, e, ty, nf, q⟩ := h
  cases rx
  show wpAny (model X.prog X.w) X.A (richCompare .NotEq (.ref a) u) (EP X pins σ Q) X.xe s
  obtain ⟨mA, O, _⟩ := ins_get I.hok e
  obtain ⟨od, J, _⟩ := O.look
  have hi : PySem.W.Looks (model X.prog X.w) s.heap (isInstance (.ref a) (.type "object")) true := J.type.andThen (PySem.W.looks_subIn I.kIn ho)
  have one : wpAny (model X.prog X.w) X.A (tryCompare (.ref a) (cmpInfo .NotEq).2.1 u) (fun r s' => ∃ v, r = some v ∧ EP X pins σ Q v s') X.xe s := by
    refine ne_try I.kIn J (hr.in1).units0 (.inr hi) hn hs hf ?_
    refine thn (own_call (vs := [.ref a, y]) ⟨hr.in1, rfl⟩ F hb I (.cons rfl (.cons ry .nil)) q) fun w s' z => ?_
    obtain ⟨v, H', I', rv, b, ev, q'⟩ := z
    subst ev
    cases rv
    exact ⟨b, rfl, _, rfl, .bl (!b), H', I', rfl, q'⟩
  have two := ty_of (M := model X.prog X.w) I ry ty
  unfold richCompare
  simp only [oneThing_ref]
  refine wpAny_holding (wpAny_bind (wpAny_cRoomFor hr.units0 ?_))
  refine wpAny_bind (J.type.here (wpAny_bind (two.here ?_)))
  split
  · rename_i z
    have z2 : PySem.W.subIn X.K t (.ref C) = some false := by
      rcases Bool.or_eq_true_iff.mp nf with z3 | z3
      · rw [beq_iff_eq.mp z3] at z
        simp at z
      · exact beq_iff_eq.mp z3
    refine wpAny_bind ((PySem.W.looks_subIn I.kIn z2).here ?_)
    simp only [Bool.false_eq_true, if_false]
    exact wpAny_bind (thn one fun r s' ⟨v, ev, q⟩ => by
      subst ev
      exact wpAny_pure q)
  · refine wpAny_bind (wpAny_pure ?_)
    simp only [Bool.false_eq_true, if_false]
    exact wpAny_bind (thn one fun r s' ⟨v, ev, q⟩ => by
      subst ev
      exact wpAny_pure q)
theorem call_lenO (F : FnOk X.prog X.w X.K X.mg X.base CX0 k f fd ps sp) (hr : Room (k + 1) X.A) (hs : PySem.W.findIn X.K (.ref C) "__len__" = some (some (.ref f))) (hf : PySem.W.isFn X.K (.ref f) = true) (hb : Binds X.K fd ps []) :
    CallR X (.builtin "len") (fun xs H Q => ∃ a dx fs, xs = [.ref a] ∧ H a = some (.ins C dx fs) ∧ sp [.ref a] H (fun v H' => ∃ n : Nat, v = .int n ∧ (n : Int) < 2 ^ 63 ∧ Q (.int n) H') E0) := by
  intro pins s σ H xs us Q I r h
  obtain ⟨a, dx, fs, rfl, e, q⟩ := h
  obtain rfl := Vals.ref1 r
  obtain ⟨mA, O, _⟩ := ins_get I.hok e
  obtain ⟨od, J, _⟩ := O.look
  obtain ⟨m, hF⟩ := I.fr
  refine PySem.W.len_K hF I.ok.mod.kin J hs hf ?_
  refine thn (own_call (vs := [.ref a]) ⟨hr.in1, rfl⟩ F hb I (.cons rfl .nil) q) fun w s' z => ?_
  obtain ⟨v, H', I', rv, n, ev, hn, q'⟩ := z
  subst ev
  obtain ⟨t, rfl⟩ := (show ∃ t, w = Value.int n t from rv)
  exact ⟨⟨Int.natCast_nonneg n, hn⟩, .int n, H', I'.tok _, ⟨_, rfl⟩, q'⟩
theorem call_strO (F : FnOk X.prog X.w X.K X.mg X.base CX0 k f fd ps sp) (hr : Room (k + 2) X.A) (hs : PySem.W.findIn X.K (.ref C) "__str__" = some (some (.ref f))) (hf : PySem.W.isFn X.K (.ref f) = true) (hb : Binds X.K fd ps []) :
    CallR X (.type "str") (fun xs H Q => ∃ a dx fs, xs = [.ref a] ∧ H a = some (.ins C dx fs) ∧ sp [.ref a] H (fun v H' => ∃ x, v = .str x ∧ Q (.str x) H') E0) := by
  intro pins s σ H xs us Q I r h
  obtain ⟨a, dx, fs, rfl, e, q⟩ := h
  obtain rfl := Vals.ref1 r
  obtain ⟨mA, O, _⟩ := ins_get I.hok e
  obtain ⟨od, J, _⟩ := O.look
  refine PySem.W.kso_call (hr.in1.in1).units0 I.kIn J hs hf ?_
  refine thn (own_call (vs := [.ref a]) ⟨hr.in1.in1, rfl⟩ F hb I (.cons rfl .nil) q) fun w s' z => ?_
  obtain ⟨v, H', I', rv, x, ev, q'⟩ := z
  subst ev
  obtain ⟨t, rfl⟩ := (show ∃ t, w = Value.str x t from rv)
  exact ⟨.str x, H', I', ⟨_, rfl⟩, q'⟩
theorem call_boolO (F : FnOk X.prog X.w X.K X.mg X.base CX0 k f fd ps sp) (hr : Room (k + 2) X.A) (hs : PySem.W.findIn X.K (.ref C) "__bool__" = some (some (.ref f))) (hf : PySem.W.isFn X.K (.ref f) = true) (hb : Binds X.K fd ps []) :
    CallR X (.type "bool") (fun xs H Q => ∃ a dx fs, xs = [.ref a] ∧ H a = some (.ins C dx fs) ∧ sp [.ref a] H (fun v H' => ∃ b, v = .bl b ∧ Q (.bl b) H') E0) := by
  intro pins s σ H xs us Q I r h
  obtain ⟨a, dx, fs, rfl, e, q⟩ := h
  obtain rfl := Vals.ref1 r
  obtain ⟨mA, O, _⟩ := ins_get I.hok e
  obtain ⟨od, J, _⟩ := O.look
  obtain ⟨m, hF⟩ := I.fr
  have t : wpAny (model X.prog X.w) X.A.in1.in1 (truthy (.ref a)) (fun b s' => ∃ H', Inv X pins σ H' s' ∧ Q (.bl b) H') X.xe s := by
    refine PySem.W.truthy_K hF I.ok.mod.kin J hs hf ?_
    refine thn (own_call (vs := [.ref a]) ⟨hr.in1.in1, rfl⟩ F hb I (.cons rfl .nil) q) fun w s' z => ?_
    obtain ⟨v, H', I', rv, b, ev, q'⟩ := z
    subst ev
    cases rv
    exact ⟨H', I', q'⟩
  refine callType_codes (T := "bool") (Bi := Builtin.«object.__init__») (Q₁ := fun r s₁ => ∃ b H', r = .bool b ∧ Inv X pins σ H' s₁ ∧ Q (.bl b) H') PySem.F.called_bool (PySem.F.typeCall_bool_1 _) PySem.F.entry_object_init ?_ ?_
  · refine codeAny_of_tree ?_
    show wpAny _ X.A.in1.in1 (do checkBuiltinCall "bool.__new__" ⟨[.type "bool", .ref a], []⟩; again (.builtin "bool.__new__" ⟨[.type "bool", .ref a], []⟩)) _ _ s
    refine wpAny_bind (wpAny_of_eq (PySem.F.newCall_bool_1 _) (wpAny_pure ⟨plainId_quiet (by decide +kernel) _, codeAny_builtin PySem.F.entry_bool_new ?_⟩))
    rw [Around.under_plainId (by decide +kernel) _]
    unfold Builtin.«bool.__new__»
    have f1 := PySem.F.conv_sub_bool
    repeat (any_goals (first | assumption | (with_reducible refine wpAny_mono t (fun b s' hb => ?_) fun _ _ e => e) | wp_step))
    obtain ⟨H', I', q'⟩ := hb
    all_goals first | exact ⟨_, H', rfl, I', q'⟩ | skip
  · rintro obj s₁ ⟨b, H', rfl, I', hq⟩
    exact ⟨rfl, PySem.F.args_object_init_2 _ _, object_init_meets PySem.F.called_bool.init.lookup PySem.F.called_bool.made (by decide) X.prog X.w X.A.in1 _ s₁ ⟨rfl, rfl, .bl b, H', I', rfl, hq⟩⟩
end
end Ca
set_option Elab.async false
set_option linter.all false
set_option maxRecDepth 100000
set_option maxHeartbeats 4000000
namespace PySem
open Sem (wp)
/-- enumerate(v): its two new cells -/
theorem cx_enum_new {v : Value} {o : Obj} {H : Heap → Prop} (B : Begins v o H) :
    Meets (Builtin.«enumerate.__new__» ⟨[.type "enumerate", v], []⟩) (fun _ R s => H s.heap ∧
      R (.ok (.ret (.ref (s.heap.push o).objs.size))) { s with heap := (s.heap.push o).push { cls := .type "enumerate", data := .fields #[.none, .bool false, .ref s.heap.objs.size, rawInt 0, .none, .none] } }) :=
  .of_wp fun prog w A R s h => by
    obtain ⟨hp, g, d, tk, os⟩ := s
    obtain ⟨h1, h⟩ := h
    have z1 := sub_enumerate
    have z2 : ∀ {A' : Around} {E : Value → Shared → Prop} {Q : Value → Shared → Prop}, Q (.ref hp.objs.size) ⟨hp.push o, g, d, tk, os⟩ → wpAny (model prog w) A' (pyIter v) Q E ⟨hp, g, d, tk, os⟩ :=
      fun q => B.iter prog w _ _ ⟨hp, g, d, tk, os⟩ _ h1 q
    wp_walk using z2
    refine wpAny_stack_any fun st => wpAny_pure ?_
    split
    · rename_i c _ _ _ _ _
      cases (c == Value.type "enumerate") <;> (wp_walk using z2; exact ⟨_, rfl, h⟩)
    · wp_walk using z2
      exact ⟨_, rfl, h⟩
section
variable {prog : Program} {w : World} {A : Around} {E : Value → Shared → Prop} {s : Shared}
theorem cx_enum {v : Value} {o : Obj} {H : Heap → Prop} {Q : Value → Shared → Prop} (B : Begins v o H) (h1 : H s.heap)
    (h : ∀ h', IsEnum h' (s.heap.objs.size + 1) s.heap.objs.size 0 .none → h'.get? s.heap.objs.size = some o → h'.objs.size = s.heap.objs.size + 2 →
      (∀ b o, s.heap.get? b = some o → h'.get? b = some o) → Q (.ref (s.heap.objs.size + 1)) { s with heap := h' }) :
    wpAny (model prog w) A (call (.type "enumerate") [v]) Q E s := by
  refine callType_new F.called_enumerate (by decide) (F.typeCall_enumerate_1 _) (F.newCall_enumerate_1 _) (fun obj => F.args_object_init_2 obj _) F.entry_enumerate_new (cx_enum_new B) ⟨h1, ?_⟩
  have hSz : (s.heap.push o).objs.size = s.heap.objs.size + 1 := Heap.size_push ..
  show _ ∧ _
  rw [hSz]
  have hEn : IsEnum ((s.heap.push o).push { cls := .type "enumerate", data := .fields #[.none, .bool false, .ref s.heap.objs.size, rawInt 0, .none, .none] }) (s.heap.objs.size + 1) s.heap.objs.size 0 .none := by
    have z := Heap.get?_push_size (s.heap.push o) (o := { cls := .type "enumerate", data := .fields #[.none, .bool false, .ref s.heap.objs.size, rawInt 0, .none, .none] }) rfl
    rw [hSz] at z
    exact z
  exact ⟨⟨_, hEn, rfl⟩, h _ hEn (Heap.get?_push_of_some _ (Heap.get?_push_size _ B.free)) (by rw [Heap.size_push, hSz]) fun b o x => Heap.get?_push_of_some _ (Heap.get?_push_of_some _ x)⟩
end
end PySem
namespace Ca
open PySem PySem.Spec PyProof.Rows L2
/-! ### enumerate(tuple) -/
def IteT (K : PySem.W.Frag) (a : Addr) : It :=
  ⟨fun i H => ∃ (xs : List V) (x : V), SqT K H a xs ∧ xs[i]? = some x, fun i H v H' => ∃ T x, v = .ref T ∧ H T = none ∧ H' = upd H T (.tup [.int (i : Nat), x]) ∧ ∀ xs, SqT K H a xs → xs[i]? = some x, fun i H => ∃ xs : List V, SqT K H a xs ∧ xs.length = i⟩
theorem turn_enumT {P : Program} {w : World} {K : PySem.W.Frag} {elts : List Expr} {kk : Nat} {tpos : Pos} (a e it : Addr) :
    Turn P w K (.Tuple elts kk tpos) (IteT K a) [e, it] e (fun i h => (∃ was, IsEnum h e it ((i : Nat) : Int) was) ∧ h.IsTupleIter it a i ∧ e ≠ it) where
  mem := by simp
  obj := fun i h st b hb => by
    obtain ⟨⟨was, hEn⟩, ⟨o, ho, hc, hd⟩, _⟩ := st
    rcases (show b = e ∨ b = it by simpa using hb) with z | z
    · rw [z]; exact ⟨_, hEn, fun v q => nomatch q⟩
    · rw [z]; exact ⟨o, ho, fun v q => by rw [hd] at q; cases q⟩
  keep := fun i h h' st k => let ⟨⟨was, hEn⟩, hi, hne⟩ := st; ⟨⟨was, k e (by simp) _ hEn⟩, hi.at fun o q => k it (by simp) o q, hne⟩
  item := by
    intro X hP hw hK hc i pins s σ H E I hf st hg
    subst hP hw hK
    obtain ⟨⟨was, hEn⟩, hIt, hne⟩ := st
    obtain ⟨xs, x, hSq, hIx⟩ := hg
    obtain ⟨its, rVs, p, hSz⟩ := I.tuple hSq
    obtain ⟨u, hUu, rUu⟩ := rVs.get hIx
    have ltE : e < s.heap.objs.size := Heap.lt_size hEn
    have ltI : it < s.heap.objs.size := by obtain ⟨_, q, _⟩ := hIt; exact Heap.lt_size q
    have p' : s.heap.IsTuple a its.toArray := p
    have nai : a ≠ it := fun z => by
      obtain ⟨o1, q1, c1, _⟩ := p'
      obtain ⟨o2, q2, c2, _⟩ := hIt
      rw [z, q2] at q1
      cases q1
      rw [c1] at c2
      injection c2 with c2
      exact absurd c2 (by decide)
    have nae : e ≠ a := fun z => by
      obtain ⟨o1, q1, c1, _⟩ := p'
      rw [← z, hEn] at q1
      cases q1
      injection c1 with c1
      exact absurd c1 (by decide)
    have D := Draws.tuple (prog := X.prog) (w := X.w) (A := X.A.in1) (I.ok.hd hc) it a nai its.toArray
    have lt : i < its.toArray.size := by
      have := (Array.getElem?_eq_some_iff.mp (show its.toArray[i]? = some u by simpa using hUu)).1
      exact this
    refine wpAny_pyNext_enum_itemD D hEn ⟨hIt, p'⟩ lt hne (by simp [hne, nae]) fun u' h' tk hu' ho hit' hT hsz hk => ?_
    have eu : u' = u := by
      have z1 : its.toArray[i]? = some u' := hu'
      have z2 : its.toArray[i]? = some u := by simpa using hUu
      exact Option.some.inj (z1.symm.trans z2)
    subst eu
    refine ⟨_, rfl, wpAny_letOwnedTupleGo_enum (s := { s with heap := h', toks := tk + 1 }) ho fun h'' he' sm => ?_⟩
    have tT : h''.get? s.heap.objs.size = some { cls := .type "tuple", data := .seq #[.int i tk, u'] } := (sm.2 _ (Nat.ne_of_gt ltE)).trans hT
    have new : ObjOk X.prog X.w (upd H s.heap.objs.size (.tup [.int (i : Nat), x])) h'' s.heap.objs.size (.tup [.int (i : Nat), x]) :=
      ⟨by show 2 ≤ sizeLine; decide, [.int i tk, u'], .cons ⟨_, rfl⟩ (.cons rUu .nil), ⟨_, tT, rfl, _, rfl⟩⟩
    have J1 : Inv X pins σ (upd H s.heap.objs.size (.tup [.int (i : Nat), x])) { s with heap := h'', toks := tk + 1 } :=
      I.turnedNew (ch := [e, it]) (fun b ob hb q => (sm.2 b (fun z => hb (by simp [z]))).trans (hk b ob (fun z => hb (by simp [z])) (fun z => hb (by simp [z])) q)) hf (Nat.le_refl _) new
    refine ⟨.ref s.heap.objs.size, _, J1, rfl, ⟨_, x, rfl, I.hok.fresh (Nat.le_refl _), rfl, fun ys hy => by rw [I.tuple_inj hy hSq]; exact hIx⟩, ⟨⟨u', ?_⟩, hit'.1.at fun o q => (sm.2 it (Ne.symm hne)).trans q, hne⟩, fun b hb => ?_⟩
    · have e1 : ((i + 1 : Nat) : Int) = (i : Int) + 1 := by omega
      rw [e1]; exact he'
    · have hb' : b < s.heap.objs.size := by
        rcases (show b = e ∨ b = it by simpa using hb) with z | z
        · rw [z]; exact ltE
        · rw [z]; exact ltI
      rw [upd_ne (Nat.ne_of_lt hb')]
      exact (hf b hb).1
  done := by
    intro X hP hw hK hc i pins s σ H E I hf st hg
    subst hP hw hK
    obtain ⟨⟨was, hEn⟩, hIt, hne⟩ := st
    obtain ⟨xs, hSq, hIx⟩ := hg
    obtain ⟨its, rVs, p, hSz⟩ := I.tuple hSq
    obtain ⟨f0, f1, f2, f3, f4, f5⟩ := hf it (by simp)
    have hl := rVs.length
    have p' : s.heap.IsTuple a its.toArray := p
    have nai : a ≠ it := fun z => by
      obtain ⟨o1, q1, c1, _⟩ := p'
      obtain ⟨o2, q2, c2, _⟩ := hIt
      rw [z, q2] at q1
      cases q1
      rw [c1] at c2
      injection c2 with c2
      exact absurd c2 (by decide)
    have D := Draws.tuple (prog := X.prog) (w := X.w) (A := X.A.in1) (I.ok.hd hc) it a nai its.toArray
    have e1 : its.toArray.size = i := by simp; omega
    exact wpAny_pyNext_enum_endD D hEn ⟨by rw [e1]; exact hIt, p'⟩ fun h' eb => ⟨rfl, I.turned (t' := s.toks) (fun b o hb q => eb b o hb q) f0 f1 f3 f4 f5⟩
  self := fun A i s Q E st h => let ⟨⟨_, hEn⟩, _⟩ := st; wpAny_pyIter_enum hEn h
def iEnumT (K : PySem.W.Frag) (ta : TA) : TI := fun σ H R => ta σ H fun vs H1 => ∃ a xs, vs = [.ref a] ∧ SqT K H1 a xs ∧ R (IteT K a) H1
theorem pi_enumT {X : Cx} {e : Expr} {ta : TA} {p pos tpos : Pos} {elts : List Expr} {kk : Nat} (hg : Gl X "enumerate") (hm : X.mg "enumerate" = none) (ha : PA X [e] ta) (hs : starEach [e] X.env = [(false, eval e X.env)] := by rfl) :
    PI X (.Tuple elts kk tpos) (.Call (.Name "enumerate" p) [e] [] pos) (iEnumT X.K ta) := by
  refine ⟨fun pins s σ H R I h => ?_⟩
  refine Call_ (ld_blt I hg hm boot_enumerate (PyProof.Rows.callWith_type1 (thn (ha.run pos pins s σ H _ I h) fun us s1 ⟨vs, H1, J1, r1, q1⟩ => ?_) hs rfl))
  obtain ⟨a, xs, ex, hSq, q⟩ := q1
  subst ex
  cases r1 with
  | cons r rr =>
    cases rr
    cases r
    obtain ⟨its, rVs, p', hSz⟩ := J1.tuple hSq
    refine cx_enum (begins_tuple a its.toArray) (show s1.heap.IsTuple a its.toArray from p') fun h' hEn hIt hsz hk => wpAny_pyIter_enum hEn ?_
    have I2 : Inv X pins σ H1 { s1 with heap := h' } := J1.kept (t' := s1.toks) hk
    refine ⟨s1.heap.objs.size + 1, [s1.heap.objs.size + 1, s1.heap.objs.size], _, _, H1, rfl, I2, turn_enumT a (s1.heap.objs.size + 1) s1.heap.objs.size, ⟨⟨.none, hEn⟩, ⟨_, hIt, rfl, rfl⟩, Nat.succ_ne_self _⟩, fun b hb => ?_, q⟩
    have hle : s1.heap.objs.size ≤ b := by
      rcases (show b = s1.heap.objs.size + 1 ∨ b = s1.heap.objs.size by simpa using hb) with z | z
      · rw [z]; exact Nat.le_add_right _ _
      · rw [z]; exact Nat.le_refl _
    exact J1.fpOk hle (J1.hok.fresh hle)
end Ca
set_option Elab.async false
set_option linter.all false
set_option maxRecDepth 100000
set_option maxHeartbeats 4000000
namespace Ca
open PySem L2
/-! ### values as data, dicts among them -/
mutual
inductive Dq (K : PySem.W.Frag) (H : Hp) : V → PyData → Prop
  | non : Dq K H .non .none
  | bl (b : Bool) : Dq K H (.bl b) (.bool b)
  | int (i : Int) : Dq K H (.int i) (.int i)
  | str (x : Str) (h : x.length ≤ 1000) : Dq K H (.str x) (.str x)
  | lst {a : Addr} {xs : List V} {ds : List PyData} : SqL K H a xs → DqAll K H xs ds → Dq K H (.ref a) (.list ds)
  | tup {a : Addr} {xs : List V} {ds : List PyData} : SqT K H a xs → DqAll K H xs ds → Dq K H (.ref a) (.tuple ds)
  | dic {a : Addr} {kvs : List (Key × V)} : H a = some (.dK kvs) → Dq K H (.ref a) (.dict [])
inductive DqAll (K : PySem.W.Frag) (H : Hp) : List V → List PyData → Prop
  | nil : DqAll K H [] []
  | cons {v : V} {vs : List V} {d : PyData} {ds : List PyData} : Dq K H v d → DqAll K H vs ds → DqAll K H (v :: vs) (d :: ds)
end
theorem same_sqt {K : PySem.W.Frag} {H H' : Hp} {a : Addr} {xs : List V} (s : Same H H') (h : SqT K H a xs) : SqT K H' a xs := h.ext s
mutual
theorem Dq.same {K : PySem.W.Frag} {H H' : Hp} (s : Same H H') : ∀ {d : PyData} {v : V}, Dq K H v d → Dq K H' v d
  | .none, _, h => by cases h; exact .non
  | .bool b, _, h => by cases h; exact .bl b
  | .int i, _, h => by cases h; exact .int i
  | .str x, _, h => by cases h with | str _ a => exact .str x a
  | .list ds, _, h => by
    cases h with
    | lst a b => exact .lst (s.seq a) (DqAll.same s b)
  | .tuple ds, _, h => by
    cases h with
    | tup a b => exact .tup (same_sqt s a) (DqAll.same s b)
  | .dict ds, _, h => by
    cases h with
    | dic a => exact .dic (s _ _ a)
theorem DqAll.same {K : PySem.W.Frag} {H H' : Hp} (s : Same H H') : ∀ {ds : List PyData} {vs : List V}, DqAll K H vs ds → DqAll K H' vs ds
  | [], _, h => by cases h; exact .nil
  | d :: ds, _, h => by
    cases h with
    | cons a b => exact .cons (Dq.same s a) (DqAll.same s b)
end
theorem DqAll.len {K : PySem.W.Frag} {H : Hp} : ∀ {vs : List V} {ds : List PyData}, DqAll K H vs ds → vs.length = ds.length
  | _, _, .nil => rfl
  | _, _, .cons _ t => congrArg Nat.succ t.len
theorem DqAll.get {K : PySem.W.Frag} {H : Hp} : ∀ {vs : List V} {ds : List PyData} {i : Nat} {v : V}, DqAll K H vs ds → vs[i]? = some v → ∃ d, ds[i]? = some d ∧ Dq K H v d
  | _, _, 0, _, .cons a _, e => by
    cases e
    exact ⟨_, rfl, a⟩
  | _, _, i + 1, _, .cons _ t, e => t.get (i := i) e
theorem DqAll.app {K : PySem.W.Frag} {H : Hp} : ∀ {vs ws : List V} {ds es : List PyData}, DqAll K H vs ds → DqAll K H ws es → DqAll K H (vs ++ ws) (ds ++ es)
  | _, _, _, _, .nil, h => h
  | _, _, _, _, .cons a t, h => .cons a (t.app h)
def tyOf : PyData → String
  | .none => "NoneType"
  | .bool _ => "bool"
  | .int _ => "int"
  | .str _ => "str"
  | .list _ => "list"
  | .tuple _ => "tuple"
  | .dict _ => "dict"
theorem Dq.ty {K : PySem.W.Frag} {H : Hp} {v : V} {d : PyData} (h : Dq K H v d) : Ty K H v (.type (tyOf d)) := by
  cases h with
  | non => exact .non
  | bl b => exact .bl b
  | int i => exact .int i
  | str x h => exact .str x
  | lst a b => exact .lst a
  | tup a b => exact .tup a
  | dic a => exact .dic a
theorem tyx_l {K : PySem.W.Frag} {H : Hp} {a : Addr} {xs : List V} (h : SqL K H a xs) : TyX K H (.ref a) (.type "list") := by
  rcases h with (e | ⟨o, e⟩) | ⟨o, _, _, e, c, _⟩
  · exact .base (.lst e)
  · exact .base (.frz e)
  · exact .kList e c
theorem tyx_t {K : PySem.W.Frag} {H : Hp} {a : Addr} {xs : List V} (h : SqT K H a xs) : TyX K H (.ref a) (.type "tuple") := by
  rcases h with (e | ⟨o, e⟩) | ⟨o, _, _, e, c, _⟩
  · exact .base (.tup e)
  · exact .fTuple e
  · exact .kTuple e c
theorem Dq.tyx {K : PySem.W.Frag} {H : Hp} {v : V} {d : PyData} (h : Dq K H v d) : TyX K H v (.type (tyOf d)) := by
  cases h with
  | non => exact .base .non
  | bl b => exact .base (.bl b)
  | int i => exact .base (.int i)
  | str x h => exact .base (.str x)
  | lst a b => exact tyx_l a
  | tup a b => exact tyx_t a
  | dic a => exact .base (.dK a)
def isInt : PyData → Bool
  | .int _ => true
  | _ => false
def isBool : PyData → Bool
  | .bool _ => true
  | _ => false
def isStr : PyData → Bool
  | .str _ => true
  | _ => false
def isTup : PyData → Bool
  | .tuple _ => true
  | _ => false
theorem kit_int : ∀ d : PyData, kitB (tyOf d) "int" = some (isInt d || isBool d)
  | .none => (by decide +kernel : kitB "NoneType" "int" = some false)
  | .bool _ => (by decide +kernel : kitB "bool" "int" = some true)
  | .int _ => (by decide +kernel : kitB "int" "int" = some true)
  | .str _ => (by decide +kernel : kitB "str" "int" = some false)
  | .list _ => (by decide +kernel : kitB "list" "int" = some false)
  | .tuple _ => (by decide +kernel : kitB "tuple" "int" = some false)
  | .dict _ => (by decide +kernel : kitB "dict" "int" = some false)
theorem kit_bool : ∀ d : PyData, kitB (tyOf d) "bool" = some (isBool d)
  | .none => (by decide +kernel : kitB "NoneType" "bool" = some false)
  | .bool _ => (by decide +kernel : kitB "bool" "bool" = some true)
  | .int _ => (by decide +kernel : kitB "int" "bool" = some false)
  | .str _ => (by decide +kernel : kitB "str" "bool" = some false)
  | .list _ => (by decide +kernel : kitB "list" "bool" = some false)
  | .tuple _ => (by decide +kernel : kitB "tuple" "bool" = some false)
  | .dict _ => (by decide +kernel : kitB "dict" "bool" = some false)
theorem kit_str : ∀ d : PyData, kitB (tyOf d) "str" = some (isStr d)
  | .none => (by decide +kernel : kitB "NoneType" "str" = some false)
  | .bool _ => (by decide +kernel : kitB "bool" "str" = some false)
  | .int _ => (by decide +kernel : kitB "int" "str" = some false)
  | .str _ => (by decide +kernel : kitB "str" "str" = some true)
  | .list _ => (by decide +kernel : kitB "list" "str" = some false)
  | .tuple _ => (by decide +kernel : kitB "tuple" "str" = some false)
  | .dict _ => (by decide +kernel : kitB "dict" "str" = some false)
theorem kit_tup : ∀ d : PyData, kitB (tyOf d) "tuple" = some (isTup d)
  | .none => (by decide +kernel : kitB "NoneType" "tuple" = some false)
  | .bool _ => (by decide +kernel : kitB "bool" "tuple" = some false)
  | .int _ => (by decide +kernel : kitB "int" "tuple" = some false)
  | .str _ => (by decide +kernel : kitB "str" "tuple" = some false)
  | .list _ => (by decide +kernel : kitB "list" "tuple" = some false)
  | .tuple _ => (by decide +kernel : kitB "tuple" "tuple" = some true)
  | .dict _ => (by decide +kernel : kitB "dict" "tuple" = some false)
section
variable {K : PySem.W.Frag} {σ : L2.St} {H : Hp} {v : V} {d : PyData} {i : Nat}
theorem rd_isd {n : String} {b : Bool} {Q : VK} (h : Dq K H v d) (hv : σ[i]? = some (some v)) (hk : kitB (tyOf d) n = some b) (q : Q (.bl b) H) : tCB (rIsi K) (tCons (tVar i) (tCons (tC (.ty n)) tNil)) σ H Q :=
  ⟨_, hv, v, .ty n, _, _, b, rfl, .ty n, h.tyx, kit_ty hk, q⟩
end
/-- a def that tells something of a value -/
def spIs (K : PySem.W.Frag) (f : PyData → Bool) : Sp := fun vs H Q _ => ∃ v d, vs = [v] ∧ Dq K H v d ∧ ∀ H', Same H H' → Q (.bl (f d)) H'
def spIs2 (K : PySem.W.Frag) (f : PyData → Nat → Bool) : Sp := fun vs H Q _ => ∃ v d m, vs = [v, .int (m : Nat)] ∧ m ≤ 1000 ∧ Dq K H v d ∧ ∀ H', Same H H' → Q (.bl (f d m)) H'
end Ca
set_option Elab.async false
set_option linter.all false
set_option maxRecDepth 100000
set_option maxHeartbeats 4000000
namespace Ca
open PySem L2
theorem walk_enumT {K : PySem.W.Frag} {a : Addr} {xs : List V} : Walk (IteT K a) xs.length (fun H => SqT K H a xs) (fun i H v H' => ∃ T x, v = .ref T ∧ H T = none ∧ H' = upd H T (.tup [.int (i : Nat), x]) ∧ xs[i]? = some x) :=
  ⟨fun i _ hi q => ⟨xs, xs[i], q, by simp [hi]⟩, fun _ q => ⟨xs, q, rfl⟩, fun _ _ _ _ _ q y => by
    obtain ⟨T, x, e1, e2, e3, e4⟩ := y
    exact ⟨T, x, e1, e2, e3, e4 xs q⟩⟩
/-- a comprehension without a test, whose items are known ahead -/
theorem lc_known {J : It} {n : Nat} {G : Hp → Prop} {Y : Nat → Hp → V → Hp → Prop} (w : Walk J n G Y) {te : TE} {vs : List Nat} {σ : L2.St} {H1 : Hp} {D : Addr} {Qd : Hp → Prop} {j : Nat} (f : Nat → V) (hn : n ≤ 100000) (hD : H1 D = none) (hG : ∀ H, Same H1 H → G H)
    (hY : ∀ i H x H', Y i H x H' → Same H H') (hw : ∀ x, wipe ((wipe σ vs).set j (some x)) vs = wipe σ vs)
    (hs : ∀ i x H H' (Qk : VK), i < n → Same H1 H → Y i H x H' → (∀ H4, Same H' H4 → Qk (f i) H4) → te ((wipe σ vs).set j (some x)) H' Qk) (hd : ∀ H, Same H1 H → H D = some (.lst ((List.range n).map f)) → Qd H) :
    ∃ W : Nat → Nat → Hp → Prop, (∃ m, W 0 m (upd H1 D (.lst []))) ∧ ∀ i m H, W i m H →
      (J.stop i H ∧ Qd H) ∨ (J.go i H ∧ ∃ Nx : Hp → Prop, (∀ H', Nx H' → ∃ m', m' < m ∧ W (i + 1) m' H') ∧ ∀ x H', J.yld i H x H' → gName j x (wipe σ vs) H' fun σ2 H2 => wipe σ2 vs = wipe σ vs ∧ tYes σ2 H2 fun b H3 =>
        if b = true then te σ2 H3 fun y H4 => ∃ acc, H4 D = some (.lst acc) ∧ acc.length < sizeLine ∧ Nx (upd H4 D (.lst (acc ++ [y]))) else Nx H3) :=
  lc_it w (fun i H => Same H1 H ∧ H D = some (.lst ((List.range i).map f))) ⟨Same.new hD, upd_same⟩ (fun i H hi p => hG H p.1) (fun i x H H' hi p y => ⟨hw x, rd_yes' (hs i x H H' _ hi p.1 y fun H4 s4 => by
    have t := hY i H x H' y
    refine ⟨_, s4 _ _ (t _ _ p.2), ?_, fun b o e => ?_, ?_⟩
    · rw [List.length_map, List.length_range]
      exact Nat.lt_of_lt_of_le (Nat.lt_of_lt_of_le hi hn) (by decide)
    · rw [upd_ne (ne_of_none e hD)]
      exact s4 _ _ (t _ _ (p.1 _ _ e))
    · rw [upd_same, List.range_succ, List.map_append]
      rfl)⟩) fun H p => hd H p.1 p.2
where
  rd_yes' {A B : Hp → Prop} {σ : L2.St} {H : Hp} (h : A H) : tYes σ H (fun b H3 => if b = true then A H3 else B H3) := by
    show (if true = true then A H else B H)
    rw [if_pos rfl]
    exact h
end Ca
set_option Elab.async false
set_option linter.all false
set_option maxRecDepth 100000
namespace Ca
open PySem L2
def top (i : Nat) : Stmt := PySem.Challenge.pw_commonanswer_k07_whole_systems_changed.main.body.getD i (.Pass ⟨0, 0, 0, 0⟩)
def inner (s : Stmt) (j : Nat) : Stmt := match s with
  | .ClassDef _ _ _ body _ _ _ _ _ _ _ => body.getD j (.Pass ⟨0, 0, 0, 0⟩)
  | s => s
abbrev sWall : Stmt := top 0
abbrev mInvalidTextInit : Stmt := inner (top 3) 0
abbrev mInvalidChangeInit : Stmt := inner (top 4) 0
abbrev mInvalidUnknownsInit : Stmt := inner (top 5) 0
abbrev mInvalidRowsInit : Stmt := inner (top 6) 0
abbrev sIsInteger : Stmt := top 15
abbrev sIsTupleOf : Stmt := top 16
abbrev sIsOneOf : Stmt := top 17
abbrev sIsName : Stmt := top 18
abbrev sIsUnknown : Stmt := top 19
abbrev sIsStretch : Stmt := top 20
abbrev sIsRow : Stmt := top 21
abbrev sIsChange : Stmt := top 22
abbrev sCheckUnknowns : Stmt := top 23
abbrev sCheckRows : Stmt := top 24
abbrev sRowWith : Stmt := top 25
abbrev sLineOf : Stmt := top 26
abbrev sIntegerIn : Stmt := top 27
abbrev sRowIn : Stmt := top 28
abbrev mSystemInit : Stmt := inner (top 29) 0
abbrev mSystemRead : Stmt := inner (top 29) 1
abbrev mSystemUnknowns : Stmt := inner (top 29) 2
abbrev mSystemRows : Stmt := inner (top 29) 3
abbrev mSystemNames : Stmt := inner (top 29) 4
abbrev mSystemLen : Stmt := inner (top 29) 5
abbrev mSystemBool : Stmt := inner (top 29) 6
abbrev mSystemStr : Stmt := inner (top 29) 7
abbrev mSystemEq : Stmt := inner (top 29) 8
abbrev mSystemChanged : Stmt := inner (top 29) 9
abbrev mSystemWithout : Stmt := inner (top 29) 10
abbrev mSystemMore : Stmt := inner (top 29) 11
abbrev sLawUrn : Stmt := top 31
abbrev sLawDip : Stmt := top 32
abbrev sLawFrom : Stmt := top 33
abbrev sLawUnlike : Stmt := top 34
abbrev sLawStretch : Stmt := top 35
abbrev sLawLine : Stmt := top 36
abbrev sLawCase : Stmt := top 37
abbrev sLawMade : Stmt := top 38
abbrev sLawPage : Stmt := top 39
abbrev sLawChanged : Stmt := top 40
abbrev sLawRight : Stmt := top 41
abbrev sLaw : Stmt := top 42
end Ca
set_option Elab.async false
set_option linter.all false
set_option maxRecDepth 100000
set_option maxHeartbeats 4000000
namespace Ca
open PySem L2
abbrev FnT (K : PySem.W.Frag) (x : Str) (st : Stmt) (f : Addr) (fd : FuncData) : Prop := FunD K x x (defArgs st) (defBody st) (defScope st) [] [] f fd
/-- the built-in names that these defs read -/
structure Bn (mg : Str → Option Value) : Prop where
  isi : mg "isinstance" = none
  int : mg "int" = none
  bool : mg "bool" = none
  str : mg "str" = none
  tup : mg "tuple" = none
  len : mg "len" = none
  all : mg "all" = none
  enum : mg "enumerate" = none
def isTupN : PyData → Nat → Bool
  | .tuple ds, m => decide (ds.length = m)
  | _, _ => false
section
variable {P : Program} {w : World} {K : PySem.W.Frag} {mg : Str → Option Value} {base : Heap}
theorem scIsInteger : FnScope ["value"] ["value"] (defScope sIsInteger) := ⟨rfl, rfl, rfl, by decide +kernel, rfl, by decide +kernel, by decide +kernel⟩
theorem ok_isInteger {f : Addr} {fd : FuncData} (F : FnT K "is_integer" sIsInteger f fd) (B : Bn mg) : FnOk P w K mg base CX0 1 f fd ["value"] (spIs K isInt) := by
  refine F.ok scIsInteger (fun vs H Q E h => ?_) (fun cdv A outer s H vs Q E hr h => ?_)
  · obtain ⟨v, d, rfl, _⟩ := h
    rfl
  · obtain ⟨v, d, rfl, hd, q⟩ := h
    have q0 := q H (fun _ _ e => e)
    refine ⟨_, PSs.nox (pss_one (ps_ret (pe_and (pe_callB call_isi (by rfl) B.isi PyProof.Rows.boot_isinstance (pa_cons (pv 0) (pa_cons (pe_bltn (v := .ty "int") (by rfl) B.int (by decide +kernel) rfl) pa_nil)))
      (pe_one (pe_not (pe_callB call_isi (by rfl) B.isi PyProof.Rows.boot_isinstance (pa_cons (pv 0) (pa_cons (pe_bltn (v := .ty "bool") (by rfl) B.bool (by decide +kernel) rfl) pa_nil)))))))), ?_⟩
    refine rd_isd hd rfl (kit_int d) ⟨_, rfl, ?_⟩
    cases d with
    | int i => exact iteT (rd_isd hd rfl (kit_bool _) ⟨_, rfl, q0⟩)
    | bool b => exact iteT (rd_isd hd rfl (kit_bool _) ⟨_, rfl, q0⟩)
    | _ => exact iteF q0
theorem scIsTupleOf : FnScope ["value", "many"] ["value", "many"] (defScope sIsTupleOf) := ⟨rfl, rfl, rfl, by decide +kernel, rfl, by decide +kernel, by decide +kernel⟩
theorem ok_isTupleOf {f : Addr} {fd : FuncData} (F : FnT K "is_tuple_of" sIsTupleOf f fd) (B : Bn mg) : FnOk P w K mg base CX0 1 f fd ["value", "many"] (spIs2 K isTupN) := by
  refine F.ok scIsTupleOf (fun vs H Q E h => ?_) (fun cdv A outer s H vs Q E hr h => ?_)
  · obtain ⟨v, d, m, rfl, _⟩ := h
    rfl
  · obtain ⟨v, d, m, rfl, hm, hd, q⟩ := h
    have q0 := q H (fun _ _ e => e)
    refine ⟨_, PSs.nox (pss_one (ps_ret (pe_and (pe_callB call_isi (by rfl) B.isi PyProof.Rows.boot_isinstance (pa_cons (pv 0) (pa_cons (pe_bltn (v := .ty "tuple") (by rfl) B.tup (by decide +kernel) rfl) pa_nil)))
      (pe_one (pe_cmpR op_eq (pe_callB call_len (by rfl) B.len boot_len (pa_cons (pv 0) pa_nil)) (pv 1) (nomark _)))))), ?_⟩
    refine rd_isd hd rfl (kit_tup d) ⟨_, rfl, ?_⟩
    cases d with
    | tuple ds =>
      cases hd with
      | @tup a xs _ h1 h2 =>
        refine iteT ⟨_, rfl, _, _, rfl, .inr ⟨_, h1, rfl⟩, _, rfl, rfl, ?_⟩
        have e : decide (V.int (xs.length : Int) = V.int (m : Int)) = decide (ds.length = m) := by
          rw [h2.len]
          by_cases c : ds.length = m
          · rw [decide_eq_true c, decide_eq_true (by rw [c])]
          · rw [decide_eq_false c, decide_eq_false (fun z => c (by injection z with z; omega))]
        rw [e]
        exact q0
    | _ => exact iteF q0
/-! ### names -/
def LET : Str := "abcdefghijklmnopqrstuvwxyz"
def DIG : Str := "0123456789"
structure Cn (mg : Str → Option Value) : Prop where
  letters : ∃ t, mg "LETTERS" = some (.str LET t)
  digits : ∃ t, mg "DIGITS" = some (.str DIG t)
  chars : ∃ t, mg "MOST_CHARACTERS" = some (.int 8 t)
  bound : ∃ t, mg "BOUND" = some (.str "bound" t)
  unknowns : ∃ t, mg "MOST_UNKNOWNS" = some (.int 3 t)
  rows : ∃ t, mg "MOST_ROWS" = some (.int 6 t)
  number : ∃ t, mg "MOST_NUMBER" = some (.int 10000 t)
def isLet (c : Nat) : Bool := decide (c ∈ LET.cps.toList)
def isSign (c : Nat) : Bool := isLet c || decide (c ∈ DIG.cps.toList)
def nameS (x : Str) : Bool := decide (1 ≤ x.length) && (decide (x.length ≤ 8) && (isLet (x.cps.toList.getD 0 0) && x.cps.toList.all isSign))
def isNameD : PyData → Bool
  | .str x => nameS x
  | _ => false
theorem all_range (l : List Nat) (g : Nat → Bool) (n : Nat) (h : l.length = n) : ((List.range n).map fun i => g (l.getD i 0)).all id = l.all g := by
  have e : ((List.range n).map fun i => g (l.getD i 0)) = l.map g := by
    refine List.ext_getElem (by simp [h]) fun i h1 h2 => ?_
    have hi : i < l.length := by simpa using h2
    simp [List.getElem?_eq_getElem hi]
  rw [e, List.all_map]
  rfl
theorem scIsName : FnScope ["value", "char"] ["value"] (defScope sIsName) := ⟨rfl, rfl, rfl, by decide +kernel, rfl, by decide +kernel, by decide +kernel⟩
theorem ok_isName {f : Addr} {fd : FuncData} (F : FnT K "is_name" sIsName f fd) (B : Bn mg) (C : Cn mg) : FnOk P w K mg base CX0 1 f fd ["value"] (spIs K isNameD) := by
  obtain ⟨t1, c1⟩ := C.letters
  obtain ⟨t2, c2⟩ := C.digits
  obtain ⟨t3, c3⟩ := C.chars
  refine F.ok scIsName (fun vs H Q E h => ?_) (fun cdv A outer s H vs Q E hr h => ?_)
  · obtain ⟨v, d, rfl, _⟩ := h
    rfl
  · obtain ⟨v, d, rfl, hd, q⟩ := h
    have nd := scIsName.nd
    have q0 := q H (fun _ _ e => e)
    refine ⟨_, PSs.nox (pss_cons (ps_if (PW.pt (pw_or (pt_not (pt_val (pe_callB call_isi (by rfl) B.isi PyProof.Rows.boot_isinstance (pa_cons (pv 0) (pa_cons (pe_bltn (v := .ty "str") (by rfl) B.str (by decide +kernel) rfl) pa_nil)))))
        (pw_or1 (pt_not (pt_chain op_le op_le pe_int (pe_callB call_len (by rfl) B.len boot_len (pa_cons (pv 0) pa_nil)) (pe_glob (v := .int 8) rfl c3 ⟨_, rfl⟩)))))) (pss_one (ps_ret pe_bl)) pss_nil)
      (pss_one (ps_ret (pe_and (pe_cmpR op_in_sign (pe_ix ix_str (pv 0) pe_int (fun _ _ => rfl)) (pe_glob (v := .str LET) rfl c1 ⟨_, rfl⟩) (by rfl))
        (pe_one (pe_callB (cr_all rfl) (by rfl) B.all PyProof.Rows.boot_all (pa_cons (pe_lc (own := [("char", 1)]) (g := gName 1) (tt := tYes) rfl nd (pi_str (pv 0))
          (blkOk_by (own := [("char", 1)]) (N := ["value", "char"]) (sc := defScope sIsName) (by decide +kernel)) (fun _ _ _ _ _ => pg_name (i := 1) nd rfl (Or.inl rfl)) (fun _ _ _ _ _ => pts_nil)
          (fun _ _ _ _ _ => pe_or (pe_cmpR op_in_sign (pv 1) (pe_glob (v := .str LET) rfl c1 ⟨_, rfl⟩) (by rfl)) (pe_one (pe_cmpR op_in_sign (pv 1) (pe_glob (v := .str DIG) rfl c2 ⟨_, rfl⟩) (by rfl))))) pa_nil))))))), ?_⟩
    refine rd_isd hd rfl (kit_str d) ⟨_, rfl, ?_⟩
    cases d with
    | str x =>
      cases hd with
      | str _ hx =>
        have hx2 : x.length ≤ sizeLine := Nat.le_trans hx (by decide)
        have fin0 : nameS x = false → Q (.bl false) H := fun z => by
          have q1 : Q (.bl (nameS x)) H := q0
          rw [z] at q1
          exact q1
        refine iteF ⟨_, rfl, _, x.length, rfl, ⟨hx2, rfl⟩, _, _, rfl, rfl, _, rfl, ?_⟩
        by_cases g1 : 1 ≤ x.length
        · rw [decide_eq_true (show (1 : Int) ≤ (x.length : Int) by omega)]
          refine iteT ⟨_, _, rfl, rfl, _, rfl, ?_⟩
          by_cases g2 : x.length ≤ 8
          · rw [decide_eq_true (show ((x.length : Nat) : Int) ≤ (8 : Int) by omega)]
            have hsz : 0 < x.cps.toList.length := by
              show 0 < x.cps.toList.length
              rw [Array.length_toList]
              exact g1
            have hc : x.cps.toList[0]? = some (x.cps.toList.getD 0 0) := by
              rw [List.getD_eq_getElem?_getD, List.getElem?_eq_getElem hsz]
              rfl
            refine iteF ⟨_, rfl, x, 0, x.cps.toList.getD 0 0, rfl, rfl, hx2, atI_nat (j := 0) hc, _, _, rfl, rfl, _, rfl, ?_⟩
            have en : nameS x = (isLet (x.cps.toList.getD 0 0) && x.cps.toList.all isSign) := by
              unfold nameS
              rw [decide_eq_true g1, decide_eq_true g2]
              rfl
            have q2 : ∀ H', Same H H' → Q (.bl (isLet (x.cps.toList.getD 0 0) && x.cps.toList.all isSign)) H' := fun H' s => by
              rw [← en]
              exact q H' s
            refine ite2 (fun g3 => ?_) (fun g3 => ?_)
            · rw [show isLet (x.cps.toList.getD 0 0) = true from g3] at q2
              refine ⟨_, rfl, x, rfl, fun D hD => lc_known walk_str (fun i => .bl (isSign (x.cps.toList.getD i 0))) (by show x.length ≤ 100000; omega) hD (fun _ _ => trivial) (fun _ _ _ _ y => by obtain ⟨rfl, _⟩ := y; exact fun _ _ e => e) (fun _ => rfl) ?_ ?_⟩
              · rintro i _ H1 _ Qk hi s1 ⟨rfl, c, hc, rfl⟩ k
                have ec : x.cps.toList.getD i 0 = c := by
                  rw [List.getD_eq_getElem?_getD, Array.getElem?_toList, hc]
                  rfl
                have k1 := k _ (fun _ _ e => e)
                rw [ec] at k1
                refine ⟨_, rfl, c, LET, rfl, rfl, _, rfl, ite2 (fun g4 => ?_) (fun g4 => ⟨_, rfl, c, DIG, rfl, rfl, ?_⟩)⟩
                · rw [show isSign c = true from by unfold isSign isLet; rw [g4]; rfl] at k1
                  exact k1
                · rw [show isSign c = decide (c ∈ DIG.cps.toList) from by unfold isSign isLet; rw [Bool.eq_false_iff.mpr g4]; rfl] at k1
                  exact k1
              · intro H1 s1 bD
                refine ⟨D, (List.range x.cps.size).map fun i => isSign (x.cps.toList.getD i 0), rfl, SqL.of (by rw [bD, List.map_map]; rfl), ?_⟩
                rw [all_range x.cps.toList isSign x.cps.size Array.length_toList]
                exact q2 H1 s1
            · rw [show isLet (x.cps.toList.getD 0 0) = false from Bool.eq_false_iff.mpr g3] at q2
              exact q2 H fun _ _ e => e
          · rw [decide_eq_false (show ¬ ((x.length : Nat) : Int) ≤ (8 : Int) by omega)]
            exact iteT (fin0 (by unfold nameS; rw [decide_eq_false g2, Bool.false_and, Bool.and_false]))
        · rw [decide_eq_false (show ¬ (1 : Int) ≤ (x.length : Int) by omega)]
          exact iteF ⟨_, rfl, iteT (fin0 (by unfold nameS; rw [decide_eq_false g1, Bool.false_and]))⟩
    | _ => exact iteT q0
end
end Ca
set_option Elab.async false
set_option linter.all false
set_option maxRecDepth 100000
set_option maxHeartbeats 4000000
namespace Ca
open PySem L2
def isUnknownD : PyData → Bool
  | .str x => nameS x && !decide (x = "bound")
  | _ => false
def isStretchD : PyData → Bool
  | .tuple [.int a, .int b] => decide (-10000 ≤ a) && (decide (a ≤ b) && decide (b ≤ 10000))
  | _ => false
def partsOf : PyData → List PyData
  | .tuple ps => ps
  | _ => []
def isRowD : PyData → Nat → Bool
  | .tuple [n, p, b], m => isNameD n && (isTupN p m && ((partsOf p ++ [b]).all isStretchD))
  | _, _ => false
section
variable {P : Program} {w : World} {K : PySem.W.Frag} {mg : Str → Option Value} {base : Heap}
theorem bind1 {x : Str} {st : Stmt} {f : Addr} {fd : FuncData} {p : Str} (F : FnT K x st f fd) (h : ∀ (kV doc pm : Value) (an : Option Addr) (cdv ct : Value) (u : Value), bindArgs (PySem.W.fnOf x x (defArgs st) (defBody st) (defScope st) .none kV doc pm an cdv ct) ⟨[u], []⟩ = pure [(p, u)]) : Binds K fd [p] [] :=
  F.bindsN fun kV doc pm an cdv ct us hl => match us, hl with | [u], _ => h kV doc pm an cdv ct u
theorem scIsUnknown : FnScope ["value"] ["value"] (defScope sIsUnknown) := ⟨rfl, rfl, rfl, by decide +kernel, rfl, by decide +kernel, by decide +kernel⟩
theorem ok_isUnknown {f fN : Addr} {fd fdN : FuncData} (F : FnT K "is_unknown" sIsUnknown f fd) (C : Cn mg) (gN : mg "is_name" = some (.ref fN)) (GN : FnOk P w K mg base CX0 1 fN fdN ["value"] (spIs K isNameD)) (kN : PySem.W.keepIn K (.ref fN) = true) (bN : Binds K fdN ["value"] []) :
    FnOk P w K mg base CX0 2 f fd ["value"] (spIs K isUnknownD) := by
  obtain ⟨t1, c1⟩ := C.bound
  refine F.ok scIsUnknown (fun vs H Q E h => ?_) (fun cdv A outer s H vs Q E hr h => ?_)
  · obtain ⟨v, d, rfl, _⟩ := h
    rfl
  · obtain ⟨v, d, rfl, hd, q⟩ := h
    refine ⟨_, PSs.nox (pss_one (ps_ret (pe_and (pe_call GN hr rfl gN kN bN .nil pass0 (pa_cons (pv 0) pa_nil)) (pe_one (pe_cmpR op_ne (pv 0) (pe_glob (v := .str "bound") rfl c1 ⟨_, rfl⟩) (nomark _)))))), ?_⟩
    refine ⟨_, rfl, v, d, rfl, hd, fun H1 s1 => ⟨_, rfl, ?_⟩⟩
    cases d with
    | str x =>
      cases hd with
      | str _ hx =>
        have q1 : Q (.bl (nameS x && !decide (x = "bound"))) H1 := q H1 s1
        refine ite2 (fun g => ?_) (fun g => ?_)
        · have g' : nameS x = true := g
          rw [g', Bool.true_and] at q1
          refine ⟨_, rfl, rfl, ?_⟩
          rw [show decide (V.str x = V.str "bound") = decide (x = "bound") from by
            by_cases z : x = "bound"
            · rw [decide_eq_true z, decide_eq_true (by rw [z])]
            · rw [decide_eq_false z, decide_eq_false (fun y => z (by injection y))]]
          exact q1
        · have g' : nameS x = false := Bool.eq_false_iff.mpr g
          rw [g', Bool.false_and] at q1
          exact q1
    | _ => exact iteF (q H1 s1)
theorem scIsStretch : FnScope ["value", "low", "high"] ["value"] (defScope sIsStretch) := ⟨rfl, rfl, rfl, by decide +kernel, rfl, by decide +kernel, by decide +kernel⟩
theorem ok_isStretch {f fT fI : Addr} {fd fdT fdI : FuncData} (F : FnT K "is_stretch" sIsStretch f fd) (C : Cn mg)
    (gT : mg "is_tuple_of" = some (.ref fT)) (GT : FnOk P w K mg base CX0 1 fT fdT ["value", "many"] (spIs2 K isTupN)) (kT : PySem.W.keepIn K (.ref fT) = true) (bT : Binds K fdT ["value", "many"] [])
    (gI : mg "is_integer" = some (.ref fI)) (GI : FnOk P w K mg base CX0 1 fI fdI ["value"] (spIs K isInt)) (kI : PySem.W.keepIn K (.ref fI) = true) (bI : Binds K fdI ["value"] []) :
    FnOk P w K mg base CX0 2 f fd ["value"] (spIs K isStretchD) := by
  obtain ⟨t1, c1⟩ := C.number
  refine F.ok scIsStretch (fun vs H Q E h => ?_) (fun cdv A outer s H vs Q E hr h => ?_)
  · obtain ⟨v, d, rfl, _⟩ := h
    rfl
  · obtain ⟨v, d, rfl, hd, q⟩ := h
    have nd := scIsStretch.nd
    refine ⟨_, PSs.nox (pss_cons (ps_if (pt_not (pt_val (pe_call GT hr rfl gT kT bT .nil pass0 (pa_cons (pv 0) (pa_cons pe_int pa_nil))))) (pss_one (ps_ret pe_bl)) pss_nil)
      (pss_cons (ps_asg (pv 0) (pg_tup rfl (pgs_cons (pg_name (i := 1) nd rfl (.inl rfl)) (pgs_cons (pg_name (i := 2) nd rfl (.inl rfl)) pgs_nil))))
      (pss_one (ps_ret (pe_and (pe_call GI hr rfl gI kI bI .nil pass0 (pa_cons (pv 1) pa_nil)) (pe_and (pe_call GI hr rfl gI kI bI .nil pass0 (pa_cons (pv 2) pa_nil))
        (pe_one (pe_chain3 op_le op_le op_le (pe_un un_neg (pe_glob (v := .int 10000) rfl c1 ⟨_, rfl⟩)) (pv 1) (pv 2) (pe_glob (v := .int 10000) rfl c1 ⟨_, rfl⟩))))))))), ?_⟩
    refine ⟨_, rfl, v, d, 2, rfl, by decide, hd, fun H1 s1 => ⟨_, rfl, ?_⟩⟩
    have bad : isTupN d 2 = false → isStretchD d = false := fun z => by
      cases d with
      | tuple ds =>
        match ds with
        | [] => simp [isStretchD]
        | [_] => simp [isStretchD]
        | [_, _] => cases z
        | _ :: _ :: _ :: _ => simp [isStretchD]
      | _ => rfl
    cases g : isTupN d 2 with
    | false =>
      have q1 := q H1 s1
      rw [bad g] at q1
      exact iteT q1
    | true =>
      cases d with
      | tuple ds =>
        have hl : ds.length = 2 := of_decide_eq_true g
        match ds, hl with
        | [d1, d2], _ =>
          have hd1 := hd.same s1
          cases hd1 with
          | @tup a xs _ h1 h2 =>
            cases h2 with
            | @cons v1 _ _ _ e1 r1 =>
              cases r1 with
              | @cons v2 _ _ _ e2 r2 =>
                cases r2
                refine iteF ⟨_, rfl, a, _, rfl, h1, rfl, _, _, rfl, _, _, rfl, rfl, ?_⟩
                refine ⟨_, rfl, v1, d1, rfl, e1, fun H2 s2 => ⟨_, rfl, ?_⟩⟩
                have q2 := fun H3 (s3 : Same H2 H3) => q H3 (s1.trans (s2.trans s3))
                cases d1 with
                | int i =>
                  refine iteT ⟨_, rfl, v2, d2, rfl, e2.same s2, fun H3 s3 => ⟨_, rfl, ?_⟩⟩
                  have q3 := q2 H3 s3
                  cases d2 with
                  | int j =>
                    cases e1
                    cases e2
                    refine iteT ⟨_, rfl, _, rfl, _, _, rfl, rfl, _, rfl, ?_⟩
                    have q4 : Q (.bl (decide (-10000 ≤ i) && (decide (i ≤ j) && decide (j ≤ 10000)))) H3 := q3
                    refine ite2 (fun g1 => ?_) (fun g1 => ?_)
                    · rw [g1, Bool.true_and] at q4
                      refine ⟨_, rfl, _, _, rfl, rfl, _, rfl, ite2 (fun g2 => ?_) (fun g2 => ?_)⟩
                      · rw [g2, Bool.true_and] at q4
                        exact ⟨_, _, rfl, rfl, q4⟩
                      · rw [Bool.eq_false_iff.mpr g2, Bool.false_and] at q4
                        exact q4
                    · rw [Bool.eq_false_iff.mpr g1, Bool.false_and] at q4
                      exact q4
                  | _ => exact iteF q3
                | _ => exact iteF (q2 H2 fun _ _ e => e)
      | _ => cases g
theorem all_getD (ds : List PyData) (g : PyData → Bool) (n : Nat) (h : ds.length = n) : ((List.range n).map fun i => g (ds.getD i .none)).all id = ds.all g := by
  have e : ((List.range n).map fun i => g (ds.getD i .none)) = ds.map g := by
    refine List.ext_getElem (by simp [h]) fun i h1 h2 => ?_
    have hi : i < ds.length := by simpa using h2
    simp [List.getElem?_eq_getElem hi]
  rw [e, List.all_map]
  rfl
theorem row_bad {d : PyData} {m : Nat} (z : isTupN d 3 = false) : isRowD d m = false := by
  cases d with
  | tuple ds =>
    match ds with
    | [] => simp [isRowD]
    | [_] => simp [isRowD]
    | [_, _] => simp [isRowD]
    | [_, _, _] => cases z
    | _ :: _ :: _ :: _ :: _ => simp [isRowD]
  | _ => simp [isRowD]
abbrev NRow : List Str := ["value", "many", "name", "stretches", "bound", "stretch"]
theorem scIsRow : FnScope NRow ["value", "many"] (defScope sIsRow) := ⟨rfl, rfl, rfl, by decide +kernel, rfl, by decide +kernel, by decide +kernel⟩
theorem ok_isRow {f fT fN fS : Addr} {fd fdT fdN fdS : FuncData} (F : FnT K "is_row" sIsRow f fd) (B : Bn mg)
    (gT : mg "is_tuple_of" = some (.ref fT)) (GT : FnOk P w K mg base CX0 1 fT fdT ["value", "many"] (spIs2 K isTupN)) (kT : PySem.W.keepIn K (.ref fT) = true) (bT : Binds K fdT ["value", "many"] [])
    (gN : mg "is_name" = some (.ref fN)) (GN : FnOk P w K mg base CX0 1 fN fdN ["value"] (spIs K isNameD)) (kN : PySem.W.keepIn K (.ref fN) = true) (bN : Binds K fdN ["value"] [])
    (gS : mg "is_stretch" = some (.ref fS)) (GS : FnOk P w K mg base CX0 2 fS fdS ["value"] (spIs K isStretchD)) (kS : PySem.W.keepIn K (.ref fS) = true) (bS : Binds K fdS ["value"] []) :
    FnOk P w K mg base CX0 3 f fd ["value", "many"] (spIs2 K isRowD) := by
  refine F.ok scIsRow (fun vs H Q E h => ?_) (fun cdv A outer s H vs Q E hr h => ?_)
  · obtain ⟨v, d, m, rfl, _⟩ := h
    rfl
  · obtain ⟨v, d, m, rfl, hm, hd, q⟩ := h
    have nd := scIsRow.nd
    have hr1 : Room 1 _ := hr.mono (by decide)
    refine ⟨_, PSs.nox (pss_cons (ps_if (pt_not (pt_val (pe_call GT hr1 rfl gT kT bT .nil pass0 (pa_cons (pv 0) (pa_cons pe_int pa_nil))))) (pss_one (ps_ret pe_bl)) pss_nil)
      (pss_cons (ps_asg (pv 0) (pg_tup rfl (pgs_cons (pg_name (i := 2) nd rfl (.inl rfl)) (pgs_cons (pg_name (i := 3) nd rfl (.inl rfl)) (pgs_cons (pg_name (i := 4) nd rfl (.inl rfl)) pgs_nil)))))
      (pss_cons (ps_if (PW.pt (pw_or (pt_not (pt_val (pe_call GN hr1 rfl gN kN bN .nil pass0 (pa_cons (pv 2) pa_nil)))) (pw_or1 (pt_not (pt_val (pe_call GT hr1 rfl gT kT bT .nil pass0 (pa_cons (pv 3) (pa_cons (pv 1) pa_nil)))))))) (pss_one (ps_ret pe_bl)) pss_nil)
      (pss_one (ps_ret (pe_callB (cr_all rfl) (by rfl) B.all PyProof.Rows.boot_all (pa_cons (pe_lc (own := [("stretch", 5)]) (g := gName 5) (tt := tYes) rfl nd (pi_tup (pe_tup (StX.pa_star (pv 3) (pa_cons (pv 4) pa_nil))))
          (blkOk_by (own := [("stretch", 5)]) (N := NRow) (sc := defScope sIsRow) (by decide +kernel)) (fun _ _ _ _ _ => pg_name (i := 5) nd rfl (Or.inl rfl)) (fun _ _ _ _ _ => pts_nil)
          (fun _ _ _ _ _ => pe_call GS hr rfl gS kS bS .nil pass0 (pa_cons (pv 5) pa_nil))) pa_nil))))))), ?_⟩
    refine ⟨_, rfl, v, d, 3, rfl, by decide, hd, fun H1 s1 => ⟨_, rfl, ?_⟩⟩
    cases g : isTupN d 3 with
    | false =>
      have q1 := q H1 s1
      rw [row_bad g] at q1
      exact iteT q1
    | true =>
      cases d with
      | tuple ds =>
        have hl : ds.length = 3 := of_decide_eq_true g
        match ds, hl with
        | [d1, d2, d3], _ =>
          have hd1 := hd.same s1
          cases hd1 with
          | @tup a xs _ h1 h2 =>
            cases h2 with
            | @cons v1 _ _ _ e1 r1 =>
              cases r1 with
              | @cons v2 _ _ _ e2 r2 =>
                cases r2 with
                | @cons v3 _ _ _ e3 r3 =>
                  cases r3
                  refine iteF ⟨_, rfl, a, _, rfl, h1, rfl, _, _, rfl, _, _, rfl, _, _, rfl, rfl, ?_⟩
                  refine ⟨_, rfl, v1, d1, rfl, e1, fun H2 s2 => ⟨_, rfl, ?_⟩⟩
                  have q2 : ∀ H', Same H2 H' → Q (.bl (isNameD d1 && (isTupN d2 m && ((partsOf d2 ++ [d3]).all isStretchD)))) H' := fun H' s' => q H' (s1.trans (s2.trans s'))
                  cases g2 : isNameD d1 with
                  | false =>
                    rw [g2] at q2
                    exact iteT (q2 H2 fun _ _ e => e)
                  | true =>
                    rw [g2] at q2
                    refine iteF ⟨_, rfl, _, rfl, v2, d2, m, rfl, hm, e2.same s2, fun H3 s3 => ⟨_, rfl, ?_⟩⟩
                    cases g3 : isTupN d2 m with
                    | false =>
                      rw [g3] at q2
                      exact iteT (q2 H3 s3)
                    | true =>
                      rw [g3] at q2
                      cases d2 with
                      | tuple ps =>
                        have hps : ps.length = m := of_decide_eq_true g3
                        have e2' := e2.same (s2.trans s3)
                        cases e2' with
                        | @tup a2 xs2 _ h3 h4 =>
                          have hx2 : xs2.length = m := by rw [h4.len, hps]
                          have hall : DqAll K H3 (xs2 ++ [v3]) (ps ++ [d3]) := h4.app (.cons (e3.same (s2.trans s3)) .nil)
                          refine iteF ⟨_, rfl, a2, xs2, rfl, .inl h3, _, rfl, by rw [List.length_append, hx2]; exact Nat.le_trans (Nat.succ_le_succ hm) (by decide), fun p hp => ⟨p, rfl, ⟨_, SqT.of upd_same⟩, fun D hD => ?_⟩⟩
                          have s4 : Same H3 (upd H3 p (.tup (xs2 ++ [v3]))) := Same.new hp
                          refine lc_known (walk_tup (K := K) (a := p) (xs := xs2 ++ [v3])) (fun i => .bl (isStretchD ((ps ++ [d3]).getD i .none))) (by rw [List.length_append, hx2]; show m + 1 ≤ 100000; omega) hD (fun H' s' => same_sqt s' (SqT.of upd_same)) (fun _ _ _ _ y => by obtain ⟨rfl, _⟩ := y; exact fun _ _ e => e) (fun _ => rfl) ?_ ?_
                          · rintro i x H5 H6 Qk hi s5 ⟨rfl, hx⟩ k
                            obtain ⟨d, hdi, hdq⟩ := (hall.same (s4.trans s5)).get hx
                            have ed : (ps ++ [d3]).getD i .none = d := by
                              rw [List.getD_eq_getElem?_getD, hdi]
                              rfl
                            refine ⟨_, rfl, x, d, rfl, hdq, fun H7 s7 => ?_⟩
                            have k1 := k H7 s7
                            rw [ed] at k1
                            exact k1
                          · intro H5 s5 bD
                            refine ⟨D, (List.range (xs2 ++ [v3]).length).map fun i => isStretchD ((ps ++ [d3]).getD i .none), rfl, SqL.of (by rw [bD, List.map_map]; rfl), ?_⟩
                            rw [all_getD (ps ++ [d3]) isStretchD _ (by rw [List.length_append, List.length_append, hx2, hps]; rfl)]
                            exact q2 H5 (s3.trans (s4.trans s5))
                      | _ => cases g3
      | _ => cases g
end
end Ca
set_option Elab.async false
set_option linter.all false
set_option maxRecDepth 100000
set_option maxHeartbeats 4000000
namespace Ca
open PySem L2
structure Folk (ns : List Str) : Prop where
  lo : 1 ≤ ns.length
  hi : ns.length ≤ 3
  ok : ∀ x ∈ ns, isUnknownD (.str x) = true
  nd : ns.Nodup
def folkD (ns : List Str) : PyData := .tuple (ns.map .str)
theorem strs_of {K : PySem.W.Frag} {H : Hp} : ∀ {ns : List Str} {xs : List V}, DqAll K H xs (ns.map .str) → xs = ns.map V.str ∧ ∀ x ∈ ns, x.length ≤ 1000
  | [], _, .nil => ⟨rfl, fun _ z => nomatch z⟩
  | n :: ns, _, .cons (.str _ h) t => by
    obtain ⟨e, q⟩ := strs_of (ns := ns) t
    refine ⟨by rw [e]; rfl, fun x z => ?_⟩
    rcases List.mem_cons.mp z with rfl | z
    · exact h
    · exact q x z
theorem flat_strs : ∀ ns : List Str, (ns.map V.str).all flatV = true
  | [] => rfl
  | n :: ns => flat_strs ns
theorem inV_strs (x : Str) : ∀ ns : List Str, inV (.str x) (ns.map V.str) = decide (x ∈ ns)
  | [] => rfl
  | n :: ns => by
    show (eqV (.str n) (.str x) || inV (.str x) (ns.map V.str)) = _
    rw [inV_strs x ns]
    by_cases h : n = x
    · subst h
      have e : eqV (.str n) (.str n) = true := by show decide (n = n) = true; exact decide_eq_true rfl
      rw [e, decide_eq_true (List.mem_cons_self ..)]
      rfl
    · have e : eqV (.str n) (.str x) = false := by show decide (n = x) = false; exact decide_eq_false h
      rw [e, Bool.false_or]
      by_cases g : x ∈ ns
      · rw [decide_eq_true g, decide_eq_true (List.mem_cons_of_mem _ g)]
      · rw [decide_eq_false g, decide_eq_false fun z => (List.mem_cons.mp z).elim (fun y => h y.symm) g]
def spCheckU (K : PySem.W.Frag) : Sp := fun vs H Q _ => ∃ v ns, vs = [v] ∧ Dq K H v (folkD ns) ∧ Folk ns ∧ ∀ H', Same H H' → Q .non H'
section
variable {P : Program} {w : World} {K : PySem.W.Frag} {mg : Str → Option Value} {base : Heap}
theorem scCheckU : FnScope ["unknowns", "index", "name"] ["unknowns"] (defScope sCheckUnknowns) := ⟨rfl, rfl, rfl, by decide +kernel, rfl, by decide +kernel, by decide +kernel⟩
theorem ok_checkU {f fU : Addr} {fd fdU : FuncData} (F : FnT K "check_unknowns" sCheckUnknowns f fd) (B : Bn mg) (C : Cn mg)
    (gU : mg "is_unknown" = some (.ref fU)) (GU : FnOk P w K mg base CX0 2 fU fdU ["value"] (spIs K isUnknownD)) (kU : PySem.W.keepIn K (.ref fU) = true) (bU : Binds K fdU ["value"] []) :
    FnOk P w K mg base CX0 3 f fd ["unknowns"] (spCheckU K) := by
  obtain ⟨t1, c1⟩ := C.unknowns
  refine F.ok scCheckU (fun vs H Q E h => ?_) (fun cdv A outer s H vs Q E hr h => ?_)
  · obtain ⟨v, d, rfl, _⟩ := h
    rfl
  · obtain ⟨v, ns, rfl, hd, N, q⟩ := h
    have nd := scCheckU.nd
    refine ⟨_, PSs.nox (pss_cons (ps_if (PW.pt (pw_or (pt_not (pt_val (pe_callB call_isi (by rfl) B.isi PyProof.Rows.boot_isinstance (pa_cons (pv 0) (pa_cons (pe_bltn (v := .ty "tuple") (by rfl) B.tup (by decide +kernel) rfl) pa_nil)))))
        (pw_or1 (pt_cmpR op_eq (pe_callB call_len (by rfl) B.len boot_len (pa_cons (pv 0) pa_nil)) pe_int (nomark _))))) (pss_one ps_never) pss_nil)
      (pss_one (ps_for PassesOwn.never rfl (pi_enumT (by rfl) B.enum (pa_cons (pv 0) pa_nil)) (pg_tup rfl (pgs_cons (pg_name (i := 1) nd rfl (.inl rfl)) (pgs_cons (pg_name (i := 2) nd rfl (.inl rfl)) pgs_nil)))
        (pss_one (ps_if (PW.pt (pw_or (pt_cmpR op_eq (pv 1) (pe_glob (v := .int 3) rfl c1 ⟨_, rfl⟩) (nomark _)) (pw_or (pt_not (pt_val (pe_call GU hr rfl gU kU bU .nil pass0 (pa_cons (pv 2) pa_nil))))
          (pw_or1 (pt_cmpR op_in_seq (pv 2) (pe_slice sl_tupA (pv 0) po_none (po_some (pv 1))) (by rfl)))))) (pss_one ps_never) pss_nil))))), ?_⟩
    have hd0 := hd
    cases hd with
    | @tup a xs _ h1 h2 =>
      obtain ⟨rfl, hlen⟩ := strs_of h2
      have hl : (ns.map V.str).length = ns.length := List.length_map ..
      refine rd_isd hd0 rfl (kit_tup _) ⟨_, rfl, iteF ⟨_, rfl, _, _, rfl, .inr ⟨_, h1, rfl⟩, rfl, _, rfl, ?_⟩⟩
      rw [decide_eq_false (fun z => by injection z with z; rw [hl] at z; have := N.lo; omega)]
      refine iteF ⟨_, rfl, a, _, rfl, h1, ?_⟩
      refine for_it walk_enumT (fun i σ' H' => i ≤ ns.length ∧ (∃ o1 o2, σ' = [some (.ref a), o1, o2]) ∧ Same H H') ⟨Nat.zero_le _, ⟨_, _, rfl⟩, fun _ _ e => e⟩ (fun i σ' H' hi p => same_sqt p.2.2 h1) ?_ (fun σ' H' p => q H' p.2.2)
      rintro i _ _ H1 _ hi ⟨_, ⟨o1, o2, rfl⟩, s1⟩ ⟨T, x, rfl, hT, rfl, hx⟩
      refine ⟨T, _, rfl, SqT.of upd_same, rfl, _, _, rfl, _, _, rfl, rfl, ?_⟩
      have hil : i < ns.length := by rw [← hl]; exact hi
      obtain ⟨z, hz, rfl⟩ : ∃ z, ns[i]? = some z ∧ x = .str z := by
        rw [List.getElem?_map] at hx
        cases e : ns[i]? with
        | none => rw [e] at hx; cases hx
        | some z => rw [e] at hx; exact ⟨z, rfl, (Option.some.inj hx).symm⟩
      have hzm : z ∈ ns := List.mem_of_getElem? hz
      have s2 : Same H1 (upd H1 T (.tup [.int (i : Nat), .str z])) := Same.new hT
      refine ⟨_, rfl, rfl, _, rfl, ?_⟩
      rw [decide_eq_false (fun y => by injection y with y; have := N.hi; omega)]
      refine iteF ⟨_, rfl, _, _, rfl, .str z (hlen z hzm), fun H3 s3 => ⟨_, rfl, ?_⟩⟩
      rw [N.ok z hzm]
      have h3 : SqT K H3 a (ns.map V.str) := same_sqt (s1.trans (s2.trans s3)) h1
      refine iteF ⟨_, rfl, _, rfl, _, rfl, i, rfl, a, _, rfl, h3, fun y => ?_, fun _ p hp => ⟨p, _, rfl, .inr (SqT.of upd_same), rfl, ?_, _, rfl, ?_⟩⟩
      · have := y.2
        rw [HT.sIx_nat, hl] at this
        omega
      · unfold cutV
        rw [List.all_eq_true]
        intro b hb
        exact List.all_eq_true.mp (flat_strs ns) b (List.mem_of_mem_drop (List.mem_of_mem_take hb))
      · have ec : cutV (ns.map V.str) none (some (i : Int)) = (ns.take i).map V.str := by
          unfold cutV
          rw [HT.sIx_none, HT.sIx_nat, hl, List.drop_zero, Nat.sub_zero, Nat.min_eq_left (Nat.le_of_lt hil), List.map_take]
        rw [ec]
        rw [inV_strs, decide_eq_false (fun y => by
          obtain ⟨j, hj, ej⟩ := List.mem_iff_getElem.mp y
          rw [List.getElem_take] at ej
          have hj2 : j < i := by
            have := hj
            rw [List.length_take] at this
            omega
          have ei : ns[i] = z := by
            have := List.getElem?_eq_getElem hil
            rw [hz] at this
            exact (Option.some.inj this).symm
          exact List.pairwise_iff_getElem.mp N.nd j i (by omega) hil hj2 (ej.trans ei.symm))]
        exact iteF ⟨hil, ⟨_, _, rfl⟩, s1.trans (s2.trans (s3.trans (Same.new hp)))⟩
end
/-! ### rows -/
structure Rw where
  name : Str
  parts : List (Int × Int)
  bd : Int × Int
deriving DecidableEq
def strD (p : Int × Int) : PyData := .tuple [.int p.1, .int p.2]
def rowD (r : Rw) : PyData := .tuple [.str r.name, .tuple (r.parts.map strD), strD r.bd]
def rowsD (rs : List Rw) : PyData := .tuple (rs.map rowD)
structure Lines (rs : List Rw) (m : Nat) : Prop where
  hi : rs.length ≤ 6
  ok : ∀ r ∈ rs, isRowD (rowD r) m = true
  nd : (rs.map Rw.name).Nodup
def spCheckR (K : PySem.W.Frag) : Sp := fun vs H Q _ => ∃ v rs m, vs = [v, .int (m : Nat)] ∧ m ≤ 1000 ∧ Dq K H v (rowsD rs) ∧ Lines rs m ∧ ∀ H', Same H H' → Q .non H'
/-- a row as it stands -/
theorem row_at {K : PySem.W.Frag} {H : Hp} {v : V} {r : Rw} (h : Dq K H v (rowD r)) : ∃ a v2 v3, v = .ref a ∧ SqT K H a [.str r.name, v2, v3] ∧ Dq K H v2 (.tuple (r.parts.map strD)) ∧ Dq K H v3 (strD r.bd) ∧ r.name.length ≤ 1000 := by
  cases h with
  | @tup a xs _ h1 h2 =>
    cases h2 with
    | cons e1 r1 =>
      cases r1 with
      | cons e2 r2 =>
        cases r2 with
        | cons e3 r3 =>
          cases r3
          cases e1 with
          | str _ hx => exact ⟨a, _, _, rfl, h1, e2, e3, hx⟩
section
variable {P : Program} {w : World} {K : PySem.W.Frag} {mg : Str → Option Value} {base : Heap}
theorem scCheckR : FnScope ["rows", "many", "names", "index", "row"] ["rows", "many"] (defScope sCheckRows) := ⟨rfl, rfl, rfl, by decide +kernel, rfl, by decide +kernel, by decide +kernel⟩
theorem ok_checkR {f fR : Addr} {fd fdR : FuncData} (F : FnT K "check_rows" sCheckRows f fd) (B : Bn mg) (C : Cn mg)
    (gR : mg "is_row" = some (.ref fR)) (GR : FnOk P w K mg base CX0 3 fR fdR ["value", "many"] (spIs2 K isRowD)) (kR : PySem.W.keepIn K (.ref fR) = true) (bR : Binds K fdR ["value", "many"] []) :
    FnOk P w K mg base CX0 4 f fd ["rows", "many"] (spCheckR K) := by
  obtain ⟨t1, c1⟩ := C.rows
  refine F.ok scCheckR (fun vs H Q E h => ?_) (fun cdv A outer s H vs Q E hr h => ?_)
  · obtain ⟨v, rs, m, rfl, _⟩ := h
    rfl
  · obtain ⟨v, rs, m, rfl, hm, hd, N, q⟩ := h
    have nd := scCheckR.nd
    refine ⟨_, PSs.nox (pss_cons (ps_if (pt_not (pt_val (pe_callB call_isi (by rfl) B.isi PyProof.Rows.boot_isinstance (pa_cons (pv 0) (pa_cons (pe_bltn (v := .ty "tuple") (by rfl) B.tup (by decide +kernel) rfl) pa_nil))))) (pss_one ps_never) pss_nil)
      (pss_cons (ps_set (i := 2) nd rfl (.inl rfl) (pe_lst pa_nil))
      (pss_one (ps_for PassesOwn.never rfl (pi_enumT (by rfl) B.enum (pa_cons (pv 0) pa_nil)) (pg_tup rfl (pgs_cons (pg_name (i := 3) nd rfl (.inl rfl)) (pgs_cons (pg_name (i := 4) nd rfl (.inl rfl)) pgs_nil)))
        (pss_cons (ps_if (PW.pt (pw_or (pt_cmpR op_eq (pv 3) (pe_glob (v := .int 6) rfl c1 ⟨_, rfl⟩) (nomark _)) (pw_or (pt_not (pt_val (pe_call GR hr rfl gR kR bR .nil pass0 (pa_cons (pv 4) (pa_cons (pv 1) pa_nil)))))
          (pw_or1 (pt_cmpR op_in_seq (pe_ix ix_tup (pv 4) pe_int (fun _ _ => rfl)) (pv 2) (by rfl)))))) (pss_one ps_never) pss_nil)
        (pss_one (ps_expr (pe_bm PySem.F.plainAttrs_list PySem.F.slot_list_append PySem.F.type_list_append mt_append (pv 2) (pa_cons (pe_ix ix_tup (pv 4) pe_int (fun _ _ => rfl)) pa_nil))))))))), ?_⟩
    have hd0 := hd
    cases hd with
    | @tup a xs _ h1 h2 =>
      have hl : xs.length = rs.length := by rw [h2.len, List.length_map]
      refine rd_isd hd0 rfl (kit_tup _) ⟨_, rfl, iteF ⟨by show 0 ≤ sizeLine; decide, fun nl hnl => ?_⟩⟩
      have s0 : Same H (upd H nl (.lst [])) := Same.new hnl
      refine ⟨_, rfl, a, _, rfl, same_sqt s0 h1, ?_⟩
      refine for_it walk_enumT (fun i σ' H' => i ≤ rs.length ∧ (∃ o1 o2, σ' = [some (.ref a), some (.int m), some (.ref nl), o1, o2]) ∧ Same H H' ∧ H' nl = some (.lst (((rs.take i).map Rw.name).map V.str))) ⟨Nat.zero_le _, ⟨_, _, rfl⟩, s0, upd_same⟩ (fun i σ' H' hi p => same_sqt p.2.2.1 h1) ?_ (fun σ' H' p => q H' p.2.2.1)
      rintro i x _ H1 _ hi ⟨_, ⟨o1, o2, rfl⟩, s1, hn1⟩ ⟨T, x, rfl, hT, rfl, hx⟩
      refine ⟨T, _, rfl, SqT.of upd_same, rfl, _, _, rfl, _, _, rfl, rfl, ?_⟩
      have hil : i < rs.length := by rw [← hl]; exact hi
      have s2 : Same H1 (upd H1 T (.tup [.int (i : Nat), x])) := Same.new hT
      obtain ⟨d, hdi, hdq⟩ := (h2.same (s1.trans s2)).get hx
      obtain ⟨r, hr2, rfl⟩ : ∃ r, rs[i]? = some r ∧ d = rowD r := by
        rw [List.getElem?_map, List.getElem?_eq_getElem hil] at hdi
        exact ⟨_, List.getElem?_eq_getElem hil, (Option.some.inj hdi).symm⟩
      have hrm : r ∈ rs := List.mem_of_getElem? hr2
      refine ⟨_, rfl, rfl, _, rfl, ?_⟩
      rw [decide_eq_false (fun y => by injection y with y; have := N.hi; omega)]
      refine iteF ⟨_, rfl, _, rfl, x, _, m, rfl, hm, hdq, fun H3 s3 => ⟨_, rfl, ?_⟩⟩
      rw [N.ok r hrm]
      obtain ⟨b, v2, v3, rfl, hb, _, _, _⟩ := row_at (hdq.same s3)
      have hn3 := s3 _ _ (s2 _ _ hn1)
      refine iteF ⟨_, rfl, b, _, 0, _, rfl, rfl, hb, atI_nat (j := 0) rfl, _, rfl, nl, _, rfl, .inl (SqL.of hn3), rfl, ?_, _, rfl, ?_⟩
      · exact flat_strs _
      · have ein : inV (.str r.name) (((rs.take i).map Rw.name).map V.str) = false := by
          rw [inV_strs]
          refine decide_eq_false fun y => ?_
          obtain ⟨j, hj, ej⟩ := List.mem_iff_getElem.mp y
          rw [List.getElem_map, List.getElem_take] at ej
          have hj2 : j < i := by
            have := hj
            rw [List.length_map, List.length_take] at this
            omega
          have ei : rs[i] = r := by
            have := List.getElem?_eq_getElem hil
            rw [hr2] at this
            exact (Option.some.inj this).symm
          have := List.pairwise_iff_getElem.mp N.nd j i (by rw [List.length_map]; omega) (by rw [List.length_map]; exact hil) hj2
          rw [List.getElem_map, List.getElem_map, ei] at this
          exact this ej
        show (fun b_1 H1 => if b_1 = true then _ else _) (inV (.str r.name) (((rs.take i).map Rw.name).map V.str)) H3
        rw [ein]
        refine iteF ⟨_, rfl, .inl ⟨rfl, _, SqL.of hn3⟩, _, rfl, b, _, 0, _, rfl, rfl, hb, atI_nat (j := 0) rfl, nl, _, _, rfl, rfl, hn3, ?_, hil, ⟨_, _, rfl⟩, fun c o e => ?_, ?_⟩
        · rw [List.length_map, List.length_map, List.length_take]
          have := N.hi
          exact Nat.lt_of_le_of_lt (Nat.le_trans (Nat.min_le_right ..) this) (by decide)
        · rw [upd_ne (ne_of_none e hnl)]
          exact s3 _ _ (s2 _ _ (s1 _ _ e))
        · rw [upd_same]
          have et : rs.take (i + 1) = rs.take i ++ [r] := by
            rw [List.take_succ, hr2]
            rfl
          rw [et, List.map_append, List.map_append]
          rfl
end
end Ca
set_option Elab.async false
set_option linter.all false
set_option maxRecDepth 100000
set_option maxHeartbeats 4000000
namespace Ca
open PySem L2
/-! ### systems -/
abbrev FnM (K : PySem.W.Frag) (x q : Str) (st : Stmt) (dvs : List V) (f : Addr) (fd : FuncData) : Prop := FunD K x q (defArgs st) (defBody st) (defScope st) dvs [] f fd
structure SysC (K : PySem.W.Frag) (C : Addr) : Prop where
  cl : Cls K C
  nu : NoAttr K C "_unknowns"
  nr : NoAttr K C "_rows"
def sysF (u r : V) : List (Str × V) := [("_unknowns", u), ("_rows", r)]
/-- a system stands at x -/
def SysAt (K : PySem.W.Frag) (C : Addr) (H : Hp) (x : Addr) (ns : List Str) (rs : List Rw) : Prop :=
  Folk ns ∧ Lines rs ns.length ∧ ∃ dx u r, H x = some (.ins C dx (sysF u r)) ∧ Dq K H u (folkD ns) ∧ Dq K H r (rowsD rs)
theorem SysAt.same {K : PySem.W.Frag} {C : Addr} {H H' : Hp} {x : Addr} {ns : List Str} {rs : List Rw} (h : SysAt K C H x ns rs) (s : Same H H') : SysAt K C H' x ns rs := by
  obtain ⟨h1, h2, dx, u, r, e, du, dr⟩ := h
  exact ⟨h1, h2, dx, u, r, s _ _ e, du.same s, dr.same s⟩
def spInit (K : PySem.W.Frag) (C : Addr) : Sp := fun vs H Q _ => ∃ x dx u r ns rs, vs = [.ref x, u, r] ∧ H x = some (.ins C dx []) ∧ Dq K H u (folkD ns) ∧ Folk ns ∧ Dq K H r (rowsD rs) ∧ Lines rs ns.length ∧
  ∀ H', Kept x H H' → H' x = some (.ins C dx (sysF u r)) → Q .non H'
def spUnknowns (C : Addr) : Sp := fun vs H Q _ => ∃ x dx u r, vs = [.ref x] ∧ H x = some (.ins C dx (sysF u r)) ∧ Q u H
def spRows (C : Addr) : Sp := fun vs H Q _ => ∃ x dx u r, vs = [.ref x] ∧ H x = some (.ins C dx (sysF u r)) ∧ Q r H
def spLen (K : PySem.W.Frag) (C : Addr) : Sp := fun vs H Q _ => ∃ x ns rs, vs = [.ref x] ∧ SysAt K C H x ns rs ∧ Q (.int rs.length) H
def spYes : Sp := fun vs H Q _ => ∃ x, vs = [x] ∧ Q (.bl true) H
theorem tup_len {K : PySem.W.Frag} {H : Hp} {v : V} {ds : List PyData} (h : Dq K H v (.tuple ds)) : ∃ a xs, v = .ref a ∧ SqT K H a xs ∧ DqAll K H xs ds ∧ xs.length = ds.length := by
  cases h with
  | @tup a xs _ h1 h2 => exact ⟨a, xs, rfl, h1, h2, h2.len⟩
section
variable {P : Program} {w : World} {K : PySem.W.Frag} {mg : Str → Option Value} {base : Heap} {C : Addr}
theorem scInit : FnScope ["self", "unknowns", "rows"] ["self", "unknowns", "rows"] (defScope mSystemInit) := ⟨rfl, rfl, rfl, by decide +kernel, rfl, by decide +kernel, by decide +kernel⟩
theorem ok_init {f fU fR : Addr} {fd fdU fdR : FuncData} {dvs : List V} (F : FnM K "__init__" "System.__init__" mSystemInit dvs f fd) (B : Bn mg) (S : SysC K C)
    (gU : mg "check_unknowns" = some (.ref fU)) (GU : FnOk P w K mg base CX0 3 fU fdU ["unknowns"] (spCheckU K)) (kU : PySem.W.keepIn K (.ref fU) = true) (bU : Binds K fdU ["unknowns"] [])
    (gR : mg "check_rows" = some (.ref fR)) (GR : FnOk P w K mg base CX0 4 fR fdR ["rows", "many"] (spCheckR K)) (kR : PySem.W.keepIn K (.ref fR) = true) (bR : Binds K fdR ["rows", "many"] []) :
    FnOk P w K mg base CX0 5 f fd ["self", "unknowns", "rows"] (spInit K C) := by
  refine F.ok scInit (fun vs H Q E h => ?_) (fun cdv A outer s H vs Q E hr h => ?_)
  · obtain ⟨x, dx, u, r, ns, rs, rfl, _⟩ := h
    rfl
  · obtain ⟨x, dx, u, r, ns, rs, rfl, hx, du, hN, dr, hL, q⟩ := h
    have hr3 : Room 3 _ := hr.mono (by decide)
    refine ⟨_, PSs.nox (pss_cons (ps_expr (pe_call GU hr3 rfl gU kU bU .nil pass0 (pa_cons (pv 1) pa_nil)))
      (pss_cons (ps_expr (pe_call GR hr rfl gR kR bR .nil pass0 (pa_cons (pv 2) (pa_cons (pe_callB call_len (by rfl) B.len boot_len (pa_cons (pv 1) pa_nil)) pa_nil))))
      (pss_cons (ps_fld (pv 0) (pv 1) rfl) (pss_one (ps_fld (pv 0) (pv 2) rfl))))), ?_⟩
    refine ⟨_, rfl, u, ns, rfl, du, hN, fun H1 s1 => ?_⟩
    obtain ⟨a, xs, rfl, h1, h2, hl⟩ := tup_len (du.same s1)
    have hl2 : xs.length = ns.length := by rw [hl, List.length_map]
    refine ⟨_, rfl, _, rfl, _, ns.length, rfl, .inr ⟨_, h1, hl2.symm⟩, r, rs, ns.length, rfl, by have := hN.hi; omega, dr.same s1, hL, fun H2 s2 => ?_⟩
    have hx2 := s2 _ _ (s1 _ _ hx)
    refine ⟨_, rfl, _, rfl, x, C, dx, _, rfl, hx2, S.cl, S.nu, by show 0 < 1000; decide, _, rfl, _, rfl, x, C, dx, _, rfl, upd_same, S.cl, S.nr, by show 1 < 1000; decide, ?_⟩
    refine q _ (fun b o n e => ?_) upd_same
    rw [upd_ne n, upd_ne n]
    exact s2 _ _ (s1 _ _ e)
theorem scUnknowns : FnScope ["self"] ["self"] (defScope mSystemUnknowns) := ⟨rfl, rfl, rfl, by decide +kernel, rfl, by decide +kernel, by decide +kernel⟩
theorem ok_unknowns {f : Addr} {fd : FuncData} (F : FnM K "unknowns" "System.unknowns" mSystemUnknowns [] f fd) (S : SysC K C) : FnOk P w K mg base CX0 1 f fd ["self"] (spUnknowns C) := by
  refine F.ok scUnknowns (fun vs H Q E h => ?_) (fun cdv A outer s H vs Q E hr h => ?_)
  · obtain ⟨x, dx, u, r, rfl, _⟩ := h
    rfl
  · obtain ⟨x, dx, u, r, rfl, hx, q⟩ := h
    exact ⟨_, PSs.nox (pss_one (ps_ret (pe_fld (pv 0) rfl))), _, rfl, x, C, dx, _, u, rfl, hx, S.cl, S.nu, rfl, q⟩
theorem scRows : FnScope ["self"] ["self"] (defScope mSystemRows) := ⟨rfl, rfl, rfl, by decide +kernel, rfl, by decide +kernel, by decide +kernel⟩
theorem ok_rows {f : Addr} {fd : FuncData} (F : FnM K "rows" "System.rows" mSystemRows [] f fd) (S : SysC K C) : FnOk P w K mg base CX0 1 f fd ["self"] (spRows C) := by
  refine F.ok scRows (fun vs H Q E h => ?_) (fun cdv A outer s H vs Q E hr h => ?_)
  · obtain ⟨x, dx, u, r, rfl, _⟩ := h
    rfl
  · obtain ⟨x, dx, u, r, rfl, hx, q⟩ := h
    exact ⟨_, PSs.nox (pss_one (ps_ret (pe_fld (pv 0) rfl))), _, rfl, x, C, dx, _, r, rfl, hx, S.cl, S.nr, rfl, q⟩
theorem scLen : FnScope ["self"] ["self"] (defScope mSystemLen) := ⟨rfl, rfl, rfl, by decide +kernel, rfl, by decide +kernel, by decide +kernel⟩
theorem ok_len {f : Addr} {fd : FuncData} (F : FnM K "__len__" "System.__len__" mSystemLen [] f fd) (B : Bn mg) (S : SysC K C) : FnOk P w K mg base CX0 1 f fd ["self"] (spLen K C) := by
  refine F.ok scLen (fun vs H Q E h => ?_) (fun cdv A outer s H vs Q E hr h => ?_)
  · obtain ⟨x, ns, rs, rfl, _⟩ := h
    rfl
  · obtain ⟨x, ns, rs, rfl, ⟨_, _, dx, u, r, hx, du, dr⟩, q⟩ := h
    obtain ⟨a, xs, rfl, h1, h2, hl⟩ := tup_len dr
    refine ⟨_, PSs.nox (pss_one (ps_ret (pe_callB call_len (by rfl) B.len boot_len (pa_cons (pe_fld (pv 0) rfl) pa_nil)))), _, rfl, x, C, dx, _, _, rfl, hx, S.cl, S.nr, rfl, _, rs.length, rfl, .inr ⟨_, h1, ?_⟩, q⟩
    rw [hl, List.length_map]
theorem scBool : FnScope ["self"] ["self"] (defScope mSystemBool) := ⟨rfl, rfl, rfl, by decide +kernel, rfl, by decide +kernel, by decide +kernel⟩
theorem ok_bool {f : Addr} {fd : FuncData} (F : FnM K "__bool__" "System.__bool__" mSystemBool [] f fd) : FnOk P w K mg base CX0 1 f fd ["self"] spYes := by
  refine F.ok scBool (fun vs H Q E h => ?_) (fun cdv A outer s H vs Q E hr h => ?_)
  · obtain ⟨x, rfl, _⟩ := h
    rfl
  · obtain ⟨x, rfl, q⟩ := h
    exact ⟨_, PSs.nox (pss_one (ps_ret pe_bl)), q⟩
end
end Ca
set_option Elab.async false
set_option linter.all false
set_option maxRecDepth 100000
set_option maxHeartbeats 4000000
namespace Ca
open PySem L2
/-! ### what is known of the data of systems -/
theorem sign_small : ∀ c, isSign c = true → c < 128 := by
  intro c h
  have h1 : ∀ x ∈ LET.cps.toList, x < 128 := by decide +kernel
  have h2 : ∀ x ∈ DIG.cps.toList, x < 128 := by decide +kernel
  unfold isSign isLet at h
  rcases Bool.or_eq_true_iff.mp h with h | h
  · exact h1 c (of_decide_eq_true h)
  · exact h2 c (of_decide_eq_true h)
theorem name_parts {x : Str} (h : nameS x = true) : 1 ≤ x.length ∧ x.length ≤ 8 ∧ ∀ c ∈ x.cps.toList, c < 128 := by
  unfold nameS at h
  obtain ⟨h1, h⟩ := Bool.and_eq_true_iff.mp h
  obtain ⟨h2, h⟩ := Bool.and_eq_true_iff.mp h
  obtain ⟨_, h4⟩ := Bool.and_eq_true_iff.mp h
  exact ⟨of_decide_eq_true h1, of_decide_eq_true h2, fun c hc => sign_small c (List.all_eq_true.mp h4 c hc)⟩
theorem unk_name {x : Str} (h : isUnknownD (.str x) = true) : nameS x = true := (Bool.and_eq_true_iff.mp (show (nameS x && !decide (x = "bound")) = true from h)).1
theorem row_name {r : Rw} {m : Nat} (h : isRowD (rowD r) m = true) : nameS r.name = true ∧ r.parts.length = m := by
  obtain ⟨h1, h2⟩ := Bool.and_eq_true_iff.mp (show (nameS r.name && (isTupN (.tuple (r.parts.map strD)) m && ((partsOf (.tuple (r.parts.map strD)) ++ [strD r.bd]).all isStretchD))) = true from h)
  obtain ⟨h3, _⟩ := Bool.and_eq_true_iff.mp h2
  refine ⟨h1, ?_⟩
  have := of_decide_eq_true h3
  rwa [List.length_map] at this
mutual
theorem dp_of {K : PySem.W.Frag} {H : Hp} : ∀ {d : PyData} {v : V}, d.hasDict = false → Dq K H v d → Dp K H v d
  | .none, _, _, h => by cases h; exact .non
  | .bool b, _, _, h => by cases h; exact .bl b
  | .int i, _, _, h => by cases h; exact .int i
  | .str x, _, _, h => by cases h; exact .str x
  | .list ds, _, n, h => by
    cases h with
    | lst a b => exact .lst a (dpAll_of (by simpa only [PyData.hasDict] using n) b)
  | .tuple ds, _, n, h => by
    cases h with
    | tup a b => exact .tup a (dpAll_of (by simpa only [PyData.hasDict] using n) b)
  | .dict ds, _, n, h => by simp [PyData.hasDict] at n
theorem dpAll_of {K : PySem.W.Frag} {H : Hp} : ∀ {ds : List PyData} {vs : List V}, PyData.hasDictAll ds = false → DqAll K H vs ds → DpAll K H vs ds
  | [], _, _, h => by cases h; exact .nil
  | d :: ds, _, n, h => by
    have n' : (d.hasDict || PyData.hasDictAll ds) = false := by simpa only [PyData.hasDictAll] using n
    obtain ⟨n1, n2⟩ := Bool.or_eq_false_iff.mp n'
    cases h with
    | cons a b => exact .cons (dp_of n1 a) (dpAll_of n2 b)
end
theorem eqvAll_strs : ∀ ns ms : List Str, PyData.eqvAll (ns.map .str) (ms.map .str) = decide (ns = ms)
  | [], [] => by simp [PyData.eqvAll]
  | [], _ :: _ => by simp [PyData.eqvAll]
  | _ :: _, [] => by simp [PyData.eqvAll]
  | n :: ns, m :: ms => by
    simp only [List.map_cons, PyData.eqvAll, PyData.eqv]
    rw [eqvAll_strs ns ms, Bool.eq_iff_iff]
    simp
theorem eqv_folk (ns ms : List Str) : PyData.eqv (folkD ns) (folkD ms) = decide (ns = ms) := by
  unfold folkD
  simp only [PyData.eqv]
  exact eqvAll_strs ns ms
theorem eqv_str (p q : Int × Int) : PyData.eqv (strD p) (strD q) = decide (p = q) := by
  obtain ⟨a, b⟩ := p
  obtain ⟨c, d⟩ := q
  unfold strD
  simp only [PyData.eqv, PyData.eqvAll]
  rw [Bool.eq_iff_iff]
  simp
theorem eqvAll_strD : ∀ ps qs : List (Int × Int), PyData.eqvAll (ps.map strD) (qs.map strD) = decide (ps = qs)
  | [], [] => by simp [PyData.eqvAll]
  | [], _ :: _ => by simp [PyData.eqvAll]
  | _ :: _, [] => by simp [PyData.eqvAll]
  | p :: ps, q :: qs => by
    simp only [List.map_cons, PyData.eqvAll]
    rw [eqvAll_strD ps qs, eqv_str, Bool.eq_iff_iff]
    simp
theorem eqv_row (r q : Rw) : PyData.eqv (rowD r) (rowD q) = decide (r = q) := by
  obtain ⟨a, b, c⟩ := r
  obtain ⟨d, e, f⟩ := q
  unfold rowD
  simp only [PyData.eqv, PyData.eqvAll]
  rw [eqvAll_strD, eqv_str, Bool.eq_iff_iff]
  simp
theorem eqvAll_rows : ∀ rs qs : List Rw, PyData.eqvAll (rs.map rowD) (qs.map rowD) = decide (rs = qs)
  | [], [] => by simp [PyData.eqvAll]
  | [], _ :: _ => by simp [PyData.eqvAll]
  | _ :: _, [] => by simp [PyData.eqvAll]
  | p :: ps, q :: qs => by
    simp only [List.map_cons, PyData.eqvAll]
    rw [eqvAll_rows ps qs, eqv_row, Bool.eq_iff_iff]
    simp
theorem eqv_rows (rs qs : List Rw) : PyData.eqv (rowsD rs) (rowsD qs) = decide (rs = qs) := by
  unfold rowsD
  simp only [PyData.eqv]
  exact eqvAll_rows rs qs
theorem strOk_of {x : Str} (h : ∀ c ∈ x.cps.toList, c < 128) : PyData.strOk x = true := by
  unfold PyData.strOk
  rw [← Array.all_toList, List.all_eq_true]
  intro c hc
  exact decide_eq_true (Nat.lt_of_lt_of_le (h c hc) (by decide))
theorem lay_strs : ∀ ns : List Str, (∀ x ∈ ns, nameS x = true) → PyData.canLayAll0 (ns.map .str) = true
  | [], _ => rfl
  | n :: ns, h => by
    simp only [List.map_cons, PyData.canLayAll0, PyData.canLay0]
    rw [strOk_of (name_parts (h n (List.mem_cons_self ..))).2.2, lay_strs ns fun x z => h x (List.mem_cons_of_mem _ z)]
    rfl
theorem dep_strs : ∀ ns : List Str, PyData.depthAll (ns.map .str) = 0
  | [] => rfl
  | n :: ns => by
    simp only [List.map_cons, PyData.depthAll, PyData.depth]
    rw [dep_strs ns]
    rfl
theorem shaped_strs {ns : List Str} (h : ∀ x ∈ ns, nameS x = true) : SeqAt.shaped (.tuple (ns.map .str)) = true := by
  refine Bool.and_eq_true_iff.mpr ⟨by simp only [PyData.canLay0]; exact lay_strs ns h, decide_eq_true ?_⟩
  simp only [PyData.depth]
  rw [dep_strs]
  decide
theorem folk_names {ns : List Str} (N : Folk ns) : ∀ x ∈ ns, nameS x = true := fun x z => unk_name (N.ok x z)
theorem shaped_folk {ns : List Str} (N : Folk ns) : SeqAt.shaped (folkD ns) = true := shaped_strs (folk_names N)
theorem lay_strD : ∀ ps : List (Int × Int), PyData.canLayAll0 (ps.map strD) = true
  | [] => rfl
  | p :: ps => by
    simp only [List.map_cons, PyData.canLayAll0, strD, PyData.canLay0]
    exact lay_strD ps
theorem dep_strD : ∀ ps : List (Int × Int), PyData.depthAll (ps.map strD) ≤ 1
  | [] => Nat.zero_le _
  | p :: ps => by
    simp only [List.map_cons, PyData.depthAll, strD, PyData.depth]
    have := dep_strD ps
    show max (max 0 (max 0 0) + 1) _ ≤ 1
    exact Nat.max_le.mpr ⟨Nat.le_refl _, this⟩
theorem lay_row {r : Rw} (h : nameS r.name = true) : PyData.canLay0 (rowD r) = true := by
  unfold rowD
  simp only [PyData.canLay0, PyData.canLayAll0]
  rw [strOk_of (name_parts h).2.2, lay_strD]
  rfl
theorem dep_row (r : Rw) : (rowD r).depth ≤ 3 := by
  unfold rowD strD
  simp only [PyData.depth, PyData.depthAll]
  have := dep_strD r.parts
  unfold strD at this
  omega
theorem lay_rows : ∀ rs : List Rw, (∀ r ∈ rs, nameS r.name = true) → PyData.canLayAll0 (rs.map rowD) = true
  | [], _ => rfl
  | r :: rs, h => by
    simp only [List.map_cons, PyData.canLayAll0]
    rw [lay_row (h r (List.mem_cons_self ..)), lay_rows rs fun x z => h x (List.mem_cons_of_mem _ z)]
    rfl
theorem dep_rows : ∀ rs : List Rw, PyData.depthAll (rs.map rowD) ≤ 3
  | [] => Nat.zero_le _
  | r :: rs => by
    simp only [List.map_cons, PyData.depthAll]
    exact Nat.max_le.mpr ⟨dep_row r, dep_rows rs⟩
theorem shaped_rows {rs : List Rw} (h : ∀ r ∈ rs, nameS r.name = true) : SeqAt.shaped (rowsD rs) = true := by
  refine Bool.and_eq_true_iff.mpr ⟨by unfold rowsD; simp only [PyData.canLay0]; exact lay_rows rs h, decide_eq_true ?_⟩
  unfold rowsD
  simp only [PyData.depth]
  have := dep_rows rs
  omega
theorem lines_names {rs : List Rw} {m : Nat} (L : Lines rs m) : ∀ r ∈ rs, nameS r.name = true := fun r z => (row_name (L.ok r z)).1
theorem nodict_strs : ∀ ns : List Str, PyData.hasDictAll (ns.map .str) = false
  | [] => rfl
  | n :: ns => by
    simp only [List.map_cons, PyData.hasDictAll, PyData.hasDict, Bool.false_or]
    exact nodict_strs ns
theorem nodict_folk (ns : List Str) : (folkD ns).hasDict = false := by
  unfold folkD
  simp only [PyData.hasDict]
  exact nodict_strs ns
theorem nodict_strD : ∀ ps : List (Int × Int), PyData.hasDictAll (ps.map strD) = false
  | [] => rfl
  | p :: ps => by
    simp only [List.map_cons, PyData.hasDictAll, strD, PyData.hasDict, Bool.false_or]
    exact nodict_strD ps
theorem nodict_row (r : Rw) : (rowD r).hasDict = false := by
  unfold rowD strD
  simp only [PyData.hasDictAll, PyData.hasDict, Bool.false_or]
  have := nodict_strD r.parts
  unfold strD at this
  rw [this]
  rfl
theorem nodict_rows : ∀ rs : List Rw, (rowsD rs).hasDict = false := by
  intro rs
  unfold rowsD
  simp only [PyData.hasDict]
  induction rs with
  | nil => rfl
  | cons r rs ih =>
    simp only [List.map_cons, PyData.hasDictAll]
    rw [nodict_row, ih]
    rfl
end Ca
set_option Elab.async false
set_option linter.all false
set_option maxRecDepth 100000
set_option maxHeartbeats 4000000
namespace Ca
open PySem L2
section
variable {X : Cx}
theorem ixT (K : PySem.W.Frag) (h : X.K = K := by rfl) : IxR X (rIxT K) := h ▸ ix_tup
end
def namesD (rs : List Rw) : PyData := .tuple ((rs.map Rw.name).map .str)
def spNames (K : PySem.W.Frag) (C : Addr) : Sp := fun vs H Q _ => ∃ x ns rs, vs = [.ref x] ∧ SysAt K C H x ns rs ∧ ∀ H' v, Same H H' → Dq K H' v (namesD rs) → Q v H'
theorem strs_dq {K : PySem.W.Frag} {H : Hp} : ∀ {ns : List Str}, (∀ x ∈ ns, x.length ≤ 1000) → DqAll K H (ns.map V.str) (ns.map .str)
  | [], _ => .nil
  | n :: ns, h => .cons (.str n (h n (List.mem_cons_self ..))) (strs_dq fun x z => h x (List.mem_cons_of_mem _ z))
theorem map_range {α β : Type} (l : List α) (d : α) (g : α → β) (n : Nat) (h : l.length = n) : ((List.range n).map fun i => g (l.getD i d)) = l.map g := by
  refine List.ext_getElem (by simp [h]) fun i h1 h2 => ?_
  have hi : i < l.length := by simpa using h2
  simp [List.getElem?_eq_getElem hi]
theorem ty_tyx {K : PySem.W.Frag} {H : Hp} {y : V} {t : String} (h : Ty K H y (.type t)) : TyX K H y (.type t) := by
  cases h with
  | non => exact .base .non
  | bl b => exact .base (.bl b)
  | int i => exact .base (.int i)
  | str x => exact .base (.str x)
  | lst e => exact tyx_l e
  | tup e => exact tyx_t e
  | dic e => exact .base (.dK e)
/-- what isinstance(x, System) leans on -/
structure SysI (K : PySem.W.Frag) (C : Addr) : Prop where
  ha : PySem.W.findIn K (.ref C) "__class__" = some (some (.builtin "object.__class__"))
  hn : PySem.W.specialIn K (.builtin "object.__class__") "__get__" = some (some (.builtin "getset_descriptor.__get__"))
  ht : PySem.W.takesIn K (.builtin "object.__class__") = some true
  hm : PySem.W.mroIn K C (.type "object") = some true
  own : PySem.W.kitOne K (.ref C) (.ref C) = some true
  odd : ∀ t : String, t ∈ ["NoneType", "bool", "int", "str", "list", "tuple", "dict"] → PySem.W.kitOne K (.type t) (.ref C) = some false ∧ PySem.W.notFirst K C (.type t) = true
  nf : PySem.W.notFirst K C (.ref C) = true
/-- self == other -/
def spEqS (K : PySem.W.Frag) (C : Addr) : Sp := fun vs H Q _ => ∃ x y ns rs, vs = [.ref x, y] ∧ SysAt K C H x ns rs ∧
  ((∃ t : String, Ty K H y (.type t) ∧ PySem.W.kitOne K (.type t) (.ref C) = some false ∧ Q (.bl false) H) ∨ ∃ z ms qs, y = .ref z ∧ SysAt K C H z ms qs ∧ Q (.bl (decide (ns = ms) && decide (rs = qs))) H)
section
variable {P : Program} {w : World} {K : PySem.W.Frag} {mg : Str → Option Value} {base : Heap} {C : Addr}
theorem scNames : FnScope ["self", "row"] ["self"] (defScope mSystemNames) := ⟨rfl, rfl, rfl, by decide +kernel, rfl, by decide +kernel, by decide +kernel⟩
theorem ok_names {f : Addr} {fd : FuncData} (F : FnM K "names" "System.names" mSystemNames [] f fd) (B : Bn mg) (S : SysC K C) : FnOk P w K mg base CX0 1 f fd ["self"] (spNames K C) := by
  refine F.ok scNames (fun vs H Q E h => ?_) (fun cdv A outer s H vs Q E hr h => ?_)
  · obtain ⟨x, ns, rs, rfl, _⟩ := h
    rfl
  · obtain ⟨x, ns, rs, rfl, ⟨hN, hL, dx, u, r, hx, du, dr⟩, q⟩ := h
    have nd := scNames.nd
    obtain ⟨a, xs, rfl, h1, h2, hl⟩ := tup_len dr
    have hl2 : xs.length = rs.length := by rw [hl, List.length_map]
    refine ⟨_, PSs.nox (pss_one (ps_ret (pe_callTy call_tuple_of (by rfl) B.tup (by decide +kernel) (pa_cons (pe_lc (own := [("row", 1)]) (g := gName 1) (tt := tYes) rfl nd (pi_tup (pe_fld (pv 0) rfl))
      (blkOk_by (own := [("row", 1)]) (N := ["self", "row"]) (sc := defScope mSystemNames) (by decide +kernel)) (fun _ _ _ _ _ => pg_name (i := 1) nd rfl (Or.inl rfl)) (fun _ _ _ _ _ => pts_nil)
      (fun _ _ _ _ _ => pe_ix (ixT K) (pv 1) pe_int (fun _ _ => rfl))) pa_nil)))), ?_⟩
    refine ⟨_, rfl, x, C, dx, _, _, rfl, hx, S.cl, S.nr, rfl, a, rfl, ⟨_, h1⟩, fun D hD => ?_⟩
    refine lc_known (walk_tup (K := K) (a := a) (xs := xs)) (fun i => .str ((rs.map Rw.name).getD i "")) (by rw [hl2]; have := hL.hi; omega) hD (fun H' s' => same_sqt s' h1) (fun _ _ _ _ y => by obtain ⟨rfl, _⟩ := y; exact fun _ _ e => e) (fun _ => rfl) ?_ ?_
    · rintro i z H5 H6 Qk hi s5 ⟨rfl, hz⟩ k
      obtain ⟨d, hdi, hdq⟩ := (h2.same s5).get hz
      have hi2 : i < rs.length := by rw [← hl2]; exact hi
      rw [List.getElem?_map, List.getElem?_eq_getElem hi2] at hdi
      cases hdi
      obtain ⟨b, v2, v3, rfl, hb, _, _, _⟩ := row_at hdq
      refine ⟨_, rfl, b, _, 0, _, rfl, rfl, hb, atI_nat (j := 0) rfl, ?_⟩
      have k1 := k _ (fun _ _ e => e)
      have en : (rs.map Rw.name).getD i "" = rs[i].name := by
        rw [List.getD_eq_getElem?_getD, List.getElem?_map, List.getElem?_eq_getElem hi2]
        rfl
      rw [en] at k1
      exact k1
    · intro H5 s5 bD
      rw [hl2, map_range (rs.map Rw.name) "" V.str rs.length (List.length_map ..)] at bD
      refine ⟨D, _, rfl, .inl ⟨SqL.of bD, fun p hp => q _ _ (s5.trans (Same.new hp)) (.tup (SqT.of upd_same) (strs_dq fun y z => ?_))⟩⟩
      obtain ⟨r, hr1, rfl⟩ := List.mem_map.mp z
      have := (name_parts (lines_names hL r hr1)).2.1
      omega
theorem scEq : FnScope ["self", "other"] ["self", "other"] (defScope mSystemEq) := ⟨rfl, rfl, rfl, by decide +kernel, rfl, by decide +kernel, by decide +kernel⟩
theorem ok_eq {f : Addr} {fd : FuncData} (F : FnM K "__eq__" "System.__eq__" mSystemEq [] f fd) (B : Bn mg) (S : SysC K C) (I : SysI K C) (gC : mg "System" = some (.ref C)) : FnOk P w K mg base CX0 1 f fd ["self", "other"] (spEqS K C) := by
  refine F.ok scEq (fun vs H Q E h => ?_) (fun cdv A outer s H vs Q E hr h => ?_)
  · obtain ⟨x, y, ns, rs, rfl, _⟩ := h
    rfl
  · obtain ⟨x, y, ns, rs, rfl, ⟨hN, hL, dx, u, r, hx, du, dr⟩, q⟩ := h
    refine ⟨_, PSs.nox (pss_one (ps_ret (pe_and (pe_callB call_isi (by rfl) B.isi PyProof.Rows.boot_isinstance (pa_cons (pv 1) (pa_cons (pe_glob (v := .ref C) rfl gC rfl) pa_nil)))
      (pe_and (pe_cmpR (op_eqD hr.units) (pe_fld (pv 0) rfl) (pe_fld (pv 1) rfl) (nomark _)) (pe_one (pe_cmpR (op_eqD hr.units) (pe_fld (pv 0) rfl) (pe_fld (pv 1) rfl) (nomark _))))))), ?_⟩
    rcases q with ⟨t, ht, hk, q⟩ | ⟨z, ms, qs, rfl, ⟨hN2, hL2, dz, u2, r2, hz, du2, dr2⟩, q⟩
    · exact ⟨_, rfl, y, .ref C, _, _, false, rfl, .own C, ty_tyx ht, hk, _, rfl, iteF q⟩
    · refine ⟨_, rfl, .ref z, .ref C, _, _, true, rfl, .own C, .base (.ins hz S.cl I.ha I.hn I.ht I.hm), I.own, _, rfl, iteT ?_⟩
      refine ⟨_, rfl, x, C, dx, _, u, rfl, hx, S.cl, S.nu, rfl, _, rfl, z, C, dz, _, u2, rfl, hz, S.cl, S.nu, rfl, _, _, dp_of (nodict_folk ns) du, dp_of (nodict_folk ms) du2, shaped_folk hN, shaped_folk hN2, _, rfl, ?_⟩
      rw [eqv_folk]
      refine ite2 (fun g => ?_) (fun g => ?_)
      · rw [g, Bool.true_and] at q
        refine ⟨_, rfl, x, C, dx, _, r, rfl, hx, S.cl, S.nr, rfl, _, rfl, z, C, dz, _, r2, rfl, hz, S.cl, S.nr, rfl, _, _, dp_of (nodict_rows rs) dr, dp_of (nodict_rows qs) dr2, shaped_rows (lines_names hL), shaped_rows (lines_names hL2), ?_⟩
        rw [eqv_rows]
        exact q
      · rw [Bool.eq_false_iff.mpr g, Bool.false_and] at q
        exact q
end
end Ca
set_option Elab.async false
set_option linter.all false
set_option maxRecDepth 100000
set_option maxHeartbeats 4000000
namespace Ca
open PySem L2
/-- the first items of a comprehension of two clauses -/
def items2 (m : Nat → Nat) (f : Nat → Nat → V) (i : Nat) : List V := (List.range i).flatMap fun a => (List.range (m a)).map (f a)
theorem items2_more (m : Nat → Nat) (f : Nat → Nat → V) (i : Nat) : items2 m f (i + 1) = items2 m f i ++ (List.range (m i)).map (f i) := by
  unfold items2
  rw [List.range_succ, List.flatMap_append]
  simp
theorem rdYes {A B : Hp → Prop} {σ : L2.St} {H : Hp} (h : A H) : tYes σ H (fun b H3 => if b = true then A H3 else B H3) := by
  show (if true = true then A H else B H)
  rw [if_pos rfl]
  exact h
/-- a comprehension of two clauses without tests, whose items are known ahead -/
theorem lc2_known {J : It} {n : Nat} {G : Hp → Prop} {Y : Nat → Hp → V → Hp → Prop} (w : Walk J n G Y) {wi1 : TI} {te : TE} {vs vs1 : List Nat} {σ : L2.St} {H1 : Hp} {D : Addr} {Qd : Hp → Prop} {j j1 : Nat} (m : Nat → Nat) (f : Nat → Nat → V) (hn : ∀ i, i ≤ n → (items2 m f i).length ≤ 100000)
    (hD : H1 D = none) (hG : ∀ H, Same H1 H → G H) (hY : ∀ i H x H', Y i H x H' → Same H H') (hw : ∀ x, wipe ((wipe σ vs).set j (some x)) vs = wipe σ vs) (hw1 : ∀ x z, wipe ((wipe ((wipe σ vs).set j (some x)) vs1).set j1 (some z)) vs1 = wipe ((wipe σ vs).set j (some x)) vs1)
    (hs : ∀ i x H H' (R : It → Hp → Prop), i < n → Same H1 H → Y i H x H' →
      (∀ J1 G1 Y1 H4, Walk J1 (m i) G1 Y1 → Same H' H4 → (∀ H5, Same H1 H5 → G1 H5) → (∀ k H z H', Y1 k H z H' → Same H H') →
        (∀ k z H5 H6 (Qk : VK), k < m i → Same H1 H5 → Y1 k H5 z H6 → (∀ H7, Same H6 H7 → Qk (f i k) H7) → te ((wipe ((wipe σ vs).set j (some x)) vs1).set j1 (some z)) H6 Qk) → R J1 H4) → wi1 ((wipe σ vs).set j (some x)) H' R)
    (hd : ∀ H, Same H1 H → H D = some (.lst (items2 m f n)) → Qd H) :
    ∃ W : Nat → Nat → Hp → Prop, (∃ m, W 0 m (upd H1 D (.lst []))) ∧ ∀ i m H, W i m H →
      (J.stop i H ∧ Qd H) ∨ (J.go i H ∧ ∃ Nx : Hp → Prop, (∀ H', Nx H' → ∃ m', m' < m ∧ W (i + 1) m' H') ∧ ∀ x H', J.yld i H x H' → gName j x (wipe σ vs) H' fun σ2 H2 => wipe σ2 vs = wipe σ vs ∧ tYes σ2 H2 fun b H3 =>
        if b = true then wi1 σ2 H3 fun J1 H4 => ∃ W1 : Nat → Nat → Hp → Prop, (∃ m, W1 0 m H4) ∧ ∀ j k H, W1 j k H →
          (J1.stop j H ∧ Nx H) ∨ (J1.go j H ∧ ∃ Nx1 : Hp → Prop, (∀ H', Nx1 H' → ∃ k', k' < k ∧ W1 (j + 1) k' H') ∧ ∀ x H', J1.yld j H x H' → gName j1 x (wipe σ2 vs1) H' fun σ3 H5 => wipe σ3 vs1 = wipe σ2 vs1 ∧ tYes σ3 H5 fun b H6 =>
            if b = true then te σ3 H6 fun y H7 => ∃ acc, H7 D = some (.lst acc) ∧ acc.length < sizeLine ∧ Nx1 (upd H7 D (.lst (acc ++ [y]))) else Nx1 H6)
        else Nx H3) := by
  refine ⟨fun i m' H => m' = n - i ∧ i ≤ n ∧ Same H1 H ∧ H D = some (.lst (items2 m f i)), ⟨n, by simp, Nat.zero_le _, Same.new hD, upd_same⟩, ?_⟩
  rintro i m' H ⟨rfl, hi, s, b⟩
  have g := hG H s
  by_cases hlt : i < n
  · refine .inr ⟨w.goes i H hlt g, fun H' => Same H1 H' ∧ H' D = some (.lst (items2 m f (i + 1))), fun H' p => ⟨n - (i + 1), by omega, rfl, hlt, p⟩, fun x H' y => ⟨hw x, rdYes ?_⟩⟩
    have y' := w.yields i H x H' hlt g y
    have sy := hY i H x H' y'
    refine hs i x H H' _ hlt s y' fun J1 G1 Y1 H4 w1 s4 hG1 hY1 he => ?_
    refine ⟨fun k k' H => k' = m i - k ∧ k ≤ m i ∧ Same H1 H ∧ H D = some (.lst (items2 m f i ++ (List.range k).map (f i))), ⟨m i, by simp, Nat.zero_le _, fun a o e => s4 _ _ (sy _ _ (s _ _ e)), by simpa using s4 _ _ (sy _ _ b)⟩, ?_⟩
    rintro k k' H5 ⟨rfl, hk, s5, b5⟩
    by_cases klt : k < m i
    · refine .inr ⟨w1.goes k H5 klt (hG1 H5 s5), fun H' => Same H1 H' ∧ H' D = some (.lst (items2 m f i ++ (List.range (k + 1)).map (f i))), fun H' p => ⟨m i - (k + 1), by omega, rfl, klt, p⟩, fun z H6 yz => ⟨hw1 x z, rdYes ?_⟩⟩
      have y6 := w1.yields k H5 z H6 klt (hG1 H5 s5) yz
      have s6 := hY1 k H5 z H6 y6
      refine he k z H5 H6 _ klt s5 y6 fun H7 s7 => ⟨_, s7 _ _ (s6 _ _ b5), ?_, fun a o e => ?_, ?_⟩
      · have := hn (i + 1) hlt
        rw [items2_more, List.length_append, List.length_map, List.length_range] at this
        rw [List.length_append, List.length_map, List.length_range]
        exact Nat.lt_of_lt_of_le (show _ < 100001 by omega) (by decide)
      · rw [upd_ne (ne_of_none e hD)]
        exact s7 _ _ (s6 _ _ (s5 _ _ e))
      · rw [upd_same, List.range_succ, List.map_append, List.append_assoc]
        rfl
    · have e : k = m i := by omega
      subst e
      exact .inl ⟨w1.stops H5 (hG1 H5 s5), s5, by rw [items2_more]; exact b5⟩
  · have e : i = n := by omega
    subst e
    exact .inl ⟨w.stops H g, hd H s b⟩
end Ca
set_option Elab.async false
set_option linter.all false
set_option maxRecDepth 100000
set_option maxHeartbeats 4000000
namespace Ca
open PySem L2
section
variable {X : Cx}
theorem piT (K : PySem.W.Frag) {tg e : Expr} {te : TE} (he : PE X e te) (h : X.K = K := by rfl) : PI X tg e (iTup K te) := h ▸ pi_tup he
end
def intS (i : Int) : Str := toString i
def wordsOf (ps : List (Int × Int)) : List Str := ps.flatMap fun p => [intS p.1, intS p.2]
def lineS (r : Rw) : Str := Txt.join " " ([("row" : Str), r.name] ++ wordsOf (r.parts ++ [r.bd]))
def pageS (ns : List Str) (rs : List Rw) : Str := Txt.join "\n" (Txt.join " " ("unknowns" :: ns) :: rs.map lineS)
def inB (p : Int × Int) : Prop := p.1.natAbs.log2 < 1920 ∧ p.2.natAbs.log2 < 1920
theorem str_ok {p : Int × Int} (h : isStretchD (strD p) = true) : -10000 ≤ p.1 ∧ p.1 ≤ p.2 ∧ p.2 ≤ 10000 := by
  obtain ⟨h1, h⟩ := Bool.and_eq_true_iff.mp (show (decide (-10000 ≤ p.1) && (decide (p.1 ≤ p.2) && decide (p.2 ≤ 10000))) = true from h)
  obtain ⟨h2, h3⟩ := Bool.and_eq_true_iff.mp h
  exact ⟨of_decide_eq_true h1, of_decide_eq_true h2, of_decide_eq_true h3⟩
theorem log_small {i : Int} (h1 : -10000 ≤ i) (h2 : i ≤ 10000) : i.natAbs.log2 < 1920 := by
  have : i.natAbs < 2 ^ 14 := by show i.natAbs < 16384; omega
  by_cases z : i.natAbs = 0
  · rw [z]; decide
  · have := (Nat.log2_lt z).mpr this
    omega
theorem str_in {p : Int × Int} (h : isStretchD (strD p) = true) : inB p := by
  obtain ⟨h1, h2, h3⟩ := str_ok h
  exact ⟨log_small h1 (by omega), log_small (by omega) h3⟩
theorem row_in {r : Rw} {m : Nat} (h : isRowD (rowD r) m = true) : ∀ p ∈ r.parts ++ [r.bd], inB p := by
  obtain ⟨_, h2⟩ := Bool.and_eq_true_iff.mp (show (nameS r.name && (isTupN (.tuple (r.parts.map strD)) m && ((partsOf (.tuple (r.parts.map strD)) ++ [strD r.bd]).all isStretchD))) = true from h)
  obtain ⟨_, h4⟩ := Bool.and_eq_true_iff.mp h2
  intro p hp
  refine str_in (List.all_eq_true.mp h4 (strD p) ?_)
  show strD p ∈ r.parts.map strD ++ [strD r.bd]
  rw [show r.parts.map strD ++ [strD r.bd] = (r.parts ++ [r.bd]).map strD by rw [List.map_append]; rfl]
  exact List.mem_map_of_mem hp
theorem intS_len {i : Int} (h : i.natAbs.log2 < 1920) : (intS i).length ≤ 1921 := PyProof.Rows.int_text_len_1921 h
theorem words_len : ∀ ps : List (Int × Int), (∀ p ∈ ps, inB p) → ((wordsOf ps).map (·.length)).sum ≤ 3842 * ps.length ∧ (wordsOf ps).length = 2 * ps.length
  | [], _ => ⟨Nat.le_refl _, rfl⟩
  | p :: ps, h => by
    obtain ⟨h1, h2⟩ := words_len ps fun x z => h x (List.mem_cons_of_mem _ z)
    have hp := h p (List.mem_cons_self ..)
    have e : wordsOf (p :: ps) = intS p.1 :: intS p.2 :: wordsOf ps := rfl
    rw [e]
    have l1 := intS_len hp.1
    have l2 := intS_len hp.2
    refine ⟨?_, ?_⟩
    · simp only [List.map_cons, List.sum_cons, List.length_cons]
      omega
    · simp only [List.length_cons]
      omega
def wordAt (ps : List (Int × Int)) (a k : Nat) : V := .str (if k = 0 then intS (ps.getD a (0, 0)).1 else intS (ps.getD a (0, 0)).2)
theorem items_words (ps : List (Int × Int)) (n : Nat) (h : ps.length = n) : items2 (fun _ => 2) (wordAt ps) n = (wordsOf ps).map V.str := by
  unfold items2 wordsOf
  rw [List.flatMap_def, List.flatMap_def]
  have e : (List.range n).map (fun a => (List.range 2).map (wordAt ps a)) = ps.map fun p => [V.str (intS p.1), V.str (intS p.2)] :=
    map_range ps (0, 0) (fun p => [V.str (intS p.1), V.str (intS p.2)]) n h
  rw [e, List.map_flatten, List.map_map]
  rfl
theorem items_two (f : Nat → Nat → V) : ∀ i, (items2 (fun _ => 2) f i).length = 2 * i
  | 0 => rfl
  | i + 1 => by
    rw [items2_more, List.length_append, items_two f i, List.length_map, List.length_range]
    omega
def spLine (K : PySem.W.Frag) : Sp := fun vs H Q _ => ∃ v r m, vs = [v] ∧ Dq K H v (rowD r) ∧ isRowD (rowD r) m = true ∧ m ≤ 3 ∧ ∀ H', Same H H' → Q (.str (lineS r)) H'
section
variable {P : Program} {w : World} {K : PySem.W.Frag} {mg : Str → Option Value} {base : Heap} {C : Addr}
abbrev NLine : List Str := ["row", "name", "stretches", "bound", "ends", "stretch", "end"]
theorem scLine : FnScope NLine ["row"] (defScope sLineOf) := ⟨rfl, rfl, rfl, by decide +kernel, rfl, by decide +kernel, by decide +kernel⟩
theorem ok_line {f : Addr} {fd : FuncData} (F : FnT K "line_of" sLineOf f fd) (B : Bn mg) : FnOk P w K mg base CX0 1 f fd ["row"] (spLine K) := by
  refine F.ok scLine (fun vs H Q E h => ?_) (fun cdv A outer s H vs Q E hr h => ?_)
  · obtain ⟨v, r, m, rfl, _⟩ := h
    rfl
  · obtain ⟨v, r, m, rfl, hd, ok, hm, q⟩ := h
    have nd := scLine.nd
    refine ⟨_, PSs.nox (pss_cons (ps_asg (pv 0) (pg_tup rfl (pgs_cons (pg_name (i := 1) nd rfl (.inl rfl)) (pgs_cons (pg_name (i := 2) nd rfl (.inl rfl)) (pgs_cons (pg_name (i := 3) nd rfl (.inl rfl)) pgs_nil)))))
      (pss_cons (ps_setLc2 (i := 4) (own := [("stretch", 5), ("end", 6)]) (vs1 := [6]) (g := gName 5) (g1 := gName 6) (tt := tYes) (tt1 := tYes) rfl nd rfl rfl (sw_true rfl rfl rfl (by decide +kernel)) (pi_tup (pe_tup (StX.pa_star (pv 2) (pa_cons (pv 3) pa_nil))))
          (blkOk_by (own := [("stretch", 5), ("end", 6)]) (N := NLine) (sc := defScope sLineOf) (by decide +kernel)) (by decide) (fun _ _ _ _ _ => pg_name (i := 5) nd rfl (Or.inl rfl)) (fun _ _ _ _ _ => pts_nil)
          (fun _ _ _ _ _ => piT K (pv 5)) (fun _ _ _ _ _ => pg_name (i := 6) nd rfl (Or.inl rfl)) (fun _ _ _ _ _ => pts_nil)
          (fun _ _ _ _ _ => pe_callTy call_str_int (by rfl) B.str (by decide +kernel) (pa_cons (pv 6) pa_nil)))
      (pss_one (ps_ret (pe_join pe_str (pe_lst (pa_cons pe_str (pa_cons (pv 1) (StX.pa_star (pv 4) pa_nil))))))))), ?_⟩
    have hd1 := hd
    cases hd1 with
    | @tup a xs _ h1 h2 =>
      cases h2 with
      | @cons v1 _ _ _ e1 r1 =>
        cases r1 with
        | @cons v2 _ _ _ e2 r2 =>
          cases r2 with
          | @cons v3 _ _ _ e3 r3 =>
            cases r3
            refine ⟨_, rfl, a, _, rfl, h1, rfl, _, _, rfl, _, _, rfl, _, _, rfl, rfl, ?_⟩
            cases e1 with
            | str _ hname =>
              obtain ⟨a2, xs2, rfl, h3, h4, hl⟩ := tup_len e2
              rw [List.length_map] at hl
              have hp3 := (row_name ok).2
              have hall : DqAll K H (xs2 ++ [v3]) ((r.parts ++ [r.bd]).map strD) := by
                rw [List.map_append]
                exact h4.app (.cons e3 .nil)
              have hlen : (xs2 ++ [v3]).length = r.parts.length + 1 := by rw [List.length_append, hl]; rfl
              refine ⟨_, rfl, a2, xs2, rfl, .inl h3, _, rfl, by rw [hlen, hp3]; exact Nat.le_trans (Nat.succ_le_succ hm) (by decide), fun p hp => ⟨p, rfl, ⟨_, SqT.of upd_same⟩, fun D hD => ?_⟩⟩
              have s4 : Same H (upd H p (.tup (xs2 ++ [v3]))) := Same.new hp
              have hall1 := hall.same s4
              refine lc2_known (walk_tup (K := K) (a := p) (xs := xs2 ++ [v3])) (fun _ => 2) (wordAt (r.parts ++ [r.bd])) (fun i hi => by rw [items_two]; rw [hlen] at hi; omega) hD (fun H' s' => same_sqt s' (SqT.of upd_same)) (fun _ _ _ _ y => by obtain ⟨rfl, _⟩ := y; exact fun _ _ e => e) (fun _ => rfl) (fun _ _ => rfl) ?_ ?_
              · rintro i x H5 H6 R hi s5 ⟨rfl, hx⟩ k
                obtain ⟨d, hdi, hdq⟩ := hall1.get hx
                obtain ⟨pp, hpp, rfl⟩ : ∃ pp, (r.parts ++ [r.bd])[i]? = some pp ∧ d = strD pp := by
                  rw [List.getElem?_map] at hdi
                  cases e : (r.parts ++ [r.bd])[i]? with
                  | none => rw [e] at hdi; cases hdi
                  | some z => rw [e] at hdi; exact ⟨z, rfl, (Option.some.inj hdi).symm⟩
                have hin := row_in ok pp (List.mem_of_getElem? hpp)
                have hgd : (r.parts ++ [r.bd]).getD i (0, 0) = pp := by
                  rw [List.getD_eq_getElem?_getD, hpp]
                  rfl
                cases hdq with
                | @tup b ys _ g1 g2 =>
                  cases g2 with
                  | @cons w1 _ _ _ i1 t1 =>
                    cases t1 with
                    | @cons w2 _ _ _ i2 t2 =>
                      cases t2
                      cases i1
                      cases i2
                      refine ⟨_, rfl, b, rfl, ⟨_, same_sqt s5 g1⟩, k (Itt K b) _ _ _ (walk_tup (K := K) (a := b) (xs := [.int pp.1, .int pp.2])) (fun _ _ e => e) (fun H7 s7 => same_sqt s7 g1) (fun _ _ _ _ y => by obtain ⟨rfl, _⟩ := y; exact fun _ _ e => e) ?_⟩
                      rintro j z H7 H8 Qk hj s7 ⟨rfl, hz⟩ kk
                      have k1 := kk _ (fun _ _ e => e)
                      unfold wordAt at k1
                      rw [hgd] at k1
                      match j, hj, hz with
                      | 0, _, hz =>
                        cases hz
                        exact ⟨_, rfl, _, rfl, hin.1, k1⟩
                      | 1, _, hz =>
                        cases hz
                        exact ⟨_, rfl, _, rfl, hin.2, k1⟩
              · intro H5 s5 bD
                rw [items_words _ _ (by rw [hlen, List.length_append]; rfl)] at bD
                obtain ⟨w1, w2⟩ := words_len (r.parts ++ [r.bd]) (row_in ok)
                have l3 : (r.parts ++ [r.bd]).length ≤ 4 := by rw [List.length_append, hp3]; show m + 1 ≤ 4; omega
                refine ⟨⟨_, rfl⟩, _, rfl, _, rfl, D, _, rfl, .inr (SqL.of bD), ?_, fun l hl => ?_⟩
                · simp only [List.length_cons, List.length_append, List.length_map, List.length_nil]
                  rw [w2]
                  exact Nat.le_trans (show _ ≤ 100 by omega) (by decide)
                · rw [List.append_nil]
                  refine ⟨" ", l, [("row" : Str), r.name] ++ wordsOf (r.parts ++ [r.bd]), rfl, rfl, .inl (SqL.of upd_same), ?_, q _ (s4.trans (s5.trans (Same.new hl)))⟩
                  rw [List.map_append, List.sum_append, List.length_append, w2]
                  show 3 + (r.name.length + 0) + _ + (2 + 2 * (r.parts ++ [r.bd]).length) * 1 ≤ 16777216
                  omega
end
end Ca
set_option Elab.async false
set_option linter.all false
set_option maxRecDepth 100000
set_option maxHeartbeats 4000000
namespace Ca
open PySem L2
theorem cat_len (x y : Str) : (x ++ y).length = x.length + y.length := by
  show (x.cps ++ y.cps).size = x.cps.size + y.cps.size
  exact Array.size_append
theorem join_le (y : Str) : ∀ ps : List Str, (Str.join y ps).length ≤ (ps.map (·.length)).sum + ps.length * y.length
  | [] => Nat.zero_le _
  | [p] => by
    show p.length ≤ _
    simp only [List.map_cons, List.map_nil, List.sum_cons, List.sum_nil, List.length_cons, List.length_nil]
    omega
  | p :: z :: r => by
    have ih := join_le y (z :: r)
    show (p ++ y ++ Str.join y (z :: r)).length ≤ _
    rw [cat_len, cat_len]
    simp only [List.map_cons, List.sum_cons, List.length_cons, Nat.add_mul, Nat.one_mul] at ih ⊢
    omega
theorem line_len {r : Rw} {m : Nat} (ok : isRowD (rowD r) m = true) (hm : m ≤ 3) : (lineS r).length ≤ 16000 := by
  have hp3 := (row_name ok).2
  have l3 : (r.parts ++ [r.bd]).length ≤ 4 := by rw [List.length_append, hp3]; show m + 1 ≤ 4; omega
  obtain ⟨w1, w2⟩ := words_len (r.parts ++ [r.bd]) (row_in ok)
  have hn := (name_parts (row_name ok).1).2.1
  unfold lineS
  rw [TL.join_eq]
  refine Nat.le_trans (join_le _ _) ?_
  rw [List.map_append, List.sum_append, List.length_append, w2]
  show 3 + (r.name.length + 0) + _ + (2 + 2 * (r.parts ++ [r.bd]).length) * 1 ≤ 16000
  omega
theorem lines_len : ∀ (rs : List Rw) (m : Nat), (∀ r ∈ rs, isRowD (rowD r) m = true) → m ≤ 3 → (((rs.map lineS).map (·.length)).sum ≤ 16000 * rs.length)
  | [], _, _, _ => Nat.le_refl _
  | r :: rs, m, h, hm => by
    have ih := lines_len rs m (fun x z => h x (List.mem_cons_of_mem _ z)) hm
    have l := line_len (h r (List.mem_cons_self ..)) hm
    simp only [List.map_cons, List.sum_cons, List.length_cons]
    omega
theorem names_len : ∀ ns : List Str, (∀ x ∈ ns, nameS x = true) → (ns.map (·.length)).sum ≤ 8 * ns.length
  | [], _ => Nat.le_refl _
  | n :: ns, h => by
    have ih := names_len ns fun x z => h x (List.mem_cons_of_mem _ z)
    have l := (name_parts (h n (List.mem_cons_self ..))).2.1
    simp only [List.map_cons, List.sum_cons, List.length_cons]
    omega
def spStr (K : PySem.W.Frag) (C : Addr) : Sp := fun vs H Q _ => ∃ x ns rs, vs = [.ref x] ∧ SysAt K C H x ns rs ∧ ∀ H', Same H H' → Q (.str (pageS ns rs)) H'
section
variable {P : Program} {w : World} {K : PySem.W.Frag} {mg : Str → Option Value} {base : Heap} {C : Addr}
abbrev NStr : List Str := ["self", "first", "others", "row"]
theorem scStr : FnScope NStr ["self"] (defScope mSystemStr) := ⟨rfl, rfl, rfl, by decide +kernel, rfl, by decide +kernel, by decide +kernel⟩
theorem ok_str {f fL : Addr} {fd fdL : FuncData} (F : FnM K "__str__" "System.__str__" mSystemStr [] f fd) (S : SysC K C)
    (gL : mg "line_of" = some (.ref fL)) (GL : FnOk P w K mg base CX0 1 fL fdL ["row"] (spLine K)) (kL : PySem.W.keepIn K (.ref fL) = true) (bL : Binds K fdL ["row"] []) : FnOk P w K mg base CX0 2 f fd ["self"] (spStr K C) := by
  refine F.ok scStr (fun vs H Q E h => ?_) (fun cdv A outer s H vs Q E hr h => ?_)
  · obtain ⟨x, ns, rs, rfl, _⟩ := h
    rfl
  · obtain ⟨x, ns, rs, rfl, ⟨hN, hL, dx, u, r, hx, du, dr⟩, q⟩ := h
    have nd := scStr.nd
    refine ⟨_, PSs.nox (pss_cons (ps_set (i := 1) nd rfl (.inl rfl) (pe_join pe_str (pe_lst (pa_cons pe_str (StX.pa_star (pe_fld (pv 0) rfl) pa_nil)))))
      (pss_cons (ps_setLc (i := 2) (own := [("row", 3)]) (g := gName 3) (tt := tYes) rfl nd rfl rfl (sw_true rfl rfl rfl (by decide +kernel)) (pi_tup (pe_fld (pv 0) rfl))
          (blkOk_by (own := [("row", 3)]) (N := NStr) (sc := defScope mSystemStr) (by decide +kernel)) (fun _ _ _ _ _ => pg_name (i := 3) nd rfl (Or.inl rfl)) (fun _ _ _ _ _ => pts_nil)
          (fun _ _ _ _ _ => pe_call GL hr rfl gL kL bL .nil pass0 (pa_cons (pv 3) pa_nil)))
      (pss_one (ps_ret (pe_join pe_str (pe_lst (pa_cons (pv 1) (StX.pa_star (pv 2) pa_nil)))))))), ?_⟩
    obtain ⟨a, xs, rfl, h1, h2, hl⟩ := tup_len du
    obtain ⟨rfl, hlen⟩ := strs_of h2
    have nl := names_len ns (folk_names hN)
    have n3 := hN.hi
    refine ⟨⟨_, rfl⟩, _, rfl, x, C, dx, _, _, rfl, hx, S.cl, S.nu, rfl, a, _, rfl, .inl h1, ?_, fun l hlf => ?_⟩
    · simp only [List.length_cons, List.length_append, List.length_map, List.length_nil]
      exact Nat.le_trans (show _ ≤ 100 by omega) (by decide)
    rw [List.append_nil]
    refine ⟨" ", l, ("unknowns" : Str) :: ns, rfl, rfl, .inl (SqL.of upd_same), ?_, ?_⟩
    · simp only [List.map_cons, List.sum_cons, List.length_cons]
      show 8 + _ + (ns.length + 1) * 1 ≤ 16777216
      omega
    have s1 : Same H (upd H l (.lst ((("unknowns" : Str) :: ns).map V.str))) := Same.new hlf
    change tSeq _ _ _ _ (upd H l (.lst ((("unknowns" : Str) :: ns).map V.str)))
    generalize upd H l (.lst ((("unknowns" : Str) :: ns).map V.str)) = H1 at s1 ⊢
    obtain ⟨b, ys, rfl, g1, g2, gl⟩ := tup_len (dr.same s1)
    rw [List.length_map] at gl
    refine ⟨_, rfl, x, C, dx, _, _, rfl, s1 _ _ hx, S.cl, S.nr, rfl, b, rfl, ⟨_, g1⟩, fun D hD => ?_⟩
    refine lc_known (walk_tup (K := K) (a := b) (xs := ys)) (fun i => .str ((rs.map lineS).getD i "")) (by rw [gl]; have := hL.hi; omega) hD (fun H' s' => same_sqt s' g1) (fun _ _ _ _ y => by obtain ⟨rfl, _⟩ := y; exact fun _ _ e => e) (fun _ => rfl) ?_ ?_
    · rintro i z H5 H6 Qk hi s5 ⟨rfl, hz⟩ k
      obtain ⟨d, hdi, hdq⟩ := (g2.same s5).get hz
      have hi2 : i < rs.length := by rw [← gl]; exact hi
      rw [List.getElem?_map, List.getElem?_eq_getElem hi2] at hdi
      cases hdi
      refine ⟨_, rfl, z, rs[i], ns.length, rfl, hdq, hL.ok _ (List.getElem_mem hi2), n3, fun H7 s7 => ?_⟩
      have k1 := k H7 s7
      have en : (rs.map lineS).getD i "" = lineS rs[i] := by
        rw [List.getD_eq_getElem?_getD, List.getElem?_map, List.getElem?_eq_getElem hi2]
        rfl
      rw [en] at k1
      exact k1
    · intro H5 s5 bD
      rw [gl, map_range (rs.map lineS) "" V.str rs.length (List.length_map ..)] at bD
      have ll := lines_len rs ns.length hL.ok n3
      have r6 := hL.hi
      refine ⟨⟨_, rfl⟩, _, rfl, _, rfl, D, _, rfl, .inr (SqL.of bD), ?_, fun l2 hl2 => ?_⟩
      · simp only [List.length_cons, List.length_append, List.length_map, List.length_nil]
        exact Nat.le_trans (show _ ≤ 100 by omega) (by decide)
      rw [List.append_nil]
      refine ⟨"\n", l2, Txt.join " " (("unknowns" : Str) :: ns) :: rs.map lineS, rfl, rfl, .inl (SqL.of upd_same), ?_, q _ (s1.trans (s5.trans (Same.new hl2)))⟩
      have j1 := join_le " " (("unknowns" : Str) :: ns)
      rw [← TL.join_eq] at j1
      simp only [List.map_cons, List.sum_cons, List.length_cons, List.length_map] at j1 ⊢
      have e8 : Str.length "unknowns" = 8 := rfl
      have e1 : Str.length " " = 1 := rfl
      have e2 : Str.length "\n" = 1 := rfl
      rw [e8, e1] at j1
      rw [e2]
      omega
end
end Ca
set_option Elab.async false
set_option linter.all false
set_option maxRecDepth 100000
set_option maxHeartbeats 4000000
namespace Ca
open PySem L2
abbrev sUrn : Stmt := sLawUrn
abbrev sDip : Stmt := sLawDip
abbrev sFrom : Stmt := sLawFrom
section
variable {P : Program} {w : World} {K : PySem.W.Frag} {mg : Str → Option Value} {base : Heap}
theorem scUrn : FnScope ["_law_cells", "_law_at", "_law_own", "_law_stirred", "_law_each", "_law_great"] ["_law_cells", "_law_at"] (defScope sUrn) := ⟨rfl, rfl, rfl, by decide +kernel, rfl, by decide +kernel, by decide +kernel⟩
theorem ok_urn {f : Addr} {fd : FuncData} (F : Fun K "_law_urn" "_law_urn" sUrn f fd) (B : Bi mg) : FnOk P w K mg base CX0 1 f fd ["_law_cells", "_law_at"] (spUrn K) := by
  refine F.ok scUrn (fun vs H Q E h => ?_) (fun cdv A outer s H vs Q E hr h => ?_)
  · obtain ⟨a, ns, k, rfl, _⟩ := h
    rfl
  · obtain ⟨a, ns, k, rfl, hS, q⟩ := h
    have nd := scUrn.nd
    refine ⟨_, pss_cons (ps_cut (ps_set (i := 2) nd rfl (.inl rfl) (pe_ifExp (pt_cmpR op_lt (pv 1) (pe_callB call_len_seq (by rfl) B.len PySem.boot_len (pa_cons (pv 0) pa_nil)) (nomark _))
        (pe_callTy call_int1 (by rfl) B.int PyProof.Rows.boot_int (pa_cons (pe_ix ix_list (pv 0) (pv 1) (fun _ _ => rfl)) pa_nil)) (pe_op op_add (pe_op op_mul pe_int (pv 1)) pe_int))))
      (pss_cons (ps_set (i := 3) nd rfl (.inl rfl) (pe_op op_add pe_int (pe_op op_mul pe_int (pv 1))))
      (pss_cons (ps_for PassesOwn.never rfl (pi_list (pe_slice sl_list (pv 0) po_none (po_some pe_int))) (pg_name (i := 4) nd rfl (.inl rfl))
        (pss_one (ps_set (i := 3) nd rfl (.inl rfl) (pe_op op_mod (pe_callTy call_int1 (by rfl) B.int PyProof.Rows.boot_int (pa_cons (pe_op op_add (pe_op op_add (pe_op op_mul (pv 3) pe_int) (pe_op op_mul (pe_callTy call_int1 (by rfl) B.int PyProof.Rows.boot_int (pa_cons (pv 4) pa_nil)) pe_int)) pe_int) pa_nil)) pe_int))))
      (pss_cons (ps_cut (ps_set (i := 5) nd rfl (.inl rfl) (pe_ifExp (PW.pt (pw_or (pt_cmpR op_lt (pv 2) pe_int (nomark _)) (pw_or1 (pt_cmpR op_ge (pv 2) (pe_op op_pow pe_int pe_int) (nomark _))))) (pe_callB call_abs (by rfl) B.abs (by decide +kernel) (pa_cons (pv 2) pa_nil)) pe_int)))
      (pss_one (ps_ret (pe_lst (pa_cons (pv 5) (pa_cons (pe_op op_mod (pe_callTy call_int1 (by rfl) B.int PyProof.Rows.boot_int (pa_cons (pe_op op_add (pv 3) (pe_op op_mul (pv 2) pe_int)) pa_nil)) pe_int) (pa_cons pe_int pa_nil))))))))), ?_⟩
    refine ⟨fun σ' H' => ∃ own : Int, σ' = [some (.ref a), some (.int k), some (.int own), none, none, none] ∧ H' = H, ⟨_, rfl, _, rfl, _, _, rfl, .inl hS, _, _, rfl, rfl, _, rfl, ite2 (fun c => ?_) (fun c => ?_)⟩, ?_⟩
    · have hk : k < ns.length := by
        have c' := of_decide_eq_true c
        rw [List.length_map] at c'
        exact Int.ofNat_lt.mp c'
      obtain ⟨z, hz⟩ : ∃ z, ns[k]? = some z := ⟨_, List.getElem?_eq_getElem hk⟩
      exact ⟨_, rfl, _, rfl, _, _, _, _, rfl, rfl, hS, atI_nat (v := .int z) (by rw [List.getElem?_map, hz]; rfl), .inl ⟨_, rfl, _, rfl, rfl⟩⟩
    · exact ⟨_, rfl, _, _, rfl, rfl, .inl ⟨by decide, by decide⟩, _, _, rfl, rfl, _, rfl, rfl⟩
    rintro σ1 H1 ⟨own, rfl, rfl⟩
    refine ⟨_, rfl, _, _, rfl, rfl, .inl ⟨by decide, by decide⟩, _, _, rfl, rfl, ?_⟩
    refine ⟨_, rfl, _, rfl, a, _, rfl, hS, fun p hp => ?_⟩
    have s1 : Same H1 (upd H1 p (.lst (cutV (ns.map V.int) none (some 7)))) := Same.new hp
    refine ⟨_, rfl, ⟨_, SqL.of upd_same⟩, for_list (K := K) (a := p) (xs := cutV (ns.map V.int) none (some 7)) (fun i σ H' => ∃ (st : Int) (v : Option V), σ = [some (.ref a), some (.int k), some (.int own), some (.int st), v, none] ∧ H' = upd H1 p (.lst (cutV (ns.map V.int) none (some 7))))
      ⟨_, none, rfl, rfl⟩ (fun i σ H' _ h => ?_) ?_ ?_⟩
    · obtain ⟨_, _, _, rfl⟩ := h
      exact SqL.of upd_same
    · rintro i y σ H' hi ⟨st, v, rfl, rfl⟩
      obtain ⟨z, rfl⟩ := cut_int_get hi
      exact ⟨_, rfl, _, _, rfl, rfl, .inr ⟨by decide, by decide⟩, _, rfl, .inl ⟨_, rfl, _, _, rfl, rfl, .inr ⟨by decide, by decide⟩, _, _, rfl, rfl, _, _, rfl, rfl, .inl ⟨_, rfl, _, _, rfl, rfl, by show (0 : Int) < 2147483563; decide, _, _, rfl, rfl⟩⟩⟩
    · rintro σ H' ⟨st, v, rfl, rfl⟩
      refine ⟨fun σ' H' => ∃ g : Int, 0 ≤ g ∧ σ' = [some (.ref a), some (.int k), some (.int own), some (.int st), v, some (.int g)] ∧ H' = upd H1 p (.lst (cutV (ns.map V.int) none (some 7))), ?_, ?_⟩
      · refine ⟨_, rfl, _, _, rfl, rfl, _, rfl, ?_⟩
        refine ite2 (fun c => ?_) (fun c => ?_)
        · refine iteT ?_
          refine ⟨_, rfl, _, rfl, _, ?_, rfl, rfl⟩
          split <;> omega
        · refine ⟨_, rfl, _, _, rfl, rfl, ⟨by decide, by decide, by decide⟩, _, _, rfl, rfl, _, rfl, ?_⟩
          refine ite2 (fun c => ?_) (fun c => ?_)
          · refine ⟨_, rfl, _, rfl, _, ?_, rfl, rfl⟩
            split <;> omega
          · exact ⟨0, Int.le_refl _, rfl, rfl⟩
      · rintro σ2 H2 ⟨g, hg, rfl, rfl⟩
        refine ⟨_, rfl, _, rfl, _, rfl, _, _, rfl, rfl, .inr ⟨by decide, by decide⟩, _, _, rfl, rfl, .inl ⟨_, rfl, _, _, rfl, rfl, by show (0 : Int) < 2147483563; decide, by show 3 ≤ sizeLine; decide, fun l hl => ?_⟩⟩
        refine q _ l (s1.free hl) (s1.trans (Same.new hl)) ⟨g, _, 4, hg, Int.emod_nonneg _ (by decide), Int.emod_lt_of_pos _ (by decide), upd_same⟩
theorem scDip : FnScope ["_law_urn_here", "_law_top", "_law_figure", "_law_held"] ["_law_urn_here", "_law_top"] (defScope sDip) := ⟨rfl, rfl, rfl, by decide +kernel, rfl, by decide +kernel, by decide +kernel⟩
theorem ok_dip {f : Addr} {fd : FuncData} (F : Fun K "_law_dip" "_law_dip" sDip f fd) (B : Bi mg) : FnOk P w K mg base CX0 1 f fd ["_law_urn_here", "_law_top"] spDip := by
  refine F.ok scDip (fun vs H Q E h => ?_) (fun cdv A outer s H vs Q E hr h => ?_)
  · obtain ⟨a, t, rfl, _⟩ := h
    rfl
  · obtain ⟨l, t, rfl, ⟨g, x, n, hg, hx, hx2, hU⟩, ht, ht2, q⟩ := h
    have nd := scDip.nd
    refine ⟨_, pss_cons (ps_if (pt_cmpR op_gt (pe_ix ix_list (pv 0) pe_int (fun _ _ => rfl)) pe_int (nomark _))
        (pss_cons (ps_asg (pe_callB call_divmod (by rfl) B.divmod (by decide +kernel) (pa_cons (pe_ix ix_list (pv 0) pe_int (fun _ _ => rfl)) (pa_cons (pv 1) pa_nil)))
            (pg_tup rfl (pgs_cons (pg_sub (pv 0) pe_int set_list) (pgs_cons (pg_name (i := 2) nd rfl (.inl rfl)) pgs_nil))))
          (pss_one (ps_ret (pv 2)))) pss_nil)
      (pss_cons (ps_asg (pe_op op_add (pe_ix ix_list (pv 0) pe_int (fun _ _ => rfl)) pe_int) (pg_sub (pv 0) pe_int set_list))
      (pss_cons (ps_set (i := 3) nd rfl (.inl rfl) (pe_callTy call_int1 (by rfl) B.int PyProof.Rows.boot_int (pa_cons (pe_op op_mul (pe_ix ix_list (pv 0) pe_int (fun _ _ => rfl)) (pe_op op_add pe_int (pe_op op_mod (pe_callTy call_int1 (by rfl) B.int PyProof.Rows.boot_int (pa_cons (pe_ix ix_list (pv 0) pe_int (fun _ _ => rfl)) pa_nil)) pe_int))) pa_nil)))
      (pss_cons (ps_asg (pe_op op_mod (pe_callTy call_int1 (by rfl) B.int PyProof.Rows.boot_int (pa_cons (pe_op op_add (pe_op op_add (pv 3) (pe_op op_mul pe_int (pe_ix ix_list (pv 0) pe_int (fun _ _ => rfl)))) pe_int) pa_nil)) pe_int) (pg_sub (pv 0) pe_int set_list))
      (pss_one (ps_ret (pe_op op_mod (pe_callTy call_int1 (by rfl) B.int PyProof.Rows.boot_int (pa_cons (pe_op op_fdiv (pe_ix ix_list (pv 0) pe_int (fun _ _ => rfl)) pe_int) pa_nil)) (pv 1))))))), ?_⟩
    refine ⟨_, rfl, _, _, _, _, rfl, rfl, SqL.of hU, rfl, _, _, rfl, rfl, _, rfl, ite2 (fun c => ?_) (fun c => ?_)⟩
    · refine ⟨_, rfl, _, _, _, _, rfl, rfl, SqL.of hU, rfl, _, rfl, _, _, rfl, ⟨ht, ht2⟩, fun p hp => ?_⟩
      have npl : l ≠ p := ne_of_none hU hp
      refine ⟨_, _, rfl, SqT.of upd_same, rfl, _, _, rfl, ⟨_, rfl, _, _, _, _, rfl, rfl, Eq.trans (upd_ne npl) hU, rfl, ?_⟩⟩
      refine ⟨_, _, rfl, ⟨rfl, ?_⟩⟩
      refine ⟨_, rfl, q _ _ ((Kept.new hp).trans Kept.upd) ⟨_, x, n, ?_, hx, hx2, upd_same⟩ (Int.emod_nonneg _ (by omega)) (Int.emod_lt_of_pos _ ht)⟩
      exact Int.ediv_nonneg hg (Int.le_of_lt ht)
    · refine ⟨_, rfl, _, _, _, _, rfl, rfl, SqL.of hU, rfl, _, _, rfl, rfl, _, rfl, _, _, _, _, rfl, rfl, hU, rfl, ?_⟩
      refine ⟨_, rfl, _, _, _, _, rfl, rfl, SqL.of upd_same, rfl, _, rfl, _, _, _, _, rfl, rfl, SqL.of upd_same, rfl, .inl ⟨_, rfl, _, _, rfl, rfl, by show (0 : Int) < 5003; decide, _, _, rfl, rfl, _, _, rfl, rfl, .inl ⟨by show -(2 ^ 64) < x; omega, by show x < 2 ^ 64; omega⟩, .inl ⟨_, rfl, ?_⟩⟩⟩
      refine ⟨_, rfl, _, rfl, _, _, _, _, rfl, rfl, SqL.of upd_same, rfl, _, _, rfl, rfl, .inl ⟨by decide, by decide⟩, _, _, rfl, rfl, _, _, rfl, rfl, .inl ⟨_, rfl, _, _, rfl, rfl, by show (0 : Int) < 2147483563; decide, _, rfl, _, _, _, _, rfl, rfl, upd_same, rfl, ?_⟩⟩
      refine ⟨_, rfl, _, _, _, _, rfl, rfl, SqL.of upd_same, rfl, _, _, rfl, rfl, ⟨by decide, by decide⟩, .inl ⟨_, rfl, _, rfl, _, _, rfl, rfl, ht, ?_⟩⟩
      exact q _ _ (Kept.upd.trans Kept.upd) ⟨g, _, _, hg, Int.emod_nonneg _ (by decide), Int.emod_lt_of_pos _ (by decide), upd_same⟩ (Int.emod_nonneg _ (by omega)) (Int.emod_lt_of_pos _ ht)
theorem scFrom : FnScope ["_law_urn_here", "_law_some"] ["_law_urn_here", "_law_some"] (defScope sFrom) := ⟨rfl, rfl, rfl, by decide +kernel, rfl, by decide +kernel, by decide +kernel⟩
theorem ok_from {f fD : Addr} {fd fdD : FuncData} (F : Fun K "_law_from" "_law_from" sFrom f fd) (B : Bi mg) (gD : mg "_law_dip" = some (.ref fD)) (FD : Fun K "_law_dip" "_law_dip" sDip fD fdD) (bD : Binds K fdD ["_law_urn_here", "_law_top"] []) :
    FnOk P w K mg base CX0 2 f fd ["_law_urn_here", "_law_some"] (spFrom K) := by
  have GD : FnOk P w K mg base CX0 1 fD fdD ["_law_urn_here", "_law_top"] spDip := ok_dip FD B
  refine F.ok scFrom (fun vs H Q E h => ?_) (fun cdv A outer s H vs Q E hr h => ?_)
  · obtain ⟨l, a, xs, rfl, _⟩ := h
    rfl
  · obtain ⟨l, a, xs, rfl, hU, hA, nal, h0, h1, q⟩ := h
    refine ⟨_, pss_one (ps_ret (pe_ix ix_list (pv 1) (pe_call GD hr rfl gD FD.kp bD .nil pass0 (pa_cons (pv 0) (pa_cons (pe_callB call_len_seq (by rfl) B.len PySem.boot_len (pa_cons (pv 1) pa_nil)) pa_nil))) (fun _ _ => rfl))), ?_⟩
    refine ⟨_, rfl, _, rfl, _, rfl, _, _, rfl, .inl (SqL.of hA), l, _, rfl, hU, by omega, by omega, fun H' r k u r0 r1 => ?_⟩
    have hi : r.toNat < xs.length := by omega
    refine ⟨a, xs, r, xs[r.toNat], rfl, rfl, SqL.of (k _ _ nal hA), ?_, ?_⟩
    · exact at_of (j := r.toNat) (by omega) (List.getElem?_eq_getElem hi)
    · exact q _ r.toNat _ (List.getElem?_eq_getElem hi) k u
end
end Ca
set_option Elab.async false
set_option linter.all false
set_option maxRecDepth 100000
set_option maxHeartbeats 4000000
namespace Ca
open PySem L2
/-! ### data of tuples, ints and texts alone, behind changes of a list -/
mutual
def noL : PyData → Bool
  | .list _ => false
  | .dict _ => false
  | .tuple ds => noLs ds
  | _ => true
def noLs : List PyData → Bool
  | [] => true
  | d :: ds => noL d && noLs ds
end
theorem sqt_but {K : PySem.W.Frag} {H H' : Hp} {l a : Addr} {ys xs : List V} (hl : H l = some (.lst ys)) (k : Kept l H H') (h : SqT K H a xs) : SqT K H' a xs := by
  have n : ∀ o, H a = some o → (∀ zs, o ≠ .lst zs) → a ≠ l := fun o e z y => by
    rw [y, hl] at e
    cases e
    exact z _ rfl
  rcases h with (e | ⟨o, e⟩) | e
  · exact .inl (.inl (k _ _ (n _ e fun _ z => nomatch z) e))
  · exact .inl (.inr ⟨o, k _ _ (n _ e fun _ z => nomatch z) e⟩)
  · exact .inr e
mutual
theorem Dq.but {K : PySem.W.Frag} {H H' : Hp} {l : Addr} {ys : List V} (hl : H l = some (.lst ys)) (k : Kept l H H') : ∀ {d : PyData} {v : V}, noL d = true → Dq K H v d → Dq K H' v d
  | .none, _, _, h => by cases h; exact .non
  | .bool b, _, _, h => by cases h; exact .bl b
  | .int i, _, _, h => by cases h; exact .int i
  | .str x, _, _, h => by cases h with | str _ a => exact .str x a
  | .list ds, _, n, _ => by simp [noL] at n
  | .tuple ds, _, n, h => by
    cases h with
    | tup a b => exact .tup (sqt_but hl k a) (DqAll.but hl k (by simpa only [noL] using n) b)
  | .dict ds, _, n, _ => by simp [noL] at n
theorem DqAll.but {K : PySem.W.Frag} {H H' : Hp} {l : Addr} {ys : List V} (hl : H l = some (.lst ys)) (k : Kept l H H') : ∀ {ds : List PyData} {vs : List V}, noLs ds = true → DqAll K H vs ds → DqAll K H' vs ds
  | [], _, _, h => by cases h; exact .nil
  | d :: ds, _, n, h => by
    obtain ⟨n1, n2⟩ := Bool.and_eq_true_iff.mp (show (noL d && noLs ds) = true by simpa only [noLs] using n)
    cases h with
    | cons a b => exact .cons (Dq.but hl k n1 a) (DqAll.but hl k n2 b)
end
theorem urn_lst {H : Hp} {l : Addr} (u : Urn H l) : ∃ ys, H l = some (.lst ys) := by
  obtain ⟨g, x, n, _, _, _, h⟩ := u
  exact ⟨_, h⟩
theorem noL_strD (p : Int × Int) : noL (strD p) = true := rfl
theorem noLs_map {α : Type} (g : α → PyData) (h : ∀ a, noL (g a) = true) : ∀ l : List α, noLs (l.map g) = true
  | [] => rfl
  | a :: l => by
    simp only [List.map_cons, noLs]
    rw [h a, noLs_map g h l]
    rfl
theorem noL_strs (ns : List Str) : noLs (ns.map .str) = true := noLs_map _ (fun _ => rfl) ns
theorem noL_folk (ns : List Str) : noL (folkD ns) = true := noL_strs ns
theorem noL_row (r : Rw) : noL (rowD r) = true := by
  have := noLs_map strD noL_strD r.parts
  unfold rowD
  simp only [noL, noLs, this, noL_strD]
  rfl
theorem noL_rows (rs : List Rw) : noL (rowsD rs) = true := noLs_map rowD noL_row rs
/-- a comprehension that draws from the urn at l, its items kept as data -/
theorem lc_draw {J : It} {n : Nat} {G : Hp → Prop} {Y : Nat → Hp → V → Hp → Prop} (w : Walk J n G Y) {K : PySem.W.Frag} {α : Type} (g : α → PyData) (ok : Nat → α → Prop) {te : TE} {vs : List Nat} {σ : L2.St} {H1 : Hp} {D l : Addr} {Qd : Hp → Prop} {j : Nat} (hg : ∀ a, noL (g a) = true) (hn : n ≤ 100000) (hU : Urn H1 l) (hD : H1 D = none)
    (hG : ∀ H, Kept l H1 H → G H) (hY : ∀ i H x H', Y i H x H' → H' = H) (hw : ∀ x, wipe ((wipe σ vs).set j (some x)) vs = wipe σ vs)
    (hs : ∀ i x H (Qk : VK), i < n → Y i H x H → Kept l H1 H → Urn H l → (∀ y a H4, Kept l H H4 → Urn H4 l → Dq K H4 y (g a) → ok i a → Qk y H4) → te ((wipe σ vs).set j (some x)) H Qk)
    (hd : ∀ H xs (as : List α), Kept l H1 H → Urn H l → H D = some (.lst xs) → DqAll K H xs (as.map g) → as.length = n → (∀ i a, as[i]? = some a → ok i a) → Qd H) :
    ∃ W : Nat → Nat → Hp → Prop, (∃ m, W 0 m (upd H1 D (.lst []))) ∧ ∀ i m H, W i m H →
      (J.stop i H ∧ Qd H) ∨ (J.go i H ∧ ∃ Nx : Hp → Prop, (∀ H', Nx H' → ∃ m', m' < m ∧ W (i + 1) m' H') ∧ ∀ x H', J.yld i H x H' → gName j x (wipe σ vs) H' fun σ2 H2 => wipe σ2 vs = wipe σ vs ∧ tYes σ2 H2 fun b H3 =>
        if b = true then te σ2 H3 fun y H4 => ∃ acc, H4 D = some (.lst acc) ∧ acc.length < sizeLine ∧ Nx (upd H4 D (.lst (acc ++ [y]))) else Nx H3) := by
  obtain ⟨lo, hlo⟩ := hU.some
  have nDl : D ≠ l := fun z => by rw [z, hlo] at hD; cases hD
  refine lc_it w (fun i H => Kept l H1 H ∧ Urn H l ∧ ∃ xs, ∃ as : List α, H D = some (.lst xs) ∧ DqAll K H xs (as.map g) ∧ as.length = i ∧ ∀ i a, as[i]? = some a → ok i a)
    ⟨(Same.new hD).kept, hU.same (Same.new hD), [], [], upd_same, .nil, rfl, fun _ _ z => nomatch z⟩ (fun i H _ p => hG H p.1) ?_ (fun H p => by
      obtain ⟨p1, p2, xs, as, p3, p4, p5, p6⟩ := p
      exact hd H xs as p1 p2 p3 p4 p5 p6)
  rintro i x H H' hi ⟨p1, p2, xs, as, p3, p4, p5, p6⟩ yy
  obtain rfl := hY i H x H' yy
  refine ⟨hw _, rdYes (hs i x _ _ hi yy p1 p2 fun y a H4 k4 u4 q4 ok4 => ?_)⟩
  have d4 := k4 _ _ nDl p3
  obtain ⟨us, hus⟩ := urn_lst p2
  have a4 : DqAll K H4 xs (as.map g) := DqAll.but hus k4 (noLs_map g hg as) p4
  have kD : Kept D H4 (upd H4 D (.lst (xs ++ [y]))) := fun b o n e => by rw [upd_ne n]; exact e
  refine ⟨_, d4, ?_, fun b o n e => ?_, ?_, xs ++ [y], as ++ [a], upd_same, ?_, by rw [List.length_append, p5]; rfl, fun i' a' hia => ?_⟩
  · have := p4.len
    rw [List.length_map, p5] at this
    rw [this]
    exact Nat.lt_of_lt_of_le (Nat.lt_of_lt_of_le hi hn) (by decide)
  · have nb : b ≠ D := fun z => by rw [z, hD] at e; cases e
    rw [upd_ne nb]
    exact k4 _ _ n (p1 _ _ n e)
  · obtain ⟨x1, x2, x3, y1, y2, y3, y4⟩ := u4
    exact ⟨x1, x2, x3, y1, y2, y3, by rw [upd_ne nDl.symm]; exact y4⟩
  · rw [List.map_append]
    exact (DqAll.but d4 kD (noLs_map g hg as) a4).app (.cons (Dq.but d4 kD (hg a) q4) .nil)
  · by_cases c : i' < as.length
    · rw [List.getElem?_append_left c] at hia
      exact p6 i' a' hia
    · rw [List.getElem?_append_right (Nat.le_of_not_lt c)] at hia
      have e0 : i' - as.length = 0 := by
        cases z : i' - as.length with
        | zero => rfl
        | succ k => rw [z] at hia; cases hia
      rw [e0] at hia
      cases hia
      have : i' = i := by omega
      rw [this]
      exact ok4
end Ca
set_option Elab.async false
set_option linter.all false
set_option maxRecDepth 100000
set_option maxHeartbeats 4000000
namespace Ca
open PySem L2
section
variable {X : Cx}
theorem ixL (K : PySem.W.Frag) (h : X.K = K := by rfl) : IxR X (rIxL K) := h ▸ ix_list
end
theorem idx_inj : ∀ b s j k : Fin 11, s ≠ 0 → j ≠ k → (b.val + s.val * j.val) % 11 ≠ (b.val + s.val * k.val) % 11 := by decide +kernel
def pick (ms : List Str) (b s m : Nat) : List Str := (List.range m).map fun k => ms.getD ((b + s * k) % 11) ""
theorem pick_mem {ms : List Str} {b s m : Nat} (h : ms.length = 11) : ∀ x ∈ pick ms b s m, x ∈ ms := by
  intro x hx
  obtain ⟨k, _, rfl⟩ := List.mem_map.mp hx
  have : (b + s * k) % 11 < ms.length := by rw [h]; exact Nat.mod_lt _ (by decide)
  rw [List.getD_eq_getElem?_getD, List.getElem?_eq_getElem this]
  exact List.getElem_mem this
theorem pick_nodup {ms : List Str} {b s m : Nat} (h : ms.length = 11) (nd : ms.Nodup) (hb : b < 11) (hs : 1 ≤ s) (hs2 : s < 11) (hm : m ≤ 11) : (pick ms b s m).Nodup := by
  refine List.pairwise_iff_getElem.mpr fun i j hi hj hij => ?_
  unfold pick at hi hj ⊢
  rw [List.length_map, List.length_range] at hi hj
  rw [List.getElem_map, List.getElem_map, List.getElem_range, List.getElem_range]
  have l1 : (b + s * i) % 11 < ms.length := by rw [h]; exact Nat.mod_lt _ (by decide)
  have l2 : (b + s * j) % 11 < ms.length := by rw [h]; exact Nat.mod_lt _ (by decide)
  rw [List.getD_eq_getElem?_getD, List.getElem?_eq_getElem l1, List.getD_eq_getElem?_getD, List.getElem?_eq_getElem l2]
  have ne := idx_inj ⟨b, hb⟩ ⟨s, hs2⟩ ⟨i, by omega⟩ ⟨j, by omega⟩ (by intro z; have := congrArg Fin.val z; simp at this; omega) (by intro z; have := congrArg Fin.val z; simp at this; omega)
  show ms[(b + s * i) % 11] ≠ ms[(b + s * j) % 11]
  rcases Nat.lt_or_gt_of_ne ne with c | c
  · exact List.pairwise_iff_getElem.mp nd _ _ l1 l2 c
  · exact (List.pairwise_iff_getElem.mp nd _ _ l2 l1 c).symm
def spUnlike (K : PySem.W.Frag) : Sp := fun vs H Q _ => ∃ (l a : Addr) (ms : List Str) (m : Nat), vs = [.ref l, .ref a, .int m] ∧ Urn H l ∧ a ≠ l ∧ H a = some (.lst (ms.map V.str)) ∧ ms.length = 11 ∧ ms.Nodup ∧ m ≤ 11 ∧
  ∀ H' p (ns : List Str), Kept l H H' → Urn H' l → H p = none → H' p = some (.lst (ns.map V.str)) → ns.length = m → ns.Nodup → (∀ x ∈ ns, x ∈ ms) → Q (.ref p) H'
section
variable {P : Program} {w : World} {K : PySem.W.Frag} {mg : Str → Option Value} {base : Heap} {C : Addr}
abbrev NUn : List Str := ["_law_urn_here", "_law_menu", "_law_many", "_law_begin", "_law_step", "_law_k"]
theorem scUnlike : FnScope NUn ["_law_urn_here", "_law_menu", "_law_many"] (defScope sLawUnlike) := ⟨rfl, rfl, rfl, by decide +kernel, rfl, by decide +kernel, by decide +kernel⟩
theorem ok_unlike {f fD : Addr} {fd fdD : FuncData} (F : FnT K "_law_unlike" sLawUnlike f fd) (B : Bn mg) (rng : mg "range" = none)
    (gD : mg "_law_dip" = some (.ref fD)) (GD : FnOk P w K mg base CX0 1 fD fdD ["_law_urn_here", "_law_top"] spDip) (kD : PySem.W.keepIn K (.ref fD) = true) (bD : Binds K fdD ["_law_urn_here", "_law_top"] []) :
    FnOk P w K mg base CX0 2 f fd ["_law_urn_here", "_law_menu", "_law_many"] (spUnlike K) := by
  refine F.ok scUnlike (fun vs H Q E h => ?_) (fun cdv A outer s H vs Q E hr h => ?_)
  · obtain ⟨l, a, ms, m, rfl, _⟩ := h
    rfl
  · obtain ⟨l, a, ms, m, rfl, hU, nal, hA, hms, hnd, hm, q⟩ := h
    have nd := scUnlike.nd
    refine ⟨_, PSs.nox (pss_cons (ps_asg (pe_tup (pa_cons (pe_call GD hr rfl gD kD bD .nil pass0 (pa_cons (pv 0) (pa_cons pe_int pa_nil))) (pa_cons (pe_op op_add pe_int (pe_call GD hr rfl gD kD bD .nil pass0 (pa_cons (pv 0) (pa_cons pe_int pa_nil)))) pa_nil)))
        (pg_tup rfl (pgs_cons (pg_name (i := 3) nd rfl (.inr rfl)) (pgs_cons (pg_name (i := 4) nd rfl (.inr rfl)) pgs_nil))))
      (pss_one (ps_ret (pe_lc (own := [("_law_k", 5)]) (g := gName 5) (tt := tYes) rfl nd (pi_range1 rfl rng (pa_cons (pv 2) pa_nil))
        (blkOk_by (own := [("_law_k", 5)]) (N := NUn) (sc := defScope sLawUnlike) (by decide +kernel)) (fun _ _ _ _ _ => pg_name (i := 5) nd rfl (Or.inl rfl)) (fun _ _ _ _ _ => pts_nil)
        (fun _ _ _ _ _ => pe_ix (ixL K) (pv 1) (pe_op op_mod (pe_callTy call_int1 (by rfl) B.int (by decide +kernel) (pa_cons (pe_op op_add (pv 3) (pe_op op_mul (pv 4) (pv 5))) pa_nil)) pe_int) (fun _ _ => rfl)))))), ?_⟩
    refine ⟨_, rfl, l, 11, rfl, hU, by decide, by decide, fun H1 b k1 u1 b0 b1 => ⟨_, rfl, l, 10, rfl, u1, by decide, by decide, fun H2 st k2 u2 s0 s1 => ⟨_, _, rfl, rfl, by show 2 ≤ sizeLine; decide, fun p hp => ?_⟩⟩⟩
    obtain ⟨bn, rfl⟩ := Int.eq_ofNat_of_zero_le b0
    obtain ⟨sn, rfl⟩ := Int.eq_ofNat_of_zero_le s0
    refine ⟨p, _, rfl, SqT.of upd_same, rfl, _, _, rfl, _, _, rfl, rfl, ?_⟩
    have hA3 : upd H2 p (.tup [.int (bn : Nat), .int (1 + (sn : Nat))]) a = some (.lst (ms.map V.str)) := by
      have := k2 _ _ nal (k1 _ _ nal hA)
      rw [upd_ne (ne_of_none this hp)]
      exact this
    have k3 : Kept l H (upd H2 p (.tup [.int (bn : Nat), .int (1 + (sn : Nat))])) := k1.trans (k2.trans (Same.new hp).kept)
    have u3 := u2.same (Same.new (o := .tup [.int (bn : Nat), .int (1 + (sn : Nat))]) hp)
    refine ⟨_, rfl, (m : Int), rfl, by omega, by omega, fun D hD => ?_⟩
    refine lc_known (walk_range (lo := 0) (n := m)) (fun k => .str (ms.getD ((bn + (1 + sn) * k) % 11) "")) (by omega) hD (fun _ _ => trivial) (fun _ _ _ _ y => by obtain ⟨rfl, _⟩ := y; exact fun _ _ e => e) (fun _ => rfl) ?_ ?_
    · rintro k x H5 H6 Qk hk s5 ⟨rfl, rfl⟩ kk
      have k1 := kk _ (fun _ _ e => e)
      have lt : (bn + (1 + sn) * k) % 11 < ms.length := by rw [hms]; exact Nat.mod_lt _ (by decide)
      refine ⟨_, rfl, _, rfl, _, rfl, _, rfl, _, _, rfl, rfl, .inl ⟨by omega, by omega⟩, _, _, rfl, rfl, .inl ⟨_, rfl, ?_⟩⟩
      refine ⟨_, _, rfl, rfl, by show (0 : Int) < 11; decide, a, _, _, _, rfl, rfl, SqL.of (s5 _ _ hA3), ?_, k1⟩
      have ei : ((bn : Int) + (1 + (sn : Int)) * (0 + (k : Int))) % 11 = (((bn + (1 + sn) * k) % 11 : Nat) : Int) := by
        have hP : (1 + (sn : Int)) * (k : Int) = (((1 + sn) * k : Nat) : Int) := by
          rw [Int.natCast_mul, Int.natCast_add]
          rfl
        rw [Int.zero_add, hP]
        generalize (1 + sn) * k = z
        omega
      rw [ei]
      refine atI_nat ?_
      rw [List.getElem?_map, List.getElem?_eq_getElem lt, List.getD_eq_getElem?_getD, List.getElem?_eq_getElem lt]
      rfl
    · intro H5 s5 bD
      have hDn : H D = none := by
        cases z : H D with
        | none => rfl
        | some o =>
          by_cases c : D = l
          · rw [c] at hD
            obtain ⟨o2, ho2⟩ := u3.some
            rw [ho2] at hD
            cases hD
          · rw [k3 _ _ c z] at hD
            cases hD
      refine q H5 D (pick ms bn (1 + sn) m) (k3.trans s5.kept) (u3.same s5) hDn ?_ (by unfold pick; rw [List.length_map, List.length_range]) (pick_nodup hms hnd (by omega) (by omega) (by omega) hm) (pick_mem hms)
      rw [bD]
      unfold pick
      rw [List.map_map]
      rfl
end
end Ca
set_option Elab.async false
set_option linter.all false
set_option maxRecDepth 100000
set_option maxHeartbeats 4000000
namespace Ca
open PySem L2
def spStretch (K : PySem.W.Frag) : Sp := fun vs H Q _ => ∃ l : Addr, vs = [.ref l] ∧ Urn H l ∧ ∀ H' v p, Kept l H H' → Urn H' l → Dq K H' v (strD p) → isStretchD (strD p) = true → Q v H'
theorem two_ok {p : Int × Int} (h1 : -10000 ≤ p.1) (h2 : p.1 ≤ p.2) (h3 : p.2 ≤ 10000) : isStretchD (strD p) = true := by
  show (decide (-10000 ≤ p.1) && (decide (p.1 ≤ p.2) && decide (p.2 ≤ 10000))) = true
  rw [decide_eq_true h1, decide_eq_true h2, decide_eq_true h3]
  rfl
theorem five {H : Hp} {t1 t2 t3 t4 t5 p : Addr} {o1 o2 o3 o4 o5 : HO} (o : HO) (h1 : H t1 = none) (h2 : upd H t1 o1 t2 = none) (h3 : upd (upd H t1 o1) t2 o2 t3 = none) (h4 : upd (upd (upd H t1 o1) t2 o2) t3 o3 t4 = none)
    (h5 : upd (upd (upd (upd H t1 o1) t2 o2) t3 o3) t4 o4 t5 = none) (hp : upd (upd (upd (upd (upd H t1 o1) t2 o2) t3 o3) t4 o4) t5 o5 p = none) :
    Same H (upd (upd (upd (upd (upd (upd H t1 o1) t2 o2) t3 o3) t4 o4) t5 o5) p o) ∧ upd (upd (upd (upd (upd (upd H t1 o1) t2 o2) t3 o3) t4 o4) t5 o5) p o t1 = some o1 ∧ upd (upd (upd (upd (upd (upd H t1 o1) t2 o2) t3 o3) t4 o4) t5 o5) p o t2 = some o2 ∧
    upd (upd (upd (upd (upd (upd H t1 o1) t2 o2) t3 o3) t4 o4) t5 o5) p o t3 = some o3 ∧ upd (upd (upd (upd (upd (upd H t1 o1) t2 o2) t3 o3) t4 o4) t5 o5) p o t4 = some o4 ∧ upd (upd (upd (upd (upd (upd H t1 o1) t2 o2) t3 o3) t4 o4) t5 o5) p o t5 = some o5 ∧ ∀ b u, H b = some u → p ≠ b := by
  have s1 := Same.new (o := o1) h1
  have s2 := Same.new (o := o2) h2
  have s3 := Same.new (o := o3) h3
  have s4 := Same.new (o := o4) h4
  have s5 := Same.new (o := o5) h5
  have sp := Same.new (o := o) hp
  exact ⟨s1.trans (s2.trans (s3.trans (s4.trans (s5.trans sp)))), sp _ _ (s5 _ _ (s4 _ _ (s3 _ _ (s2 _ _ upd_same)))), sp _ _ (s5 _ _ (s4 _ _ (s3 _ _ upd_same))), sp _ _ (s5 _ _ (s4 _ _ upd_same)), sp _ _ (s5 _ _ upd_same), sp _ _ upd_same, fun b u e z => by
    rw [z, s5 _ _ (s4 _ _ (s3 _ _ (s2 _ _ (s1 _ _ e))))] at hp
    cases hp⟩
theorem strD_at {K : PySem.W.Frag} {H : Hp} {t : Addr} {a b : Int} (h : H t = some (.tup [.int a, .int b])) : Dq K H (.ref t) (strD (a, b)) := .tup (SqT.of h) (.cons (.int _) (.cons (.int _) .nil))
section
variable {P : Program} {w : World} {K : PySem.W.Frag} {mg : Str → Option Value} {base : Heap} {C : Addr}
theorem scStretch : FnScope ["_law_urn_here", "_law_most", "_law_low"] ["_law_urn_here"] (defScope sLawStretch) := ⟨rfl, rfl, rfl, by decide +kernel, rfl, by decide +kernel, by decide +kernel⟩
theorem ok_stretch {f fD fF : Addr} {fd fdD fdF : FuncData} (F : FnT K "_law_stretch" sLawStretch f fd)
    (gD : mg "_law_dip" = some (.ref fD)) (GD : FnOk P w K mg base CX0 1 fD fdD ["_law_urn_here", "_law_top"] spDip) (kD : PySem.W.keepIn K (.ref fD) = true) (bD : Binds K fdD ["_law_urn_here", "_law_top"] [])
    (gF : mg "_law_from" = some (.ref fF)) (GF : FnOk P w K mg base CX0 2 fF fdF ["_law_urn_here", "_law_some"] (spFrom K)) (kF : PySem.W.keepIn K (.ref fF) = true) (bF : Binds K fdF ["_law_urn_here", "_law_some"] []) :
    FnOk P w K mg base CX0 3 f fd ["_law_urn_here"] (spStretch K) := by
  refine F.ok scStretch (fun vs H Q E h => ?_) (fun cdv A outer s H vs Q E hr h => ?_)
  · obtain ⟨l, rfl, _⟩ := h
    rfl
  · obtain ⟨l, rfl, hU, q⟩ := h
    have nd := scStretch.nd
    have hr1 : Room 1 _ := hr.mono (by decide)
    have ifT {A B : Prop} {c : Bool} (h : c = true) (a : A) : (if c = true then A else B) := by rw [if_pos h]; exact a
    refine ⟨_, PSs.nox (pss_cons (ps_if (pt_cmpR op_eq (pe_call GD hr1 rfl gD kD bD .nil pass0 (pa_cons (pv 0) (pa_cons pe_int pa_nil))) pe_int (nomark _))
        (pss_cons (ps_cut (ps_set (i := 1) nd rfl (.inl rfl) (pe_op op_pow pe_int pe_int)))
        (pss_one (ps_ret (pe_call GF hr rfl gF kF bF .nil pass0 (pa_cons (pv 0) (pa_cons (pe_lst (pa_cons (pe_tup (pa_cons (pe_op op_sub pe_int (pv 1)) (pa_cons (pv 1) pa_nil)))
          (pa_cons (pe_tup (pa_cons (pv 1) (pa_cons (pv 1) pa_nil))) (pa_cons (pe_tup (pa_cons (pe_op op_sub pe_int (pv 1)) (pa_cons pe_int pa_nil))) (pa_cons (pe_tup (pa_cons pe_int (pa_cons pe_int pa_nil)))
          (pa_cons (pe_tup (pa_cons (pe_op op_sub pe_int (pv 1)) (pa_cons (pe_op op_sub pe_int (pv 1)) pa_nil))) pa_nil)))))) pa_nil)))))) pss_nil)
      (pss_cons (ps_set (i := 2) nd rfl (.inl rfl) (pe_call GF hr rfl gF kF bF .nil pass0 (pa_cons (pv 0) (pa_cons (pe_lst (pa_cons pe_int (pa_cons pe_int (pa_cons pe_int (pa_cons (pe_un un_neg pe_int) (pa_cons (pe_un un_neg pe_int)
          (pa_cons (pe_op op_sub (pe_call GD hr1 rfl gD kD bD .nil pass0 (pa_cons (pv 0) (pa_cons pe_int pa_nil))) pe_int) pa_nil))))))) pa_nil))))
      (pss_one (ps_ret (pe_tup (pa_cons (pv 2) (pa_cons (pe_op op_add (pv 2) (pe_call GF hr rfl gF kF bF .nil pass0 (pa_cons (pv 0) (pa_cons (pe_lst (pa_cons pe_int (pa_cons pe_int (pa_cons pe_int (pa_cons pe_int
          (pa_cons (pe_call GD hr1 rfl gD kD bD .nil pass0 (pa_cons (pv 0) (pa_cons pe_int pa_nil))) pa_nil)))))) pa_nil)))) pa_nil))))))), ?_⟩
    refine ⟨_, rfl, l, 12, rfl, hU, by decide, by decide, fun H1 b k1 u1 b0 b1 => ⟨rfl, _, rfl, ite2 (fun g => ?_) (fun g => ?_)⟩⟩
    · refine ⟨fun σ' H' => σ' = [some (.ref l), some (.int 10000), none] ∧ H' = H1, ⟨_, _, rfl, rfl, ⟨by decide, by decide, by decide⟩, rfl, rfl⟩, ?_⟩
      rintro _ _ ⟨rfl, rfl⟩
      have two : 2 ≤ sizeLine := by decide
      refine ⟨_, rfl, _, rfl, _, _, rfl, rfl, _, rfl, two, fun t1 h1 => ⟨_, rfl, _, rfl, two, fun t2 h2 => ⟨_, rfl, _, _, rfl, rfl, two, fun t3 h3 => ⟨two, fun t4 h4 => ⟨_, rfl, _, _, rfl, rfl, _, rfl, _, _, rfl, rfl, two, fun t5 h5 => ⟨by show 5 ≤ sizeLine; decide, fun p hp => ?_⟩⟩⟩⟩⟩⟩
      obtain ⟨sG, a1, a2, a3, a4, a5, ap⟩ := five (.lst [.ref t1, .ref t2, .ref t3, .ref t4, .ref t5]) h1 h2 h3 h4 h5 hp
      obtain ⟨ys, hys⟩ := urn_lst (u1.same sG)
      obtain ⟨uo, huo⟩ := u1.some
      have npl : p ≠ l := ap l uo huo
      refine ⟨l, p, _, rfl, u1.same sG, upd_same, npl, by show 0 < 5; decide, by show 5 < 1000; decide, fun H2 i v hv k2 u2 => ?_⟩
      have kk : Kept l H H2 := k1.trans (sG.kept.trans k2)
      match i, hv with
      | 0, hv => cases hv; exact q H2 _ (0 - 10000, 10000) kk u2 (Dq.but hys k2 rfl (strD_at a1)) (by decide)
      | 1, hv => cases hv; exact q H2 _ (10000, 10000) kk u2 (Dq.but hys k2 rfl (strD_at a2)) (by decide)
      | 2, hv => cases hv; exact q H2 _ (0 - 10000, 0) kk u2 (Dq.but hys k2 rfl (strD_at a3)) (by decide)
      | 3, hv => cases hv; exact q H2 _ (0, 0) kk u2 (Dq.but hys k2 rfl (strD_at a4)) (by decide)
      | 4, hv => cases hv; exact q H2 _ (0 - 10000, 0 - 10000) kk u2 (Dq.but hys k2 rfl (strD_at a5)) (by decide)
      | n + 5, hv => cases hv
    · refine ⟨_, rfl, _, rfl, _, rfl, _, rfl, l, 25, rfl, u1, by decide, by decide, fun H2 d k2 u2 d0 d1 => ⟨_, _, rfl, rfl, by show 6 ≤ sizeLine; decide, fun p hp => ?_⟩⟩
      obtain ⟨uo, huo⟩ := u2.some
      have s2 := Same.new (o := .lst [.int 0, .int 0, .int 1, .int (-1), .int (-3), .int (d - 12)]) hp
      refine ⟨l, p, _, rfl, u2.same s2, upd_same, (ne_of_none huo hp).symm, by show 0 < 6; decide, by show 6 < 1000; decide, fun H3 i v hv k3 u3 => ?_⟩
      obtain ⟨low, rfl, w1, w2⟩ : ∃ low : Int, v = .int low ∧ -12 ≤ low ∧ low ≤ 12 := by
        match i, hv with
        | 0, hv => cases hv; exact ⟨0, rfl, by decide, by decide⟩
        | 1, hv => cases hv; exact ⟨0, rfl, by decide, by decide⟩
        | 2, hv => cases hv; exact ⟨1, rfl, by decide, by decide⟩
        | 3, hv => cases hv; exact ⟨-1, rfl, by decide, by decide⟩
        | 4, hv => cases hv; exact ⟨-3, rfl, by decide, by decide⟩
        | 5, hv => cases hv; exact ⟨d - 12, rfl, by omega, by omega⟩
        | n + 6, hv => cases hv
      refine ⟨_, rfl, _, rfl, _, rfl, _, rfl, l, 9, rfl, u3, by decide, by decide, fun H4 e k4 u4 e0 e1 => ⟨by show 5 ≤ sizeLine; decide, fun p2 hp2 => ?_⟩⟩
      obtain ⟨uo2, huo2⟩ := u4.some
      have s4 := Same.new (o := .lst [.int 0, .int 0, .int 1, .int 2, .int e]) hp2
      refine ⟨l, p2, _, rfl, u4.same s4, upd_same, (ne_of_none huo2 hp2).symm, by show 0 < 5; decide, by show 5 < 1000; decide, fun H5 i2 v2 hv2 k5 u5 => ?_⟩
      obtain ⟨hi, rfl, z1, z2⟩ : ∃ hi : Int, v2 = .int hi ∧ 0 ≤ hi ∧ hi ≤ 8 := by
        match i2, hv2 with
        | 0, hv => cases hv; exact ⟨0, rfl, by decide, by decide⟩
        | 1, hv => cases hv; exact ⟨0, rfl, by decide, by decide⟩
        | 2, hv => cases hv; exact ⟨1, rfl, by decide, by decide⟩
        | 3, hv => cases hv; exact ⟨2, rfl, by decide, by decide⟩
        | 4, hv => cases hv; exact ⟨e, rfl, by omega, by omega⟩
        | n + 5, hv => cases hv
      refine ⟨_, _, rfl, rfl, by show 2 ≤ sizeLine; decide, fun t ht => ?_⟩
      exact q _ _ (low, low + hi) (k1.trans (k2.trans (s2.kept.trans (k3.trans (k4.trans (s4.kept.trans (k5.trans (Same.new ht).kept))))))) (u5.same (Same.new ht)) (strD_at upd_same) (two_ok (show -10000 ≤ low by omega) (show low ≤ low + hi by omega) (show low + hi ≤ 10000 by omega))
end
end Ca
set_option Elab.async false
set_option linter.all false
set_option maxRecDepth 100000
set_option maxHeartbeats 4000000
namespace Ca
open PySem PySem.Spec PyProof.Rows L2
/-! ### tuples of which it is known that they have no attributes of their own -/
def TupN (H : Hp) (a : Addr) (xs : List V) : Prop := ∃ o : Obj, H a = some (.frz o (.tup xs)) ∧ o.cls = .type "tuple" ∧ o.dict = none
theorem TupN.sq {K : PySem.W.Frag} {H : Hp} {a : Addr} {xs : List V} (h : TupN H a xs) : SqT K H a xs := h.elim fun o e => .inl (.inr ⟨o, e.1⟩)
theorem TupN.same {H H' : Hp} {a : Addr} {xs : List V} (h : TupN H a xs) (s : Same H H') : TupN H' a xs := h.elim fun o e => ⟨o, s _ _ e.1, e.2⟩
theorem TupN.kept {H H' : Hp} {l a : Addr} {xs ys : List V} (hl : H l = some (.lst ys)) (h : TupN H a xs) (k : Kept l H H') : TupN H' a xs := by
  obtain ⟨o, e, r⟩ := h
  exact ⟨o, k _ _ (fun z => by rw [z, hl] at e; cases e) e, r⟩
section
variable {X : Cx} {pins : List (Addr × Obj)} {σ : L2.St} {H : Hp} {s : Shared}
/-- a tuple just pushed, kept as it is -/
theorem pushed_tup {xs : List V} {its : List Value} (I : Inv X pins σ H s) (r : Vals xs its) (z : xs.length ≤ sizeLine) :
    ∃ H', H s.heap.objs.size = none ∧ Same H H' ∧ TupN H' s.heap.objs.size xs ∧ Inv X pins σ H' { s with heap := s.heap.push { cls := .type "tuple", data := .seq its.toArray } } := by
  have free : H s.heap.objs.size = none := I.hok.fresh (Nat.le_refl _)
  have look := Heap.get?_push_size (o := { cls := .type "tuple", data := .seq its.toArray }) s.heap rfl
  refine ⟨upd H s.heap.objs.size (.frz { cls := .type "tuple", data := .seq its.toArray } (.tup xs)), free, Same.new free, ⟨_, upd_same, rfl, rfl⟩, ?_⟩
  exact I.laid (t' := s.toks) (fun b u e => Heap.get?_push_of_some _ e) (Nat.le_refl _) ⟨look, z, its, r, IsTup.new _ _⟩
def tTupN (t : TA) : TE := fun σ H Q => t σ H fun vs H1 => vs.length ≤ sizeLine ∧ ∀ p H2, H1 p = none → Same H1 H2 → TupN H2 p vs → Q (.ref p) H2
theorem pe_tupN {es : List Expr} {k : Nat} {pos : Pos} {t : TA} (h : PA X es t) : PE X (.Tuple es k pos) (tTupN t) := by
  constructor
  intro pins s σ H Q I hq
  refine wpAny_Tuple_spliced (thn (h.run pos pins s σ H _ I hq) ?_)
  rintro us s1 ⟨xs, H1, I1, r, z, q⟩
  obtain ⟨H2, free, sm, tn, I2⟩ := pushed_tup I1 r z
  exact ⟨Nat.le_trans (Nat.le_of_eq r.length.symm) z, .ref _, H2, I2, rfl, q _ H2 free sm tn⟩
/-- tuple(a list) -/
theorem call_tupN (K : PySem.W.Frag) (hK : X.K = K := by rfl) : CallR X (.type "tuple") (fun xs H Q => ∃ p ys, xs = [.ref p] ∧ SqL K H p ys ∧ ∀ l H', H l = none → Same H H' → TupN H' l ys → Q (.ref l) H') := by
  subst hK
  rintro pins s σ H _ us Q I r ⟨p, ys, rfl, hq, q⟩
  obtain rfl := Vals.ref1 r
  obtain ⟨its, r', pl, hz⟩ := I.list hq
  refine call_tuple_list pl.isList (fun h' kp => ?_) (by rw [List.size_toArray, ← r'.length]; exact hz)
  obtain ⟨H2, free, sm, tn, I2⟩ := pushed_tup (s := { s with heap := h' }) (I.kept (t' := s.toks) kp) r' hz
  exact ⟨.ref _, H2, I2, rfl, q _ H2 free sm tn⟩
def tBMN (r : V → List V → Hp → VK → Prop) (to : TE) (t : TA) : TE := fun σ H Q => to σ H fun x H1 => (∃ a xs, x = .ref a ∧ TupN H1 a xs) ∧ t σ H1 fun vs H2 => r x vs H2 Q
/-- t.m(e) for such a tuple -/
theorem pe_bmN {o e : Expr} {es : List Expr} {name : Str} {id : String} {apos cpos : Pos} {to : TE} {t : TA} {r : V → List V → Hp → VK → Prop} (slot : Slot "tuple" name id) (hty : typeOf (.builtin id) = pure (.type "method_descriptor")) (hm : MtR X id r) (ho : PE X o to) (ha : PA X (e :: es) t)
    (h1 : attributeBase o name X.env (eval o X.env) = eval o X.env := by rfl)
    (h2 : ((backTo cpos (starEach (e :: es) X.env)).all (fun x => !x.1) && (backToKw cpos (keywordEach [] X.env)).all (fun x => x.1.isSome) && decide ((e :: es).length + ([] : List Keyword).length + (if ([] : List Keyword).isEmpty then 0 else 1) < 30)) = true := by rfl)
    (h3 : (apos.endLine == cpos.line) = true := by rfl) (h4 : starEach (e :: es) X.env = (false, eval e X.env) :: starEach es X.env := by rfl) (h5 : (backTo cpos (starEach es X.env)).any (·.1) = false := by rfl) :
    PE X (.Call (.Attribute o name apos) (e :: es) [] cpos) (tBMN r to t) := by
  constructor
  intro pins s σ H Q I h
  refine wpAny_Call_method_late h1 h2 h3 rfl (thn (ho.run pins s σ H _ I h) ?_)
  rintro v s1 ⟨x, H1, I1, r1, ⟨a, xs, ex, tn⟩, q1⟩
  subst ex
  obtain rfl : v = Value.ref a := r1
  obtain ⟨ob, eo, co, dn⟩ := tn
  have look : s1.heap.get? a = some ob := (I1.hok a _ eo).1
  refine ⟨"tuple", id, PySem.F.plainAttrs_tuple, slot, hty, ⟨ob, look, co⟩, fun b eb => ?_, ?_⟩
  · cases eb
    exact ⟨ob, look, dn⟩
  have hA := ha.run cpos pins s1 σ H1 _ I1 q1
  rw [h4] at hA ⊢
  refine Calls.callWith_builtin (show (false || (backTo cpos (starEach es X.env)).any (·.1)) = false by rw [h5]; rfl) (Calls.evalArgs_plain (thn hA ?_))
  rintro us s2 ⟨vs, H2, I2, r2, q2⟩
  exact hm pins s2 σ H2 (V.ref a) vs _ us Q I2 rfl r2 q2
end
end Ca
set_option Elab.async false
set_option linter.all false
set_option maxRecDepth 100000
set_option maxHeartbeats 4000000
namespace Ca
open PySem L2
section
variable {X : Cx}
theorem call_lenK (K : PySem.W.Frag) (h : X.K = K := by rfl) : CallR X (.builtin "len") (fun xs H Q => ∃ x n, xs = [x] ∧ LenV K x H n ∧ Q (.int n) H) := h ▸ call_len
end
def spRowD (K : PySem.W.Frag) : Sp := fun vs H Q _ => ∃ (l : Addr) (t : Str) (m : Nat), vs = [.ref l, .str t, .int m] ∧ Urn H l ∧ t.length ≤ 1000 ∧ m ≤ 3 ∧
  ∀ H' v r, Kept l H H' → Urn H' l → Dq K H' v (rowD r) → r.name = t → r.parts.length = m → (∀ p ∈ r.parts ++ [r.bd], isStretchD (strD p) = true) → Q v H'
def caseD (ns : List Str) (rs : List Rw) : PyData := .tuple [folkD ns, rowsD rs]
def menuU : List Str := ["x", "y", "z", "a1", "bounds", "row", "unknowns", "u", "b2", "bound1", "abcdefg8"]
def menuR : List Str := ["need", "room", "more", "bound", "x", "row", "a1", "zz9", "unknowns", "n", "w2345678"]
def spCase (K : PySem.W.Frag) : Sp := fun vs H Q _ => ∃ (l : Addr) (m : Nat), vs = [.ref l, .int 3, .int m] ∧ m ≤ 6 ∧ Urn H l ∧
  ∀ H' v ns rs, Kept l H H' → Urn H' l → Dq K H' v (caseD ns rs) → Folk ns → Lines rs ns.length → rs.length ≤ m → (∀ r ∈ rs, r.name ∈ menuR) → Q v H'
/-- the same, of parts that stand by themselves -/
def spCaseN (K : PySem.W.Frag) : Sp := fun vs H Q _ => ∃ (l : Addr) (m : Nat), vs = [.ref l, .int 3, .int m] ∧ m ≤ 6 ∧ Urn H l ∧
  ∀ H' c u r ns rs, Kept l H H' → Urn H' l → SqT K H' c [.ref u, .ref r] → TupN H' u (ns.map V.str) → Dq K H' (.ref u) (folkD ns) → Dq K H' (.ref r) (rowsD rs) → Folk ns → Lines rs ns.length → rs.length ≤ m → (∀ r ∈ rs, r.name ∈ menuR) → Q (.ref c) H'
theorem row_ok {r : Rw} {m : Nat} (hn : nameS r.name = true) (hp : r.parts.length = m) (h : ∀ p ∈ r.parts ++ [r.bd], isStretchD (strD p) = true) : isRowD (rowD r) m = true := by
  refine Bool.and_eq_true_iff.mpr ⟨hn, Bool.and_eq_true_iff.mpr ⟨?_, ?_⟩⟩
  · show decide ((r.parts.map strD).length = m) = true
    rw [List.length_map]
    exact decide_eq_true hp
  · show ((r.parts.map strD ++ [strD r.bd]).all isStretchD) = true
    rw [show r.parts.map strD ++ [strD r.bd] = (r.parts ++ [r.bd]).map strD by rw [List.map_append]; rfl, List.all_map, List.all_eq_true]
    exact h
section
variable {P : Program} {w : World} {K : PySem.W.Frag} {mg : Str → Option Value} {base : Heap} {C : Addr}
abbrev NRowD : List Str := ["_law_urn_here", "_law_title", "_law_many", "_law_k"]
theorem scRowD : FnScope NRowD ["_law_urn_here", "_law_title", "_law_many"] (defScope sLawLine) := ⟨rfl, rfl, rfl, by decide +kernel, rfl, by decide +kernel, by decide +kernel⟩
theorem ok_rowD {f fS : Addr} {fd fdS : FuncData} (F : FnT K "_law_line" sLawLine f fd) (B : Bn mg) (rng : mg "range" = none)
    (gS : mg "_law_stretch" = some (.ref fS)) (GS : FnOk P w K mg base CX0 3 fS fdS ["_law_urn_here"] (spStretch K)) (kS : PySem.W.keepIn K (.ref fS) = true) (bS : Binds K fdS ["_law_urn_here"] []) :
    FnOk P w K mg base CX0 4 f fd ["_law_urn_here", "_law_title", "_law_many"] (spRowD K) := by
  refine F.ok scRowD (fun vs H Q E h => ?_) (fun cdv A outer s H vs Q E hr h => ?_)
  · obtain ⟨l, t, m, rfl, _⟩ := h
    rfl
  · obtain ⟨l, t, m, rfl, hU, ht, hm, q⟩ := h
    have nd := scRowD.nd
    refine ⟨_, PSs.nox (pss_one (ps_ret (pe_tup (pa_cons (pv 1) (pa_cons (pe_callTy call_tuple_of (by rfl) B.tup (by decide +kernel) (pa_cons (pe_lc (own := [("_law_k", 3)]) (g := gName 3) (tt := tYes) rfl nd (pi_range1 rfl rng (pa_cons (pv 2) pa_nil))
        (blkOk_by (own := [("_law_k", 3)]) (N := NRowD) (sc := defScope sLawLine) (by decide +kernel)) (fun _ _ _ _ _ => pg_name (i := 3) nd rfl (Or.inl rfl)) (fun _ _ _ _ _ => pts_nil)
        (fun _ _ _ _ _ => pe_call GS hr rfl gS kS bS .nil pass0 (pa_cons (pv 0) pa_nil))) pa_nil)) (pa_cons (pe_call GS hr rfl gS kS bS .nil pass0 (pa_cons (pv 0) pa_nil)) pa_nil)))))), ?_⟩
    refine ⟨_, rfl, _, rfl, (m : Int), rfl, by omega, by omega, fun D hD => ?_⟩
    refine lc_draw (K := K) (walk_range (lo := 0) (n := m)) strD (fun _ p => isStretchD (strD p) = true) noL_strD (by omega) hU hD (fun _ _ => trivial) (fun _ _ _ _ y => y.1) (fun _ => rfl) ?_ ?_
    · intro i x H5 Qk hi yy k5 u5 kk
      exact ⟨_, rfl, l, rfl, u5, fun H6 v p k6 u6 dq ok => kk v p H6 k6 u6 dq ok⟩
    · intro H5 xs ps k5 u5 bD dps hlen hok
      refine ⟨D, xs, rfl, .inl ⟨SqL.of bD, fun tp htp => ?_⟩⟩
      have s6 := Same.new (o := .tup xs) htp
      refine ⟨_, rfl, l, rfl, u5.same s6, fun H7 v7 p7 k7 u7 d7 ok7 => ⟨by show 3 ≤ sizeLine; decide, fun tt htt => ?_⟩⟩
      have s8 := Same.new (o := .tup [.str t, .ref tp, v7]) htt
      obtain ⟨ys, hys⟩ := urn_lst (u5.same s6)
      have d6 : Dq K (upd H5 tp (.tup xs)) (.ref tp) (.tuple (ps.map strD)) := .tup (SqT.of upd_same) (dps.same s6)
      have d7' := Dq.but hys k7 (show noL (.tuple (ps.map strD)) = true from noLs_map strD noL_strD ps) d6
      refine q _ _ ⟨t, ps, p7⟩ (k5.trans (s6.kept.trans (k7.trans s8.kept))) (u7.same s8) (.tup (SqT.of upd_same) (.cons (.str t ht) (.cons (d7'.same s8) (.cons (d7.same s8) .nil)))) rfl hlen ?_
      intro p hp
      rcases List.mem_append.mp hp with z | z
      · obtain ⟨i, hi⟩ := List.mem_iff_getElem?.mp z
        exact hok i p hi
      · rw [List.mem_singleton.mp z]
        exact ok7
theorem menuU_ok : menuU.length = 11 ∧ menuU.Nodup ∧ ∀ x ∈ menuU, isUnknownD (.str x) = true := by decide +kernel
theorem menuR_ok : menuR.length = 11 ∧ menuR.Nodup ∧ ∀ x ∈ menuR, nameS x = true := by decide +kernel
abbrev NCase : List Str := ["_law_urn_here", "_law_many", "_law_most", "_law_menu", "_law_folk", "_law_titles", "_law_title"]
theorem scCase : FnScope NCase ["_law_urn_here", "_law_many", "_law_most"] (defScope sLawCase) := ⟨rfl, rfl, rfl, by decide +kernel, rfl, by decide +kernel, by decide +kernel⟩
theorem ok_caseN {f fD fU fL : Addr} {fd fdD fdU fdL : FuncData} (F : FnT K "_law_case" sLawCase f fd) (B : Bn mg)
    (gD : mg "_law_dip" = some (.ref fD)) (GD : FnOk P w K mg base CX0 1 fD fdD ["_law_urn_here", "_law_top"] spDip) (kD : PySem.W.keepIn K (.ref fD) = true) (bD : Binds K fdD ["_law_urn_here", "_law_top"] [])
    (gU : mg "_law_unlike" = some (.ref fU)) (GU : FnOk P w K mg base CX0 2 fU fdU ["_law_urn_here", "_law_menu", "_law_many"] (spUnlike K)) (kU : PySem.W.keepIn K (.ref fU) = true) (bU : Binds K fdU ["_law_urn_here", "_law_menu", "_law_many"] [])
    (gL : mg "_law_line" = some (.ref fL)) (GL : FnOk P w K mg base CX0 4 fL fdL ["_law_urn_here", "_law_title", "_law_many"] (spRowD K)) (kL : PySem.W.keepIn K (.ref fL) = true) (bL : Binds K fdL ["_law_urn_here", "_law_title", "_law_many"] []) :
    FnOk P w K mg base CX0 5 f fd ["_law_urn_here", "_law_many", "_law_most"] (spCaseN K) := by
  refine F.ok scCase (fun vs H Q E h => ?_) (fun cdv A outer s H vs Q E hr h => ?_)
  · obtain ⟨l, m, rfl, _⟩ := h
    rfl
  · obtain ⟨l, m, rfl, hm, hU, q⟩ := h
    have nd := scCase.nd
    have hr1 : Room 1 _ := hr.mono (by decide)
    have hr2 : Room 2 _ := hr.mono (by decide)
    refine ⟨_, PSs.nox (pss_cons (ps_set (i := 3) nd rfl (.inl rfl) (pe_lst (pa_cons pe_str (pa_cons pe_str (pa_cons pe_str (pa_cons pe_str (pa_cons pe_str (pa_cons pe_str (pa_cons pe_str (pa_cons pe_str (pa_cons pe_str (pa_cons pe_str (pa_cons pe_str pa_nil)))))))))))))
      (pss_cons (ps_set (i := 4) nd rfl (.inr rfl) (pe_call GU hr2 rfl gU kU bU .nil pass0 (pa_cons (pv 0) (pa_cons (pv 3) (pa_cons (pe_op op_add pe_int (pe_call GD hr1 rfl gD kD bD .nil pass0 (pa_cons (pv 0) (pa_cons (pv 1) pa_nil)))) pa_nil)))))
      (pss_cons (ps_set (i := 3) nd rfl (.inl rfl) (pe_lst (pa_cons pe_str (pa_cons pe_str (pa_cons pe_str (pa_cons pe_str (pa_cons pe_str (pa_cons pe_str (pa_cons pe_str (pa_cons pe_str (pa_cons pe_str (pa_cons pe_str (pa_cons pe_str pa_nil)))))))))))))
      (pss_cons (ps_set (i := 5) nd rfl (.inl rfl) (pe_call GU hr2 rfl gU kU bU .nil pass0 (pa_cons (pv 0) (pa_cons (pv 3) (pa_cons (pe_call GD hr1 rfl gD kD bD .nil pass0 (pa_cons (pv 0) (pa_cons (pe_op op_add (pv 2) pe_int) pa_nil))) pa_nil)))))
      (pss_one (ps_ret (pe_tup (pa_cons (pe_callTy (call_tupN K) (by rfl) B.tup (by decide +kernel) (pa_cons (pv 4) pa_nil)) (pa_cons (pe_callTy call_tuple_of (by rfl) B.tup (by decide +kernel) (pa_cons (pe_lc (own := [("_law_title", 6)]) (g := gName 6) (tt := tYes) rfl nd (pi_list (pv 5))
        (blkOk_by (own := [("_law_title", 6)]) (N := NCase) (sc := defScope sLawCase) (by decide +kernel)) (fun _ _ _ _ _ => pg_name (i := 6) nd rfl (Or.inl rfl)) (fun _ _ _ _ _ => pts_nil)
        (fun _ _ _ _ _ => pe_call GL hr rfl gL kL bL .nil pass0 (pa_cons (pv 0) (pa_cons (pv 6) (pa_cons (pe_callB (call_lenK K) (by rfl) B.len boot_len (pa_cons (pv 4) pa_nil)) pa_nil))))) pa_nil)) pa_nil))))))))), ?_⟩
    have l11 : 11 ≤ sizeLine := by decide
    obtain ⟨uo, huo⟩ := hU.some
    refine ⟨l11, fun p1 hp1 => ?_⟩
    have s1 := Same.new (o := .lst (menuU.map V.str)) hp1
    have n1 : p1 ≠ l := (ne_of_none huo hp1).symm
    have b1 : upd H p1 (.lst (menuU.map V.str)) p1 = some (.lst (menuU.map V.str)) := upd_same
    change tSeq _ _ _ _ (upd H p1 (.lst (menuU.map V.str)))
    generalize upd H p1 (.lst (menuU.map V.str)) = H1 at s1 b1 ⊢
    refine ⟨_, rfl, _, rfl, _, rfl, _, rfl, l, 3, rfl, hU.same s1, by decide, by decide, fun H2 d k2 u2 d0 d1 => ?_⟩
    obtain ⟨dn, rfl⟩ := Int.eq_ofNat_of_zero_le d0
    have b2 := k2 _ _ n1 b1
    refine ⟨_, _, rfl, rfl, l, p1, menuU, 1 + dn, by rw [Int.natCast_add]; rfl, u2, n1, b2, menuU_ok.1, menuU_ok.2.1, by omega, fun H3 pf ns k3 u3 hpf b3 lf nf mf => ?_⟩
    have k03 : Kept l H H3 := s1.kept.trans (k2.trans k3)
    have nfl : pf ≠ l := by
      obtain ⟨o, ho⟩ := u2.some
      exact (ne_of_none ho hpf).symm
    have hN : Folk ns := ⟨by omega, by omega, fun x z => menuU_ok.2.2 x (mf x z), nf⟩
    refine ⟨l11, fun p2 hp2 => ?_⟩
    have s4 := Same.new (o := .lst (menuR.map V.str)) hp2
    have n2 : p2 ≠ l := by
      obtain ⟨o, ho⟩ := u3.some
      exact (ne_of_none ho hp2).symm
    have b4 : upd H3 p2 (.lst (menuR.map V.str)) p2 = some (.lst (menuR.map V.str)) := upd_same
    have u4 := u3.same s4
    have b34 := s4 _ _ b3
    change tSeq _ _ _ _ (upd H3 p2 (.lst (menuR.map V.str)))
    generalize upd H3 p2 (.lst (menuR.map V.str)) = H4 at s4 b4 u4 b34 ⊢
    refine ⟨_, rfl, _, rfl, _, rfl, _, rfl, _, _, rfl, rfl, l, (m : Int) + 1, rfl, u4, by omega, by omega, fun H5 e k5 u5 e0 e1 => ?_⟩
    obtain ⟨en, rfl⟩ := Int.eq_ofNat_of_zero_le e0
    refine ⟨l, p2, menuR, en, rfl, u5, n2, k5 _ _ n2 b4, menuR_ok.1, menuR_ok.2.1, by omega, fun H6 pt ts k6 u6 hpt b6 lt nt mt => ?_⟩
    have k06 : Kept l H H6 := k03.trans (s4.kept.trans (k5.trans k6))
    have ntl : pt ≠ l := by
      obtain ⟨o, ho⟩ := u5.some
      exact (ne_of_none ho hpt).symm
    have b36 := k6 _ _ nfl (k5 _ _ nfl b34)
    have hl8 : ∀ x ∈ ns, x.length ≤ 1000 := fun x z => by
      have := (name_parts (folk_names hN x z)).2.1
      omega
    refine ⟨_, rfl, pf, _, rfl, SqL.of b36, fun tf H7 htf s7 tn7 => ?_⟩
    have dF : Dq K H7 (.ref tf) (folkD ns) := .tup tn7.sq (strs_dq hl8)
    have u7 := u6.same s7
    have b37 := s7 _ _ b36
    have b67 := s7 _ _ b6
    refine ⟨_, rfl, pt, rfl, ⟨_, SqL.of b67⟩, fun D hD => ?_⟩
    have hlt : (ts.map V.str).length = en := by rw [List.length_map, lt]
    refine lc_draw (K := K) (walk_list (K := K) (a := pt) (xs := ts.map V.str)) rowD (fun i r => r.name = ts.getD i "" ∧ isRowD (rowD r) ns.length = true) noL_row (by rw [hlt]; omega) u7 hD (fun H' k' => SqL.of (k' _ _ ntl b67)) (fun _ _ _ _ y => y.1) (fun _ => rfl) ?_ ?_
    · rintro i x H8 Qk hi ⟨_, hx⟩ k8 u8 kk
      rw [hlt] at hi
      have hi2 : i < ts.length := by rw [lt]; exact hi
      rw [List.getElem?_map, List.getElem?_eq_getElem hi2] at hx
      cases hx
      have hnm : nameS ts[i] = true := menuR_ok.2.2 _ (mt _ (List.getElem_mem hi2))
      refine ⟨_, rfl, _, rfl, _, rfl, _, ns.length, rfl, .inl ⟨_, SqL.of (k8 _ _ nfl b37), by rw [List.length_map]⟩, l, ts[i], ns.length, rfl, u8, by have := (name_parts hnm).2.1; omega, by omega, fun H9 v r k9 u9 dq en ep eo => kk v r H9 k9 u9 dq ⟨?_, row_ok (by rw [en]; exact hnm) ep eo⟩⟩
      rw [en, List.getD_eq_getElem?_getD, List.getElem?_eq_getElem hi2]
      rfl
    · intro H8 xs rs k8 u8 bD dqs hlen hok
      rw [hlt] at hlen
      have dF8 := Dq.but (urn_lst u7).choose_spec k8 (noL_folk ns) dF
      have tn8 := TupN.kept (urn_lst u7).choose_spec tn7 k8
      refine ⟨D, xs, rfl, .inl ⟨SqL.of bD, fun tr htr => ⟨by show 2 ≤ sizeLine; decide, fun tt htt => ?_⟩⟩⟩
      have s9 := Same.new (o := .tup xs) htr
      have s10 := Same.new (o := .tup [.ref tf, .ref tr]) htt
      have enames : rs.map Rw.name = ts := by
        refine List.ext_getElem (by rw [List.length_map, hlen, lt]) fun i h1 h2 => ?_
        rw [List.length_map] at h1
        have := (hok i rs[i] (List.getElem?_eq_getElem h1)).1
        rw [List.getElem_map, this, List.getD_eq_getElem?_getD, List.getElem?_eq_getElem h2]
        rfl
      refine q _ _ tf tr ns rs (k06.trans (s7.kept.trans (k8.trans (s9.trans s10).kept))) (u8.same (s9.trans s10)) (SqT.of upd_same) (tn8.same (s9.trans s10)) (dF8.same (s9.trans s10)) (Dq.same s10 (.tup (SqT.of upd_same) (dqs.same s9))) hN ⟨by omega, fun r z => ?_, by rw [enames]; exact nt⟩ (by omega) (fun r z => mt _ (by rw [← enames]; exact List.mem_map_of_mem z))
      obtain ⟨i, hi⟩ := List.mem_iff_getElem?.mp z
      exact (hok i r hi).2
theorem ok_case {f fD fU fL : Addr} {fd fdD fdU fdL : FuncData} (F : FnT K "_law_case" sLawCase f fd) (B : Bn mg)
    (gD : mg "_law_dip" = some (.ref fD)) (GD : FnOk P w K mg base CX0 1 fD fdD ["_law_urn_here", "_law_top"] spDip) (kD : PySem.W.keepIn K (.ref fD) = true) (bD : Binds K fdD ["_law_urn_here", "_law_top"] [])
    (gU : mg "_law_unlike" = some (.ref fU)) (GU : FnOk P w K mg base CX0 2 fU fdU ["_law_urn_here", "_law_menu", "_law_many"] (spUnlike K)) (kU : PySem.W.keepIn K (.ref fU) = true) (bU : Binds K fdU ["_law_urn_here", "_law_menu", "_law_many"] [])
    (gL : mg "_law_line" = some (.ref fL)) (GL : FnOk P w K mg base CX0 4 fL fdL ["_law_urn_here", "_law_title", "_law_many"] (spRowD K)) (kL : PySem.W.keepIn K (.ref fL) = true) (bL : Binds K fdL ["_law_urn_here", "_law_title", "_law_many"] []) :
    FnOk P w K mg base CX0 5 f fd ["_law_urn_here", "_law_many", "_law_most"] (spCase K) :=
  (ok_caseN F B gD GD kD bD gU GU kU bU gL GL kL bL).imp fun vs H Q E h => by
    obtain ⟨l, m, rfl, hm, hU, q⟩ := h
    exact ⟨l, m, rfl, hm, hU, fun H' c u r ns rs k u' sq tn du dr hN hL hm hM => q H' (.ref c) ns rs k u' (.tup sq (.cons du (.cons dr .nil))) hN hL hm hM⟩
end
end Ca
set_option Elab.async false
set_option linter.all false
set_option maxRecDepth 100000
set_option maxHeartbeats 4000000
namespace Ca
open PySem L2
section
variable {X : Cx}
theorem pgT (K : PySem.W.Frag) {es : List Expr} {k : Nat} {pos : Pos} {t : TGs} {n : Nat} (hc : X.calm = true) (h : PGs X es t) (hK : X.K = K := by rfl) (hn : (assignEach es X.env).length = n := by rfl) (hst : (assignEach es X.env).findIdx? (·.1) = none := by rfl) : PG X (.Tuple es k pos) (gTup K n t) := hK ▸ pg_tup hc h hn hst
end
theorem join_head (y a b : Str) : ∀ r : List Str, Str.join y ((a ++ b) :: r) = a ++ Str.join y (b :: r)
  | [] => rfl
  | z :: r => by
    show a ++ b ++ y ++ Str.join y (z :: r) = a ++ (b ++ y ++ Str.join y (z :: r))
    rw [Str.append_assoc, Str.append_assoc, Str.append_assoc]
def pairS (p : Int × Int) : Str := intS p.1 ++ " " ++ intS p.2
theorem join_pairs : ∀ (ps : List (Int × Int)) (x : Str), Str.join " " (x :: ps.map pairS) = Str.join " " (x :: wordsOf ps)
  | [], _ => rfl
  | p :: ps, x => by
    show x ++ " " ++ Str.join " " (pairS p :: ps.map pairS) = x ++ " " ++ (intS p.1 ++ " " ++ Str.join " " (intS p.2 :: wordsOf ps))
    show x ++ " " ++ Str.join " " ((intS p.1 ++ " " ++ intS p.2) :: ps.map pairS) = _
    rw [join_head, join_pairs ps (intS p.2)]
theorem line_pairs (r : Rw) : Txt.join " " ([("row" : Str), r.name] ++ (r.parts ++ [r.bd]).map pairS) = lineS r := by
  unfold lineS
  rw [TL.join_eq, TL.join_eq]
  show ("row" : Str) ++ " " ++ Str.join " " (r.name :: (r.parts ++ [r.bd]).map pairS) = ("row" : Str) ++ " " ++ Str.join " " (r.name :: wordsOf (r.parts ++ [r.bd]))
  rw [join_pairs]
theorem pairs_len : ∀ ps : List (Int × Int), (∀ p ∈ ps, inB p) → ((ps.map pairS).map (·.length)).sum ≤ 3843 * ps.length
  | [], _ => Nat.le_refl _
  | p :: ps, h => by
    have ih := pairs_len ps fun x z => h x (List.mem_cons_of_mem _ z)
    have hp := h p (List.mem_cons_self ..)
    have l1 := intS_len hp.1
    have l2 := intS_len hp.2
    have e : (pairS p).length = (intS p.1).length + 1 + (intS p.2).length := by
      unfold pairS
      rw [cat_len, cat_len]
      rfl
    simp only [List.map_cons, List.sum_cons, List.length_cons]
    rw [e]
    omega
def spPage (K : PySem.W.Frag) : Sp := fun vs H Q _ => ∃ v ns rs, vs = [v] ∧ Dq K H v (caseD ns rs) ∧ Folk ns ∧ Lines rs ns.length ∧ ∀ H', Same H H' → Q (.str (pageS ns rs)) H'
theorem case_at {K : PySem.W.Frag} {H : Hp} {v : V} {ns : List Str} {rs : List Rw} (h : Dq K H v (caseD ns rs)) : ∃ c u r, v = .ref c ∧ SqT K H c [.ref u, .ref r] ∧ Dq K H (.ref u) (folkD ns) ∧ Dq K H (.ref r) (rowsD rs) := by
  obtain ⟨c, xs, rfl, h1, h2, _⟩ := tup_len h
  cases h2 with
  | cons e1 r1 =>
    cases r1 with
    | cons e2 r2 =>
      cases r2
      obtain ⟨u, _, rfl, _⟩ := tup_len e1
      obtain ⟨r, _, rfl, _⟩ := tup_len e2
      exact ⟨c, u, r, rfl, h1, e1, e2⟩
section
variable {P : Program} {w : World} {K : PySem.W.Frag} {mg : Str → Option Value} {base : Heap} {C : Addr}
abbrev NPage : List Str := ["_law_case_here", "_law_lines", "_law_title", "_law_parts", "_law_end", "_law_words", "_law_low", "_law_high"]
theorem scPage : FnScope NPage ["_law_case_here"] (defScope sLawPage) := ⟨rfl, rfl, rfl, by decide +kernel, rfl, by decide +kernel, by decide +kernel⟩
theorem ok_page {f : Addr} {fd : FuncData} (F : FnT K "_law_page" sLawPage f fd) (B : Bn mg) (mlist : mg "list" = none) : FnOk P w K mg base CX0 1 f fd ["_law_case_here"] (spPage K) := by
  refine F.ok scPage (fun vs H Q E h => ?_) (fun cdv A outer s H vs Q E hr h => ?_)
  · obtain ⟨v, ns, rs, rfl, _⟩ := h
    rfl
  · obtain ⟨v, ns, rs, rfl, hd, hN, hL, q⟩ := h
    have nd := scPage.nd
    refine ⟨_, PSs.nox (pss_cons (ps_set (i := 1) nd rfl (.inl rfl) (pe_lst (pa_cons (pe_join pe_str (pe_op op_cat (pe_lst (pa_cons pe_str pa_nil)) (pe_callTy call_list_of (by rfl) mlist (by decide +kernel) (pa_cons (pe_ix ix_tup (pv 0) pe_int (fun _ _ => rfl)) pa_nil)))) pa_nil)))
      (pss_cons (ps_for PassesOwn.never rfl (pi_tup (pe_ix ix_tup (pv 0) pe_int (fun _ _ => rfl))) (pg_tup rfl (pgs_cons (pg_name (i := 2) nd rfl (.inl rfl)) (pgs_cons (pg_name (i := 3) nd rfl (.inl rfl)) (pgs_cons (pg_name (i := 4) nd rfl (.inl rfl)) pgs_nil))))
        (pss_cons (ps_setLc (i := 5) (own := [("_law_low", 6), ("_law_high", 7)]) (g := gTup K 2 (gCons (gName 6) (gCons (gName 7) gNil))) (tt := tYes) rfl nd rfl rfl (sw_true rfl rfl rfl (by decide +kernel)) (pi_tup (pe_op op_catA (pv 3) (pe_tup (pa_cons (pv 4) pa_nil))))
            (blkOk_by (own := [("_law_low", 6), ("_law_high", 7)]) (N := NPage) (sc := defScope sLawPage) (by decide +kernel)) (fun _ _ _ _ _ => pgT K rfl (pgs_cons (pg_name (i := 6) nd rfl (Or.inl rfl)) (pgs_cons (pg_name (i := 7) nd rfl (Or.inl rfl)) pgs_nil))) (fun _ _ _ _ _ => pts_nil)
            (fun _ _ _ _ _ => pe_op op_add_str (pe_op op_add_str (pe_callTy call_str_int (by rfl) B.str (by decide +kernel) (pa_cons (pv 6) pa_nil)) pe_str) (pe_callTy call_str_int (by rfl) B.str (by decide +kernel) (pa_cons (pv 7) pa_nil))))
        (pss_one (ps_expr (pe_bm PySem.F.plainAttrs_list PySem.F.slot_list_append PySem.F.type_list_append mt_append (pv 1) (pa_cons (pe_join pe_str (pe_op op_cat (pe_lst (pa_cons pe_str (pa_cons (pv 2) pa_nil))) (pv 5))) pa_nil))))))
      (pss_one (ps_ret (pe_join pe_str (pv 1)))))), ?_⟩
    obtain ⟨c, u, r, rfl, hc, du, dr⟩ := case_at hd
    obtain ⟨u', xs, eu, h1, h2, _⟩ := tup_len du
    cases eu
    obtain ⟨rfl, hlen⟩ := strs_of h2
    have n3 := hN.hi
    have nl := names_len ns (folk_names hN)
    refine ⟨⟨_, rfl⟩, by show 1 ≤ sizeLine; decide, fun p1 hp1 => ?_⟩
    have s1 := Same.new (o := .lst [.str ("unknowns" : Str)]) hp1
    refine ⟨_, rfl, c, _, 0, _, rfl, rfl, same_sqt s1 hc, atI_nat (j := 0) rfl, u, _, rfl, .inr (same_sqt s1 h1), fun p2 hp2 => ?_⟩
    have s2 := Same.new (o := .lst (ns.map V.str)) hp2
    refine ⟨p1, p2, [.str ("unknowns" : Str)], ns.map V.str, rfl, rfl, s2 _ _ upd_same, upd_same, ?_, fun p3 hp3 => ?_⟩
    · rw [List.length_map]
      exact Nat.le_trans (show 1 + ns.length ≤ 100 by omega) (by decide)
    have s3 := Same.new (o := .lst ([.str ("unknowns" : Str)] ++ ns.map V.str)) hp3
    refine ⟨" ", p3, ("unknowns" : Str) :: ns, rfl, rfl, .inl (SqL.of upd_same), ?_, by show 1 ≤ sizeLine; decide, fun ll hll => ?_⟩
    · simp only [List.map_cons, List.sum_cons, List.length_cons]
      show 8 + _ + (ns.length + 1) * 1 ≤ 16777216
      omega
    have s4 := Same.new (o := .lst [.str (Txt.join " " (("unknowns" : Str) :: ns))]) hll
    have hl0 : H ll = none := by
      cases z : H ll with
      | none => rfl
      | some o => rw [s3 _ _ (s2 _ _ (s1 _ _ z))] at hll; cases hll
    have sG := s1.trans (s2.trans (s3.trans s4))
    clear s1 s2 s3 s4 hp1 hp2 hp3 hll
    obtain ⟨r', ys, er, g1, g2, gl⟩ := tup_len dr
    cases er
    rw [List.length_map] at gl
    have r6 := hL.hi
    refine ⟨_, rfl, c, _, 1, _, rfl, rfl, same_sqt sG hc, atI_nat (j := 1) rfl, r, rfl, ⟨_, same_sqt sG g1⟩, ?_⟩
    refine for_it (walk_tup (K := K) (a := r) (xs := ys)) (fun i σ' H' => i ≤ rs.length ∧ (∃ o2 o3 o4 o5 o6 o7, σ' = [some (.ref c), some (.ref ll), o2, o3, o4, o5, o6, o7]) ∧ Same H H' ∧ H' ll = some (.lst ((Txt.join " " (("unknowns" : Str) :: ns) :: (rs.take i).map lineS).map V.str)))
      ⟨Nat.zero_le _, ⟨_, _, _, _, _, _, rfl⟩, sG, upd_same⟩ (fun i σ' H' hi p => same_sqt p.2.2.1 g1) ?_ ?_
    · rintro i x _ H1 _ hi ⟨_, ⟨o2, o3, o4, o5, o6, o7, rfl⟩, s1, b1⟩ ⟨rfl, hx⟩
      have hi2 : i < rs.length := by rw [← gl]; exact hi
      obtain ⟨d, hdi, hdq⟩ := (g2.same s1).get hx
      rw [List.getElem?_map, List.getElem?_eq_getElem hi2] at hdi
      cases hdi
      have hok := hL.ok _ (List.getElem_mem hi2)
      have hnm := (name_parts (row_name hok).1).2.1
      have hp3 := (row_name hok).2
      have hin := row_in hok
      generalize hR : rs[i] = R at hdq hok hnm hp3 hin
      obtain ⟨a, v2, v3, rfl, ha, d2, d3, _⟩ := row_at hdq
      obtain ⟨a2, xs2, rfl, k1, k2, kl⟩ := tup_len d2
      rw [List.length_map] at kl
      refine ⟨a, _, rfl, ha, rfl, _, _, rfl, _, _, rfl, _, _, rfl, rfl, ?_⟩
      refine ⟨_, rfl, _, rfl, by show 1 ≤ sizeLine; decide, fun t ht => ?_⟩
      have s2 := Same.new (o := .tup [v3]) ht
      have hxl : xs2.length = ns.length := by rw [kl, hp3]
      refine ⟨a2, t, xs2, [v3], rfl, rfl, same_sqt s2 k1, SqT.of upd_same, ?_, fun z => ?_, fun _ z => (by cases z), fun _ _ tt htt => ?_⟩
      · rw [hxl]
        exact Nat.le_trans (show ns.length + 1 ≤ 100 by omega) (by decide)
      · rw [z] at hxl
        have := hN.lo
        simp at hxl
        omega
      have s3 := Same.new (o := .tup (xs2 ++ [v3])) htt
      have hall := (k2.app (.cons d3 .nil) : DqAll K _ (xs2 ++ [v3]) (R.parts.map strD ++ [strD R.bd])).same (s2.trans s3)
      rw [show R.parts.map strD ++ [strD R.bd] = (R.parts ++ [R.bd]).map strD by rw [List.map_append]; rfl] at hall
      have hpl : (R.parts ++ [R.bd]).length = (xs2 ++ [v3]).length := by rw [List.length_append, List.length_append, kl]; rfl
      have hpl4 : (R.parts ++ [R.bd]).length ≤ 4 := by rw [List.length_append, hp3]; show ns.length + 1 ≤ 4; omega
      refine ⟨tt, rfl, ⟨_, SqT.of upd_same⟩, fun D hD => ?_⟩
      refine lc_it (walk_tup (K := K) (a := tt) (xs := xs2 ++ [v3])) (fun k H' => Same _ H' ∧ H' D = some (.lst ((((R.parts ++ [R.bd]).take k).map pairS).map V.str))) ⟨Same.new hD, upd_same⟩ (fun k H' hk p => same_sqt p.1 (SqT.of upd_same)) ?_ ?_
      · rintro k y H5 _ hk ⟨s5, b5⟩ ⟨rfl, hy⟩
        obtain ⟨d, hdk, hdy⟩ := hall.get hy
        have hk2 : k < (R.parts ++ [R.bd]).length := by rw [hpl]; exact hk
        rw [List.getElem?_map, List.getElem?_eq_getElem hk2] at hdk
        cases hdk
        have hpin := hin _ (List.getElem_mem hk2)
        generalize hpp : (R.parts ++ [R.bd])[k] = pp at hdy hpin
        obtain ⟨b, zs, rfl, m1, m2, _⟩ := tup_len hdy
        cases m2 with
        | @cons w1 _ _ _ i1 t1 =>
          cases t1 with
          | @cons w2 _ _ _ i2 t2 =>
            cases t2
            cases i1
            cases i2
            have l1 := intS_len hpin.1
            have l2 := intS_len hpin.2
            refine ⟨b, _, rfl, same_sqt s5 m1, rfl, _, _, rfl, _, _, rfl, rfl, rfl, rdYes ?_⟩
            refine ⟨_, rfl, _, rfl, hpin.1, _, _, rfl, rfl, ?_, _, rfl, _, rfl, hpin.2, _, _, rfl, rfl, ?_, _, b5, ?_, fun u o e => ?_, ?_⟩
            · show (intS pp.1).length + 1 ≤ sizeLine
              exact Nat.le_trans (show _ ≤ 10000 by omega) (by decide)
            · show (intS pp.1 ++ " ").length + (intS pp.2).length ≤ sizeLine
              rw [cat_len]
              show (intS pp.1).length + 1 + (intS pp.2).length ≤ sizeLine
              exact Nat.le_trans (show _ ≤ 10000 by omega) (by decide)
            · rw [List.length_map, List.length_map, List.length_take]
              exact Nat.lt_of_le_of_lt (Nat.min_le_right ..) (Nat.lt_of_le_of_lt hpl4 (by decide))
            · rw [upd_ne (ne_of_none e hD)]
              exact s5 _ _ e
            · rw [upd_same]
              have et : (R.parts ++ [R.bd]).take (k + 1) = (R.parts ++ [R.bd]).take k ++ [pp] := by
                rw [List.take_succ, List.getElem?_eq_getElem hk2, hpp]
                rfl
              rw [et, List.map_append, List.map_append]
              rfl
      · rintro H5 ⟨s5, b5⟩
        rw [← hpl, List.take_length] at b5
        have s25 := s2.trans (s3.trans s5)
        refine ⟨_, rfl, .inl ⟨rfl, _, SqL.of (s25 _ _ b1)⟩, ⟨_, rfl⟩, _, rfl, by show 2 ≤ sizeLine; decide, fun q1 hq1 => ?_⟩
        have s6 := Same.new (o := .lst [.str ("row" : Str), .str R.name]) hq1
        refine ⟨_, rfl, q1, D, _, _, rfl, rfl, upd_same, s6 _ _ b5, ?_, fun q2 hq2 => ?_⟩
        · rw [List.length_map, List.length_map]
          exact Nat.le_trans (show 2 + _ ≤ 100 by omega) (by decide)
        have s7 := Same.new (o := .lst ([.str ("row" : Str), .str R.name] ++ ((R.parts ++ [R.bd]).map pairS).map V.str)) hq2
        refine ⟨" ", q2, [("row" : Str), R.name] ++ (R.parts ++ [R.bd]).map pairS, rfl, rfl, .inl (SqL.of upd_same), ?_, ll, _, _, rfl, rfl, (s6.trans s7) _ _ (s25 _ _ b1), ?_, hi2, ⟨_, _, _, _, _, _, rfl⟩, fun u o e => ?_, ?_⟩
        · have pl := pairs_len _ hin
          rw [List.map_append, List.sum_append, List.length_append, List.length_map]
          show 3 + (R.name.length + 0) + _ + (2 + (R.parts ++ [R.bd]).length) * 1 ≤ 16777216
          omega
        · rw [List.length_map, List.length_cons, List.length_map, List.length_take]
          exact Nat.lt_of_le_of_lt (show _ ≤ 100 by omega) (by decide)
        · rw [upd_ne (ne_of_none e hl0)]
          exact (s6.trans s7) _ _ (s25 _ _ (s1 _ _ e))
        · rw [upd_same, line_pairs]
          have et : rs.take (i + 1) = rs.take i ++ [R] := by
            rw [List.take_succ, List.getElem?_eq_getElem hi2, hR]
            rfl
          rw [et, List.map_append]
          simp
    · rintro σ' H1 ⟨_, ⟨o2, o3, o4, o5, o6, o7, rfl⟩, s1, b1⟩
      rw [gl, List.take_length] at b1
      have ll2 := lines_len rs ns.length hL.ok n3
      refine ⟨⟨_, rfl⟩, _, rfl, "\n", ll, _, rfl, rfl, .inl (SqL.of b1), ?_, q H1 s1⟩
      have j1 := join_le " " (("unknowns" : Str) :: ns)
      rw [← TL.join_eq] at j1
      simp only [List.map_cons, List.sum_cons, List.length_cons, List.length_map] at j1 ⊢
      have e8 : Str.length "unknowns" = 8 := rfl
      have e1 : Str.length " " = 1 := rfl
      have e2 : Str.length "\n" = 1 := rfl
      rw [e8, e1] at j1
      rw [e2]
      omega
end
end Ca
set_option Elab.async false
set_option linter.all false
set_option maxRecDepth 100000
set_option maxHeartbeats 4000000
namespace Ca
open PySem L2
/-! ### cases: what is drawn, and what is made of it -/
abbrev Case := List Str × List Rw
def cD (c : Case) : PyData := caseD c.1 c.2
structure COk (c : Case) : Prop where
  f : Folk c.1
  l : Lines c.2 c.1.length
theorem noL_case (c : Case) : noL (cD c) = true := by
  have h1 := noL_folk c.1
  have h2 := noL_rows c.2
  unfold cD caseD
  simp only [noL, noLs, h1, h2]
  rfl
theorem Folk.rev {ns : List Str} (N : Folk ns) : Folk ns.reverse :=
  ⟨by rw [List.length_reverse]; exact N.lo, by rw [List.length_reverse]; exact N.hi, fun x z => N.ok x (List.mem_reverse.mp z), List.pairwise_reverse.mpr (N.nd.imp fun h => h.symm)⟩
theorem Lines.rev {rs : List Rw} {m : Nat} (L : Lines rs m) : Lines rs.reverse m :=
  ⟨by rw [List.length_reverse]; exact L.hi, fun x z => L.ok x (List.mem_reverse.mp z), by rw [List.map_reverse]; exact List.pairwise_reverse.mpr (L.nd.imp fun h => h.symm)⟩
theorem Lines.none (m : Nat) : Lines [] m := ⟨Nat.zero_le _, (fun _ z => nomatch z), List.nodup_nil⟩
theorem DqAll.rev {K : PySem.W.Frag} {H : Hp} : ∀ {vs : List V} {ds : List PyData}, DqAll K H vs ds → DqAll K H vs.reverse ds.reverse
  | _, _, .nil => .nil
  | _, _, .cons a t => by
    rw [List.reverse_cons, List.reverse_cons]
    exact t.rev.app (.cons a .nil)
/-- the four that are made out of the first ones -/
def four (c0 c1 : Case) : List Case := [c0, (c0.1, c0.2.reverse), (c0.1.reverse, c0.2), (c1.1, [])]
theorem four_ok {c0 c1 : Case} (h0 : COk c0) (h1 : COk c1) : ∀ c ∈ four c0 c1, COk c := by
  intro c hc
  unfold four at hc
  simp only [List.mem_cons, List.not_mem_nil, or_false] at hc
  rcases hc with rfl | rfl | rfl | rfl
  · exact h0
  · exact ⟨h0.f, h0.l.rev⟩
  · exact ⟨h0.f.rev, by rw [List.length_reverse]; exact h0.l⟩
  · exact ⟨h1.f, Lines.none _⟩
theorem tup_rev_dq {K : PySem.W.Frag} {H : Hp} {a : Addr} {xs : List V} {ds : List PyData} (h : DqAll K H xs ds) (ha : H a = some (.tup xs.reverse)) : Dq K H (.ref a) (.tuple ds.reverse) := .tup (SqT.of ha) h.rev
def sameC (c d : Case) : Bool := decide (c.1 = d.1) && decide (c.2 = d.2)
theorem eqv_case (c d : Case) : PyData.eqv (cD c) (cD d) = (decide (c.1 = d.1) && decide (c.2 = d.2)) := by
  unfold cD caseD
  simp only [PyData.eqv, PyData.eqvAll]
  rw [eqv_folk, eqv_rows, Bool.and_true]
theorem nodict_case (c : Case) : (cD c).hasDict = false := by
  unfold cD caseD
  simp only [PyData.hasDict, PyData.hasDictAll]
  rw [nodict_folk, nodict_rows]
  rfl
theorem shaped_case {c : Case} (h : COk c) : SeqAt.shaped (cD c) = true := by
  have a := Bool.and_eq_true_iff.mp (show (PyData.canLay0 (folkD c.1) && decide ((folkD c.1).depth ≤ 64)) = true from shaped_folk h.f)
  have b := Bool.and_eq_true_iff.mp (show (PyData.canLay0 (rowsD c.2) && decide ((rowsD c.2).depth ≤ 64)) = true from shaped_rows (lines_names h.l))
  refine Bool.and_eq_true_iff.mpr ⟨?_, decide_eq_true ?_⟩
  · unfold cD caseD
    simp only [PyData.canLay0, PyData.canLayAll0]
    rw [a.1, b.1]
    rfl
  · unfold cD caseD
    have d1 : (folkD c.1).depth ≤ 1 := by
      unfold folkD
      simp only [PyData.depth]
      rw [dep_strs]
      decide
    have d2 : (rowsD c.2).depth ≤ 4 := by
      unfold rowsD
      simp only [PyData.depth]
      have := dep_rows c.2
      omega
    simp only [PyData.depth, PyData.depthAll]
    omega
theorem SysAt.lst {K : PySem.W.Frag} {C D : Addr} {H : Hp} {x : Addr} {ns : List Str} {rs : List Rw} {ys zs : List V} (h : SysAt K C H x ns rs) (hD : H D = some (.lst ys)) : SysAt K C (upd H D (.lst zs)) x ns rs := by
  obtain ⟨h1, h2, dx, u, r, e, du, dr⟩ := h
  have k : Kept D H (upd H D (.lst zs)) := fun b o n e => by rw [upd_ne n]; exact e
  have n : x ≠ D := fun z => by rw [z, hD] at e; cases e
  exact ⟨h1, h2, dx, u, r, k _ _ n e, Dq.but hD k (noL_folk ns) du, Dq.but hD k (noL_rows rs) dr⟩
/-- systems of the cases, one each -/
def Sys (K : PySem.W.Frag) (C : Addr) (H : Hp) (xs : List Addr) (cs : List Case) : Prop := ∀ (k : Nat) (x : Addr) (c : Case), xs[k]? = some x → cs[k]? = some c → SysAt K C H x c.1 c.2
theorem Sys.same {K : PySem.W.Frag} {C : Addr} {H H' : Hp} {xs : List Addr} {cs : List Case} (h : Sys K C H xs cs) (s : Same H H') : Sys K C H' xs cs := fun k x c h1 h2 => (h k x c h1 h2).same s
theorem Sys.lst {K : PySem.W.Frag} {C D : Addr} {H : Hp} {xs : List Addr} {cs : List Case} {ys zs : List V} (h : Sys K C H xs cs) (hD : H D = some (.lst ys)) : Sys K C (upd H D (.lst zs)) xs cs := fun k x c h1 h2 => (h k x c h1 h2).lst hD
theorem Sys.nil {K : PySem.W.Frag} {C : Addr} {H : Hp} {cs : List Case} : Sys K C H [] cs := fun k x c h _ => by cases h
theorem Sys.snoc {K : PySem.W.Frag} {C : Addr} {H : Hp} {xs : List Addr} {cs : List Case} {x : Addr} {c : Case} (h : Sys K C H xs cs) (hc : cs[xs.length]? = some c) (hx : SysAt K C H x c.1 c.2) : Sys K C H (xs ++ [x]) cs := fun k y d h1 h2 => by
  by_cases g : k < xs.length
  · rw [List.getElem?_append_left g] at h1
    exact h k y d h1 h2
  · rw [List.getElem?_append_right (Nat.le_of_not_lt g)] at h1
    have e0 : k - xs.length = 0 := by
      cases z : k - xs.length with
      | zero => rfl
      | succ n => rw [z] at h1; cases h1
    rw [e0] at h1
    cases h1
    have : k = xs.length := by omega
    rw [this, hc] at h2
    cases h2
    exact hx
/-- a new instance's two objects -/
theorem made_same {H H' : Hp} {x dx C : Addr} (hx : H x = none) (hdx : H dx = none) (k : Kept x (upd (upd H dx (.own x)) x (.ins C dx [])) H') : Same H H' := fun b o e => by
  have n1 := ne_of_none e hx
  have n2 := ne_of_none e hdx
  exact k b o n1 (by rw [upd_ne n1, upd_ne n2]; exact e)
theorem made_new {H : Hp} {x dx C : Addr} (hx : H x = none) (hdx : H dx = none) : Same H (upd (upd H dx (.own x)) x (.ins C dx [])) := fun b o e => by
  rw [upd_ne (ne_of_none e hx), upd_ne (ne_of_none e hdx)]
  exact e
theorem ty_same {K : PySem.W.Frag} {H H' : Hp} {v : V} {t : Value} (s : Same H H') (h : Ty K H v t) : Ty K H' v t := by
  cases h with
  | non => exact .non
  | bl b => exact .bl b
  | int i => exact .int i
  | str x => exact .str x
  | lst e => exact .lst (s.seq e)
  | tup e => exact .tup (same_sqt s e)
  | dic e => exact .dic (s _ _ e)
  | ins e => exact .ins (s _ _ e)
end Ca
set_option Elab.async false
set_option linter.all false
set_option maxRecDepth 100000
set_option maxHeartbeats 4000000
namespace Ca
open PySem PySem.Calls PyProof.Rows
open Builtin Builtin.Slice
theorem rev_adjust (n : Nat) : sliceAdjust none none (-1) (n : Int) = ((n : Int) - 1, -1) := by
  unfold sliceAdjust
  simp
theorem rev_places (n : Nat) : slicePlaces ((n : Int) - 1) (-1) (-1) = n := by
  unfold slicePlaces
  by_cases h : n = 0
  · subst h; simp
  · simp
    omega
theorem rev_pick (xs : Array Value) : ((List.range xs.size).filterMap fun (m : Nat) => xs[(((xs.size : Int) - 1) + (m : Int) * (-1)).toNat]?).toArray = xs.toList.reverse.toArray := by
  congr 1
  have e : ((List.range xs.size).filterMap fun (m : Nat) => xs[(((xs.size : Int) - 1) + (m : Int) * (-1)).toNat]?) = ((List.range xs.size).map fun k => xs.size - 1 - k).filterMap (xs[·]?) := by
    rw [List.filterMap_map]
    congr 1
    funext m
    show xs[_]? = xs[xs.size - 1 - m]?
    congr 1
    omega
  rw [e, PySem.W.krv_range, List.filterMap_reverse, PySem.W.krv_all]
section
variable {prog : Program} {w : World} {A : Around} {E : Value → Shared → Prop} {s : Shared}
theorem tup_rev {t sl : Addr} {items : Array Value} {vs : Value} {Q : Value → Shared → Prop} (hTu : IsTup s.heap t items) (hs : s.heap.IsSliceOf sl .none .none vs) (ps : IsPart vs (some (-1)))
    (h : Q (.ref s.heap.objs.size) { s with heap := s.heap.push { cls := .type "tuple", data := .seq items.toList.reverse.toArray } }) (hsz : items.size ≤ sizeLine) : wpAny (model prog w) A (getItem (.ref t) (.ref sl)) Q E s := by
  have hfit : sizeOk (.seq items.toList.reverse.toArray) := by
    show items.toList.reverse.toArray.size ≤ sizeLine
    rw [List.size_toArray, List.length_reverse, Array.length_toList]
    exact hsz
  obtain ⟨os, hob, hcl, hda⟩ := id hs
  have hTy : s.TypeIs (.ref sl) "slice" := ⟨os, hob, hcl⟩
  unfold getItem
  try with_reducible refine wpAny_holding ?_
  first | refine wpAny_bind (wpAny_pure ?_) | skip
  refine wpAny_bind (wpAny_sequenceKey hTu.typeIs (by decide) ?_)
  refine wpAny_bind (wpAny_callSpecial?_slot (name := Str.ofString "__getitem__") hTu.typeIs PyProof.Rows.slot_tuple_getitem
    (wpAny_call_entry PyProof.Rows.slot_tuple_getitem hTu.typeIs entry_tuple_getitem ?_ (args_tuple_getitem _ _)))
  show wpAny _ _ (Builtin.Tuple.tupleItemsOf (.ref t) >>= _) _ _ s
  refine wpAny_bind (tupleItemsOf_ hTu ?_)
  refine wpAny_bind (wpAny_typeOf hTy ?_)
  rw [if_pos (by decide)]
  refine wpAny_bind ?_
  · unfold Builtin.Slice.sliceApplied Builtin.Slice.sliceFields
    refine wpAny_bind (wpAny_bind (wpAny_field hob hda (x := .none) rfl (wpAny_bind (wpAny_field hob hda (x := .none) rfl (wpAny_bind (wpAny_field hob hda (x := vs) rfl (wpAny_pure ?_)))))))
    refine wpAny_bind (HT.slicePart_ ps ?_)
    show wpAny _ _ (if ((-1 : Int) == 0) = true then _ else _) _ _ s
    rw [if_neg (by decide)]
    refine wpAny_bind (slicePart_none (wpAny_bind (slicePart_none (wpAny_bind (wpAny_pure ?_)))))
    show wpAny _ _ (match Builtin.Slice.sliceAdjust none none (-1) (items.size : Int) with | (lo, hi) => pure (lo, (-1 : Int), Builtin.Slice.slicePlaces lo hi (-1))) _ _ s
    rw [rev_adjust]
    show wpAny _ _ (pure ((items.size : Int) - 1, (-1 : Int), Builtin.Slice.slicePlaces ((items.size : Int) - 1) (-1) (-1))) _ _ s
    rw [rev_places]
    refine wpAny_pure ?_
    have hno : ¬ ((((items.size : Int) - 1 == 0) && ((-1 : Int) == 1) && (items.size == items.size)) = true) := by simp
    show wpAny _ _ (if (((items.size : Int) - 1 == 0) && ((-1 : Int) == 1) && (items.size == items.size)) = true then _ else _) _ _ s
    rw [if_neg hno, rev_pick]
    first
      | exact wpAny_bind (m := Builtin.Tuple.tupleExact _) (wpAny_newObj_type (wpAny_pure ⟨_, rfl, wpAny_pure h⟩) hfit)
      | exact wpAny_bind (m := Builtin.Tuple.tupleExact _) (wpAny_newObj_type (wpAny_bind (wpAny_pure (wpAny_pure ⟨_, rfl, wpAny_pure h⟩))) hfit)
end
end Ca
namespace Ca
open PySem PySem.Spec PyProof.Rows L2
section
variable {X : Cx}
def tRevT (K : PySem.W.Frag) (te : TE) : TE := fun σ H Q => te σ H fun x H1 => ∃ a xs, x = .ref a ∧ SqT K H1 a xs ∧ ∀ p, H1 p = none → Q (.ref p) (upd H1 p (.tup xs.reverse))
theorem pe_revT {e : Expr} {te : TE} {k : Nat} {p1 p2 p3 pos : Pos} (he : PE X e te) : PE X (.Subscript e (.Slice none none (some (.UnaryOp .USub (.Constant (.int 1) k p1) p2)) p3) pos) (tRevT X.K te) := by
  refine ⟨fun pins s σ H Q I h => ?_⟩
  refine Subscript_ (thn (he.run pins s σ H _ I h) fun v m1 ⟨x, H1, J1, r1, w1⟩ => ?_)
  obtain ⟨a, xs, eqx, hx, q⟩ := w1
  subst eqx
  cases r1
  have hmin : PO X (some (.UnaryOp .USub (.Constant (.int 1) k p1) p2)) (tPart (tUn (rU fun i => .int (-i)) (tC (.int 1)))) := po_some (pe_un un_neg pe_int)
  refine wpAny_Slice (thn (po_none.run pins m1 σ H1 (fun o H2 => o = none ∧ H2 = H1) J1 ⟨rfl, rfl⟩) fun vl m2 ⟨l, H2, J2, pl, el, e2⟩ => ?_)
  subst el e2
  refine thn (po_none.run pins m2 σ H2 (fun o H3 => o = none ∧ H3 = H2) J2 ⟨rfl, rfl⟩) fun vu m3 ⟨u, H3, J3, pu, eu, e3⟩ => ?_
  subst eu e3
  refine thn (hmin.run pins m3 σ H3 (fun o H4 => o = some (-1) ∧ H4 = H3) J3 ⟨1, rfl, -1, rfl, rfl, rfl⟩) fun vs m4 ⟨o, H4, J4, ps, eo, e4⟩ => ?_
  subst eo e4
  cases pl
  cases pu
  have I5 : Inv X pins σ H4 { m4 with heap := m4.heap.push { cls := .type "slice", data := .fields #[.none, .none, vs] } } := J4.kept (t' := m4.toks) fun b ob q => Heap.get?_push_of_some _ q
  obtain ⟨its, r, hTu, hz⟩ := I5.tuple hx
  have hlen := r.length
  show wpAny (model X.prog X.w) X.A (subscriptTail e (.Slice none none (some (.UnaryOp .USub (.Constant (.int 1) k p1) p2)) p3) (.ref a) (.ref m4.heap.objs.size)) (EP X pins σ Q) X.xe { m4 with heap := m4.heap.push { cls := .type "slice", data := .fields #[.none, .none, vs] } }
  refine tail_any (ops := [.ref a, .ref m4.heap.objs.size]) hTu.typeIs (PyProof.Rows.slot_tuple_getitem.lookup) ?_ (by with_unfolding_all rfl)
  refine tup_rev hTu (Heap.IsSliceOf.new _ .none .none vs) ps ?_ (by rw [List.size_toArray]; omega)
  refine ⟨.ref _, _, I5.laid (t' := m4.toks) (o := .tup xs.reverse) (fun b ob q => Heap.get?_push_of_some _ q) (Nat.le_refl _) ?_, rfl, q _ (I5.hok.fresh (Nat.le_refl _))⟩
  exact ⟨by rw [List.length_reverse]; exact hz, _, r.reverse, IsTup.new _ _⟩
end
end Ca
set_option Elab.async false
set_option linter.all false
set_option maxRecDepth 100000
set_option maxHeartbeats 4000000
namespace Ca
open PySem L2
section
variable {X : Cx}
theorem reprK (K : PySem.W.Frag) (hgd : X.A.guards = some []) (hu : X.A.units + 200 < cLine) (h : X.K = K := by rfl) : CallR X (.builtin "repr") (rRepr K) := h ▸ call_repr hgd hu
end
/-- a value whose repr comes through -/
def Good (K : PySem.W.Frag) (H : Hp) (v : V) (d : PyData) : Prop := Rp K H v d ∧ d.showable = true ∧ d.depth ≤ 64 ∧ d.shown.length ≤ sizeLine
theorem rd_rv {K : PySem.W.Frag} {H : Hp} {v : V} {d : PyData} {Q : VK} (g : Good K H v d) (q : Q (.str d.shown) H) : rRepr K [v] H Q := by
  obtain ⟨r, h1, h2, h3⟩ := g
  exact ⟨v, d, rfl, r, h1, h2, h3, q⟩
theorem rd_cb1 {K : PySem.W.Frag} {te : TE} {σ : L2.St} {H : Hp} {Q : VK} (h : te σ H fun x H1 => rRepr K [x] H1 Q) : tCB (rRepr K) (tCons te tNil) σ H Q := h
theorem dpB {K : PySem.W.Frag} {H : Hp} : ∀ bs : List Bool, DpAll K H (bs.map V.bl) (bs.map PyData.bool)
  | [] => .nil
  | b :: bs => .cons (.bl b) (dpB bs)
theorem layB : ∀ bs : List Bool, PyData.canLayAll0 (bs.map PyData.bool) = true
  | [] => rfl
  | b :: bs => by
    simp only [List.map_cons, PyData.canLayAll0, PyData.canLay0]
    rw [layB bs]
    rfl
theorem depB : ∀ bs : List Bool, PyData.depthAll (bs.map PyData.bool) = 0
  | [] => rfl
  | b :: bs => by
    simp only [List.map_cons, PyData.depthAll, PyData.depth]
    rw [depB bs]
    rfl
theorem shapedB (bs : List Bool) : SeqAt.shaped (.list (bs.map PyData.bool)) = true := by
  refine Bool.and_eq_true_iff.mpr ⟨by simp only [PyData.canLay0]; exact layB bs, decide_eq_true ?_⟩
  simp only [PyData.depth]
  rw [depB]
  decide
/-- two lists of the same truth values are not unequal -/
theorem rd_sameB {K : PySem.W.Frag} {H : Hp} {a b : Addr} {e : Nat → Bool} {n : Nat} {Q : VK} (ha : H a = some (.lst ((List.range n).map fun i => .bl (e i)))) (hb : H b = some (.lst ((List.range n).map fun i => .bl (e i)))) (q : Q (.bl false) H) : rNeD K (.ref a) (.ref b) H Q := by
  have er : ((List.range n).map fun i => V.bl (e i)) = ((List.range n).map e).map V.bl := by rw [List.map_map]; rfl
  rw [er] at ha hb
  have lay : (PyData.list (((List.range n).map e).map PyData.bool)).canLay0 = true := by simp only [PyData.canLay0]; exact layB _
  exact ⟨_, _, .lst (SqL.of ha) (dpB _), .lst (SqL.of hb) (dpB _), shapedB _, shapedB _, by rw [SeqAt.eqv_refl _ lay]; exact q⟩
def toldD (c : Case) : PyData := .list [folkD c.1, rowsD c.2, namesD c.2, .int c.2.length, .str (pageS c.1 c.2), .bool true]
end Ca
set_option Elab.async false
set_option linter.all false
set_option maxRecDepth 100000
set_option maxHeartbeats 4000000
namespace Ca
open PySem L2
/-! ### the size of what is told -/
def inT (p : Int × Int) : Prop := -10000 ≤ p.1 ∧ p.1 ≤ p.2 ∧ p.2 ≤ 10000
theorem row_T {r : Rw} {m : Nat} (h : isRowD (rowD r) m = true) : ∀ p ∈ r.parts ++ [r.bd], inT p := by
  obtain ⟨_, h2⟩ := Bool.and_eq_true_iff.mp (show (nameS r.name && (isTupN (.tuple (r.parts.map strD)) m && ((partsOf (.tuple (r.parts.map strD)) ++ [strD r.bd]).all isStretchD))) = true from h)
  obtain ⟨_, h4⟩ := Bool.and_eq_true_iff.mp h2
  intro p hp
  refine str_ok (List.all_eq_true.mp h4 (strD p) ?_)
  show strD p ∈ r.parts.map strD ++ [strD r.bd]
  rw [show r.parts.map strD ++ [strD r.bd] = (r.parts ++ [r.bd]).map strD by rw [List.map_append]; rfl]
  exact List.mem_map_of_mem hp
theorem int_show {i : Int} (h1 : -10000 ≤ i) (h2 : i ≤ 10000) : (PyData.int i).showable = true := by
  simp only [PyData.showable]
  exact decide_eq_true (log_small h1 h2)
theorem int_short {i : Int} (h1 : -10000 ≤ i) (h2 : i ≤ 10000) : (PyData.int i).intsShort 13 = true := by
  simp only [PyData.intsShort, PyData.shown]
  refine decide_eq_true ?_
  rw [PySem.ofString_length]
  have := PySem.int_text_length_le10 (a := i) (k := 5) (by decide) (by omega)
  omega
theorem int_weight {i : Int} (h1 : -10000 ≤ i) (h2 : i ≤ 10000) : (PyData.int i).weight ≤ 14 := by
  simp only [PyData.weight]
  split
  · omega
  · rename_i g
    have : i.natAbs < 2 ^ 14 := by show i.natAbs < 16384; omega
    have z : i.natAbs ≠ 0 := fun e => by
      have : i = 0 := by omega
      rw [this] at g
      exact g rfl
    have := (Nat.log2_lt z).mpr this
    omega
theorem pair_all {p : Int × Int} (h : inT p) : (strD p).showable = true ∧ (strD p).intsShort 13 = true ∧ (strD p).weight ≤ 30 := by
  obtain ⟨h1, h2, h3⟩ := h
  have a1 := int_show (i := p.1) h1 (by omega)
  have a2 := int_show (i := p.2) (by omega) h3
  have b1 := int_short (i := p.1) h1 (by omega)
  have b2 := int_short (i := p.2) (by omega) h3
  have c1 := int_weight (i := p.1) h1 (by omega)
  have c2 := int_weight (i := p.2) (by omega) h3
  unfold strD
  refine ⟨?_, ?_, ?_⟩
  · rw [PyData.showable, PyData.showableAll, PyData.showableAll, PyData.showableAll, a1, a2]
    rfl
  · rw [PyData.intsShort, PyData.intsShortAll, PyData.intsShortAll, PyData.intsShortAll, b1, b2]
    rfl
  · rw [PyData.weight, PyData.weightAll, PyData.weightAll, PyData.weightAll]
    omega
theorem pairs_all : ∀ ps : List (Int × Int), (∀ p ∈ ps, inT p) → PyData.showableAll (ps.map strD) = true ∧ PyData.intsShortAll 13 (ps.map strD) = true ∧ PyData.weightAll (ps.map strD) ≤ 31 * ps.length
  | [], _ => ⟨rfl, rfl, Nat.le_refl _⟩
  | p :: ps, h => by
    obtain ⟨a, b, c⟩ := pairs_all ps fun x z => h x (List.mem_cons_of_mem _ z)
    obtain ⟨d, e, f⟩ := pair_all (h p (List.mem_cons_self ..))
    refine ⟨?_, ?_, ?_⟩
    · rw [List.map_cons, PyData.showableAll, d, a]; rfl
    · rw [List.map_cons, PyData.intsShortAll, e, b]; rfl
    · rw [List.map_cons, PyData.weightAll, List.length_cons]; omega
theorem row_all {r : Rw} {m : Nat} (ok : isRowD (rowD r) m = true) (hm : m ≤ 3) : (rowD r).showable = true ∧ (rowD r).intsShort 13 = true ∧ (rowD r).weight ≤ 140 := by
  have t := row_T ok
  obtain ⟨a, b, c⟩ := pairs_all r.parts fun p z => t p (List.mem_append_left _ z)
  obtain ⟨d, e, f⟩ := pair_all (t r.bd (List.mem_append_right _ (List.mem_singleton.mpr rfl)))
  have hp := (row_name ok).2
  have hn := (name_parts (row_name ok).1).2.1
  unfold rowD
  refine ⟨?_, ?_, ?_⟩
  · rw [PyData.showable, PyData.showableAll, PyData.showableAll, PyData.showableAll, PyData.showableAll, PyData.showable, PyData.showable, a, d]; rfl
  · rw [PyData.intsShort, PyData.intsShortAll, PyData.intsShortAll, PyData.intsShortAll, PyData.intsShortAll, PyData.intsShort, PyData.intsShort, b, e]; rfl
  · rw [PyData.weight, PyData.weightAll, PyData.weightAll, PyData.weightAll, PyData.weightAll, PyData.weight, PyData.weight]
    have hn' : r.name.cps.size ≤ 8 := hn
    omega
theorem rows_all : ∀ (rs : List Rw) (m : Nat), (∀ r ∈ rs, isRowD (rowD r) m = true) → m ≤ 3 → PyData.showableAll (rs.map rowD) = true ∧ PyData.intsShortAll 13 (rs.map rowD) = true ∧ PyData.weightAll (rs.map rowD) ≤ 141 * rs.length
  | [], _, _, _ => ⟨rfl, rfl, Nat.le_refl _⟩
  | r :: rs, m, h, hm => by
    obtain ⟨a, b, c⟩ := rows_all rs m (fun x z => h x (List.mem_cons_of_mem _ z)) hm
    obtain ⟨d, e, f⟩ := row_all (h r (List.mem_cons_self ..)) hm
    refine ⟨?_, ?_, ?_⟩
    · rw [List.map_cons, PyData.showableAll, d, a]; rfl
    · rw [List.map_cons, PyData.intsShortAll, e, b]; rfl
    · rw [List.map_cons, PyData.weightAll, List.length_cons]; omega
theorem strs_all : ∀ ns : List Str, (∀ x ∈ ns, nameS x = true) → PyData.showableAll (ns.map .str) = true ∧ PyData.intsShortAll 13 (ns.map .str) = true ∧ PyData.weightAll (ns.map .str) ≤ 9 * ns.length
  | [], _ => ⟨rfl, rfl, Nat.le_refl _⟩
  | n :: ns, h => by
    obtain ⟨a, b, c⟩ := strs_all ns fun x z => h x (List.mem_cons_of_mem _ z)
    have hn := (name_parts (h n (List.mem_cons_self ..))).2.1
    have hn' : n.cps.size ≤ 8 := hn
    refine ⟨?_, ?_, ?_⟩
    · rw [List.map_cons, PyData.showableAll, PyData.showable, a]; rfl
    · rw [List.map_cons, PyData.intsShortAll, PyData.intsShort, b]; rfl
    · rw [List.map_cons, PyData.weightAll, PyData.weight, List.length_cons]; omega
/-! ### signs of the page -/
theorem ok_cat {x y : Str} (h1 : PyData.strOk x = true) (h2 : PyData.strOk y = true) : PyData.strOk (x ++ y) = true := by
  unfold PyData.strOk at *
  show (x.cps ++ y.cps).all _ = true
  rw [Array.all_append, h1, h2]
  rfl
theorem ok_join {y : Str} (hy : PyData.strOk y = true) : ∀ ps : List Str, (∀ p ∈ ps, PyData.strOk p = true) → PyData.strOk (Str.join y ps) = true
  | [], _ => by show PyData.strOk "" = true; decide +kernel
  | [p], h => h p (List.mem_cons_self ..)
  | p :: z :: r, h => ok_cat (ok_cat (h p (List.mem_cons_self ..)) hy) (ok_join hy (z :: r) fun x q => h x (List.mem_cons_of_mem _ q))
theorem ok_int (i : Int) : PyData.strOk (intS i) = true := by
  unfold PyData.strOk intS
  rw [← Array.all_toList, List.all_eq_true]
  intro c hc
  have hc' : c ∈ (Str.ofString (toString i)).cps.toList := hc
  rw [PyProof.Rows.signs_ofString] at hc'
  obtain ⟨d, _, rfl⟩ := List.mem_map.mp hc'
  refine decide_eq_true ?_
  have v := d.valid
  show d.val.toNat < 0x110000
  rcases v with v | ⟨_, v⟩
  · have : d.val.toNat < 0xd800 := v
    omega
  · exact v
theorem ok_name {x : Str} (h : nameS x = true) : PyData.strOk x = true := strOk_of (name_parts h).2.2
theorem ok_lineS {r : Rw} (h : nameS r.name = true) : PyData.strOk (lineS r) = true := by
  unfold lineS
  rw [TL.join_eq]
  refine ok_join (by decide +kernel) _ fun p hp => ?_
  rcases List.mem_append.mp hp with z | z
  · rcases List.mem_cons.mp z with rfl | z
    · decide +kernel
    · rw [List.mem_singleton.mp z]
      exact ok_name h
  · unfold wordsOf at z
    obtain ⟨q, _, z⟩ := List.mem_flatMap.mp z
    rcases List.mem_cons.mp z with rfl | z
    · exact ok_int _
    · rw [List.mem_singleton.mp z]
      exact ok_int _
theorem ok_pageS {c : Case} (ok : COk c) : PyData.strOk (pageS c.1 c.2) = true := by
  unfold pageS
  rw [TL.join_eq]
  refine ok_join (by decide +kernel) _ fun p hp => ?_
  rcases List.mem_cons.mp hp with rfl | z
  · rw [TL.join_eq]
    refine ok_join (by decide +kernel) _ fun p hp => ?_
    rcases List.mem_cons.mp hp with rfl | z
    · decide +kernel
    · exact ok_name (folk_names ok.f p z)
  · obtain ⟨r, hr, rfl⟩ := List.mem_map.mp z
    exact ok_lineS (lines_names ok.l r hr)
theorem page_len {c : Case} (ok : COk c) : (pageS c.1 c.2).length ≤ 100000 := by
  have n3 := ok.f.hi
  have r6 := ok.l.hi
  have nl := names_len c.1 (folk_names ok.f)
  have ll := lines_len c.2 c.1.length ok.l.ok n3
  have j1 := join_le " " (("unknowns" : Str) :: c.1)
  rw [← TL.join_eq] at j1
  unfold pageS
  rw [TL.join_eq]
  refine Nat.le_trans (join_le _ _) ?_
  simp only [List.map_cons, List.sum_cons, List.length_cons, List.length_map] at j1 ⊢
  have e8 : Str.length "unknowns" = 8 := rfl
  have e1 : Str.length " " = 1 := rfl
  have e2 : Str.length "\n" = 1 := rfl
  rw [e8, e1] at j1
  rw [e2]
  omega
theorem good_told {K : PySem.W.Frag} {H : Hp} {p : Addr} {tu tr nm : V} {c : Case} (ok : COk c) (h : H p = some (.lst [tu, tr, nm, .int c.2.length, .str (pageS c.1 c.2), .bl true])) (h1 : Dq K H tu (folkD c.1)) (h2 : Dq K H tr (rowsD c.2)) (h3 : Dq K H nm (namesD c.2)) :
    Good K H (.ref p) (toldD c) := by
  have n3 := ok.f.hi
  have r6 := ok.l.hi
  have nmOk : ∀ x ∈ c.2.map Rw.name, nameS x = true := fun x z => by
    obtain ⟨r, hr, rfl⟩ := List.mem_map.mp z
    exact lines_names ok.l r hr
  obtain ⟨a1, b1, w1⟩ := strs_all c.1 (folk_names ok.f)
  obtain ⟨a2, b2, w2⟩ := rows_all c.2 c.1.length ok.l.ok n3
  obtain ⟨a3, b3, w3⟩ := strs_all (c.2.map Rw.name) nmOk
  rw [List.length_map] at w3
  have i1 := int_show (i := (c.2.length : Int)) (by omega) (by omega)
  have i2 := int_short (i := (c.2.length : Int)) (by omega) (by omega)
  have i3 := int_weight (i := (c.2.length : Int)) (by omega) (by omega)
  have pl := page_len ok
  have pl' : (pageS c.1 c.2).cps.size ≤ 100000 := pl
  have sh : (toldD c).showable = true := by
    unfold toldD folkD rowsD namesD
    simp only [PyData.showable, PyData.showableAll, a1, a2, a3, Bool.true_and, Bool.and_true]
    exact decide_eq_true (log_small (by omega) (by omega))
  have dep : (toldD c).depth ≤ 5 := by
    unfold toldD folkD rowsD namesD
    have := dep_rows c.2
    simp only [PyData.depth, PyData.depthAll, dep_strs]
    omega
  have lay : (toldD c).canLay0 = true := by
    unfold toldD folkD rowsD namesD
    simp only [PyData.canLay0, PyData.canLayAll0]
    rw [lay_strs c.1 (folk_names ok.f), lay_rows c.2 (lines_names ok.l), lay_strs _ nmOk, ok_pageS ok]
    rfl
  have wt : (toldD c).weight ≤ 2 ^ 20 := by
    have f1 : (folkD c.1).weight ≤ 9 * c.1.length := by unfold folkD; rw [PyData.weight]; exact w1
    have f2 : (rowsD c.2).weight ≤ 141 * c.2.length := by unfold rowsD; rw [PyData.weight]; exact w2
    have f3 : (namesD c.2).weight ≤ 9 * c.2.length := by unfold namesD; rw [PyData.weight]; exact w3
    have f4 : (PyData.str (pageS c.1 c.2)).weight ≤ 100000 := by rw [PyData.weight]; exact pl'
    have f5 : (PyData.bool true).weight = 0 := by rw [PyData.weight]
    unfold toldD
    rw [PyData.weight, PyData.weightAll, PyData.weightAll, PyData.weightAll, PyData.weightAll, PyData.weightAll, PyData.weightAll, PyData.weightAll, f5]
    show _ ≤ 1048576
    omega
  have sz : (toldD c).shown.length ≤ 15728653 := by
    refine PyProof.Rows.shown_le13 ?_ ?_
    · show ((toldD c).canLay0 && decide ((toldD c).depth ≤ 64) && decide ((toldD c).weight ≤ 2 ^ 20)) = true
      rw [lay, decide_eq_true (show (toldD c).depth ≤ 64 by omega), decide_eq_true wt]
      rfl
    · have g : (PyData.int (c.2.length : Int)).intsShort 13 = true := i2
      have e1 : (folkD c.1).intsShort 13 = true := by unfold folkD; rw [PyData.intsShort]; exact b1
      have e2 : (rowsD c.2).intsShort 13 = true := by unfold rowsD; rw [PyData.intsShort]; exact b2
      have e3 : (namesD c.2).intsShort 13 = true := by unfold namesD; rw [PyData.intsShort]; exact b3
      have e4 : (PyData.str (pageS c.1 c.2)).intsShort 13 = true := by rw [PyData.intsShort]
      have e5 : (PyData.bool true).intsShort 13 = true := by rw [PyData.intsShort]
      unfold toldD
      rw [PyData.intsShort, PyData.intsShortAll, PyData.intsShortAll, PyData.intsShortAll, PyData.intsShortAll, PyData.intsShortAll, PyData.intsShortAll, PyData.intsShortAll, e1, e2, e3, g, e4, e5]
      rfl
  refine ⟨.dat (.lst (SqL.of h) (.cons (dp_of (nodict_folk _) h1) (.cons (dp_of (nodict_rows _) h2) (.cons (dp_of (nodict_folk _) h3) (.cons (.int _) (.cons (.str _) (.cons (.bl _) .nil))))))) ?_, sh, by omega, Nat.le_trans sz (by decide)⟩
  exact Bool.and_eq_true_iff.mpr ⟨lay, decide_eq_true (by omega)⟩
end Ca
set_option Elab.async false
set_option linter.all false
set_option maxRecDepth 100000
set_option maxHeartbeats 8000000
namespace Ca
open PySem L2
section
variable {X : Cx} {k : Nat} {f C : Addr} {fd : FuncData} {ps ks : List Str} {sp : Sp} {x : Str} {p pos : Pos} {kws : List Keyword} {tk : TA} {g : List Value → List Value → List Value} {gV : List V → List V → List V}
theorem pe_makeK0 (M : Mk X.K C f) (F : FnOk X.prog X.w X.K X.mg X.base CX0 k f fd ps sp) (hr : Room (k + 1) X.A) (hg : Gl X x) (hm : X.mg x = some (.ref C)) (hb : KBn X.K fd ps 1 ks g gV) (hkw : PK X kws tk)
    (hall : (backToKw pos (keywordEach kws X.env)).all (·.1.isSome) = true := by rfl) (hks : (backToKw pos (keywordEach kws X.env)).filterMap (·.1) = ks := by rfl) (hdb : (x == ("__debug__" : Str)) = false := by decide)
    (hpl : ((backTo pos (starEach [] X.env)).any (·.1) || (backToKw pos (keywordEach kws X.env)).any (·.1.isNone)) = false := by rfl) :
    PE X (.Call (.Name x p) [] kws pos) (tMakeN C 0 ks.length sp gV E0 tNil tk) := by
  refine ⟨fun pins s σ H Q I h => ?_⟩
  refine wpAny_Call_Name_kw (ld_glob I hg hm ?_ hdb)
  refine PySem.W.callWith_KW0 (h₀ := X.base) I.ok.mod.kin M.kp hall (thn (hkw.run pos pins s σ H _ I h) fun ws s1 ⟨zs, H1, I1, r, l1, l2, q⟩ => ?_) hpl
  rw [hks]
  exact ⟨I1.kIn, run_makeN (n := 0) M F hr hb pass0 I1 .nil r l1 l2 q⟩
theorem eqOK (K : PySem.W.Frag) {k : Nat} (F : FnOk X.prog X.w X.K X.mg X.base CX0 k f fd ps sp) (hr : Room k X.A) (hs : PySem.W.findIn X.K (.ref C) "__eq__" = some (some (.ref f))) (hf : PySem.W.isFn X.K (.ref f) = true) (hb : Binds X.K fd ps []) (h : X.K = K := by rfl) : OpR X (compareOp .Eq) (rEqO K C sp) := h ▸ op_eqO F hr hs hf hb
theorem neOK (K : PySem.W.Frag) {k : Nat} (F : FnOk X.prog X.w X.K X.mg X.base CX0 k f fd ps sp) (hr : Room (k + 1) X.A) (hn : PySem.W.findIn X.K (.ref C) "__ne__" = some (some (.builtin "object.__ne__"))) (hs : PySem.W.findIn X.K (.ref C) "__eq__" = some (some (.ref f))) (hf : PySem.W.isFn X.K (.ref f) = true)
    (ho : PySem.W.subIn X.K (.ref C) (.type "object") = some true) (hb : Binds X.K fd ps []) (h : X.K = K := by rfl) : OpR X (compareOp .NotEq) (rNeO K C sp) := h ▸ op_neO F hr hn hs hf ho hb
theorem eqDK (K : PySem.W.Frag) (hu : X.A.units + 64 < cLine) (h : X.K = K := by rfl) : OpR X (compareOp .Eq) (rEqD K) := h ▸ op_eqD hu
theorem neDK (K : PySem.W.Frag) (hu : X.A.units + 64 < cLine) (h : X.K = K := by rfl) : OpR X (compareOp .NotEq) (rNeD K) := h ▸ op_neD hu
end
/-- what the law's own part leans on of System -/
structure SysE (K : PySem.W.Frag) (C fI fE fS fL fB fN fUn fRo pUn pRo pNa : Addr) : Prop where
  mkr : Mk K C fI
  eq : PySem.W.findIn K (.ref C) "__eq__" = some (some (.ref fE))
  eqf : PySem.W.isFn K (.ref fE) = true
  ne : PySem.W.findIn K (.ref C) "__ne__" = some (some (.builtin "object.__ne__"))
  ob : PySem.W.subIn K (.ref C) (.type "object") = some true
  str : PySem.W.findIn K (.ref C) "__str__" = some (some (.ref fS))
  strf : PySem.W.isFn K (.ref fS) = true
  len : PySem.W.findIn K (.ref C) "__len__" = some (some (.ref fL))
  lenf : PySem.W.isFn K (.ref fL) = true
  bool : PySem.W.findIn K (.ref C) "__bool__" = some (some (.ref fB))
  boolf : PySem.W.isFn K (.ref fB) = true
  un : PropOf K C "unknowns" pUn fUn
  ro : PropOf K C "rows" pRo fRo
  na : PropOf K C "names" pNa fN
def spAll : Sp := fun vs H Q _ => ∃ l : Addr, vs = [.ref l] ∧ Urn H l ∧ ∀ H', Kept l H H' → Urn H' l → Q (.bl true) H'
/-- the further built-in names of the law's own part -/
structure Bm (mg : Str → Option Value) : Prop where
  rng : mg "range" = none
  zip : mg "zip" = none
  rep : mg "repr" = none
end Ca
set_option Elab.async false
set_option linter.all false
set_option maxRecDepth 100000
set_option maxHeartbeats 8000000
namespace Ca
open PySem L2
abbrev NLb : List Str := ["_law_cells", "_law_at"]
def spLawB (K : PySem.W.Frag) : Sp := fun vs H Q _ => ∃ (a : Addr) (ns : List Int), vs = [.ref a] ∧ SqL K H a (ns.map V.int) ∧ ∀ H', Q (.bl true) H'
theorem scLawB : FnScope NLb ["_law_cells"] (defScope sLaw) := ⟨rfl, rfl, rfl, by decide +kernel, rfl, by decide +kernel, by decide +kernel⟩
theorem rep_more (t : Nat) : (List.replicate t true).map V.bl ++ [V.bl true] = (List.replicate (t + 1) true).map V.bl := by
  rw [List.replicate_succ', List.map_append]
  rfl
theorem rep_all : ∀ t : Nat, (List.replicate t true).all id = true
  | 0 => rfl
  | t + 1 => by
    rw [List.replicate_succ, List.all_cons, rep_all t]
    rfl
theorem fewB (n : Nat) : (2 : Int) ≤ (if (if (5 : Int) < (n : Int) then (5 : Int) else (n : Int)) > 2 then (if (5 : Int) < (n : Int) then (5 : Int) else (n : Int)) else 2) ∧ (if (if (5 : Int) < (n : Int) then (5 : Int) else (n : Int)) > 2 then (if (5 : Int) < (n : Int) then (5 : Int) else (n : Int)) else 2) ≤ 5 := by
  split <;> split <;> omega
theorem rd_call1 {sp : Sp} {te : TE} {σ : L2.St} {H : Hp} {Q : VK} (h : te σ H fun x H1 => sp [x] H1 Q E0) : tCall sp [] E0 (tCons te tNil) σ H Q := h
section
variable {P : Program} {w : World} {K : PySem.W.Frag} {mg : Str → Option Value} {base : Heap}
theorem ok_lawB {j : Nat} (hj : 1 ≤ j) {f fR fU : Addr} {fd fdR fdU : FuncData} (F : FnT K "law" sLaw f fd)
    (gR : mg "_law_right" = some (.ref fR)) (GR : FnG P w K mg base j fR fdR ["_law_urn_here"] spAll) (kR : PySem.W.keepIn K (.ref fR) = true) (bR : Binds K fdR ["_law_urn_here"] [])
    (gU : mg "_law_urn" = some (.ref fU)) (GU : FnOk P w K mg base CX0 1 fU fdU ["_law_cells", "_law_at"] (spUrn K)) (kU : PySem.W.keepIn K (.ref fU) = true) (bU : Binds K fdU ["_law_cells", "_law_at"] [])
    (mall : mg "all" = none) (mrng : mg "range" = none) (mmax : mg "max" = none) (mmin : mg "min" = none) (mlen : mg "len" = none) :
    FnG P w K mg base (j + 1) f fd ["_law_cells"] (spLawB K) := by
  refine fnG_of F scLawB (fun vs H Q E h => ?_) (fun cdv A outer s H vs Q hgd hr h => ?_)
  · obtain ⟨a, ns, rfl, _⟩ := h
    rfl
  · obtain ⟨a, ns, rfl, hS, q⟩ := h
    have nd := scLawB.nd
    have hr1 : Room 1 _ := hr.mono hj
    refine ⟨_, PSs.nox (pss_one (ps_ret (pe_callB (cr_all rfl) (by rfl) mall PyProof.Rows.boot_all (pa_cons (pe_lc (own := [("_law_at", 1)]) (g := gName 1) (tt := tYes) rfl nd
          (pi_range1 rfl mrng (pa_cons (pe_callB (call_max2 rfl) (by rfl) mmax PyProof.Rows.boot_max (pa_cons pe_int (pa_cons (pe_callB (call_min2 rfl) (by rfl) mmin PyProof.Rows.boot_min (pa_cons (pe_callB call_len (by rfl) mlen boot_len (pa_cons (pv 0) pa_nil)) (pa_cons pe_int pa_nil))) pa_nil))) pa_nil))
          (blkOk_by (own := [("_law_at", 1)]) (N := NLb) (sc := defScope sLaw) (by decide +kernel)) (fun _ _ _ _ _ => pg_name (i := 1) nd rfl (Or.inl rfl)) (fun _ _ _ _ _ => pts_nil)
          (fun _ _ _ _ _ => pe_callG GR hgd hr gR kR bR (pa_cons (pe_call GU hr1 rfl gU kU bU .nil pass0 (pa_cons (pv 0) (pa_cons (pv 1) pa_nil))) pa_nil))) pa_nil))))
      , ?_⟩
    refine ⟨_, rfl, _, _, rfl, .inl ⟨_, hS, rfl⟩, _, _, rfl, _, _, rfl, ?_⟩
    obtain ⟨hlo, hhi⟩ := fewB (ns.map V.int).length
    generalize (if (if (5 : Int) < ((ns.map V.int).length : Int) then (5 : Int) else ((ns.map V.int).length : Int)) > 2 then (if (5 : Int) < ((ns.map V.int).length : Int) then (5 : Int) else ((ns.map V.int).length : Int)) else 2) = jj at hlo hhi
    refine ⟨jj, rfl, Int.le_trans (by decide) hlo, Int.lt_of_le_of_lt hhi (by decide), fun D hD => lc_range (lo := 0) (n := jj.toNat) (fun t H' => Same H H' ∧ H' D = some (.lst ((List.replicate t true).map V.bl))) ⟨Same.new hD, upd_same⟩ ?_ ?_⟩
    · rintro t H' ht ⟨sG, bD⟩
      refine ⟨rfl, rdYes (rd_call1 ⟨_, rfl, _, rfl, a, ns, t, by rw [Int.zero_add]; rfl, sG.seq hS, fun H3 l hl s3 u3 => ⟨l, rfl, u3, fun H4 k4 u4 => ?_⟩⟩)⟩
      have nD : D ≠ l := ne_of_none bD hl
      have bD4 := k4 _ _ nD (s3 _ _ bD)
      have s4 : Same H H4 := fun b o e => by
        have e1 := sG _ _ e
        exact k4 _ _ (ne_of_none e1 hl) (s3 _ _ e1)
      refine ⟨_, bD4, ?_, fun b o e => ?_, ?_⟩
      · rw [List.length_map, List.length_replicate]
        have : t < 6 := by omega
        exact Nat.lt_trans this (by decide)
      · rw [upd_ne (ne_of_none e hD)]
        exact s4 b o e
      · rw [rep_more]
        exact upd_same
    · rintro H' ⟨sG, bD⟩
      refine ⟨D, _, rfl, SqL.of bD, ?_⟩
      rw [rep_all]
      exact q H'
end
end Ca
set_option Elab.async false
set_option linter.all false
set_option maxRecDepth 100000
set_option maxHeartbeats 0
namespace Ca
open PySem PySem.Spec PyProof.Rows L2
/-! ### what the top leaves, by names -/
def topD (x : Str) (st : Stmt) : He.DefD := ⟨(x, none), x, x, defArgs st, defBody st, defScope st, [], []⟩
def memD (m q : Str) (st : Stmt) (dv : List He.Dv) : He.DefD := ⟨("System", some m), m, q, defArgs st, defBody st, defScope st, dv, []⟩
def e0A (K : PySem.W.Frag) : Addr := He.dflAt ("System", some "__init__") 0 K
/-! ### and of System -/
abbrev sysA (K : PySem.W.Frag) : Addr := He.ga K "System"
def isF (a b : Option (Option Value)) : Bool := decide (a = b)
/-- the getter of a property -/
def getA (K : PySem.W.Frag) (m : Str) : Addr := match PySem.W.recIn K (He.ma K (sysA K) m) "property" with
  | some (.ref g :: _) => g
  | _ => 0
def fnA (K : PySem.W.Frag) (a : Addr) : He.FnW := match K.lookup a with
  | some ⟨_, _, .func fd, _⟩ => some (fd.name, fd.qualname, fd.params, fd.body, fd.scope, fd.globals, fd.closure, fd.builtins)
  | _ => none
def okA (K : PySem.W.Frag) (a : Addr) (q : Str) : Bool := PySem.W.keepIn K (.ref a) && (match K.lookup a with
  | some ⟨_, _, .func fd, _⟩ => PySem.W.codeIn K fd.code q && He.dflB K fd.defaults []
  | _ => false)
theorem fun_at {K : PySem.W.Frag} {a : Addr} {n q : Str} {st : Stmt} (e : fnA K a = some (n, q, defArgs st, .stmts (defBody st), defScope st, mainGlobals, [], builtinsNs)) (c : okA K a q = true) : ∃ fd, FunD K n q (defArgs st) (defBody st) (defScope st) [] [] a fd := by
  obtain ⟨kp, c2⟩ := He.ba c
  unfold fnA at e
  cases z : K.lookup a with
  | none => rw [z] at c2; cases c2
  | some o =>
    obtain ⟨oc, od, dt, sl⟩ := o
    rw [z] at c2 e
    cases dt with
    | func fd =>
      obtain ⟨m1, m2, m3, m4, m5, m6, m7, m8, m9, m10, m11, m12, m13, m14, m15⟩ := fd
      have e2 : (some (m1, m2, m3, m4, m5, m6, m7, m15) : He.FnW) = some (n, q, defArgs st, .stmts (defBody st), defScope st, mainGlobals, [], builtinsNs) := e
      simp only [Option.some.injEq, Prod.mk.injEq] at e2
      obtain ⟨g1, g2, g3, g4, g5, g6, g7, g8⟩ := e2
      subst g1 g2 g3 g4 g5 g6 g7 g8
      obtain ⟨k1, k2⟩ := He.ba (show (PySem.W.codeIn K m13 m2 && He.dflB K m8 []) = true from c2)
      exact ⟨_, ⟨oc, od, m8, m9, m10, m11, m12, m13, m14, sl, rfl, z, k1, He.dflB_ok k2, .inl rfl⟩, kp⟩
    | _ => cases c2
def prB (K : PySem.W.Frag) (m q : Str) : Bool := isF (PySem.W.findIn K (.ref (sysA K)) m) (some (some (.ref (He.ma K (sysA K) m)))) && (isF (PySem.W.specialIn K (.ref (He.ma K (sysA K) m)) "__get__") (some (some (.builtin "property.__get__"))) &&
  (decide (PySem.W.takesIn K (.ref (He.ma K (sysA K) m)) = some true) && ((match PySem.W.recIn K (He.ma K (sysA K) m) "property" with
    | some (.ref _ :: _) => true
    | _ => false) && okA K (getA K m) q)))
def tyNames : List String := ["NoneType", "bool", "int", "str", "list", "tuple", "dict"]
def emB (K : PySem.W.Frag) : Bool := match K.lookup (e0A K) with
  | some ⟨.type c, _, .seq its _, _⟩ => decide (c = "tuple") && (decide (its.size ≤ sizeLine) && He.relAll [] its.toList)
  | _ => false
def sysB (K : PySem.W.Frag) : Bool := prB K "unknowns" "System.unknowns" && (prB K "rows" "System.rows" && (prB K "names" "System.names" && (emB K &&
  (isF (PySem.W.findIn K (.ref (sysA K)) "__ne__") (some (some (.builtin "object.__ne__"))) && (decide (PySem.W.subIn K (.ref (sysA K)) (.type "object") = some true) &&
  (isF (PySem.W.findIn K (.ref (sysA K)) "__class__") (some (some (.builtin "object.__class__"))) && (isF (PySem.W.specialIn K (.builtin "object.__class__") "__get__") (some (some (.builtin "getset_descriptor.__get__"))) &&
  (decide (PySem.W.takesIn K (.builtin "object.__class__") = some true) && (decide (PySem.W.mroIn K (sysA K) (.type "object") = some true) && (decide (PySem.W.kitOne K (.ref (sysA K)) (.ref (sysA K)) = some true) &&
  (PySem.W.notFirst K (sysA K) (.ref (sysA K)) && tyNames.all fun t => decide (PySem.W.kitOne K (.type t) (.ref (sysA K)) = some false) && PySem.W.notFirst K (sysA K) (.type t))))))))))))
def getV (n q : Str) (st : Stmt) : He.FnW := some (n, q, defArgs st, .stmts (defBody st), defScope st, mainGlobals, [], builtinsNs)
theorem isF_ok {a b : Option (Option Value)} (h : isF a b = true) : a = b := of_decide_eq_true h
theorem an {a b : Bool} (h : (a && b) = true) : a = true ∧ b = true := Bool.and_eq_true_iff.mp h
theorem pr_ok {K : PySem.W.Frag} {m q : Str} (h : prB K m q = true) : PropOf K (sysA K) m (He.ma K (sysA K) m) (getA K m) ∧ okA K (getA K m) q = true := by
  obtain ⟨h1, h⟩ := an h
  obtain ⟨h2, h⟩ := an h
  obtain ⟨h3, h⟩ := an h
  obtain ⟨h4, h5⟩ := an h
  refine ⟨⟨isF_ok h1, isF_ok h2, of_decide_eq_true h3, ?_⟩, h5⟩
  unfold getA
  cases z : PySem.W.recIn K (He.ma K (sysA K) m) "property" with
  | none => rw [z] at h4; cases h4
  | some l =>
    rw [z] at h4
    match l, h4 with
    | .ref g :: rest, _ => exact ⟨rest, rfl⟩
theorem em_ok {K : PySem.W.Frag} (h : emB K = true) (H : Hp) : SqT K H (e0A K) [] := by
  unfold emB at h
  cases q : K.lookup (e0A K) with
  | none => rw [q] at h; cases h
  | some o =>
    obtain ⟨oc, od, dt, osl⟩ := o
    rw [q] at h
    cases oc with
    | type c =>
      cases dt with
      | seq its n =>
        obtain ⟨h1, h2⟩ := an (show (decide (c = "tuple") && (decide (its.size ≤ sizeLine) && He.relAll [] its.toList)) = true from h)
        obtain ⟨h3, h4⟩ := an h2
        exact .inr ⟨_, its, n, q, congrArg Value.type (of_decide_eq_true h1), rfl, of_decide_eq_true h3, He.relAll_ok h4⟩
      | _ => cases h
    | _ => cases dt <;> cases h
theorem fun_of {K : PySem.W.Frag} {x : Str} {st : Stmt} {f : Addr} {fd : FuncData} (F : FunD K x x (defArgs st) (defBody st) (defScope st) [] [] f fd) : Fun K x x st f fd := by
  obtain ⟨⟨oc, od, dV, kV, doc, pm, an, cdv, ct, osl, rfl, lk, hcd, hD, hK⟩, kp⟩ := F
  rcases hD with ⟨_, rfl⟩ | ⟨e, _⟩
  · exact fun_mk lk hcd kp
  · exact absurd rfl e
end Ca
set_option Elab.async false
set_option linter.all false
set_option maxRecDepth 100000
set_option maxHeartbeats 0
namespace Ca
open PySem PySem.Spec PyProof.Rows L2
def fnsk070 : List He.DefD := [topD "is_integer" sIsInteger,
  topD "is_tuple_of" sIsTupleOf,
  topD "is_name" sIsName,
  topD "is_unknown" sIsUnknown,
  topD "is_stretch" sIsStretch,
  topD "is_row" sIsRow,
  topD "check_unknowns" sCheckUnknowns,
  topD "check_rows" sCheckRows,
  topD "line_of" sLineOf,
  topD "_law_urn" sLawUrn,
  topD "_law_dip" sLawDip,
  topD "_law_from" sLawFrom]
def fnsk071 : List He.DefD := [topD "_law_unlike" sLawUnlike,
  topD "_law_stretch" sLawStretch,
  topD "_law_line" sLawLine,
  topD "_law_case" sLawCase,
  topD "_law_page" sLawPage,
  topD "_law_right" sLawRight,
  topD "law" sLaw,
  topD "is_one_of" sIsOneOf,
  topD "is_change" sIsChange,
  topD "row_with" sRowWith,
  topD "_law_made" sLawMade,
  topD "_law_changed" sLawChanged]
def fnsk072 : List He.DefD := [memD "__init__" "System.__init__" mSystemInit [.adr e0A],
  memD "__len__" "System.__len__" mSystemLen [],
  memD "__bool__" "System.__bool__" mSystemBool [],
  memD "__str__" "System.__str__" mSystemStr [],
  memD "__eq__" "System.__eq__" mSystemEq [],
  memD "changed" "System.changed" mSystemChanged []]
def fnsk07 : List He.DefD := fnsk070 ++ fnsk071 ++ fnsk072
def fask070 : List He.Fa := [.glo "is_integer", .glo "is_tuple_of", .glo "is_name", .glo "is_unknown", .glo "is_stretch", .glo "is_row", .glo "check_unknowns", .glo "check_rows", .glo "line_of", .glo "_law_urn", .glo "_law_dip", .glo "_law_from", .glo "_law_unlike", .glo "_law_stretch", .glo "_law_line", .glo "_law_case"]
def fask071 : List He.Fa := [.glo "_law_page", .glo "_law_right", .glo "law", .glo "is_one_of", .glo "is_change", .glo "row_with", .glo "_law_made", .glo "_law_changed", .glo "System", .int "MOST_UNKNOWNS" 3, .int "MOST_ROWS" 6, .int "MOST_NUMBER" 10000, .int "MOST_CHARACTERS" 8, .str "LETTERS" LET, .str "DIGITS" DIG, .str "BOUND" "bound"]
def fask072 : List He.Fa := [.free "isinstance", .free "int", .free "bool", .free "str", .free "tuple", .free "len", .free "all", .free "enumerate", .free "range", .free "zip", .free "repr", .free "list", .free "max", .free "min", .free "abs", .free "divmod"]
def fask073 : List He.Fa := [.cls "System", .noat "System" "_unknowns", .noat "System" "_rows", .mkr "System", .meth "System" "__len__", .meth "System" "__bool__", .meth "System" "__str__", .meth "System" "__eq__", .meth "System" "changed"]
def fask07 : List He.Fa := fask070 ++ fask071 ++ fask072 ++ fask073
abbrev Alk07 : Type := Bool × He.FnW × He.FnW × He.FnW × He.AlD
def obsk07 (g : Addr → Option Obj) : Alk07 := (sysB (He.frG g (He.asD g 6)), fnA (He.frG g (He.asD g 6)) (getA (He.frG g (He.asD g 6)) "unknowns"), fnA (He.frG g (He.asD g 6)) (getA (He.frG g (He.asD g 6)) "rows"), fnA (He.frG g (He.asD g 6)) (getA (He.frG g (He.asD g 6)) "names"), He.obsDG 6 fask07 fnsk07 g)
structure Saysk07 (K : PySem.W.Frag) : Prop where
  b : sysB K = true
  u : fnA K (getA K "unknowns") = getV "unknowns" "System.unknowns" mSystemUnknowns
  r : fnA K (getA K "rows") = getV "rows" "System.rows" mSystemRows
  n : fnA K (getA K "names") = getV "names" "System.names" mSystemNames
  d : He.SaysD fask07 fnsk07 K
theorem saysk07_of {g : Addr → Option Obj} (e : obsk07 g = (true, getV "unknowns" "System.unknowns" mSystemUnknowns, getV "rows" "System.rows" mSystemRows, getV "names" "System.names" mSystemNames, He.valD fnsk07)) : Saysk07 (He.frG g (He.asD g 6)) := by
  unfold obsk07 at e
  simp only [Prod.mk.injEq] at e
  obtain ⟨e1, e2, e3, e4, e5⟩ := e
  exact ⟨e1, e2, e3, e4, e5⟩
def hkk07 : PySem.W.Hook where
  α := Alk07
  obs s := obsk07 s.heap.get?
  val _ := (true, getV "unknowns" "System.unknowns" mSystemUnknowns, getV "rows" "System.rows" mSystemRows, getV "names" "System.names" mSystemNames, He.valD fnsk07)
  says _ h := ∃ K : PySem.W.Frag, K.In h ∧ Saysk07 K
  of _ _ e := ⟨He.frG _ (He.asD _ 6), He.frG_in, saysk07_of e⟩
  keeps _ _ _ c k := c.elim fun K z => ⟨K, z.1.keeps k, z.2⟩
def obk07 (s : PySem.W.SharedT) : Alk07 := obsk07 (HandSHeadRun.getT s)
theorem obk07_eq (s : PySem.W.SharedT) : obk07 s = hkk07.obs s.abs := by
  have e : HandSHeadRun.getT s = s.abs.heap.get? := funext (HandSHeadRun.getT_eq s)
  unfold obk07
  rw [e]
  rfl
abbrev rowk07 : PySem.W.OpenRow := PySem.W.OpenLaw.row PySem.Challenge.rw_commonanswer_k07_whole_systems_changed
def namesk070 : List Str := ["_wall", "BadValue", "InvalidText", "InvalidChange", "InvalidUnknowns", "InvalidRows", "MOST_UNKNOWNS", "MOST_ROWS", "MOST_NUMBER", "LETTERS", "DIGITS", "MOST_CHARACTERS", "BOUND", "is_integer", "is_tuple_of", "is_one_of"]
def namesk071 : List Str := ["is_name", "is_unknown", "is_stretch", "is_row", "is_change", "check_unknowns", "check_rows", "row_with", "line_of", "integer_in", "row_in", "System", "_law_urn", "_law_dip", "_law_from", "_law_unlike"]
def namesk072 : List Str := ["_law_stretch", "_law_line", "_law_case", "_law_made", "_law_page", "_law_changed", "_law_right"]
def namesk07 : List Str := namesk070 ++ namesk071 ++ namesk072
end Ca
set_option Elab.async false
set_option linter.all false
set_option maxRecDepth 100000
set_option maxHeartbeats 0
namespace Ca
open PySem PySem.Spec PyProof.Rows L2
theorem runk07 (w : World) : HandSHeadRun.RunEq rowk07 (PySem.W.view rowk07.prog [42]) hkk07 obk07 14000 namesk07 w := by
  intro os
  kernel_rfl
end Ca
set_option Elab.async false
set_option linter.all false
set_option maxRecDepth 100000
set_option maxHeartbeats 4000000
namespace Ca
open PySem PySem.Spec PyProof.Rows L2
/-! ### o.m(k = v) -/
def tMethKw (C : Addr) (m : Str) (n : Nat) (sp : Sp) (gV : List V → List V → List V) (ta : TE) (tk : TA) : TE := fun σ H Q => ta σ H fun x H1 => ∃ a dx fs, x = .ref a ∧ H1 a = some (.ins C dx fs) ∧ fs.lookup m = none ∧
  tk σ H1 fun zs H2 => zs.length = n ∧ sp (gV [.ref a] zs) H2 Q E0
section
variable {X : Cx} {k : Nat} {f C : Addr} {fd : FuncData} {ps ks : List Str} {sp : Sp} {m : Str} {apos pos : Pos} {kws : List Keyword} {tk : TA} {g : List Value → List Value → List Value} {gV : List V → List V → List V} {o : Expr} {ta : TE}
theorem pe_methKw {pl : Sem Bool} (he : PE X o ta) (c : Cls X.K C) (hm : Meth X.K C m f) (F : FnOk X.prog X.w X.K X.mg X.base CX0 k f fd ps sp) (hr : Room k X.A) (hb : KBn X.K fd ps 1 ks g gV) (hkw : PK X kws tk)
    (hall : (backToKw pos (keywordEach kws X.env)).all (·.1.isSome) = true := by rfl) (hks : (backToKw pos (keywordEach kws X.env)).filterMap (·.1) = ks := by rfl)
    (hpl : ((backTo pos (starEach [] X.env)).any (·.1) || (backToKw pos (keywordEach kws X.env)).any (·.1.isNone)) = false := by rfl)
    (ht : eval (.Call (.Attribute o m apos) [] kws pos) X.env = (do
      let ov ← eval o X.env
      standAt apos.atName
      let (f, first) ← holding [ov] (getMethod ov m pl)
      callWith pos f first (backTo pos (starEach [] X.env)) (backToKw pos (keywordEach kws X.env))) := by rfl) :
    PE X (.Call (.Attribute o m apos) [] kws pos) (tMethKw C m ks.length sp gV ta tk) := by
  refine ⟨fun pins s σ H Q I h => ?_⟩
  refine PySem.W.methodCall_KW (pl := pl) (thn (he.run pins s σ H _ I h) fun u s1 ⟨x, H1, I1, rx, a, dx, fs, ex, ea, l, q⟩ => ?_) ht
  subst ex
  obtain rfl : u = Value.ref a := rx
  refine getmeth_ok I1 ea c hm l ?_
  refine PySem.W.callWith_KW0 (first := [.ref a]) (h₀ := X.base) I1.ok.mod.kin hm.kp hall (thn (hkw.run pos pins s1 σ H1 _ I1 q) fun ws s2 ⟨zs, H2, I2, rz, l2, q2⟩ => ?_) hpl
  rw [hks]
  exact ⟨I2.kIn, run_fnN (us := [.ref a]) (vs := [.ref a]) F hr hb pass0 I2 (.cons rfl .nil) rz rfl l2 q2⟩
end
/-! ### slices and sums of tuples, whatever object tells them -/
theorem cut_take (xs : List V) (k : Nat) : cutV xs none (some (k : Int)) = xs.take k := by
  unfold cutV
  rw [HT.sIx_none, HT.sIx_nat, List.drop_zero, Nat.sub_zero]
  by_cases h : k ≤ xs.length
  · rw [Nat.min_eq_left h]
  · rw [Nat.min_eq_right (Nat.le_of_not_le h), List.take_length, List.take_of_length_le (Nat.le_of_not_le h)]
theorem cut_drop (xs : List V) (k : Nat) : cutV xs (some (k : Int)) none = xs.drop k := by
  unfold cutV
  rw [HT.sIx_none, HT.sIx_nat]
  by_cases h : k ≤ xs.length
  · rw [Nat.min_eq_left h]
    exact List.take_of_length_le (by rw [List.length_drop]; omega)
  · rw [Nat.min_eq_right (Nat.le_of_not_le h), Nat.sub_self, List.take_zero, List.drop_eq_nil_of_le (Nat.le_of_not_le h)]
theorem rd_no {σ : L2.St} {H : Hp} {Q : Option Int → Hp → Prop} (h : Q none H) : tNoPart σ H Q := h
theorem rd_slA {K : PySem.W.Frag} {H : Hp} {a : Addr} {xs : List V} {lo hi : Option Int} {Q : VK} (h : SqT K H a xs) (q : ∀ H' b, Same H H' → SqT K H' b (cutV xs lo hi) → Q (.ref b) H') : rSlA K (.ref a) lo hi H Q :=
  ⟨a, xs, rfl, h, fun y => q H a (fun _ _ e => e) (by
    have e : cutV xs lo hi = xs := by
      unfold cutV
      rw [y.1, y.2, List.drop_zero, Nat.sub_zero, List.take_length]
    rw [e]
    exact h), fun _ p hp => q _ p (Same.new hp) (SqT.of upd_same)⟩
theorem rd_catA {K : PySem.W.Frag} {H : Hp} {a b : Addr} {xs ys : List V} {Q : VK} (ha : SqT K H a xs) (hb : SqT K H b ys) (hl : xs.length + ys.length ≤ sizeLine) (q : ∀ H' c, Same H H' → SqT K H' c (xs ++ ys) → Q (.ref c) H') : rCatA K (.ref a) (.ref b) H Q :=
  ⟨a, b, xs, ys, rfl, rfl, ha, hb, hl, fun z => q H b (fun _ _ e => e) (by rw [z]; exact hb), fun _ z => q H a (fun _ _ e => e) (by rw [z, List.append_nil]; exact ha), fun _ _ p hp => q _ p (Same.new hp) (SqT.of upd_same)⟩
theorem DqAll.take {K : PySem.W.Frag} {H : Hp} : ∀ {vs : List V} {ds : List PyData} (k : Nat), DqAll K H vs ds → DqAll K H (vs.take k) (ds.take k)
  | _, _, 0, _ => .nil
  | _, _, _ + 1, .nil => .nil
  | _, _, k + 1, .cons a t => .cons a (t.take k)
theorem DqAll.drop {K : PySem.W.Frag} {H : Hp} : ∀ {vs : List V} {ds : List PyData} (k : Nat), DqAll K H vs ds → DqAll K H (vs.drop k) (ds.drop k)
  | _, _, 0, h => h
  | _, _, _ + 1, .nil => .nil
  | _, _, k + 1, .cons _ t => t.drop k
/-- rows without the one at k -/
def dropAt {α : Type} (rs : List α) (k : Nat) : List α := rs.take k ++ rs.drop (k + 1)
theorem dropAt_sub {α : Type} (rs : List α) (k : Nat) : (dropAt rs k).Sublist rs := by
  unfold dropAt
  rw [← List.eraseIdx_eq_take_drop_succ]
  exact List.eraseIdx_sublist _ _
theorem dropAt_len {α : Type} {rs : List α} {k : Nat} (h : k < rs.length) : (dropAt rs k).length = rs.length - 1 := by
  unfold dropAt
  rw [List.length_append, List.length_take, List.length_drop]
  omega
theorem dropAt_map {α β : Type} (f : α → β) (rs : List α) (k : Nat) : dropAt (rs.map f) k = (dropAt rs k).map f := by
  unfold dropAt
  rw [List.map_append, List.map_take, List.map_drop]
theorem DqAll.dropAt {K : PySem.W.Frag} {H : Hp} {vs : List V} {ds : List PyData} (h : DqAll K H vs ds) (k : Nat) : DqAll K H (Ca.dropAt vs k) (Ca.dropAt ds k) := (h.take k).app (h.drop (k + 1))
theorem Lines.sub {rs qs : List Rw} {m : Nat} (h : qs.Sublist rs) (L : Lines rs m) : Lines qs m :=
  ⟨Nat.le_trans h.length_le L.hi, fun r z => L.ok r (h.subset z), L.nd.sublist (h.map Rw.name)⟩
theorem lenV_tup {K : PySem.W.Frag} {H : Hp} {v : V} {ds : List PyData} (h : Dq K H v (.tuple ds)) : LenV K v H ds.length := by
  obtain ⟨a, xs, rfl, h1, _, hl⟩ := tup_len h
  exact .inr ⟨_, h1, hl.symm⟩
/-- systems behind changes of a list -/
theorem SysAt.but {K : PySem.W.Frag} {C l : Addr} {H H' : Hp} {x : Addr} {ns : List Str} {rs : List Rw} {ys : List V} (hl : H l = some (.lst ys)) (k : Kept l H H') (h : SysAt K C H x ns rs) : SysAt K C H' x ns rs := by
  obtain ⟨h1, h2, dx, u, r, e, du, dr⟩ := h
  have n : x ≠ l := fun z => by rw [z, hl] at e; cases e
  exact ⟨h1, h2, dx, u, r, k _ _ n e, Dq.but hl k (noL_folk ns) du, Dq.but hl k (noL_rows rs) dr⟩
def spMore (K : PySem.W.Frag) (C : Addr) : Sp := fun vs H Q _ => ∃ x v ns rs r, vs = [.ref x, v] ∧ SysAt K C H x ns rs ∧ Dq K H v (rowD r) ∧ Lines (rs ++ [r]) ns.length ∧ ∀ H' y, Same H H' → SysAt K C H' y ns (rs ++ [r]) → Q (.ref y) H'
def spMadeC (K : PySem.W.Frag) (C : Addr) : Sp := fun vs H Q _ => ∃ v c, vs = [v] ∧ Dq K H v (cD c) ∧ COk c ∧ ∀ H' y, Same H H' → SysAt K C H' y c.1 c.2 → Q (.ref y) H'
section
variable {P : Program} {w : World} {K : PySem.W.Frag} {mg : Str → Option Value} {base : Heap} {C fI : Addr} {fdI : FuncData}
theorem scMore : FnScope ["self", "row"] ["self", "row"] (defScope mSystemMore) := ⟨rfl, rfl, rfl, by decide +kernel, rfl, by decide +kernel, by decide +kernel⟩
theorem ok_more {f : Addr} {fd : FuncData} (F : FnM K "more" "System.more" mSystemMore [] f fd) (S : SysC K C) (M : Mk K C fI) (gS : mg "System" = some (.ref C))
    (GI : FnOk P w K mg base CX0 5 fI fdI ["self", "unknowns", "rows"] (spInit K C)) (bI : Binds K fdI ["self", "unknowns", "rows"] []) : FnOk P w K mg base CX0 7 f fd ["self", "row"] (spMore K C) := by
  refine F.ok scMore (fun vs H Q E h => ?_) (fun cdv A outer s H vs Q E hr h => ?_)
  · obtain ⟨x, v, ns, rs, r, rfl, _⟩ := h
    rfl
  · obtain ⟨x, v, ns, rs, r, rfl, ⟨hN, hL, dx, u, t, hx, du, dr⟩, dv, hL2, q⟩ := h
    refine ⟨_, PSs.nox (pss_one (ps_ret (pe_make M GI hr rfl gS bI .nil pass0 (pa_cons (pe_fld (pv 0) rfl) (pa_cons (pe_tup (StX.pa_star (pe_fld (pv 0) rfl) (pa_cons (pv 1) pa_nil))) pa_nil))))), ?_⟩
    obtain ⟨a, xs, rfl, h1, h2, hl⟩ := tup_len dr
    rw [List.length_map] at hl
    have r6 := hL.hi
    refine ⟨_, rfl, x, C, dx, _, u, rfl, hx, S.cl, S.nu, rfl, _, rfl, x, C, dx, _, _, rfl, hx, S.cl, S.nr, rfl, a, xs, rfl, .inl h1, _, rfl, ?_, fun p hp y dy hy hdy ne => ?_⟩
    · rw [List.length_append, hl]
      exact Nat.le_trans (show rs.length + 1 ≤ 100 by omega) (by decide)
    have s1 := Same.new (o := .tup (xs ++ [v])) hp
    have sn := made_new (C := C) hy hdy
    have dt : Dq K (upd H p (.tup (xs ++ [v]))) (.ref p) (rowsD (rs ++ [r])) := .tup (SqT.of upd_same) (by rw [List.map_append]; exact (h2.same s1).app (.cons (dv.same s1) .nil))
    refine ⟨y, dy, u, .ref p, ns, rs ++ [r], rfl, upd_same, (du.same s1).same sn, hN, dt.same sn, hL2, fun H6 k6 x6 => ⟨rfl, ?_⟩⟩
    have s6 := made_same hy hdy k6
    exact q H6 y (s1.trans s6) ⟨hN, hL2, dy, u, .ref p, x6, (du.same s1).same s6, dt.same s6⟩
theorem scMadeC : FnScope ["_law_case_here"] ["_law_case_here"] (defScope sLawMade) := ⟨rfl, rfl, rfl, by decide +kernel, rfl, by decide +kernel, by decide +kernel⟩
theorem ok_madeC {f : Addr} {fd : FuncData} (F : FnT K "_law_made" sLawMade f fd) (M : Mk K C fI) (gS : mg "System" = some (.ref C))
    (GI : FnOk P w K mg base CX0 5 fI fdI ["self", "unknowns", "rows"] (spInit K C)) (bI : Binds K fdI ["self", "unknowns", "rows"] []) : FnOk P w K mg base CX0 7 f fd ["_law_case_here"] (spMadeC K C) := by
  refine F.ok scMadeC (fun vs H Q E h => ?_) (fun cdv A outer s H vs Q E hr h => ?_)
  · obtain ⟨v, c, rfl, _⟩ := h
    rfl
  · obtain ⟨v, c, rfl, dv, ok, q⟩ := h
    refine ⟨_, PSs.nox (pss_one (ps_ret (pe_make M GI hr rfl gS bI .nil pass0 (pa_cons (pe_ix ix_tup (pv 0) pe_int (fun _ _ => rfl)) (pa_cons (pe_ix ix_tup (pv 0) pe_int (fun _ _ => rfl)) pa_nil))))), ?_⟩
    obtain ⟨a, u, r, rfl, sq, du, dr⟩ := case_at dv
    refine ⟨_, rfl, a, _, 0, _, rfl, rfl, sq, atI_nat (j := 0) rfl, _, rfl, a, _, 1, _, rfl, rfl, sq, atI_nat (j := 1) rfl, fun y dy hy hdy ne => ?_⟩
    have sn := made_new (C := C) hy hdy
    refine ⟨y, dy, .ref u, .ref r, c.1, c.2, rfl, upd_same, du.same sn, ok.f, dr.same sn, ok.l, fun H6 k6 x6 => ⟨rfl, ?_⟩⟩
    have s6 := made_same hy hdy k6
    exact q H6 y s6 ⟨ok.f, ok.l, dy, .ref u, .ref r, x6, du.same s6, dr.same s6⟩
end
end Ca
set_option Elab.async false
set_option linter.all false
set_option maxRecDepth 100000
set_option maxHeartbeats 4000000
namespace Ca
open PySem PySem.Spec PyProof.Rows L2
/-! ### data told twice -/
theorem rd_sameD {K : PySem.W.Frag} {H : Hp} {a b : V} {d : PyData} {Q : VK} (ha : Dp K H a d) (hb : Dp K H b d) (sh : SeqAt.shaped d = true) (q : Q (.bl false) H) : rNeD K a b H Q :=
  ⟨d, d, ha, hb, sh, sh, by rw [SeqAt.eqv_refl _ (Bool.and_eq_true_iff.mp (show (d.canLay0 && decide (d.depth ≤ 64)) = true from sh)).1]; exact q⟩
theorem lay_texts : ∀ ts : List Str, (∀ x ∈ ts, PyData.strOk x = true) → PyData.canLayAll0 (ts.map .str) = true
  | [], _ => rfl
  | n :: ns, h => by
    simp only [List.map_cons, PyData.canLayAll0, PyData.canLay0]
    rw [h n (List.mem_cons_self ..), lay_texts ns fun x z => h x (List.mem_cons_of_mem _ z)]
    rfl
theorem shaped_texts {ts : List Str} (h : ∀ x ∈ ts, PyData.strOk x = true) : SeqAt.shaped (.list (ts.map .str)) = true := by
  refine Bool.and_eq_true_iff.mpr ⟨by simp only [PyData.canLay0]; exact lay_texts ts h, decide_eq_true ?_⟩
  simp only [PyData.depth]
  rw [dep_strs]
  decide
theorem dpS {K : PySem.W.Frag} {H : Hp} : ∀ ts : List Str, DpAll K H (ts.map V.str) (ts.map PyData.str)
  | [] => .nil
  | b :: bs => .cons (.str b) (dpS bs)
/-- two lists of the same texts are not unequal -/
theorem rd_sameS {K : PySem.W.Frag} {H : Hp} {a b : Addr} {Q : VK} (ts : List Str) (h : ∀ x ∈ ts, PyData.strOk x = true) (ha : H a = some (.lst (ts.map V.str))) (hb : H b = some (.lst (ts.map V.str))) (q : Q (.bl false) H) : rNeD K (.ref a) (.ref b) H Q :=
  rd_sameD (.lst (SqL.of ha) (dpS ts)) (.lst (SqL.of hb) (dpS ts)) (shaped_texts h) q
theorem rd_neS {K : PySem.W.Frag} {C : Addr} {H : Hp} {x y : Addr} {ns ms : List Str} {rs qs : List Rw} {Q : VK} (I : SysI K C) (X : SysAt K C H x ns rs) (Y : SysAt K C H y ms qs) (q : Q (.bl (!(decide (ns = ms) && decide (rs = qs)))) H) : rNeO K C (spEqS K C) (.ref x) (.ref y) H Q := by
  obtain ⟨_, _, dx, u, r, ex, _, _⟩ := id X
  obtain ⟨_, _, dy, u2, r2, ey, _, _⟩ := id Y
  exact ⟨x, dx, _, .ref C, rfl, ex, .ins ey, I.nf, x, .ref y, ns, rs, rfl, X, .inr ⟨y, ms, qs, rfl, Y, _, rfl, q⟩⟩
theorem rd_eqS {K : PySem.W.Frag} {C : Addr} {H : Hp} {x y : Addr} {ns ms : List Str} {rs qs : List Rw} {Q : VK} (I : SysI K C) (X : SysAt K C H x ns rs) (Y : SysAt K C H y ms qs) (q : Q (.bl (decide (ns = ms) && decide (rs = qs))) H) : rEqO K C (spEqS K C) (.ref x) (.ref y) H Q := by
  obtain ⟨_, _, dx, u, r, ex, _, _⟩ := id X
  obtain ⟨_, _, dy, u2, r2, ey, _, _⟩ := id Y
  exact ⟨x, dx, _, .ref C, rfl, ex, .ins ey, I.nf, x, .ref y, ns, rs, rfl, X, .inr ⟨y, ms, qs, rfl, Y, _, rfl, q⟩⟩
/-- the same system, told by != -/
theorem rd_neSame {K : PySem.W.Frag} {C : Addr} {H : Hp} {x y : Addr} {ns : List Str} {rs : List Rw} {Q : VK} (I : SysI K C) (X : SysAt K C H x ns rs) (Y : SysAt K C H y ns rs) (q : Q (.bl false) H) : rNeO K C (spEqS K C) (.ref x) (.ref y) H Q :=
  rd_neS I X Y (by rw [decide_eq_true (rfl : ns = ns), decide_eq_true (rfl : rs = rs)]; exact q)
theorem rd_sameRows {K : PySem.W.Frag} {H : Hp} {a b : V} {rs : List Rw} {m : Nat} {Q : VK} (L : Lines rs m) (ha : Dq K H a (rowsD rs)) (hb : Dq K H b (rowsD rs)) (q : Q (.bl false) H) : rNeD K a b H Q :=
  rd_sameD (dp_of (nodict_rows rs) ha) (dp_of (nodict_rows rs) hb) (shaped_rows (lines_names L)) q
theorem rd_sameNames {K : PySem.W.Frag} {H : Hp} {a b : V} {rs : List Rw} {m : Nat} {Q : VK} (L : Lines rs m) (ha : Dq K H a (namesD rs)) (hb : Dq K H b (namesD rs)) (q : Q (.bl false) H) : rNeD K a b H Q :=
  rd_sameD (dp_of (nodict_folk _) ha) (dp_of (nodict_folk _) hb) (shaped_strs fun x z => by
    obtain ⟨r, hr, rfl⟩ := List.mem_map.mp z
    exact lines_names L r hr) q
/-! ### the repr of a case's parts -/
def pairD (c : Case) : PyData := .list [folkD c.1, rowsD c.2]
theorem good_pair {K : PySem.W.Frag} {H : Hp} {p : Addr} {tu tr : V} {c : Case} (ok : COk c) (h : H p = some (.lst [tu, tr])) (h1 : Dq K H tu (folkD c.1)) (h2 : Dq K H tr (rowsD c.2)) : Good K H (.ref p) (pairD c) := by
  have n3 := ok.f.hi
  have r6 := ok.l.hi
  obtain ⟨a1, b1, w1⟩ := strs_all c.1 (folk_names ok.f)
  obtain ⟨a2, b2, w2⟩ := rows_all c.2 c.1.length ok.l.ok n3
  have sh : (pairD c).showable = true := by
    unfold pairD folkD rowsD
    simp only [PyData.showable, PyData.showableAll, a1, a2, Bool.true_and, Bool.and_true]
  have dep : (pairD c).depth ≤ 5 := by
    unfold pairD folkD rowsD
    have := dep_rows c.2
    simp only [PyData.depth, PyData.depthAll, dep_strs]
    omega
  have lay : (pairD c).canLay0 = true := by
    unfold pairD folkD rowsD
    simp only [PyData.canLay0, PyData.canLayAll0]
    rw [lay_strs c.1 (folk_names ok.f), lay_rows c.2 (lines_names ok.l)]
    rfl
  have wt : (pairD c).weight ≤ 2 ^ 20 := by
    have f1 : (folkD c.1).weight ≤ 9 * c.1.length := by unfold folkD; rw [PyData.weight]; exact w1
    have f2 : (rowsD c.2).weight ≤ 141 * c.2.length := by unfold rowsD; rw [PyData.weight]; exact w2
    unfold pairD
    rw [PyData.weight, PyData.weightAll, PyData.weightAll, PyData.weightAll]
    show _ ≤ 1048576
    omega
  have sz : (pairD c).shown.length ≤ 15728653 := by
    refine PyProof.Rows.shown_le13 ?_ ?_
    · show ((pairD c).canLay0 && decide ((pairD c).depth ≤ 64) && decide ((pairD c).weight ≤ 2 ^ 20)) = true
      rw [lay, decide_eq_true (show (pairD c).depth ≤ 64 by omega), decide_eq_true wt]
      rfl
    · have e1 : (folkD c.1).intsShort 13 = true := by unfold folkD; rw [PyData.intsShort]; exact b1
      have e2 : (rowsD c.2).intsShort 13 = true := by unfold rowsD; rw [PyData.intsShort]; exact b2
      unfold pairD
      rw [PyData.intsShort, PyData.intsShortAll, PyData.intsShortAll, PyData.intsShortAll, e1, e2]
      rfl
  refine ⟨.dat (.lst (SqL.of h) (.cons (dp_of (nodict_folk _) h1) (.cons (dp_of (nodict_rows _) h2) .nil))) ?_, sh, by omega, Nat.le_trans sz (by decide)⟩
  exact Bool.and_eq_true_iff.mpr ⟨lay, decide_eq_true (by omega)⟩
/-- keywords of a def without defaults, all behind the positional ones -/
theorem kb_of {K : PySem.W.Frag} {x q : Str} {params : Arguments} {body : List Stmt} {scope : Scope} {f : Addr} {fd : FuncData} {ps ks : List Str} {n : Nat} (F : FunD K x q params body scope [] [] f fd)
    (h : ∀ (kV doc pm : Value) (an : Option Addr) (cdv ct : Value) (us ws : List Value), us.length = n → ws.length = ks.length → bindArgs (PySem.W.fnOf x q params body scope .none kV doc pm an cdv ct) ⟨us, ks.zip ws⟩ = pure (ps.zip (us ++ ws))) :
    KBn K fd ps n ks (fun us ws => us ++ ws) (fun vs zs => vs ++ zs) := by
  obtain ⟨oc, od, dV, kV, doc, pm, an, cdv, ct, osl, rfl, lk, hcd, hD, hK⟩ := F.ex
  rcases hD with ⟨_, rfl⟩ | ⟨e, _⟩
  · exact ⟨fun s us ws _ l1 l2 => .of_eq (h kV doc pm an cdv ct us ws l1 l2), fun r1 r2 => r1.append r2⟩
  · exact absurd rfl e
end Ca
set_option Elab.async false
set_option linter.all false
set_option maxRecDepth 100000
set_option maxHeartbeats 4000000
namespace Ca
open PySem L2
/-! ### a stretch of a row otherwise -/
def isOneD : PyData → List Str → Bool
  | .str x, ws => decide (x ∈ ws)
  | _, _ => false
def isChangeD : PyData → List Str → List Str → Bool
  | .tuple [n, p, s], ns, ps => isOneD n ns && (isOneD p ps && isStretchD s)
  | _, _, _ => false
def textsD (ws : List Str) : PyData := .tuple (ws.map .str)
def spOne (K : PySem.W.Frag) : Sp := fun vs H Q _ => ∃ v d u ws, vs = [v, u] ∧ Dq K H v d ∧ Dq K H u (textsD ws) ∧ ∀ H', Same H H' → Q (.bl (isOneD d ws)) H'
def spIsChange (K : PySem.W.Frag) : Sp := fun vs H Q _ => ∃ v d u ns t ps, vs = [v, u, t] ∧ Dq K H v d ∧ Dq K H u (textsD ns) ∧ Dq K H t (textsD ps) ∧ ∀ H', Same H H' → Q (.bl (isChangeD d ns ps)) H'
theorem change_bad {d : PyData} {ns ps : List Str} (h : isTupN d 3 = false) : isChangeD d ns ps = false := by
  cases d with
  | tuple ds =>
    match ds with
    | [] => simp [isChangeD]
    | [_] => simp [isChangeD]
    | [_, _] => simp [isChangeD]
    | [_, _, _] => cases h
    | _ :: _ :: _ :: _ :: _ => simp [isChangeD]
  | _ => rfl
/-- the row with this stretch at a place, that of the bound behind the others -/
def withAt (r : Rw) (k : Nat) (p : Int × Int) : Rw := if k < r.parts.length then ⟨r.name, r.parts.set k p, r.bd⟩ else ⟨r.name, r.parts, p⟩
theorem withAt_name (r : Rw) (k : Nat) (p : Int × Int) : (withAt r k p).name = r.name := by
  unfold withAt
  split <;> rfl
theorem withAt_len (r : Rw) (k : Nat) (p : Int × Int) : (withAt r k p).parts.length = r.parts.length := by
  unfold withAt
  split
  · exact List.length_set
  · rfl
theorem withAt_all (r : Rw) {k : Nat} (p : Int × Int) (h : k ≤ r.parts.length) : (withAt r k p).parts ++ [(withAt r k p).bd] = (r.parts ++ [r.bd]).set k p := by
  unfold withAt
  split
  · rename_i c
    rw [List.set_append_left _ _ c]
  · rename_i c
    have e : k = r.parts.length := by omega
    rw [List.set_append_right _ _ (by omega), e, Nat.sub_self]
    rfl
theorem row_all_ok {r : Rw} {m : Nat} (h : isRowD (rowD r) m = true) : ∀ p ∈ r.parts ++ [r.bd], isStretchD (strD p) = true := by
  obtain ⟨_, h2⟩ := Bool.and_eq_true_iff.mp (show (nameS r.name && (isTupN (.tuple (r.parts.map strD)) m && ((partsOf (.tuple (r.parts.map strD)) ++ [strD r.bd]).all isStretchD))) = true from h)
  obtain ⟨_, h4⟩ := Bool.and_eq_true_iff.mp h2
  intro p hp
  refine List.all_eq_true.mp h4 (strD p) ?_
  show strD p ∈ r.parts.map strD ++ [strD r.bd]
  rw [show r.parts.map strD ++ [strD r.bd] = (r.parts ++ [r.bd]).map strD by rw [List.map_append]; rfl]
  exact List.mem_map_of_mem hp
theorem withAt_ok {r : Rw} {m k : Nat} {p : Int × Int} (h : isRowD (rowD r) m = true) (hk : k ≤ m) (hp : isStretchD (strD p) = true) : isRowD (rowD (withAt r k p)) m = true := by
  obtain ⟨hn, hl⟩ := row_name h
  refine row_ok (by rw [withAt_name]; exact hn) (by rw [withAt_len]; exact hl) fun z hz => ?_
  rw [withAt_all r p (by omega)] at hz
  rcases List.mem_or_eq_of_mem_set hz with hz | rfl
  · exact row_all_ok h z hz
  · exact hp
/-- rows, of which those with a name have this stretch at a place -/
def chg (rs : List Rw) (n : Str) (k : Nat) (p : Int × Int) : List Rw := rs.map fun r => if r.name = n then withAt r k p else r
theorem chg_names (rs : List Rw) (n : Str) (k : Nat) (p : Int × Int) : (chg rs n k p).map Rw.name = rs.map Rw.name := by
  unfold chg
  rw [List.map_map]
  refine List.map_congr_left fun r _ => ?_
  show (if r.name = n then withAt r k p else r).name = r.name
  split
  · exact withAt_name r k p
  · rfl
theorem chg_ok {rs : List Rw} {n : Str} {m k : Nat} {p : Int × Int} (L : Lines rs m) (hk : k ≤ m) (hp : isStretchD (strD p) = true) : Lines (chg rs n k p) m := by
  refine ⟨by unfold chg; rw [List.length_map]; exact L.hi, fun r hr => ?_, by rw [chg_names]; exact L.nd⟩
  obtain ⟨z, hz, rfl⟩ := List.mem_map.mp hr
  show isRowD (rowD (if z.name = n then withAt z k p else z)) m = true
  split
  · exact withAt_ok (L.ok z hz) hk hp
  · exact L.ok z hz
theorem chg_get {rs : List Rw} {n : Str} {k i : Nat} {p : Int × Int} (h : i < rs.length) : (chg rs n k p)[i]? = some (if rs[i].name = n then withAt rs[i] k p else rs[i]) := by
  unfold chg
  rw [List.getElem?_map, List.getElem?_eq_getElem h]
  rfl
theorem cut_init (xs : List V) (h : xs ≠ []) : cutV xs none (some (-1)) = xs.dropLast := by
  unfold cutV
  have hl : 0 < xs.length := List.length_pos_iff.mpr h
  have e : HT.sIx xs.length xs.length (some (-1)) = xs.length - 1 := by
    unfold HT.sIx
    simp
    omega
  rw [HT.sIx_none, e, List.drop_zero, Nat.sub_zero, ← List.dropLast_eq_take]
end Ca
set_option Elab.async false
set_option linter.all false
set_option maxRecDepth 100000
set_option maxHeartbeats 4000000
namespace Ca
open PySem L2
theorem ixNk {n k : Nat} (h : k < n) : ixN n (k : Int) = some k := by
  unfold ixN
  rw [if_pos (by omega), if_pos (by omega)]
  simp
theorem DqAll.set {K : PySem.W.Frag} {H : Hp} {v : V} {d : PyData} (hv : Dq K H v d) : ∀ {vs : List V} {ds : List PyData} (k : Nat), DqAll K H vs ds → DqAll K H (vs.set k v) (ds.set k d)
  | _, _, _, .nil => .nil
  | _, _, 0, .cons _ t => .cons hv t
  | _, _, k + 1, .cons a t => .cons a (t.set hv k)
theorem set_split {K : PySem.W.Frag} {H : Hp} {xs : List V} {v3 v : V} {r : Rw} {p : Int × Int} {k : Nat} (h1 : DqAll K H xs (r.parts.map strD)) (h2 : Dq K H v3 (strD r.bd)) (hv : Dq K H v (strD p)) (hk : k ≤ r.parts.length) :
    ∃ ys z, (xs ++ [v3]).set k v = ys ++ [z] ∧ DqAll K H ys ((withAt r k p).parts.map strD) ∧ Dq K H z (strD (withAt r k p).bd) := by
  have hl : xs.length = r.parts.length := by rw [h1.len, List.length_map]
  unfold withAt
  split
  · rename_i c
    refine ⟨xs.set k v, v3, by rw [List.set_append_left _ _ (by omega)], ?_, h2⟩
    show DqAll K H (xs.set k v) ((r.parts.set k p).map strD)
    rw [List.map_set]
    exact h1.set hv k
  · rename_i c
    have e : k = xs.length := by omega
    refine ⟨xs, v, ?_, h1, hv⟩
    rw [List.set_append_right _ _ (by omega), e, Nat.sub_self]
    rfl
def spRowWith (K : PySem.W.Frag) : Sp := fun vs H Q _ => ∃ v r m k u p, vs = [v, .int (k : Nat), u] ∧ Dq K H v (rowD r) ∧ isRowD (rowD r) m = true ∧ m ≤ 3 ∧ k ≤ m ∧ Dq K H u (strD p) ∧ ∀ H' y, Same H H' → Dq K H' y (rowD (withAt r k p)) → Q y H'
section
variable {P : Program} {w : World} {K : PySem.W.Frag} {mg : Str → Option Value} {base : Heap} {C fI : Addr} {fdI : FuncData}
theorem scIsOne : FnScope ["value", "words"] ["value", "words"] (defScope sIsOneOf) := ⟨rfl, rfl, rfl, by decide +kernel, rfl, by decide +kernel, by decide +kernel⟩
theorem ok_isOne {f : Addr} {fd : FuncData} (F : FnT K "is_one_of" sIsOneOf f fd) (B : Bn mg) : FnOk P w K mg base CX0 1 f fd ["value", "words"] (spOne K) := by
  refine F.ok scIsOne (fun vs H Q E h => ?_) (fun cdv A outer s H vs Q E hr h => ?_)
  · obtain ⟨v, d, u, ws, rfl, _⟩ := h
    rfl
  · obtain ⟨v, d, u, ws, rfl, hd, hu, q⟩ := h
    have q0 := q H (fun _ _ e => e)
    refine ⟨_, PSs.nox (pss_one (ps_ret (pe_and (pe_callB call_isi (by rfl) B.isi PyProof.Rows.boot_isinstance (pa_cons (pv 0) (pa_cons (pe_bltn (v := .ty "str") (by rfl) B.str (by decide +kernel) rfl) pa_nil)))
      (pe_one (pe_cmpR op_in_seq (pv 0) (pv 1) (by rfl)))))), ?_⟩
    refine rd_isd hd rfl (kit_str d) ⟨_, rfl, ?_⟩
    cases d with
    | str x =>
      cases hd with
      | str _ hx =>
        obtain ⟨a, xs, rfl, h1, h2, _⟩ := tup_len hu
        obtain ⟨rfl, _⟩ := strs_of h2
        refine iteT ⟨_, rfl, _, rfl, a, _, rfl, .inr h1, rfl, flat_strs ws, ?_⟩
        rw [inV_strs]
        exact q0
    | _ => exact iteF q0
abbrev NChange : List Str := ["value", "names", "places", "name", "place", "stretch"]
theorem scIsChange : FnScope NChange ["value", "names", "places"] (defScope sIsChange) := ⟨rfl, rfl, rfl, by decide +kernel, rfl, by decide +kernel, by decide +kernel⟩
theorem ok_isChange {f fT fO fS : Addr} {fd fdT fdO fdS : FuncData} (F : FnT K "is_change" sIsChange f fd)
    (gT : mg "is_tuple_of" = some (.ref fT)) (GT : FnOk P w K mg base CX0 1 fT fdT ["value", "many"] (spIs2 K isTupN)) (kT : PySem.W.keepIn K (.ref fT) = true) (bT : Binds K fdT ["value", "many"] [])
    (gO : mg "is_one_of" = some (.ref fO)) (GO : FnOk P w K mg base CX0 1 fO fdO ["value", "words"] (spOne K)) (kO : PySem.W.keepIn K (.ref fO) = true) (bO : Binds K fdO ["value", "words"] [])
    (gS : mg "is_stretch" = some (.ref fS)) (GS : FnOk P w K mg base CX0 2 fS fdS ["value"] (spIs K isStretchD)) (kS : PySem.W.keepIn K (.ref fS) = true) (bS : Binds K fdS ["value"] []) :
    FnOk P w K mg base CX0 3 f fd ["value", "names", "places"] (spIsChange K) := by
  refine F.ok scIsChange (fun vs H Q E h => ?_) (fun cdv A outer s H vs Q E hr h => ?_)
  · obtain ⟨v, d, u, ns, t, ps, rfl, _⟩ := h
    rfl
  · obtain ⟨v, d, u, ns, t, ps, rfl, hd, hu, ht, q⟩ := h
    have nd := scIsChange.nd
    have hr1 : Room 1 _ := hr.mono (by decide)
    refine ⟨_, PSs.nox (pss_cons (ps_if (pt_not (pt_val (pe_call GT hr1 rfl gT kT bT .nil pass0 (pa_cons (pv 0) (pa_cons pe_int pa_nil))))) (pss_one (ps_ret pe_bl)) pss_nil)
      (pss_cons (ps_asg (pv 0) (pg_tup rfl (pgs_cons (pg_name (i := 3) nd rfl (.inl rfl)) (pgs_cons (pg_name (i := 4) nd rfl (.inl rfl)) (pgs_cons (pg_name (i := 5) nd rfl (.inl rfl)) pgs_nil)))))
      (pss_one (ps_ret (pe_and (pe_call GO hr1 rfl gO kO bO .nil pass0 (pa_cons (pv 3) (pa_cons (pv 1) pa_nil))) (pe_and (pe_call GO hr1 rfl gO kO bO .nil pass0 (pa_cons (pv 4) (pa_cons (pv 2) pa_nil))) (pe_one (pe_call GS hr rfl gS kS bS .nil pass0 (pa_cons (pv 5) pa_nil))))))))), ?_⟩
    refine ⟨_, rfl, v, d, 3, rfl, by decide, hd, fun H1 s1 => ⟨_, rfl, ?_⟩⟩
    cases g : isTupN d 3 with
    | false =>
      have q1 := q H1 s1
      rw [change_bad g] at q1
      exact iteT q1
    | true =>
      cases d with
      | tuple ds =>
        have hl : ds.length = 3 := of_decide_eq_true g
        match ds, hl with
        | [d1, d2, d3], _ =>
          have hd1 := hd.same s1
          cases hd1 with
          | @tup a xs _ h1 h2 =>
            cases h2 with
            | @cons v1 _ _ _ e1 r1 =>
              cases r1 with
              | @cons v2 _ _ _ e2 r2 =>
                cases r2 with
                | @cons v3 _ _ _ e3 r3 =>
                  cases r3
                  refine iteF ⟨_, rfl, a, _, rfl, h1, rfl, _, _, rfl, _, _, rfl, _, _, rfl, rfl, ?_⟩
                  refine ⟨_, rfl, _, rfl, v1, d1, u, ns, rfl, e1, hu.same s1, fun H2 s2 => ⟨_, rfl, ?_⟩⟩
                  have q2 : ∀ H', Same H2 H' → Q (.bl (isOneD d1 ns && (isOneD d2 ps && isStretchD d3))) H' := fun H' s' => q H' (s1.trans (s2.trans s'))
                  cases g2 : isOneD d1 ns with
                  | false =>
                    rw [g2] at q2
                    exact iteF (q2 H2 fun _ _ e => e)
                  | true =>
                    rw [g2] at q2
                    refine iteT ⟨_, rfl, _, rfl, v2, d2, t, ps, rfl, e2.same s2, ht.same (s1.trans s2), fun H3 s3 => ⟨_, rfl, ?_⟩⟩
                    cases g3 : isOneD d2 ps with
                    | false =>
                      rw [g3] at q2
                      exact iteF (q2 H3 s3)
                    | true =>
                      rw [g3] at q2
                      exact iteT ⟨_, rfl, v3, d3, rfl, e3.same (s2.trans s3), fun H4 s4 => q2 H4 (s3.trans s4)⟩
      | _ => cases g
abbrev NRowW : List Str := ["row", "at", "stretch", "stretches"]
theorem scRowWith : FnScope NRowW ["row", "at", "stretch"] (defScope sRowWith) := ⟨rfl, rfl, rfl, by decide +kernel, rfl, by decide +kernel, by decide +kernel⟩
theorem ok_rowWith {f : Addr} {fd : FuncData} (F : FnT K "row_with" sRowWith f fd) (B : Bn mg) : FnOk P w K mg base CX0 1 f fd ["row", "at", "stretch"] (spRowWith K) := by
  refine F.ok scRowWith (fun vs H Q E h => ?_) (fun cdv A outer s H vs Q E hr h => ?_)
  · obtain ⟨v, r, m, k, u, p, rfl, _⟩ := h
    rfl
  · obtain ⟨v, r, m, k, u, p, rfl, hd, ok, hm, hk, hu, q⟩ := h
    have nd := scRowWith.nd
    refine ⟨_, PSs.nox (pss_cons (ps_cut (ps_set (i := 3) nd rfl (.inl rfl) (pe_lst (StX.pa_star (pe_ix ix_tup (pv 0) pe_int (fun _ _ => rfl)) (pa_cons (pe_ix ix_tup (pv 0) pe_int (fun _ _ => rfl)) pa_nil)))))
      (pss_cons (ps_cut (ps_asg (pv 2) (pg_sub (pv 3) (pv 1) set_list)))
      (pss_one (ps_ret (pe_tup (pa_cons (pe_ix ix_tup (pv 0) pe_int (fun _ _ => rfl)) (pa_cons (pe_callTy call_tuple_of (by rfl) B.tup (by decide +kernel) (pa_cons (pe_slice sl_list (pv 3) po_none (po_some (pe_un un_neg pe_int))) pa_nil))
        (pa_cons (pe_ix ix_list (pv 3) (pe_un un_neg pe_int) (fun _ _ => rfl)) pa_nil)))))))), ?_⟩
    obtain ⟨a, v2, v3, rfl, ha, d2, d3, hname⟩ := row_at hd
    obtain ⟨b, xs, rfl, h1, h2, hl⟩ := tup_len d2
    rw [List.length_map] at hl
    have hp3 := (row_name ok).2
    refine ⟨fun σ' H' => ∃ l, σ' = [some (.ref a), some (.int (k : Nat)), some u, some (.ref l)] ∧ Same H H' ∧ H' l = some (.lst (xs ++ [v3])) ∧ H l = none, ?_, ?_⟩
    · refine ⟨_, rfl, a, _, 1, _, rfl, rfl, ha, atI_nat (j := 1) rfl, b, xs, rfl, .inl h1, _, rfl, a, _, 2, _, rfl, rfl, ha, atI_nat (j := 2) rfl, ?_, fun l hl => ⟨l, rfl, Same.new hl, upd_same, hl⟩⟩
      rw [List.length_append, hl, hp3]
      exact Nat.le_trans (Nat.succ_le_succ hm) (by decide)
    rintro _ H1 ⟨l, rfl, s1, bl, hl0⟩
    obtain ⟨ys, z, eset, dys, dz⟩ := set_split (h2.same s1) (d3.same s1) (hu.same s1) (show k ≤ r.parts.length by omega)
    have yl := dys.len
    rw [List.length_map, withAt_len] at yl
    refine ⟨fun σ' H' => σ' = [some (.ref a), some (.int (k : Nat)), some u, some (.ref l)] ∧ Same H H' ∧ H' l = some (.lst (ys ++ [z])) ∧ DqAll K H' ys ((withAt r k p).parts.map strD) ∧ Dq K H' z (strD (withAt r k p).bd), ?_, ?_⟩
    · refine ⟨_, rfl, _, rfl, _, rfl, l, _, _, _, rfl, rfl, bl, ixNk (show k < (xs ++ [v3]).length by rw [List.length_append, hl]; show k < r.parts.length + 1; omega), rfl, ?_⟩
      rw [eset]
      have kl : Kept l H1 (upd H1 l (.lst (ys ++ [z]))) := fun c o n e => by rw [upd_ne n]; exact e
      exact ⟨fun c o e => by rw [upd_ne (ne_of_none e hl0)]; exact s1 _ _ e, upd_same, DqAll.but bl kl (noLs_map strD noL_strD _) dys, Dq.but bl kl (noL_strD _) dz⟩
    rintro _ H2 ⟨rfl, s2, bl2, dys2, dz2⟩
    refine ⟨_, rfl, a, _, 0, _, rfl, rfl, same_sqt s2 ha, atI_nat (j := 0) rfl, _, rfl, _, rfl, _, rfl, l, _, rfl, SqL.of bl2, fun p2 hp2 => ?_⟩
    rw [cut_init _ (by simp), List.dropLast_concat]
    have s3 := Same.new (o := .lst ys) hp2
    refine ⟨p2, _, rfl, .inl ⟨SqL.of upd_same, fun p3 hp3 => ?_⟩⟩
    have s4 := Same.new (o := .tup ys) hp3
    refine ⟨_, rfl, _, rfl, l, _, _, _, rfl, rfl, SqL.of (s4 _ _ (s3 _ _ bl2)), atI_last ys z, by show 3 ≤ sizeLine; decide, fun p4 hp4 => ?_⟩
    have s5 := Same.new (o := .tup [.str r.name, .ref p3, z]) hp4
    have s35 := s3.trans (s4.trans s5)
    refine q _ _ (s2.trans s35) (.tup (SqT.of upd_same) (.cons ?_ (.cons (.tup (SqT.of (s5 _ _ upd_same)) (dys2.same s35)) (.cons (dz2.same s35) .nil))))
    rw [withAt_name]
    exact .str _ hname
end
end Ca
set_option Elab.async false
set_option linter.all false
set_option maxRecDepth 100000
set_option maxHeartbeats 4000000
namespace Ca
open PySem L2
def boundL : List Str := ["bound"]
def chD (n p : Str) (s : Int × Int) : PyData := .tuple [.str n, .str p, strD s]
theorem places_nd {ns : List Str} (N : Folk ns) : (ns ++ boundL).Nodup := by
  refine List.nodup_append.mpr ⟨N.nd, by decide +kernel, fun a ha b hb => ?_⟩
  rw [List.mem_singleton.mp hb]
  intro e
  have h := N.ok a ha
  rw [e] at h
  revert h
  decide +kernel
theorem nd_first {ys : List Str} (nd : ys.Nodup) {j : Nat} {z : Str} (h : ys[j]? = some z) : ∀ m, m < j → ys[m]? ≠ some z := fun m hm e => by
  obtain ⟨h1, e1⟩ := List.getElem?_eq_some_iff.mp h
  obtain ⟨h2, e2⟩ := List.getElem?_eq_some_iff.mp e
  exact List.pairwise_iff_getElem.mp nd m j h2 h1 hm (e2.trans e1.symm)
theorem place_len {ns : List Str} {x : Str} {j : Nat} (N : Folk ns) (h : (ns ++ boundL)[j]? = some x) : x.length ≤ 1000 := by
  have m := List.mem_of_getElem? h
  rcases List.mem_append.mp m with m | m
  · have := (name_parts (folk_names N x m)).2.1
    omega
  · rw [List.mem_singleton.mp m]
    decide
theorem place_lt {ns : List Str} {x : Str} {j : Nat} (h : (ns ++ boundL)[j]? = some x) : j ≤ ns.length := by
  have := (List.getElem?_eq_some_iff.mp h).1
  rw [List.length_append] at this
  have e : boundL.length = 1 := rfl
  omega
def spChanged (K : PySem.W.Frag) (C : Addr) : Sp := fun vs H Q _ => ∃ x v ns rs n p j s, vs = [.ref x, v] ∧ SysAt K C H x ns rs ∧ Dq K H v (chD n p s) ∧ n ∈ rs.map Rw.name ∧ (ns ++ boundL)[j]? = some p ∧ isStretchD (strD s) = true ∧ ∀ H' y, Same H H' → SysAt K C H' y ns (chg rs n j s) → Q (.ref y) H'
section
variable {P : Program} {w : World} {K : PySem.W.Frag} {mg : Str → Option Value} {base : Heap} {C fI fN pN : Addr} {fdI fdN : FuncData}
abbrev NCh : List Str := ["self", "change", "places", "name", "place", "stretch", "at", "rows", "row"]
theorem scCh : FnScope NCh ["self", "change"] (defScope mSystemChanged) := ⟨rfl, rfl, rfl, by decide +kernel, rfl, by decide +kernel, by decide +kernel⟩
theorem ok_changed {f fX fR : Addr} {fd fdX fdR : FuncData} (F : FnM K "changed" "System.changed" mSystemChanged [] f fd) (B : Bn mg) (Cc : Cn mg) (S : SysC K C) (M : Mk K C fI) (gS : mg "System" = some (.ref C))
    (GI : FnOk P w K mg base CX0 5 fI fdI ["self", "unknowns", "rows"] (spInit K C)) (bI : Binds K fdI ["self", "unknowns", "rows"] [])
    (na : PropOf K C "names" pN fN) (GN : FnOk P w K mg base CX0 1 fN fdN ["self"] (spNames K C)) (bN : Binds K fdN ["self"] [])
    (gX : mg "is_change" = some (.ref fX)) (GX : FnOk P w K mg base CX0 3 fX fdX ["value", "names", "places"] (spIsChange K)) (kX : PySem.W.keepIn K (.ref fX) = true) (bX : Binds K fdX ["value", "names", "places"] [])
    (gR : mg "row_with" = some (.ref fR)) (GR : FnOk P w K mg base CX0 1 fR fdR ["row", "at", "stretch"] (spRowWith K)) (kR : PySem.W.keepIn K (.ref fR) = true) (bR : Binds K fdR ["row", "at", "stretch"] []) :
    FnOk P w K mg base CX0 7 f fd ["self", "change"] (spChanged K C) := by
  obtain ⟨t1, c1⟩ := Cc.bound
  refine F.ok scCh (fun vs H Q E h => ?_) (fun cdv A outer s H vs Q E hr h => ?_)
  · obtain ⟨x, v, ns, rs, n, p, j, st, rfl, _⟩ := h
    rfl
  · obtain ⟨x, v, ns, rs, n, p, j, st, rfl, hX, dv, hn, hj, hst, q⟩ := h
    have nd := scCh.nd
    have hr1 : Room 1 _ := hr.mono (by decide)
    have hr2 : Room 2 _ := hr.mono (by decide)
    have hr3 : Room 3 _ := hr.mono (by decide)
    refine ⟨_, PSs.nox (pss_cons (ps_cut (ps_set (i := 2) nd rfl (.inl rfl) (pe_tupN (StX.pa_star (pe_fld (pv 0) rfl) (pa_cons (pe_glob (v := .str "bound") rfl c1 ⟨_, rfl⟩) pa_nil)))))
      (pss_cons (ps_cut (ps_if (pt_not (pt_val (pe_call GX hr3 rfl gX kX bX .nil pass0 (pa_cons (pv 1) (pa_cons (pe_prop (pv 0) S.cl na GN hr2 bN .nil pass0 rfl) (pa_cons (pv 2) pa_nil)))))) (pss_one ps_never) pss_nil))
      (pss_cons (ps_asg (pv 1) (pg_tup rfl (pgs_cons (pg_name (i := 3) nd rfl (.inr rfl)) (pgs_cons (pg_name (i := 4) nd rfl (.inl rfl)) (pgs_cons (pg_name (i := 5) nd rfl (.inr rfl)) pgs_nil)))))
      (pss_cons (ps_set (i := 6) nd rfl (.inr rfl) (pe_bmN PySem.F.slot_tuple_index PySem.F.type_tuple_index mt_tup_index (pv 2) (pa_cons (pv 4) pa_nil)))
      (pss_cons (ps_cut (ps_setLc (i := 7) (own := [("row", 8)]) (g := gName 8) (tt := tYes) rfl nd rfl rfl (sw_true rfl rfl rfl (by decide +kernel)) (pi_tup (pe_fld (pv 0) rfl))
          (blkOk_by (own := [("row", 8)]) (N := NCh) (sc := defScope mSystemChanged) (by decide +kernel)) (fun _ _ _ _ _ => pg_name (i := 8) nd rfl (Or.inl rfl)) (fun _ _ _ _ _ => pts_nil)
          (fun _ _ _ _ _ => pe_ifExp (pt_cmpR op_eq (pe_ix (ixT K) (pv 8) pe_int (fun _ _ => rfl)) (pv 3) (nomark _)) (pe_call GR hr1 rfl gR kR bR .nil pass0 (pa_cons (pv 8) (pa_cons (pv 6) (pa_cons (pv 5) pa_nil)))) (pv 8))))
      (pss_one (ps_ret (pe_make M GI hr rfl gS bI .nil pass0 (pa_cons (pe_fld (pv 0) rfl) (pa_cons (pe_callTy call_tuple_of (by rfl) B.tup (by decide +kernel) (pa_cons (pv 7) pa_nil)) pa_nil)))))))))), ?_⟩
    obtain ⟨hN, hL, dx, u, t, hx, du, dr⟩ := id hX
    have n3 := hN.hi
    have r6 := hL.hi
    have hjl := place_lt hj
    refine ⟨fun σ' H' => ∃ pl, σ' = [some (.ref x), some v, some (.ref pl), none, none, none, none, none, none] ∧ Same H H' ∧ TupN H' pl ((ns ++ boundL).map V.str), ?_, ?_⟩
    · obtain ⟨a, xs, rfl, h1, h2, hl⟩ := tup_len du
      obtain ⟨rfl, _⟩ := strs_of h2
      refine ⟨_, rfl, x, C, dx, _, _, rfl, hx, S.cl, S.nu, rfl, a, _, rfl, .inl h1, ?_, fun pl H2 hp s2 tn => ⟨pl, rfl, s2, ?_⟩⟩
      · rw [List.length_append, List.length_map]
        exact Nat.le_trans (show ns.length + 1 ≤ 100 by omega) (by decide)
      · rw [List.map_append]
        exact tn
    rintro _ H1 ⟨pl, rfl, s1, tn1⟩
    refine ⟨fun σ' H' => σ' = [some (.ref x), some v, some (.ref pl), none, none, none, none, none, none] ∧ Same H1 H', ?_, ?_⟩
    · have hx1 := s1 _ _ hx
      refine ⟨_, rfl, _, rfl, x, dx, _, rfl, hx1, x, ns, rs, rfl, hX.same s1, fun H2 nm s2 dnm => ⟨_, rfl, v, chD n p st, nm, rs.map Rw.name, .ref pl, ns ++ boundL, rfl, dv.same (s1.trans s2), dnm, .tup (tn1.same s2).sq (strs_dq fun y hy => ?_), fun H3 s3 => ⟨_, rfl, ?_⟩⟩⟩
      · obtain ⟨i, hi⟩ := List.mem_iff_getElem?.mp hy
        exact place_len hN hi
      · have e : isChangeD (chD n p st) (rs.map Rw.name) (ns ++ boundL) = true := by
          show (decide (n ∈ rs.map Rw.name) && (decide (p ∈ ns ++ boundL) && isStretchD (strD st))) = true
          rw [decide_eq_true hn, decide_eq_true (List.mem_of_getElem? hj), hst]
          rfl
        rw [e]
        exact iteF ⟨rfl, s2.trans s3⟩
    rintro _ H2 ⟨rfl, s2⟩
    have s12 := s1.trans s2
    have dv2 := dv.same s12
    have tn2 := tn1.same s2
    have hx2 := s12 _ _ hx
    have dr2 := dr.same s12
    have du2 := du.same s12
    obtain ⟨av, xv, rfl, hv1, hv2, _⟩ := tup_len dv2
    cases hv2 with
    | @cons w1 _ _ _ e1 z1 =>
    cases z1 with
    | @cons w2 _ _ _ e2 z2 =>
    cases z2 with
    | @cons w3 _ _ _ e3 z3 =>
    cases z3
    cases e1
    cases e2
    refine ⟨_, rfl, av, _, rfl, hv1, rfl, _, _, rfl, _, _, rfl, _, _, rfl, rfl, ?_⟩
    refine ⟨_, rfl, ⟨pl, _, rfl, tn2⟩, _, rfl, pl, _, p, j, rfl, rfl, tn2.sq, hj, nd_first (places_nd hN) hj, ?_⟩
    refine ⟨fun σ' H' => ∃ D xs, σ' = [some (.ref x), some (.ref av), some (.ref pl), some (.str n), some (.str p), some w3, some (.int (j : Nat)), some (.ref D), none] ∧ Same H2 H' ∧ H' D = some (.lst xs) ∧ DqAll K H' xs ((chg rs n j st).map rowD), ?_, ?_⟩
    · obtain ⟨b, ys, rfl, g1, g2, gl⟩ := tup_len dr2
      rw [List.length_map] at gl
      refine ⟨_, rfl, x, C, dx, _, _, rfl, hx2, S.cl, S.nr, rfl, b, rfl, ⟨_, g1⟩, fun D hD => ?_⟩
      refine lc_it (walk_tup (K := K) (a := b) (xs := ys)) (fun i H' => Same H2 H' ∧ ∃ xs, H' D = some (.lst xs) ∧ xs.length = i ∧ DqAll K H' xs (((chg rs n j st).take i).map rowD)) ⟨Same.new hD, [], upd_same, rfl, .nil⟩ (fun i H' hi p => same_sqt p.1 g1) ?_ ?_
      · rintro i z _ H5 hi ⟨s5, xs, bD, lx, dxs⟩ ⟨rfl, hz⟩
        have hi2 : i < rs.length := by rw [← gl]; exact hi
        obtain ⟨d, hd, dz⟩ := (g2.same s5).get hz
        rw [List.getElem?_map, List.getElem?_eq_getElem hi2] at hd
        cases hd
        obtain ⟨c, v2, v3, rfl, hc, _, _, _⟩ := row_at dz
        have fin : ∀ H6 y, Same H5 H6 → Dq K H6 y (rowD (if rs[i].name = n then withAt rs[i] j st else rs[i])) → ∃ acc, H6 D = some (.lst acc) ∧ acc.length < sizeLine ∧ (Same H2 (upd H6 D (.lst (acc ++ [y]))) ∧ ∃ xs, upd H6 D (.lst (acc ++ [y])) D = some (.lst xs) ∧ xs.length = i + 1 ∧ DqAll K (upd H6 D (.lst (acc ++ [y]))) xs (((chg rs n j st).take (i + 1)).map rowD)) := fun H6 y s6 dy => by
          have bD6 := s6 _ _ bD
          have kD : Kept D H6 (upd H6 D (.lst (xs ++ [y]))) := fun b o n e => by rw [upd_ne n]; exact e
          refine ⟨xs, bD6, by rw [lx]; exact Nat.lt_trans (show i < 7 by omega) (by decide), fun b o e => ?_, xs ++ [y], upd_same, by rw [List.length_append, lx]; rfl, ?_⟩
          · rw [upd_ne (ne_of_none e hD)]
            exact s6 _ _ (s5 _ _ e)
          · rw [List.take_succ, chg_get hi2, List.map_append]
            exact (DqAll.but bD6 kD (noLs_map rowD noL_row _) (dxs.same s6)).app (.cons (Dq.but bD6 kD (noL_row _) dy) .nil)
        refine ⟨rfl, rdYes ⟨_, rfl, c, _, 0, _, rfl, rfl, hc, atI_nat (j := 0) rfl, _, rfl, rfl, _, rfl, ?_⟩⟩
        by_cases g : rs[i].name = n
        · rw [decide_eq_true (show V.str rs[i].name = V.str n by rw [g])]
          refine iteT ⟨_, rfl, _, rfl, _, rfl, .ref c, rs[i], ns.length, j, w3, st, rfl, dz, hL.ok _ (List.getElem_mem hi2), n3, hjl, e3.same s5, fun H6 y s6 dy => fin H6 y s6 ?_⟩
          rw [if_pos g]
          exact dy
        · rw [decide_eq_false (show ¬ V.str rs[i].name = V.str n from fun e => g (by injection e))]
          refine iteF ⟨_, rfl, fin H5 _ (fun _ _ e => e) ?_⟩
          rw [if_neg g]
          exact dz
      · rintro H5 ⟨s5, xs, bD, lx, dxs⟩
        rw [gl, show rs.length = (chg rs n j st).length by unfold chg; rw [List.length_map], List.take_length] at dxs
        exact ⟨D, xs, rfl, s5, bD, dxs⟩
    rintro _ H3 ⟨D, xs, rfl, s3, bD, dxs⟩
    have hL2 : Lines (chg rs n j st) ns.length := chg_ok hL hjl hst
    refine ⟨_, rfl, x, C, dx, _, _, rfl, s3 _ _ hx2, S.cl, S.nu, rfl, _, rfl, D, _, rfl, .inl ⟨SqL.of bD, fun tp htp y dy hy hdy ne => ?_⟩⟩
    have s4 := Same.new (o := .tup xs) htp
    have s04 := s12.trans (s3.trans s4)
    have sn := made_new (C := C) hy hdy
    have dt : Dq K (upd H3 tp (.tup xs)) (.ref tp) (rowsD (chg rs n j st)) := .tup (SqT.of upd_same) (dxs.same s4)
    refine ⟨y, dy, u, .ref tp, ns, chg rs n j st, rfl, upd_same, (du.same s04).same sn, hN, dt.same sn, hL2, fun H6 k6 x6 => ⟨rfl, ?_⟩⟩
    have s6 := made_same hy hdy k6
    exact q H6 y (s04.trans s6) ⟨hN, hL2, dy, u, .ref tp, x6, (du.same s04).same s6, dt.same s6⟩
end
end Ca
set_option Elab.async false
set_option linter.all false
set_option maxRecDepth 100000
set_option maxHeartbeats 4000000
namespace Ca
open PySem L2
section
variable {X : Cx}
theorem listOfK (K : PySem.W.Frag) (h : X.K = K := by rfl) : CallR X (.type "list") (fun xs H Q => ∃ p ys, xs = [.ref p] ∧ (SqL K H p ys ∨ SqT K H p ys) ∧ ∀ l, H l = none → Q (.ref l) (upd H l (.lst ys))) := h ▸ call_list_of
end
/-- a case that stands at c: its unknowns at u, its rows at r -/
structure CsN (K : PySem.W.Frag) (c u r : Addr) (ns : List Str) (rs : List Rw) (H : Hp) : Prop where
  sq : SqT K H c [.ref u, .ref r]
  tn : TupN H u (ns.map V.str)
  dr : Dq K H (.ref r) (rowsD rs)
theorem CsN.same {K : PySem.W.Frag} {c u r : Addr} {ns : List Str} {rs : List Rw} {H H' : Hp} (h : CsN K c u r ns rs H) (s : Same H H') : CsN K c u r ns rs H' := ⟨same_sqt s h.sq, h.tn.same s, h.dr.same s⟩
theorem CsN.kept {K : PySem.W.Frag} {c u r l : Addr} {ns : List Str} {rs : List Rw} {H H' : Hp} {ys : List V} (hl : H l = some (.lst ys)) (h : CsN K c u r ns rs H) (k : Kept l H H') : CsN K c u r ns rs H' :=
  ⟨sqt_but hl k h.sq, h.tn.kept hl k, Dq.but hl k (noL_rows rs) h.dr⟩
theorem CsN.fo {K : PySem.W.Frag} {c u r : Addr} {ns : List Str} {rs : List Rw} {H : Hp} (h : CsN K c u r ns rs H) (N : Folk ns) : Dq K H (.ref u) (folkD ns) := .tup h.tn.sq (strs_dq fun x z => by
  have := (name_parts (folk_names N x z)).2.1
  omega)
theorem CsN.dq {K : PySem.W.Frag} {c u r : Addr} {ns : List Str} {rs : List Rw} {H : Hp} (h : CsN K c u r ns rs H) (N : Folk ns) : Dq K H (.ref c) (caseD ns rs) := .tup h.sq (.cons (h.fo N) (.cons h.dr .nil))
theorem ch_at {K : PySem.W.Frag} {H : Hp} {v : V} {n p : Str} {s : Int × Int} (h : Dq K H v (chD n p s)) : ∃ a w3, v = .ref a ∧ SqT K H a [.str n, .str p, w3] ∧ Dq K H w3 (strD s) := by
  obtain ⟨a, xs, rfl, h1, h2, _⟩ := tup_len h
  cases h2 with
  | @cons w1 _ _ _ e1 z1 =>
  cases z1 with
  | @cons w2 _ _ _ e2 z2 =>
  cases z2 with
  | @cons w3 _ _ _ e3 z3 =>
  cases z3
  cases e1
  cases e2
  exact ⟨a, w3, rfl, h1, e3⟩
theorem place_bound {ns : List Str} {j : Nat} (N : Folk ns) (h : (ns ++ boundL)[j]? = some ("bound" : Str)) : j = ns.length := by
  obtain ⟨h1, e1⟩ := List.getElem?_eq_some_iff.mp h
  have h2 : ns.length < (ns ++ boundL).length := by
    rw [List.length_append]
    exact Nat.lt_succ_self _
  have e2 : (ns ++ boundL)[ns.length] = "bound" := by
    rw [List.getElem_append_right (Nat.le_refl _)]
    simp [boundL]
  exact (List.getElem_inj (places_nd N)).mp (e1.trans e2.symm)
theorem place_other {ns : List Str} {j : Nat} {p : Str} (h : (ns ++ boundL)[j]? = some p) (hp : p ≠ "bound") : ns[j]? = some p := by
  by_cases g : j < ns.length
  · rw [List.getElem?_append_left g] at h
    exact h
  · rw [List.getElem?_append_right (Nat.le_of_not_lt g)] at h
    have e0 : j - ns.length = 0 := by
      cases z : j - ns.length with
      | zero => rfl
      | succ k => rw [z] at h; cases h
    rw [e0] at h
    cases h
    exact absurd rfl hp
def spLCh (K : PySem.W.Frag) : Sp := fun vs H Q _ => ∃ c u r v ns rs n p j s, vs = [.ref c, v] ∧ CsN K c u r ns rs H ∧ Folk ns ∧ Lines rs ns.length ∧ Dq K H v (chD n p s) ∧ (ns ++ boundL)[j]? = some p ∧ isStretchD (strD s) = true ∧ ∀ H' c' r', Same H H' → CsN K c' u r' ns (chg rs n j s) H' → Q (.ref c') H'
def spFromT (K : PySem.W.Frag) : Sp := fun vs H Q _ => ∃ (l a : Addr) (xs : List V), vs = [.ref l, .ref a] ∧ Urn H l ∧ SqT K H a xs ∧ 0 < xs.length ∧ xs.length < 1000 ∧ ∀ H' (i : Nat) v, xs[i]? = some v → Kept l H H' → Urn H' l → Q v H'
section
variable {P : Program} {w : World} {K : PySem.W.Frag} {mg : Str → Option Value} {base : Heap}
theorem scFromT : FnScope ["_law_urn_here", "_law_some"] ["_law_urn_here", "_law_some"] (defScope sLawFrom) := ⟨rfl, rfl, rfl, by decide +kernel, rfl, by decide +kernel, by decide +kernel⟩
theorem ok_fromT {f fD : Addr} {fd fdD : FuncData} (F : FnT K "_law_from" sLawFrom f fd) (B : Bn mg)
    (gD : mg "_law_dip" = some (.ref fD)) (GD : FnOk P w K mg base CX0 1 fD fdD ["_law_urn_here", "_law_top"] spDip) (kD : PySem.W.keepIn K (.ref fD) = true) (bD : Binds K fdD ["_law_urn_here", "_law_top"] []) :
    FnOk P w K mg base CX0 2 f fd ["_law_urn_here", "_law_some"] (spFromT K) := by
  refine F.ok scFromT (fun vs H Q E h => ?_) (fun cdv A outer s H vs Q E hr h => ?_)
  · obtain ⟨l, a, xs, rfl, _⟩ := h
    rfl
  · obtain ⟨l, a, xs, rfl, hU, hA, h0, h1, q⟩ := h
    refine ⟨_, PSs.nox (pss_one (ps_ret (pe_ix ix_tup (pv 1) (pe_call GD hr rfl gD kD bD .nil pass0 (pa_cons (pv 0) (pa_cons (pe_callB call_len (by rfl) B.len boot_len (pa_cons (pv 1) pa_nil)) pa_nil))) (fun _ _ => rfl)))), ?_⟩
    refine ⟨_, rfl, _, rfl, _, rfl, _, xs.length, rfl, .inr ⟨_, hA, rfl⟩, l, _, rfl, hU, by omega, by omega, fun H' r k u r0 r1 => ?_⟩
    have hi : r.toNat < xs.length := by omega
    exact ⟨a, xs, r, xs[r.toNat], rfl, rfl, sqt_but (urn_lst hU).choose_spec k hA, at_of (j := r.toNat) (by omega) (List.getElem?_eq_getElem hi), q _ r.toNat _ (List.getElem?_eq_getElem hi) k u⟩
abbrev NLC : List Str := ["_law_case_here", "_law_deed", "_law_found", "_law_title", "_law_parts", "_law_end", "_law_k"]
theorem scLC : FnScope NLC ["_law_case_here", "_law_deed"] (defScope sLawChanged) := ⟨rfl, rfl, rfl, by decide +kernel, rfl, by decide +kernel, by decide +kernel⟩
theorem ok_lawCh {f : Addr} {fd : FuncData} (F : FnT K "_law_changed" sLawChanged f fd) (B : Bn mg) : FnOk P w K mg base CX0 1 f fd ["_law_case_here", "_law_deed"] (spLCh K) := by
  refine F.ok scLC (fun vs H Q E h => ?_) (fun cdv A outer s H vs Q E hr h => ?_)
  · obtain ⟨c, u, r, v, ns, rs, n, p, j, st, rfl, _⟩ := h
    rfl
  · obtain ⟨c, u, r, v, ns, rs, n, p, j, st, rfl, hC, hN, hL, dv, hj, hst, q⟩ := h
    have nd := scLC.nd
    have n3 := hN.hi
    have r6 := hL.hi
    have hjl := place_lt hj
    refine ⟨_, PSs.nox (pss_cons (ps_set (i := 2) nd rfl (.inl rfl) (pe_lst pa_nil))
      (pss_cons (ps_for PassesOwn.never rfl (pi_tup (pe_ix ix_tup (pv 0) pe_int (fun _ _ => rfl))) (pg_tup rfl (pgs_cons (pg_name (i := 3) nd rfl (.inl rfl)) (pgs_cons (pg_name (i := 4) nd rfl (.inl rfl)) (pgs_cons (pg_name (i := 5) nd rfl (.inl rfl)) pgs_nil))))
        (pss_cons (ps_cut (ps_if (PW.pt (pw_and (pt_cmpR op_eq (pv 3) (pe_ix ix_tup (pv 1) pe_int (fun _ _ => rfl)) (nomark _)) (pw_and1 (pt_cmpR op_eq (pe_ix ix_tup (pv 1) pe_int (fun _ _ => rfl)) pe_str (nomark _)))))
            (pss_one (ps_set (i := 5) nd rfl (.inl rfl) (pe_ix ix_tup (pv 1) pe_int (fun _ _ => rfl))))
            (pss_one (ps_if (pt_cmpR op_eq (pv 3) (pe_ix ix_tup (pv 1) pe_int (fun _ _ => rfl)) (nomark _))
              (pss_cons (ps_set (i := 6) nd rfl (.inl rfl) (pe_bmN PySem.F.slot_tuple_index PySem.F.type_tuple_index mt_tup_index (pe_ix ix_tup (pv 0) pe_int (fun _ _ => rfl)) (pa_cons (pe_ix ix_tup (pv 1) pe_int (fun _ _ => rfl)) pa_nil)))
              (pss_one (ps_set (i := 4) nd rfl (.inl rfl) (pe_op op_catA (pe_op op_catA (pe_slice sl_tupA (pv 4) po_none (po_some (pv 6))) (pe_tup (pa_cons (pe_ix ix_tup (pv 1) pe_int (fun _ _ => rfl)) pa_nil))) (pe_slice sl_tupA (pv 4) (po_some (pe_op op_add (pv 6) pe_int)) po_none))))) pss_nil))))
        (pss_one (ps_expr (pe_bm PySem.F.plainAttrs_list PySem.F.slot_list_append PySem.F.type_list_append mt_append (pv 2) (pa_cons (pe_tup (pa_cons (pv 3) (pa_cons (pv 4) (pa_cons (pv 5) pa_nil)))) pa_nil))))))
      (pss_one (ps_ret (pe_tup (pa_cons (pe_ix ix_tup (pv 0) pe_int (fun _ _ => rfl)) (pa_cons (pe_callTy call_tuple_of (by rfl) B.tup (by decide +kernel) (pa_cons (pv 2) pa_nil)) pa_nil))))))), ?_⟩
    obtain ⟨av, w3, rfl, hv, e3⟩ := ch_at dv
    obtain ⟨r', ys, er, g1, g2, gl⟩ := tup_len hC.dr
    cases er
    rw [List.length_map] at gl
    refine ⟨by show 0 ≤ sizeLine; decide, fun D hD => ?_⟩
    have s0 := Same.new (o := .lst []) hD
    refine ⟨_, rfl, c, _, 1, _, rfl, rfl, same_sqt s0 hC.sq, atI_nat (j := 1) rfl, r, rfl, ⟨_, same_sqt s0 g1⟩, ?_⟩
    refine for_it (walk_tup (K := K) (a := r) (xs := ys)) (fun i σ' H' => (∃ o3 o4 o5 o6, σ' = [some (.ref c), some (.ref av), some (.ref D), o3, o4, o5, o6]) ∧ Same H H' ∧ ∃ xs, H' D = some (.lst xs) ∧ xs.length = i ∧ DqAll K H' xs (((chg rs n j st).take i).map rowD)) ⟨⟨_, _, _, _, rfl⟩, s0, [], upd_same, rfl, .nil⟩ (fun i σ' H' hi p => same_sqt p.2.1 g1) ?_ ?_
    · rintro i z _ _ H1 hi ⟨⟨o3, o4, o5, o6, rfl⟩, s1, xs, bD, lx, dxs⟩ ⟨rfl, hz⟩
      have hi2 : i < rs.length := by rw [← gl]; exact hi
      obtain ⟨d, hd, dz⟩ := (g2.same s1).get hz
      rw [List.getElem?_map, List.getElem?_eq_getElem hi2] at hd
      cases hd
      have hok := hL.ok _ (List.getElem_mem hi2)
      have hget := chg_get (n := n) (k := j) (p := st) hi2
      generalize rs[i] = R at dz hok hget
      obtain ⟨_, hRl⟩ := row_name hok
      obtain ⟨a, v2, v3, rfl, ha, d2, d3, hRn⟩ := row_at dz
      refine ⟨a, _, rfl, ha, rfl, _, _, rfl, _, _, rfl, _, _, rfl, rfl, ?_⟩
      refine ⟨fun σ' H' => ∃ w4 w5 o6, σ' = [some (.ref c), some (.ref av), some (.ref D), some (.str R.name), some w4, some w5, o6] ∧ Same H1 H' ∧ Dq K H' w4 (.tuple ((if R.name = n then withAt R j st else R).parts.map strD)) ∧ Dq K H' w5 (strD (if R.name = n then withAt R j st else R).bd), ?_, ?_⟩
      · have hv1 := same_sqt s1 hv
        refine ⟨_, rfl, _, rfl, av, _, 0, _, rfl, rfl, hv1, atI_nat (j := 0) rfl, rfl, _, rfl, ?_⟩
        by_cases g : R.name = n
        · rw [decide_eq_true (show V.str R.name = V.str n by rw [g])]
          rw [if_pos g]
          refine iteT ⟨_, rfl, av, _, 1, _, rfl, rfl, hv1, atI_nat (j := 1) rfl, rfl, _, rfl, ?_⟩
          by_cases gp : p = "bound"
          · rw [decide_eq_true (show V.str p = V.str "bound" by rw [gp])]
            refine iteT ⟨_, rfl, av, _, 2, _, rfl, rfl, hv1, atI_nat (j := 2) rfl, ?_⟩
            have ej : j = ns.length := place_bound hN (by rw [hj, gp])
            have ew : withAt R j st = ⟨R.name, R.parts, st⟩ := by
              unfold withAt
              rw [if_neg (by omega)]
            rw [ew]
            exact ⟨_, _, _, rfl, fun _ _ e => e, d2, e3.same s1⟩
          · rw [decide_eq_false (show ¬ V.str p = V.str "bound" from fun e => gp (by injection e))]
            have hnj := place_other hj gp
            have hjn : j < R.parts.length := by
              have := (List.getElem?_eq_some_iff.mp hnj).1
              omega
            refine iteF ⟨_, rfl, _, rfl, av, _, 0, _, rfl, rfl, hv1, atI_nat (j := 0) rfl, rfl, _, rfl, ?_⟩
            rw [decide_eq_true (show V.str R.name = V.str n by rw [g])]
            refine iteT ⟨_, rfl, c, _, 0, _, rfl, rfl, same_sqt s1 hC.sq, atI_nat (j := 0) rfl, ⟨u, _, rfl, hC.tn.same s1⟩, _, rfl, av, _, 1, _, rfl, rfl, hv1, atI_nat (j := 1) rfl, u, ns, p, j, rfl, rfl, (hC.tn.same s1).sq, hnj, nd_first hN.nd hnj, ?_⟩
            obtain ⟨b, xs2, rfl, h1, h2, hl⟩ := tup_len d2
            rw [List.length_map] at hl
            refine ⟨_, rfl, _, rfl, _, rfl, ?_⟩
            refine rd_slA h1 fun H2 b2 s2 hb2 => ?_
            rw [cut_take] at hb2
            refine ⟨_, rfl, av, _, 2, _, rfl, rfl, same_sqt s2 hv1, atI_nat (j := 2) rfl, by show 1 ≤ sizeLine; decide, fun t ht => ?_⟩
            have s3 := Same.new (o := .tup [w3]) ht
            refine rd_catA (same_sqt s3 hb2) (SqT.of upd_same) ?_ fun H4 b4 s4 hb4 => ?_
            · rw [List.length_take]
              exact Nat.le_trans (show _ ≤ 100 by simp; omega) (by decide)
            have s24 := s2.trans (s3.trans s4)
            refine ⟨_, rfl, _, rfl, _, _, rfl, rfl, _, rfl, rd_no (rd_slA (same_sqt s24 h1) fun H5 b5 s5 hb5 => ?_)⟩
            rw [show ((j : Int) + 1) = ((j + 1 : Nat) : Int) from rfl, cut_drop] at hb5
            refine rd_catA (same_sqt s5 hb4) hb5 ?_ fun H6 b6 s6 hb6 => ?_
            · rw [List.length_append, List.length_take, List.length_drop]
              exact Nat.le_trans (show _ ≤ 100 by simp; omega) (by decide)
            have s26 := s24.trans (s5.trans s6)
            have es : xs2.take j ++ [w3] ++ xs2.drop (j + 1) = xs2.set j w3 := by
              rw [List.append_assoc]
              exact (List.set_eq_take_append_cons_drop.trans (if_pos (by omega))).symm
            rw [es] at hb6
            have ew : withAt R j st = ⟨R.name, R.parts.set j st, R.bd⟩ := by
              unfold withAt
              rw [if_pos hjn]
            rw [ew]
            refine ⟨_, _, _, rfl, s26, .tup hb6 ?_, d3.same s26⟩
            show DqAll K H6 (xs2.set j w3) ((R.parts.set j st).map strD)
            rw [List.map_set]
            exact DqAll.set (e3.same (s1.trans s26)) j (h2.same s26)
        · rw [decide_eq_false (show ¬ V.str R.name = V.str n from fun e => g (by injection e)), if_neg g]
          refine iteF (iteF ⟨_, rfl, _, rfl, av, _, 0, _, rfl, rfl, hv1, atI_nat (j := 0) rfl, rfl, _, rfl, ?_⟩)
          rw [decide_eq_false (show ¬ V.str R.name = V.str n from fun e => g (by injection e))]
          exact iteF ⟨_, _, _, rfl, fun _ _ e => e, d2, d3⟩
      rintro _ H2 ⟨w4, w5, o6', rfl, s2, dw4, dw5⟩
      have bD2 := s2 _ _ bD
      refine ⟨_, rfl, .inl ⟨rfl, _, SqL.of bD2⟩, _, rfl, _, rfl, _, rfl, by show 3 ≤ sizeLine; decide, fun t ht => ?_⟩
      have s3 := Same.new (o := .tup [.str R.name, w4, w5]) ht
      have bD3 := s3 _ _ bD2
      have s23 := s2.trans s3
      refine ⟨D, _, _, rfl, rfl, bD3, by rw [lx]; exact Nat.lt_trans (show i < 7 by omega) (by decide), ⟨_, _, _, _, rfl⟩, fun b o e => ?_, xs ++ [.ref t], upd_same, by rw [List.length_append, lx]; rfl, ?_⟩
      · rw [upd_ne (ne_of_none e hD)]
        exact s23 _ _ (s1 _ _ e)
      · have kD : ∀ zs : List V, Kept D (upd H2 t (.tup [.str R.name, w4, w5])) (upd (upd H2 t (.tup [.str R.name, w4, w5])) D (.lst zs)) := fun zs b o n e => by rw [upd_ne n]; exact e
        rw [List.take_succ, hget, List.map_append]
        refine (DqAll.but bD3 (kD _) (noLs_map rowD noL_row _) (dxs.same s23)).app (.cons (Dq.but bD3 (kD _) (noL_row _) (.tup (SqT.of upd_same) (.cons ?_ (.cons (dw4.same s3) (.cons (dw5.same s3) .nil))))) .nil)
        rw [show (if R.name = n then withAt R j st else R).name = R.name by split; exact withAt_name R j st; rfl]
        exact .str _ hRn
    · rintro _ H1 ⟨⟨o3, o4, o5, o6, rfl⟩, s1, xs, bD, lx, dxs⟩
      rw [gl, show rs.length = (chg rs n j st).length by unfold chg; rw [List.length_map], List.take_length] at dxs
      refine ⟨_, rfl, c, _, 0, _, rfl, rfl, same_sqt s1 hC.sq, atI_nat (j := 0) rfl, _, rfl, D, _, rfl, .inl ⟨SqL.of bD, fun tp htp => ⟨by show 2 ≤ sizeLine; decide, fun tc htc => ?_⟩⟩⟩
      have s2 := Same.new (o := .tup xs) htp
      have s3 := Same.new (o := .tup [.ref u, .ref tp]) htc
      exact q _ _ tp (s1.trans (s2.trans s3)) ⟨SqT.of upd_same, hC.tn.same (s1.trans (s2.trans s3)), Dq.same s3 (.tup (SqT.of upd_same) (dxs.same s2))⟩
end
end Ca
set_option Elab.async false
set_option linter.all false
set_option maxRecDepth 100000
set_option maxHeartbeats 4000000
/-! lists told apart by !=, whose items have an == of their own: where all pairs are equal, the answer is False -/
namespace Ca
section
open PySem PySem.SeqAt AutoSeq1 MeetsSeq MeetsSeq2 MeetsSeq3 SeqRoads2
section
variable {prog : Program} {w : World} {A : Around} {R : Result → Shared → Prop}
theorem ne_turns {l b : Addr} {N : Nat} {I : Nat → Shared → Prop} (hl : GQ.ListI prog w A (fun e s' => R (.error e) s') l b N I) (fin : ∀ s, I N s → R (.ok (.ret (.bool false))) s) (k : Nat) :
    ∀ i : Nat, N - i = k → i ≤ N → ∀ s, I i s → wpAny (model prog w) A.in1 (Builtin.«list.__eq__.loop» ⟨[.ref l, .ref b, rawInt i, rawInt 3], []⟩) (GQ.FinOf prog w A R) (fun e s' => R (.error e) s') s := by
  induction k with
  | zero =>
    rintro i hk hi s h
    obtain ⟨xs, ys, n, m, gx, gy, lx, ly, -⟩ := hl _ _ h
    obtain rfl : i = N := by omega
    have done := fin s h
    obtain ⟨hp, g, d, tk, os⟩ := s
    wp_walk using wpAny_loadPart' gx, wpAny_loadPart' gy
    rw [show xs[((i : Nat) : Int).toNat]? = none by simp; omega, show ys[((i : Nat) : Int).toNat]? = none by simp; omega]
    wp_walk using wpAny_loadPart' gx, wpAny_loadPart' gy
    show R (.ok (.ret (.bool (xs.size != ys.size)))) _
    rw [lx, ly]
    simpa using done
  | succ k ih =>
    rintro i hk hi s h
    obtain ⟨xs, ys, n, m, gx, gy, lx, ly, turn⟩ := hl _ _ h
    have ix : i < xs.size := by omega
    have iy : i < ys.size := by omega
    have t := turn ix iy
    obtain ⟨hp, g, d, tk, os⟩ := s
    wp_walk using wpAny_loadPart' gx, wpAny_loadPart' gy
    rw [show xs[((i : Nat) : Int).toNat]? = some xs[i] by simp [ix], show ys[((i : Nat) : Int).toNat]? = some ys[i] by simp [iy]]
    refine wpAny_bind (wpAny_mono t ?_ fun _ _ x => x)
    rintro r s2 ⟨rfl, q⟩
    have more := ih (i + 1) (by omega) (by omega) s2 q
    obtain ⟨hp2, g2, d2, tk2, os2⟩ := s2
    wp_walk
    rw [show ((i : Int) + 1) = ((i + 1 : Nat) : Int) by omega]
    refine ⟨plainId_quiet plain_eq_loop _, codeAny_builtin entry_eq_loop ?_⟩
    rw [Around.under_plainId plain_eq_loop _]
    exact more
end
section
variable {prog : Program} {w : World} {A : Around} {E : Value → Shared → Prop} {s : Shared}
theorem ne_lists {l b : Addr} {N : Nat} {Q : Value → Shared → Prop} (hu : A.units < cLine) (I : Nat → Shared → Prop) (hl : GQ.ListI prog w A E l b N I) (fin : ∀ s, I N s → Q (.bool false) s) (h : I 0 s) : wpAny (model prog w) A (richCompare .NotEq (.ref l) (.ref b)) Q E s := by
  obtain ⟨xs, ys, n, m, gx, gy, lx, ly, -⟩ := hl _ _ h
  refine wpAny_richCompare_same_room (op := .NotEq) ⟨_, gx, rfl⟩ ⟨_, gy, rfl⟩ F.slot_list_ne (GQ.call_here F.slot_list_ne ⟨_, gx, rfl⟩ F.entry_list_ne (F.args_list_ne_2 _ _) ?_) hu
  have more := ne_turns (A := A) (R := wants (fun v s' => v ≠ .notImplemented ∧ Q v s') E) hl (fun s' q => ⟨(fun x => nomatch x), fin s' q⟩) _ 0 rfl (Nat.zero_le _) s h
  obtain ⟨hp, g, d, tk, os⟩ := s
  have f3 := AutoSeq1.sub_list_list
  have same : ¬ (xs.size != ys.size) = true := by simp [lx, ly]
  wp_walk using wpAny_loadPart' gx, wpAny_loadPart' gy
  refine ⟨plainId_quiet plain_eq_loop _, codeAny_builtin entry_eq_loop ?_⟩
  rw [Around.under_plainId plain_eq_loop _]
  exact more
end
end
open PySem PySem.Spec PyProof.Rows L2
section
variable {X : Cx} {n : Nat} {D : Eqv}
def rNeG (D : Eqv) : R2 := fun x y H Q => DList D x y H ∧ ∀ H', Same H H' → Q (.bl false) H'
theorem op_neG (hD : Mon D) (h : EqG X n D) (hr : Room (n + 1) X.A) : OpR X (compareOp .NotEq) (rNeG D) := by
  rintro pins s σ H x y v u Q I rx ry ⟨⟨a, b, xs, ys, rfl, rfl, ha, hb, p⟩, q⟩
  cases rx
  cases ry
  have sb : L2.Sub X (n + 1) X.A := ⟨hr, rfl⟩
  show wpAny (model X.prog X.w) X.A (richCompare .NotEq (.ref a) (.ref b)) (EP X pins σ Q) X.xe s
  refine ne_lists (N := xs.length) hr.units0 (fun _ s' => LoopI X pins σ H s') (fun i s' g => ?_) (fun s' g => ?_) ⟨H, I, Ext.rfl'⟩
  · obtain ⟨H1, I1, e1⟩ := id g
    obtain ⟨z, its, k, r, e⟩ := I1.hok a _ (e1 _ _ ha)
    obtain ⟨z2, its2, k2, r2, e2⟩ := I1.hok b _ (e1 _ _ hb)
    exact ⟨its.toArray, its2.toArray, k, k2, e, e2, by rw [List.size_toArray, ← r.length], by rw [List.size_toArray, ← r2.length, ← p.1], fun h1 h2 => turnG hD h sb p r r2 i h1 h2 s' g⟩
  · obtain ⟨H1, I1, e1⟩ := g
    exact ⟨.bl false, H1, I1, rfl, q H1 e1⟩
end
/-- systems that are equal -/
def SameSys (K : PySem.W.Frag) (C : Addr) (a b : Addr) (H : Hp) : Prop := ∃ ns rs, SysAt K C H a ns rs ∧ SysAt K C H b ns rs
theorem eq_spec {K : PySem.W.Frag} {C : Addr} {vs : List V} {H : Hp} {Q : VK} {E : XK} (h : spEq (SameSys K C) vs H Q E) : spEqS K C vs H Q E := by
  obtain ⟨a, b, rfl, ⟨ns, rs, ha, hb⟩, q⟩ := h
  refine ⟨a, .ref b, ns, rs, rfl, ha, .inr ⟨b, ns, rs, rfl, hb, ?_⟩⟩
  rw [decide_eq_true (rfl : ns = ns), decide_eq_true (rfl : rs = rs)]
  exact q H Ext.rfl'
theorem mon_sys {K : PySem.W.Frag} {C : Addr} : Mon (DIns C (SameSys K C)) := mon_ins fun a b H H' e h => by
  obtain ⟨ns, rs, h1, h2⟩ := h
  exact ⟨ns, rs, h1.same e, h2.same e⟩
theorem dins_of {K : PySem.W.Frag} {C : Addr} {H : Hp} {a b : Addr} {ns : List Str} {rs : List Rw} (h1 : SysAt K C H a ns rs) (h2 : SysAt K C H b ns rs) : DIns C (SameSys K C) (.ref a) (.ref b) H := by
  obtain ⟨_, _, dx, _, _, ex, _, _⟩ := id h1
  obtain ⟨_, _, dy, _, _, ey, _, _⟩ := id h2
  exact ⟨a, b, dx, dy, _, _, rfl, rfl, ex, ey, ns, rs, h1, h2⟩
section
variable {X : Cx} {C fE : Addr} {fdE : FuncData}
theorem neSysK (K : PySem.W.Frag) (GE : FnOk X.prog X.w X.K X.mg X.base CX0 1 fE fdE ["self", "other"] (spEqS K C)) (hr : Room 2 X.A) (hs : PySem.W.findIn X.K (.ref C) "__eq__" = some (some (.ref fE))) (hf : PySem.W.isFn X.K (.ref fE) = true) (hb : Binds X.K fdE ["self", "other"] []) (hK : X.K = K := by rfl) :
    OpR X (compareOp .NotEq) (rNeG (DIns C (SameSys K C))) := by
  subst hK
  exact op_neG mon_sys (eqG_ins (E := E0) (GE.imp fun vs H Q E h => eq_spec h) hs hf hb pass0) hr
end
end Ca
set_option Elab.async false
set_option linter.all false
set_option maxRecDepth 100000
set_option maxHeartbeats 8000000
namespace Ca
open PySem L2
theorem withAt_comm {r : Rw} {j k : Nat} {p q : Int × Int} (hj : j ≤ r.parts.length) (hk : k ≤ r.parts.length) (ne : j ≠ k) : withAt (withAt r j p) k q = withAt (withAt r k q) j p := by
  unfold withAt
  by_cases g : j < r.parts.length
  · by_cases h : k < r.parts.length
    · simp only [if_pos g, if_pos h, List.length_set]
      rw [List.set_comm _ _ ne]
    · simp only [if_pos g, if_neg h, List.length_set]
  · have h : k < r.parts.length := by omega
    simp only [if_neg g, if_pos h, List.length_set]
theorem chg_comm {rs : List Rw} {n : Str} {m j k : Nat} {p q : Int × Int} (L : Lines rs m) (hj : j ≤ m) (hk : k ≤ m) (ne : j ≠ k) : chg (chg rs n j p) n k q = chg (chg rs n k q) n j p := by
  unfold chg
  rw [List.map_map, List.map_map]
  refine List.map_congr_left fun r hr => ?_
  have hl := (row_name (L.ok r hr)).2
  show (if (if r.name = n then withAt r j p else r).name = n then withAt (if r.name = n then withAt r j p else r) k q else (if r.name = n then withAt r j p else r)) =
    (if (if r.name = n then withAt r k q else r).name = n then withAt (if r.name = n then withAt r k q else r) j p else (if r.name = n then withAt r k q else r))
  by_cases g : r.name = n
  · rw [if_pos g, if_pos g, withAt_name, withAt_name, if_pos g, if_pos g]
    exact withAt_comm (by omega) (by omega) ne
  · rw [if_neg g, if_neg g, if_neg g]
theorem chg_same {rs : List Rw} {m j : Nat} {R : Rw} {p : Int × Int} (L : Lines rs m) (hR : R ∈ rs) (h : withAt R j p = R) : chg rs R.name j p = rs := by
  unfold chg
  have e : ∀ r ∈ rs, (if r.name = R.name then withAt r j p else r) = id r := fun r hr => by
    split
    · rename_i g
      have er : r = R := by
        obtain ⟨i, hi, rfl⟩ := List.mem_iff_getElem.mp hr
        obtain ⟨k, hk, rfl⟩ := List.mem_iff_getElem.mp hR
        have := (List.getElem_inj (h₀ := by rw [List.length_map]; exact hi) (h₁ := by rw [List.length_map]; exact hk) L.nd).mp (by rw [List.getElem_map, List.getElem_map]; exact g)
        subst this
        rfl
      rw [er]
      exact h
    · rfl
  rw [List.map_congr_left e, List.map_id]
theorem withAt_bd (R : Rw) {m : Nat} (h : R.parts.length = m) : withAt R m R.bd = R := by
  unfold withAt
  rw [if_neg (by omega)]
theorem withAt_part (R : Rw) {k : Nat} {p : Int × Int} (h : R.parts[k]? = some p) : withAt R k p = R := by
  obtain ⟨hk, e⟩ := List.getElem?_eq_some_iff.mp h
  unfold withAt
  rw [if_pos hk, ← e, List.set_getElem_self]
theorem at_neg (xs : List V) (h : 0 < xs.length) : atI xs (-1) = xs[xs.length - 1]? := by
  unfold atI ixN
  rw [if_neg (by decide), if_pos (by omega)]
  show xs[(-1 + (xs.length : Int)).toNat]? = _
  rw [show (-1 + (xs.length : Int)).toNat = xs.length - 1 by omega]
/-- what stands: the urn, the system, its case -/
structure W7 (K : PySem.W.Frag) (C l x c u r : Addr) (ns : List Str) (rs : List Rw) (H : Hp) : Prop where
  un : Urn H l
  mi : SysAt K C H x ns rs
  cs : CsN K c u r ns rs H
theorem W7.same {K : PySem.W.Frag} {C l x c u r : Addr} {ns : List Str} {rs : List Rw} {H H' : Hp} (w : W7 K C l x c u r ns rs H) (s : Same H H') : W7 K C l x c u r ns rs H' := ⟨w.un.same s, w.mi.same s, w.cs.same s⟩
theorem W7.kept {K : PySem.W.Frag} {C l x c u r : Addr} {ns : List Str} {rs : List Rw} {H H' : Hp} (w : W7 K C l x c u r ns rs H) (k : Kept l H H') (u' : Urn H' l) : W7 K C l x c u r ns rs H' := by
  obtain ⟨zs, hz⟩ := urn_lst w.un
  exact ⟨u', w.mi.but hz k, w.cs.kept hz k⟩
abbrev N7 : List Str := ["_law_urn_here", "_law_turn", "_law_folk", "_law_lines", "_law_case_here", "_law_mine", "_law_title", "_law_here", "_law_later", "_law_place_here", "_law_deed", "_law_due", "_law_first", "_law_second", "_law_each", "_law_same", "_law_k"]
theorem sc7 : FnScope N7 ["_law_urn_here"] (defScope sLawRight) := ⟨rfl, rfl, rfl, by decide +kernel, rfl, by decide +kernel, by decide +kernel⟩
theorem lines_last {rs : List Rw} {R : Rw} {m : Nat} (L : Lines rs m) (h5 : rs.length ≤ 5) (hM : ∀ z ∈ rs, z.name ∈ menuR) (en : R.name = "last0") (ok : isRowD (rowD R) m = true) : Lines (rs ++ [R]) m := by
  refine ⟨by rw [List.length_append]; show rs.length + 1 ≤ 6; omega, fun z hz => ?_, ?_⟩
  · rcases List.mem_append.mp hz with hz | hz
    · exact L.ok z hz
    · rw [List.mem_singleton.mp hz]
      exact ok
  · rw [List.map_append]
    refine List.nodup_append.mpr ⟨L.nd, by simp, fun a ha b hb => ?_⟩
    have eb : b = "last0" := by
      rw [← en]
      exact List.mem_singleton.mp hb
    rw [eb]
    obtain ⟨z, hz, rfl⟩ := List.mem_map.mp ha
    have hm := hM z hz
    intro e
    rw [e] at hm
    revert hm
    decide +kernel
section
variable {P : Program} {w : World} {K : PySem.W.Frag} {mg : Str → Option Value} {base : Heap} {C fI fE fS fL fB fN fUn fRo pUn pRo pNa fCh : Addr} {fdI fdE fdS fdL fdB fdN fdUn fdRo fdCh : FuncData}
theorem ok_right7 {f fC fP fM fF fLi fSt fLC : Addr} {fd fdC fdP fdM fdF fdLi fdSt fdLC : FuncData} (F : FnT K "_law_right" sLawRight f fd) (B : Bn mg) (Bx : Bm mg) (mlist : mg "list" = none) (S : SysC K C) (E1 : SysE K C fI fE fS fL fB fN fUn fRo pUn pRo pNa)
    (gC : mg "_law_case" = some (.ref fC)) (GC : FnOk P w K mg base CX0 5 fC fdC ["_law_urn_here", "_law_many", "_law_most"] (spCaseN K)) (kC : PySem.W.keepIn K (.ref fC) = true) (bC : Binds K fdC ["_law_urn_here", "_law_many", "_law_most"] [])
    (gP : mg "_law_page" = some (.ref fP)) (GP : FnOk P w K mg base CX0 1 fP fdP ["_law_case_here"] (spPage K)) (kP : PySem.W.keepIn K (.ref fP) = true) (bP : Binds K fdP ["_law_case_here"] [])
    (gM : mg "_law_made" = some (.ref fM)) (GM : FnOk P w K mg base CX0 7 fM fdM ["_law_case_here"] (spMadeC K C)) (kM : PySem.W.keepIn K (.ref fM) = true) (bM : Binds K fdM ["_law_case_here"] [])
    (gF : mg "_law_from" = some (.ref fF)) (GF : FnOk P w K mg base CX0 2 fF fdF ["_law_urn_here", "_law_some"] (spFrom K)) (GFT : FnOk P w K mg base CX0 2 fF fdF ["_law_urn_here", "_law_some"] (spFromT K)) (kF : PySem.W.keepIn K (.ref fF) = true) (bF : Binds K fdF ["_law_urn_here", "_law_some"] [])
    (gL : mg "_law_line" = some (.ref fLi)) (GLi : FnOk P w K mg base CX0 4 fLi fdLi ["_law_urn_here", "_law_title", "_law_many"] (spRowD K)) (kL : PySem.W.keepIn K (.ref fLi) = true) (bLi : Binds K fdLi ["_law_urn_here", "_law_title", "_law_many"] [])
    (gSt : mg "_law_stretch" = some (.ref fSt)) (GSt : FnOk P w K mg base CX0 3 fSt fdSt ["_law_urn_here"] (spStretch K)) (kSt : PySem.W.keepIn K (.ref fSt) = true) (bSt : Binds K fdSt ["_law_urn_here"] [])
    (gLC : mg "_law_changed" = some (.ref fLC)) (GLC : FnOk P w K mg base CX0 1 fLC fdLC ["_law_case_here", "_law_deed"] (spLCh K)) (kLC : PySem.W.keepIn K (.ref fLC) = true) (bLC : Binds K fdLC ["_law_case_here", "_law_deed"] [])
    (I : SysI K C) (GE : FnOk P w K mg base CX0 1 fE fdE ["self", "other"] (spEqS K C)) (bE : Binds K fdE ["self", "other"] [])
    (GS : FnOk P w K mg base CX0 2 fS fdS ["self"] (spStr K C)) (bS : Binds K fdS ["self"] []) (GUn : FnOk P w K mg base CX0 1 fUn fdUn ["self"] (spUnknowns C)) (bUn : Binds K fdUn ["self"] []) (GRo : FnOk P w K mg base CX0 1 fRo fdRo ["self"] (spRows C)) (bRo : Binds K fdRo ["self"] [])
    (mCh : Meth K C "changed" fCh) (GCh : FnOk P w K mg base CX0 7 fCh fdCh ["self", "change"] (spChanged K C)) (bCh : Binds K fdCh ["self", "change"] []) (kCh : KBn K fdCh ["self", "change"] 1 ["change"] (fun us ws => us ++ ws) (fun vs zs => vs ++ zs)) :
    FnG P w K mg base 8 f fd ["_law_urn_here"] spAll := by
  refine fnG_of F sc7 (fun vs H Q E h => ?_) (fun cdv A outer s H vs Q hgd hr h => ?_)
  · obtain ⟨l, rfl, _⟩ := h
    rfl
  · obtain ⟨l, rfl, hU, q⟩ := h
    have nd := sc7.nd
    have hr1 : Room 1 _ := hr.mono (by decide)
    have hr2 : Room 2 _ := hr.mono (by decide)
    have hr3 : Room 3 _ := hr.mono (by decide)
    have hr4 : Room 4 _ := hr.mono (by decide)
    have hr5 : Room 5 _ := hr.mono (by decide)
    have hu := hr.un
    have hu' : (A.deeper (PyProof.Rows.envOfC "_law_right" (defScope sLawRight) s.heap.objs.size f cdv)).units + 200 < cLine := by omega
    refine ⟨_, PSs.nox (pss_cons (ps_for PassesOwn.never rfl (pi_range1 rfl Bx.rng (pa_cons pe_int pa_nil)) (pg_name (i := 1) nd rfl (.inl rfl))
        (pss_cons (ps_cut (ps_asg (pe_call GC hr5 rfl gC kC bC .nil pass0 (pa_cons (pv 0) (pa_cons pe_int (pa_cons pe_int pa_nil)))) (pg_tup rfl (pgs_cons (pg_name (i := 2) nd rfl (.inr rfl)) (pgs_cons (pg_name (i := 3) nd rfl (.inl rfl)) pgs_nil)))))
        (pss_cons (ps_cut (ps_set (i := 4) nd rfl (.inl rfl) (pe_tup (pa_cons (pv 2) (pa_cons (pe_op op_catA (pv 3) (pe_tup (pa_cons (pe_call GLi hr4 rfl gL kL bLi .nil pass0 (pa_cons (pv 0) (pa_cons pe_str (pa_cons (pe_callB call_len (by rfl) B.len boot_len (pa_cons (pv 2) pa_nil)) pa_nil)))) pa_nil))) pa_nil)))))
        (pss_cons (ps_cut (ps_par (i := 5) (j := 6) rfl nd rfl rfl (by decide) rfl rfl (pa_cons (pe_call GM hr rfl gM kM bM .nil pass0 (pa_cons (pv 4) pa_nil)) (pa_cons (pe_ix ix_tup (pe_call GFT hr2 rfl gF kF bF .nil pass0 (pa_cons (pv 0) (pa_cons (pe_ix ix_tup (pv 4) pe_int (fun _ _ => rfl)) pa_nil))) pe_int (fun _ _ => rfl)) pa_nil)) rfl))
        (pss_cons (ps_par (i := 7) (j := 8) rfl nd rfl rfl (by decide) rfl rfl (pa_cons (pv 5) (pa_cons (pv 4) pa_nil)) rfl)
        (pss_cons (ps_cut (ps_for PassesOwn.never rfl (pi_list (pe_op op_cat (pe_op op_cat (pe_callTy (listOfK K) (by rfl) mlist (by decide +kernel) (pa_cons (pv 2) pa_nil)) (pe_lst (pa_cons pe_str pa_nil)))
              (pe_lc (own := [("_law_k", 16)]) (g := gName 16) (tt := tYes) rfl nd (pi_range1 rfl Bx.rng (pa_cons pe_int pa_nil)) (blkOk_by (own := [("_law_k", 16)]) (N := N7) (sc := defScope sLawRight) (by decide +kernel)) (fun _ _ _ _ _ => pg_name (i := 16) nd rfl (Or.inl rfl)) (fun _ _ _ _ _ => pts_nil)
                (fun _ _ _ _ _ => pe_call GF hr2 rfl gF kF bF .nil pass0 (pa_cons (pv 0) (pa_cons (pe_op op_cat (pe_callTy (listOfK K) (by rfl) mlist (by decide +kernel) (pa_cons (pv 2) pa_nil)) (pe_lst (pa_cons pe_str pa_nil))) pa_nil))))))
            (pg_name (i := 9) nd rfl (.inl rfl))
            (pss_cons (ps_cut (ps_set (i := 10) nd rfl (.inl rfl) (pe_tup (pa_cons (pv 6) (pa_cons (pv 9) (pa_cons (pe_call GSt hr3 rfl gSt kSt bSt .nil pass0 (pa_cons (pv 0) pa_nil)) pa_nil))))))
            (pss_cons (ps_cut (ps_set (i := 11) nd rfl (.inl rfl) (pe_call GP hr1 rfl gP kP bP .nil pass0 (pa_cons (pe_call GLC hr1 rfl gLC kLC bLC .nil pass0 (pa_cons (pv 4) (pa_cons (pv 10) pa_nil))) pa_nil))))
            (pss_cons (ps_cut (ps_if (pt_cmpR (op_neD hr.units) (pe_lst (pa_cons (pe_callTy (call_strO GS hr4 E1.str E1.strf bS) (by rfl) B.str (by decide +kernel) (pa_cons (pe_meth (pv 5) S.cl mCh GCh hr bCh .nil pass0 (pa_cons (pv 10) pa_nil)) pa_nil))
                (pa_cons (pe_callTy (call_strO GS hr4 E1.str E1.strf bS) (by rfl) B.str (by decide +kernel) (pa_cons (pe_methKw (pv 5) S.cl mCh GCh hr kCh (pk_cons (pv 10) pk_nil)) pa_nil)) pa_nil)))
                (pe_lst (pa_cons (pv 11) (pa_cons (pv 11) pa_nil))) (nomark _)) (pss_one (ps_ret pe_bl)) pss_nil))
            (pss_cons (ps_cut (ps_par (i := 7) (j := 8) rfl nd rfl rfl (by decide) rfl rfl (pa_cons (pe_meth (pv 7) S.cl mCh GCh hr bCh .nil pass0 (pa_cons (pv 10) pa_nil)) (pa_cons (pe_call GLC hr1 rfl gLC kLC bLC .nil pass0 (pa_cons (pv 8) (pa_cons (pv 10) pa_nil))) pa_nil)) rfl))
            (pss_one (ps_cut (ps_if (PW.pt (pw_or (pt_cmpR op_ne (pe_callB (reprK K hgd hu') (by rfl) Bx.rep PyProof.Rows.boot_repr (pa_cons (pe_lst (pa_cons (pe_prop (pv 7) S.cl E1.un GUn hr2 bUn .nil pass0 rfl) (pa_cons (pe_prop (pv 7) S.cl E1.ro GRo hr2 bRo .nil pass0 rfl) pa_nil))) pa_nil))
                (pe_callB (reprK K hgd hu') (by rfl) Bx.rep PyProof.Rows.boot_repr (pa_cons (pe_callTy (listOfK K) (by rfl) mlist (by decide +kernel) (pa_cons (pv 8) pa_nil)) pa_nil)) (nomark _))
                (pw_or1 (pt_cmpR op_ne (pe_callTy (call_strO GS hr4 E1.str E1.strf bS) (by rfl) B.str (by decide +kernel) (pa_cons (pv 5) pa_nil)) (pe_call GP hr1 rfl gP kP bP .nil pass0 (pa_cons (pv 4) pa_nil)) (nomark _))))) (pss_one (ps_ret pe_bl)) pss_nil)))))))))
        (pss_cons (ps_cut (ps_par (i := 12) (j := 13) rfl nd rfl rfl (by decide) rfl rfl (pa_cons (pe_tup (pa_cons (pv 6) (pa_cons (pe_ix ix_tup (pv 2) pe_int (fun _ _ => rfl)) (pa_cons (pe_call GSt hr3 rfl gSt kSt bSt .nil pass0 (pa_cons (pv 0) pa_nil)) pa_nil))))
            (pa_cons (pe_tup (pa_cons (pv 6) (pa_cons pe_str (pa_cons (pe_call GSt hr3 rfl gSt kSt bSt .nil pass0 (pa_cons (pv 0) pa_nil)) pa_nil)))) pa_nil)) rfl))
        (pss_cons (ps_cut (ps_if (pt_cmpR (neOK K GE hr2 E1.ne E1.eq E1.eqf E1.ob bE) (pe_meth (pe_meth (pv 5) S.cl mCh GCh hr bCh .nil pass0 (pa_cons (pv 12) pa_nil)) S.cl mCh GCh hr bCh .nil pass0 (pa_cons (pv 13) pa_nil))
            (pe_meth (pe_meth (pv 5) S.cl mCh GCh hr bCh .nil pass0 (pa_cons (pv 13) pa_nil)) S.cl mCh GCh hr bCh .nil pass0 (pa_cons (pv 12) pa_nil)) (nomark _)) (pss_one (ps_ret pe_bl)) pss_nil))
        (pss_one (ps_cut (ps_for PassesOwn.never rfl (pi_tup (pe_ix ix_tup (pv 4) pe_int (fun _ _ => rfl))) (pg_name (i := 14) nd rfl (.inl rfl))
            (pss_cons (ps_cut (ps_set (i := 15) nd rfl (.inl rfl) (pe_lst (pa_cons (pe_meth (pv 5) S.cl mCh GCh hr bCh .nil pass0 (pa_cons (pe_tup (pa_cons (pe_ix ix_tup (pv 14) pe_int (fun _ _ => rfl)) (pa_cons pe_str (pa_cons (pe_ix ix_tup (pv 14) pe_int (fun _ _ => rfl)) pa_nil)))) pa_nil))
                (pa_cons (pe_meth (pv 5) S.cl mCh GCh hr bCh .nil pass0 (pa_cons (pe_tup (pa_cons (pe_ix ix_tup (pv 14) pe_int (fun _ _ => rfl)) (pa_cons (pe_ix ix_tup (pv 2) (pe_un un_neg pe_int) (fun _ _ => rfl)) (pa_cons (pe_ix ix_tup (pe_ix ix_tup (pv 14) pe_int (fun _ _ => rfl)) (pe_un un_neg pe_int) (fun _ _ => rfl)) pa_nil)))) pa_nil)) pa_nil)))))
            (pss_one (ps_cut (ps_if (pt_cmpR (neSysK K GE hr2 E1.eq E1.eqf bE) (pv 15) (pe_lst (pa_cons (pv 5) (pa_cons (pv 5) pa_nil))) (nomark _)) (pss_one (ps_ret pe_bl)) pss_nil)))))))))))))))
      (pss_one (ps_ret pe_bl))), ?_⟩
    have two : 2 ≤ sizeLine := by decide
    have one : 1 ≤ sizeLine := by decide
    have three : 3 ≤ sizeLine := by decide
    refine ⟨4, rfl, by decide, by decide, ?_⟩
    refine for_it (walk_range (lo := 0) (n := 4)) (fun i σ' H' => (∃ o1 o2 o3 o4 o5 o6 o7 o8 o9 o10 o11 o12 o13 o14 o15, σ' = [some (.ref l), o1, o2, o3, o4, o5, o6, o7, o8, o9, o10, o11, o12, o13, o14, o15, none]) ∧ Kept l H H' ∧ Urn H' l)
      ⟨⟨_, _, _, _, _, _, _, _, _, _, _, _, _, _, _, rfl⟩, Kept.refl l H, hU⟩ (fun _ _ _ _ _ => trivial) ?_ (fun σ' H' p => q H' p.2.1 p.2.2)
    rintro i _ _ H1 _ hi ⟨⟨o1, o2, o3, o4, o5, o6, o7, o8, o9, o10, o11, o12, o13, o14, o15, rfl⟩, k1, u1⟩ ⟨rfl, rfl⟩
    refine ⟨fun σ' H' => ∃ ns rs u r t, σ' = [some (.ref l), t, some (.ref u), some (.ref r), o4, o5, o6, o7, o8, o9, o10, o11, o12, o13, o14, o15, none] ∧ Folk ns ∧ Lines rs ns.length ∧ rs.length ≤ 5 ∧ (∀ z ∈ rs, z.name ∈ menuR) ∧ Kept l H H' ∧ Urn H' l ∧ TupN H' u (ns.map V.str) ∧ Dq K H' (.ref r) (rowsD rs), ?_, ?_⟩
    · exact ⟨_, rfl, l, 5, rfl, by decide, u1, fun H6 c0 u r ns rs k6 u6 sq tn du dr hN hL h5 hM => ⟨c0, _, rfl, sq, rfl, _, _, rfl, _, _, rfl, rfl, ns, rs, u, r, _, rfl, hN, hL, h5, hM, k1.trans k6, u6, tn, dr⟩⟩
    rintro _ H2 ⟨ns, rs0, u, r0, t, rfl, hN, hL0, h5, hM, k2, u2, tn2, dr2⟩
    have n3 := hN.hi
    have n1 := hN.lo
    have hS8 : ∀ x ∈ ns, x.length ≤ 1000 := fun x z => by
      have := (name_parts (folk_names hN x z)).2.1
      omega
    refine ⟨fun σ' H' => ∃ rs c r t o3, σ' = [some (.ref l), t, some (.ref u), o3, some (.ref c), o5, o6, o7, o8, o9, o10, o11, o12, o13, o14, o15, none] ∧ Lines rs ns.length ∧ 0 < rs.length ∧ Kept l H H' ∧ Urn H' l ∧ CsN K c u r ns rs H', ?_, ?_⟩
    · obtain ⟨r', xs, er, g1, g2, gl⟩ := tup_len dr2
      cases er
      rw [List.length_map] at gl
      refine ⟨_, rfl, _, rfl, _, rfl, _, rfl, _, ns.length, rfl, .inr ⟨_, tn2.sq, by rw [List.length_map]⟩, l, "last0", ns.length, rfl, u2, by decide, n3, fun H6 v R k6 u6 dv en ep eo => ⟨one, fun p hp => ?_⟩⟩
      obtain ⟨zs, hz⟩ := urn_lst u2
      have s3 := Same.new (o := .tup [v]) hp
      have tn6 := tn2.kept hz k6
      have g16 := sqt_but hz k6 g1
      have g26 : DqAll K H6 xs (rs0.map rowD) := DqAll.but hz k6 (noLs_map rowD noL_row rs0) g2
      have hok : isRowD (rowD R) ns.length = true := row_ok (by rw [en]; decide +kernel) ep eo
      refine rd_catA (same_sqt s3 g16) (SqT.of upd_same) ?_ fun H7 e s7 he => ⟨two, fun c hc => ?_⟩
      · rw [gl]
        exact Nat.le_trans (show rs0.length + 1 ≤ 100 by omega) (by decide)
      have s8 := Same.new (o := .tup [.ref u, .ref e]) hc
      have s37 := s3.trans s7
      refine ⟨rs0 ++ [R], c, e, _, _, rfl, lines_last hL0 h5 hM en hok, by rw [List.length_append]; exact Nat.succ_pos _, k2.trans (k6.trans (s37.trans s8).kept), u6.same (s37.trans s8), SqT.of upd_same, tn6.same (s37.trans s8), Dq.same s8 (.tup he ?_)⟩
      rw [List.map_append]
      exact (g26.same s37).app (.cons (dv.same s37) .nil)
    rintro _ H3 ⟨rs, c, r, t, o3, rfl, hL, h0, k3, u3, hc3⟩
    clear k2 u2 tn2 dr2 hM h5 hL0
    have r6 := hL.hi
    have ok : COk (ns, rs) := ⟨hN, hL⟩
    refine ⟨fun σ' H' => ∃ x n t, σ' = [some (.ref l), t, some (.ref u), o3, some (.ref c), some (.ref x), some (.str n), o7, o8, o9, o10, o11, o12, o13, o14, o15, none] ∧ n ∈ rs.map Rw.name ∧ Kept l H H' ∧ W7 K C l x c u r ns rs H', ?_, ?_⟩
    · refine ⟨_, rfl, .ref c, (ns, rs), rfl, hc3.dq hN, ok, fun H4 x s4 hx => ?_⟩
      have hc4 := hc3.same s4
      obtain ⟨r', xs, er, g1, g2, gl⟩ := tup_len hc4.dr
      cases er
      rw [List.length_map] at gl
      refine ⟨_, rfl, _, rfl, c, _, 1, _, rfl, rfl, hc4.sq, atI_nat (j := 1) rfl, l, r, xs, rfl, u3.same s4, g1, by omega, by omega, fun H5 i v hv k5 u5 => ?_⟩
      obtain ⟨d, hd, dv⟩ := g2.get hv
      have hi2 : i < rs.length := by
        rw [← gl]
        exact (List.getElem?_eq_some_iff.mp hv).1
      rw [List.getElem?_map, List.getElem?_eq_getElem hi2] at hd
      cases hd
      obtain ⟨zs, hz⟩ := urn_lst (u3.same s4)
      obtain ⟨a, v2, v3, rfl, ha, _, _, _⟩ := row_at (Dq.but hz k5 (noL_row _) dv)
      refine ⟨a, _, 0, _, rfl, rfl, ha, atI_nat (j := 0) rfl, _, _, rfl, x, rs[i].name, _, rfl, List.mem_map_of_mem (List.getElem_mem hi2), k3.trans (s4.kept.trans k5), u5, hx.but hz k5, hc4.kept hz k5⟩
    rintro _ H4 ⟨x, n, t, rfl, hn, k4, W4⟩
    clear k3 u3 hc3
    refine ⟨_, rfl, _, rfl, _, _, rfl, ?_⟩
    -- place by place
    refine ⟨fun σ' H' => (∃ t o3 o7 o8 o9 o10 o11 o12 o13 o14 o15, σ' = [some (.ref l), t, some (.ref u), o3, some (.ref c), some (.ref x), some (.str n), o7, o8, o9, o10, o11, o12, o13, o14, o15, none]) ∧ Kept l H H' ∧ W7 K C l x c u r ns rs H', ?_, ?_⟩
    · refine ⟨_, rfl, u, _, rfl, .inr W4.cs.tn.sq, fun p1 hp1 => ⟨one, fun p2 hp2 => ?_⟩⟩
      have s1 := Same.new (o := .lst (ns.map V.str)) hp1
      have s2 := Same.new (o := .lst [.str ("bound" : Str)]) hp2
      refine ⟨p1, p2, _, _, rfl, rfl, s2 _ _ upd_same, upd_same, ?_, fun p3 hp3 => ?_⟩
      · rw [List.length_map]
        exact Nat.le_trans (show ns.length + 1 ≤ 100 by omega) (by decide)
      have s3 := Same.new (o := .lst (ns.map V.str ++ [.str ("bound" : Str)])) hp3
      have s13 := s1.trans (s2.trans s3)
      have W5 := W4.same s13
      have b3 : upd (upd (upd H4 p1 (.lst (ns.map V.str))) p2 (.lst [.str ("bound" : Str)])) p3 (.lst (ns.map V.str ++ [.str ("bound" : Str)])) p3 = some (.lst (ns.map V.str ++ [.str ("bound" : Str)])) := upd_same
      have n3l : p3 ≠ l := by
        obtain ⟨o, ho⟩ := (W4.same (s1.trans s2)).un.some
        exact (ne_of_none ho hp3).symm
      generalize upd (upd (upd H4 p1 (.lst (ns.map V.str))) p2 (.lst [.str ("bound" : Str)])) p3 (.lst (ns.map V.str ++ [.str ("bound" : Str)])) = H5 at s13 W5 b3 ⊢
      refine ⟨3, rfl, by decide, by decide, fun D hD => ?_⟩
      have nDl : D ≠ l := by
        obtain ⟨o, ho⟩ := W5.un.some
        exact (ne_of_none ho hD).symm
      refine lc_draw (K := K) (walk_range (lo := 0) (n := 3)) PyData.str (fun _ z => z ∈ ns ++ boundL) (fun _ => rfl) (by decide) W5.un hD (fun _ _ => trivial) (fun _ _ _ _ y => y.1) (fun _ => rfl) ?_ ?_
      · intro i x' H6 Qk hi yy k6 u6 kk
        have W6 := W5.kept k6 u6
        refine ⟨_, rfl, _, rfl, u, _, rfl, .inr W6.cs.tn.sq, fun q1 hq1 => ⟨one, fun q2 hq2 => ?_⟩⟩
        have t1 := Same.new (o := .lst (ns.map V.str)) hq1
        have t2 := Same.new (o := .lst [.str ("bound" : Str)]) hq2
        refine ⟨q1, q2, _, _, rfl, rfl, t2 _ _ upd_same, upd_same, ?_, fun q3 hq3 => ?_⟩
        · rw [List.length_map]
          exact Nat.le_trans (show ns.length + 1 ≤ 100 by omega) (by decide)
        have t3 := Same.new (o := .lst (ns.map V.str ++ [.str ("bound" : Str)])) hq3
        have t13 := t1.trans (t2.trans t3)
        have nq : q3 ≠ l := by
          obtain ⟨o, ho⟩ := (W6.same (t1.trans t2)).un.some
          exact (ne_of_none ho hq3).symm
        refine ⟨l, q3, _, rfl, (W6.same t13).un, upd_same, nq, by rw [List.length_append]; exact Nat.succ_pos _, by rw [List.length_append, List.length_map]; show ns.length + 1 < 1000; omega, fun H7 i v hv k7 u7 => ?_⟩
        have hv' : ((ns ++ boundL).map V.str)[i]? = some v := by
          rw [List.map_append]
          exact hv
        rw [List.getElem?_map] at hv'
        cases e : (ns ++ boundL)[i]? with
        | none => rw [e] at hv'; cases hv'
        | some z =>
          rw [e] at hv'
          cases hv'
          exact kk _ z H7 (t13.kept.trans k7) u7 (.str z (place_len hN e)) (List.mem_of_getElem? e)
      · intro H6 xs zs k6 u6 bD dqs hlen hok
        obtain ⟨rfl, _⟩ := strs_of dqs
        have W6 := W5.kept k6 u6
        have b36 := k6 _ _ n3l b3
        refine ⟨p3, D, _, _, rfl, rfl, b36, bD, ?_, fun p4 hp4 => ?_⟩
        · rw [List.length_append, List.length_map, List.length_map, hlen]
          exact Nat.le_trans (show ns.length + 1 + 3 ≤ 100 by omega) (by decide)
        have s7 := Same.new (o := .lst (ns.map V.str ++ [.str ("bound" : Str)] ++ zs.map V.str)) hp4
        have W7' := W6.same s7
        have hwl : ns.map V.str ++ [.str ("bound" : Str)] ++ zs.map V.str = (ns ++ boundL ++ zs).map V.str := by
          rw [List.map_append, List.map_append]
          rfl
        have hwm : ∀ z ∈ ns ++ boundL ++ zs, z ∈ ns ++ boundL := fun z hz => by
          rcases List.mem_append.mp hz with hz | hz
          · exact hz
          · obtain ⟨i, hi⟩ := List.mem_iff_getElem?.mp hz
            exact hok i z hi
        have n4l : p4 ≠ l := by
          obtain ⟨o, ho⟩ := u6.some
          exact (ne_of_none ho hp4).symm
        rw [hwl] at s7 W7' ⊢
        generalize ns ++ boundL ++ zs = ws at s7 W7' hwm ⊢
        have b4 : upd H6 p4 (.lst (ws.map V.str)) p4 = some (.lst (ws.map V.str)) := upd_same
        have k07 : Kept l H (upd H6 p4 (.lst (ws.map V.str))) := k4.trans (s13.kept.trans (k6.trans s7.kept))
        generalize upd H6 p4 (.lst (ws.map V.str)) = H7 at s7 W7' b4 k07 ⊢
        refine ⟨p4, rfl, ⟨_, SqL.of b4⟩, ?_⟩
        refine for_it (walk_list (K := K) (a := p4) (xs := ws.map V.str)) (fun i σ' H' => ∃ y c2 r2 qs, (∃ t o3 o9 o10 o11 o12 o13 o14 o15, σ' = [some (.ref l), t, some (.ref u), o3, some (.ref c), some (.ref x), some (.str n), some (.ref y), some (.ref c2), o9, o10, o11, o12, o13, o14, o15, none]) ∧ Kept l H H' ∧ W7 K C l x c u r ns rs H' ∧ SysAt K C H' y ns qs ∧ CsN K c2 u r2 ns qs H' ∧ qs.map Rw.name = rs.map Rw.name ∧ H' p4 = some (.lst (ws.map V.str)))
          ⟨x, c, r, rs, ⟨_, _, _, _, _, _, _, _, _, rfl⟩, k07, W7', W7'.mi, W7'.cs, rfl, b4⟩ (fun i σ' H' hi p => by
            obtain ⟨_, _, _, _, _, _, _, _, _, _, b⟩ := p
            exact SqL.of b) ?_ (fun σ' H' p => by
            obtain ⟨y, c2, r2, qs, ⟨t, o3, o9, o10, o11, o12, o13, o14, o15, rfl⟩, kk, ww, _⟩ := p
            exact ⟨⟨_, _, _, _, _, _, _, _, _, _, _, rfl⟩, kk, ww⟩)
        rintro i v _ _ H8 hi ⟨y, c2, r2, qs, ⟨t, o3, o9, o10, o11, o12, o13, o14, o15, rfl⟩, k8, W8, hy, hc2, hnm, b8⟩ ⟨rfl, hv⟩
        obtain ⟨p, hp, rfl⟩ : ∃ p, ws[i]? = some p ∧ v = .str p := by
          rw [List.getElem?_map] at hv
          cases e : ws[i]? with
          | none => rw [e] at hv; cases hv
          | some z => rw [e] at hv; exact ⟨z, rfl, (Option.some.inj hv).symm⟩
        obtain ⟨j, hj⟩ := List.mem_iff_getElem?.mp (hwm p (List.mem_of_getElem? hp))
        have hjl := place_lt hj
        have hnr := hn
        have hLq : Lines qs ns.length := hy.2.1
        obtain ⟨R0, hR0, rfl⟩ := List.mem_map.mp hn
        have hn8 : R0.name.length ≤ 1000 := by
          have := (name_parts (lines_names hL R0 hR0)).2.1
          omega
        generalize R0.name = n at hn hnr hn8 ⊢
        -- the deed
        refine ⟨fun σ' H' => ∃ d st, (∃ t o3 o11 o12 o13 o14 o15, σ' = [some (.ref l), t, some (.ref u), o3, some (.ref c), some (.ref x), some (.str n), some (.ref y), some (.ref c2), some (.str p), some (.ref d), o11, o12, o13, o14, o15, none]) ∧ isStretchD (strD st) = true ∧ Kept l H H' ∧ W7 K C l x c u r ns rs H' ∧ SysAt K C H' y ns qs ∧ CsN K c2 u r2 ns qs H' ∧ Dq K H' (.ref d) (chD n p st) ∧ H' p4 = some (.lst (ws.map V.str)), ?_, ?_⟩
        · refine ⟨_, rfl, _, rfl, _, rfl, l, rfl, W8.un, fun H9 vs st k9 u9 dst hst => ⟨three, fun d hd => ?_⟩⟩
          obtain ⟨us, hus⟩ := urn_lst W8.un
          have s10 := Same.new (o := .tup [.str n, .str p, vs]) hd
          exact ⟨d, st, ⟨_, _, _, _, _, _, _, rfl⟩, hst, k8.trans (k9.trans s10.kept), (W8.kept k9 u9).same s10, (hy.but hus k9).same s10, (hc2.kept hus k9).same s10, .tup (SqT.of upd_same) (.cons (.str _ hn8) (.cons (.str _ (place_len hN hj)) (.cons (dst.same s10) .nil))), s10 _ _ (k9 _ _ n4l b8)⟩
        rintro _ H9 ⟨d, st, ⟨t, o3, o11, o12, o13, o14, o15, rfl⟩, hst, k9, W9, hy9, hc9, dd9, b9⟩
        have hLc : Lines (chg rs n j st) ns.length := chg_ok hL hjl hst
        have hLqc : Lines (chg qs n j st) ns.length := chg_ok hLq hjl hst
        refine ⟨fun σ' H' => (∃ t o3 o12 o13 o14 o15, σ' = [some (.ref l), t, some (.ref u), o3, some (.ref c), some (.ref x), some (.str n), some (.ref y), some (.ref c2), some (.str p), some (.ref d), some (.str (pageS ns (chg rs n j st))), o12, o13, o14, o15, none]) ∧ Same H9 H', ?_, ?_⟩
        · refine ⟨_, rfl, _, rfl, c, u, r, .ref d, ns, rs, n, p, j, st, rfl, W9.cs, hN, hL, dd9, hj, hst, fun H10 c' r' s10 hc' => ?_⟩
          exact ⟨.ref c', ns, chg rs n j st, rfl, hc'.dq hN, hN, hLc, fun H11 s11 => ⟨⟨_, _, _, _, _, _, rfl⟩, s10.trans s11⟩⟩
        rintro _ H10 ⟨⟨t, o3, o12, o13, o14, o15, rfl⟩, s10⟩
        refine ⟨fun σ' H' => (∃ t o3 o12 o13 o14 o15, σ' = [some (.ref l), t, some (.ref u), o3, some (.ref c), some (.ref x), some (.str n), some (.ref y), some (.ref c2), some (.str p), some (.ref d), some (.str (pageS ns (chg rs n j st))), o12, o13, o14, o15, none]) ∧ Same H9 H', ?_, ?_⟩
        · have W10 := W9.same s10
          obtain ⟨_, _, dx, _, _, ex, _, _⟩ := id W10.mi
          refine ⟨_, rfl, x, dx, _, rfl, ex, rfl, _, rfl, x, .ref d, ns, rs, n, p, j, st, rfl, W10.mi, dd9.same s10, hnr, hj, hst, fun H11 y1 s11 hy1 => ?_⟩
          obtain ⟨_, _, dy1, _, _, ey1, _, _⟩ := id hy1
          refine ⟨y1, dy1, _, rfl, ey1, y1, ns, chg rs n j st, rfl, hy1, fun H12 s12 => ⟨_, rfl, ?_⟩⟩
          have s02 := s10.trans (s11.trans s12)
          have W12 := W9.same s02
          refine ⟨_, rfl, x, dx, _, rfl, (s11.trans s12) _ _ ex, rfl, _, rfl, rfl, x, .ref d, ns, rs, n, p, j, st, rfl, W12.mi, dd9.same s02, hnr, hj, hst, fun H13 y2 s13 hy2 => ?_⟩
          obtain ⟨_, _, dy2, _, _, ey2, _, _⟩ := id hy2
          refine ⟨y2, dy2, _, rfl, ey2, y2, ns, chg rs n j st, rfl, hy2, fun H14 s14 => ⟨_, rfl, two, fun q1 hq1 => ⟨_, rfl, _, rfl, two, fun q2 hq2 => ?_⟩⟩⟩
          have t1 := Same.new (o := .lst [.str (pageS ns (chg rs n j st)), .str (pageS ns (chg rs n j st))]) hq1
          have t2 := Same.new (o := .lst [.str (pageS ns (chg rs n j st)), .str (pageS ns (chg rs n j st))]) hq2
          refine rd_sameS [pageS ns (chg rs n j st), pageS ns (chg rs n j st)] (fun z hz => ?_) (t2 _ _ upd_same) upd_same ⟨_, rfl, iteF ⟨⟨_, _, _, _, _, _, rfl⟩, s02.trans (s13.trans (s14.trans (t1.trans t2)))⟩⟩
          have e : z = pageS ns (chg rs n j st) := by
            rcases List.mem_cons.mp hz with rfl | hz
            · rfl
            · exact List.mem_singleton.mp hz
          rw [e]
          exact ok_pageS (c := (ns, chg rs n j st)) ⟨hN, hLc⟩
        rintro _ H11 ⟨⟨t, o3, o12, o13, o14, o15, rfl⟩, s11⟩
        refine ⟨fun σ' H' => ∃ y c2 r2, (∃ t o3 o9 o10 o11 o12 o13 o14 o15, σ' = [some (.ref l), t, some (.ref u), o3, some (.ref c), some (.ref x), some (.str n), some (.ref y), some (.ref c2), o9, o10, o11, o12, o13, o14, o15, none]) ∧ Same H9 H' ∧ SysAt K C H' y ns (chg qs n j st) ∧ CsN K c2 u r2 ns (chg qs n j st) H', ?_, ?_⟩
        · have hy11 := hy9.same s11
          obtain ⟨_, _, dy, _, _, ey, _, _⟩ := id hy11
          have hnq : n ∈ qs.map Rw.name := by rw [hnm]; exact hnr
          refine ⟨_, rfl, y, dy, _, rfl, ey, rfl, _, rfl, y, .ref d, ns, qs, n, p, j, st, rfl, hy11, dd9.same s11, hnq, hj, hst, fun H12 y2 s12 hy2 => ?_⟩
          have s02 := s11.trans s12
          refine ⟨_, rfl, _, rfl, c2, u, r2, .ref d, ns, qs, n, p, j, st, rfl, hc9.same s02, hN, hLq, dd9.same s02, hj, hst, fun H13 c' r' s13 hc' => ?_⟩
          exact ⟨_, _, rfl, y2, c', r', ⟨_, _, _, _, _, _, _, _, _, rfl⟩, s02.trans s13, hy2.same s13, hc'⟩
        rintro _ H12 ⟨y2, c3, r3, ⟨t, o3, o9, o10, o11, o12, o13, o14, o15, rfl⟩, s12, hy12, hc12⟩
        have W12 := W9.same s12
        have hnm2 : (chg qs n j st).map Rw.name = rs.map Rw.name := by rw [chg_names]; exact hnm
        generalize chg qs n j st = qs2 at hy12 hc12 hnm2 hLqc
        refine ⟨fun σ' H' => (∃ t o3 o9 o10 o11 o12 o13 o14 o15, σ' = [some (.ref l), t, some (.ref u), o3, some (.ref c), some (.ref x), some (.str n), some (.ref y2), some (.ref c3), o9, o10, o11, o12, o13, o14, o15, none]) ∧ Same H12 H', ?_, fun σ' H' p => ⟨y2, c3, r3, qs2, p.1, k9.trans (s12.trans p.2).kept, W12.same p.2, hy12.same p.2, hc12.same p.2, hnm2, p.2 _ _ (s12 _ _ b9)⟩⟩
        have ok2 : COk (ns, qs2) := ⟨hN, hLqc⟩
        obtain ⟨_, _, dy, tu, tr, ey, dtu, dtr⟩ := id hy12
        refine rd_cb1 ⟨_, rfl, y2, dy, _, rfl, ey, y2, dy, tu, tr, rfl, ey, _, rfl, y2, dy, _, rfl, ey, y2, dy, tu, tr, rfl, ey, two, fun q1 hq1 => ?_⟩
        have t1 := Same.new (o := .lst [tu, tr]) hq1
        refine rd_rv (good_pair ok2 upd_same (dtu.same t1) (dtr.same t1)) (rd_cb1 ⟨_, rfl, c3, _, rfl, .inr (same_sqt t1 hc12.sq), fun q2 hq2 => ?_⟩)
        have t2 := Same.new (o := .lst [.ref u, .ref r3]) hq2
        have t12 := t1.trans t2
        refine rd_rv (good_pair ok2 upd_same ((hc12.same t12).fo hN) (hc12.same t12).dr) ⟨rfl, _, rfl, ?_⟩
        rw [decide_eq_true rfl]
        have W14 := W12.same t12
        obtain ⟨_, _, dx, _, _, ex, _, _⟩ := id W14.mi
        refine iteF ⟨_, rfl, x, dx, _, rfl, ex, x, ns, rs, rfl, W14.mi, fun H15 s15 => ⟨_, rfl, _, rfl, .ref c, ns, rs, rfl, (W14.cs.same s15).dq hN, hN, hL, fun H16 s16 => ⟨rfl, _, rfl, ?_⟩⟩⟩
        rw [decide_eq_true rfl]
        exact iteF ⟨⟨_, _, _, _, _, _, _, _, _, rfl⟩, t12.trans (s15.trans s16)⟩
    rintro _ H5 ⟨⟨t, o3, o7, o8, o9, o10, o11, o12, o13, o14, o15, rfl⟩, k5, W5⟩
    clear k4 W4
    have hn8 : n.length ≤ 1000 := by
      obtain ⟨R, hR, rfl⟩ := List.mem_map.mp hn
      have := (name_parts (lines_names hL R hR)).2.1
      omega
    obtain ⟨n0, hn0⟩ : ∃ z, ns[0]? = some z := ⟨ns[0], List.getElem?_eq_getElem (by omega)⟩
    have hp0 : (ns ++ boundL)[0]? = some n0 := by
      rw [List.getElem?_append_left (by omega)]
      exact hn0
    have hpb : (ns ++ boundL)[ns.length]? = some ("bound" : Str) := by
      rw [List.getElem?_append_right (Nat.le_refl _), Nat.sub_self]
      rfl
    -- two, in any order
    refine ⟨fun σ' H' => ∃ d1 d2 st1 st2, (∃ t o3 o7 o8 o9 o10 o11 o14 o15, σ' = [some (.ref l), t, some (.ref u), o3, some (.ref c), some (.ref x), some (.str n), o7, o8, o9, o10, o11, some (.ref d1), some (.ref d2), o14, o15, none]) ∧ isStretchD (strD st1) = true ∧ isStretchD (strD st2) = true ∧ Kept l H H' ∧ W7 K C l x c u r ns rs H' ∧ Dq K H' (.ref d1) (chD n n0 st1) ∧ Dq K H' (.ref d2) (chD n "bound" st2), ?_, ?_⟩
    · refine ⟨_, rfl, _, rfl, u, _, 0, _, rfl, rfl, W5.cs.tn.sq, atI_nat (j := 0) (by rw [List.getElem?_map, hn0]; rfl), _, rfl, l, rfl, W5.un, fun H6 v1 st1 k6 u6 dv1 hst1 => ⟨three, fun d1 hd1 => ?_⟩⟩
      have s7 := Same.new (o := .tup [.str n, .str n0, v1]) hd1
      have W7' := (W5.kept k6 u6).same s7
      have D1 : Dq K (upd H6 d1 (.tup [.str n, .str n0, v1])) (.ref d1) (chD n n0 st1) := .tup (SqT.of upd_same) (.cons (.str _ hn8) (.cons (.str _ (place_len hN hp0)) (.cons (dv1.same s7) .nil)))
      refine ⟨_, rfl, _, rfl, l, rfl, W7'.un, fun H8 v2 st2 k8 u8 dv2 hst2 => ⟨three, fun d2 hd2 => ?_⟩⟩
      obtain ⟨us, hus⟩ := urn_lst W7'.un
      have s9 := Same.new (o := .tup [.str n, .str ("bound" : Str), v2]) hd2
      have D2 : Dq K H8 (.ref d1) (chD n n0 st1) := Dq.but hus k8 (by unfold chD; simp only [noL, noLs]; rfl) D1
      exact ⟨_, _, rfl, d1, d2, st1, st2, ⟨_, _, _, _, _, _, _, _, _, rfl⟩, hst1, hst2, k5.trans (k6.trans (s7.kept.trans (k8.trans s9.kept))), (W7'.kept k8 u8).same s9, D2.same s9, .tup (SqT.of upd_same) (.cons (.str _ hn8) (.cons (.str _ (by decide)) (.cons (dv2.same s9) .nil)))⟩
    rintro _ H6 ⟨d1, d2, st1, st2, ⟨t, o3, o7, o8, o9, o10, o11, o14, o15, rfl⟩, hst1, hst2, k6, W6, D1, D2⟩
    refine ⟨fun σ' H' => (∃ t o3 o7 o8 o9 o10 o11 o12 o13 o14 o15, σ' = [some (.ref l), t, some (.ref u), o3, some (.ref c), some (.ref x), some (.str n), o7, o8, o9, o10, o11, o12, o13, o14, o15, none]) ∧ Kept l H H' ∧ W7 K C l x c u r ns rs H', ?_, ?_⟩
    · obtain ⟨_, _, dx, _, _, ex, _, _⟩ := id W6.mi
      have hn1 : n ∈ (chg rs n 0 st1).map Rw.name := by rw [chg_names]; exact hn
      have hn2 : n ∈ (chg rs n ns.length st2).map Rw.name := by rw [chg_names]; exact hn
      refine ⟨_, rfl, x, dx, _, rfl, ex, rfl, _, rfl, x, .ref d1, ns, rs, n, n0, 0, st1, rfl, W6.mi, D1, hn, hp0, hst1, fun H7 y1 s7 hy1 => ?_⟩
      obtain ⟨_, _, dy1, _, _, ey1, _, _⟩ := id hy1
      refine ⟨y1, dy1, _, rfl, ey1, rfl, _, rfl, y1, .ref d2, ns, _, n, "bound", ns.length, st2, rfl, hy1, D2.same s7, hn1, hpb, hst2, fun H8 y2 s8 hy2 => ?_⟩
      have s78 := s7.trans s8
      refine ⟨_, rfl, x, dx, _, rfl, s78 _ _ ex, rfl, _, rfl, x, .ref d2, ns, rs, n, "bound", ns.length, st2, rfl, W6.mi.same s78, D2.same s78, hn, hpb, hst2, fun H9 y3 s9 hy3 => ?_⟩
      obtain ⟨_, _, dy3, _, _, ey3, _, _⟩ := id hy3
      have s79 := s78.trans s9
      refine ⟨y3, dy3, _, rfl, ey3, rfl, _, rfl, y3, .ref d1, ns, _, n, n0, 0, st1, rfl, hy3, D1.same s79, hn2, hp0, hst1, fun H10 y4 s10 hy4 => ?_⟩
      have hy2' := hy2.same (s9.trans s10)
      rw [chg_comm hL (Nat.zero_le _) (Nat.le_refl _) (by omega)] at hy2'
      exact rd_neSame I hy2' hy4 ⟨_, rfl, iteF ⟨⟨_, _, _, _, _, _, _, _, _, _, _, rfl⟩, k6.trans (s79.trans s10).kept, W6.same (s79.trans s10)⟩⟩
    rintro _ H7 ⟨⟨t, o3, o7, o8, o9, o10, o11, o12, o13, o14, o15, rfl⟩, k7, W8⟩
    clear k6 W6 D1 D2 k5 W5
    -- what is there already
    refine ⟨fun σ' H' => (∃ o1 o2 o3 o4 o5 o6 o7 o8 o9 o10 o11 o12 o13 o14 o15, σ' = [some (.ref l), o1, o2, o3, o4, o5, o6, o7, o8, o9, o10, o11, o12, o13, o14, o15, none]) ∧ Kept l H H' ∧ Urn H' l, ?_, fun σ' H' p => p⟩
    obtain ⟨r', xs, er, g1, g2, gl⟩ := tup_len W8.cs.dr
    cases er
    rw [List.length_map] at gl
    refine ⟨_, rfl, c, _, 1, _, rfl, rfl, W8.cs.sq, atI_nat (j := 1) rfl, r, rfl, ⟨_, g1⟩, ?_⟩
    refine for_it (walk_tup (K := K) (a := r) (xs := xs)) (fun i σ' H' => (∃ o14 o15, σ' = [some (.ref l), t, some (.ref u), o3, some (.ref c), some (.ref x), some (.str n), o7, o8, o9, o10, o11, o12, o13, o14, o15, none]) ∧ Same H7 H') ⟨⟨_, _, rfl⟩, fun _ _ e => e⟩ (fun i σ' H' hi p => same_sqt p.2 g1) ?_ (fun σ' H' p => by
      obtain ⟨⟨_, _, rfl⟩, s⟩ := p
      exact ⟨⟨_, _, _, _, _, _, _, _, _, _, _, _, _, _, _, rfl⟩, k7.trans s.kept, W8.un.same s⟩)
    rintro i v _ _ H8 hi ⟨⟨o14, o15, rfl⟩, s8⟩ ⟨rfl, hv⟩
    have hi2 : i < rs.length := by rw [← gl]; exact hi
    obtain ⟨d, hd, dv⟩ := (g2.same s8).get hv
    rw [List.getElem?_map, List.getElem?_eq_getElem hi2] at hd
    cases hd
    have hRm := List.getElem_mem hi2
    generalize rs[i] = R at dv hRm
    have hok := hL.ok R hRm
    obtain ⟨_, hRl⟩ := row_name hok
    have hall := row_all_ok hok
    obtain ⟨a, v2, v3, rfl, ha, d2, d3, hRn⟩ := row_at dv
    obtain ⟨b, ys, rfl, hb, db, hl⟩ := tup_len d2
    rw [List.length_map] at hl
    obtain ⟨pl, hpl⟩ : ∃ z, R.parts[ns.length - 1]? = some z := ⟨R.parts[ns.length - 1], List.getElem?_eq_getElem (by omega)⟩
    obtain ⟨vl, hvl⟩ : ∃ z, ys[ns.length - 1]? = some z := ⟨ys[ns.length - 1], List.getElem?_eq_getElem (by omega)⟩
    have dvl : Dq K H8 vl (strD pl) := by
      obtain ⟨d, hd, dq⟩ := db.get hvl
      rw [List.getElem?_map, hpl] at hd
      cases hd
      exact dq
    obtain ⟨nl, hnl⟩ : ∃ z, ns[ns.length - 1]? = some z := ⟨ns[ns.length - 1], List.getElem?_eq_getElem (by omega)⟩
    have hpl2 : (ns ++ boundL)[ns.length - 1]? = some nl := by
      rw [List.getElem?_append_left (by omega)]
      exact hnl
    have hRnm : R.name ∈ rs.map Rw.name := List.mem_map_of_mem hRm
    have hstb : isStretchD (strD R.bd) = true := hall _ (List.mem_append_right _ (List.mem_singleton.mpr rfl))
    have hstl : isStretchD (strD pl) = true := hall _ (List.mem_append_left _ (List.mem_of_getElem? hpl))
    have W9 := W8.same s8
    obtain ⟨_, _, dx, _, _, ex, _, _⟩ := id W9.mi
    refine ⟨fun σ' H' => ∃ D y1 y2, (∃ o14, σ' = [some (.ref l), t, some (.ref u), o3, some (.ref c), some (.ref x), some (.str n), o7, o8, o9, o10, o11, o12, o13, o14, some (.ref D), none]) ∧ Same H8 H' ∧ H' D = some (.lst [.ref y1, .ref y2]) ∧ SysAt K C H' y1 ns rs ∧ SysAt K C H' y2 ns rs, ?_, ?_⟩
    · refine ⟨_, rfl, x, dx, _, rfl, ex, rfl, _, rfl, a, _, 0, _, rfl, rfl, ha, atI_nat (j := 0) rfl, _, rfl, a, _, 2, _, rfl, rfl, ha, atI_nat (j := 2) rfl, three, fun q1 hq1 => ?_⟩
      have t1 := Same.new (o := .tup [.str R.name, .str ("bound" : Str), v3]) hq1
      refine ⟨x, .ref q1, ns, rs, R.name, "bound", ns.length, R.bd, rfl, W9.mi.same t1, .tup (SqT.of upd_same) (.cons (.str _ hRn) (.cons (.str _ (by decide)) (.cons (d3.same t1) .nil))), hRnm, hpb, hstb, fun H9 y1 s9 hy1 => ?_⟩
      rw [chg_same hL hRm (withAt_bd R hRl)] at hy1
      have t19 := t1.trans s9
      have tnn := (W9.cs.tn.same t19)
      refine ⟨_, rfl, x, dx, _, rfl, t19 _ _ ex, rfl, _, rfl, a, _, 0, _, rfl, rfl, same_sqt t19 ha, atI_nat (j := 0) rfl, _, rfl, _, rfl, u, _, -1, .str nl, rfl, rfl, tnn.sq, ?_, _, rfl, a, _, 1, _, rfl, rfl, same_sqt t19 ha, atI_nat (j := 1) rfl, _, rfl, b, ys, -1, vl, rfl, rfl, same_sqt t19 hb, ?_, three, fun q2 hq2 => ?_⟩
      · rw [at_neg _ (by rw [List.length_map]; omega), List.length_map, List.getElem?_map, hnl]
        rfl
      · rw [at_neg _ (by omega), hl, hRl]
        exact hvl
      have t2 := Same.new (o := .tup [.str R.name, .str nl, vl]) hq2
      have t192 := t19.trans t2
      refine ⟨x, .ref q2, ns, rs, R.name, nl, ns.length - 1, pl, rfl, W9.mi.same t192, .tup (SqT.of upd_same) (.cons (.str _ hRn) (.cons (.str _ (place_len hN hpl2)) (.cons (dvl.same t192) .nil))), hRnm, hpl2, hstl, fun H10 y2 s10 hy2 => ⟨two, fun D hD => ?_⟩⟩
      rw [chg_same hL hRm (withAt_part R hpl)] at hy2
      have s11 := Same.new (o := .lst [.ref y1, .ref y2]) hD
      exact ⟨D, y1, y2, ⟨_, rfl⟩, t192.trans (s10.trans s11), upd_same, hy1.same (t2.trans (s10.trans s11)), hy2.same s11⟩
    rintro _ H9 ⟨D, y1, y2, ⟨o14', rfl⟩, s9, bD, hy1, hy2⟩
    refine ⟨fun σ' H' => (∃ o14 o15, σ' = [some (.ref l), t, some (.ref u), o3, some (.ref c), some (.ref x), some (.str n), o7, o8, o9, o10, o11, o12, o13, o14, o15, none]) ∧ Same H7 H', ?_, fun σ' H' p => p⟩
    refine ⟨_, rfl, _, rfl, _, rfl, two, fun q1 hq1 => ?_⟩
    have t1 := Same.new (o := .lst [.ref x, .ref x]) hq1
    have hx := (W9.mi.same s9).same t1
    exact ⟨⟨D, q1, _, _, rfl, rfl, t1 _ _ bD, upd_same, Prs.cons (dins_of (hy1.same t1) hx) (Prs.cons (dins_of (hy2.same t1) hx) Prs.nil)⟩, fun H' s' => ⟨_, rfl, iteF ⟨⟨_, _, rfl⟩, s8.trans (s9.trans (t1.trans s'))⟩⟩⟩
end
end Ca
set_option Elab.async false
set_option linter.all false
set_option maxRecDepth 100000
set_option maxHeartbeats 0
namespace Ca
open PySem PySem.Spec PyProof.Rows L2
section
variable {P : Program} {w : World} {K : PySem.W.Frag} {h : Heap} {mg : Str → Option Value}
theorem factsk07 (X : K.In h) (G : h.Ns mainGlobals mg) {f : Addr} (hfa : mg "law" = some (.ref f)) (c : Saysk07 K) :
    ∃ fd : FuncData, (∀ (s : Shared) (v : Value), BindsTo s fd ⟨[v], []⟩ [("_law_cells", v)]) ∧ ∀ base : Heap, FnG P w K mg base 9 f fd ["_law_cells"] (spLawB K) := by
  have d := c.d
  have gl : ∀ (i : Nat) {x : Str}, fask07[i]? = some (.glo x) → mg x = some (.ref (He.ga K x)) := fun i x q => He.glo_ok X G (d.fact i q)
  have fr : ∀ (i : Nat) {x : Str}, fask07[i]? = some (.free x) → mg x = none := fun i x q => He.free_ok X G (d.fact i q)
  have it : ∀ (i : Nat) {x : Str} {z : Int}, fask07[i]? = some (.int x z) → ∃ t, mg x = some (.int z t) := fun i x z q => He.int_ok X G (d.fact i q)
  have st : ∀ (i : Nat) {x z : Str}, fask07[i]? = some (.str x z) → ∃ t, mg x = some (.str z t) := fun i x z q => He.str_ok X G (d.fact i q)
  obtain ⟨fdIsInteger, FIsInteger⟩ := d.def_ 0 (d := topD "is_integer" sIsInteger) rfl
  obtain ⟨fdIsTupleOf, FIsTupleOf⟩ := d.def_ 1 (d := topD "is_tuple_of" sIsTupleOf) rfl
  obtain ⟨fdIsName, FIsName⟩ := d.def_ 2 (d := topD "is_name" sIsName) rfl
  obtain ⟨fdIsUnknown, FIsUnknown⟩ := d.def_ 3 (d := topD "is_unknown" sIsUnknown) rfl
  obtain ⟨fdIsStretch, FIsStretch⟩ := d.def_ 4 (d := topD "is_stretch" sIsStretch) rfl
  obtain ⟨fdIsRow, FIsRow⟩ := d.def_ 5 (d := topD "is_row" sIsRow) rfl
  obtain ⟨fdCheckUnknowns, FCheckUnknowns⟩ := d.def_ 6 (d := topD "check_unknowns" sCheckUnknowns) rfl
  obtain ⟨fdCheckRows, FCheckRows⟩ := d.def_ 7 (d := topD "check_rows" sCheckRows) rfl
  obtain ⟨fdLineOf, FLineOf⟩ := d.def_ 8 (d := topD "line_of" sLineOf) rfl
  obtain ⟨fdLawUrn, FLawUrn⟩ := d.def_ 9 (d := topD "_law_urn" sLawUrn) rfl
  obtain ⟨fdLawDip, FLawDip⟩ := d.def_ 10 (d := topD "_law_dip" sLawDip) rfl
  obtain ⟨fdLawFrom, FLawFrom⟩ := d.def_ 11 (d := topD "_law_from" sLawFrom) rfl
  obtain ⟨fdLawUnlike, FLawUnlike⟩ := d.def_ 12 (d := topD "_law_unlike" sLawUnlike) rfl
  obtain ⟨fdLawStretch, FLawStretch⟩ := d.def_ 13 (d := topD "_law_stretch" sLawStretch) rfl
  obtain ⟨fdLawLine, FLawLine⟩ := d.def_ 14 (d := topD "_law_line" sLawLine) rfl
  obtain ⟨fdLawCase, FLawCase⟩ := d.def_ 15 (d := topD "_law_case" sLawCase) rfl
  obtain ⟨fdLawPage, FLawPage⟩ := d.def_ 16 (d := topD "_law_page" sLawPage) rfl
  obtain ⟨fdLawRight, FLawRight⟩ := d.def_ 17 (d := topD "_law_right" sLawRight) rfl
  obtain ⟨fdLaw, FLaw⟩ := d.def_ 18 (d := topD "law" sLaw) rfl
  obtain ⟨fdIsOneOf, FIsOneOf⟩ := d.def_ 19 (d := topD "is_one_of" sIsOneOf) rfl
  obtain ⟨fdIsChange, FIsChange⟩ := d.def_ 20 (d := topD "is_change" sIsChange) rfl
  obtain ⟨fdRowWith, FRowWith⟩ := d.def_ 21 (d := topD "row_with" sRowWith) rfl
  obtain ⟨fdLawMade, FLawMade⟩ := d.def_ 22 (d := topD "_law_made" sLawMade) rfl
  obtain ⟨fdLawChanged, FLawChanged⟩ := d.def_ 23 (d := topD "_law_changed" sLawChanged) rfl
  obtain ⟨fdMInit, FMInit⟩ := d.def_ 24 (d := memD "__init__" "System.__init__" mSystemInit [.adr e0A]) rfl
  obtain ⟨fdMLen, FMLen⟩ := d.def_ 25 (d := memD "__len__" "System.__len__" mSystemLen []) rfl
  obtain ⟨fdMBool, FMBool⟩ := d.def_ 26 (d := memD "__bool__" "System.__bool__" mSystemBool []) rfl
  obtain ⟨fdMStr, FMStr⟩ := d.def_ 27 (d := memD "__str__" "System.__str__" mSystemStr []) rfl
  obtain ⟨fdMEq, FMEq⟩ := d.def_ 28 (d := memD "__eq__" "System.__eq__" mSystemEq []) rfl
  obtain ⟨fdMChanged, FMChanged⟩ := d.def_ 29 (d := memD "changed" "System.changed" mSystemChanged []) rfl
  obtain ⟨p1, c1⟩ := an c.b
  obtain ⟨p2, c1⟩ := an c1
  obtain ⟨p3, c1⟩ := an c1
  obtain ⟨em, c1⟩ := an c1
  obtain ⟨b1, c1⟩ := an c1
  obtain ⟨b2, c1⟩ := an c1
  obtain ⟨b3, c1⟩ := an c1
  obtain ⟨b4, c1⟩ := an c1
  obtain ⟨b5, c1⟩ := an c1
  obtain ⟨b6, c1⟩ := an c1
  obtain ⟨b7, c1⟩ := an c1
  obtain ⟨b8, b9⟩ := an c1
  obtain ⟨pU, okU⟩ := pr_ok p1
  obtain ⟨pR, okR⟩ := pr_ok p2
  obtain ⟨pN, okN⟩ := pr_ok p3
  obtain ⟨fdU, FU⟩ := fun_at c.u okU
  obtain ⟨fdR, FR⟩ := fun_at c.r okR
  obtain ⟨fdN, FN⟩ := fun_at c.n okN
  have B : Bn mg := ⟨fr 32 rfl, fr 33 rfl, fr 34 rfl, fr 35 rfl, fr 36 rfl, fr 37 rfl, fr 38 rfl, fr 39 rfl⟩
  have Bx : Bm mg := ⟨fr 40 rfl, fr 41 rfl, fr 42 rfl⟩
  have Bq : Bi mg := ⟨fr 37 rfl, fr 33 rfl, fr 46 rfl, fr 47 rfl⟩
  have C : Cn mg := ⟨st 29 rfl, st 30 rfl, it 28 rfl, st 31 rfl, it 25 rfl, it 26 rfl, it 27 rfl⟩
  have S : SysC K (sysA K) := ⟨He.cls_ok (d.fact 48 (f := .cls "System") rfl), He.noat_ok (d.fact 49 (f := .noat "System" "_unknowns") rfl), He.noat_ok (d.fact 50 (f := .noat "System" "_rows") rfl)⟩
  have mLen := He.meth_ok (d.fact 52 (f := .meth "System" "__len__") rfl)
  have mBool := He.meth_ok (d.fact 53 (f := .meth "System" "__bool__") rfl)
  have mStr := He.meth_ok (d.fact 54 (f := .meth "System" "__str__") rfl)
  have mEq := He.meth_ok (d.fact 55 (f := .meth "System" "__eq__") rfl)
  have mChanged := He.meth_ok (d.fact 56 (f := .meth "System" "changed") rfl)
  have E1 : SysE K (sysA K) _ _ _ _ _ _ _ _ _ _ _ := { mkr := He.mkr_ok (d.fact 51 (f := .mkr "System") rfl), eq := mEq.at_, eqf := mEq.fn, ne := isF_ok b1, ob := of_decide_eq_true b2, str := mStr.at_, strf := mStr.fn, len := mLen.at_, lenf := mLen.fn, bool := mBool.at_, boolf := mBool.fn, un := pU, ro := pR, na := pN }
  have hodd : ∀ t : String, t ∈ tyNames → PySem.W.kitOne K (.type t) (.ref (sysA K)) = some false ∧ PySem.W.notFirst K (sysA K) (.type t) = true := fun t ht => by
    obtain ⟨z1, z2⟩ := an (List.all_eq_true.mp b9 t ht)
    exact ⟨of_decide_eq_true z1, z2⟩
  have I : SysI K (sysA K) := { ha := isF_ok b3, hn := isF_ok b4, ht := of_decide_eq_true b5, hm := of_decide_eq_true b6, own := of_decide_eq_true b7, nf := b8, odd := hodd }
  have gIsInteger := gl 0 (x := "is_integer") rfl
  have gIsTupleOf := gl 1 (x := "is_tuple_of") rfl
  have gIsName := gl 2 (x := "is_name") rfl
  have gIsUnknown := gl 3 (x := "is_unknown") rfl
  have gIsStretch := gl 4 (x := "is_stretch") rfl
  have gIsRow := gl 5 (x := "is_row") rfl
  have gCheckUnknowns := gl 6 (x := "check_unknowns") rfl
  have gCheckRows := gl 7 (x := "check_rows") rfl
  have gLineOf := gl 8 (x := "line_of") rfl
  have gLawUrn := gl 9 (x := "_law_urn") rfl
  have gLawDip := gl 10 (x := "_law_dip") rfl
  have gLawFrom := gl 11 (x := "_law_from") rfl
  have gLawUnlike := gl 12 (x := "_law_unlike") rfl
  have gLawStretch := gl 13 (x := "_law_stretch") rfl
  have gLawLine := gl 14 (x := "_law_line") rfl
  have gLawCase := gl 15 (x := "_law_case") rfl
  have gLawPage := gl 16 (x := "_law_page") rfl
  have gLawRight := gl 17 (x := "_law_right") rfl
  have gLaw := gl 18 (x := "law") rfl
  have gIsOneOf := gl 19 (x := "is_one_of") rfl
  have gIsChange := gl 20 (x := "is_change") rfl
  have gRowWith := gl 21 (x := "row_with") rfl
  have gLawMade := gl 22 (x := "_law_made") rfl
  have gLawChanged := gl 23 (x := "_law_changed") rfl
  have gS := gl 24 (x := "System") rfl
  have e := hfa.symm.trans gLaw
  cases e
  have bL := FunD.bindsA (ps := ["_law_cells"]) FLaw fun _ _ _ _ _ _ us hl => match us, hl with | [_], _ => rfl
  refine ⟨fdLaw, fun s v => bL s [v] rfl, fun base => ?_⟩
  have nIsInteger : Binds K fdIsInteger ["value"] [] := FIsInteger.bindsN fun _ _ _ _ _ _ us hl => match us, hl with | [_], _ => rfl
  have nIsTupleOf : Binds K fdIsTupleOf ["value", "many"] [] := FIsTupleOf.bindsN fun _ _ _ _ _ _ us hl => match us, hl with | [_, _], _ => rfl
  have nIsName : Binds K fdIsName ["value"] [] := FIsName.bindsN fun _ _ _ _ _ _ us hl => match us, hl with | [_], _ => rfl
  have nIsUnknown : Binds K fdIsUnknown ["value"] [] := FIsUnknown.bindsN fun _ _ _ _ _ _ us hl => match us, hl with | [_], _ => rfl
  have nIsStretch : Binds K fdIsStretch ["value"] [] := FIsStretch.bindsN fun _ _ _ _ _ _ us hl => match us, hl with | [_], _ => rfl
  have nIsRow : Binds K fdIsRow ["value", "many"] [] := FIsRow.bindsN fun _ _ _ _ _ _ us hl => match us, hl with | [_, _], _ => rfl
  have nCheckUnknowns : Binds K fdCheckUnknowns ["unknowns"] [] := FCheckUnknowns.bindsN fun _ _ _ _ _ _ us hl => match us, hl with | [_], _ => rfl
  have nCheckRows : Binds K fdCheckRows ["rows", "many"] [] := FCheckRows.bindsN fun _ _ _ _ _ _ us hl => match us, hl with | [_, _], _ => rfl
  have nLineOf : Binds K fdLineOf ["row"] [] := FLineOf.bindsN fun _ _ _ _ _ _ us hl => match us, hl with | [_], _ => rfl
  have nLawUrn : Binds K fdLawUrn ["_law_cells", "_law_at"] [] := FLawUrn.bindsN fun _ _ _ _ _ _ us hl => match us, hl with | [_, _], _ => rfl
  have nLawDip : Binds K fdLawDip ["_law_urn_here", "_law_top"] [] := FLawDip.bindsN fun _ _ _ _ _ _ us hl => match us, hl with | [_, _], _ => rfl
  have nLawFrom : Binds K fdLawFrom ["_law_urn_here", "_law_some"] [] := FLawFrom.bindsN fun _ _ _ _ _ _ us hl => match us, hl with | [_, _], _ => rfl
  have nLawUnlike : Binds K fdLawUnlike ["_law_urn_here", "_law_menu", "_law_many"] [] := FLawUnlike.bindsN fun _ _ _ _ _ _ us hl => match us, hl with | [_, _, _], _ => rfl
  have nLawStretch : Binds K fdLawStretch ["_law_urn_here"] [] := FLawStretch.bindsN fun _ _ _ _ _ _ us hl => match us, hl with | [_], _ => rfl
  have nLawLine : Binds K fdLawLine ["_law_urn_here", "_law_title", "_law_many"] [] := FLawLine.bindsN fun _ _ _ _ _ _ us hl => match us, hl with | [_, _, _], _ => rfl
  have nLawCase : Binds K fdLawCase ["_law_urn_here", "_law_many", "_law_most"] [] := FLawCase.bindsN fun _ _ _ _ _ _ us hl => match us, hl with | [_, _, _], _ => rfl
  have nLawPage : Binds K fdLawPage ["_law_case_here"] [] := FLawPage.bindsN fun _ _ _ _ _ _ us hl => match us, hl with | [_], _ => rfl
  have nLawRight : Binds K fdLawRight ["_law_urn_here"] [] := FLawRight.bindsN fun _ _ _ _ _ _ us hl => match us, hl with | [_], _ => rfl
  have nIsOneOf : Binds K fdIsOneOf ["value", "words"] [] := FIsOneOf.bindsN fun _ _ _ _ _ _ us hl => match us, hl with | [_, _], _ => rfl
  have nIsChange : Binds K fdIsChange ["value", "names", "places"] [] := FIsChange.bindsN fun _ _ _ _ _ _ us hl => match us, hl with | [_, _, _], _ => rfl
  have nRowWith : Binds K fdRowWith ["row", "at", "stretch"] [] := FRowWith.bindsN fun _ _ _ _ _ _ us hl => match us, hl with | [_, _, _], _ => rfl
  have nLawMade : Binds K fdLawMade ["_law_case_here"] [] := FLawMade.bindsN fun _ _ _ _ _ _ us hl => match us, hl with | [_], _ => rfl
  have nLawChanged : Binds K fdLawChanged ["_law_case_here", "_law_deed"] [] := FLawChanged.bindsN fun _ _ _ _ _ _ us hl => match us, hl with | [_, _], _ => rfl
  have nMLen : Binds K fdMLen ["self"] [] := FMLen.bindsN fun _ _ _ _ _ _ us hl => match us, hl with | [_], _ => rfl
  have nMBool : Binds K fdMBool ["self"] [] := FMBool.bindsN fun _ _ _ _ _ _ us hl => match us, hl with | [_], _ => rfl
  have nMStr : Binds K fdMStr ["self"] [] := FMStr.bindsN fun _ _ _ _ _ _ us hl => match us, hl with | [_], _ => rfl
  have nMEq : Binds K fdMEq ["self", "other"] [] := FMEq.bindsN fun _ _ _ _ _ _ us hl => match us, hl with | [_, _], _ => rfl
  have nMChanged : Binds K fdMChanged ["self", "change"] [] := FMChanged.bindsN fun _ _ _ _ _ _ us hl => match us, hl with | [_, _], _ => rfl
  have nU : Binds K fdU ["self"] [] := FU.bindsN fun _ _ _ _ _ _ us hl => match us, hl with | [_], _ => rfl
  have nR : Binds K fdR ["self"] [] := FR.bindsN fun _ _ _ _ _ _ us hl => match us, hl with | [_], _ => rfl
  have nN : Binds K fdN ["self"] [] := FN.bindsN fun _ _ _ _ _ _ us hl => match us, hl with | [_], _ => rfl
  have kChanged : KBn K fdMChanged ["self", "change"] 1 ["change"] (fun us ws => us ++ ws) (fun vs zs => vs ++ zs) := kb_of FMChanged fun _ _ _ _ _ _ us ws h1 h2 => match us, ws, h1, h2 with | [_], [_], _, _ => rfl
  obtain ⟨ds, vd, nI⟩ := FMInit.binds1 (ps := ["self", "unknowns", "rows"]) 3 1 (List.cons_ne_nil _ _) rfl fun T kV doc pm an cdv ct us its h1 h2 => match us, its, h1, h2 with | [_, _, _], [_], _, _ => ⟨_, rfl, rfl⟩
  obtain ⟨ds2, vd2, nI0⟩ := FMInit.binds1 (ps := ["self", "unknowns", "rows"]) 2 0 (List.cons_ne_nil _ _) rfl fun T kV doc pm an cdv ct us its h1 h2 => match us, its, h1, h2 with | [_, _], [_], _, _ => ⟨_, rfl, rfl⟩
  have GIsInteger := ok_isInteger (P := P) (w := w) (mg := mg) (base := base) FIsInteger B
  have GIsTupleOf := ok_isTupleOf (P := P) (w := w) (mg := mg) (base := base) FIsTupleOf B
  have GIsName := ok_isName (P := P) (w := w) (mg := mg) (base := base) FIsName B C
  have GIsUnknown := ok_isUnknown (P := P) (w := w) (mg := mg) (base := base) FIsUnknown C gIsName GIsName FIsName.kp nIsName
  have GIsStretch := ok_isStretch (P := P) (w := w) (mg := mg) (base := base) FIsStretch C gIsTupleOf GIsTupleOf FIsTupleOf.kp nIsTupleOf gIsInteger GIsInteger FIsInteger.kp nIsInteger
  have GIsRow := ok_isRow (P := P) (w := w) (mg := mg) (base := base) FIsRow B gIsTupleOf GIsTupleOf FIsTupleOf.kp nIsTupleOf gIsName GIsName FIsName.kp nIsName gIsStretch GIsStretch FIsStretch.kp nIsStretch
  have GCheckUnknowns := ok_checkU (P := P) (w := w) (mg := mg) (base := base) FCheckUnknowns B C gIsUnknown GIsUnknown FIsUnknown.kp nIsUnknown
  have GCheckRows := ok_checkR (P := P) (w := w) (mg := mg) (base := base) FCheckRows B C gIsRow GIsRow FIsRow.kp nIsRow
  have GLineOf := ok_line (P := P) (w := w) (mg := mg) (base := base) FLineOf B
  have GI := ok_init (P := P) (w := w) (mg := mg) (base := base) FMInit B S gCheckUnknowns GCheckUnknowns FCheckUnknowns.kp nCheckUnknowns gCheckRows GCheckRows FCheckRows.kp nCheckRows
  have GLen := ok_len (P := P) (w := w) (mg := mg) (base := base) FMLen B S
  have GBool := ok_bool (P := P) (w := w) (mg := mg) (base := base) FMBool
  have GStr := ok_str (P := P) (w := w) (mg := mg) (base := base) FMStr S gLineOf GLineOf FLineOf.kp nLineOf
  have GEq := ok_eq (P := P) (w := w) (mg := mg) (base := base) FMEq B S I gS
  have GU := ok_unknowns (P := P) (w := w) (mg := mg) (base := base) FU S
  have GR := ok_rows (P := P) (w := w) (mg := mg) (base := base) FR S
  have GN := ok_names (P := P) (w := w) (mg := mg) (base := base) FN B S
  have GLawUrn := ok_urn (P := P) (w := w) (mg := mg) (base := base) (fun_of FLawUrn) Bq
  have GLawDip := ok_dip (P := P) (w := w) (mg := mg) (base := base) (fun_of FLawDip) Bq
  have GLawFrom := ok_from (P := P) (w := w) (mg := mg) (base := base) (fun_of FLawFrom) Bq gLawDip (fun_of FLawDip) nLawDip
  have GLawUnlike := ok_unlike (P := P) (w := w) (mg := mg) (base := base) FLawUnlike B Bx.rng gLawDip GLawDip FLawDip.kp nLawDip
  have GLawStretch := ok_stretch (P := P) (w := w) (mg := mg) (base := base) FLawStretch gLawDip GLawDip FLawDip.kp nLawDip gLawFrom GLawFrom FLawFrom.kp nLawFrom
  have GLawLine := ok_rowD (P := P) (w := w) (mg := mg) (base := base) FLawLine B Bx.rng gLawStretch GLawStretch FLawStretch.kp nLawStretch
  have GLawCase := ok_case (P := P) (w := w) (mg := mg) (base := base) FLawCase B gLawDip GLawDip FLawDip.kp nLawDip gLawUnlike GLawUnlike FLawUnlike.kp nLawUnlike gLawLine GLawLine FLawLine.kp nLawLine
  have GLawPage := ok_page (P := P) (w := w) (mg := mg) (base := base) FLawPage B (fr 43 rfl)
  cases vd
  cases vd2 with
  | cons vr vrr =>
  cases vrr
  have GIsOneOf := ok_isOne (P := P) (w := w) (mg := mg) (base := base) FIsOneOf B
  have GIsChange := ok_isChange (P := P) (w := w) (mg := mg) (base := base) FIsChange gIsTupleOf GIsTupleOf FIsTupleOf.kp nIsTupleOf gIsOneOf GIsOneOf FIsOneOf.kp nIsOneOf gIsStretch GIsStretch FIsStretch.kp nIsStretch
  have GRowWith := ok_rowWith (P := P) (w := w) (mg := mg) (base := base) FRowWith B
  have GChanged := ok_changed (P := P) (w := w) (mg := mg) (base := base) FMChanged B C S E1.mkr gS GI nI pN GN nN gIsChange GIsChange FIsChange.kp nIsChange gRowWith GRowWith FRowWith.kp nRowWith
  have GLawMade := ok_madeC (P := P) (w := w) (mg := mg) (base := base) FLawMade E1.mkr gS GI nI
  have GLawCaseN := ok_caseN (P := P) (w := w) (mg := mg) (base := base) FLawCase B gLawDip GLawDip FLawDip.kp nLawDip gLawUnlike GLawUnlike FLawUnlike.kp nLawUnlike gLawLine GLawLine FLawLine.kp nLawLine
  have GLawFromT := ok_fromT (P := P) (w := w) (mg := mg) (base := base) FLawFrom B gLawDip GLawDip FLawDip.kp nLawDip
  have GLawChanged := ok_lawCh (P := P) (w := w) (mg := mg) (base := base) FLawChanged B
  have GLawRight := ok_right7 (P := P) (w := w) (mg := mg) (base := base) FLawRight B Bx (fr 43 rfl) S E1 gLawCase GLawCaseN FLawCase.kp nLawCase gLawPage GLawPage FLawPage.kp nLawPage gLawMade GLawMade FLawMade.kp nLawMade gLawFrom GLawFrom GLawFromT FLawFrom.kp nLawFrom gLawLine GLawLine FLawLine.kp nLawLine gLawStretch GLawStretch FLawStretch.kp nLawStretch gLawChanged GLawChanged FLawChanged.kp nLawChanged I GEq nMEq GStr nMStr GU nU GR nR mChanged GChanged nMChanged kChanged
  exact ok_lawB (by decide) FLaw gLawRight GLawRight FLawRight.kp nLawRight gLawUrn GLawUrn FLawUrn.kp nLawUrn (fr 38 rfl) (fr 40 rfl) (fr 44 rfl) (fr 45 rfl) (fr 37 rfl)
end
end Ca
open PySem PySem.W PySem.Calls PyProof.Rows
theorem PySem.Challenge.cw_commonanswer_k07_whole_systems_changed_holds : PySem.Challenge.rw_commonanswer_k07_whole_systems_changed.Holds := by
  w_on; o_law
  refine HandSHeadRun.head_any (r := Ca.rowk07) (q := view Ca.rowk07.prog [42]) (H := Ca.hkk07) (ob := Ca.obk07) (M := 14000) (loose := Ca.namesk07) (d := HandSHeadRun.topDef Ca.rowk07.prog 42) (kwd := []) Ca.obk07_eq
    (by kernel_rfl) (fun s => by kernel_rfl) Ca.runk07 (by kernel_rfl) (by kernel_rfl) (by kernel_rfl) (by rfl) (by first | assumption | decide +kernel) (by decide +kernel) ⟨rfl, rfl, rfl, rfl, rfl, by decide +kernel⟩ ?hw ?hc
  case hw => w_witness2
  case hc =>
    refine Att.attach_call (l := PySem.Challenge.rw_commonanswer_k07_whole_systems_changed) (n := 63) rfl (by kernel_rfl) fun w s₀ s₁ mg mb fa o pm cd doc a vs ns G Y ho hd hcd hmg hobj hints hlen hg => ?_
    obtain ⟨K, KX, c⟩ := Y
    have hmg' : mg ("law" : PySem.Str) = some (.ref fa) := by
      rw [← show (HandSHeadRun.topDef Ca.rowk07.prog 42).name = ("law" : PySem.Str) by kernel_rfl]
      exact hmg
    obtain ⟨fd, hb, hF⟩ := Ca.factsk07 (P := (PySem.Challenge.rw_commonanswer_k07_whole_systems_changed).prog) (w := w) KX G.T.g hmg' c
    exact Ca.lawG (k := 9) KX G.T.g G.T.b G.T.builtins G.T.nolimit hg hobj hints (Nat.le_trans hlen (by decide)) ⟨rfl, by decide, by decide⟩ (fun base _ _ => hF base) hb (fun H hS => ⟨a, ns, rfl, hS, fun _ => rfl⟩)
