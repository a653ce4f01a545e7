import PyProof.Rows.All
import Wide.All
import OpenK.AllK
import Wide.FinOn
import HandS.Base
import HandS.Call
import HandS.List
import HandS.Comp
import HandS.Ends
import HandS.Words
import HandS.WordsList
import HandS.Defaults
import HandS.HeadEnd
import HandS.Dict
import PyProof.ReprRoads
import HandS.OwnEq
import HandS.IsInst
import PyProof.InstNe
import KE.KCallOwn
import HandS.Iter
import KE.GoesEnum
import HandS.ForMost
import HandS.Star
import HandS.Walk
import PySem.Challenge.RW_commonanswer_k05_whole_texts_bent
import HandS.TupAny
import HandS.Property
import PyProof.Rows.RegStrFacts
import KE.KRevSl
import HandS.Style
import PyProof.Rows.RegFStrParts
import PyProof.Rows.ReprOcc
import HandS.MakeKw
import HandS.Zip
import HandS.Head0
import HandS.Head1
import HandS.Head2
import HandS.HeadHook1
import HandS.HeadHook2
import HandS.Exc
import HandS.ExcInit
import HandS.ExcField
import HandS.ExcIs
import KE.KExcInit
import KE.KExcIs
import HandS.ExcValue
import HandS.ExcOwn
import HandS.WordsExc
import HandS.TryMany
import HandS.HeadHook4
import HandS.Lambda
import HandS.EndBits
import HandS.HeadNt
import HandS.StrMore
import KE.KIntText
import PyProof.NeData
import PyProof.EqKinds
import HandS.Text
import KE.IntTextText
import PyProof.StrLawsChain
import KE.KTryMore
import HandS.SuiteRaise
import HandS.RaiseFrom
import HandS.ExcInitHot
import KE.KUnpackStar
import HandS.HotCalls
import HandS.SetFor
import PyProof.ReprLen
import HandS.ClsMeth
import HandS.MakeKwOnly
set_option Elab.async false
set_option linter.all false
set_option maxRecDepth 100000
set_option maxHeartbeats 4000000
namespace Ca
open PySem L2
/-! ### a mid-condition at a statement, an expression, a test -/
def cutS (t : TS) : TS := fun D σ H => ∃ P : St → Hp → Prop, t { D with nx := P } σ H ∧ ∀ σ' H', P σ' H' → D.nx σ' H'
def cutE (t : TE) : TE := fun σ H Q => ∃ P : VK, t σ H P ∧ ∀ v H', P v H' → Q v H'
def cutT (t : TT) : TT := fun σ H Q => ∃ P : Bool → Hp → Prop, t σ H P ∧ ∀ b H', P b H' → Q b H'
theorem sp_mono {X : Cx} {pins : List (Addr × Obj)} {D : Ends} {P : St → Hp → Prop} {f : Flow} {s : Shared} (h : SP X pins { D with nx := P } f s) (k : ∀ σ' H', P σ' H' → D.nx σ' H') : SP X pins D f s := by
  cases f with
  | next => obtain ⟨σ', H', I, q⟩ := h; exact ⟨σ', H', I, k _ _ q⟩
  | brk => exact h
  | cont => exact h
  | ret u => exact h
theorem ps_cut {X : Cx} {st : Stmt} {t : TS} (h : PS X st t) : PS X st (cutS t) := ⟨fun pins s σ H D I q => by
  obtain ⟨P, q1, q2⟩ := q
  exact thn (h.run pins s σ H _ I q1) fun f s' z => sp_mono z q2⟩
theorem pss_cut {X : Cx} {st : List Stmt} {t : TS} (h : PSs X st t) : PSs X st (cutS t) := ⟨fun pins s σ H D I q => by
  obtain ⟨P, q1, q2⟩ := q
  exact thn (h.run pins s σ H _ I q1) fun f s' z => sp_mono z q2⟩
theorem pe_cut {X : Cx} {e : Expr} {t : TE} (h : PE X e t) : PE X e (cutE t) := ⟨fun pins s σ H Q I q => by
  obtain ⟨P, q1, q2⟩ := q
  exact thn (h.run pins s σ H _ I q1) fun u s' ⟨v, H', I', r, z⟩ => ⟨v, H', I', r, q2 _ _ z⟩⟩
theorem pt_cut {X : Cx} {e : Expr} {t : TT} (h : PT X e t) : PT X e (cutT t) := ⟨fun pins s σ H Q I q => by
  obtain ⟨P, q1, q2⟩ := q
  exact thn (h.run pins s σ H _ I q1) fun b s' ⟨H', I', z⟩ => ⟨H', I', q2 _ _ z⟩⟩

/-! ### heaps -/
/-- an urn stands at l -/
def Urn (H : Hp) (l : Addr) : Prop := ∃ g x n : Int, 0 ≤ g ∧ 0 ≤ x ∧ x < 2147483563 ∧ H l = some (.lst [.int g, .int x, .int n])
/-- all that was tracked, but what stands at l, is as it was -/
def Kept (l : Addr) (H H' : Hp) : Prop := ∀ b o, b ≠ l → H b = some o → H' b = some o
theorem Kept.refl (l : Addr) (H : Hp) : Kept l H H := fun _ _ _ h => h
theorem Kept.trans {l : Addr} {H H1 H2 : Hp} (a : Kept l H H1) (b : Kept l H1 H2) : Kept l H H2 := fun c o n h => b c o n (a c o n h)
theorem _root_.L2.Same.kept {l : Addr} {H H' : Hp} (a : Same H H') : Kept l H H' := fun c o _ h => a c o h
theorem Kept.upd {l : Addr} {H : Hp} {o : HO} : Kept l H (L2.upd H l o) := fun b u n h => by rw [upd_ne n]; exact h
theorem Kept.new {l p : Addr} {H : Hp} {o : HO} (h : H p = none) : Kept l H (L2.upd H p o) := fun b u _ e => by rw [upd_ne (ne_of_none e h)]; exact e
theorem _root_.L2.Same.new {p : Addr} {H : Hp} {o : HO} (h : H p = none) : Same H (L2.upd H p o) := fun b u e => by rw [upd_ne (ne_of_none e h)]; exact e
theorem Urn.same {H H' : Hp} {l : Addr} (u : Urn H l) (s : Same H H') : Urn H' l := by
  obtain ⟨g, x, n, h1, h2, h3, h⟩ := u
  exact ⟨g, x, n, h1, h2, h3, s _ _ h⟩
theorem Urn.some {H : Hp} {l : Addr} (u : Urn H l) : ∃ o, H l = some o := by
  obtain ⟨g, x, n, h1, h2, h3, h⟩ := u
  exact ⟨_, h⟩
/-- what is new stands apart from what stood, also behind changes at l -/
theorem Kept.free {l b : Addr} {H H' : Hp} (k : Kept l H H') (n : b ≠ l) (h : H' b = none) : H b = none := by
  cases q : H b with
  | none => rfl
  | some o => rw [k b o n q] at h; cases h

/-- the built-in names are still their own -/
structure Bi (mg : Str → Option Value) : Prop where
  len : mg "len" = none
  int : mg "int" = none
  abs : mg "abs" = none
  divmod : mg "divmod" = none

def spUrn (K : PySem.W.Frag) : Sp := fun vs H Q _ => ∃ (a : Addr) (ns : List Int) (k : Nat), vs = [.ref a, .int k] ∧ SqL K H a (ns.map V.int) ∧
  ∀ H' l, H l = none → Same H H' → Urn H' l → Q (.ref l) H'
def spDip : Sp := fun vs H Q _ => ∃ (l : Addr) (t : Int), vs = [.ref l, .int t] ∧ Urn H l ∧ 0 < t ∧ t < 1073741824 ∧
  ∀ H' r, Kept l H H' → Urn H' l → 0 ≤ r → r < t → Q (.int r) H'
def spFrom (K : PySem.W.Frag) : Sp := fun vs H Q _ => ∃ (l a : Addr) (xs : List V), vs = [.ref l, .ref a] ∧ Urn H l ∧ H a = some (.lst xs) ∧ a ≠ l ∧ 0 < xs.length ∧ xs.length < 1000 ∧
  ∀ H' (i : Nat) v, xs[i]? = some v → Kept l H H' → Urn H' l → Q v H'

theorem map_int_get {ns : List Int} {i : Nat} {y : V} (hi : (ns.map V.int)[i]? = some y) : ∃ z, y = V.int z := by
  rw [List.getElem?_map] at hi
  cases e : ns[i]? with
  | none => rw [e] at hi; cases hi
  | some z => rw [e] at hi; exact ⟨z, (Option.some.inj hi).symm⟩
theorem cut_int_get {ns : List Int} {lo hi : Option Int} {i : Nat} {y : V} (h : (cutV (ns.map V.int) lo hi)[i]? = some y) : ∃ z, y = V.int z := by
  have m := List.mem_of_getElem? h
  unfold cutV at m
  have m2 := List.mem_of_mem_drop (List.mem_of_mem_take m)
  obtain ⟨z, _, e⟩ := List.mem_map.mp m2
  exact ⟨z, e.symm⟩
end Ca
set_option Elab.async false
set_option linter.all false
set_option maxRecDepth 100000
set_option maxHeartbeats 4000000
namespace Ca
open PySem PySem.Spec PyProof.Rows L2
/-! ### defs that ask repr: called where no repr is under way -/
structure FnG (P : Program) (w : World) (K : PySem.W.Frag) (mg : Str → Option Value) (base : Heap) (k : Nat) (f : Addr) (fd : FuncData) (ps : List Str) (sp : Sp) : Prop where
  len : ∀ vs H Q E, sp vs H Q E → vs.length = ps.length
  run : ∀ (A : Around) (outer : List Env) (s : Shared) (H : Hp) (args : Args) (us : List Value) (vs : List V) (Q : VK), A.guards = some [] → Room k A → Env0 P w K mg base A outer s H → BindsTo s fd args (ps.zip us) → Vals vs us → sp vs H Q E0 →
    codeAny (model P w) A (.call (.ref f) args) (CR CX0 outer P w H s Q E0) s
theorem guards_deeper {A : Around} (h : A.guards = some []) (env : Env) : (A.deeper env).guards = some [] := by
  first | exact h | (simp [Around.deeper, h]; done)
/-- a def by its body: the body may ask that no repr is under way -/
theorem fnG_of {P : Program} {w : World} {K : PySem.W.Frag} {mg : Str → Option Value} {base : Heap} {k : Nat} {f : Addr} {x qual : Str} {params : Arguments} {body : List Stmt} {scope : Scope} {dvs : List V} {kws : List (Str × V)} {fd : FuncData} {N ps : List Str} {sp : Sp}
    (F : FunD K x qual params body scope dvs kws f fd) (S : FnScope N ps scope) (len : ∀ vs H Q E, sp vs H Q E → vs.length = ps.length)
    (hbody : ∀ (cdv : Value) (A : Around) (outer : List Env) (s : Shared) (H : Hp) (vs : List V) (Q : VK), (A.deeper (envOfC qual scope s.heap.objs.size f cdv)).guards = some [] → Room k (A.deeper (envOfC qual scope s.heap.objs.size f cdv)) → sp vs H Q E0 →
      ∃ t, PSs (cxOf CX0 P w K mg base N qual scope f cdv A outer s H E0) body t ∧ t { nx := fun _ H' => Q .non H', rt := Q } (start N vs) H) :
    FnG P w K mg base (k + 1) f fd ps sp := by
  obtain ⟨oc, od, dV, kV, doc, pm, an, cdv, ct, osl, rfl, lk, hcd, _, _⟩ := F.ex
  constructor
  · exact len
  · intro A outer s H args us vs Q hgd hr e0 hb r hsp
    have hl := len _ _ _ _ hsp
    have stays : ∀ b o, base.get? b = some o → s.heap.get? b = some o := fun b o e => (e0.bs b o e).1
    have KX : K.In s.heap := e0.mod.kin.keeps stays
    have kinds : ∀ y ∈ ps.zip us, scope.names.lookup y.1 = some .local ∨ (scope.names.lookup y.1 = some .cell ∧ ((cellsFrom (s.heap.objs.size + 1) scope.names []).lookup y.1).isSome = true) := by
      intro y hy
      obtain ⟨n, v⟩ := y
      cases S.par n (List.of_mem_zip hy).1 with
      | inl q => exact .inl q
      | inr q => exact .inr ⟨q, PySem.W.cellsFrom_some _ _ _ (.inl q)⟩
    refine codeAny_call_function hr.depth (KX _ _ lk) rfl S.co S.gen rfl (PySem.W.codeRec_of KX hcd) (hb _ _ _ _ ?_)
    refine wpAny_newFunctionEnv_cells S.kind kinds fun env he s1 x => ?_
    subst he
    refine ⟨(e0.mod.nolimit.keeps stays).keeps x.toInCall.keep, codeAny_func ?_⟩
    obtain ⟨t, ht, hq⟩ := hbody cdv A outer s H vs Q (guards_deeper hgd _) (hr.deeper _) hsp
    have I : Inv (cxOf CX0 P w K mg base N qual scope f cdv A outer s H E0) [] (start N vs) H s1 := inv_start S hr.hd e0 hl r x
    refine wpAny_mono (ht.run [] s1 (start N vs) H _ I hq) (fun fl s' hs => ?_) fun e s' hs => hs
    cases fl with
    | ret u =>
      obtain ⟨v, σ', H', J, rv, q⟩ := hs
      exact ⟨v, H', J.os, J.bare, J.base, J.hok, rv, q⟩
    | next =>
      obtain ⟨σ', H', J, q⟩ := hs
      exact ⟨.non, H', J.os, J.bare, J.base, J.hok, rfl, q⟩
    | brk => exact hs.elim fun _ z => z.elim fun _ y => y.2.elim
    | cont => exact hs.elim fun _ z => z.elim fun _ y => y.2.elim
section
variable {X : Cx} {k : Nat} {f : Addr} {fd : FuncData} {ps : List Str} {sp : Sp} {x : Str} {p pos : Pos} {e : Expr} {es : List Expr} {t : TA}
/-- a call of such a def -/
theorem pe_callG (F : FnG X.prog X.w X.K X.mg X.base k f fd ps sp) (hgd : X.A.guards = some []) (hr : Room k X.A) (hm : X.mg x = some (.ref f)) (hk : PySem.W.keepIn X.K (.ref f) = true) (hb : Binds X.K fd ps [])
    (ha : PA X (e :: es) t) (hg : Gl X x := by rfl) (hdb : (x == ("__debug__" : Str)) = false := by decide) (he : starEach (e :: es) X.env = (false, eval e X.env) :: starEach es X.env := by rfl) (hpl : (backTo pos (starEach es X.env)).any (·.1) = false := by rfl) :
    PE X (.Call (.Name x p) (e :: es) [] pos) (tCall sp [] E0 t) := by
  refine ⟨fun pins s σ H Q I h => ?_⟩
  refine wpAny_Call_Name_kw (ld_glob I hg hm ?_ hdb)
  refine PySem.W.callWith_K (h₀ := X.base) I.ok.mod.kin hk (thn (ha.run pos pins s σ H _ I h) fun us s1 z => ?_) he hpl
  obtain ⟨vs, H1, I1, r, q⟩ := z
  rw [List.append_nil] at q
  refine ⟨I1.kIn, ?_⟩
  have hl : us.length = ps.length := by
    rw [← r.length]
    exact F.len _ _ _ _ q
  have bd := hb s1 us I1.kIn (by rw [List.append_nil]; exact hl)
  rw [List.append_nil] at bd
  show wpAny _ _ (call (.ref f) us) _ _ _
  refine wpAny_call (codeAny_mono (F.run X.A X.stack s1 H1 ⟨us, []⟩ us vs Q hgd hr I1.env0 bd r q) fun res s' z => ?_)
  cases res with
  | error er => exact z.elim
  | ok fl =>
    cases fl with
    | ret u => exact I1.after z
    | next => exact z.elim
    | brk => exact z.elim
    | cont => exact z.elim
end
/-- the law's own call, where such a def is the law -/
theorem lawG {P : Program} {w : World} {K : PySem.W.Frag} {mg mb : Str → Option Value} {k : Nat} {fa a : Addr} {fd : FuncData} {x : Str} {sp : Sp} {s₁ : Shared} {vs : List Value} {ns : List Int}
    (KX : K.In s₁.heap) (hns : s₁.heap.Ns mainGlobals mg) (hb : s₁.heap.Ns builtinsNs mb) (hbb : ∀ x : Str, x ≠ "__name__" → mb x = bootBuiltins x) (hlim : s₁.heap.NoLimit) (hg : s₁.gens = #[])
    (ha : s₁.heap.get? a = some { cls := .type "list", data := .seq vs.toArray }) (hi : IntsAre vs ns) (hl : ns.length ≤ sizeLine) (hr : Room k callerA)
    (F : ∀ base : Heap, K.In base → base.Ns mainGlobals mg → FnG P w K mg base k fa fd [x] sp) (hbind : ∀ (s : Shared) (u : Value), BindsTo s fd ⟨[u], []⟩ [(x, u)])
    (hsp : ∀ H : Hp, SqL K H a (ns.map V.int) → sp [.ref a] H (fun v _ => v = .bl true) E0) :
    codeAny (model P w) callerA (.call (.ref fa) ⟨[.ref a], []⟩) (fun r s' => r = .ok (.ret (.bool true)) ∧ OldK s₁.heap s'.heap ∧ s'.os = s₁.os ∧ AllBare s'.gens) s₁ := by
  have rv := vals_ints hi
  -- whatever is tracked at first: nothing, or the script alone
  have go : ∀ H : Hp, (∀ b u, H b = some u → b = a ∧ u = .frz { cls := .type "list", data := .seq vs.toArray } (.lst (ns.map V.int)) ∧ K.lookup a = none) → SqL K H a (ns.map V.int) →
      codeAny (model P w) callerA (.call (.ref fa) ⟨[.ref a], []⟩) (fun r s' => r = .ok (.ret (.bool true)) ∧ OldK s₁.heap s'.heap ∧ s'.os = s₁.os ∧ AllBare s'.gens) s₁ := by
    intro H hH hS
    have hok : HOk P w H s₁.heap := fun b u z => by
      obtain ⟨rfl, rfl, _⟩ := hH b u z
      exact ⟨ha, by rw [List.length_map]; exact hl, vs, _, rv, ha⟩
    have free : ∀ {b : Addr} {o : Obj}, s₁.heap.get? b = some o → (∀ es ep, o.data ≠ .dict es ep → False) → H b = none := fun {b o} e d => by
      cases q : H b with
      | none => rfl
      | some u =>
        obtain ⟨rfl, _, _⟩ := hH b u q
        rw [ha] at e
        cases e
        exact (d #[] 0 (fun z => nomatch z)).elim
    have dictFree : ∀ {b : Addr} {m : Str → Option Value}, s₁.heap.Ns b m → (hidT s₁.heap H).Ns b m := fun {b m} z => by
      obtain ⟨o, es, ep, e, dd, r⟩ := z
      have n : H b = none := by
        cases q : H b with
        | none => rfl
        | some u =>
          obtain ⟨rfl, _, _⟩ := hH b u q
          rw [ha] at e
          cases e
          cases dd
      exact ⟨o, es, ep, hidT_get e n, dd, r⟩
    have hKb : K.In (hidT s₁.heap H) := fun b o e => hidT_get (KX b o e) (by
      cases q : H b with
      | none => rfl
      | some u =>
        obtain ⟨rfl, _, z⟩ := hH b u q
        rw [z] at e
        cases e)
    obtain ⟨mc, l1, l2⟩ := hlim
    have md : Mod K mg (hidT s₁.heap H) := { kin := hKb, glob := dictFree hns, blt := ⟨mb, dictFree hb, hbb⟩, nolimit := ⟨mc, dictFree l1, l2⟩ }
    have none' : ∀ b : Addr, b ∉ frs [] := fun b z => nomatch z
    have e0 : Env0 P w K mg (hidT s₁.heap H) callerA [] s₁ H :=
      { frames := rfl, mod := md, bs := fun b o e => of_hidT e, bsz := Nat.le_of_eq (hidT_size _ _), funs := trivial, frf := fun b z => (none' b z).elim, hok := hok, bare := .of_eq hg }
    have run := (F _ hKb (dictFree hns)).run callerA [] s₁ H ⟨[.ref a], []⟩ [.ref a] [.ref a] (fun v _ => v = .bl true) rfl hr e0 (hbind s₁ (.ref a)) (.cons rfl .nil) (hsp H hS)
    refine codeAny_mono run fun r s' z => ?_
    cases r with
    | error e => exact z.elim
    | ok fl =>
      cases fl with
      | next => exact z.elim
      | brk => exact z.elim
      | cont => exact z.elim
      | ret u =>
        obtain ⟨v, H', os, bare, un, hok', r', q⟩ := z
        obtain rfl : v = .bl true := q
        obtain rfl : u = Value.bool true := r'
        refine ⟨rfl, OldK.of_keep fun b o e => ?_, os, bare⟩
        cases q : H b with
        | none => exact un.keep b o e q (none' b) (by simp)
        | some y =>
          obtain ⟨rfl, rfl, _⟩ := hH b y q
          rw [ha] at e
          cases e
          exact (hok' b _ (un.frzs b _ _ q)).1
  cases hk : K.lookup a with
  | some o =>
    have e := KX a o hk
    rw [ha] at e
    cases e
    exact go (fun _ => none) (fun b u z => nomatch z) (.inr ⟨_, vs.toArray, _, hk, rfl, rfl, rfl, by rw [List.size_toArray, ← hi.length] at *; first | exact hl | omega, by simpa using rv⟩)
  | none =>
    refine go (fun b => if b = a then some (.frz { cls := .type "list", data := .seq vs.toArray } (.lst (ns.map V.int))) else none) (fun b u z => ?_) (.inl (.inr ⟨{ cls := .type "list", data := .seq vs.toArray }, if_pos rfl⟩))
    by_cases hb' : b = a
    · subst hb'
      have z' : some _ = some u := (if_pos rfl).symm.trans z
      exact ⟨rfl, (Option.some.inj z').symm, hk⟩
    · have z' : none = some u := (if_neg hb').symm.trans z
      cases z'
end Ca
set_option Elab.async false
set_option linter.all false
set_option maxRecDepth 100000
set_option maxHeartbeats 4000000
namespace Ca
open PySem PySem.Spec PyProof.Rows L2
/-- a key as data -/
def kd : Key → PyData
  | .inl i => .int i
  | .inr x => .str x
/-- the dict of modules is known to be one -/
def SysM (K : PySem.W.Frag) : Prop := ∃ o es n, K.lookup sysModules = some o ∧ o.data = .dict es n
/-! ### data that may hold dicts without keys -/
mutual
inductive De (K : PySem.W.Frag) (H : Hp) : V → PyData → Prop
  | non : De K H .non .none
  | bl (b : Bool) : De K H (.bl b) (.bool b)
  | int (i : Int) : De K H (.int i) (.int i)
  | str (x : Str) : De K H (.str x) (.str x)
  | lst {a : Addr} {xs : List V} {ds : List PyData} : SqL K H a xs → DeAll K H xs ds → De K H (.ref a) (.list ds)
  | tup {a : Addr} {xs : List V} {ds : List PyData} : SqT K H a xs → DeAll K H xs ds → De K H (.ref a) (.tuple ds)
  | dic {a : Addr} : H a = some (.dK []) → De K H (.ref a) (.dict [])
inductive DeAll (K : PySem.W.Frag) (H : Hp) : List V → List PyData → Prop
  | nil : DeAll K H [] []
  | cons {v : V} {vs : List V} {d : PyData} {ds : List PyData} : De K H v d → DeAll K H vs ds → DeAll K H (v :: vs) (d :: ds)
end
theorem sql_mono {K : PySem.W.Frag} {H H' : Hp} {a : Addr} {xs : List V} (k : ∀ b o, H b = some o → (∀ ps, o ≠ .tbl ps) → H' b = some o) : SqL K H a xs → SqL K H' a xs
  | .inl (.inl e) => .inl (.inl (k _ _ e fun _ z => nomatch z))
  | .inl (.inr ⟨o, e⟩) => .inl (.inr ⟨o, k _ _ e fun _ z => nomatch z⟩)
  | .inr e => .inr e
theorem sqt_mono {K : PySem.W.Frag} {H H' : Hp} {a : Addr} {xs : List V} (k : ∀ b o, H b = some o → (∀ ps, o ≠ .tbl ps) → H' b = some o) : SqT K H a xs → SqT K H' a xs
  | .inl (.inl e) => .inl (.inl (k _ _ e fun _ z => nomatch z))
  | .inl (.inr ⟨o, e⟩) => .inl (.inr ⟨o, k _ _ e fun _ z => nomatch z⟩)
  | .inr e => .inr e
mutual
theorem De.mono {K : PySem.W.Frag} {H H' : Hp} (k : ∀ b o, H b = some o → (∀ ps, o ≠ .tbl ps) → H' b = some o) : ∀ {d : PyData} {v : V}, De K H v d → De K H' v d
  | .none, _, .non => .non
  | .bool _, _, .bl b => .bl b
  | .int _, _, .int i => .int i
  | .str _, _, .str x => .str x
  | .list _, _, .lst a b => .lst (sql_mono k a) (DeAll.mono k b)
  | .tuple _, _, .tup a b => .tup (sqt_mono k a) (DeAll.mono k b)
  | .dict _, _, .dic a => .dic (k _ _ a fun _ z => nomatch z)
theorem DeAll.mono {K : PySem.W.Frag} {H H' : Hp} (k : ∀ b o, H b = some o → (∀ ps, o ≠ .tbl ps) → H' b = some o) : ∀ {ds : List PyData} {vs : List V}, DeAll K H vs ds → DeAll K H' vs ds
  | [], _, .nil => .nil
  | _ :: _, _, .cons a b => .cons (De.mono k a) (DeAll.mono k b)
end
/-- a value whose repr is known: data without dicts, or a dict of such, or data that may hold dicts without keys -/
inductive Rp (K : PySem.W.Frag) (H : Hp) : V → PyData → Prop
  | dat {v : V} {d : PyData} : Dp K H v d → SeqAt.shaped d = true → Rp K H v d
  | dic {p : Addr} {kvs : List (Key × V)} {ds : List PyData} : H p = some (.dK kvs) → DpAll K H (kvs.map (·.2)) ds → PyData.hasDictAll ds = false → Rp K H (.ref p) (.dict ((kvs.map fun kv => kd kv.1).zip ds))
  | dee {v : V} {d : PyData} : SysM K → De K H v d → Rp K H v d
def rRepr (K : PySem.W.Frag) : List V → Hp → VK → Prop := fun xs H Q => ∃ v d, xs = [v] ∧ Rp K H v d ∧ d.showable = true ∧ d.depth ≤ 64 ∧ d.shown.length ≤ sizeLine ∧ Q (.str d.shown) H
theorem dpAll_len {K : PySem.W.Frag} {H : Hp} : ∀ {vs : List V} {ds : List PyData}, DpAll K H vs ds → vs.length = ds.length
  | _, _, .nil => rfl
  | _, _, .cons _ t => congrArg Nat.succ (dpAll_len t)
section
variable {X : Cx} {pins : List (Addr × Obj)} {σ : L2.St} {H : Hp} {s : Shared}
/-- the keys and the values of a dict as they stand -/
theorem pairs_read {P : Program} {w : World} {h : Heap} : ∀ {es : List DictEntry} {ws : List (Key × Value)}, PySem.Pairs (mixKind P w) es ws →
    (∃ as, ReadsAll h (es.map (·.key)) (ws.map fun kv => kd kv.1) as) ∧ es.map (·.val) = ws.map (·.2)
  | _, _, .nil => ⟨⟨[], .nil⟩, rfl⟩
  | _, _, .cons (e := e) (kv := kv) hk hv t => by
    obtain ⟨⟨as, r⟩, q⟩ := pairs_read (h := h) t
    refine ⟨?_, by rw [List.map_cons, List.map_cons, q, hv]⟩
    obtain ⟨k, v⟩ := kv
    rcases keyIs_shape (show keyIs k e.key = true from hk) with ⟨i, t', ek, ev⟩ | ⟨x, t', ek, ev⟩
    · subst ek
      refine ⟨[] ++ as, ReadsAll.cons (as := []) ?_ r⟩
      show Reads h e.key (.int i) []
      rw [ev]
      exact Reads.int i t'
    · subst ek
      refine ⟨[] ++ as, ReadsAll.cons (as := []) ?_ r⟩
      show Reads h e.key (.str x) []
      rw [ev]
      exact Reads.str x t'
theorem kv_vals : ∀ {kvs : List (Key × V)} {ws : List (Key × Value)}, KV kvs ws → Vals (kvs.map (·.2)) (ws.map (·.2)) ∧ (kvs.map fun kv => kd kv.1) = ws.map fun kv => kd kv.1
  | _, _, .nil => ⟨.nil, rfl⟩
  | _, _, .cons r t => by
    obtain ⟨h1, h2⟩ := kv_vals t
    exact ⟨.cons r.2 h1, by rw [List.map_cons, List.map_cons, h2, r.1]⟩
theorem keys_plain : ∀ ws : List (Key × Value), PyData.hasDictAll (ws.map fun kv => kd kv.1) = false
  | [] => by simp only [List.map_nil, PyData.hasDictAll]
  | (.inl i, v) :: l => by
    show PyData.hasDictAll (.int i :: l.map fun kv => kd kv.1) = false
    simp only [PyData.hasDictAll, PyData.hasDict, Bool.false_or]
    exact keys_plain l
  | (.inr x, v) :: l => by
    show PyData.hasDictAll (.str x :: l.map fun kv => kd kv.1) = false
    simp only [PyData.hasDictAll, PyData.hasDict, Bool.false_or]
    exact keys_plain l
mutual
theorem De.told (SM : SysM X.K) (I : Inv X pins σ H s) : ∀ (d : PyData) (v : V) (u : Value), De X.K H v d → RelV v u → ∃ as, Reads s.heap u d as ∧ sysModules ∉ as
  | .none, _, u, .non, r => by
    obtain rfl : u = .none := r
    exact ⟨[], .none, fun z => nomatch z⟩
  | .bool b, _, u, .bl _, r => by
    obtain rfl : u = .bool b := r
    exact ⟨[], .bool b, fun z => nomatch z⟩
  | .int i, _, u, .int _, r => by
    obtain ⟨t, rfl⟩ : ∃ t, u = .int i t := r
    exact ⟨[], .int i t, fun z => nomatch z⟩
  | .str x, _, u, .str _, r => by
    obtain ⟨t, rfl⟩ : ∃ t, u = .str x t := r
    exact ⟨[], .str x t, fun z => nomatch z⟩
  | .list ds, _, u, .lst (a := a) hs ha, r => by
    obtain rfl : u = .ref a := r
    obtain ⟨its, rv, ⟨o, n, e1, e2, _, e3⟩, _⟩ := I.list hs
    obtain ⟨as, R, na⟩ := DeAll.told SM I ds _ its ha rv
    refine ⟨a :: as, .list e1 e2 e3 R, fun z => ?_⟩
    rcases List.mem_cons.mp z with z | z
    · obtain ⟨o', es, m, lk, dd⟩ := SM
      have g := I.kIn _ _ lk
      rw [z, e1] at g
      cases g
      rw [dd] at e3
      cases e3
    · exact na z
  | .tuple ds, _, u, .tup (a := a) hs ha, r => by
    obtain rfl : u = .ref a := r
    obtain ⟨its, rv, ⟨o, e1, e2, n, e3⟩, _⟩ := I.tuple hs
    obtain ⟨as, R, na⟩ := DeAll.told SM I ds _ its ha rv
    exact ⟨as, .tuple e1 e2 e3 R, na⟩
  | .dict _, _, u, .dic (a := a) h, r => by
    obtain rfl : u = .ref a := r
    obtain ⟨_, sys, ws, rel, o, es, ep, ho, hx, hd, _, ps, _⟩ := dk_of I.hok h
    cases rel
    have he : es.toList = [] := by
      generalize es.toList = l at ps
      cases ps
      rfl
    refine ⟨a :: [] ++ [], .dict ho hx.1 hd (by rw [he]; exact .nil) (by rw [he]; exact .nil), fun z => ?_⟩
    have z' : sysModules = a := List.mem_singleton.mp z
    rw [z', beq_self_eq_true] at sys
    cases sys
theorem DeAll.told (SM : SysM X.K) (I : Inv X pins σ H s) : ∀ (ds : List PyData) (vs : List V) (us : List Value), DeAll X.K H vs ds → Vals vs us → ∃ as, ReadsAll s.heap us ds as ∧ sysModules ∉ as
  | [], _, us, .nil, r => by
    cases r
    exact ⟨[], .nil, fun z => nomatch z⟩
  | d :: ds, _, us, .cons h t, r => by
    cases r with
    | cons r1 r2 =>
      obtain ⟨as, R1, n1⟩ := De.told SM I d _ _ h r1
      obtain ⟨bs, R2, n2⟩ := DeAll.told SM I ds _ _ t r2
      exact ⟨as ++ bs, .cons R1 R2, fun z => (List.mem_append.mp z).elim n1 n2⟩
end
theorem call_repr (hgd : X.A.guards = some []) (hu : X.A.units + 200 < cLine) : CallR X (.builtin "repr") (rRepr X.K) := by
  intro pins s σ H xs us Q I r h
  obtain ⟨v, d, rfl, rp, sh, dp, sz, q⟩ := h
  cases r with
  | @cons _ u _ _ ru rr =>
    cases rr
    cases rp with
    | dat D sd =>
      obtain ⟨as, R⟩ := Dp.reads I d v u D ru
      have nd : d.hasDict = false := PyData.hasDict_of_canLay d (SeqAt.canLay_of_shaped sd)
      have fin : ∀ h' z tk, (∀ b o, s.heap.get? b = some o → h'.get? b = some o) → EP X pins σ Q (.str d.shown z) { s with heap := h', toks := tk } := fun h' z tk kp => ⟨.str d.shown, H, I.kept (t' := tk) kp, ⟨z, rfl⟩, q⟩
      cases R with
      | none => exact P.repr_of_none (by simpa only [PyData.shown] using fin s.heap s.toks _ (fun _ _ e => e))
      | bool b => exact P.repr_of_bool (by simpa only [PyData.shown] using fin s.heap s.toks _ (fun _ _ e => e))
      | int i t => exact P.repr_of_int (by simpa only [PyData.showable, decide_eq_true_eq] using sh) (by simpa only [PyData.shown] using fin s.heap s.toks _ (fun _ _ e => e))
      | str x t => exact P.repr_of_str (by simpa only [PyData.shown] using fin s.heap s.toks _ (fun _ _ e => e)) (by simpa only [PyData.shown] using sz)
      | list h1 h2 h3 h4 => exact repr_of_reads' (.list h1 h2 h3 h4) sh (PyData.noDict_hsm nd) hgd (by omega) (fun _ _ e => e) fin sz
      | tuple h1 h2 h3 h4 => exact repr_of_reads' (.tuple h1 h2 h3 h4) sh (PyData.noDict_hsm nd) hgd (by omega) (fun _ _ e => e) fin sz
      | dict h1 h2 h3 h4 h5 => exact repr_of_reads' (.dict h1 h2 h3 h4 h5) sh (PyData.noDict_hsm nd) hgd (by omega) (fun _ _ e => e) fin sz
    | dee SM D =>
      obtain ⟨as, R, na⟩ := De.told SM I d v u D ru
      have fin : ∀ h' z tk, (∀ b o, s.heap.get? b = some o → h'.get? b = some o) → EP X pins σ Q (.str d.shown z) { s with heap := h', toks := tk } := fun h' z tk kp => ⟨.str d.shown, H, I.kept (t' := tk) kp, ⟨z, rfl⟩, q⟩
      cases R with
      | none => exact P.repr_of_none (by simpa only [PyData.shown] using fin s.heap s.toks _ (fun _ _ e => e))
      | bool b => exact P.repr_of_bool (by simpa only [PyData.shown] using fin s.heap s.toks _ (fun _ _ e => e))
      | int i t => exact P.repr_of_int (by simpa only [PyData.showable, decide_eq_true_eq] using sh) (by simpa only [PyData.shown] using fin s.heap s.toks _ (fun _ _ e => e))
      | str x t => exact P.repr_of_str (by simpa only [PyData.shown] using fin s.heap s.toks _ (fun _ _ e => e)) (by simpa only [PyData.shown] using sz)
      | list h1 h2 h3 h4 => exact repr_of_reads' (.list h1 h2 h3 h4) sh (fun _ => na) hgd (by omega) (fun _ _ e => e) fin sz
      | tuple h1 h2 h3 h4 => exact repr_of_reads' (.tuple h1 h2 h3 h4) sh (fun _ => na) hgd (by omega) (fun _ _ e => e) fin sz
      | dict h1 h2 h3 h4 h5 => exact repr_of_reads' (.dict h1 h2 h3 h4 h5) sh (fun _ => na) hgd (by omega) (fun _ _ e => e) fin sz
    | @dic p kvs ds hp D nd =>
      obtain rfl : u = Value.ref p := ru
      obtain ⟨_, sys, ws, rel, o, es, ep, ho, hx, hd, _, ps, _⟩ := dk_of I.hok hp
      obtain ⟨rv, ek⟩ := kv_vals rel
      obtain ⟨⟨as, rk⟩, evs⟩ := pairs_read (h := s.heap) ps
      obtain ⟨bs, rvs⟩ := Dp.readsAll I ds _ _ D rv
      rw [← evs] at rvs
      have lz : (kvs.map fun kv => kd kv.1).length = ds.length := by
        rw [List.length_map, ← dpAll_len D, List.length_map]
      have z1 : ((kvs.map fun kv => kd kv.1).zip ds).map (·.1) = ws.map fun kv => kd kv.1 := by
        rw [← ek]
        exact List.map_fst_zip (Nat.le_of_eq lz)
      have z2 : ((kvs.map fun kv => kd kv.1).zip ds).map (·.2) = ds := List.map_snd_zip (Nat.le_of_eq lz.symm)
      have R : Reads s.heap (.ref p) (.dict ((kvs.map fun kv => kd kv.1).zip ds)) _ := Reads.dict ho hx.1 hd (by rw [z1]; exact rk) (by rw [z2]; exact rvs)
      generalize (kvs.map fun kv => kd kv.1).zip ds = kk at R z1 z2 sh dp sz q
      have hz' : (dictText (PyData.shownKv kk)).length ≤ sizeLine := by simpa only [PyData.shown] using sz
      obtain ⟨hs1, hs2⟩ := PyData.showableKv_split kk (by simpa only [PyData.showable] using sh)
      have nk : PyData.hasDictAll (kk.map (·.1)) = false := by
        rw [z1]
        exact keys_plain ws
      obtain ⟨b1, hb1, k1⟩ := ReprAllK.of_readsAll (prog := X.prog) (w := X.w) (by rw [z1]; exact rk : ReadsAll s.heap (es.toList.map (·.key)) (kk.map (·.1)) as) hs1 (fun y => by rw [nk] at y; cases y)
        (fun t ht => let ⟨e, he, hl⟩ := PyData.shownKv_key_le kk t ht; Nat.le_trans hl (Nat.le_trans (dictText_mem_le he) hz'))
      obtain ⟨b2, hb2, k2⟩ := ReprAllK.of_readsAll (prog := X.prog) (w := X.w) (by rw [z2]; exact rvs : ReadsAll s.heap (es.toList.map (·.val)) (kk.map (·.2)) bs) hs2 (fun y => by rw [z2, nd] at y; cases y)
        (fun t ht => let ⟨e, he, hl⟩ := PyData.shownKv_val_le kk t ht; Nat.le_trans hl (Nat.le_trans (dictText_mem_le he) hz'))
      have hb : ReadAtMost s.heap (PyData.depthKv kk) (b1 ++ b2) := (hb1.mono (PyData.depthAll_keys_le kk)).append (hb2.mono (PyData.depthAll_vals_le kk))
      have hna : p ∉ b1 ++ b2 := not_mem_of_deeper R (by simp only [PyData.depth]; omega) hb
      have dp' : PyData.depthKv kk + 1 ≤ 64 := by simpa only [PyData.depth] using dp
      have ent := ReprEntriesK.of_two es.toList _ _ (k1.more_le (fun b hb => List.mem_append_left _ hb) (PyData.depthAll_keys_le kk)) (k2.more_le (fun b hb => List.mem_append_right _ hb) (PyData.depthAll_vals_le kk))
      refine call_repr_slot (by omega) ⟨o, ho, hx.1⟩ F.slot_dict_repr ?_
      refine call_dict_reprK ho hx.1 hd sys hna ent hgd (fun b _ => Clear.nil b) (by show X.A.units + 1 + (PyData.depthKv kk + 1) < cLine; omega) (fun _ _ e => e) (fun h' z tk kp => ⟨_, _, rfl, ?_⟩) (by rw [← PyData.shownKv_eq]; exact hz')
      refine ⟨.str (PyData.dict kk).shown, H, I.kept (t' := tk) kp, ⟨z, ?_⟩, q⟩
      simp only [PyData.shown, PyData.shownKv_eq]
end
end Ca
set_option Elab.async false
set_option linter.all false
set_option maxRecDepth 100000
set_option maxHeartbeats 4000000
namespace Ca
open PySem PySem.Spec PyProof.Rows L2
/-! ### a < b < c < d -/
def tChain3 (r r' r'' : R2) (ta tb tc td : TE) : TE := fun σ H Q => ta σ H fun x H1 => tb σ H1 fun y H2 => r x y H2 fun z G3 => ∃ k, z = .bl k ∧
  (if k = true then tc σ G3 fun w' H4 => r' y w' H4 fun z' H5 => ∃ k', z' = .bl k' ∧ (if k' = true then td σ H5 fun x' H6 => r'' w' x' H6 Q else Q (.bl false) H5) else Q (.bl false) G3)
section
variable {X : Cx} {a b c d : Expr} {ta tb tc td : TE} {pos : Pos} {k : Nat} {f C : Addr} {fd : FuncData} {ps : List Str} {sp : Sp} {pins : List (Addr × Obj)} {σ : L2.St} {H : Hp} {s : Shared}
theorem pe_chain3 {op op' op'' : CmpOp} {r r' r'' : R2} (ho : OpR X (compareOp op) r) (ho' : OpR X (compareOp op') r') (ho'' : OpR X (compareOp op'') r'') (ha : PE X a ta) (hb : PE X b tb) (hc : PE X c tc) (hd : PE X d td)
    (hm : lastMarks [op, op', op''] [b, c, d] = false := by with_unfolding_all rfl) : PE X (.Compare a [op, op', op''] [b, c, d] pos) (tChain3 r r' r'' ta tb tc td) := by
  refine ⟨fun pins s σ H Q I h => ?_⟩
  refine Compare_chain (thn (ha.run pins s σ H _ I h) fun v s1 ⟨x, H1, I1, r1, q1⟩ => chain_link (thn (hb.run pins s1 σ H1 _ I1 q1) fun u s2 ⟨y, H2, I2, r2, q2⟩ =>
    thn (ho pins s2 σ H2 x y v u _ I2 r1 r2 q2) fun z0 s3 ⟨z, G3, J3, c3, k, e, w3⟩ => ?_)) hm
  subst e
  cases c3
  refine wpAny_truthy_bool ?_
  cases k with
  | false => exact ite_ff ⟨.bl false, G3, J3, rfl, w3⟩
  | true =>
    refine ite_tt (chain_link (thn (hc.run pins s3 σ G3 _ J3 w3) fun w' s4 ⟨z', H4, I4, r4, q4⟩ => thn (ho' pins s4 σ H4 y z' u w' _ I4 r2 r4 q4) fun z1 s5 ⟨z2, H5, I5, r5, k', e', q5⟩ => ?_))
    subst e'
    cases r5
    refine wpAny_truthy_bool ?_
    cases k' with
    | false => exact ite_ff ⟨.bl false, H5, I5, rfl, q5⟩
    | true => exact ite_tt (chain_last (thn (hd.run pins s5 σ H5 _ I5 q5) fun x' s6 ⟨z3, H6, I6, r6, q6⟩ => ho'' pins s6 σ H6 z' z3 w' x' Q I6 r4 r6 q6))
/-! ### own methods that the language itself calls -/
theorem own_call {A : Around} {us : List Value} {vs : List V} {Q : VK} (sub : Sub X k A) (F : FnOk X.prog X.w X.K X.mg X.base CX0 k f fd ps sp) (hb : Binds X.K fd ps []) (I : Inv X pins σ H s) (r : Vals vs us) (h : sp vs H Q E0) :
    wpAny (model X.prog X.w) A (call (.ref f) us) (EP X pins σ Q) X.xe s := by
  have env0 : Env0 X.prog X.w X.K X.mg X.base A X.stack s H := by
    have e := I.env0
    exact ⟨by rw [sub.fr]; exact e.frames, e.mod, e.bs, e.bsz, e.funs, e.frf, e.hok, e.bare⟩
  have hl : us.length = ps.length := by
    rw [← r.length]
    exact F.len _ _ _ _ h
  have bd := hb s us I.kIn (by rw [List.append_nil]; exact hl)
  rw [List.append_nil] at bd
  refine wpAny_call (codeAny_mono (F.run A X.stack s H ⟨us, []⟩ us vs Q E0 sub.room env0 bd r h) fun res s' z => ?_)
  cases res with
  | error e => exact pass0 pins σ H s e s' I z
  | ok fl =>
    cases fl with
    | ret u => exact I.after z
    | next => exact z.elim
    | brk => exact z.elim
    | cont => exact z.elim
end
/-- a value's type, for a comparison -/
inductive Ty (K : PySem.W.Frag) (H : Hp) : V → Value → Prop where
  | non : Ty K H .non (.type "NoneType")
  | bl (x : Bool) : Ty K H (.bl x) (.type "bool")
  | int (i : Int) : Ty K H (.int i) (.type "int")
  | str (x : Str) : Ty K H (.str x) (.type "str")
  | lst {a : Addr} {xs : List V} (e : SqL K H a xs) : Ty K H (.ref a) (.type "list")
  | tup {a : Addr} {xs : List V} (e : SqT K H a xs) : Ty K H (.ref a) (.type "tuple")
  | dic {a : Addr} {kvs : List (Key × V)} (e : H a = some (.dK kvs)) : Ty K H (.ref a) (.type "dict")
  | ins {a C dx : Addr} {fs : List (Str × V)} (e : H a = some (.ins C dx fs)) : Ty K H (.ref a) (.ref C)
section
variable {X : Cx} {k : Nat} {f C : Addr} {fd : FuncData} {ps : List Str} {sp : Sp} {pins : List (Addr × Obj)} {σ : L2.St} {H : Hp} {s : Shared}
theorem type_at {M : Model} {h : Heap} {a : Addr} {o : Obj} {t : Value} (e : h.get? a = some o) (c : o.cls = t) : PySem.W.Looks M h (typeOf (.ref a)) t := c ▸ (PySem.W.Looks.ld e).andThen .now
theorem ty_of {M : Model} {y : V} {u t : Value} (I : Inv X pins σ H s) (ry : RelV y u) (ty : Ty X.K H y t) : PySem.W.Looks M s.heap (typeOf u) t := by
  cases ty with
  | non => cases (show u = Value.none from ry); exact .of_pure rfl
  | bl b => cases (show u = Value.bool b from ry); exact .of_pure rfl
  | int i => obtain ⟨t, q⟩ := (show ∃ t, u = Value.int i t from ry); cases q; exact .of_pure rfl
  | str x => obtain ⟨t, q⟩ := (show ∃ t, u = Value.str x t from ry); cases q; exact .of_pure rfl
  | @lst a xs e =>
    cases (show u = Value.ref a from ry)
    obtain ⟨its, _, pl, _⟩ := I.list e
    obtain ⟨o, h1, h2, _⟩ := pl.isList
    exact type_at h1 h2
  | @tup a xs e =>
    cases (show u = Value.ref a from ry)
    obtain ⟨its, _, tt, _⟩ := I.tuple e
    obtain ⟨o, h1, h2, _⟩ := tt
    exact type_at h1 h2
  | @dic a kvs e =>
    cases (show u = Value.ref a from ry)
    obtain ⟨_, _, vs, _, o, es, ep, h1, h2, _⟩ := (show ObjOk X.prog X.w H s.heap a (.dK kvs) from I.hok a _ e)
    exact type_at h1 h2.1
  | @ins a C dx fs e =>
    cases (show u = Value.ref a from ry)
    obtain ⟨mA, O, _⟩ := ins_get I.hok e
    obtain ⟨od, J, _⟩ := O.look
    exact J.type
/-- o == y by the class's own __eq__, whose answer is True or False -/
def rEqO (K : PySem.W.Frag) (C : Addr) (sp : Sp) : R2 := fun x y H Q => ∃ a dx fs t, x = .ref a ∧ H a = some (.ins C dx fs) ∧ Ty K H y t ∧ PySem.W.notFirst K C t = true ∧ sp [x, y] H (fun v H' => ∃ b, v = .bl b ∧ Q v H') E0
theorem op_eqO (F : FnOk X.prog X.w X.K X.mg X.base CX0 k f fd ps sp) (hr : Room k X.A) (hs : PySem.W.findIn X.K (.ref C) "__eq__" = some (some (.ref f))) (hf : PySem.W.isFn X.K (.ref f) = true) (hb : Binds X.K fd ps []) : OpR X (compareOp .Eq) (rEqO X.K C sp) := by
  intro pins s σ H x y v u Q I rx ry h
  obtain ⟨a, dx, fs, t, rfl, e, ty, nf, q⟩ := h
  cases rx
  show wpAny (model X.prog X.w) X.A (richCompare .Eq (.ref a) u) (EP X pins σ Q) X.xe s
  obtain ⟨mA, O, _⟩ := ins_get I.hok e
  obtain ⟨od, J, _⟩ := O.look
  obtain ⟨m, hF⟩ := I.fr
  refine PySem.W.cmp_K (op := .Eq) (tb := t) hr.units0 hF I.ok.mod.kin J (ty_of I ry ty) nf hs hf ?_
  refine thn (own_call (vs := [.ref a, y]) ⟨hr, rfl⟩ F hb I (.cons rfl (.cons ry .nil)) q) fun w s' z => ?_
  obtain ⟨v, H', I', rv, b, ev, q'⟩ := z
  subst ev
  cases rv
  exact ⟨.bl b, H', I', rfl, q'⟩
/-- .. o != y, where the class has no __ne__ of its own -/
def rNeO (K : PySem.W.Frag) (C : Addr) (sp : Sp) : R2 := fun x y H Q => ∃ a dx fs t, x = .ref a ∧ H a = some (.ins C dx fs) ∧ Ty K H y t ∧ PySem.W.notFirst K C t = true ∧ sp [x, y] H (fun v H' => ∃ b, v = .bl b ∧ Q (.bl (!b)) H') E0
theorem ne_slot : Slot "object" "__ne__" "object.__ne__" := .of (owner := "object") (n := "__ne__") (by rw [typeLookup_type, builtinLookup_eq_fast]; kernel_rfl) (by decide +kernel) (by decide +kernel) (by decide +kernel) (by first | exact .inl (by decide +kernel) | exact .inr (by decide +kernel)) (by rw [isSubtype_type]; kernel_rfl)
theorem ne_try {prog : Program} {w : World} {A : Around} {E : Value → Shared → Prop} {x : Addr} {b : Value} {ox : Obj} {od : Option Obj} {K : PySem.W.Frag} {Q : Option Value → Shared → Prop} (X : K.In s.heap) (I : PySem.W.InstAt s.heap x ox C od) (hu : A.in1.units < cLine)
    (ho : PySem.W.instIn K (.ref x) (.type "object") = some true ∨ PySem.W.Looks (model prog w) s.heap (isInstance (.ref x) (.type "object")) true)
    (hn : PySem.W.findIn K (.ref C) "__ne__" = some (some (.builtin "object.__ne__"))) (hs : PySem.W.findIn K (.ref C) "__eq__" = some (some (.ref f))) (hf : PySem.W.isFn K (.ref f) = true)
    (h : wpAny (model prog w) A.in1 (call (.ref f) [.ref x, b]) (fun v s' => ∃ r, v = .bool r ∧ Q (some (.bool (!r))) s') E s) : wpAny (model prog w) A (tryCompare (.ref x) "__ne__" b) Q E s := by
  have hi : PySem.W.Looks (model prog w) s.heap (isInstance (.ref x) (.type "object")) true := ho.elim (PySem.W.looks_instIn X) id
  unfold tryCompare
  refine wpAny_bind ?_
  simp only [callSpecialIfBound?, bindSpecialIfBound?]
  refine wpAny_holding (wpAny_bind (wpAny_bind (wpAny_bind (I.type.here ((PySem.W.looks_findIn X hn).here ?_)))))
  refine wpAny_bind (wpAny_askSetting (wpAny_ite ?_))
  have core : wpAny (model prog w) A (call (.builtin "object.__ne__") ([.ref x] ++ [b])) (fun v s' => ∃ r, v = .bool r ∧ Q (some (.bool r)) s') E s := by
    refine wpAny_call (codeAny_call_builtin ne_slot.plain F.cmpEntry_ne (PySem.W.check_slot F.cmpKind_ne F.cmpSplit_ne hi (F.cmpArgs_ne _ _) ?_))
    unfold Builtin.«object.__ne__»
    repeat (first
      | with_reducible refine wpAny_cRoomFor hu ?_
      | (refine wpAny_bind (m := callSpecialIfBound? (.ref x) (Str.ofString "__eq__") [b])
          (PySem.W.ifBound_K X I hs hf (wpAny_mono h (fun r s' hr => by
            obtain ⟨b, rfl, hq⟩ := hr
            repeat (first | exact ⟨_, rfl, hq⟩ | exact hq | exact wpAny_pure ⟨_, rfl, hq⟩ | exact wpAny_truthy_bool ⟨_, rfl, hq⟩ | (refine wpAny_bind (m := truthy (.bool _)) (wpAny_truthy_bool ?_)) | wp_step)) fun _ _ e => e)))
      | wp_step)
  simp only [ne_slot.bind]
  have fin : wpAny (model prog w) A (call (.builtin "object.__ne__") ([.ref x] ++ [b]) >>= fun v => pure (some v)) (fun r s' => ∃ b, r = some (.bool b) ∧ Q (some (.bool b)) s') E s :=
    wpAny_bind (wpAny_mono core (fun v s' ⟨r, ev, q⟩ => wpAny_pure ⟨r, by rw [ev], q⟩) fun _ _ e => e)
  have fin2 := wpAny_mono (Q' := fun a s' => wpAny (model prog w) A (match a with
      | some Value.notImplemented => pure none
      | none => pure none
      | some r => pure (some r)) Q E s') fin (fun r s' ⟨b, e, q⟩ => by
    subst e
    exact wpAny_pure q) fun _ _ e => e
  split
  · exact wpAny_bind (wpAny_pure (wpAny_pure fin2))
  · exact wpAny_tryCatch (wpAny_bind (wpAny_pure (wpAny_pure fin2)))
theorem op_neO (F : FnOk X.prog X.w X.K X.mg X.base CX0 k f fd ps sp) (hr : Room (k + 1) X.A) (hn : PySem.W.findIn X.K (.ref C) "__ne__" = some (some (.builtin "object.__ne__"))) (hs : PySem.W.findIn X.K (.ref C) "__eq__" = some (some (.ref f))) (hf : PySem.W.isFn X.K (.ref f) = true)
    (ho : PySem.W.subIn X.K (.ref C) (.type "object") = some true) (hb : Binds X.K fd ps []) : OpR X (compareOp .NotEq) (rNeO X.K C sp) := by
  intro pins s σ H x y v u Q I rx ry h
  obtain ⟨a, dx, fs, t, rfl, e, ty, nf, q⟩ := h
  cases rx
  show wpAny (model X.prog X.w) X.A (richCompare .NotEq (.ref a) u) (EP X pins σ Q) X.xe s
  obtain ⟨mA, O, _⟩ := ins_get I.hok e
  obtain ⟨od, J, _⟩ := O.look
  have hi : PySem.W.Looks (model X.prog X.w) s.heap (isInstance (.ref a) (.type "object")) true := J.type.andThen (PySem.W.looks_subIn I.kIn ho)
  have one : wpAny (model X.prog X.w) X.A (tryCompare (.ref a) (cmpInfo .NotEq).2.1 u) (fun r s' => ∃ v, r = some v ∧ EP X pins σ Q v s') X.xe s := by
    refine ne_try I.kIn J (hr.in1).units0 (.inr hi) hn hs hf ?_
    refine thn (own_call (vs := [.ref a, y]) ⟨hr.in1, rfl⟩ F hb I (.cons rfl (.cons ry .nil)) q) fun w s' z => ?_
    obtain ⟨v, H', I', rv, b, ev, q'⟩ := z
    subst ev
    cases rv
    exact ⟨b, rfl, _, rfl, .bl (!b), H', I', rfl, q'⟩
  have two := ty_of (M := model X.prog X.w) I ry ty
  unfold richCompare
  simp only [oneThing_ref]
  refine wpAny_holding (wpAny_bind (wpAny_cRoomFor hr.units0 ?_))
  refine wpAny_bind (J.type.here (wpAny_bind (two.here ?_)))
  split
  · rename_i z
    have z2 : PySem.W.subIn X.K t (.ref C) = some false := by
      rcases Bool.or_eq_true_iff.mp nf with z3 | z3
      · rw [beq_iff_eq.mp z3] at z
        simp at z
      · exact beq_iff_eq.mp z3
    refine wpAny_bind ((PySem.W.looks_subIn I.kIn z2).here ?_)
    simp only [Bool.false_eq_true, if_false]
    exact wpAny_bind (thn one fun r s' ⟨v, ev, q⟩ => by
      subst ev
      exact wpAny_pure q)
  · refine wpAny_bind (wpAny_pure ?_)
    simp only [Bool.false_eq_true, if_false]
    exact wpAny_bind (thn one fun r s' ⟨v, ev, q⟩ => by
      subst ev
      exact wpAny_pure q)
theorem call_lenO (F : FnOk X.prog X.w X.K X.mg X.base CX0 k f fd ps sp) (hr : Room (k + 1) X.A) (hs : PySem.W.findIn X.K (.ref C) "__len__" = some (some (.ref f))) (hf : PySem.W.isFn X.K (.ref f) = true) (hb : Binds X.K fd ps []) :
    CallR X (.builtin "len") (fun xs H Q => ∃ a dx fs, xs = [.ref a] ∧ H a = some (.ins C dx fs) ∧ sp [.ref a] H (fun v H' => ∃ n : Nat, v = .int n ∧ (n : Int) < 2 ^ 63 ∧ Q (.int n) H') E0) := by
  intro pins s σ H xs us Q I r h
  obtain ⟨a, dx, fs, rfl, e, q⟩ := h
  obtain rfl := Vals.ref1 r
  obtain ⟨mA, O, _⟩ := ins_get I.hok e
  obtain ⟨od, J, _⟩ := O.look
  obtain ⟨m, hF⟩ := I.fr
  refine PySem.W.len_K hF I.ok.mod.kin J hs hf ?_
  refine thn (own_call (vs := [.ref a]) ⟨hr.in1, rfl⟩ F hb I (.cons rfl .nil) q) fun w s' z => ?_
  obtain ⟨v, H', I', rv, n, ev, hn, q'⟩ := z
  subst ev
  obtain ⟨t, rfl⟩ := (show ∃ t, w = Value.int n t from rv)
  exact ⟨⟨Int.natCast_nonneg n, hn⟩, .int n, H', I'.tok _, ⟨_, rfl⟩, q'⟩
theorem call_strO (F : FnOk X.prog X.w X.K X.mg X.base CX0 k f fd ps sp) (hr : Room (k + 2) X.A) (hs : PySem.W.findIn X.K (.ref C) "__str__" = some (some (.ref f))) (hf : PySem.W.isFn X.K (.ref f) = true) (hb : Binds X.K fd ps []) :
    CallR X (.type "str") (fun xs H Q => ∃ a dx fs, xs = [.ref a] ∧ H a = some (.ins C dx fs) ∧ sp [.ref a] H (fun v H' => ∃ x, v = .str x ∧ Q (.str x) H') E0) := by
  intro pins s σ H xs us Q I r h
  obtain ⟨a, dx, fs, rfl, e, q⟩ := h
  obtain rfl := Vals.ref1 r
  obtain ⟨mA, O, _⟩ := ins_get I.hok e
  obtain ⟨od, J, _⟩ := O.look
  refine PySem.W.kso_call (hr.in1.in1).units0 I.kIn J hs hf ?_
  refine thn (own_call (vs := [.ref a]) ⟨hr.in1.in1, rfl⟩ F hb I (.cons rfl .nil) q) fun w s' z => ?_
  obtain ⟨v, H', I', rv, x, ev, q'⟩ := z
  subst ev
  obtain ⟨t, rfl⟩ := (show ∃ t, w = Value.str x t from rv)
  exact ⟨.str x, H', I', ⟨_, rfl⟩, q'⟩
theorem call_boolO (F : FnOk X.prog X.w X.K X.mg X.base CX0 k f fd ps sp) (hr : Room (k + 2) X.A) (hs : PySem.W.findIn X.K (.ref C) "__bool__" = some (some (.ref f))) (hf : PySem.W.isFn X.K (.ref f) = true) (hb : Binds X.K fd ps []) :
    CallR X (.type "bool") (fun xs H Q => ∃ a dx fs, xs = [.ref a] ∧ H a = some (.ins C dx fs) ∧ sp [.ref a] H (fun v H' => ∃ b, v = .bl b ∧ Q (.bl b) H') E0) := by
  intro pins s σ H xs us Q I r h
  obtain ⟨a, dx, fs, rfl, e, q⟩ := h
  obtain rfl := Vals.ref1 r
  obtain ⟨mA, O, _⟩ := ins_get I.hok e
  obtain ⟨od, J, _⟩ := O.look
  obtain ⟨m, hF⟩ := I.fr
  have t : wpAny (model X.prog X.w) X.A.in1.in1 (truthy (.ref a)) (fun b s' => ∃ H', Inv X pins σ H' s' ∧ Q (.bl b) H') X.xe s := by
    refine PySem.W.truthy_K hF I.ok.mod.kin J hs hf ?_
    refine thn (own_call (vs := [.ref a]) ⟨hr.in1.in1, rfl⟩ F hb I (.cons rfl .nil) q) fun w s' z => ?_
    obtain ⟨v, H', I', rv, b, ev, q'⟩ := z
    subst ev
    cases rv
    exact ⟨H', I', q'⟩
  refine callType_codes (T := "bool") (Bi := Builtin.«object.__init__») (Q₁ := fun r s₁ => ∃ b H', r = .bool b ∧ Inv X pins σ H' s₁ ∧ Q (.bl b) H') PySem.F.called_bool (PySem.F.typeCall_bool_1 _) PySem.F.entry_object_init ?_ ?_
  · refine codeAny_of_tree ?_
    show wpAny _ X.A.in1.in1 (do checkBuiltinCall "bool.__new__" ⟨[.type "bool", .ref a], []⟩; again (.builtin "bool.__new__" ⟨[.type "bool", .ref a], []⟩)) _ _ s
    refine wpAny_bind (wpAny_of_eq (PySem.F.newCall_bool_1 _) (wpAny_pure ⟨plainId_quiet (by decide +kernel) _, codeAny_builtin PySem.F.entry_bool_new ?_⟩))
    rw [Around.under_plainId (by decide +kernel) _]
    unfold Builtin.«bool.__new__»
    have f1 := PySem.F.conv_sub_bool
    repeat (any_goals (first | assumption | (with_reducible refine wpAny_mono t (fun b s' hb => ?_) fun _ _ e => e) | wp_step))
    obtain ⟨H', I', q'⟩ := hb
    all_goals first | exact ⟨_, H', rfl, I', q'⟩ | skip
  · rintro obj s₁ ⟨b, H', rfl, I', hq⟩
    exact ⟨rfl, PySem.F.args_object_init_2 _ _, object_init_meets PySem.F.called_bool.init.lookup PySem.F.called_bool.made (by decide) X.prog X.w X.A.in1 _ s₁ ⟨rfl, rfl, .bl b, H', I', rfl, hq⟩⟩
end
end Ca
set_option Elab.async false
set_option linter.all false
set_option maxRecDepth 100000
set_option maxHeartbeats 4000000
namespace PySem
open Sem (wp)
/-- enumerate(v): its two new cells -/
theorem cx_enum_new {v : Value} {o : Obj} {H : Heap → Prop} (B : Begins v o H) :
    Meets (Builtin.«enumerate.__new__» ⟨[.type "enumerate", v], []⟩) (fun _ R s => H s.heap ∧
      R (.ok (.ret (.ref (s.heap.push o).objs.size))) { s with heap := (s.heap.push o).push { cls := .type "enumerate", data := .fields #[.none, .bool false, .ref s.heap.objs.size, rawInt 0, .none, .none] } }) :=
  .of_wp fun prog w A R s h => by
    obtain ⟨hp, g, d, tk, os⟩ := s
    obtain ⟨h1, h⟩ := h
    have z1 := sub_enumerate
    have z2 : ∀ {A' : Around} {E : Value → Shared → Prop} {Q : Value → Shared → Prop}, Q (.ref hp.objs.size) ⟨hp.push o, g, d, tk, os⟩ → wpAny (model prog w) A' (pyIter v) Q E ⟨hp, g, d, tk, os⟩ :=
      fun q => B.iter prog w _ _ ⟨hp, g, d, tk, os⟩ _ h1 q
    wp_walk using z2
    refine wpAny_stack_any fun st => wpAny_pure ?_
    split
    · rename_i c _ _ _ _ _
      cases (c == Value.type "enumerate") <;> (wp_walk using z2; exact ⟨_, rfl, h⟩)
    · wp_walk using z2
      exact ⟨_, rfl, h⟩
section
variable {prog : Program} {w : World} {A : Around} {E : Value → Shared → Prop} {s : Shared}
theorem cx_enum {v : Value} {o : Obj} {H : Heap → Prop} {Q : Value → Shared → Prop} (B : Begins v o H) (h1 : H s.heap)
    (h : ∀ h', IsEnum h' (s.heap.objs.size + 1) s.heap.objs.size 0 .none → h'.get? s.heap.objs.size = some o → h'.objs.size = s.heap.objs.size + 2 →
      (∀ b o, s.heap.get? b = some o → h'.get? b = some o) → Q (.ref (s.heap.objs.size + 1)) { s with heap := h' }) :
    wpAny (model prog w) A (call (.type "enumerate") [v]) Q E s := by
  refine callType_new F.called_enumerate (by decide) (F.typeCall_enumerate_1 _) (F.newCall_enumerate_1 _) (fun obj => F.args_object_init_2 obj _) F.entry_enumerate_new (cx_enum_new B) ⟨h1, ?_⟩
  have hSz : (s.heap.push o).objs.size = s.heap.objs.size + 1 := Heap.size_push ..
  show _ ∧ _
  rw [hSz]
  have hEn : IsEnum ((s.heap.push o).push { cls := .type "enumerate", data := .fields #[.none, .bool false, .ref s.heap.objs.size, rawInt 0, .none, .none] }) (s.heap.objs.size + 1) s.heap.objs.size 0 .none := by
    have z := Heap.get?_push_size (s.heap.push o) (o := { cls := .type "enumerate", data := .fields #[.none, .bool false, .ref s.heap.objs.size, rawInt 0, .none, .none] }) rfl
    rw [hSz] at z
    exact z
  exact ⟨⟨_, hEn, rfl⟩, h _ hEn (Heap.get?_push_of_some _ (Heap.get?_push_size _ B.free)) (by rw [Heap.size_push, hSz]) fun b o x => Heap.get?_push_of_some _ (Heap.get?_push_of_some _ x)⟩
end
end PySem
namespace Ca
open PySem PySem.Spec PyProof.Rows L2
/-! ### enumerate(tuple) -/
def IteT (K : PySem.W.Frag) (a : Addr) : It :=
  ⟨fun i H => ∃ (xs : List V) (x : V), SqT K H a xs ∧ xs[i]? = some x, fun i H v H' => ∃ T x, v = .ref T ∧ H T = none ∧ H' = upd H T (.tup [.int (i : Nat), x]) ∧ ∀ xs, SqT K H a xs → xs[i]? = some x, fun i H => ∃ xs : List V, SqT K H a xs ∧ xs.length = i⟩
theorem turn_enumT {P : Program} {w : World} {K : PySem.W.Frag} {elts : List Expr} {kk : Nat} {tpos : Pos} (a e it : Addr) :
    Turn P w K (.Tuple elts kk tpos) (IteT K a) [e, it] e (fun i h => (∃ was, IsEnum h e it ((i : Nat) : Int) was) ∧ h.IsTupleIter it a i ∧ e ≠ it) where
  mem := by simp
  obj := fun i h st b hb => by
    obtain ⟨⟨was, hEn⟩, ⟨o, ho, hc, hd⟩, _⟩ := st
    rcases (show b = e ∨ b = it by simpa using hb) with z | z
    · rw [z]; exact ⟨_, hEn, fun v q => nomatch q⟩
    · rw [z]; exact ⟨o, ho, fun v q => by rw [hd] at q; cases q⟩
  keep := fun i h h' st k => let ⟨⟨was, hEn⟩, hi, hne⟩ := st; ⟨⟨was, k e (by simp) _ hEn⟩, hi.at fun o q => k it (by simp) o q, hne⟩
  item := by
    intro X hP hw hK hc i pins s σ H E I hf st hg
    subst hP hw hK
    obtain ⟨⟨was, hEn⟩, hIt, hne⟩ := st
    obtain ⟨xs, x, hSq, hIx⟩ := hg
    obtain ⟨its, rVs, p, hSz⟩ := I.tuple hSq
    obtain ⟨u, hUu, rUu⟩ := rVs.get hIx
    have ltE : e < s.heap.objs.size := Heap.lt_size hEn
    have ltI : it < s.heap.objs.size := by obtain ⟨_, q, _⟩ := hIt; exact Heap.lt_size q
    have p' : s.heap.IsTuple a its.toArray := p
    have nai : a ≠ it := fun z => by
      obtain ⟨o1, q1, c1, _⟩ := p'
      obtain ⟨o2, q2, c2, _⟩ := hIt
      rw [z, q2] at q1
      cases q1
      rw [c1] at c2
      injection c2 with c2
      exact absurd c2 (by decide)
    have nae : e ≠ a := fun z => by
      obtain ⟨o1, q1, c1, _⟩ := p'
      rw [← z, hEn] at q1
      cases q1
      injection c1 with c1
      exact absurd c1 (by decide)
    have D := Draws.tuple (prog := X.prog) (w := X.w) (A := X.A.in1) (I.ok.hd hc) it a nai its.toArray
    have lt : i < its.toArray.size := by
      have := (Array.getElem?_eq_some_iff.mp (show its.toArray[i]? = some u by simpa using hUu)).1
      exact this
    refine wpAny_pyNext_enum_itemD D hEn ⟨hIt, p'⟩ lt hne (by simp [hne, nae]) fun u' h' tk hu' ho hit' hT hsz hk => ?_
    have eu : u' = u := by
      have z1 : its.toArray[i]? = some u' := hu'
      have z2 : its.toArray[i]? = some u := by simpa using hUu
      exact Option.some.inj (z1.symm.trans z2)
    subst eu
    refine ⟨_, rfl, wpAny_letOwnedTupleGo_enum (s := { s with heap := h', toks := tk + 1 }) ho fun h'' he' sm => ?_⟩
    have tT : h''.get? s.heap.objs.size = some { cls := .type "tuple", data := .seq #[.int i tk, u'] } := (sm.2 _ (Nat.ne_of_gt ltE)).trans hT
    have new : ObjOk X.prog X.w (upd H s.heap.objs.size (.tup [.int (i : Nat), x])) h'' s.heap.objs.size (.tup [.int (i : Nat), x]) :=
      ⟨by show 2 ≤ sizeLine; decide, [.int i tk, u'], .cons ⟨_, rfl⟩ (.cons rUu .nil), ⟨_, tT, rfl, _, rfl⟩⟩
    have J1 : Inv X pins σ (upd H s.heap.objs.size (.tup [.int (i : Nat), x])) { s with heap := h'', toks := tk + 1 } :=
      I.turnedNew (ch := [e, it]) (fun b ob hb q => (sm.2 b (fun z => hb (by simp [z]))).trans (hk b ob (fun z => hb (by simp [z])) (fun z => hb (by simp [z])) q)) hf (Nat.le_refl _) new
    refine ⟨.ref s.heap.objs.size, _, J1, rfl, ⟨_, x, rfl, I.hok.fresh (Nat.le_refl _), rfl, fun ys hy => by rw [I.tuple_inj hy hSq]; exact hIx⟩, ⟨⟨u', ?_⟩, hit'.1.at fun o q => (sm.2 it (Ne.symm hne)).trans q, hne⟩, fun b hb => ?_⟩
    · have e1 : ((i + 1 : Nat) : Int) = (i : Int) + 1 := by omega
      rw [e1]; exact he'
    · have hb' : b < s.heap.objs.size := by
        rcases (show b = e ∨ b = it by simpa using hb) with z | z
        · rw [z]; exact ltE
        · rw [z]; exact ltI
      rw [upd_ne (Nat.ne_of_lt hb')]
      exact (hf b hb).1
  done := by
    intro X hP hw hK hc i pins s σ H E I hf st hg
    subst hP hw hK
    obtain ⟨⟨was, hEn⟩, hIt, hne⟩ := st
    obtain ⟨xs, hSq, hIx⟩ := hg
    obtain ⟨its, rVs, p, hSz⟩ := I.tuple hSq
    obtain ⟨f0, f1, f2, f3, f4, f5⟩ := hf it (by simp)
    have hl := rVs.length
    have p' : s.heap.IsTuple a its.toArray := p
    have nai : a ≠ it := fun z => by
      obtain ⟨o1, q1, c1, _⟩ := p'
      obtain ⟨o2, q2, c2, _⟩ := hIt
      rw [z, q2] at q1
      cases q1
      rw [c1] at c2
      injection c2 with c2
      exact absurd c2 (by decide)
    have D := Draws.tuple (prog := X.prog) (w := X.w) (A := X.A.in1) (I.ok.hd hc) it a nai its.toArray
    have e1 : its.toArray.size = i := by simp; omega
    exact wpAny_pyNext_enum_endD D hEn ⟨by rw [e1]; exact hIt, p'⟩ fun h' eb => ⟨rfl, I.turned (t' := s.toks) (fun b o hb q => eb b o hb q) f0 f1 f3 f4 f5⟩
  self := fun A i s Q E st h => let ⟨⟨_, hEn⟩, _⟩ := st; wpAny_pyIter_enum hEn h
def iEnumT (K : PySem.W.Frag) (ta : TA) : TI := fun σ H R => ta σ H fun vs H1 => ∃ a xs, vs = [.ref a] ∧ SqT K H1 a xs ∧ R (IteT K a) H1
theorem pi_enumT {X : Cx} {e : Expr} {ta : TA} {p pos tpos : Pos} {elts : List Expr} {kk : Nat} (hg : Gl X "enumerate") (hm : X.mg "enumerate" = none) (ha : PA X [e] ta) (hs : starEach [e] X.env = [(false, eval e X.env)] := by rfl) :
    PI X (.Tuple elts kk tpos) (.Call (.Name "enumerate" p) [e] [] pos) (iEnumT X.K ta) := by
  refine ⟨fun pins s σ H R I h => ?_⟩
  refine Call_ (ld_blt I hg hm boot_enumerate (PyProof.Rows.callWith_type1 (thn (ha.run pos pins s σ H _ I h) fun us s1 ⟨vs, H1, J1, r1, q1⟩ => ?_) hs rfl))
  obtain ⟨a, xs, ex, hSq, q⟩ := q1
  subst ex
  cases r1 with
  | cons r rr =>
    cases rr
    cases r
    obtain ⟨its, rVs, p', hSz⟩ := J1.tuple hSq
    refine cx_enum (begins_tuple a its.toArray) (show s1.heap.IsTuple a its.toArray from p') fun h' hEn hIt hsz hk => wpAny_pyIter_enum hEn ?_
    have I2 : Inv X pins σ H1 { s1 with heap := h' } := J1.kept (t' := s1.toks) hk
    refine ⟨s1.heap.objs.size + 1, [s1.heap.objs.size + 1, s1.heap.objs.size], _, _, H1, rfl, I2, turn_enumT a (s1.heap.objs.size + 1) s1.heap.objs.size, ⟨⟨.none, hEn⟩, ⟨_, hIt, rfl, rfl⟩, Nat.succ_ne_self _⟩, fun b hb => ?_, q⟩
    have hle : s1.heap.objs.size ≤ b := by
      rcases (show b = s1.heap.objs.size + 1 ∨ b = s1.heap.objs.size by simpa using hb) with z | z
      · rw [z]; exact Nat.le_add_right _ _
      · rw [z]; exact Nat.le_refl _
    exact J1.fpOk hle (J1.hok.fresh hle)
end Ca
set_option Elab.async false
set_option linter.all false
set_option maxRecDepth 100000
set_option maxHeartbeats 4000000
namespace Ca
open PySem L2
/-! ### values as data, dicts among them -/
mutual
inductive Dq (K : PySem.W.Frag) (H : Hp) : V → PyData → Prop
  | non : Dq K H .non .none
  | bl (b : Bool) : Dq K H (.bl b) (.bool b)
  | int (i : Int) : Dq K H (.int i) (.int i)
  | str (x : Str) (h : x.length ≤ 5000) : Dq K H (.str x) (.str x)
  | lst {a : Addr} {xs : List V} {ds : List PyData} : SqL K H a xs → DqAll K H xs ds → Dq K H (.ref a) (.list ds)
  | tup {a : Addr} {xs : List V} {ds : List PyData} : SqT K H a xs → DqAll K H xs ds → Dq K H (.ref a) (.tuple ds)
  | dic {a : Addr} {kvs : List (Key × V)} : H a = some (.dK kvs) → Dq K H (.ref a) (.dict [])
inductive DqAll (K : PySem.W.Frag) (H : Hp) : List V → List PyData → Prop
  | nil : DqAll K H [] []
  | cons {v : V} {vs : List V} {d : PyData} {ds : List PyData} : Dq K H v d → DqAll K H vs ds → DqAll K H (v :: vs) (d :: ds)
end
theorem same_sqt {K : PySem.W.Frag} {H H' : Hp} {a : Addr} {xs : List V} (s : Same H H') (h : SqT K H a xs) : SqT K H' a xs := h.ext s
mutual
theorem Dq.same {K : PySem.W.Frag} {H H' : Hp} (s : Same H H') : ∀ {d : PyData} {v : V}, Dq K H v d → Dq K H' v d
  | .none, _, h => by cases h; exact .non
  | .bool b, _, h => by cases h; exact .bl b
  | .int i, _, h => by cases h; exact .int i
  | .str x, _, h => by cases h with | str _ a => exact .str x a
  | .list ds, _, h => by
    cases h with
    | lst a b => exact .lst (s.seq a) (DqAll.same s b)
  | .tuple ds, _, h => by
    cases h with
    | tup a b => exact .tup (same_sqt s a) (DqAll.same s b)
  | .dict ds, _, h => by
    cases h with
    | dic a => exact .dic (s _ _ a)
theorem DqAll.same {K : PySem.W.Frag} {H H' : Hp} (s : Same H H') : ∀ {ds : List PyData} {vs : List V}, DqAll K H vs ds → DqAll K H' vs ds
  | [], _, h => by cases h; exact .nil
  | d :: ds, _, h => by
    cases h with
    | cons a b => exact .cons (Dq.same s a) (DqAll.same s b)
end
theorem DqAll.len {K : PySem.W.Frag} {H : Hp} : ∀ {vs : List V} {ds : List PyData}, DqAll K H vs ds → vs.length = ds.length
  | _, _, .nil => rfl
  | _, _, .cons _ t => congrArg Nat.succ t.len
theorem DqAll.get {K : PySem.W.Frag} {H : Hp} : ∀ {vs : List V} {ds : List PyData} {i : Nat} {v : V}, DqAll K H vs ds → vs[i]? = some v → ∃ d, ds[i]? = some d ∧ Dq K H v d
  | _, _, 0, _, .cons a _, e => by
    cases e
    exact ⟨_, rfl, a⟩
  | _, _, i + 1, _, .cons _ t, e => t.get (i := i) e
theorem DqAll.app {K : PySem.W.Frag} {H : Hp} : ∀ {vs ws : List V} {ds es : List PyData}, DqAll K H vs ds → DqAll K H ws es → DqAll K H (vs ++ ws) (ds ++ es)
  | _, _, _, _, .nil, h => h
  | _, _, _, _, .cons a t, h => .cons a (t.app h)
def tyOf : PyData → String
  | .none => "NoneType"
  | .bool _ => "bool"
  | .int _ => "int"
  | .str _ => "str"
  | .list _ => "list"
  | .tuple _ => "tuple"
  | .dict _ => "dict"
theorem Dq.ty {K : PySem.W.Frag} {H : Hp} {v : V} {d : PyData} (h : Dq K H v d) : Ty K H v (.type (tyOf d)) := by
  cases h with
  | non => exact .non
  | bl b => exact .bl b
  | int i => exact .int i
  | str x h => exact .str x
  | lst a b => exact .lst a
  | tup a b => exact .tup a
  | dic a => exact .dic a
theorem tyx_l {K : PySem.W.Frag} {H : Hp} {a : Addr} {xs : List V} (h : SqL K H a xs) : TyX K H (.ref a) (.type "list") := by
  rcases h with (e | ⟨o, e⟩) | ⟨o, _, _, e, c, _⟩
  · exact .base (.lst e)
  · exact .base (.frz e)
  · exact .kList e c
theorem tyx_t {K : PySem.W.Frag} {H : Hp} {a : Addr} {xs : List V} (h : SqT K H a xs) : TyX K H (.ref a) (.type "tuple") := by
  rcases h with (e | ⟨o, e⟩) | ⟨o, _, _, e, c, _⟩
  · exact .base (.tup e)
  · exact .fTuple e
  · exact .kTuple e c
theorem Dq.tyx {K : PySem.W.Frag} {H : Hp} {v : V} {d : PyData} (h : Dq K H v d) : TyX K H v (.type (tyOf d)) := by
  cases h with
  | non => exact .base .non
  | bl b => exact .base (.bl b)
  | int i => exact .base (.int i)
  | str x h => exact .base (.str x)
  | lst a b => exact tyx_l a
  | tup a b => exact tyx_t a
  | dic a => exact .base (.dK a)
def isInt : PyData → Bool
  | .int _ => true
  | _ => false
def isBool : PyData → Bool
  | .bool _ => true
  | _ => false
def isStr : PyData → Bool
  | .str _ => true
  | _ => false
def isTup : PyData → Bool
  | .tuple _ => true
  | _ => false
theorem kit_int : ∀ d : PyData, kitB (tyOf d) "int" = some (isInt d || isBool d)
  | .none => (by decide +kernel : kitB "NoneType" "int" = some false)
  | .bool _ => (by decide +kernel : kitB "bool" "int" = some true)
  | .int _ => (by decide +kernel : kitB "int" "int" = some true)
  | .str _ => (by decide +kernel : kitB "str" "int" = some false)
  | .list _ => (by decide +kernel : kitB "list" "int" = some false)
  | .tuple _ => (by decide +kernel : kitB "tuple" "int" = some false)
  | .dict _ => (by decide +kernel : kitB "dict" "int" = some false)
theorem kit_bool : ∀ d : PyData, kitB (tyOf d) "bool" = some (isBool d)
  | .none => (by decide +kernel : kitB "NoneType" "bool" = some false)
  | .bool _ => (by decide +kernel : kitB "bool" "bool" = some true)
  | .int _ => (by decide +kernel : kitB "int" "bool" = some false)
  | .str _ => (by decide +kernel : kitB "str" "bool" = some false)
  | .list _ => (by decide +kernel : kitB "list" "bool" = some false)
  | .tuple _ => (by decide +kernel : kitB "tuple" "bool" = some false)
  | .dict _ => (by decide +kernel : kitB "dict" "bool" = some false)
theorem kit_str : ∀ d : PyData, kitB (tyOf d) "str" = some (isStr d)
  | .none => (by decide +kernel : kitB "NoneType" "str" = some false)
  | .bool _ => (by decide +kernel : kitB "bool" "str" = some false)
  | .int _ => (by decide +kernel : kitB "int" "str" = some false)
  | .str _ => (by decide +kernel : kitB "str" "str" = some true)
  | .list _ => (by decide +kernel : kitB "list" "str" = some false)
  | .tuple _ => (by decide +kernel : kitB "tuple" "str" = some false)
  | .dict _ => (by decide +kernel : kitB "dict" "str" = some false)
theorem kit_tup : ∀ d : PyData, kitB (tyOf d) "tuple" = some (isTup d)
  | .none => (by decide +kernel : kitB "NoneType" "tuple" = some false)
  | .bool _ => (by decide +kernel : kitB "bool" "tuple" = some false)
  | .int _ => (by decide +kernel : kitB "int" "tuple" = some false)
  | .str _ => (by decide +kernel : kitB "str" "tuple" = some false)
  | .list _ => (by decide +kernel : kitB "list" "tuple" = some false)
  | .tuple _ => (by decide +kernel : kitB "tuple" "tuple" = some true)
  | .dict _ => (by decide +kernel : kitB "dict" "tuple" = some false)
section
variable {K : PySem.W.Frag} {σ : L2.St} {H : Hp} {v : V} {d : PyData} {i : Nat}
theorem rd_isd {n : String} {b : Bool} {Q : VK} (h : Dq K H v d) (hv : σ[i]? = some (some v)) (hk : kitB (tyOf d) n = some b) (q : Q (.bl b) H) : tCB (rIsi K) (tCons (tVar i) (tCons (tC (.ty n)) tNil)) σ H Q :=
  ⟨_, hv, v, .ty n, _, _, b, rfl, .ty n, h.tyx, kit_ty hk, q⟩
end
/-- a def that tells something of a value -/
def spIs (K : PySem.W.Frag) (f : PyData → Bool) : Sp := fun vs H Q _ => ∃ v d, vs = [v] ∧ Dq K H v d ∧ ∀ H', Same H H' → Q (.bl (f d)) H'
def spIs2 (K : PySem.W.Frag) (f : PyData → Nat → Bool) : Sp := fun vs H Q _ => ∃ v d m, vs = [v, .int (m : Nat)] ∧ m ≤ 5000 ∧ Dq K H v d ∧ ∀ H', Same H H' → Q (.bl (f d m)) H'
end Ca
set_option Elab.async false
set_option linter.all false
set_option maxRecDepth 100000
set_option maxHeartbeats 4000000
namespace Ca
open PySem L2
theorem walk_enumT {K : PySem.W.Frag} {a : Addr} {xs : List V} : Walk (IteT K a) xs.length (fun H => SqT K H a xs) (fun i H v H' => ∃ T x, v = .ref T ∧ H T = none ∧ H' = upd H T (.tup [.int (i : Nat), x]) ∧ xs[i]? = some x) :=
  ⟨fun i _ hi q => ⟨xs, xs[i], q, by simp [hi]⟩, fun _ q => ⟨xs, q, rfl⟩, fun _ _ _ _ _ q y => by
    obtain ⟨T, x, e1, e2, e3, e4⟩ := y
    exact ⟨T, x, e1, e2, e3, e4 xs q⟩⟩
/-- a comprehension without a test, whose items are known ahead -/
theorem lc_known {J : It} {n : Nat} {G : Hp → Prop} {Y : Nat → Hp → V → Hp → Prop} (w : Walk J n G Y) {te : TE} {vs : List Nat} {σ : L2.St} {H1 : Hp} {D : Addr} {Qd : Hp → Prop} {j : Nat} (f : Nat → V) (hn : n ≤ 100000) (hD : H1 D = none) (hG : ∀ H, Same H1 H → G H)
    (hY : ∀ i H x H', Y i H x H' → Same H H') (hw : ∀ x, wipe ((wipe σ vs).set j (some x)) vs = wipe σ vs)
    (hs : ∀ i x H H' (Qk : VK), i < n → Same H1 H → Y i H x H' → (∀ H4, Same H' H4 → Qk (f i) H4) → te ((wipe σ vs).set j (some x)) H' Qk) (hd : ∀ H, Same H1 H → H D = some (.lst ((List.range n).map f)) → Qd H) :
    ∃ W : Nat → Nat → Hp → Prop, (∃ m, W 0 m (upd H1 D (.lst []))) ∧ ∀ i m H, W i m H →
      (J.stop i H ∧ Qd H) ∨ (J.go i H ∧ ∃ Nx : Hp → Prop, (∀ H', Nx H' → ∃ m', m' < m ∧ W (i + 1) m' H') ∧ ∀ x H', J.yld i H x H' → gName j x (wipe σ vs) H' fun σ2 H2 => wipe σ2 vs = wipe σ vs ∧ tYes σ2 H2 fun b H3 =>
        if b = true then te σ2 H3 fun y H4 => ∃ acc, H4 D = some (.lst acc) ∧ acc.length < sizeLine ∧ Nx (upd H4 D (.lst (acc ++ [y]))) else Nx H3) :=
  lc_it w (fun i H => Same H1 H ∧ H D = some (.lst ((List.range i).map f))) ⟨Same.new hD, upd_same⟩ (fun i H hi p => hG H p.1) (fun i x H H' hi p y => ⟨hw x, rd_yes' (hs i x H H' _ hi p.1 y fun H4 s4 => by
    have t := hY i H x H' y
    refine ⟨_, s4 _ _ (t _ _ p.2), ?_, fun b o e => ?_, ?_⟩
    · rw [List.length_map, List.length_range]
      exact Nat.lt_of_lt_of_le (Nat.lt_of_lt_of_le hi hn) (by decide)
    · rw [upd_ne (ne_of_none e hD)]
      exact s4 _ _ (t _ _ (p.1 _ _ e))
    · rw [upd_same, List.range_succ, List.map_append]
      rfl)⟩) fun H p => hd H p.1 p.2
where
  rd_yes' {A B : Hp → Prop} {σ : L2.St} {H : Hp} (h : A H) : tYes σ H (fun b H3 => if b = true then A H3 else B H3) := by
    show (if true = true then A H else B H)
    rw [if_pos rfl]
    exact h
end Ca
set_option Elab.async false
set_option linter.all false
set_option maxRecDepth 100000
namespace Ca
open PySem L2
def top (i : Nat) : Stmt := PySem.Challenge.pw_commonanswer_k05_whole_texts_bent.main.body.getD i (.Pass ⟨0, 0, 0, 0⟩)
def inner (s : Stmt) (j : Nat) : Stmt := match s with
  | .ClassDef _ _ _ body _ _ _ _ _ _ _ => body.getD j (.Pass ⟨0, 0, 0, 0⟩)
  | s => s
abbrev sWall : Stmt := top 0
abbrev mInvalidTextInit : Stmt := inner (top 5) 0
abbrev mInvalidUnknownsInit : Stmt := inner (top 6) 0
abbrev mInvalidRowsInit : Stmt := inner (top 7) 0
abbrev sIsInteger : Stmt := top 16
abbrev sIsTupleOf : Stmt := top 17
abbrev sIsName : Stmt := top 18
abbrev sIsUnknown : Stmt := top 19
abbrev sIsStretch : Stmt := top 20
abbrev sIsRow : Stmt := top 21
abbrev sCheckUnknowns : Stmt := top 22
abbrev sCheckRows : Stmt := top 23
abbrev sLineOf : Stmt := top 24
abbrev sIntegerIn : Stmt := top 25
abbrev sRowIn : Stmt := top 26
abbrev mSystemInit : Stmt := inner (top 27) 0
abbrev mSystemRead : Stmt := inner (top 27) 1
abbrev mSystemUnknowns : Stmt := inner (top 27) 2
abbrev mSystemRows : Stmt := inner (top 27) 3
abbrev mSystemNames : Stmt := inner (top 27) 4
abbrev mSystemLen : Stmt := inner (top 27) 5
abbrev mSystemBool : Stmt := inner (top 27) 6
abbrev mSystemStr : Stmt := inner (top 27) 7
abbrev mSystemEq : Stmt := inner (top 27) 8
abbrev mSystemChanged : Stmt := inner (top 27) 9
abbrev mSystemWithout : Stmt := inner (top 27) 10
abbrev mSystemMore : Stmt := inner (top 27) 11
abbrev sLawUrn : Stmt := top 29
abbrev sLawDip : Stmt := top 30
abbrev sLawFrom : Stmt := top 31
abbrev sLawUnlike : Stmt := top 32
abbrev sLawStretch : Stmt := top 33
abbrev sLawLine : Stmt := top 34
abbrev sLawCase : Stmt := top 35
abbrev sLawPage : Stmt := top 36
abbrev sLawIsInt : Stmt := top 37
abbrev sLawIsName : Stmt := top 38
abbrev sLawIsStretch : Stmt := top 39
abbrev sLawFolkSlip : Stmt := top 40
abbrev sLawLinesSlip : Stmt := top 41
abbrev sLawWholeIn : Stmt := top 42
abbrev sLawSystemIn : Stmt := top 43
abbrev sLawCaught : Stmt := top 44
abbrev sLawSlip : Stmt := top 45
abbrev sLawBentWords : Stmt := top 46
abbrev sLawBent : Stmt := top 47
abbrev sLawRight : Stmt := top 48
abbrev sLaw : Stmt := top 49
abbrev nmLow : Str := "_law_low"
end Ca
set_option Elab.async false
set_option linter.all false
set_option maxRecDepth 100000
set_option maxHeartbeats 4000000
namespace Ca
open PySem L2
abbrev FnT (K : PySem.W.Frag) (x : Str) (st : Stmt) (f : Addr) (fd : FuncData) : Prop := FunD K x x (defArgs st) (defBody st) (defScope st) [] [] f fd
/-- the built-in names that these defs read -/
structure Bn (mg : Str → Option Value) : Prop where
  isi : mg "isinstance" = none
  int : mg "int" = none
  bool : mg "bool" = none
  str : mg "str" = none
  tup : mg "tuple" = none
  len : mg "len" = none
  all : mg "all" = none
  enum : mg "enumerate" = none
def isTupN : PyData → Nat → Bool
  | .tuple ds, m => decide (ds.length = m)
  | _, _ => false
section
variable {P : Program} {w : World} {K : PySem.W.Frag} {mg : Str → Option Value} {base : Heap}
theorem scIsInteger : FnScope ["value"] ["value"] (defScope sIsInteger) := ⟨rfl, rfl, rfl, by decide +kernel, rfl, by decide +kernel, by decide +kernel⟩
theorem ok_isInteger {f : Addr} {fd : FuncData} (F : FnT K "is_integer" sIsInteger f fd) (B : Bn mg) : FnOk P w K mg base CX0 1 f fd ["value"] (spIs K isInt) := by
  refine F.ok scIsInteger (fun vs H Q E h => ?_) (fun cdv A outer s H vs Q E hr h => ?_)
  · obtain ⟨v, d, rfl, _⟩ := h
    rfl
  · obtain ⟨v, d, rfl, hd, q⟩ := h
    have q0 := q H (fun _ _ e => e)
    refine ⟨_, PSs.nox (pss_one (ps_ret (pe_and (pe_callB call_isi (by rfl) B.isi PyProof.Rows.boot_isinstance (pa_cons (pv 0) (pa_cons (pe_bltn (v := .ty "int") (by rfl) B.int (by decide +kernel) rfl) pa_nil)))
      (pe_one (pe_not (pe_callB call_isi (by rfl) B.isi PyProof.Rows.boot_isinstance (pa_cons (pv 0) (pa_cons (pe_bltn (v := .ty "bool") (by rfl) B.bool (by decide +kernel) rfl) pa_nil)))))))), ?_⟩
    refine rd_isd hd rfl (kit_int d) ⟨_, rfl, ?_⟩
    cases d with
    | int i => exact iteT (rd_isd hd rfl (kit_bool _) ⟨_, rfl, q0⟩)
    | bool b => exact iteT (rd_isd hd rfl (kit_bool _) ⟨_, rfl, q0⟩)
    | _ => exact iteF q0
theorem scIsTupleOf : FnScope ["value", "many"] ["value", "many"] (defScope sIsTupleOf) := ⟨rfl, rfl, rfl, by decide +kernel, rfl, by decide +kernel, by decide +kernel⟩
theorem ok_isTupleOf {f : Addr} {fd : FuncData} (F : FnT K "is_tuple_of" sIsTupleOf f fd) (B : Bn mg) : FnOk P w K mg base CX0 1 f fd ["value", "many"] (spIs2 K isTupN) := by
  refine F.ok scIsTupleOf (fun vs H Q E h => ?_) (fun cdv A outer s H vs Q E hr h => ?_)
  · obtain ⟨v, d, m, rfl, _⟩ := h
    rfl
  · obtain ⟨v, d, m, rfl, hm, hd, q⟩ := h
    have q0 := q H (fun _ _ e => e)
    refine ⟨_, PSs.nox (pss_one (ps_ret (pe_and (pe_callB call_isi (by rfl) B.isi PyProof.Rows.boot_isinstance (pa_cons (pv 0) (pa_cons (pe_bltn (v := .ty "tuple") (by rfl) B.tup (by decide +kernel) rfl) pa_nil)))
      (pe_one (pe_cmpR op_eq (pe_callB call_len (by rfl) B.len boot_len (pa_cons (pv 0) pa_nil)) (pv 1) (nomark _)))))), ?_⟩
    refine rd_isd hd rfl (kit_tup d) ⟨_, rfl, ?_⟩
    cases d with
    | tuple ds =>
      cases hd with
      | @tup a xs _ h1 h2 =>
        refine iteT ⟨_, rfl, _, _, rfl, .inr ⟨_, h1, rfl⟩, _, rfl, rfl, ?_⟩
        have e : decide (V.int (xs.length : Int) = V.int (m : Int)) = decide (ds.length = m) := by
          rw [h2.len]
          by_cases c : ds.length = m
          · rw [decide_eq_true c, decide_eq_true (by rw [c])]
          · rw [decide_eq_false c, decide_eq_false (fun z => c (by injection z with z; omega))]
        rw [e]
        exact q0
    | _ => exact iteF q0
/-! ### names -/
def LET : Str := "abcdefghijklmnopqrstuvwxyz"
def DIG : Str := "0123456789"
structure Cn (mg : Str → Option Value) : Prop where
  letters : ∃ t, mg "LETTERS" = some (.str LET t)
  digits : ∃ t, mg "DIGITS" = some (.str DIG t)
  chars : ∃ t, mg "MOST_CHARACTERS" = some (.int 8 t)
  bound : ∃ t, mg "BOUND" = some (.str "bound" t)
  unknowns : ∃ t, mg "MOST_UNKNOWNS" = some (.int 3 t)
  rows : ∃ t, mg "MOST_ROWS" = some (.int 6 t)
  number : ∃ t, mg "MOST_NUMBER" = some (.int 10000 t)
def isLet (c : Nat) : Bool := decide (c ∈ LET.cps.toList)
def isSign (c : Nat) : Bool := isLet c || decide (c ∈ DIG.cps.toList)
def nameS (x : Str) : Bool := decide (1 ≤ x.length) && (decide (x.length ≤ 8) && (isLet (x.cps.toList.getD 0 0) && x.cps.toList.all isSign))
def isNameD : PyData → Bool
  | .str x => nameS x
  | _ => false
theorem all_range (l : List Nat) (g : Nat → Bool) (n : Nat) (h : l.length = n) : ((List.range n).map fun i => g (l.getD i 0)).all id = l.all g := by
  have e : ((List.range n).map fun i => g (l.getD i 0)) = l.map g := by
    refine List.ext_getElem (by simp [h]) fun i h1 h2 => ?_
    have hi : i < l.length := by simpa using h2
    simp [List.getElem?_eq_getElem hi]
  rw [e, List.all_map]
  rfl
theorem scIsName : FnScope ["value", "char"] ["value"] (defScope sIsName) := ⟨rfl, rfl, rfl, by decide +kernel, rfl, by decide +kernel, by decide +kernel⟩
theorem ok_isName {f : Addr} {fd : FuncData} (F : FnT K "is_name" sIsName f fd) (B : Bn mg) (C : Cn mg) : FnOk P w K mg base CX0 1 f fd ["value"] (spIs K isNameD) := by
  obtain ⟨t1, c1⟩ := C.letters
  obtain ⟨t2, c2⟩ := C.digits
  obtain ⟨t3, c3⟩ := C.chars
  refine F.ok scIsName (fun vs H Q E h => ?_) (fun cdv A outer s H vs Q E hr h => ?_)
  · obtain ⟨v, d, rfl, _⟩ := h
    rfl
  · obtain ⟨v, d, rfl, hd, q⟩ := h
    have nd := scIsName.nd
    have q0 := q H (fun _ _ e => e)
    refine ⟨_, PSs.nox (pss_cons (ps_if (PW.pt (pw_or (pt_not (pt_val (pe_callB call_isi (by rfl) B.isi PyProof.Rows.boot_isinstance (pa_cons (pv 0) (pa_cons (pe_bltn (v := .ty "str") (by rfl) B.str (by decide +kernel) rfl) pa_nil)))))
        (pw_or1 (pt_not (pt_chain op_le op_le pe_int (pe_callB call_len (by rfl) B.len boot_len (pa_cons (pv 0) pa_nil)) (pe_glob (v := .int 8) rfl c3 ⟨_, rfl⟩)))))) (pss_one (ps_ret pe_bl)) pss_nil)
      (pss_one (ps_ret (pe_and (pe_cmpR op_in_sign (pe_ix ix_str (pv 0) pe_int (fun _ _ => rfl)) (pe_glob (v := .str LET) rfl c1 ⟨_, rfl⟩) (by rfl))
        (pe_one (pe_callB (cr_all rfl) (by rfl) B.all PyProof.Rows.boot_all (pa_cons (pe_lc (own := [("char", 1)]) (g := gName 1) (tt := tYes) rfl nd (pi_str (pv 0))
          (blkOk_by (own := [("char", 1)]) (N := ["value", "char"]) (sc := defScope sIsName) (by decide +kernel)) (fun _ _ _ _ _ => pg_name (i := 1) nd rfl (Or.inl rfl)) (fun _ _ _ _ _ => pts_nil)
          (fun _ _ _ _ _ => pe_or (pe_cmpR op_in_sign (pv 1) (pe_glob (v := .str LET) rfl c1 ⟨_, rfl⟩) (by rfl)) (pe_one (pe_cmpR op_in_sign (pv 1) (pe_glob (v := .str DIG) rfl c2 ⟨_, rfl⟩) (by rfl))))) pa_nil))))))), ?_⟩
    refine rd_isd hd rfl (kit_str d) ⟨_, rfl, ?_⟩
    cases d with
    | str x =>
      cases hd with
      | str _ hx =>
        have hx2 : x.length ≤ sizeLine := Nat.le_trans hx (by decide)
        have fin0 : nameS x = false → Q (.bl false) H := fun z => by
          have q1 : Q (.bl (nameS x)) H := q0
          rw [z] at q1
          exact q1
        refine iteF ⟨_, rfl, _, x.length, rfl, ⟨hx2, rfl⟩, _, _, rfl, rfl, _, rfl, ?_⟩
        by_cases g1 : 1 ≤ x.length
        · rw [decide_eq_true (show (1 : Int) ≤ (x.length : Int) by omega)]
          refine iteT ⟨_, _, rfl, rfl, _, rfl, ?_⟩
          by_cases g2 : x.length ≤ 8
          · rw [decide_eq_true (show ((x.length : Nat) : Int) ≤ (8 : Int) by omega)]
            have hsz : 0 < x.cps.toList.length := by
              show 0 < x.cps.toList.length
              rw [Array.length_toList]
              exact g1
            have hc : x.cps.toList[0]? = some (x.cps.toList.getD 0 0) := by
              rw [List.getD_eq_getElem?_getD, List.getElem?_eq_getElem hsz]
              rfl
            refine iteF ⟨_, rfl, x, 0, x.cps.toList.getD 0 0, rfl, rfl, hx2, atI_nat (j := 0) hc, _, _, rfl, rfl, _, rfl, ?_⟩
            have en : nameS x = (isLet (x.cps.toList.getD 0 0) && x.cps.toList.all isSign) := by
              unfold nameS
              rw [decide_eq_true g1, decide_eq_true g2]
              rfl
            have q2 : ∀ H', Same H H' → Q (.bl (isLet (x.cps.toList.getD 0 0) && x.cps.toList.all isSign)) H' := fun H' s => by
              rw [← en]
              exact q H' s
            refine ite2 (fun g3 => ?_) (fun g3 => ?_)
            · rw [show isLet (x.cps.toList.getD 0 0) = true from g3] at q2
              refine ⟨_, rfl, x, rfl, fun D hD => lc_known walk_str (fun i => .bl (isSign (x.cps.toList.getD i 0))) (by show x.length ≤ 100000; omega) hD (fun _ _ => trivial) (fun _ _ _ _ y => by obtain ⟨rfl, _⟩ := y; exact fun _ _ e => e) (fun _ => rfl) ?_ ?_⟩
              · rintro i _ H1 _ Qk hi s1 ⟨rfl, c, hc, rfl⟩ k
                have ec : x.cps.toList.getD i 0 = c := by
                  rw [List.getD_eq_getElem?_getD, Array.getElem?_toList, hc]
                  rfl
                have k1 := k _ (fun _ _ e => e)
                rw [ec] at k1
                refine ⟨_, rfl, c, LET, rfl, rfl, _, rfl, ite2 (fun g4 => ?_) (fun g4 => ⟨_, rfl, c, DIG, rfl, rfl, ?_⟩)⟩
                · rw [show isSign c = true from by unfold isSign isLet; rw [g4]; rfl] at k1
                  exact k1
                · rw [show isSign c = decide (c ∈ DIG.cps.toList) from by unfold isSign isLet; rw [Bool.eq_false_iff.mpr g4]; rfl] at k1
                  exact k1
              · intro H1 s1 bD
                refine ⟨D, (List.range x.cps.size).map fun i => isSign (x.cps.toList.getD i 0), rfl, SqL.of (by rw [bD, List.map_map]; rfl), ?_⟩
                rw [all_range x.cps.toList isSign x.cps.size Array.length_toList]
                exact q2 H1 s1
            · rw [show isLet (x.cps.toList.getD 0 0) = false from Bool.eq_false_iff.mpr g3] at q2
              exact q2 H fun _ _ e => e
          · rw [decide_eq_false (show ¬ ((x.length : Nat) : Int) ≤ (8 : Int) by omega)]
            exact iteT (fin0 (by unfold nameS; rw [decide_eq_false g2, Bool.false_and, Bool.and_false]))
        · rw [decide_eq_false (show ¬ (1 : Int) ≤ (x.length : Int) by omega)]
          exact iteF ⟨_, rfl, iteT (fin0 (by unfold nameS; rw [decide_eq_false g1, Bool.false_and]))⟩
    | _ => exact iteT q0
end
end Ca
set_option Elab.async false
set_option linter.all false
set_option maxRecDepth 100000
set_option maxHeartbeats 4000000
namespace Ca
open PySem L2
def isUnknownD : PyData → Bool
  | .str x => nameS x && !decide (x = "bound")
  | _ => false
def isStretchD : PyData → Bool
  | .tuple [.int a, .int b] => decide (-10000 ≤ a) && (decide (a ≤ b) && decide (b ≤ 10000))
  | _ => false
def partsOf : PyData → List PyData
  | .tuple ps => ps
  | _ => []
def isRowD : PyData → Nat → Bool
  | .tuple [n, p, b], m => isNameD n && (isTupN p m && ((partsOf p ++ [b]).all isStretchD))
  | _, _ => false
section
variable {P : Program} {w : World} {K : PySem.W.Frag} {mg : Str → Option Value} {base : Heap}
theorem bind1 {x : Str} {st : Stmt} {f : Addr} {fd : FuncData} {p : Str} (F : FnT K x st f fd) (h : ∀ (kV doc pm : Value) (an : Option Addr) (cdv ct : Value) (u : Value), bindArgs (PySem.W.fnOf x x (defArgs st) (defBody st) (defScope st) .none kV doc pm an cdv ct) ⟨[u], []⟩ = pure [(p, u)]) : Binds K fd [p] [] :=
  F.bindsN fun kV doc pm an cdv ct us hl => match us, hl with | [u], _ => h kV doc pm an cdv ct u
theorem scIsUnknown : FnScope ["value"] ["value"] (defScope sIsUnknown) := ⟨rfl, rfl, rfl, by decide +kernel, rfl, by decide +kernel, by decide +kernel⟩
theorem ok_isUnknown {f fN : Addr} {fd fdN : FuncData} (F : FnT K "is_unknown" sIsUnknown f fd) (C : Cn mg) (gN : mg "is_name" = some (.ref fN)) (GN : FnOk P w K mg base CX0 1 fN fdN ["value"] (spIs K isNameD)) (kN : PySem.W.keepIn K (.ref fN) = true) (bN : Binds K fdN ["value"] []) :
    FnOk P w K mg base CX0 2 f fd ["value"] (spIs K isUnknownD) := by
  obtain ⟨t1, c1⟩ := C.bound
  refine F.ok scIsUnknown (fun vs H Q E h => ?_) (fun cdv A outer s H vs Q E hr h => ?_)
  · obtain ⟨v, d, rfl, _⟩ := h
    rfl
  · obtain ⟨v, d, rfl, hd, q⟩ := h
    refine ⟨_, PSs.nox (pss_one (ps_ret (pe_and (pe_call GN hr rfl gN kN bN .nil pass0 (pa_cons (pv 0) pa_nil)) (pe_one (pe_cmpR op_ne (pv 0) (pe_glob (v := .str "bound") rfl c1 ⟨_, rfl⟩) (nomark _)))))), ?_⟩
    refine ⟨_, rfl, v, d, rfl, hd, fun H1 s1 => ⟨_, rfl, ?_⟩⟩
    cases d with
    | str x =>
      cases hd with
      | str _ hx =>
        have q1 : Q (.bl (nameS x && !decide (x = "bound"))) H1 := q H1 s1
        refine ite2 (fun g => ?_) (fun g => ?_)
        · have g' : nameS x = true := g
          rw [g', Bool.true_and] at q1
          refine ⟨_, rfl, rfl, ?_⟩
          rw [show decide (V.str x = V.str "bound") = decide (x = "bound") from by
            by_cases z : x = "bound"
            · rw [decide_eq_true z, decide_eq_true (by rw [z])]
            · rw [decide_eq_false z, decide_eq_false (fun y => z (by injection y))]]
          exact q1
        · have g' : nameS x = false := Bool.eq_false_iff.mpr g
          rw [g', Bool.false_and] at q1
          exact q1
    | _ => exact iteF (q H1 s1)
theorem scIsStretch : FnScope ["value", "low", "high"] ["value"] (defScope sIsStretch) := ⟨rfl, rfl, rfl, by decide +kernel, rfl, by decide +kernel, by decide +kernel⟩
theorem ok_isStretch {f fT fI : Addr} {fd fdT fdI : FuncData} (F : FnT K "is_stretch" sIsStretch f fd) (C : Cn mg)
    (gT : mg "is_tuple_of" = some (.ref fT)) (GT : FnOk P w K mg base CX0 1 fT fdT ["value", "many"] (spIs2 K isTupN)) (kT : PySem.W.keepIn K (.ref fT) = true) (bT : Binds K fdT ["value", "many"] [])
    (gI : mg "is_integer" = some (.ref fI)) (GI : FnOk P w K mg base CX0 1 fI fdI ["value"] (spIs K isInt)) (kI : PySem.W.keepIn K (.ref fI) = true) (bI : Binds K fdI ["value"] []) :
    FnOk P w K mg base CX0 2 f fd ["value"] (spIs K isStretchD) := by
  obtain ⟨t1, c1⟩ := C.number
  refine F.ok scIsStretch (fun vs H Q E h => ?_) (fun cdv A outer s H vs Q E hr h => ?_)
  · obtain ⟨v, d, rfl, _⟩ := h
    rfl
  · obtain ⟨v, d, rfl, hd, q⟩ := h
    have nd := scIsStretch.nd
    refine ⟨_, PSs.nox (pss_cons (ps_if (pt_not (pt_val (pe_call GT hr rfl gT kT bT .nil pass0 (pa_cons (pv 0) (pa_cons pe_int pa_nil))))) (pss_one (ps_ret pe_bl)) pss_nil)
      (pss_cons (ps_asg (pv 0) (pg_tup rfl (pgs_cons (pg_name (i := 1) nd rfl (.inl rfl)) (pgs_cons (pg_name (i := 2) nd rfl (.inl rfl)) pgs_nil))))
      (pss_one (ps_ret (pe_and (pe_call GI hr rfl gI kI bI .nil pass0 (pa_cons (pv 1) pa_nil)) (pe_and (pe_call GI hr rfl gI kI bI .nil pass0 (pa_cons (pv 2) pa_nil))
        (pe_one (pe_chain3 op_le op_le op_le (pe_un un_neg (pe_glob (v := .int 10000) rfl c1 ⟨_, rfl⟩)) (pv 1) (pv 2) (pe_glob (v := .int 10000) rfl c1 ⟨_, rfl⟩))))))))), ?_⟩
    refine ⟨_, rfl, v, d, 2, rfl, by decide, hd, fun H1 s1 => ⟨_, rfl, ?_⟩⟩
    have bad : isTupN d 2 = false → isStretchD d = false := fun z => by
      cases d with
      | tuple ds =>
        match ds with
        | [] => simp [isStretchD]
        | [_] => simp [isStretchD]
        | [_, _] => cases z
        | _ :: _ :: _ :: _ => simp [isStretchD]
      | _ => rfl
    cases g : isTupN d 2 with
    | false =>
      have q1 := q H1 s1
      rw [bad g] at q1
      exact iteT q1
    | true =>
      cases d with
      | tuple ds =>
        have hl : ds.length = 2 := of_decide_eq_true g
        match ds, hl with
        | [d1, d2], _ =>
          have hd1 := hd.same s1
          cases hd1 with
          | @tup a xs _ h1 h2 =>
            cases h2 with
            | @cons v1 _ _ _ e1 r1 =>
              cases r1 with
              | @cons v2 _ _ _ e2 r2 =>
                cases r2
                refine iteF ⟨_, rfl, a, _, rfl, h1, rfl, _, _, rfl, _, _, rfl, rfl, ?_⟩
                refine ⟨_, rfl, v1, d1, rfl, e1, fun H2 s2 => ⟨_, rfl, ?_⟩⟩
                have q2 := fun H3 (s3 : Same H2 H3) => q H3 (s1.trans (s2.trans s3))
                cases d1 with
                | int i =>
                  refine iteT ⟨_, rfl, v2, d2, rfl, e2.same s2, fun H3 s3 => ⟨_, rfl, ?_⟩⟩
                  have q3 := q2 H3 s3
                  cases d2 with
                  | int j =>
                    cases e1
                    cases e2
                    refine iteT ⟨_, rfl, _, rfl, _, _, rfl, rfl, _, rfl, ?_⟩
                    have q4 : Q (.bl (decide (-10000 ≤ i) && (decide (i ≤ j) && decide (j ≤ 10000)))) H3 := q3
                    refine ite2 (fun g1 => ?_) (fun g1 => ?_)
                    · rw [g1, Bool.true_and] at q4
                      refine ⟨_, rfl, _, _, rfl, rfl, _, rfl, ite2 (fun g2 => ?_) (fun g2 => ?_)⟩
                      · rw [g2, Bool.true_and] at q4
                        exact ⟨_, _, rfl, rfl, q4⟩
                      · rw [Bool.eq_false_iff.mpr g2, Bool.false_and] at q4
                        exact q4
                    · rw [Bool.eq_false_iff.mpr g1, Bool.false_and] at q4
                      exact q4
                  | _ => exact iteF q3
                | _ => exact iteF (q2 H2 fun _ _ e => e)
      | _ => cases g
theorem all_getD (ds : List PyData) (g : PyData → Bool) (n : Nat) (h : ds.length = n) : ((List.range n).map fun i => g (ds.getD i .none)).all id = ds.all g := by
  have e : ((List.range n).map fun i => g (ds.getD i .none)) = ds.map g := by
    refine List.ext_getElem (by simp [h]) fun i h1 h2 => ?_
    have hi : i < ds.length := by simpa using h2
    simp [List.getElem?_eq_getElem hi]
  rw [e, List.all_map]
  rfl
theorem row_bad {d : PyData} {m : Nat} (z : isTupN d 3 = false) : isRowD d m = false := by
  cases d with
  | tuple ds =>
    match ds with
    | [] => simp [isRowD]
    | [_] => simp [isRowD]
    | [_, _] => simp [isRowD]
    | [_, _, _] => cases z
    | _ :: _ :: _ :: _ :: _ => simp [isRowD]
  | _ => simp [isRowD]
abbrev NRow : List Str := ["value", "many", "name", "stretches", "bound", "stretch"]
theorem scIsRow : FnScope NRow ["value", "many"] (defScope sIsRow) := ⟨rfl, rfl, rfl, by decide +kernel, rfl, by decide +kernel, by decide +kernel⟩
theorem ok_isRow {f fT fN fS : Addr} {fd fdT fdN fdS : FuncData} (F : FnT K "is_row" sIsRow f fd) (B : Bn mg)
    (gT : mg "is_tuple_of" = some (.ref fT)) (GT : FnOk P w K mg base CX0 1 fT fdT ["value", "many"] (spIs2 K isTupN)) (kT : PySem.W.keepIn K (.ref fT) = true) (bT : Binds K fdT ["value", "many"] [])
    (gN : mg "is_name" = some (.ref fN)) (GN : FnOk P w K mg base CX0 1 fN fdN ["value"] (spIs K isNameD)) (kN : PySem.W.keepIn K (.ref fN) = true) (bN : Binds K fdN ["value"] [])
    (gS : mg "is_stretch" = some (.ref fS)) (GS : FnOk P w K mg base CX0 2 fS fdS ["value"] (spIs K isStretchD)) (kS : PySem.W.keepIn K (.ref fS) = true) (bS : Binds K fdS ["value"] []) :
    FnOk P w K mg base CX0 3 f fd ["value", "many"] (spIs2 K isRowD) := by
  refine F.ok scIsRow (fun vs H Q E h => ?_) (fun cdv A outer s H vs Q E hr h => ?_)
  · obtain ⟨v, d, m, rfl, _⟩ := h
    rfl
  · obtain ⟨v, d, m, rfl, hm, hd, q⟩ := h
    have nd := scIsRow.nd
    have hr1 : Room 1 _ := hr.mono (by decide)
    refine ⟨_, PSs.nox (pss_cons (ps_if (pt_not (pt_val (pe_call GT hr1 rfl gT kT bT .nil pass0 (pa_cons (pv 0) (pa_cons pe_int pa_nil))))) (pss_one (ps_ret pe_bl)) pss_nil)
      (pss_cons (ps_asg (pv 0) (pg_tup rfl (pgs_cons (pg_name (i := 2) nd rfl (.inl rfl)) (pgs_cons (pg_name (i := 3) nd rfl (.inl rfl)) (pgs_cons (pg_name (i := 4) nd rfl (.inl rfl)) pgs_nil)))))
      (pss_cons (ps_if (PW.pt (pw_or (pt_not (pt_val (pe_call GN hr1 rfl gN kN bN .nil pass0 (pa_cons (pv 2) pa_nil)))) (pw_or1 (pt_not (pt_val (pe_call GT hr1 rfl gT kT bT .nil pass0 (pa_cons (pv 3) (pa_cons (pv 1) pa_nil)))))))) (pss_one (ps_ret pe_bl)) pss_nil)
      (pss_one (ps_ret (pe_callB (cr_all rfl) (by rfl) B.all PyProof.Rows.boot_all (pa_cons (pe_lc (own := [("stretch", 5)]) (g := gName 5) (tt := tYes) rfl nd (pi_tup (pe_tup (StX.pa_star (pv 3) (pa_cons (pv 4) pa_nil))))
          (blkOk_by (own := [("stretch", 5)]) (N := NRow) (sc := defScope sIsRow) (by decide +kernel)) (fun _ _ _ _ _ => pg_name (i := 5) nd rfl (Or.inl rfl)) (fun _ _ _ _ _ => pts_nil)
          (fun _ _ _ _ _ => pe_call GS hr rfl gS kS bS .nil pass0 (pa_cons (pv 5) pa_nil))) pa_nil))))))), ?_⟩
    refine ⟨_, rfl, v, d, 3, rfl, by decide, hd, fun H1 s1 => ⟨_, rfl, ?_⟩⟩
    cases g : isTupN d 3 with
    | false =>
      have q1 := q H1 s1
      rw [row_bad g] at q1
      exact iteT q1
    | true =>
      cases d with
      | tuple ds =>
        have hl : ds.length = 3 := of_decide_eq_true g
        match ds, hl with
        | [d1, d2, d3], _ =>
          have hd1 := hd.same s1
          cases hd1 with
          | @tup a xs _ h1 h2 =>
            cases h2 with
            | @cons v1 _ _ _ e1 r1 =>
              cases r1 with
              | @cons v2 _ _ _ e2 r2 =>
                cases r2 with
                | @cons v3 _ _ _ e3 r3 =>
                  cases r3
                  refine iteF ⟨_, rfl, a, _, rfl, h1, rfl, _, _, rfl, _, _, rfl, _, _, rfl, rfl, ?_⟩
                  refine ⟨_, rfl, v1, d1, rfl, e1, fun H2 s2 => ⟨_, rfl, ?_⟩⟩
                  have q2 : ∀ H', Same H2 H' → Q (.bl (isNameD d1 && (isTupN d2 m && ((partsOf d2 ++ [d3]).all isStretchD)))) H' := fun H' s' => q H' (s1.trans (s2.trans s'))
                  cases g2 : isNameD d1 with
                  | false =>
                    rw [g2] at q2
                    exact iteT (q2 H2 fun _ _ e => e)
                  | true =>
                    rw [g2] at q2
                    refine iteF ⟨_, rfl, _, rfl, v2, d2, m, rfl, hm, e2.same s2, fun H3 s3 => ⟨_, rfl, ?_⟩⟩
                    cases g3 : isTupN d2 m with
                    | false =>
                      rw [g3] at q2
                      exact iteT (q2 H3 s3)
                    | true =>
                      rw [g3] at q2
                      cases d2 with
                      | tuple ps =>
                        have hps : ps.length = m := of_decide_eq_true g3
                        have e2' := e2.same (s2.trans s3)
                        cases e2' with
                        | @tup a2 xs2 _ h3 h4 =>
                          have hx2 : xs2.length = m := by rw [h4.len, hps]
                          have hall : DqAll K H3 (xs2 ++ [v3]) (ps ++ [d3]) := h4.app (.cons (e3.same (s2.trans s3)) .nil)
                          refine iteF ⟨_, rfl, a2, xs2, rfl, .inl h3, _, rfl, by rw [List.length_append, hx2]; exact Nat.le_trans (Nat.succ_le_succ hm) (by decide), fun p hp => ⟨p, rfl, ⟨_, SqT.of upd_same⟩, fun D hD => ?_⟩⟩
                          have s4 : Same H3 (upd H3 p (.tup (xs2 ++ [v3]))) := Same.new hp
                          refine lc_known (walk_tup (K := K) (a := p) (xs := xs2 ++ [v3])) (fun i => .bl (isStretchD ((ps ++ [d3]).getD i .none))) (by rw [List.length_append, hx2]; show m + 1 ≤ 100000; omega) hD (fun H' s' => same_sqt s' (SqT.of upd_same)) (fun _ _ _ _ y => by obtain ⟨rfl, _⟩ := y; exact fun _ _ e => e) (fun _ => rfl) ?_ ?_
                          · rintro i x H5 H6 Qk hi s5 ⟨rfl, hx⟩ k
                            obtain ⟨d, hdi, hdq⟩ := (hall.same (s4.trans s5)).get hx
                            have ed : (ps ++ [d3]).getD i .none = d := by
                              rw [List.getD_eq_getElem?_getD, hdi]
                              rfl
                            refine ⟨_, rfl, x, d, rfl, hdq, fun H7 s7 => ?_⟩
                            have k1 := k H7 s7
                            rw [ed] at k1
                            exact k1
                          · intro H5 s5 bD
                            refine ⟨D, (List.range (xs2 ++ [v3]).length).map fun i => isStretchD ((ps ++ [d3]).getD i .none), rfl, SqL.of (by rw [bD, List.map_map]; rfl), ?_⟩
                            rw [all_getD (ps ++ [d3]) isStretchD _ (by rw [List.length_append, List.length_append, hx2, hps]; rfl)]
                            exact q2 H5 (s3.trans (s4.trans s5))
                      | _ => cases g3
      | _ => cases g
end
end Ca
set_option Elab.async false
set_option linter.all false
set_option maxRecDepth 100000
set_option maxHeartbeats 4000000
namespace Ca
open PySem L2
structure Folk (ns : List Str) : Prop where
  lo : 1 ≤ ns.length
  hi : ns.length ≤ 3
  ok : ∀ x ∈ ns, isUnknownD (.str x) = true
  nd : ns.Nodup
def folkD (ns : List Str) : PyData := .tuple (ns.map .str)
theorem strs_of {K : PySem.W.Frag} {H : Hp} : ∀ {ns : List Str} {xs : List V}, DqAll K H xs (ns.map .str) → xs = ns.map V.str ∧ ∀ x ∈ ns, x.length ≤ 5000
  | [], _, .nil => ⟨rfl, fun _ z => nomatch z⟩
  | n :: ns, _, .cons (.str _ h) t => by
    obtain ⟨e, q⟩ := strs_of (ns := ns) t
    refine ⟨by rw [e]; rfl, fun x z => ?_⟩
    rcases List.mem_cons.mp z with rfl | z
    · exact h
    · exact q x z
theorem flat_strs : ∀ ns : List Str, (ns.map V.str).all flatV = true
  | [] => rfl
  | n :: ns => flat_strs ns
theorem inV_strs (x : Str) : ∀ ns : List Str, inV (.str x) (ns.map V.str) = decide (x ∈ ns)
  | [] => rfl
  | n :: ns => by
    show (eqV (.str n) (.str x) || inV (.str x) (ns.map V.str)) = _
    rw [inV_strs x ns]
    by_cases h : n = x
    · subst h
      have e : eqV (.str n) (.str n) = true := by show decide (n = n) = true; exact decide_eq_true rfl
      rw [e, decide_eq_true (List.mem_cons_self ..)]
      rfl
    · have e : eqV (.str n) (.str x) = false := by show decide (n = x) = false; exact decide_eq_false h
      rw [e, Bool.false_or]
      by_cases g : x ∈ ns
      · rw [decide_eq_true g, decide_eq_true (List.mem_cons_of_mem _ g)]
      · rw [decide_eq_false g, decide_eq_false fun z => (List.mem_cons.mp z).elim (fun y => h y.symm) g]
def spCheckU (K : PySem.W.Frag) : Sp := fun vs H Q _ => ∃ v ns, vs = [v] ∧ Dq K H v (folkD ns) ∧ Folk ns ∧ ∀ H', Same H H' → Q .non H'
section
variable {P : Program} {w : World} {K : PySem.W.Frag} {mg : Str → Option Value} {base : Heap}
theorem scCheckU : FnScope ["unknowns", "index", "name"] ["unknowns"] (defScope sCheckUnknowns) := ⟨rfl, rfl, rfl, by decide +kernel, rfl, by decide +kernel, by decide +kernel⟩
theorem ok_checkU {f fU : Addr} {fd fdU : FuncData} (F : FnT K "check_unknowns" sCheckUnknowns f fd) (B : Bn mg) (C : Cn mg)
    (gU : mg "is_unknown" = some (.ref fU)) (GU : FnOk P w K mg base CX0 2 fU fdU ["value"] (spIs K isUnknownD)) (kU : PySem.W.keepIn K (.ref fU) = true) (bU : Binds K fdU ["value"] []) :
    FnOk P w K mg base CX0 3 f fd ["unknowns"] (spCheckU K) := by
  obtain ⟨t1, c1⟩ := C.unknowns
  refine F.ok scCheckU (fun vs H Q E h => ?_) (fun cdv A outer s H vs Q E hr h => ?_)
  · obtain ⟨v, d, rfl, _⟩ := h
    rfl
  · obtain ⟨v, ns, rfl, hd, N, q⟩ := h
    have nd := scCheckU.nd
    refine ⟨_, PSs.nox (pss_cons (ps_if (PW.pt (pw_or (pt_not (pt_val (pe_callB call_isi (by rfl) B.isi PyProof.Rows.boot_isinstance (pa_cons (pv 0) (pa_cons (pe_bltn (v := .ty "tuple") (by rfl) B.tup (by decide +kernel) rfl) pa_nil)))))
        (pw_or1 (pt_cmpR op_eq (pe_callB call_len (by rfl) B.len boot_len (pa_cons (pv 0) pa_nil)) pe_int (nomark _))))) (pss_one ps_never) pss_nil)
      (pss_one (ps_for PassesOwn.never rfl (pi_enumT (by rfl) B.enum (pa_cons (pv 0) pa_nil)) (pg_tup rfl (pgs_cons (pg_name (i := 1) nd rfl (.inl rfl)) (pgs_cons (pg_name (i := 2) nd rfl (.inl rfl)) pgs_nil)))
        (pss_one (ps_if (PW.pt (pw_or (pt_cmpR op_eq (pv 1) (pe_glob (v := .int 3) rfl c1 ⟨_, rfl⟩) (nomark _)) (pw_or (pt_not (pt_val (pe_call GU hr rfl gU kU bU .nil pass0 (pa_cons (pv 2) pa_nil))))
          (pw_or1 (pt_cmpR op_in_seq (pv 2) (pe_slice sl_tupA (pv 0) po_none (po_some (pv 1))) (by rfl)))))) (pss_one ps_never) pss_nil))))), ?_⟩
    have hd0 := hd
    cases hd with
    | @tup a xs _ h1 h2 =>
      obtain ⟨rfl, hlen⟩ := strs_of h2
      have hl : (ns.map V.str).length = ns.length := List.length_map ..
      refine rd_isd hd0 rfl (kit_tup _) ⟨_, rfl, iteF ⟨_, rfl, _, _, rfl, .inr ⟨_, h1, rfl⟩, rfl, _, rfl, ?_⟩⟩
      rw [decide_eq_false (fun z => by injection z with z; rw [hl] at z; have := N.lo; omega)]
      refine iteF ⟨_, rfl, a, _, rfl, h1, ?_⟩
      refine for_it walk_enumT (fun i σ' H' => i ≤ ns.length ∧ (∃ o1 o2, σ' = [some (.ref a), o1, o2]) ∧ Same H H') ⟨Nat.zero_le _, ⟨_, _, rfl⟩, fun _ _ e => e⟩ (fun i σ' H' hi p => same_sqt p.2.2 h1) ?_ (fun σ' H' p => q H' p.2.2)
      rintro i _ _ H1 _ hi ⟨_, ⟨o1, o2, rfl⟩, s1⟩ ⟨T, x, rfl, hT, rfl, hx⟩
      refine ⟨T, _, rfl, SqT.of upd_same, rfl, _, _, rfl, _, _, rfl, rfl, ?_⟩
      have hil : i < ns.length := by rw [← hl]; exact hi
      obtain ⟨z, hz, rfl⟩ : ∃ z, ns[i]? = some z ∧ x = .str z := by
        rw [List.getElem?_map] at hx
        cases e : ns[i]? with
        | none => rw [e] at hx; cases hx
        | some z => rw [e] at hx; exact ⟨z, rfl, (Option.some.inj hx).symm⟩
      have hzm : z ∈ ns := List.mem_of_getElem? hz
      have s2 : Same H1 (upd H1 T (.tup [.int (i : Nat), .str z])) := Same.new hT
      refine ⟨_, rfl, rfl, _, rfl, ?_⟩
      rw [decide_eq_false (fun y => by injection y with y; have := N.hi; omega)]
      refine iteF ⟨_, rfl, _, _, rfl, .str z (hlen z hzm), fun H3 s3 => ⟨_, rfl, ?_⟩⟩
      rw [N.ok z hzm]
      have h3 : SqT K H3 a (ns.map V.str) := same_sqt (s1.trans (s2.trans s3)) h1
      refine iteF ⟨_, rfl, _, rfl, _, rfl, i, rfl, a, _, rfl, h3, fun y => ?_, fun _ p hp => ⟨p, _, rfl, .inr (SqT.of upd_same), rfl, ?_, _, rfl, ?_⟩⟩
      · have := y.2
        rw [HT.sIx_nat, hl] at this
        omega
      · unfold cutV
        rw [List.all_eq_true]
        intro b hb
        exact List.all_eq_true.mp (flat_strs ns) b (List.mem_of_mem_drop (List.mem_of_mem_take hb))
      · have ec : cutV (ns.map V.str) none (some (i : Int)) = (ns.take i).map V.str := by
          unfold cutV
          rw [HT.sIx_none, HT.sIx_nat, hl, List.drop_zero, Nat.sub_zero, Nat.min_eq_left (Nat.le_of_lt hil), List.map_take]
        rw [ec]
        rw [inV_strs, decide_eq_false (fun y => by
          obtain ⟨j, hj, ej⟩ := List.mem_iff_getElem.mp y
          rw [List.getElem_take] at ej
          have hj2 : j < i := by
            have := hj
            rw [List.length_take] at this
            omega
          have ei : ns[i] = z := by
            have := List.getElem?_eq_getElem hil
            rw [hz] at this
            exact (Option.some.inj this).symm
          exact List.pairwise_iff_getElem.mp N.nd j i (by omega) hil hj2 (ej.trans ei.symm))]
        exact iteF ⟨hil, ⟨_, _, rfl⟩, s1.trans (s2.trans (s3.trans (Same.new hp)))⟩
end
/-! ### rows -/
structure Rw where
  name : Str
  parts : List (Int × Int)
  bd : Int × Int
deriving DecidableEq
def strD (p : Int × Int) : PyData := .tuple [.int p.1, .int p.2]
def rowD (r : Rw) : PyData := .tuple [.str r.name, .tuple (r.parts.map strD), strD r.bd]
def rowsD (rs : List Rw) : PyData := .tuple (rs.map rowD)
structure Lines (rs : List Rw) (m : Nat) : Prop where
  hi : rs.length ≤ 6
  ok : ∀ r ∈ rs, isRowD (rowD r) m = true
  nd : (rs.map Rw.name).Nodup
def spCheckR (K : PySem.W.Frag) : Sp := fun vs H Q _ => ∃ v rs m, vs = [v, .int (m : Nat)] ∧ m ≤ 5000 ∧ Dq K H v (rowsD rs) ∧ Lines rs m ∧ ∀ H', Same H H' → Q .non H'
/-- a row as it stands -/
theorem row_at {K : PySem.W.Frag} {H : Hp} {v : V} {r : Rw} (h : Dq K H v (rowD r)) : ∃ a v2 v3, v = .ref a ∧ SqT K H a [.str r.name, v2, v3] ∧ Dq K H v2 (.tuple (r.parts.map strD)) ∧ Dq K H v3 (strD r.bd) ∧ r.name.length ≤ 5000 := by
  cases h with
  | @tup a xs _ h1 h2 =>
    cases h2 with
    | cons e1 r1 =>
      cases r1 with
      | cons e2 r2 =>
        cases r2 with
        | cons e3 r3 =>
          cases r3
          cases e1 with
          | str _ hx => exact ⟨a, _, _, rfl, h1, e2, e3, hx⟩
section
variable {P : Program} {w : World} {K : PySem.W.Frag} {mg : Str → Option Value} {base : Heap}
theorem scCheckR : FnScope ["rows", "many", "names", "index", "row"] ["rows", "many"] (defScope sCheckRows) := ⟨rfl, rfl, rfl, by decide +kernel, rfl, by decide +kernel, by decide +kernel⟩
theorem ok_checkR {f fR : Addr} {fd fdR : FuncData} (F : FnT K "check_rows" sCheckRows f fd) (B : Bn mg) (C : Cn mg)
    (gR : mg "is_row" = some (.ref fR)) (GR : FnOk P w K mg base CX0 3 fR fdR ["value", "many"] (spIs2 K isRowD)) (kR : PySem.W.keepIn K (.ref fR) = true) (bR : Binds K fdR ["value", "many"] []) :
    FnOk P w K mg base CX0 4 f fd ["rows", "many"] (spCheckR K) := by
  obtain ⟨t1, c1⟩ := C.rows
  refine F.ok scCheckR (fun vs H Q E h => ?_) (fun cdv A outer s H vs Q E hr h => ?_)
  · obtain ⟨v, rs, m, rfl, _⟩ := h
    rfl
  · obtain ⟨v, rs, m, rfl, hm, hd, N, q⟩ := h
    have nd := scCheckR.nd
    refine ⟨_, PSs.nox (pss_cons (ps_if (pt_not (pt_val (pe_callB call_isi (by rfl) B.isi PyProof.Rows.boot_isinstance (pa_cons (pv 0) (pa_cons (pe_bltn (v := .ty "tuple") (by rfl) B.tup (by decide +kernel) rfl) pa_nil))))) (pss_one ps_never) pss_nil)
      (pss_cons (ps_set (i := 2) nd rfl (.inl rfl) (pe_lst pa_nil))
      (pss_one (ps_for PassesOwn.never rfl (pi_enumT (by rfl) B.enum (pa_cons (pv 0) pa_nil)) (pg_tup rfl (pgs_cons (pg_name (i := 3) nd rfl (.inl rfl)) (pgs_cons (pg_name (i := 4) nd rfl (.inl rfl)) pgs_nil)))
        (pss_cons (ps_if (PW.pt (pw_or (pt_cmpR op_eq (pv 3) (pe_glob (v := .int 6) rfl c1 ⟨_, rfl⟩) (nomark _)) (pw_or (pt_not (pt_val (pe_call GR hr rfl gR kR bR .nil pass0 (pa_cons (pv 4) (pa_cons (pv 1) pa_nil)))))
          (pw_or1 (pt_cmpR op_in_seq (pe_ix ix_tup (pv 4) pe_int (fun _ _ => rfl)) (pv 2) (by rfl)))))) (pss_one ps_never) pss_nil)
        (pss_one (ps_expr (pe_bm PySem.F.plainAttrs_list PySem.F.slot_list_append PySem.F.type_list_append mt_append (pv 2) (pa_cons (pe_ix ix_tup (pv 4) pe_int (fun _ _ => rfl)) pa_nil))))))))), ?_⟩
    have hd0 := hd
    cases hd with
    | @tup a xs _ h1 h2 =>
      have hl : xs.length = rs.length := by rw [h2.len, List.length_map]
      refine rd_isd hd0 rfl (kit_tup _) ⟨_, rfl, iteF ⟨by show 0 ≤ sizeLine; decide, fun nl hnl => ?_⟩⟩
      have s0 : Same H (upd H nl (.lst [])) := Same.new hnl
      refine ⟨_, rfl, a, _, rfl, same_sqt s0 h1, ?_⟩
      refine for_it walk_enumT (fun i σ' H' => i ≤ rs.length ∧ (∃ o1 o2, σ' = [some (.ref a), some (.int m), some (.ref nl), o1, o2]) ∧ Same H H' ∧ H' nl = some (.lst (((rs.take i).map Rw.name).map V.str))) ⟨Nat.zero_le _, ⟨_, _, rfl⟩, s0, upd_same⟩ (fun i σ' H' hi p => same_sqt p.2.2.1 h1) ?_ (fun σ' H' p => q H' p.2.2.1)
      rintro i x _ H1 _ hi ⟨_, ⟨o1, o2, rfl⟩, s1, hn1⟩ ⟨T, x, rfl, hT, rfl, hx⟩
      refine ⟨T, _, rfl, SqT.of upd_same, rfl, _, _, rfl, _, _, rfl, rfl, ?_⟩
      have hil : i < rs.length := by rw [← hl]; exact hi
      have s2 : Same H1 (upd H1 T (.tup [.int (i : Nat), x])) := Same.new hT
      obtain ⟨d, hdi, hdq⟩ := (h2.same (s1.trans s2)).get hx
      obtain ⟨r, hr2, rfl⟩ : ∃ r, rs[i]? = some r ∧ d = rowD r := by
        rw [List.getElem?_map, List.getElem?_eq_getElem hil] at hdi
        exact ⟨_, List.getElem?_eq_getElem hil, (Option.some.inj hdi).symm⟩
      have hrm : r ∈ rs := List.mem_of_getElem? hr2
      refine ⟨_, rfl, rfl, _, rfl, ?_⟩
      rw [decide_eq_false (fun y => by injection y with y; have := N.hi; omega)]
      refine iteF ⟨_, rfl, _, rfl, x, _, m, rfl, hm, hdq, fun H3 s3 => ⟨_, rfl, ?_⟩⟩
      rw [N.ok r hrm]
      obtain ⟨b, v2, v3, rfl, hb, _, _, _⟩ := row_at (hdq.same s3)
      have hn3 := s3 _ _ (s2 _ _ hn1)
      refine iteF ⟨_, rfl, b, _, 0, _, rfl, rfl, hb, atI_nat (j := 0) rfl, _, rfl, nl, _, rfl, .inl (SqL.of hn3), rfl, ?_, _, rfl, ?_⟩
      · exact flat_strs _
      · have ein : inV (.str r.name) (((rs.take i).map Rw.name).map V.str) = false := by
          rw [inV_strs]
          refine decide_eq_false fun y => ?_
          obtain ⟨j, hj, ej⟩ := List.mem_iff_getElem.mp y
          rw [List.getElem_map, List.getElem_take] at ej
          have hj2 : j < i := by
            have := hj
            rw [List.length_map, List.length_take] at this
            omega
          have ei : rs[i] = r := by
            have := List.getElem?_eq_getElem hil
            rw [hr2] at this
            exact (Option.some.inj this).symm
          have := List.pairwise_iff_getElem.mp N.nd j i (by rw [List.length_map]; omega) (by rw [List.length_map]; exact hil) hj2
          rw [List.getElem_map, List.getElem_map, ei] at this
          exact this ej
        show (fun b_1 H1 => if b_1 = true then _ else _) (inV (.str r.name) (((rs.take i).map Rw.name).map V.str)) H3
        rw [ein]
        refine iteF ⟨_, rfl, .inl ⟨rfl, _, SqL.of hn3⟩, _, rfl, b, _, 0, _, rfl, rfl, hb, atI_nat (j := 0) rfl, nl, _, _, rfl, rfl, hn3, ?_, hil, ⟨_, _, rfl⟩, fun c o e => ?_, ?_⟩
        · rw [List.length_map, List.length_map, List.length_take]
          have := N.hi
          exact Nat.lt_of_le_of_lt (Nat.le_trans (Nat.min_le_right ..) this) (by decide)
        · rw [upd_ne (ne_of_none e hnl)]
          exact s3 _ _ (s2 _ _ (s1 _ _ e))
        · rw [upd_same]
          have et : rs.take (i + 1) = rs.take i ++ [r] := by
            rw [List.take_succ, hr2]
            rfl
          rw [et, List.map_append, List.map_append]
          rfl
end
end Ca
set_option Elab.async false
set_option linter.all false
set_option maxRecDepth 100000
set_option maxHeartbeats 4000000
namespace Ca
open PySem L2
/-! ### systems -/
abbrev FnM (K : PySem.W.Frag) (x q : Str) (st : Stmt) (dvs : List V) (f : Addr) (fd : FuncData) : Prop := FunD K x q (defArgs st) (defBody st) (defScope st) dvs [] f fd
structure SysC (K : PySem.W.Frag) (C : Addr) : Prop where
  cl : Cls K C
  nu : NoAttr K C "_unknowns"
  nr : NoAttr K C "_rows"
def sysF (u r : V) : List (Str × V) := [("_unknowns", u), ("_rows", r)]
/-- a system stands at x -/
def SysAt (K : PySem.W.Frag) (C : Addr) (H : Hp) (x : Addr) (ns : List Str) (rs : List Rw) : Prop :=
  Folk ns ∧ Lines rs ns.length ∧ ∃ dx u r, H x = some (.ins C dx (sysF u r)) ∧ Dq K H u (folkD ns) ∧ Dq K H r (rowsD rs)
theorem SysAt.same {K : PySem.W.Frag} {C : Addr} {H H' : Hp} {x : Addr} {ns : List Str} {rs : List Rw} (h : SysAt K C H x ns rs) (s : Same H H') : SysAt K C H' x ns rs := by
  obtain ⟨h1, h2, dx, u, r, e, du, dr⟩ := h
  exact ⟨h1, h2, dx, u, r, s _ _ e, du.same s, dr.same s⟩
def spInit (K : PySem.W.Frag) (C : Addr) : Sp := fun vs H Q _ => ∃ x dx u r ns rs, vs = [.ref x, u, r] ∧ H x = some (.ins C dx []) ∧ Dq K H u (folkD ns) ∧ Folk ns ∧ Dq K H r (rowsD rs) ∧ Lines rs ns.length ∧
  ∀ H', Kept x H H' → H' x = some (.ins C dx (sysF u r)) → Q .non H'
def spUnknowns (C : Addr) : Sp := fun vs H Q _ => ∃ x dx u r, vs = [.ref x] ∧ H x = some (.ins C dx (sysF u r)) ∧ Q u H
def spRows (C : Addr) : Sp := fun vs H Q _ => ∃ x dx u r, vs = [.ref x] ∧ H x = some (.ins C dx (sysF u r)) ∧ Q r H
def spLen (K : PySem.W.Frag) (C : Addr) : Sp := fun vs H Q _ => ∃ x ns rs, vs = [.ref x] ∧ SysAt K C H x ns rs ∧ Q (.int rs.length) H
def spYes : Sp := fun vs H Q _ => ∃ x, vs = [x] ∧ Q (.bl true) H
theorem tup_len {K : PySem.W.Frag} {H : Hp} {v : V} {ds : List PyData} (h : Dq K H v (.tuple ds)) : ∃ a xs, v = .ref a ∧ SqT K H a xs ∧ DqAll K H xs ds ∧ xs.length = ds.length := by
  cases h with
  | @tup a xs _ h1 h2 => exact ⟨a, xs, rfl, h1, h2, h2.len⟩
section
variable {P : Program} {w : World} {K : PySem.W.Frag} {mg : Str → Option Value} {base : Heap} {C : Addr}
theorem scInit : FnScope ["self", "unknowns", "rows"] ["self", "unknowns", "rows"] (defScope mSystemInit) := ⟨rfl, rfl, rfl, by decide +kernel, rfl, by decide +kernel, by decide +kernel⟩
theorem ok_init {f fU fR : Addr} {fd fdU fdR : FuncData} {dvs : List V} (F : FnM K "__init__" "System.__init__" mSystemInit dvs f fd) (B : Bn mg) (S : SysC K C)
    (gU : mg "check_unknowns" = some (.ref fU)) (GU : FnOk P w K mg base CX0 3 fU fdU ["unknowns"] (spCheckU K)) (kU : PySem.W.keepIn K (.ref fU) = true) (bU : Binds K fdU ["unknowns"] [])
    (gR : mg "check_rows" = some (.ref fR)) (GR : FnOk P w K mg base CX0 4 fR fdR ["rows", "many"] (spCheckR K)) (kR : PySem.W.keepIn K (.ref fR) = true) (bR : Binds K fdR ["rows", "many"] []) :
    FnOk P w K mg base CX0 5 f fd ["self", "unknowns", "rows"] (spInit K C) := by
  refine F.ok scInit (fun vs H Q E h => ?_) (fun cdv A outer s H vs Q E hr h => ?_)
  · obtain ⟨x, dx, u, r, ns, rs, rfl, _⟩ := h
    rfl
  · obtain ⟨x, dx, u, r, ns, rs, rfl, hx, du, hN, dr, hL, q⟩ := h
    have hr3 : Room 3 _ := hr.mono (by decide)
    refine ⟨_, PSs.nox (pss_cons (ps_expr (pe_call GU hr3 rfl gU kU bU .nil pass0 (pa_cons (pv 1) pa_nil)))
      (pss_cons (ps_expr (pe_call GR hr rfl gR kR bR .nil pass0 (pa_cons (pv 2) (pa_cons (pe_callB call_len (by rfl) B.len boot_len (pa_cons (pv 1) pa_nil)) pa_nil))))
      (pss_cons (ps_fld (pv 0) (pv 1) rfl) (pss_one (ps_fld (pv 0) (pv 2) rfl))))), ?_⟩
    refine ⟨_, rfl, u, ns, rfl, du, hN, fun H1 s1 => ?_⟩
    obtain ⟨a, xs, rfl, h1, h2, hl⟩ := tup_len (du.same s1)
    have hl2 : xs.length = ns.length := by rw [hl, List.length_map]
    refine ⟨_, rfl, _, rfl, _, ns.length, rfl, .inr ⟨_, h1, hl2.symm⟩, r, rs, ns.length, rfl, by have := hN.hi; omega, dr.same s1, hL, fun H2 s2 => ?_⟩
    have hx2 := s2 _ _ (s1 _ _ hx)
    refine ⟨_, rfl, _, rfl, x, C, dx, _, rfl, hx2, S.cl, S.nu, by show 0 < 1000; decide, _, rfl, _, rfl, x, C, dx, _, rfl, upd_same, S.cl, S.nr, by show 1 < 1000; decide, ?_⟩
    refine q _ (fun b o n e => ?_) upd_same
    rw [upd_ne n, upd_ne n]
    exact s2 _ _ (s1 _ _ e)
theorem scUnknowns : FnScope ["self"] ["self"] (defScope mSystemUnknowns) := ⟨rfl, rfl, rfl, by decide +kernel, rfl, by decide +kernel, by decide +kernel⟩
theorem ok_unknowns {f : Addr} {fd : FuncData} (F : FnM K "unknowns" "System.unknowns" mSystemUnknowns [] f fd) (S : SysC K C) : FnOk P w K mg base CX0 1 f fd ["self"] (spUnknowns C) := by
  refine F.ok scUnknowns (fun vs H Q E h => ?_) (fun cdv A outer s H vs Q E hr h => ?_)
  · obtain ⟨x, dx, u, r, rfl, _⟩ := h
    rfl
  · obtain ⟨x, dx, u, r, rfl, hx, q⟩ := h
    exact ⟨_, PSs.nox (pss_one (ps_ret (pe_fld (pv 0) rfl))), _, rfl, x, C, dx, _, u, rfl, hx, S.cl, S.nu, rfl, q⟩
theorem scRows : FnScope ["self"] ["self"] (defScope mSystemRows) := ⟨rfl, rfl, rfl, by decide +kernel, rfl, by decide +kernel, by decide +kernel⟩
theorem ok_rows {f : Addr} {fd : FuncData} (F : FnM K "rows" "System.rows" mSystemRows [] f fd) (S : SysC K C) : FnOk P w K mg base CX0 1 f fd ["self"] (spRows C) := by
  refine F.ok scRows (fun vs H Q E h => ?_) (fun cdv A outer s H vs Q E hr h => ?_)
  · obtain ⟨x, dx, u, r, rfl, _⟩ := h
    rfl
  · obtain ⟨x, dx, u, r, rfl, hx, q⟩ := h
    exact ⟨_, PSs.nox (pss_one (ps_ret (pe_fld (pv 0) rfl))), _, rfl, x, C, dx, _, r, rfl, hx, S.cl, S.nr, rfl, q⟩
theorem scLen : FnScope ["self"] ["self"] (defScope mSystemLen) := ⟨rfl, rfl, rfl, by decide +kernel, rfl, by decide +kernel, by decide +kernel⟩
theorem ok_len {f : Addr} {fd : FuncData} (F : FnM K "__len__" "System.__len__" mSystemLen [] f fd) (B : Bn mg) (S : SysC K C) : FnOk P w K mg base CX0 1 f fd ["self"] (spLen K C) := by
  refine F.ok scLen (fun vs H Q E h => ?_) (fun cdv A outer s H vs Q E hr h => ?_)
  · obtain ⟨x, ns, rs, rfl, _⟩ := h
    rfl
  · obtain ⟨x, ns, rs, rfl, ⟨_, _, dx, u, r, hx, du, dr⟩, q⟩ := h
    obtain ⟨a, xs, rfl, h1, h2, hl⟩ := tup_len dr
    refine ⟨_, PSs.nox (pss_one (ps_ret (pe_callB call_len (by rfl) B.len boot_len (pa_cons (pe_fld (pv 0) rfl) pa_nil)))), _, rfl, x, C, dx, _, _, rfl, hx, S.cl, S.nr, rfl, _, rs.length, rfl, .inr ⟨_, h1, ?_⟩, q⟩
    rw [hl, List.length_map]
theorem scBool : FnScope ["self"] ["self"] (defScope mSystemBool) := ⟨rfl, rfl, rfl, by decide +kernel, rfl, by decide +kernel, by decide +kernel⟩
theorem ok_bool {f : Addr} {fd : FuncData} (F : FnM K "__bool__" "System.__bool__" mSystemBool [] f fd) : FnOk P w K mg base CX0 1 f fd ["self"] spYes := by
  refine F.ok scBool (fun vs H Q E h => ?_) (fun cdv A outer s H vs Q E hr h => ?_)
  · obtain ⟨x, rfl, _⟩ := h
    rfl
  · obtain ⟨x, rfl, q⟩ := h
    exact ⟨_, PSs.nox (pss_one (ps_ret pe_bl)), q⟩
end
end Ca
set_option Elab.async false
set_option linter.all false
set_option maxRecDepth 100000
set_option maxHeartbeats 4000000
namespace Ca
open PySem L2
/-! ### what is known of the data of systems -/
theorem sign_small : ∀ c, isSign c = true → c < 128 := by
  intro c h
  have h1 : ∀ x ∈ LET.cps.toList, x < 128 := by decide +kernel
  have h2 : ∀ x ∈ DIG.cps.toList, x < 128 := by decide +kernel
  unfold isSign isLet at h
  rcases Bool.or_eq_true_iff.mp h with h | h
  · exact h1 c (of_decide_eq_true h)
  · exact h2 c (of_decide_eq_true h)
theorem name_parts {x : Str} (h : nameS x = true) : 1 ≤ x.length ∧ x.length ≤ 8 ∧ ∀ c ∈ x.cps.toList, c < 128 := by
  unfold nameS at h
  obtain ⟨h1, h⟩ := Bool.and_eq_true_iff.mp h
  obtain ⟨h2, h⟩ := Bool.and_eq_true_iff.mp h
  obtain ⟨_, h4⟩ := Bool.and_eq_true_iff.mp h
  exact ⟨of_decide_eq_true h1, of_decide_eq_true h2, fun c hc => sign_small c (List.all_eq_true.mp h4 c hc)⟩
theorem unk_name {x : Str} (h : isUnknownD (.str x) = true) : nameS x = true := (Bool.and_eq_true_iff.mp (show (nameS x && !decide (x = "bound")) = true from h)).1
theorem row_name {r : Rw} {m : Nat} (h : isRowD (rowD r) m = true) : nameS r.name = true ∧ r.parts.length = m := by
  obtain ⟨h1, h2⟩ := Bool.and_eq_true_iff.mp (show (nameS r.name && (isTupN (.tuple (r.parts.map strD)) m && ((partsOf (.tuple (r.parts.map strD)) ++ [strD r.bd]).all isStretchD))) = true from h)
  obtain ⟨h3, _⟩ := Bool.and_eq_true_iff.mp h2
  refine ⟨h1, ?_⟩
  have := of_decide_eq_true h3
  rwa [List.length_map] at this
mutual
theorem dp_of {K : PySem.W.Frag} {H : Hp} : ∀ {d : PyData} {v : V}, d.hasDict = false → Dq K H v d → Dp K H v d
  | .none, _, _, h => by cases h; exact .non
  | .bool b, _, _, h => by cases h; exact .bl b
  | .int i, _, _, h => by cases h; exact .int i
  | .str x, _, _, h => by cases h; exact .str x
  | .list ds, _, n, h => by
    cases h with
    | lst a b => exact .lst a (dpAll_of (by simpa only [PyData.hasDict] using n) b)
  | .tuple ds, _, n, h => by
    cases h with
    | tup a b => exact .tup a (dpAll_of (by simpa only [PyData.hasDict] using n) b)
  | .dict ds, _, n, h => by simp [PyData.hasDict] at n
theorem dpAll_of {K : PySem.W.Frag} {H : Hp} : ∀ {ds : List PyData} {vs : List V}, PyData.hasDictAll ds = false → DqAll K H vs ds → DpAll K H vs ds
  | [], _, _, h => by cases h; exact .nil
  | d :: ds, _, n, h => by
    have n' : (d.hasDict || PyData.hasDictAll ds) = false := by simpa only [PyData.hasDictAll] using n
    obtain ⟨n1, n2⟩ := Bool.or_eq_false_iff.mp n'
    cases h with
    | cons a b => exact .cons (dp_of n1 a) (dpAll_of n2 b)
end
theorem eqvAll_strs : ∀ ns ms : List Str, PyData.eqvAll (ns.map .str) (ms.map .str) = decide (ns = ms)
  | [], [] => by simp [PyData.eqvAll]
  | [], _ :: _ => by simp [PyData.eqvAll]
  | _ :: _, [] => by simp [PyData.eqvAll]
  | n :: ns, m :: ms => by
    simp only [List.map_cons, PyData.eqvAll, PyData.eqv]
    rw [eqvAll_strs ns ms, Bool.eq_iff_iff]
    simp
theorem eqv_folk (ns ms : List Str) : PyData.eqv (folkD ns) (folkD ms) = decide (ns = ms) := by
  unfold folkD
  simp only [PyData.eqv]
  exact eqvAll_strs ns ms
theorem eqv_str (p q : Int × Int) : PyData.eqv (strD p) (strD q) = decide (p = q) := by
  obtain ⟨a, b⟩ := p
  obtain ⟨c, d⟩ := q
  unfold strD
  simp only [PyData.eqv, PyData.eqvAll]
  rw [Bool.eq_iff_iff]
  simp
theorem eqvAll_strD : ∀ ps qs : List (Int × Int), PyData.eqvAll (ps.map strD) (qs.map strD) = decide (ps = qs)
  | [], [] => by simp [PyData.eqvAll]
  | [], _ :: _ => by simp [PyData.eqvAll]
  | _ :: _, [] => by simp [PyData.eqvAll]
  | p :: ps, q :: qs => by
    simp only [List.map_cons, PyData.eqvAll]
    rw [eqvAll_strD ps qs, eqv_str, Bool.eq_iff_iff]
    simp
theorem eqv_row (r q : Rw) : PyData.eqv (rowD r) (rowD q) = decide (r = q) := by
  obtain ⟨a, b, c⟩ := r
  obtain ⟨d, e, f⟩ := q
  unfold rowD
  simp only [PyData.eqv, PyData.eqvAll]
  rw [eqvAll_strD, eqv_str, Bool.eq_iff_iff]
  simp
theorem eqvAll_rows : ∀ rs qs : List Rw, PyData.eqvAll (rs.map rowD) (qs.map rowD) = decide (rs = qs)
  | [], [] => by simp [PyData.eqvAll]
  | [], _ :: _ => by simp [PyData.eqvAll]
  | _ :: _, [] => by simp [PyData.eqvAll]
  | p :: ps, q :: qs => by
    simp only [List.map_cons, PyData.eqvAll]
    rw [eqvAll_rows ps qs, eqv_row, Bool.eq_iff_iff]
    simp
theorem eqv_rows (rs qs : List Rw) : PyData.eqv (rowsD rs) (rowsD qs) = decide (rs = qs) := by
  unfold rowsD
  simp only [PyData.eqv]
  exact eqvAll_rows rs qs
theorem strOk_of {x : Str} (h : ∀ c ∈ x.cps.toList, c < 128) : PyData.strOk x = true := by
  unfold PyData.strOk
  rw [← Array.all_toList, List.all_eq_true]
  intro c hc
  exact decide_eq_true (Nat.lt_of_lt_of_le (h c hc) (by decide))
theorem lay_strs : ∀ ns : List Str, (∀ x ∈ ns, nameS x = true) → PyData.canLayAll0 (ns.map .str) = true
  | [], _ => rfl
  | n :: ns, h => by
    simp only [List.map_cons, PyData.canLayAll0, PyData.canLay0]
    rw [strOk_of (name_parts (h n (List.mem_cons_self ..))).2.2, lay_strs ns fun x z => h x (List.mem_cons_of_mem _ z)]
    rfl
theorem dep_strs : ∀ ns : List Str, PyData.depthAll (ns.map .str) = 0
  | [] => rfl
  | n :: ns => by
    simp only [List.map_cons, PyData.depthAll, PyData.depth]
    rw [dep_strs ns]
    rfl
theorem shaped_strs {ns : List Str} (h : ∀ x ∈ ns, nameS x = true) : SeqAt.shaped (.tuple (ns.map .str)) = true := by
  refine Bool.and_eq_true_iff.mpr ⟨by simp only [PyData.canLay0]; exact lay_strs ns h, decide_eq_true ?_⟩
  simp only [PyData.depth]
  rw [dep_strs]
  decide
theorem folk_names {ns : List Str} (N : Folk ns) : ∀ x ∈ ns, nameS x = true := fun x z => unk_name (N.ok x z)
theorem shaped_folk {ns : List Str} (N : Folk ns) : SeqAt.shaped (folkD ns) = true := shaped_strs (folk_names N)
theorem lay_strD : ∀ ps : List (Int × Int), PyData.canLayAll0 (ps.map strD) = true
  | [] => rfl
  | p :: ps => by
    simp only [List.map_cons, PyData.canLayAll0, strD, PyData.canLay0]
    exact lay_strD ps
theorem dep_strD : ∀ ps : List (Int × Int), PyData.depthAll (ps.map strD) ≤ 1
  | [] => Nat.zero_le _
  | p :: ps => by
    simp only [List.map_cons, PyData.depthAll, strD, PyData.depth]
    have := dep_strD ps
    show max (max 0 (max 0 0) + 1) _ ≤ 1
    exact Nat.max_le.mpr ⟨Nat.le_refl _, this⟩
theorem lay_row {r : Rw} (h : nameS r.name = true) : PyData.canLay0 (rowD r) = true := by
  unfold rowD
  simp only [PyData.canLay0, PyData.canLayAll0]
  rw [strOk_of (name_parts h).2.2, lay_strD]
  rfl
theorem dep_row (r : Rw) : (rowD r).depth ≤ 3 := by
  unfold rowD strD
  simp only [PyData.depth, PyData.depthAll]
  have := dep_strD r.parts
  unfold strD at this
  omega
theorem lay_rows : ∀ rs : List Rw, (∀ r ∈ rs, nameS r.name = true) → PyData.canLayAll0 (rs.map rowD) = true
  | [], _ => rfl
  | r :: rs, h => by
    simp only [List.map_cons, PyData.canLayAll0]
    rw [lay_row (h r (List.mem_cons_self ..)), lay_rows rs fun x z => h x (List.mem_cons_of_mem _ z)]
    rfl
theorem dep_rows : ∀ rs : List Rw, PyData.depthAll (rs.map rowD) ≤ 3
  | [] => Nat.zero_le _
  | r :: rs => by
    simp only [List.map_cons, PyData.depthAll]
    exact Nat.max_le.mpr ⟨dep_row r, dep_rows rs⟩
theorem shaped_rows {rs : List Rw} (h : ∀ r ∈ rs, nameS r.name = true) : SeqAt.shaped (rowsD rs) = true := by
  refine Bool.and_eq_true_iff.mpr ⟨by unfold rowsD; simp only [PyData.canLay0]; exact lay_rows rs h, decide_eq_true ?_⟩
  unfold rowsD
  simp only [PyData.depth]
  have := dep_rows rs
  omega
theorem lines_names {rs : List Rw} {m : Nat} (L : Lines rs m) : ∀ r ∈ rs, nameS r.name = true := fun r z => (row_name (L.ok r z)).1
theorem nodict_strs : ∀ ns : List Str, PyData.hasDictAll (ns.map .str) = false
  | [] => rfl
  | n :: ns => by
    simp only [List.map_cons, PyData.hasDictAll, PyData.hasDict, Bool.false_or]
    exact nodict_strs ns
theorem nodict_folk (ns : List Str) : (folkD ns).hasDict = false := by
  unfold folkD
  simp only [PyData.hasDict]
  exact nodict_strs ns
theorem nodict_strD : ∀ ps : List (Int × Int), PyData.hasDictAll (ps.map strD) = false
  | [] => rfl
  | p :: ps => by
    simp only [List.map_cons, PyData.hasDictAll, strD, PyData.hasDict, Bool.false_or]
    exact nodict_strD ps
theorem nodict_row (r : Rw) : (rowD r).hasDict = false := by
  unfold rowD strD
  simp only [PyData.hasDictAll, PyData.hasDict, Bool.false_or]
  have := nodict_strD r.parts
  unfold strD at this
  rw [this]
  rfl
theorem nodict_rows : ∀ rs : List Rw, (rowsD rs).hasDict = false := by
  intro rs
  unfold rowsD
  simp only [PyData.hasDict]
  induction rs with
  | nil => rfl
  | cons r rs ih =>
    simp only [List.map_cons, PyData.hasDictAll]
    rw [nodict_row, ih]
    rfl
end Ca
set_option Elab.async false
set_option linter.all false
set_option maxRecDepth 100000
set_option maxHeartbeats 4000000
namespace Ca
open PySem L2
section
variable {X : Cx}
theorem ixT (K : PySem.W.Frag) (h : X.K = K := by rfl) : IxR X (rIxT K) := h ▸ ix_tup
end
def namesD (rs : List Rw) : PyData := .tuple ((rs.map Rw.name).map .str)
def spNames (K : PySem.W.Frag) (C : Addr) : Sp := fun vs H Q _ => ∃ x ns rs, vs = [.ref x] ∧ SysAt K C H x ns rs ∧ ∀ H' v, Same H H' → Dq K H' v (namesD rs) → Q v H'
theorem strs_dq {K : PySem.W.Frag} {H : Hp} : ∀ {ns : List Str}, (∀ x ∈ ns, x.length ≤ 5000) → DqAll K H (ns.map V.str) (ns.map .str)
  | [], _ => .nil
  | n :: ns, h => .cons (.str n (h n (List.mem_cons_self ..))) (strs_dq fun x z => h x (List.mem_cons_of_mem _ z))
theorem map_range {α β : Type} (l : List α) (d : α) (g : α → β) (n : Nat) (h : l.length = n) : ((List.range n).map fun i => g (l.getD i d)) = l.map g := by
  refine List.ext_getElem (by simp [h]) fun i h1 h2 => ?_
  have hi : i < l.length := by simpa using h2
  simp [List.getElem?_eq_getElem hi]
theorem ty_tyx {K : PySem.W.Frag} {H : Hp} {y : V} {t : String} (h : Ty K H y (.type t)) : TyX K H y (.type t) := by
  cases h with
  | non => exact .base .non
  | bl b => exact .base (.bl b)
  | int i => exact .base (.int i)
  | str x => exact .base (.str x)
  | lst e => exact tyx_l e
  | tup e => exact tyx_t e
  | dic e => exact .base (.dK e)
/-- what isinstance(x, System) leans on -/
structure SysI (K : PySem.W.Frag) (C : Addr) : Prop where
  ha : PySem.W.findIn K (.ref C) "__class__" = some (some (.builtin "object.__class__"))
  hn : PySem.W.specialIn K (.builtin "object.__class__") "__get__" = some (some (.builtin "getset_descriptor.__get__"))
  ht : PySem.W.takesIn K (.builtin "object.__class__") = some true
  hm : PySem.W.mroIn K C (.type "object") = some true
  own : PySem.W.kitOne K (.ref C) (.ref C) = some true
  odd : ∀ t : String, t ∈ ["NoneType", "bool", "int", "str", "list", "tuple", "dict"] → PySem.W.kitOne K (.type t) (.ref C) = some false ∧ PySem.W.notFirst K C (.type t) = true
  nf : PySem.W.notFirst K C (.ref C) = true
/-- self == other -/
def spEqS (K : PySem.W.Frag) (C : Addr) : Sp := fun vs H Q _ => ∃ x y ns rs, vs = [.ref x, y] ∧ SysAt K C H x ns rs ∧
  ((∃ t : String, Ty K H y (.type t) ∧ PySem.W.kitOne K (.type t) (.ref C) = some false ∧ Q (.bl false) H) ∨ ∃ z ms qs, y = .ref z ∧ SysAt K C H z ms qs ∧ Q (.bl (decide (ns = ms) && decide (rs = qs))) H)
section
variable {P : Program} {w : World} {K : PySem.W.Frag} {mg : Str → Option Value} {base : Heap} {C : Addr}
theorem scNames : FnScope ["self", "row"] ["self"] (defScope mSystemNames) := ⟨rfl, rfl, rfl, by decide +kernel, rfl, by decide +kernel, by decide +kernel⟩
theorem ok_names {f : Addr} {fd : FuncData} (F : FnM K "names" "System.names" mSystemNames [] f fd) (B : Bn mg) (S : SysC K C) : FnOk P w K mg base CX0 1 f fd ["self"] (spNames K C) := by
  refine F.ok scNames (fun vs H Q E h => ?_) (fun cdv A outer s H vs Q E hr h => ?_)
  · obtain ⟨x, ns, rs, rfl, _⟩ := h
    rfl
  · obtain ⟨x, ns, rs, rfl, ⟨hN, hL, dx, u, r, hx, du, dr⟩, q⟩ := h
    have nd := scNames.nd
    obtain ⟨a, xs, rfl, h1, h2, hl⟩ := tup_len dr
    have hl2 : xs.length = rs.length := by rw [hl, List.length_map]
    refine ⟨_, PSs.nox (pss_one (ps_ret (pe_callTy call_tuple_of (by rfl) B.tup (by decide +kernel) (pa_cons (pe_lc (own := [("row", 1)]) (g := gName 1) (tt := tYes) rfl nd (pi_tup (pe_fld (pv 0) rfl))
      (blkOk_by (own := [("row", 1)]) (N := ["self", "row"]) (sc := defScope mSystemNames) (by decide +kernel)) (fun _ _ _ _ _ => pg_name (i := 1) nd rfl (Or.inl rfl)) (fun _ _ _ _ _ => pts_nil)
      (fun _ _ _ _ _ => pe_ix (ixT K) (pv 1) pe_int (fun _ _ => rfl))) pa_nil)))), ?_⟩
    refine ⟨_, rfl, x, C, dx, _, _, rfl, hx, S.cl, S.nr, rfl, a, rfl, ⟨_, h1⟩, fun D hD => ?_⟩
    refine lc_known (walk_tup (K := K) (a := a) (xs := xs)) (fun i => .str ((rs.map Rw.name).getD i "")) (by rw [hl2]; have := hL.hi; omega) hD (fun H' s' => same_sqt s' h1) (fun _ _ _ _ y => by obtain ⟨rfl, _⟩ := y; exact fun _ _ e => e) (fun _ => rfl) ?_ ?_
    · rintro i z H5 H6 Qk hi s5 ⟨rfl, hz⟩ k
      obtain ⟨d, hdi, hdq⟩ := (h2.same s5).get hz
      have hi2 : i < rs.length := by rw [← hl2]; exact hi
      rw [List.getElem?_map, List.getElem?_eq_getElem hi2] at hdi
      cases hdi
      obtain ⟨b, v2, v3, rfl, hb, _, _, _⟩ := row_at hdq
      refine ⟨_, rfl, b, _, 0, _, rfl, rfl, hb, atI_nat (j := 0) rfl, ?_⟩
      have k1 := k _ (fun _ _ e => e)
      have en : (rs.map Rw.name).getD i "" = rs[i].name := by
        rw [List.getD_eq_getElem?_getD, List.getElem?_map, List.getElem?_eq_getElem hi2]
        rfl
      rw [en] at k1
      exact k1
    · intro H5 s5 bD
      rw [hl2, map_range (rs.map Rw.name) "" V.str rs.length (List.length_map ..)] at bD
      refine ⟨D, _, rfl, .inl ⟨SqL.of bD, fun p hp => q _ _ (s5.trans (Same.new hp)) (.tup (SqT.of upd_same) (strs_dq fun y z => ?_))⟩⟩
      obtain ⟨r, hr1, rfl⟩ := List.mem_map.mp z
      have := (name_parts (lines_names hL r hr1)).2.1
      omega
theorem scEq : FnScope ["self", "other"] ["self", "other"] (defScope mSystemEq) := ⟨rfl, rfl, rfl, by decide +kernel, rfl, by decide +kernel, by decide +kernel⟩
theorem ok_eq {f : Addr} {fd : FuncData} (F : FnM K "__eq__" "System.__eq__" mSystemEq [] f fd) (B : Bn mg) (S : SysC K C) (I : SysI K C) (gC : mg "System" = some (.ref C)) : FnOk P w K mg base CX0 1 f fd ["self", "other"] (spEqS K C) := by
  refine F.ok scEq (fun vs H Q E h => ?_) (fun cdv A outer s H vs Q E hr h => ?_)
  · obtain ⟨x, y, ns, rs, rfl, _⟩ := h
    rfl
  · obtain ⟨x, y, ns, rs, rfl, ⟨hN, hL, dx, u, r, hx, du, dr⟩, q⟩ := h
    refine ⟨_, PSs.nox (pss_one (ps_ret (pe_and (pe_callB call_isi (by rfl) B.isi PyProof.Rows.boot_isinstance (pa_cons (pv 1) (pa_cons (pe_glob (v := .ref C) rfl gC rfl) pa_nil)))
      (pe_and (pe_cmpR (op_eqD hr.units) (pe_fld (pv 0) rfl) (pe_fld (pv 1) rfl) (nomark _)) (pe_one (pe_cmpR (op_eqD hr.units) (pe_fld (pv 0) rfl) (pe_fld (pv 1) rfl) (nomark _))))))), ?_⟩
    rcases q with ⟨t, ht, hk, q⟩ | ⟨z, ms, qs, rfl, ⟨hN2, hL2, dz, u2, r2, hz, du2, dr2⟩, q⟩
    · exact ⟨_, rfl, y, .ref C, _, _, false, rfl, .own C, ty_tyx ht, hk, _, rfl, iteF q⟩
    · refine ⟨_, rfl, .ref z, .ref C, _, _, true, rfl, .own C, .base (.ins hz S.cl I.ha I.hn I.ht I.hm), I.own, _, rfl, iteT ?_⟩
      refine ⟨_, rfl, x, C, dx, _, u, rfl, hx, S.cl, S.nu, rfl, _, rfl, z, C, dz, _, u2, rfl, hz, S.cl, S.nu, rfl, _, _, dp_of (nodict_folk ns) du, dp_of (nodict_folk ms) du2, shaped_folk hN, shaped_folk hN2, _, rfl, ?_⟩
      rw [eqv_folk]
      refine ite2 (fun g => ?_) (fun g => ?_)
      · rw [g, Bool.true_and] at q
        refine ⟨_, rfl, x, C, dx, _, r, rfl, hx, S.cl, S.nr, rfl, _, rfl, z, C, dz, _, r2, rfl, hz, S.cl, S.nr, rfl, _, _, dp_of (nodict_rows rs) dr, dp_of (nodict_rows qs) dr2, shaped_rows (lines_names hL), shaped_rows (lines_names hL2), ?_⟩
        rw [eqv_rows]
        exact q
      · rw [Bool.eq_false_iff.mpr g, Bool.false_and] at q
        exact q
end
end Ca
set_option Elab.async false
set_option linter.all false
set_option maxRecDepth 100000
set_option maxHeartbeats 4000000
namespace Ca
open PySem L2
/-- the first items of a comprehension of two clauses -/
def items2 (m : Nat → Nat) (f : Nat → Nat → V) (i : Nat) : List V := (List.range i).flatMap fun a => (List.range (m a)).map (f a)
theorem items2_more (m : Nat → Nat) (f : Nat → Nat → V) (i : Nat) : items2 m f (i + 1) = items2 m f i ++ (List.range (m i)).map (f i) := by
  unfold items2
  rw [List.range_succ, List.flatMap_append]
  simp
theorem rdYes {A B : Hp → Prop} {σ : L2.St} {H : Hp} (h : A H) : tYes σ H (fun b H3 => if b = true then A H3 else B H3) := by
  show (if true = true then A H else B H)
  rw [if_pos rfl]
  exact h
/-- a comprehension of two clauses without tests, whose items are known ahead -/
theorem lc2_known {J : It} {n : Nat} {G : Hp → Prop} {Y : Nat → Hp → V → Hp → Prop} (w : Walk J n G Y) {wi1 : TI} {te : TE} {vs vs1 : List Nat} {σ : L2.St} {H1 : Hp} {D : Addr} {Qd : Hp → Prop} {j j1 : Nat} (m : Nat → Nat) (f : Nat → Nat → V) (hn : ∀ i, i ≤ n → (items2 m f i).length ≤ 100000)
    (hD : H1 D = none) (hG : ∀ H, Same H1 H → G H) (hY : ∀ i H x H', Y i H x H' → Same H H') (hw : ∀ x, wipe ((wipe σ vs).set j (some x)) vs = wipe σ vs) (hw1 : ∀ x z, wipe ((wipe ((wipe σ vs).set j (some x)) vs1).set j1 (some z)) vs1 = wipe ((wipe σ vs).set j (some x)) vs1)
    (hs : ∀ i x H H' (R : It → Hp → Prop), i < n → Same H1 H → Y i H x H' →
      (∀ J1 G1 Y1 H4, Walk J1 (m i) G1 Y1 → Same H' H4 → (∀ H5, Same H1 H5 → G1 H5) → (∀ k H z H', Y1 k H z H' → Same H H') →
        (∀ k z H5 H6 (Qk : VK), k < m i → Same H1 H5 → Y1 k H5 z H6 → (∀ H7, Same H6 H7 → Qk (f i k) H7) → te ((wipe ((wipe σ vs).set j (some x)) vs1).set j1 (some z)) H6 Qk) → R J1 H4) → wi1 ((wipe σ vs).set j (some x)) H' R)
    (hd : ∀ H, Same H1 H → H D = some (.lst (items2 m f n)) → Qd H) :
    ∃ W : Nat → Nat → Hp → Prop, (∃ m, W 0 m (upd H1 D (.lst []))) ∧ ∀ i m H, W i m H →
      (J.stop i H ∧ Qd H) ∨ (J.go i H ∧ ∃ Nx : Hp → Prop, (∀ H', Nx H' → ∃ m', m' < m ∧ W (i + 1) m' H') ∧ ∀ x H', J.yld i H x H' → gName j x (wipe σ vs) H' fun σ2 H2 => wipe σ2 vs = wipe σ vs ∧ tYes σ2 H2 fun b H3 =>
        if b = true then wi1 σ2 H3 fun J1 H4 => ∃ W1 : Nat → Nat → Hp → Prop, (∃ m, W1 0 m H4) ∧ ∀ j k H, W1 j k H →
          (J1.stop j H ∧ Nx H) ∨ (J1.go j H ∧ ∃ Nx1 : Hp → Prop, (∀ H', Nx1 H' → ∃ k', k' < k ∧ W1 (j + 1) k' H') ∧ ∀ x H', J1.yld j H x H' → gName j1 x (wipe σ2 vs1) H' fun σ3 H5 => wipe σ3 vs1 = wipe σ2 vs1 ∧ tYes σ3 H5 fun b H6 =>
            if b = true then te σ3 H6 fun y H7 => ∃ acc, H7 D = some (.lst acc) ∧ acc.length < sizeLine ∧ Nx1 (upd H7 D (.lst (acc ++ [y]))) else Nx1 H6)
        else Nx H3) := by
  refine ⟨fun i m' H => m' = n - i ∧ i ≤ n ∧ Same H1 H ∧ H D = some (.lst (items2 m f i)), ⟨n, by simp, Nat.zero_le _, Same.new hD, upd_same⟩, ?_⟩
  rintro i m' H ⟨rfl, hi, s, b⟩
  have g := hG H s
  by_cases hlt : i < n
  · refine .inr ⟨w.goes i H hlt g, fun H' => Same H1 H' ∧ H' D = some (.lst (items2 m f (i + 1))), fun H' p => ⟨n - (i + 1), by omega, rfl, hlt, p⟩, fun x H' y => ⟨hw x, rdYes ?_⟩⟩
    have y' := w.yields i H x H' hlt g y
    have sy := hY i H x H' y'
    refine hs i x H H' _ hlt s y' fun J1 G1 Y1 H4 w1 s4 hG1 hY1 he => ?_
    refine ⟨fun k k' H => k' = m i - k ∧ k ≤ m i ∧ Same H1 H ∧ H D = some (.lst (items2 m f i ++ (List.range k).map (f i))), ⟨m i, by simp, Nat.zero_le _, fun a o e => s4 _ _ (sy _ _ (s _ _ e)), by simpa using s4 _ _ (sy _ _ b)⟩, ?_⟩
    rintro k k' H5 ⟨rfl, hk, s5, b5⟩
    by_cases klt : k < m i
    · refine .inr ⟨w1.goes k H5 klt (hG1 H5 s5), fun H' => Same H1 H' ∧ H' D = some (.lst (items2 m f i ++ (List.range (k + 1)).map (f i))), fun H' p => ⟨m i - (k + 1), by omega, rfl, klt, p⟩, fun z H6 yz => ⟨hw1 x z, rdYes ?_⟩⟩
      have y6 := w1.yields k H5 z H6 klt (hG1 H5 s5) yz
      have s6 := hY1 k H5 z H6 y6
      refine he k z H5 H6 _ klt s5 y6 fun H7 s7 => ⟨_, s7 _ _ (s6 _ _ b5), ?_, fun a o e => ?_, ?_⟩
      · have := hn (i + 1) hlt
        rw [items2_more, List.length_append, List.length_map, List.length_range] at this
        rw [List.length_append, List.length_map, List.length_range]
        exact Nat.lt_of_lt_of_le (show _ < 100001 by omega) (by decide)
      · rw [upd_ne (ne_of_none e hD)]
        exact s7 _ _ (s6 _ _ (s5 _ _ e))
      · rw [upd_same, List.range_succ, List.map_append, List.append_assoc]
        rfl
    · have e : k = m i := by omega
      subst e
      exact .inl ⟨w1.stops H5 (hG1 H5 s5), s5, by rw [items2_more]; exact b5⟩
  · have e : i = n := by omega
    subst e
    exact .inl ⟨w.stops H g, hd H s b⟩
end Ca
set_option Elab.async false
set_option linter.all false
set_option maxRecDepth 100000
set_option maxHeartbeats 4000000
namespace Ca
open PySem L2
section
variable {X : Cx}
theorem piT (K : PySem.W.Frag) {tg e : Expr} {te : TE} (he : PE X e te) (h : X.K = K := by rfl) : PI X tg e (iTup K te) := h ▸ pi_tup he
end
def intS (i : Int) : Str := toString i
def wordsOf (ps : List (Int × Int)) : List Str := ps.flatMap fun p => [intS p.1, intS p.2]
def lineS (r : Rw) : Str := Txt.join " " ([("row" : Str), r.name] ++ wordsOf (r.parts ++ [r.bd]))
def pageS (ns : List Str) (rs : List Rw) : Str := Txt.join "\n" (Txt.join " " ("unknowns" :: ns) :: rs.map lineS)
def inB (p : Int × Int) : Prop := p.1.natAbs.log2 < 1920 ∧ p.2.natAbs.log2 < 1920
theorem str_ok {p : Int × Int} (h : isStretchD (strD p) = true) : -10000 ≤ p.1 ∧ p.1 ≤ p.2 ∧ p.2 ≤ 10000 := by
  obtain ⟨h1, h⟩ := Bool.and_eq_true_iff.mp (show (decide (-10000 ≤ p.1) && (decide (p.1 ≤ p.2) && decide (p.2 ≤ 10000))) = true from h)
  obtain ⟨h2, h3⟩ := Bool.and_eq_true_iff.mp h
  exact ⟨of_decide_eq_true h1, of_decide_eq_true h2, of_decide_eq_true h3⟩
theorem log_small {i : Int} (h1 : -10000 ≤ i) (h2 : i ≤ 10000) : i.natAbs.log2 < 1920 := by
  have : i.natAbs < 2 ^ 14 := by show i.natAbs < 16384; omega
  by_cases z : i.natAbs = 0
  · rw [z]; decide
  · have := (Nat.log2_lt z).mpr this
    omega
theorem str_in {p : Int × Int} (h : isStretchD (strD p) = true) : inB p := by
  obtain ⟨h1, h2, h3⟩ := str_ok h
  exact ⟨log_small h1 (by omega), log_small (by omega) h3⟩
theorem row_in {r : Rw} {m : Nat} (h : isRowD (rowD r) m = true) : ∀ p ∈ r.parts ++ [r.bd], inB p := by
  obtain ⟨_, h2⟩ := Bool.and_eq_true_iff.mp (show (nameS r.name && (isTupN (.tuple (r.parts.map strD)) m && ((partsOf (.tuple (r.parts.map strD)) ++ [strD r.bd]).all isStretchD))) = true from h)
  obtain ⟨_, h4⟩ := Bool.and_eq_true_iff.mp h2
  intro p hp
  refine str_in (List.all_eq_true.mp h4 (strD p) ?_)
  show strD p ∈ r.parts.map strD ++ [strD r.bd]
  rw [show r.parts.map strD ++ [strD r.bd] = (r.parts ++ [r.bd]).map strD by rw [List.map_append]; rfl]
  exact List.mem_map_of_mem hp
theorem intS_len {i : Int} (h : i.natAbs.log2 < 1920) : (intS i).length ≤ 1921 := PyProof.Rows.int_text_len_1921 h
theorem words_len : ∀ ps : List (Int × Int), (∀ p ∈ ps, inB p) → ((wordsOf ps).map (·.length)).sum ≤ 3842 * ps.length ∧ (wordsOf ps).length = 2 * ps.length
  | [], _ => ⟨Nat.le_refl _, rfl⟩
  | p :: ps, h => by
    obtain ⟨h1, h2⟩ := words_len ps fun x z => h x (List.mem_cons_of_mem _ z)
    have hp := h p (List.mem_cons_self ..)
    have e : wordsOf (p :: ps) = intS p.1 :: intS p.2 :: wordsOf ps := rfl
    rw [e]
    have l1 := intS_len hp.1
    have l2 := intS_len hp.2
    refine ⟨?_, ?_⟩
    · simp only [List.map_cons, List.sum_cons, List.length_cons]
      omega
    · simp only [List.length_cons]
      omega
def wordAt (ps : List (Int × Int)) (a k : Nat) : V := .str (if k = 0 then intS (ps.getD a (0, 0)).1 else intS (ps.getD a (0, 0)).2)
theorem items_words (ps : List (Int × Int)) (n : Nat) (h : ps.length = n) : items2 (fun _ => 2) (wordAt ps) n = (wordsOf ps).map V.str := by
  unfold items2 wordsOf
  rw [List.flatMap_def, List.flatMap_def]
  have e : (List.range n).map (fun a => (List.range 2).map (wordAt ps a)) = ps.map fun p => [V.str (intS p.1), V.str (intS p.2)] :=
    map_range ps (0, 0) (fun p => [V.str (intS p.1), V.str (intS p.2)]) n h
  rw [e, List.map_flatten, List.map_map]
  rfl
theorem items_two (f : Nat → Nat → V) : ∀ i, (items2 (fun _ => 2) f i).length = 2 * i
  | 0 => rfl
  | i + 1 => by
    rw [items2_more, List.length_append, items_two f i, List.length_map, List.length_range]
    omega
def spLine (K : PySem.W.Frag) : Sp := fun vs H Q _ => ∃ v r m, vs = [v] ∧ Dq K H v (rowD r) ∧ isRowD (rowD r) m = true ∧ m ≤ 3 ∧ ∀ H', Same H H' → Q (.str (lineS r)) H'
section
variable {P : Program} {w : World} {K : PySem.W.Frag} {mg : Str → Option Value} {base : Heap} {C : Addr}
abbrev NLine : List Str := ["row", "name", "stretches", "bound", "ends", "stretch", "end"]
theorem scLine : FnScope NLine ["row"] (defScope sLineOf) := ⟨rfl, rfl, rfl, by decide +kernel, rfl, by decide +kernel, by decide +kernel⟩
theorem ok_line {f : Addr} {fd : FuncData} (F : FnT K "line_of" sLineOf f fd) (B : Bn mg) : FnOk P w K mg base CX0 1 f fd ["row"] (spLine K) := by
  refine F.ok scLine (fun vs H Q E h => ?_) (fun cdv A outer s H vs Q E hr h => ?_)
  · obtain ⟨v, r, m, rfl, _⟩ := h
    rfl
  · obtain ⟨v, r, m, rfl, hd, ok, hm, q⟩ := h
    have nd := scLine.nd
    refine ⟨_, PSs.nox (pss_cons (ps_asg (pv 0) (pg_tup rfl (pgs_cons (pg_name (i := 1) nd rfl (.inl rfl)) (pgs_cons (pg_name (i := 2) nd rfl (.inl rfl)) (pgs_cons (pg_name (i := 3) nd rfl (.inl rfl)) pgs_nil)))))
      (pss_cons (ps_setLc2 (i := 4) (own := [("stretch", 5), ("end", 6)]) (vs1 := [6]) (g := gName 5) (g1 := gName 6) (tt := tYes) (tt1 := tYes) rfl nd rfl rfl (sw_true rfl rfl rfl (by decide +kernel)) (pi_tup (pe_tup (StX.pa_star (pv 2) (pa_cons (pv 3) pa_nil))))
          (blkOk_by (own := [("stretch", 5), ("end", 6)]) (N := NLine) (sc := defScope sLineOf) (by decide +kernel)) (by decide) (fun _ _ _ _ _ => pg_name (i := 5) nd rfl (Or.inl rfl)) (fun _ _ _ _ _ => pts_nil)
          (fun _ _ _ _ _ => piT K (pv 5)) (fun _ _ _ _ _ => pg_name (i := 6) nd rfl (Or.inl rfl)) (fun _ _ _ _ _ => pts_nil)
          (fun _ _ _ _ _ => pe_callTy call_str_int (by rfl) B.str (by decide +kernel) (pa_cons (pv 6) pa_nil)))
      (pss_one (ps_ret (pe_join pe_str (pe_lst (pa_cons pe_str (pa_cons (pv 1) (StX.pa_star (pv 4) pa_nil))))))))), ?_⟩
    have hd1 := hd
    cases hd1 with
    | @tup a xs _ h1 h2 =>
      cases h2 with
      | @cons v1 _ _ _ e1 r1 =>
        cases r1 with
        | @cons v2 _ _ _ e2 r2 =>
          cases r2 with
          | @cons v3 _ _ _ e3 r3 =>
            cases r3
            refine ⟨_, rfl, a, _, rfl, h1, rfl, _, _, rfl, _, _, rfl, _, _, rfl, rfl, ?_⟩
            cases e1 with
            | str _ hname =>
              obtain ⟨a2, xs2, rfl, h3, h4, hl⟩ := tup_len e2
              rw [List.length_map] at hl
              have hp3 := (row_name ok).2
              have hall : DqAll K H (xs2 ++ [v3]) ((r.parts ++ [r.bd]).map strD) := by
                rw [List.map_append]
                exact h4.app (.cons e3 .nil)
              have hlen : (xs2 ++ [v3]).length = r.parts.length + 1 := by rw [List.length_append, hl]; rfl
              refine ⟨_, rfl, a2, xs2, rfl, .inl h3, _, rfl, by rw [hlen, hp3]; exact Nat.le_trans (Nat.succ_le_succ hm) (by decide), fun p hp => ⟨p, rfl, ⟨_, SqT.of upd_same⟩, fun D hD => ?_⟩⟩
              have s4 : Same H (upd H p (.tup (xs2 ++ [v3]))) := Same.new hp
              have hall1 := hall.same s4
              refine lc2_known (walk_tup (K := K) (a := p) (xs := xs2 ++ [v3])) (fun _ => 2) (wordAt (r.parts ++ [r.bd])) (fun i hi => by rw [items_two]; rw [hlen] at hi; omega) hD (fun H' s' => same_sqt s' (SqT.of upd_same)) (fun _ _ _ _ y => by obtain ⟨rfl, _⟩ := y; exact fun _ _ e => e) (fun _ => rfl) (fun _ _ => rfl) ?_ ?_
              · rintro i x H5 H6 R hi s5 ⟨rfl, hx⟩ k
                obtain ⟨d, hdi, hdq⟩ := hall1.get hx
                obtain ⟨pp, hpp, rfl⟩ : ∃ pp, (r.parts ++ [r.bd])[i]? = some pp ∧ d = strD pp := by
                  rw [List.getElem?_map] at hdi
                  cases e : (r.parts ++ [r.bd])[i]? with
                  | none => rw [e] at hdi; cases hdi
                  | some z => rw [e] at hdi; exact ⟨z, rfl, (Option.some.inj hdi).symm⟩
                have hin := row_in ok pp (List.mem_of_getElem? hpp)
                have hgd : (r.parts ++ [r.bd]).getD i (0, 0) = pp := by
                  rw [List.getD_eq_getElem?_getD, hpp]
                  rfl
                cases hdq with
                | @tup b ys _ g1 g2 =>
                  cases g2 with
                  | @cons w1 _ _ _ i1 t1 =>
                    cases t1 with
                    | @cons w2 _ _ _ i2 t2 =>
                      cases t2
                      cases i1
                      cases i2
                      refine ⟨_, rfl, b, rfl, ⟨_, same_sqt s5 g1⟩, k (Itt K b) _ _ _ (walk_tup (K := K) (a := b) (xs := [.int pp.1, .int pp.2])) (fun _ _ e => e) (fun H7 s7 => same_sqt s7 g1) (fun _ _ _ _ y => by obtain ⟨rfl, _⟩ := y; exact fun _ _ e => e) ?_⟩
                      rintro j z H7 H8 Qk hj s7 ⟨rfl, hz⟩ kk
                      have k1 := kk _ (fun _ _ e => e)
                      unfold wordAt at k1
                      rw [hgd] at k1
                      match j, hj, hz with
                      | 0, _, hz =>
                        cases hz
                        exact ⟨_, rfl, _, rfl, hin.1, k1⟩
                      | 1, _, hz =>
                        cases hz
                        exact ⟨_, rfl, _, rfl, hin.2, k1⟩
              · intro H5 s5 bD
                rw [items_words _ _ (by rw [hlen, List.length_append]; rfl)] at bD
                obtain ⟨w1, w2⟩ := words_len (r.parts ++ [r.bd]) (row_in ok)
                have l3 : (r.parts ++ [r.bd]).length ≤ 4 := by rw [List.length_append, hp3]; show m + 1 ≤ 4; omega
                refine ⟨⟨_, rfl⟩, _, rfl, _, rfl, D, _, rfl, .inr (SqL.of bD), ?_, fun l hl => ?_⟩
                · simp only [List.length_cons, List.length_append, List.length_map, List.length_nil]
                  rw [w2]
                  exact Nat.le_trans (show _ ≤ 100 by omega) (by decide)
                · rw [List.append_nil]
                  refine ⟨" ", l, [("row" : Str), r.name] ++ wordsOf (r.parts ++ [r.bd]), rfl, rfl, .inl (SqL.of upd_same), ?_, q _ (s4.trans (s5.trans (Same.new hl)))⟩
                  rw [List.map_append, List.sum_append, List.length_append, w2]
                  show 3 + (r.name.length + 0) + _ + (2 + 2 * (r.parts ++ [r.bd]).length) * 1 ≤ 16777216
                  omega
end
end Ca
set_option Elab.async false
set_option linter.all false
set_option maxRecDepth 100000
set_option maxHeartbeats 4000000
namespace Ca
open PySem L2
theorem cat_len (x y : Str) : (x ++ y).length = x.length + y.length := by
  show (x.cps ++ y.cps).size = x.cps.size + y.cps.size
  exact Array.size_append
theorem join_le (y : Str) : ∀ ps : List Str, (Str.join y ps).length ≤ (ps.map (·.length)).sum + ps.length * y.length
  | [] => Nat.zero_le _
  | [p] => by
    show p.length ≤ _
    simp only [List.map_cons, List.map_nil, List.sum_cons, List.sum_nil, List.length_cons, List.length_nil]
    omega
  | p :: z :: r => by
    have ih := join_le y (z :: r)
    show (p ++ y ++ Str.join y (z :: r)).length ≤ _
    rw [cat_len, cat_len]
    simp only [List.map_cons, List.sum_cons, List.length_cons, Nat.add_mul, Nat.one_mul] at ih ⊢
    omega
theorem line_len {r : Rw} {m : Nat} (ok : isRowD (rowD r) m = true) (hm : m ≤ 3) : (lineS r).length ≤ 16000 := by
  have hp3 := (row_name ok).2
  have l3 : (r.parts ++ [r.bd]).length ≤ 4 := by rw [List.length_append, hp3]; show m + 1 ≤ 4; omega
  obtain ⟨w1, w2⟩ := words_len (r.parts ++ [r.bd]) (row_in ok)
  have hn := (name_parts (row_name ok).1).2.1
  unfold lineS
  rw [TL.join_eq]
  refine Nat.le_trans (join_le _ _) ?_
  rw [List.map_append, List.sum_append, List.length_append, w2]
  show 3 + (r.name.length + 0) + _ + (2 + 2 * (r.parts ++ [r.bd]).length) * 1 ≤ 16000
  omega
theorem lines_len : ∀ (rs : List Rw) (m : Nat), (∀ r ∈ rs, isRowD (rowD r) m = true) → m ≤ 3 → (((rs.map lineS).map (·.length)).sum ≤ 16000 * rs.length)
  | [], _, _, _ => Nat.le_refl _
  | r :: rs, m, h, hm => by
    have ih := lines_len rs m (fun x z => h x (List.mem_cons_of_mem _ z)) hm
    have l := line_len (h r (List.mem_cons_self ..)) hm
    simp only [List.map_cons, List.sum_cons, List.length_cons]
    omega
theorem names_len : ∀ ns : List Str, (∀ x ∈ ns, nameS x = true) → (ns.map (·.length)).sum ≤ 8 * ns.length
  | [], _ => Nat.le_refl _
  | n :: ns, h => by
    have ih := names_len ns fun x z => h x (List.mem_cons_of_mem _ z)
    have l := (name_parts (h n (List.mem_cons_self ..))).2.1
    simp only [List.map_cons, List.sum_cons, List.length_cons]
    omega
def spStr (K : PySem.W.Frag) (C : Addr) : Sp := fun vs H Q _ => ∃ x ns rs, vs = [.ref x] ∧ SysAt K C H x ns rs ∧ ∀ H', Same H H' → Q (.str (pageS ns rs)) H'
section
variable {P : Program} {w : World} {K : PySem.W.Frag} {mg : Str → Option Value} {base : Heap} {C : Addr}
abbrev NStr : List Str := ["self", "first", "others", "row"]
theorem scStr : FnScope NStr ["self"] (defScope mSystemStr) := ⟨rfl, rfl, rfl, by decide +kernel, rfl, by decide +kernel, by decide +kernel⟩
theorem ok_str {f fL : Addr} {fd fdL : FuncData} (F : FnM K "__str__" "System.__str__" mSystemStr [] f fd) (S : SysC K C)
    (gL : mg "line_of" = some (.ref fL)) (GL : FnOk P w K mg base CX0 1 fL fdL ["row"] (spLine K)) (kL : PySem.W.keepIn K (.ref fL) = true) (bL : Binds K fdL ["row"] []) : FnOk P w K mg base CX0 2 f fd ["self"] (spStr K C) := by
  refine F.ok scStr (fun vs H Q E h => ?_) (fun cdv A outer s H vs Q E hr h => ?_)
  · obtain ⟨x, ns, rs, rfl, _⟩ := h
    rfl
  · obtain ⟨x, ns, rs, rfl, ⟨hN, hL, dx, u, r, hx, du, dr⟩, q⟩ := h
    have nd := scStr.nd
    refine ⟨_, PSs.nox (pss_cons (ps_set (i := 1) nd rfl (.inl rfl) (pe_join pe_str (pe_lst (pa_cons pe_str (StX.pa_star (pe_fld (pv 0) rfl) pa_nil)))))
      (pss_cons (ps_setLc (i := 2) (own := [("row", 3)]) (g := gName 3) (tt := tYes) rfl nd rfl rfl (sw_true rfl rfl rfl (by decide +kernel)) (pi_tup (pe_fld (pv 0) rfl))
          (blkOk_by (own := [("row", 3)]) (N := NStr) (sc := defScope mSystemStr) (by decide +kernel)) (fun _ _ _ _ _ => pg_name (i := 3) nd rfl (Or.inl rfl)) (fun _ _ _ _ _ => pts_nil)
          (fun _ _ _ _ _ => pe_call GL hr rfl gL kL bL .nil pass0 (pa_cons (pv 3) pa_nil)))
      (pss_one (ps_ret (pe_join pe_str (pe_lst (pa_cons (pv 1) (StX.pa_star (pv 2) pa_nil)))))))), ?_⟩
    obtain ⟨a, xs, rfl, h1, h2, hl⟩ := tup_len du
    obtain ⟨rfl, hlen⟩ := strs_of h2
    have nl := names_len ns (folk_names hN)
    have n3 := hN.hi
    refine ⟨⟨_, rfl⟩, _, rfl, x, C, dx, _, _, rfl, hx, S.cl, S.nu, rfl, a, _, rfl, .inl h1, ?_, fun l hlf => ?_⟩
    · simp only [List.length_cons, List.length_append, List.length_map, List.length_nil]
      exact Nat.le_trans (show _ ≤ 100 by omega) (by decide)
    rw [List.append_nil]
    refine ⟨" ", l, ("unknowns" : Str) :: ns, rfl, rfl, .inl (SqL.of upd_same), ?_, ?_⟩
    · simp only [List.map_cons, List.sum_cons, List.length_cons]
      show 8 + _ + (ns.length + 1) * 1 ≤ 16777216
      omega
    have s1 : Same H (upd H l (.lst ((("unknowns" : Str) :: ns).map V.str))) := Same.new hlf
    change tSeq _ _ _ _ (upd H l (.lst ((("unknowns" : Str) :: ns).map V.str)))
    generalize upd H l (.lst ((("unknowns" : Str) :: ns).map V.str)) = H1 at s1 ⊢
    obtain ⟨b, ys, rfl, g1, g2, gl⟩ := tup_len (dr.same s1)
    rw [List.length_map] at gl
    refine ⟨_, rfl, x, C, dx, _, _, rfl, s1 _ _ hx, S.cl, S.nr, rfl, b, rfl, ⟨_, g1⟩, fun D hD => ?_⟩
    refine lc_known (walk_tup (K := K) (a := b) (xs := ys)) (fun i => .str ((rs.map lineS).getD i "")) (by rw [gl]; have := hL.hi; omega) hD (fun H' s' => same_sqt s' g1) (fun _ _ _ _ y => by obtain ⟨rfl, _⟩ := y; exact fun _ _ e => e) (fun _ => rfl) ?_ ?_
    · rintro i z H5 H6 Qk hi s5 ⟨rfl, hz⟩ k
      obtain ⟨d, hdi, hdq⟩ := (g2.same s5).get hz
      have hi2 : i < rs.length := by rw [← gl]; exact hi
      rw [List.getElem?_map, List.getElem?_eq_getElem hi2] at hdi
      cases hdi
      refine ⟨_, rfl, z, rs[i], ns.length, rfl, hdq, hL.ok _ (List.getElem_mem hi2), n3, fun H7 s7 => ?_⟩
      have k1 := k H7 s7
      have en : (rs.map lineS).getD i "" = lineS rs[i] := by
        rw [List.getD_eq_getElem?_getD, List.getElem?_map, List.getElem?_eq_getElem hi2]
        rfl
      rw [en] at k1
      exact k1
    · intro H5 s5 bD
      rw [gl, map_range (rs.map lineS) "" V.str rs.length (List.length_map ..)] at bD
      have ll := lines_len rs ns.length hL.ok n3
      have r6 := hL.hi
      refine ⟨⟨_, rfl⟩, _, rfl, _, rfl, D, _, rfl, .inr (SqL.of bD), ?_, fun l2 hl2 => ?_⟩
      · simp only [List.length_cons, List.length_append, List.length_map, List.length_nil]
        exact Nat.le_trans (show _ ≤ 100 by omega) (by decide)
      rw [List.append_nil]
      refine ⟨"\n", l2, Txt.join " " (("unknowns" : Str) :: ns) :: rs.map lineS, rfl, rfl, .inl (SqL.of upd_same), ?_, q _ (s1.trans (s5.trans (Same.new hl2)))⟩
      have j1 := join_le " " (("unknowns" : Str) :: ns)
      rw [← TL.join_eq] at j1
      simp only [List.map_cons, List.sum_cons, List.length_cons, List.length_map] at j1 ⊢
      have e8 : Str.length "unknowns" = 8 := rfl
      have e1 : Str.length " " = 1 := rfl
      have e2 : Str.length "\n" = 1 := rfl
      rw [e8, e1] at j1
      rw [e2]
      omega
end
end Ca
set_option Elab.async false
set_option linter.all false
set_option maxRecDepth 100000
set_option maxHeartbeats 4000000
namespace Ca
open PySem L2
abbrev sUrn : Stmt := sLawUrn
abbrev sDip : Stmt := sLawDip
abbrev sFrom : Stmt := sLawFrom
section
variable {P : Program} {w : World} {K : PySem.W.Frag} {mg : Str → Option Value} {base : Heap}
theorem scUrn : FnScope ["_law_cells", "_law_at", "_law_own", "_law_stirred", "_law_each", "_law_great"] ["_law_cells", "_law_at"] (defScope sUrn) := ⟨rfl, rfl, rfl, by decide +kernel, rfl, by decide +kernel, by decide +kernel⟩
theorem ok_urn {f : Addr} {fd : FuncData} (F : Fun K "_law_urn" "_law_urn" sUrn f fd) (B : Bi mg) : FnOk P w K mg base CX0 1 f fd ["_law_cells", "_law_at"] (spUrn K) := by
  refine F.ok scUrn (fun vs H Q E h => ?_) (fun cdv A outer s H vs Q E hr h => ?_)
  · obtain ⟨a, ns, k, rfl, _⟩ := h
    rfl
  · obtain ⟨a, ns, k, rfl, hS, q⟩ := h
    have nd := scUrn.nd
    refine ⟨_, pss_cons (ps_cut (ps_set (i := 2) nd rfl (.inl rfl) (pe_ifExp (pt_cmpR op_lt (pv 1) (pe_callB call_len_seq (by rfl) B.len PySem.boot_len (pa_cons (pv 0) pa_nil)) (nomark _))
        (pe_callTy call_int1 (by rfl) B.int PyProof.Rows.boot_int (pa_cons (pe_ix ix_list (pv 0) (pv 1) (fun _ _ => rfl)) pa_nil)) (pe_op op_add (pe_op op_mul pe_int (pv 1)) pe_int))))
      (pss_cons (ps_set (i := 3) nd rfl (.inl rfl) (pe_op op_add pe_int (pe_op op_mul pe_int (pv 1))))
      (pss_cons (ps_for PassesOwn.never rfl (pi_list (pe_slice sl_list (pv 0) po_none (po_some pe_int))) (pg_name (i := 4) nd rfl (.inl rfl))
        (pss_one (ps_set (i := 3) nd rfl (.inl rfl) (pe_op op_mod (pe_callTy call_int1 (by rfl) B.int PyProof.Rows.boot_int (pa_cons (pe_op op_add (pe_op op_add (pe_op op_mul (pv 3) pe_int) (pe_op op_mul (pe_callTy call_int1 (by rfl) B.int PyProof.Rows.boot_int (pa_cons (pv 4) pa_nil)) pe_int)) pe_int) pa_nil)) pe_int))))
      (pss_cons (ps_cut (ps_set (i := 5) nd rfl (.inl rfl) (pe_ifExp (PW.pt (pw_or (pt_cmpR op_lt (pv 2) pe_int (nomark _)) (pw_or1 (pt_cmpR op_ge (pv 2) (pe_op op_pow pe_int pe_int) (nomark _))))) (pe_callB call_abs (by rfl) B.abs (by decide +kernel) (pa_cons (pv 2) pa_nil)) pe_int)))
      (pss_one (ps_ret (pe_lst (pa_cons (pv 5) (pa_cons (pe_op op_mod (pe_callTy call_int1 (by rfl) B.int PyProof.Rows.boot_int (pa_cons (pe_op op_add (pv 3) (pe_op op_mul (pv 2) pe_int)) pa_nil)) pe_int) (pa_cons pe_int pa_nil))))))))), ?_⟩
    refine ⟨fun σ' H' => ∃ own : Int, σ' = [some (.ref a), some (.int k), some (.int own), none, none, none] ∧ H' = H, ⟨_, rfl, _, rfl, _, _, rfl, .inl hS, _, _, rfl, rfl, _, rfl, ite2 (fun c => ?_) (fun c => ?_)⟩, ?_⟩
    · have hk : k < ns.length := by
        have c' := of_decide_eq_true c
        rw [List.length_map] at c'
        exact Int.ofNat_lt.mp c'
      obtain ⟨z, hz⟩ : ∃ z, ns[k]? = some z := ⟨_, List.getElem?_eq_getElem hk⟩
      exact ⟨_, rfl, _, rfl, _, _, _, _, rfl, rfl, hS, atI_nat (v := .int z) (by rw [List.getElem?_map, hz]; rfl), .inl ⟨_, rfl, _, rfl, rfl⟩⟩
    · exact ⟨_, rfl, _, _, rfl, rfl, .inl ⟨by decide, by decide⟩, _, _, rfl, rfl, _, rfl, rfl⟩
    rintro σ1 H1 ⟨own, rfl, rfl⟩
    refine ⟨_, rfl, _, _, rfl, rfl, .inl ⟨by decide, by decide⟩, _, _, rfl, rfl, ?_⟩
    refine ⟨_, rfl, _, rfl, a, _, rfl, hS, fun p hp => ?_⟩
    have s1 : Same H1 (upd H1 p (.lst (cutV (ns.map V.int) none (some 7)))) := Same.new hp
    refine ⟨_, rfl, ⟨_, SqL.of upd_same⟩, for_list (K := K) (a := p) (xs := cutV (ns.map V.int) none (some 7)) (fun i σ H' => ∃ (st : Int) (v : Option V), σ = [some (.ref a), some (.int k), some (.int own), some (.int st), v, none] ∧ H' = upd H1 p (.lst (cutV (ns.map V.int) none (some 7))))
      ⟨_, none, rfl, rfl⟩ (fun i σ H' _ h => ?_) ?_ ?_⟩
    · obtain ⟨_, _, _, rfl⟩ := h
      exact SqL.of upd_same
    · rintro i y σ H' hi ⟨st, v, rfl, rfl⟩
      obtain ⟨z, rfl⟩ := cut_int_get hi
      exact ⟨_, rfl, _, _, rfl, rfl, .inr ⟨by decide, by decide⟩, _, rfl, .inl ⟨_, rfl, _, _, rfl, rfl, .inr ⟨by decide, by decide⟩, _, _, rfl, rfl, _, _, rfl, rfl, .inl ⟨_, rfl, _, _, rfl, rfl, by show (0 : Int) < 2147483563; decide, _, _, rfl, rfl⟩⟩⟩
    · rintro σ H' ⟨st, v, rfl, rfl⟩
      refine ⟨fun σ' H' => ∃ g : Int, 0 ≤ g ∧ σ' = [some (.ref a), some (.int k), some (.int own), some (.int st), v, some (.int g)] ∧ H' = upd H1 p (.lst (cutV (ns.map V.int) none (some 7))), ?_, ?_⟩
      · refine ⟨_, rfl, _, _, rfl, rfl, _, rfl, ?_⟩
        refine ite2 (fun c => ?_) (fun c => ?_)
        · refine iteT ?_
          refine ⟨_, rfl, _, rfl, _, ?_, rfl, rfl⟩
          split <;> omega
        · refine ⟨_, rfl, _, _, rfl, rfl, ⟨by decide, by decide, by decide⟩, _, _, rfl, rfl, _, rfl, ?_⟩
          refine ite2 (fun c => ?_) (fun c => ?_)
          · refine ⟨_, rfl, _, rfl, _, ?_, rfl, rfl⟩
            split <;> omega
          · exact ⟨0, Int.le_refl _, rfl, rfl⟩
      · rintro σ2 H2 ⟨g, hg, rfl, rfl⟩
        refine ⟨_, rfl, _, rfl, _, rfl, _, _, rfl, rfl, .inr ⟨by decide, by decide⟩, _, _, rfl, rfl, .inl ⟨_, rfl, _, _, rfl, rfl, by show (0 : Int) < 2147483563; decide, by show 3 ≤ sizeLine; decide, fun l hl => ?_⟩⟩
        refine q _ l (s1.free hl) (s1.trans (Same.new hl)) ⟨g, _, 4, hg, Int.emod_nonneg _ (by decide), Int.emod_lt_of_pos _ (by decide), upd_same⟩
theorem scDip : FnScope ["_law_urn_here", "_law_top", "_law_figure", "_law_held"] ["_law_urn_here", "_law_top"] (defScope sDip) := ⟨rfl, rfl, rfl, by decide +kernel, rfl, by decide +kernel, by decide +kernel⟩
theorem ok_dip {f : Addr} {fd : FuncData} (F : Fun K "_law_dip" "_law_dip" sDip f fd) (B : Bi mg) : FnOk P w K mg base CX0 1 f fd ["_law_urn_here", "_law_top"] spDip := by
  refine F.ok scDip (fun vs H Q E h => ?_) (fun cdv A outer s H vs Q E hr h => ?_)
  · obtain ⟨a, t, rfl, _⟩ := h
    rfl
  · obtain ⟨l, t, rfl, ⟨g, x, n, hg, hx, hx2, hU⟩, ht, ht2, q⟩ := h
    have nd := scDip.nd
    refine ⟨_, pss_cons (ps_if (pt_cmpR op_gt (pe_ix ix_list (pv 0) pe_int (fun _ _ => rfl)) pe_int (nomark _))
        (pss_cons (ps_asg (pe_callB call_divmod (by rfl) B.divmod (by decide +kernel) (pa_cons (pe_ix ix_list (pv 0) pe_int (fun _ _ => rfl)) (pa_cons (pv 1) pa_nil)))
            (pg_tup rfl (pgs_cons (pg_sub (pv 0) pe_int set_list) (pgs_cons (pg_name (i := 2) nd rfl (.inl rfl)) pgs_nil))))
          (pss_one (ps_ret (pv 2)))) pss_nil)
      (pss_cons (ps_asg (pe_op op_add (pe_ix ix_list (pv 0) pe_int (fun _ _ => rfl)) pe_int) (pg_sub (pv 0) pe_int set_list))
      (pss_cons (ps_set (i := 3) nd rfl (.inl rfl) (pe_callTy call_int1 (by rfl) B.int PyProof.Rows.boot_int (pa_cons (pe_op op_mul (pe_ix ix_list (pv 0) pe_int (fun _ _ => rfl)) (pe_op op_add pe_int (pe_op op_mod (pe_callTy call_int1 (by rfl) B.int PyProof.Rows.boot_int (pa_cons (pe_ix ix_list (pv 0) pe_int (fun _ _ => rfl)) pa_nil)) pe_int))) pa_nil)))
      (pss_cons (ps_asg (pe_op op_mod (pe_callTy call_int1 (by rfl) B.int PyProof.Rows.boot_int (pa_cons (pe_op op_add (pe_op op_add (pv 3) (pe_op op_mul pe_int (pe_ix ix_list (pv 0) pe_int (fun _ _ => rfl)))) pe_int) pa_nil)) pe_int) (pg_sub (pv 0) pe_int set_list))
      (pss_one (ps_ret (pe_op op_mod (pe_callTy call_int1 (by rfl) B.int PyProof.Rows.boot_int (pa_cons (pe_op op_fdiv (pe_ix ix_list (pv 0) pe_int (fun _ _ => rfl)) pe_int) pa_nil)) (pv 1))))))), ?_⟩
    refine ⟨_, rfl, _, _, _, _, rfl, rfl, SqL.of hU, rfl, _, _, rfl, rfl, _, rfl, ite2 (fun c => ?_) (fun c => ?_)⟩
    · refine ⟨_, rfl, _, _, _, _, rfl, rfl, SqL.of hU, rfl, _, rfl, _, _, rfl, ⟨ht, ht2⟩, fun p hp => ?_⟩
      have npl : l ≠ p := ne_of_none hU hp
      refine ⟨_, _, rfl, SqT.of upd_same, rfl, _, _, rfl, ⟨_, rfl, _, _, _, _, rfl, rfl, Eq.trans (upd_ne npl) hU, rfl, ?_⟩⟩
      refine ⟨_, _, rfl, ⟨rfl, ?_⟩⟩
      refine ⟨_, rfl, q _ _ ((Kept.new hp).trans Kept.upd) ⟨_, x, n, ?_, hx, hx2, upd_same⟩ (Int.emod_nonneg _ (by omega)) (Int.emod_lt_of_pos _ ht)⟩
      exact Int.ediv_nonneg hg (Int.le_of_lt ht)
    · refine ⟨_, rfl, _, _, _, _, rfl, rfl, SqL.of hU, rfl, _, _, rfl, rfl, _, rfl, _, _, _, _, rfl, rfl, hU, rfl, ?_⟩
      refine ⟨_, rfl, _, _, _, _, rfl, rfl, SqL.of upd_same, rfl, _, rfl, _, _, _, _, rfl, rfl, SqL.of upd_same, rfl, .inl ⟨_, rfl, _, _, rfl, rfl, by show (0 : Int) < 5003; decide, _, _, rfl, rfl, _, _, rfl, rfl, .inl ⟨by show -(2 ^ 64) < x; omega, by show x < 2 ^ 64; omega⟩, .inl ⟨_, rfl, ?_⟩⟩⟩
      refine ⟨_, rfl, _, rfl, _, _, _, _, rfl, rfl, SqL.of upd_same, rfl, _, _, rfl, rfl, .inl ⟨by decide, by decide⟩, _, _, rfl, rfl, _, _, rfl, rfl, .inl ⟨_, rfl, _, _, rfl, rfl, by show (0 : Int) < 2147483563; decide, _, rfl, _, _, _, _, rfl, rfl, upd_same, rfl, ?_⟩⟩
      refine ⟨_, rfl, _, _, _, _, rfl, rfl, SqL.of upd_same, rfl, _, _, rfl, rfl, ⟨by decide, by decide⟩, .inl ⟨_, rfl, _, rfl, _, _, rfl, rfl, ht, ?_⟩⟩
      exact q _ _ (Kept.upd.trans Kept.upd) ⟨g, _, _, hg, Int.emod_nonneg _ (by decide), Int.emod_lt_of_pos _ (by decide), upd_same⟩ (Int.emod_nonneg _ (by omega)) (Int.emod_lt_of_pos _ ht)
theorem scFrom : FnScope ["_law_urn_here", "_law_some"] ["_law_urn_here", "_law_some"] (defScope sFrom) := ⟨rfl, rfl, rfl, by decide +kernel, rfl, by decide +kernel, by decide +kernel⟩
theorem ok_from {f fD : Addr} {fd fdD : FuncData} (F : Fun K "_law_from" "_law_from" sFrom f fd) (B : Bi mg) (gD : mg "_law_dip" = some (.ref fD)) (FD : Fun K "_law_dip" "_law_dip" sDip fD fdD) (bD : Binds K fdD ["_law_urn_here", "_law_top"] []) :
    FnOk P w K mg base CX0 2 f fd ["_law_urn_here", "_law_some"] (spFrom K) := by
  have GD : FnOk P w K mg base CX0 1 fD fdD ["_law_urn_here", "_law_top"] spDip := ok_dip FD B
  refine F.ok scFrom (fun vs H Q E h => ?_) (fun cdv A outer s H vs Q E hr h => ?_)
  · obtain ⟨l, a, xs, rfl, _⟩ := h
    rfl
  · obtain ⟨l, a, xs, rfl, hU, hA, nal, h0, h1, q⟩ := h
    refine ⟨_, pss_one (ps_ret (pe_ix ix_list (pv 1) (pe_call GD hr rfl gD FD.kp bD .nil pass0 (pa_cons (pv 0) (pa_cons (pe_callB call_len_seq (by rfl) B.len PySem.boot_len (pa_cons (pv 1) pa_nil)) pa_nil))) (fun _ _ => rfl))), ?_⟩
    refine ⟨_, rfl, _, rfl, _, rfl, _, _, rfl, .inl (SqL.of hA), l, _, rfl, hU, by omega, by omega, fun H' r k u r0 r1 => ?_⟩
    have hi : r.toNat < xs.length := by omega
    refine ⟨a, xs, r, xs[r.toNat], rfl, rfl, SqL.of (k _ _ nal hA), ?_, ?_⟩
    · exact at_of (j := r.toNat) (by omega) (List.getElem?_eq_getElem hi)
    · exact q _ r.toNat _ (List.getElem?_eq_getElem hi) k u
end
end Ca
set_option Elab.async false
set_option linter.all false
set_option maxRecDepth 100000
set_option maxHeartbeats 4000000
namespace Ca
open PySem L2
/-! ### data of tuples, ints and texts alone, behind changes of a list -/
mutual
def noL : PyData → Bool
  | .list _ => false
  | .dict _ => false
  | .tuple ds => noLs ds
  | _ => true
def noLs : List PyData → Bool
  | [] => true
  | d :: ds => noL d && noLs ds
end
theorem sqt_but {K : PySem.W.Frag} {H H' : Hp} {l a : Addr} {ys xs : List V} (hl : H l = some (.lst ys)) (k : Kept l H H') (h : SqT K H a xs) : SqT K H' a xs := by
  have n : ∀ o, H a = some o → (∀ zs, o ≠ .lst zs) → a ≠ l := fun o e z y => by
    rw [y, hl] at e
    cases e
    exact z _ rfl
  rcases h with (e | ⟨o, e⟩) | e
  · exact .inl (.inl (k _ _ (n _ e fun _ z => nomatch z) e))
  · exact .inl (.inr ⟨o, k _ _ (n _ e fun _ z => nomatch z) e⟩)
  · exact .inr e
mutual
theorem Dq.but {K : PySem.W.Frag} {H H' : Hp} {l : Addr} {ys : List V} (hl : H l = some (.lst ys)) (k : Kept l H H') : ∀ {d : PyData} {v : V}, noL d = true → Dq K H v d → Dq K H' v d
  | .none, _, _, h => by cases h; exact .non
  | .bool b, _, _, h => by cases h; exact .bl b
  | .int i, _, _, h => by cases h; exact .int i
  | .str x, _, _, h => by cases h with | str _ a => exact .str x a
  | .list ds, _, n, _ => by simp [noL] at n
  | .tuple ds, _, n, h => by
    cases h with
    | tup a b => exact .tup (sqt_but hl k a) (DqAll.but hl k (by simpa only [noL] using n) b)
  | .dict ds, _, n, _ => by simp [noL] at n
theorem DqAll.but {K : PySem.W.Frag} {H H' : Hp} {l : Addr} {ys : List V} (hl : H l = some (.lst ys)) (k : Kept l H H') : ∀ {ds : List PyData} {vs : List V}, noLs ds = true → DqAll K H vs ds → DqAll K H' vs ds
  | [], _, _, h => by cases h; exact .nil
  | d :: ds, _, n, h => by
    obtain ⟨n1, n2⟩ := Bool.and_eq_true_iff.mp (show (noL d && noLs ds) = true by simpa only [noLs] using n)
    cases h with
    | cons a b => exact .cons (Dq.but hl k n1 a) (DqAll.but hl k n2 b)
end
theorem urn_lst {H : Hp} {l : Addr} (u : Urn H l) : ∃ ys, H l = some (.lst ys) := by
  obtain ⟨g, x, n, _, _, _, h⟩ := u
  exact ⟨_, h⟩
theorem noL_strD (p : Int × Int) : noL (strD p) = true := rfl
theorem noLs_map {α : Type} (g : α → PyData) (h : ∀ a, noL (g a) = true) : ∀ l : List α, noLs (l.map g) = true
  | [] => rfl
  | a :: l => by
    simp only [List.map_cons, noLs]
    rw [h a, noLs_map g h l]
    rfl
theorem noL_strs (ns : List Str) : noLs (ns.map .str) = true := noLs_map _ (fun _ => rfl) ns
theorem noL_folk (ns : List Str) : noL (folkD ns) = true := noL_strs ns
theorem noL_row (r : Rw) : noL (rowD r) = true := by
  have := noLs_map strD noL_strD r.parts
  unfold rowD
  simp only [noL, noLs, this, noL_strD]
  rfl
theorem noL_rows (rs : List Rw) : noL (rowsD rs) = true := noLs_map rowD noL_row rs
/-- a comprehension that draws from the urn at l, its items kept as data -/
theorem lc_draw {J : It} {n : Nat} {G : Hp → Prop} {Y : Nat → Hp → V → Hp → Prop} (w : Walk J n G Y) {K : PySem.W.Frag} {α : Type} (g : α → PyData) (ok : Nat → α → Prop) {te : TE} {vs : List Nat} {σ : L2.St} {H1 : Hp} {D l : Addr} {Qd : Hp → Prop} {j : Nat} (hg : ∀ a, noL (g a) = true) (hn : n ≤ 100000) (hU : Urn H1 l) (hD : H1 D = none)
    (hG : ∀ H, Kept l H1 H → G H) (hY : ∀ i H x H', Y i H x H' → H' = H) (hw : ∀ x, wipe ((wipe σ vs).set j (some x)) vs = wipe σ vs)
    (hs : ∀ i x H (Qk : VK), i < n → Y i H x H → Kept l H1 H → Urn H l → (∀ y a H4, Kept l H H4 → Urn H4 l → Dq K H4 y (g a) → ok i a → Qk y H4) → te ((wipe σ vs).set j (some x)) H Qk)
    (hd : ∀ H xs (as : List α), Kept l H1 H → Urn H l → H D = some (.lst xs) → DqAll K H xs (as.map g) → as.length = n → (∀ i a, as[i]? = some a → ok i a) → Qd H) :
    ∃ W : Nat → Nat → Hp → Prop, (∃ m, W 0 m (upd H1 D (.lst []))) ∧ ∀ i m H, W i m H →
      (J.stop i H ∧ Qd H) ∨ (J.go i H ∧ ∃ Nx : Hp → Prop, (∀ H', Nx H' → ∃ m', m' < m ∧ W (i + 1) m' H') ∧ ∀ x H', J.yld i H x H' → gName j x (wipe σ vs) H' fun σ2 H2 => wipe σ2 vs = wipe σ vs ∧ tYes σ2 H2 fun b H3 =>
        if b = true then te σ2 H3 fun y H4 => ∃ acc, H4 D = some (.lst acc) ∧ acc.length < sizeLine ∧ Nx (upd H4 D (.lst (acc ++ [y]))) else Nx H3) := by
  obtain ⟨lo, hlo⟩ := hU.some
  have nDl : D ≠ l := fun z => by rw [z, hlo] at hD; cases hD
  refine lc_it w (fun i H => Kept l H1 H ∧ Urn H l ∧ ∃ xs, ∃ as : List α, H D = some (.lst xs) ∧ DqAll K H xs (as.map g) ∧ as.length = i ∧ ∀ i a, as[i]? = some a → ok i a)
    ⟨(Same.new hD).kept, hU.same (Same.new hD), [], [], upd_same, .nil, rfl, fun _ _ z => nomatch z⟩ (fun i H _ p => hG H p.1) ?_ (fun H p => by
      obtain ⟨p1, p2, xs, as, p3, p4, p5, p6⟩ := p
      exact hd H xs as p1 p2 p3 p4 p5 p6)
  rintro i x H H' hi ⟨p1, p2, xs, as, p3, p4, p5, p6⟩ yy
  obtain rfl := hY i H x H' yy
  refine ⟨hw _, rdYes (hs i x _ _ hi yy p1 p2 fun y a H4 k4 u4 q4 ok4 => ?_)⟩
  have d4 := k4 _ _ nDl p3
  obtain ⟨us, hus⟩ := urn_lst p2
  have a4 : DqAll K H4 xs (as.map g) := DqAll.but hus k4 (noLs_map g hg as) p4
  have kD : Kept D H4 (upd H4 D (.lst (xs ++ [y]))) := fun b o n e => by rw [upd_ne n]; exact e
  refine ⟨_, d4, ?_, fun b o n e => ?_, ?_, xs ++ [y], as ++ [a], upd_same, ?_, by rw [List.length_append, p5]; rfl, fun i' a' hia => ?_⟩
  · have := p4.len
    rw [List.length_map, p5] at this
    rw [this]
    exact Nat.lt_of_lt_of_le (Nat.lt_of_lt_of_le hi hn) (by decide)
  · have nb : b ≠ D := fun z => by rw [z, hD] at e; cases e
    rw [upd_ne nb]
    exact k4 _ _ n (p1 _ _ n e)
  · obtain ⟨x1, x2, x3, y1, y2, y3, y4⟩ := u4
    exact ⟨x1, x2, x3, y1, y2, y3, by rw [upd_ne nDl.symm]; exact y4⟩
  · rw [List.map_append]
    exact (DqAll.but d4 kD (noLs_map g hg as) a4).app (.cons (Dq.but d4 kD (hg a) q4) .nil)
  · by_cases c : i' < as.length
    · rw [List.getElem?_append_left c] at hia
      exact p6 i' a' hia
    · rw [List.getElem?_append_right (Nat.le_of_not_lt c)] at hia
      have e0 : i' - as.length = 0 := by
        cases z : i' - as.length with
        | zero => rfl
        | succ k => rw [z] at hia; cases hia
      rw [e0] at hia
      cases hia
      have : i' = i := by omega
      rw [this]
      exact ok4
end Ca
set_option Elab.async false
set_option linter.all false
set_option maxRecDepth 100000
set_option maxHeartbeats 4000000
namespace Ca
open PySem L2
section
variable {X : Cx}
theorem ixL (K : PySem.W.Frag) (h : X.K = K := by rfl) : IxR X (rIxL K) := h ▸ ix_list
end
theorem idx_inj : ∀ b s j k : Fin 11, s ≠ 0 → j ≠ k → (b.val + s.val * j.val) % 11 ≠ (b.val + s.val * k.val) % 11 := by decide +kernel
def pick (ms : List Str) (b s m : Nat) : List Str := (List.range m).map fun k => ms.getD ((b + s * k) % 11) ""
theorem pick_mem {ms : List Str} {b s m : Nat} (h : ms.length = 11) : ∀ x ∈ pick ms b s m, x ∈ ms := by
  intro x hx
  obtain ⟨k, _, rfl⟩ := List.mem_map.mp hx
  have : (b + s * k) % 11 < ms.length := by rw [h]; exact Nat.mod_lt _ (by decide)
  rw [List.getD_eq_getElem?_getD, List.getElem?_eq_getElem this]
  exact List.getElem_mem this
theorem pick_nodup {ms : List Str} {b s m : Nat} (h : ms.length = 11) (nd : ms.Nodup) (hb : b < 11) (hs : 1 ≤ s) (hs2 : s < 11) (hm : m ≤ 11) : (pick ms b s m).Nodup := by
  refine List.pairwise_iff_getElem.mpr fun i j hi hj hij => ?_
  unfold pick at hi hj ⊢
  rw [List.length_map, List.length_range] at hi hj
  rw [List.getElem_map, List.getElem_map, List.getElem_range, List.getElem_range]
  have l1 : (b + s * i) % 11 < ms.length := by rw [h]; exact Nat.mod_lt _ (by decide)
  have l2 : (b + s * j) % 11 < ms.length := by rw [h]; exact Nat.mod_lt _ (by decide)
  rw [List.getD_eq_getElem?_getD, List.getElem?_eq_getElem l1, List.getD_eq_getElem?_getD, List.getElem?_eq_getElem l2]
  have ne := idx_inj ⟨b, hb⟩ ⟨s, hs2⟩ ⟨i, by omega⟩ ⟨j, by omega⟩ (by intro z; have := congrArg Fin.val z; simp at this; omega) (by intro z; have := congrArg Fin.val z; simp at this; omega)
  show ms[(b + s * i) % 11] ≠ ms[(b + s * j) % 11]
  rcases Nat.lt_or_gt_of_ne ne with c | c
  · exact List.pairwise_iff_getElem.mp nd _ _ l1 l2 c
  · exact (List.pairwise_iff_getElem.mp nd _ _ l2 l1 c).symm
def spUnlike (K : PySem.W.Frag) : Sp := fun vs H Q _ => ∃ (l a : Addr) (ms : List Str) (m : Nat), vs = [.ref l, .ref a, .int m] ∧ Urn H l ∧ a ≠ l ∧ H a = some (.lst (ms.map V.str)) ∧ ms.length = 11 ∧ ms.Nodup ∧ m ≤ 11 ∧
  ∀ H' p (ns : List Str), Kept l H H' → Urn H' l → H p = none → H' p = some (.lst (ns.map V.str)) → ns.length = m → ns.Nodup → (∀ x ∈ ns, x ∈ ms) → Q (.ref p) H'
section
variable {P : Program} {w : World} {K : PySem.W.Frag} {mg : Str → Option Value} {base : Heap} {C : Addr}
abbrev NUn : List Str := ["_law_urn_here", "_law_menu", "_law_many", "_law_begin", "_law_step", "_law_k"]
theorem scUnlike : FnScope NUn ["_law_urn_here", "_law_menu", "_law_many"] (defScope sLawUnlike) := ⟨rfl, rfl, rfl, by decide +kernel, rfl, by decide +kernel, by decide +kernel⟩
theorem ok_unlike {f fD : Addr} {fd fdD : FuncData} (F : FnT K "_law_unlike" sLawUnlike f fd) (B : Bn mg) (rng : mg "range" = none)
    (gD : mg "_law_dip" = some (.ref fD)) (GD : FnOk P w K mg base CX0 1 fD fdD ["_law_urn_here", "_law_top"] spDip) (kD : PySem.W.keepIn K (.ref fD) = true) (bD : Binds K fdD ["_law_urn_here", "_law_top"] []) :
    FnOk P w K mg base CX0 2 f fd ["_law_urn_here", "_law_menu", "_law_many"] (spUnlike K) := by
  refine F.ok scUnlike (fun vs H Q E h => ?_) (fun cdv A outer s H vs Q E hr h => ?_)
  · obtain ⟨l, a, ms, m, rfl, _⟩ := h
    rfl
  · obtain ⟨l, a, ms, m, rfl, hU, nal, hA, hms, hnd, hm, q⟩ := h
    have nd := scUnlike.nd
    refine ⟨_, PSs.nox (pss_cons (ps_asg (pe_tup (pa_cons (pe_call GD hr rfl gD kD bD .nil pass0 (pa_cons (pv 0) (pa_cons pe_int pa_nil))) (pa_cons (pe_op op_add pe_int (pe_call GD hr rfl gD kD bD .nil pass0 (pa_cons (pv 0) (pa_cons pe_int pa_nil)))) pa_nil)))
        (pg_tup rfl (pgs_cons (pg_name (i := 3) nd rfl (.inr rfl)) (pgs_cons (pg_name (i := 4) nd rfl (.inr rfl)) pgs_nil))))
      (pss_one (ps_ret (pe_lc (own := [("_law_k", 5)]) (g := gName 5) (tt := tYes) rfl nd (pi_range1 rfl rng (pa_cons (pv 2) pa_nil))
        (blkOk_by (own := [("_law_k", 5)]) (N := NUn) (sc := defScope sLawUnlike) (by decide +kernel)) (fun _ _ _ _ _ => pg_name (i := 5) nd rfl (Or.inl rfl)) (fun _ _ _ _ _ => pts_nil)
        (fun _ _ _ _ _ => pe_ix (ixL K) (pv 1) (pe_op op_mod (pe_callTy call_int1 (by rfl) B.int (by decide +kernel) (pa_cons (pe_op op_add (pv 3) (pe_op op_mul (pv 4) (pv 5))) pa_nil)) pe_int) (fun _ _ => rfl)))))), ?_⟩
    refine ⟨_, rfl, l, 11, rfl, hU, by decide, by decide, fun H1 b k1 u1 b0 b1 => ⟨_, rfl, l, 10, rfl, u1, by decide, by decide, fun H2 st k2 u2 s0 s1 => ⟨_, _, rfl, rfl, by show 2 ≤ sizeLine; decide, fun p hp => ?_⟩⟩⟩
    obtain ⟨bn, rfl⟩ := Int.eq_ofNat_of_zero_le b0
    obtain ⟨sn, rfl⟩ := Int.eq_ofNat_of_zero_le s0
    refine ⟨p, _, rfl, SqT.of upd_same, rfl, _, _, rfl, _, _, rfl, rfl, ?_⟩
    have hA3 : upd H2 p (.tup [.int (bn : Nat), .int (1 + (sn : Nat))]) a = some (.lst (ms.map V.str)) := by
      have := k2 _ _ nal (k1 _ _ nal hA)
      rw [upd_ne (ne_of_none this hp)]
      exact this
    have k3 : Kept l H (upd H2 p (.tup [.int (bn : Nat), .int (1 + (sn : Nat))])) := k1.trans (k2.trans (Same.new hp).kept)
    have u3 := u2.same (Same.new (o := .tup [.int (bn : Nat), .int (1 + (sn : Nat))]) hp)
    refine ⟨_, rfl, (m : Int), rfl, by omega, by omega, fun D hD => ?_⟩
    refine lc_known (walk_range (lo := 0) (n := m)) (fun k => .str (ms.getD ((bn + (1 + sn) * k) % 11) "")) (by omega) hD (fun _ _ => trivial) (fun _ _ _ _ y => by obtain ⟨rfl, _⟩ := y; exact fun _ _ e => e) (fun _ => rfl) ?_ ?_
    · rintro k x H5 H6 Qk hk s5 ⟨rfl, rfl⟩ kk
      have k1 := kk _ (fun _ _ e => e)
      have lt : (bn + (1 + sn) * k) % 11 < ms.length := by rw [hms]; exact Nat.mod_lt _ (by decide)
      refine ⟨_, rfl, _, rfl, _, rfl, _, rfl, _, _, rfl, rfl, .inl ⟨by omega, by omega⟩, _, _, rfl, rfl, .inl ⟨_, rfl, ?_⟩⟩
      refine ⟨_, _, rfl, rfl, by show (0 : Int) < 11; decide, a, _, _, _, rfl, rfl, SqL.of (s5 _ _ hA3), ?_, k1⟩
      have ei : ((bn : Int) + (1 + (sn : Int)) * (0 + (k : Int))) % 11 = (((bn + (1 + sn) * k) % 11 : Nat) : Int) := by
        have hP : (1 + (sn : Int)) * (k : Int) = (((1 + sn) * k : Nat) : Int) := by
          rw [Int.natCast_mul, Int.natCast_add]
          rfl
        rw [Int.zero_add, hP]
        generalize (1 + sn) * k = z
        omega
      rw [ei]
      refine atI_nat ?_
      rw [List.getElem?_map, List.getElem?_eq_getElem lt, List.getD_eq_getElem?_getD, List.getElem?_eq_getElem lt]
      rfl
    · intro H5 s5 bD
      have hDn : H D = none := by
        cases z : H D with
        | none => rfl
        | some o =>
          by_cases c : D = l
          · rw [c] at hD
            obtain ⟨o2, ho2⟩ := u3.some
            rw [ho2] at hD
            cases hD
          · rw [k3 _ _ c z] at hD
            cases hD
      refine q H5 D (pick ms bn (1 + sn) m) (k3.trans s5.kept) (u3.same s5) hDn ?_ (by unfold pick; rw [List.length_map, List.length_range]) (pick_nodup hms hnd (by omega) (by omega) (by omega) hm) (pick_mem hms)
      rw [bD]
      unfold pick
      rw [List.map_map]
      rfl
end
end Ca
set_option Elab.async false
set_option linter.all false
set_option maxRecDepth 100000
set_option maxHeartbeats 4000000
namespace Ca
open PySem L2
def spStretch (K : PySem.W.Frag) : Sp := fun vs H Q _ => ∃ l : Addr, vs = [.ref l] ∧ Urn H l ∧ ∀ H' v p, Kept l H H' → Urn H' l → Dq K H' v (strD p) → isStretchD (strD p) = true → Q v H'
theorem two_ok {p : Int × Int} (h1 : -10000 ≤ p.1) (h2 : p.1 ≤ p.2) (h3 : p.2 ≤ 10000) : isStretchD (strD p) = true := by
  show (decide (-10000 ≤ p.1) && (decide (p.1 ≤ p.2) && decide (p.2 ≤ 10000))) = true
  rw [decide_eq_true h1, decide_eq_true h2, decide_eq_true h3]
  rfl
theorem five {H : Hp} {t1 t2 t3 t4 t5 p : Addr} {o1 o2 o3 o4 o5 : HO} (o : HO) (h1 : H t1 = none) (h2 : upd H t1 o1 t2 = none) (h3 : upd (upd H t1 o1) t2 o2 t3 = none) (h4 : upd (upd (upd H t1 o1) t2 o2) t3 o3 t4 = none)
    (h5 : upd (upd (upd (upd H t1 o1) t2 o2) t3 o3) t4 o4 t5 = none) (hp : upd (upd (upd (upd (upd H t1 o1) t2 o2) t3 o3) t4 o4) t5 o5 p = none) :
    Same H (upd (upd (upd (upd (upd (upd H t1 o1) t2 o2) t3 o3) t4 o4) t5 o5) p o) ∧ upd (upd (upd (upd (upd (upd H t1 o1) t2 o2) t3 o3) t4 o4) t5 o5) p o t1 = some o1 ∧ upd (upd (upd (upd (upd (upd H t1 o1) t2 o2) t3 o3) t4 o4) t5 o5) p o t2 = some o2 ∧
    upd (upd (upd (upd (upd (upd H t1 o1) t2 o2) t3 o3) t4 o4) t5 o5) p o t3 = some o3 ∧ upd (upd (upd (upd (upd (upd H t1 o1) t2 o2) t3 o3) t4 o4) t5 o5) p o t4 = some o4 ∧ upd (upd (upd (upd (upd (upd H t1 o1) t2 o2) t3 o3) t4 o4) t5 o5) p o t5 = some o5 ∧ ∀ b u, H b = some u → p ≠ b := by
  have s1 := Same.new (o := o1) h1
  have s2 := Same.new (o := o2) h2
  have s3 := Same.new (o := o3) h3
  have s4 := Same.new (o := o4) h4
  have s5 := Same.new (o := o5) h5
  have sp := Same.new (o := o) hp
  exact ⟨s1.trans (s2.trans (s3.trans (s4.trans (s5.trans sp)))), sp _ _ (s5 _ _ (s4 _ _ (s3 _ _ (s2 _ _ upd_same)))), sp _ _ (s5 _ _ (s4 _ _ (s3 _ _ upd_same))), sp _ _ (s5 _ _ (s4 _ _ upd_same)), sp _ _ (s5 _ _ upd_same), sp _ _ upd_same, fun b u e z => by
    rw [z, s5 _ _ (s4 _ _ (s3 _ _ (s2 _ _ (s1 _ _ e))))] at hp
    cases hp⟩
theorem strD_at {K : PySem.W.Frag} {H : Hp} {t : Addr} {a b : Int} (h : H t = some (.tup [.int a, .int b])) : Dq K H (.ref t) (strD (a, b)) := .tup (SqT.of h) (.cons (.int _) (.cons (.int _) .nil))
section
variable {P : Program} {w : World} {K : PySem.W.Frag} {mg : Str → Option Value} {base : Heap} {C : Addr}
theorem scStretch : FnScope ["_law_urn_here", "_law_most", nmLow] ["_law_urn_here"] (defScope sLawStretch) := ⟨rfl, rfl, rfl, by decide +kernel, rfl, by decide +kernel, by decide +kernel⟩
theorem ok_stretch {f fD fF : Addr} {fd fdD fdF : FuncData} (F : FnT K "_law_stretch" sLawStretch f fd)
    (gD : mg "_law_dip" = some (.ref fD)) (GD : FnOk P w K mg base CX0 1 fD fdD ["_law_urn_here", "_law_top"] spDip) (kD : PySem.W.keepIn K (.ref fD) = true) (bD : Binds K fdD ["_law_urn_here", "_law_top"] [])
    (gF : mg "_law_from" = some (.ref fF)) (GF : FnOk P w K mg base CX0 2 fF fdF ["_law_urn_here", "_law_some"] (spFrom K)) (kF : PySem.W.keepIn K (.ref fF) = true) (bF : Binds K fdF ["_law_urn_here", "_law_some"] []) :
    FnOk P w K mg base CX0 3 f fd ["_law_urn_here"] (spStretch K) := by
  refine F.ok scStretch (fun vs H Q E h => ?_) (fun cdv A outer s H vs Q E hr h => ?_)
  · obtain ⟨l, rfl, _⟩ := h
    rfl
  · obtain ⟨l, rfl, hU, q⟩ := h
    have nd := scStretch.nd
    have hr1 : Room 1 _ := hr.mono (by decide)
    have ifT {A B : Prop} {c : Bool} (h : c = true) (a : A) : (if c = true then A else B) := by rw [if_pos h]; exact a
    refine ⟨_, PSs.nox (pss_cons (ps_if (pt_cmpR op_eq (pe_call GD hr1 rfl gD kD bD .nil pass0 (pa_cons (pv 0) (pa_cons pe_int pa_nil))) pe_int (nomark _))
        (pss_cons (ps_cut (ps_set (i := 1) nd rfl (.inl rfl) (pe_op op_pow pe_int pe_int)))
        (pss_one (ps_ret (pe_call GF hr rfl gF kF bF .nil pass0 (pa_cons (pv 0) (pa_cons (pe_lst (pa_cons (pe_tup (pa_cons (pe_op op_sub pe_int (pv 1)) (pa_cons (pv 1) pa_nil)))
          (pa_cons (pe_tup (pa_cons (pv 1) (pa_cons (pv 1) pa_nil))) (pa_cons (pe_tup (pa_cons (pe_op op_sub pe_int (pv 1)) (pa_cons pe_int pa_nil))) (pa_cons (pe_tup (pa_cons pe_int (pa_cons pe_int pa_nil)))
          (pa_cons (pe_tup (pa_cons (pe_op op_sub pe_int (pv 1)) (pa_cons (pe_op op_sub pe_int (pv 1)) pa_nil))) pa_nil)))))) pa_nil)))))) pss_nil)
      (pss_cons (ps_set (i := 2) nd rfl (.inl rfl) (pe_call GF hr rfl gF kF bF .nil pass0 (pa_cons (pv 0) (pa_cons (pe_lst (pa_cons pe_int (pa_cons pe_int (pa_cons pe_int (pa_cons (pe_un un_neg pe_int) (pa_cons (pe_un un_neg pe_int)
          (pa_cons (pe_op op_sub (pe_call GD hr1 rfl gD kD bD .nil pass0 (pa_cons (pv 0) (pa_cons pe_int pa_nil))) pe_int) pa_nil))))))) pa_nil))))
      (pss_one (ps_ret (pe_tup (pa_cons (pv 2) (pa_cons (pe_op op_add (pv 2) (pe_call GF hr rfl gF kF bF .nil pass0 (pa_cons (pv 0) (pa_cons (pe_lst (pa_cons pe_int (pa_cons pe_int (pa_cons pe_int (pa_cons pe_int
          (pa_cons (pe_call GD hr1 rfl gD kD bD .nil pass0 (pa_cons (pv 0) (pa_cons pe_int pa_nil))) pa_nil)))))) pa_nil)))) pa_nil))))))), ?_⟩
    refine ⟨_, rfl, l, 12, rfl, hU, by decide, by decide, fun H1 b k1 u1 b0 b1 => ⟨rfl, _, rfl, ite2 (fun g => ?_) (fun g => ?_)⟩⟩
    · refine ⟨fun σ' H' => σ' = [some (.ref l), some (.int 10000), none] ∧ H' = H1, ⟨_, _, rfl, rfl, ⟨by decide, by decide, by decide⟩, rfl, rfl⟩, ?_⟩
      rintro _ _ ⟨rfl, rfl⟩
      have two : 2 ≤ sizeLine := by decide
      refine ⟨_, rfl, _, rfl, _, _, rfl, rfl, _, rfl, two, fun t1 h1 => ⟨_, rfl, _, rfl, two, fun t2 h2 => ⟨_, rfl, _, _, rfl, rfl, two, fun t3 h3 => ⟨two, fun t4 h4 => ⟨_, rfl, _, _, rfl, rfl, _, rfl, _, _, rfl, rfl, two, fun t5 h5 => ⟨by show 5 ≤ sizeLine; decide, fun p hp => ?_⟩⟩⟩⟩⟩⟩
      obtain ⟨sG, a1, a2, a3, a4, a5, ap⟩ := five (.lst [.ref t1, .ref t2, .ref t3, .ref t4, .ref t5]) h1 h2 h3 h4 h5 hp
      obtain ⟨ys, hys⟩ := urn_lst (u1.same sG)
      obtain ⟨uo, huo⟩ := u1.some
      have npl : p ≠ l := ap l uo huo
      refine ⟨l, p, _, rfl, u1.same sG, upd_same, npl, by show 0 < 5; decide, by show 5 < 1000; decide, fun H2 i v hv k2 u2 => ?_⟩
      have kk : Kept l H H2 := k1.trans (sG.kept.trans k2)
      match i, hv with
      | 0, hv => cases hv; exact q H2 _ (0 - 10000, 10000) kk u2 (Dq.but hys k2 rfl (strD_at a1)) (by decide)
      | 1, hv => cases hv; exact q H2 _ (10000, 10000) kk u2 (Dq.but hys k2 rfl (strD_at a2)) (by decide)
      | 2, hv => cases hv; exact q H2 _ (0 - 10000, 0) kk u2 (Dq.but hys k2 rfl (strD_at a3)) (by decide)
      | 3, hv => cases hv; exact q H2 _ (0, 0) kk u2 (Dq.but hys k2 rfl (strD_at a4)) (by decide)
      | 4, hv => cases hv; exact q H2 _ (0 - 10000, 0 - 10000) kk u2 (Dq.but hys k2 rfl (strD_at a5)) (by decide)
      | n + 5, hv => cases hv
    · refine ⟨_, rfl, _, rfl, _, rfl, _, rfl, l, 25, rfl, u1, by decide, by decide, fun H2 d k2 u2 d0 d1 => ⟨_, _, rfl, rfl, by show 6 ≤ sizeLine; decide, fun p hp => ?_⟩⟩
      obtain ⟨uo, huo⟩ := u2.some
      have s2 := Same.new (o := .lst [.int 0, .int 0, .int 1, .int (-1), .int (-3), .int (d - 12)]) hp
      refine ⟨l, p, _, rfl, u2.same s2, upd_same, (ne_of_none huo hp).symm, by show 0 < 6; decide, by show 6 < 1000; decide, fun H3 i v hv k3 u3 => ?_⟩
      obtain ⟨low, rfl, w1, w2⟩ : ∃ low : Int, v = .int low ∧ -12 ≤ low ∧ low ≤ 12 := by
        match i, hv with
        | 0, hv => cases hv; exact ⟨0, rfl, by decide, by decide⟩
        | 1, hv => cases hv; exact ⟨0, rfl, by decide, by decide⟩
        | 2, hv => cases hv; exact ⟨1, rfl, by decide, by decide⟩
        | 3, hv => cases hv; exact ⟨-1, rfl, by decide, by decide⟩
        | 4, hv => cases hv; exact ⟨-3, rfl, by decide, by decide⟩
        | 5, hv => cases hv; exact ⟨d - 12, rfl, by omega, by omega⟩
        | n + 6, hv => cases hv
      refine ⟨_, rfl, _, rfl, _, rfl, _, rfl, l, 9, rfl, u3, by decide, by decide, fun H4 e k4 u4 e0 e1 => ⟨by show 5 ≤ sizeLine; decide, fun p2 hp2 => ?_⟩⟩
      obtain ⟨uo2, huo2⟩ := u4.some
      have s4 := Same.new (o := .lst [.int 0, .int 0, .int 1, .int 2, .int e]) hp2
      refine ⟨l, p2, _, rfl, u4.same s4, upd_same, (ne_of_none huo2 hp2).symm, by show 0 < 5; decide, by show 5 < 1000; decide, fun H5 i2 v2 hv2 k5 u5 => ?_⟩
      obtain ⟨hi, rfl, z1, z2⟩ : ∃ hi : Int, v2 = .int hi ∧ 0 ≤ hi ∧ hi ≤ 8 := by
        match i2, hv2 with
        | 0, hv => cases hv; exact ⟨0, rfl, by decide, by decide⟩
        | 1, hv => cases hv; exact ⟨0, rfl, by decide, by decide⟩
        | 2, hv => cases hv; exact ⟨1, rfl, by decide, by decide⟩
        | 3, hv => cases hv; exact ⟨2, rfl, by decide, by decide⟩
        | 4, hv => cases hv; exact ⟨e, rfl, by omega, by omega⟩
        | n + 5, hv => cases hv
      refine ⟨_, _, rfl, rfl, by show 2 ≤ sizeLine; decide, fun t ht => ?_⟩
      exact q _ _ (low, low + hi) (k1.trans (k2.trans (s2.kept.trans (k3.trans (k4.trans (s4.kept.trans (k5.trans (Same.new ht).kept))))))) (u5.same (Same.new ht)) (strD_at upd_same) (two_ok (show -10000 ≤ low by omega) (show low ≤ low + hi by omega) (show low + hi ≤ 10000 by omega))
end
end Ca
set_option Elab.async false
set_option linter.all false
set_option maxRecDepth 100000
set_option maxHeartbeats 4000000
namespace Ca
open PySem PySem.Spec PyProof.Rows L2
/-! ### tuples of which it is known that they have no attributes of their own -/
def TupN (H : Hp) (a : Addr) (xs : List V) : Prop := ∃ o : Obj, H a = some (.frz o (.tup xs)) ∧ o.cls = .type "tuple" ∧ o.dict = none
theorem TupN.sq {K : PySem.W.Frag} {H : Hp} {a : Addr} {xs : List V} (h : TupN H a xs) : SqT K H a xs := h.elim fun o e => .inl (.inr ⟨o, e.1⟩)
theorem TupN.same {H H' : Hp} {a : Addr} {xs : List V} (h : TupN H a xs) (s : Same H H') : TupN H' a xs := h.elim fun o e => ⟨o, s _ _ e.1, e.2⟩
theorem TupN.kept {H H' : Hp} {l a : Addr} {xs ys : List V} (hl : H l = some (.lst ys)) (h : TupN H a xs) (k : Kept l H H') : TupN H' a xs := by
  obtain ⟨o, e, r⟩ := h
  exact ⟨o, k _ _ (fun z => by rw [z, hl] at e; cases e) e, r⟩
section
variable {X : Cx} {pins : List (Addr × Obj)} {σ : L2.St} {H : Hp} {s : Shared}
/-- a tuple just pushed, kept as it is -/
theorem pushed_tup {xs : List V} {its : List Value} (I : Inv X pins σ H s) (r : Vals xs its) (z : xs.length ≤ sizeLine) :
    ∃ H', H s.heap.objs.size = none ∧ Same H H' ∧ TupN H' s.heap.objs.size xs ∧ Inv X pins σ H' { s with heap := s.heap.push { cls := .type "tuple", data := .seq its.toArray } } := by
  have free : H s.heap.objs.size = none := I.hok.fresh (Nat.le_refl _)
  have look := Heap.get?_push_size (o := { cls := .type "tuple", data := .seq its.toArray }) s.heap rfl
  refine ⟨upd H s.heap.objs.size (.frz { cls := .type "tuple", data := .seq its.toArray } (.tup xs)), free, Same.new free, ⟨_, upd_same, rfl, rfl⟩, ?_⟩
  exact I.laid (t' := s.toks) (fun b u e => Heap.get?_push_of_some _ e) (Nat.le_refl _) ⟨look, z, its, r, IsTup.new _ _⟩
def tTupN (t : TA) : TE := fun σ H Q => t σ H fun vs H1 => vs.length ≤ sizeLine ∧ ∀ p H2, H1 p = none → Same H1 H2 → TupN H2 p vs → Q (.ref p) H2
theorem pe_tupN {es : List Expr} {k : Nat} {pos : Pos} {t : TA} (h : PA X es t) : PE X (.Tuple es k pos) (tTupN t) := by
  constructor
  intro pins s σ H Q I hq
  refine wpAny_Tuple_spliced (thn (h.run pos pins s σ H _ I hq) ?_)
  rintro us s1 ⟨xs, H1, I1, r, z, q⟩
  obtain ⟨H2, free, sm, tn, I2⟩ := pushed_tup I1 r z
  exact ⟨Nat.le_trans (Nat.le_of_eq r.length.symm) z, .ref _, H2, I2, rfl, q _ H2 free sm tn⟩
/-- tuple(a list) -/
theorem call_tupN (K : PySem.W.Frag) (hK : X.K = K := by rfl) : CallR X (.type "tuple") (fun xs H Q => ∃ p ys, xs = [.ref p] ∧ SqL K H p ys ∧ ∀ l H', H l = none → Same H H' → TupN H' l ys → Q (.ref l) H') := by
  subst hK
  rintro pins s σ H _ us Q I r ⟨p, ys, rfl, hq, q⟩
  obtain rfl := Vals.ref1 r
  obtain ⟨its, r', pl, hz⟩ := I.list hq
  refine call_tuple_list pl.isList (fun h' kp => ?_) (by rw [List.size_toArray, ← r'.length]; exact hz)
  obtain ⟨H2, free, sm, tn, I2⟩ := pushed_tup (s := { s with heap := h' }) (I.kept (t' := s.toks) kp) r' hz
  exact ⟨.ref _, H2, I2, rfl, q _ H2 free sm tn⟩
def tBMN (r : V → List V → Hp → VK → Prop) (to : TE) (t : TA) : TE := fun σ H Q => to σ H fun x H1 => (∃ a xs, x = .ref a ∧ TupN H1 a xs) ∧ t σ H1 fun vs H2 => r x vs H2 Q
/-- t.m(e) for such a tuple -/
theorem pe_bmN {o e : Expr} {es : List Expr} {name : Str} {id : String} {apos cpos : Pos} {to : TE} {t : TA} {r : V → List V → Hp → VK → Prop} (slot : Slot "tuple" name id) (hty : typeOf (.builtin id) = pure (.type "method_descriptor")) (hm : MtR X id r) (ho : PE X o to) (ha : PA X (e :: es) t)
    (h1 : attributeBase o name X.env (eval o X.env) = eval o X.env := by rfl)
    (h2 : ((backTo cpos (starEach (e :: es) X.env)).all (fun x => !x.1) && (backToKw cpos (keywordEach [] X.env)).all (fun x => x.1.isSome) && decide ((e :: es).length + ([] : List Keyword).length + (if ([] : List Keyword).isEmpty then 0 else 1) < 30)) = true := by rfl)
    (h3 : (apos.endLine == cpos.line) = true := by rfl) (h4 : starEach (e :: es) X.env = (false, eval e X.env) :: starEach es X.env := by rfl) (h5 : (backTo cpos (starEach es X.env)).any (·.1) = false := by rfl) :
    PE X (.Call (.Attribute o name apos) (e :: es) [] cpos) (tBMN r to t) := by
  constructor
  intro pins s σ H Q I h
  refine wpAny_Call_method_late h1 h2 h3 rfl (thn (ho.run pins s σ H _ I h) ?_)
  rintro v s1 ⟨x, H1, I1, r1, ⟨a, xs, ex, tn⟩, q1⟩
  subst ex
  obtain rfl : v = Value.ref a := r1
  obtain ⟨ob, eo, co, dn⟩ := tn
  have look : s1.heap.get? a = some ob := (I1.hok a _ eo).1
  refine ⟨"tuple", id, PySem.F.plainAttrs_tuple, slot, hty, ⟨ob, look, co⟩, fun b eb => ?_, ?_⟩
  · cases eb
    exact ⟨ob, look, dn⟩
  have hA := ha.run cpos pins s1 σ H1 _ I1 q1
  rw [h4] at hA ⊢
  refine Calls.callWith_builtin (show (false || (backTo cpos (starEach es X.env)).any (·.1)) = false by rw [h5]; rfl) (Calls.evalArgs_plain (thn hA ?_))
  rintro us s2 ⟨vs, H2, I2, r2, q2⟩
  exact hm pins s2 σ H2 (V.ref a) vs _ us Q I2 rfl r2 q2
end
end Ca
set_option Elab.async false
set_option linter.all false
set_option maxRecDepth 100000
set_option maxHeartbeats 4000000
namespace Ca
open PySem L2
section
variable {X : Cx}
theorem call_lenK (K : PySem.W.Frag) (h : X.K = K := by rfl) : CallR X (.builtin "len") (fun xs H Q => ∃ x n, xs = [x] ∧ LenV K x H n ∧ Q (.int n) H) := h ▸ call_len
end
def spRowD (K : PySem.W.Frag) : Sp := fun vs H Q _ => ∃ (l : Addr) (t : Str) (m : Nat), vs = [.ref l, .str t, .int m] ∧ Urn H l ∧ t.length ≤ 5000 ∧ m ≤ 3 ∧
  ∀ H' v r, Kept l H H' → Urn H' l → Dq K H' v (rowD r) → r.name = t → r.parts.length = m → (∀ p ∈ r.parts ++ [r.bd], isStretchD (strD p) = true) → Q v H'
def caseD (ns : List Str) (rs : List Rw) : PyData := .tuple [folkD ns, rowsD rs]
def menuU : List Str := ["x", "y", "z", "a1", "bounds", "row", "unknowns", "u", "b2", "bound1", "abcdefg8"]
def menuR : List Str := ["need", "room", "more", "bound", "x", "row", "a1", "zz9", "unknowns", "n", "w2345678"]
def spCase (K : PySem.W.Frag) : Sp := fun vs H Q _ => ∃ (l : Addr) (m : Nat), vs = [.ref l, .int 3, .int m] ∧ m ≤ 6 ∧ Urn H l ∧
  ∀ H' v ns rs, Kept l H H' → Urn H' l → Dq K H' v (caseD ns rs) → Folk ns → Lines rs ns.length → rs.length ≤ m → (∀ r ∈ rs, r.name ∈ menuR) → Q v H'
/-- the same, of parts that stand by themselves -/
def spCaseN (K : PySem.W.Frag) : Sp := fun vs H Q _ => ∃ (l : Addr) (m : Nat), vs = [.ref l, .int 3, .int m] ∧ m ≤ 6 ∧ Urn H l ∧
  ∀ H' c u r ns rs, Kept l H H' → Urn H' l → SqT K H' c [.ref u, .ref r] → TupN H' u (ns.map V.str) → Dq K H' (.ref u) (folkD ns) → Dq K H' (.ref r) (rowsD rs) → Folk ns → Lines rs ns.length → rs.length ≤ m → (∀ r ∈ rs, r.name ∈ menuR) → Q (.ref c) H'
theorem row_ok {r : Rw} {m : Nat} (hn : nameS r.name = true) (hp : r.parts.length = m) (h : ∀ p ∈ r.parts ++ [r.bd], isStretchD (strD p) = true) : isRowD (rowD r) m = true := by
  refine Bool.and_eq_true_iff.mpr ⟨hn, Bool.and_eq_true_iff.mpr ⟨?_, ?_⟩⟩
  · show decide ((r.parts.map strD).length = m) = true
    rw [List.length_map]
    exact decide_eq_true hp
  · show ((r.parts.map strD ++ [strD r.bd]).all isStretchD) = true
    rw [show r.parts.map strD ++ [strD r.bd] = (r.parts ++ [r.bd]).map strD by rw [List.map_append]; rfl, List.all_map, List.all_eq_true]
    exact h
section
variable {P : Program} {w : World} {K : PySem.W.Frag} {mg : Str → Option Value} {base : Heap} {C : Addr}
abbrev NRowD : List Str := ["_law_urn_here", "_law_title", "_law_many", "_law_k"]
theorem scRowD : FnScope NRowD ["_law_urn_here", "_law_title", "_law_many"] (defScope sLawLine) := ⟨rfl, rfl, rfl, by decide +kernel, rfl, by decide +kernel, by decide +kernel⟩
theorem ok_rowD {f fS : Addr} {fd fdS : FuncData} (F : FnT K "_law_line" sLawLine f fd) (B : Bn mg) (rng : mg "range" = none)
    (gS : mg "_law_stretch" = some (.ref fS)) (GS : FnOk P w K mg base CX0 3 fS fdS ["_law_urn_here"] (spStretch K)) (kS : PySem.W.keepIn K (.ref fS) = true) (bS : Binds K fdS ["_law_urn_here"] []) :
    FnOk P w K mg base CX0 4 f fd ["_law_urn_here", "_law_title", "_law_many"] (spRowD K) := by
  refine F.ok scRowD (fun vs H Q E h => ?_) (fun cdv A outer s H vs Q E hr h => ?_)
  · obtain ⟨l, t, m, rfl, _⟩ := h
    rfl
  · obtain ⟨l, t, m, rfl, hU, ht, hm, q⟩ := h
    have nd := scRowD.nd
    refine ⟨_, PSs.nox (pss_one (ps_ret (pe_tup (pa_cons (pv 1) (pa_cons (pe_callTy call_tuple_of (by rfl) B.tup (by decide +kernel) (pa_cons (pe_lc (own := [("_law_k", 3)]) (g := gName 3) (tt := tYes) rfl nd (pi_range1 rfl rng (pa_cons (pv 2) pa_nil))
        (blkOk_by (own := [("_law_k", 3)]) (N := NRowD) (sc := defScope sLawLine) (by decide +kernel)) (fun _ _ _ _ _ => pg_name (i := 3) nd rfl (Or.inl rfl)) (fun _ _ _ _ _ => pts_nil)
        (fun _ _ _ _ _ => pe_call GS hr rfl gS kS bS .nil pass0 (pa_cons (pv 0) pa_nil))) pa_nil)) (pa_cons (pe_call GS hr rfl gS kS bS .nil pass0 (pa_cons (pv 0) pa_nil)) pa_nil)))))), ?_⟩
    refine ⟨_, rfl, _, rfl, (m : Int), rfl, by omega, by omega, fun D hD => ?_⟩
    refine lc_draw (K := K) (walk_range (lo := 0) (n := m)) strD (fun _ p => isStretchD (strD p) = true) noL_strD (by omega) hU hD (fun _ _ => trivial) (fun _ _ _ _ y => y.1) (fun _ => rfl) ?_ ?_
    · intro i x H5 Qk hi yy k5 u5 kk
      exact ⟨_, rfl, l, rfl, u5, fun H6 v p k6 u6 dq ok => kk v p H6 k6 u6 dq ok⟩
    · intro H5 xs ps k5 u5 bD dps hlen hok
      refine ⟨D, xs, rfl, .inl ⟨SqL.of bD, fun tp htp => ?_⟩⟩
      have s6 := Same.new (o := .tup xs) htp
      refine ⟨_, rfl, l, rfl, u5.same s6, fun H7 v7 p7 k7 u7 d7 ok7 => ⟨by show 3 ≤ sizeLine; decide, fun tt htt => ?_⟩⟩
      have s8 := Same.new (o := .tup [.str t, .ref tp, v7]) htt
      obtain ⟨ys, hys⟩ := urn_lst (u5.same s6)
      have d6 : Dq K (upd H5 tp (.tup xs)) (.ref tp) (.tuple (ps.map strD)) := .tup (SqT.of upd_same) (dps.same s6)
      have d7' := Dq.but hys k7 (show noL (.tuple (ps.map strD)) = true from noLs_map strD noL_strD ps) d6
      refine q _ _ ⟨t, ps, p7⟩ (k5.trans (s6.kept.trans (k7.trans s8.kept))) (u7.same s8) (.tup (SqT.of upd_same) (.cons (.str t ht) (.cons (d7'.same s8) (.cons (d7.same s8) .nil)))) rfl hlen ?_
      intro p hp
      rcases List.mem_append.mp hp with z | z
      · obtain ⟨i, hi⟩ := List.mem_iff_getElem?.mp z
        exact hok i p hi
      · rw [List.mem_singleton.mp z]
        exact ok7
theorem menuU_ok : menuU.length = 11 ∧ menuU.Nodup ∧ ∀ x ∈ menuU, isUnknownD (.str x) = true := by decide +kernel
theorem menuR_ok : menuR.length = 11 ∧ menuR.Nodup ∧ ∀ x ∈ menuR, nameS x = true := by decide +kernel
abbrev NCase : List Str := ["_law_urn_here", "_law_many", "_law_most", "_law_menu", "_law_folk", "_law_titles", "_law_title"]
theorem scCase : FnScope NCase ["_law_urn_here", "_law_many", "_law_most"] (defScope sLawCase) := ⟨rfl, rfl, rfl, by decide +kernel, rfl, by decide +kernel, by decide +kernel⟩
theorem ok_caseN {f fD fU fL : Addr} {fd fdD fdU fdL : FuncData} (F : FnT K "_law_case" sLawCase f fd) (B : Bn mg)
    (gD : mg "_law_dip" = some (.ref fD)) (GD : FnOk P w K mg base CX0 1 fD fdD ["_law_urn_here", "_law_top"] spDip) (kD : PySem.W.keepIn K (.ref fD) = true) (bD : Binds K fdD ["_law_urn_here", "_law_top"] [])
    (gU : mg "_law_unlike" = some (.ref fU)) (GU : FnOk P w K mg base CX0 2 fU fdU ["_law_urn_here", "_law_menu", "_law_many"] (spUnlike K)) (kU : PySem.W.keepIn K (.ref fU) = true) (bU : Binds K fdU ["_law_urn_here", "_law_menu", "_law_many"] [])
    (gL : mg "_law_line" = some (.ref fL)) (GL : FnOk P w K mg base CX0 4 fL fdL ["_law_urn_here", "_law_title", "_law_many"] (spRowD K)) (kL : PySem.W.keepIn K (.ref fL) = true) (bL : Binds K fdL ["_law_urn_here", "_law_title", "_law_many"] []) :
    FnOk P w K mg base CX0 5 f fd ["_law_urn_here", "_law_many", "_law_most"] (spCaseN K) := by
  refine F.ok scCase (fun vs H Q E h => ?_) (fun cdv A outer s H vs Q E hr h => ?_)
  · obtain ⟨l, m, rfl, _⟩ := h
    rfl
  · obtain ⟨l, m, rfl, hm, hU, q⟩ := h
    have nd := scCase.nd
    have hr1 : Room 1 _ := hr.mono (by decide)
    have hr2 : Room 2 _ := hr.mono (by decide)
    refine ⟨_, PSs.nox (pss_cons (ps_set (i := 3) nd rfl (.inl rfl) (pe_lst (pa_cons pe_str (pa_cons pe_str (pa_cons pe_str (pa_cons pe_str (pa_cons pe_str (pa_cons pe_str (pa_cons pe_str (pa_cons pe_str (pa_cons pe_str (pa_cons pe_str (pa_cons pe_str pa_nil)))))))))))))
      (pss_cons (ps_set (i := 4) nd rfl (.inr rfl) (pe_call GU hr2 rfl gU kU bU .nil pass0 (pa_cons (pv 0) (pa_cons (pv 3) (pa_cons (pe_op op_add pe_int (pe_call GD hr1 rfl gD kD bD .nil pass0 (pa_cons (pv 0) (pa_cons (pv 1) pa_nil)))) pa_nil)))))
      (pss_cons (ps_set (i := 3) nd rfl (.inl rfl) (pe_lst (pa_cons pe_str (pa_cons pe_str (pa_cons pe_str (pa_cons pe_str (pa_cons pe_str (pa_cons pe_str (pa_cons pe_str (pa_cons pe_str (pa_cons pe_str (pa_cons pe_str (pa_cons pe_str pa_nil)))))))))))))
      (pss_cons (ps_set (i := 5) nd rfl (.inl rfl) (pe_call GU hr2 rfl gU kU bU .nil pass0 (pa_cons (pv 0) (pa_cons (pv 3) (pa_cons (pe_call GD hr1 rfl gD kD bD .nil pass0 (pa_cons (pv 0) (pa_cons (pe_op op_add (pv 2) pe_int) pa_nil))) pa_nil)))))
      (pss_one (ps_ret (pe_tup (pa_cons (pe_callTy (call_tupN K) (by rfl) B.tup (by decide +kernel) (pa_cons (pv 4) pa_nil)) (pa_cons (pe_callTy call_tuple_of (by rfl) B.tup (by decide +kernel) (pa_cons (pe_lc (own := [("_law_title", 6)]) (g := gName 6) (tt := tYes) rfl nd (pi_list (pv 5))
        (blkOk_by (own := [("_law_title", 6)]) (N := NCase) (sc := defScope sLawCase) (by decide +kernel)) (fun _ _ _ _ _ => pg_name (i := 6) nd rfl (Or.inl rfl)) (fun _ _ _ _ _ => pts_nil)
        (fun _ _ _ _ _ => pe_call GL hr rfl gL kL bL .nil pass0 (pa_cons (pv 0) (pa_cons (pv 6) (pa_cons (pe_callB (call_lenK K) (by rfl) B.len boot_len (pa_cons (pv 4) pa_nil)) pa_nil))))) pa_nil)) pa_nil))))))))), ?_⟩
    have l11 : 11 ≤ sizeLine := by decide
    obtain ⟨uo, huo⟩ := hU.some
    refine ⟨l11, fun p1 hp1 => ?_⟩
    have s1 := Same.new (o := .lst (menuU.map V.str)) hp1
    have n1 : p1 ≠ l := (ne_of_none huo hp1).symm
    have b1 : upd H p1 (.lst (menuU.map V.str)) p1 = some (.lst (menuU.map V.str)) := upd_same
    change tSeq _ _ _ _ (upd H p1 (.lst (menuU.map V.str)))
    generalize upd H p1 (.lst (menuU.map V.str)) = H1 at s1 b1 ⊢
    refine ⟨_, rfl, _, rfl, _, rfl, _, rfl, l, 3, rfl, hU.same s1, by decide, by decide, fun H2 d k2 u2 d0 d1 => ?_⟩
    obtain ⟨dn, rfl⟩ := Int.eq_ofNat_of_zero_le d0
    have b2 := k2 _ _ n1 b1
    refine ⟨_, _, rfl, rfl, l, p1, menuU, 1 + dn, by rw [Int.natCast_add]; rfl, u2, n1, b2, menuU_ok.1, menuU_ok.2.1, by omega, fun H3 pf ns k3 u3 hpf b3 lf nf mf => ?_⟩
    have k03 : Kept l H H3 := s1.kept.trans (k2.trans k3)
    have nfl : pf ≠ l := by
      obtain ⟨o, ho⟩ := u2.some
      exact (ne_of_none ho hpf).symm
    have hN : Folk ns := ⟨by omega, by omega, fun x z => menuU_ok.2.2 x (mf x z), nf⟩
    refine ⟨l11, fun p2 hp2 => ?_⟩
    have s4 := Same.new (o := .lst (menuR.map V.str)) hp2
    have n2 : p2 ≠ l := by
      obtain ⟨o, ho⟩ := u3.some
      exact (ne_of_none ho hp2).symm
    have b4 : upd H3 p2 (.lst (menuR.map V.str)) p2 = some (.lst (menuR.map V.str)) := upd_same
    have u4 := u3.same s4
    have b34 := s4 _ _ b3
    change tSeq _ _ _ _ (upd H3 p2 (.lst (menuR.map V.str)))
    generalize upd H3 p2 (.lst (menuR.map V.str)) = H4 at s4 b4 u4 b34 ⊢
    refine ⟨_, rfl, _, rfl, _, rfl, _, rfl, _, _, rfl, rfl, l, (m : Int) + 1, rfl, u4, by omega, by omega, fun H5 e k5 u5 e0 e1 => ?_⟩
    obtain ⟨en, rfl⟩ := Int.eq_ofNat_of_zero_le e0
    refine ⟨l, p2, menuR, en, rfl, u5, n2, k5 _ _ n2 b4, menuR_ok.1, menuR_ok.2.1, by omega, fun H6 pt ts k6 u6 hpt b6 lt nt mt => ?_⟩
    have k06 : Kept l H H6 := k03.trans (s4.kept.trans (k5.trans k6))
    have ntl : pt ≠ l := by
      obtain ⟨o, ho⟩ := u5.some
      exact (ne_of_none ho hpt).symm
    have b36 := k6 _ _ nfl (k5 _ _ nfl b34)
    have hl8 : ∀ x ∈ ns, x.length ≤ 5000 := fun x z => by
      have := (name_parts (folk_names hN x z)).2.1
      omega
    refine ⟨_, rfl, pf, _, rfl, SqL.of b36, fun tf H7 htf s7 tn7 => ?_⟩
    have dF : Dq K H7 (.ref tf) (folkD ns) := .tup tn7.sq (strs_dq hl8)
    have u7 := u6.same s7
    have b37 := s7 _ _ b36
    have b67 := s7 _ _ b6
    refine ⟨_, rfl, pt, rfl, ⟨_, SqL.of b67⟩, fun D hD => ?_⟩
    have hlt : (ts.map V.str).length = en := by rw [List.length_map, lt]
    refine lc_draw (K := K) (walk_list (K := K) (a := pt) (xs := ts.map V.str)) rowD (fun i r => r.name = ts.getD i "" ∧ isRowD (rowD r) ns.length = true) noL_row (by rw [hlt]; omega) u7 hD (fun H' k' => SqL.of (k' _ _ ntl b67)) (fun _ _ _ _ y => y.1) (fun _ => rfl) ?_ ?_
    · rintro i x H8 Qk hi ⟨_, hx⟩ k8 u8 kk
      rw [hlt] at hi
      have hi2 : i < ts.length := by rw [lt]; exact hi
      rw [List.getElem?_map, List.getElem?_eq_getElem hi2] at hx
      cases hx
      have hnm : nameS ts[i] = true := menuR_ok.2.2 _ (mt _ (List.getElem_mem hi2))
      refine ⟨_, rfl, _, rfl, _, rfl, _, ns.length, rfl, .inl ⟨_, SqL.of (k8 _ _ nfl b37), by rw [List.length_map]⟩, l, ts[i], ns.length, rfl, u8, by have := (name_parts hnm).2.1; omega, by omega, fun H9 v r k9 u9 dq en ep eo => kk v r H9 k9 u9 dq ⟨?_, row_ok (by rw [en]; exact hnm) ep eo⟩⟩
      rw [en, List.getD_eq_getElem?_getD, List.getElem?_eq_getElem hi2]
      rfl
    · intro H8 xs rs k8 u8 bD dqs hlen hok
      rw [hlt] at hlen
      have dF8 := Dq.but (urn_lst u7).choose_spec k8 (noL_folk ns) dF
      have tn8 := TupN.kept (urn_lst u7).choose_spec tn7 k8
      refine ⟨D, xs, rfl, .inl ⟨SqL.of bD, fun tr htr => ⟨by show 2 ≤ sizeLine; decide, fun tt htt => ?_⟩⟩⟩
      have s9 := Same.new (o := .tup xs) htr
      have s10 := Same.new (o := .tup [.ref tf, .ref tr]) htt
      have enames : rs.map Rw.name = ts := by
        refine List.ext_getElem (by rw [List.length_map, hlen, lt]) fun i h1 h2 => ?_
        rw [List.length_map] at h1
        have := (hok i rs[i] (List.getElem?_eq_getElem h1)).1
        rw [List.getElem_map, this, List.getD_eq_getElem?_getD, List.getElem?_eq_getElem h2]
        rfl
      refine q _ _ tf tr ns rs (k06.trans (s7.kept.trans (k8.trans (s9.trans s10).kept))) (u8.same (s9.trans s10)) (SqT.of upd_same) (tn8.same (s9.trans s10)) (dF8.same (s9.trans s10)) (Dq.same s10 (.tup (SqT.of upd_same) (dqs.same s9))) hN ⟨by omega, fun r z => ?_, by rw [enames]; exact nt⟩ (by omega) (fun r z => mt _ (by rw [← enames]; exact List.mem_map_of_mem z))
      obtain ⟨i, hi⟩ := List.mem_iff_getElem?.mp z
      exact (hok i r hi).2
theorem ok_case {f fD fU fL : Addr} {fd fdD fdU fdL : FuncData} (F : FnT K "_law_case" sLawCase f fd) (B : Bn mg)
    (gD : mg "_law_dip" = some (.ref fD)) (GD : FnOk P w K mg base CX0 1 fD fdD ["_law_urn_here", "_law_top"] spDip) (kD : PySem.W.keepIn K (.ref fD) = true) (bD : Binds K fdD ["_law_urn_here", "_law_top"] [])
    (gU : mg "_law_unlike" = some (.ref fU)) (GU : FnOk P w K mg base CX0 2 fU fdU ["_law_urn_here", "_law_menu", "_law_many"] (spUnlike K)) (kU : PySem.W.keepIn K (.ref fU) = true) (bU : Binds K fdU ["_law_urn_here", "_law_menu", "_law_many"] [])
    (gL : mg "_law_line" = some (.ref fL)) (GL : FnOk P w K mg base CX0 4 fL fdL ["_law_urn_here", "_law_title", "_law_many"] (spRowD K)) (kL : PySem.W.keepIn K (.ref fL) = true) (bL : Binds K fdL ["_law_urn_here", "_law_title", "_law_many"] []) :
    FnOk P w K mg base CX0 5 f fd ["_law_urn_here", "_law_many", "_law_most"] (spCase K) :=
  (ok_caseN F B gD GD kD bD gU GU kU bU gL GL kL bL).imp fun vs H Q E h => by
    obtain ⟨l, m, rfl, hm, hU, q⟩ := h
    exact ⟨l, m, rfl, hm, hU, fun H' c u r ns rs k u' sq tn du dr hN hL hm hM => q H' (.ref c) ns rs k u' (.tup sq (.cons du (.cons dr .nil))) hN hL hm hM⟩
end
end Ca
set_option Elab.async false
set_option linter.all false
set_option maxRecDepth 100000
set_option maxHeartbeats 4000000
namespace Ca
open PySem L2
section
variable {X : Cx}
theorem pgT (K : PySem.W.Frag) {es : List Expr} {k : Nat} {pos : Pos} {t : TGs} {n : Nat} (hc : X.calm = true) (h : PGs X es t) (hK : X.K = K := by rfl) (hn : (assignEach es X.env).length = n := by rfl) (hst : (assignEach es X.env).findIdx? (·.1) = none := by rfl) : PG X (.Tuple es k pos) (gTup K n t) := hK ▸ pg_tup hc h hn hst
end
theorem case_at {K : PySem.W.Frag} {H : Hp} {v : V} {ns : List Str} {rs : List Rw} (h : Dq K H v (caseD ns rs)) : ∃ c u r, v = .ref c ∧ SqT K H c [.ref u, .ref r] ∧ Dq K H (.ref u) (folkD ns) ∧ Dq K H (.ref r) (rowsD rs) := by
  obtain ⟨c, xs, rfl, h1, h2, _⟩ := tup_len h
  cases h2 with
  | cons e1 r1 =>
    cases r1 with
    | cons e2 r2 =>
      cases r2
      obtain ⟨u, _, rfl, _⟩ := tup_len e1
      obtain ⟨r, _, rfl, _⟩ := tup_len e2
      exact ⟨c, u, r, rfl, h1, e1, e2⟩
end Ca
set_option Elab.async false
set_option linter.all false
set_option maxRecDepth 100000
set_option maxHeartbeats 4000000
namespace Ca
open PySem L2
/-! ### cases: what is drawn, and what is made of it -/
abbrev Case := List Str × List Rw
def cD (c : Case) : PyData := caseD c.1 c.2
structure COk (c : Case) : Prop where
  f : Folk c.1
  l : Lines c.2 c.1.length
theorem noL_case (c : Case) : noL (cD c) = true := by
  have h1 := noL_folk c.1
  have h2 := noL_rows c.2
  unfold cD caseD
  simp only [noL, noLs, h1, h2]
  rfl
theorem Folk.rev {ns : List Str} (N : Folk ns) : Folk ns.reverse :=
  ⟨by rw [List.length_reverse]; exact N.lo, by rw [List.length_reverse]; exact N.hi, fun x z => N.ok x (List.mem_reverse.mp z), List.pairwise_reverse.mpr (N.nd.imp fun h => h.symm)⟩
theorem Lines.rev {rs : List Rw} {m : Nat} (L : Lines rs m) : Lines rs.reverse m :=
  ⟨by rw [List.length_reverse]; exact L.hi, fun x z => L.ok x (List.mem_reverse.mp z), by rw [List.map_reverse]; exact List.pairwise_reverse.mpr (L.nd.imp fun h => h.symm)⟩
theorem Lines.none (m : Nat) : Lines [] m := ⟨Nat.zero_le _, (fun _ z => nomatch z), List.nodup_nil⟩
theorem DqAll.rev {K : PySem.W.Frag} {H : Hp} : ∀ {vs : List V} {ds : List PyData}, DqAll K H vs ds → DqAll K H vs.reverse ds.reverse
  | _, _, .nil => .nil
  | _, _, .cons a t => by
    rw [List.reverse_cons, List.reverse_cons]
    exact t.rev.app (.cons a .nil)
/-- the four that are made out of the first ones -/
def four (c0 c1 : Case) : List Case := [c0, (c0.1, c0.2.reverse), (c0.1.reverse, c0.2), (c1.1, [])]
theorem four_ok {c0 c1 : Case} (h0 : COk c0) (h1 : COk c1) : ∀ c ∈ four c0 c1, COk c := by
  intro c hc
  unfold four at hc
  simp only [List.mem_cons, List.not_mem_nil, or_false] at hc
  rcases hc with rfl | rfl | rfl | rfl
  · exact h0
  · exact ⟨h0.f, h0.l.rev⟩
  · exact ⟨h0.f.rev, by rw [List.length_reverse]; exact h0.l⟩
  · exact ⟨h1.f, Lines.none _⟩
theorem tup_rev_dq {K : PySem.W.Frag} {H : Hp} {a : Addr} {xs : List V} {ds : List PyData} (h : DqAll K H xs ds) (ha : H a = some (.tup xs.reverse)) : Dq K H (.ref a) (.tuple ds.reverse) := .tup (SqT.of ha) h.rev
def sameC (c d : Case) : Bool := decide (c.1 = d.1) && decide (c.2 = d.2)
theorem eqv_case (c d : Case) : PyData.eqv (cD c) (cD d) = (decide (c.1 = d.1) && decide (c.2 = d.2)) := by
  unfold cD caseD
  simp only [PyData.eqv, PyData.eqvAll]
  rw [eqv_folk, eqv_rows, Bool.and_true]
theorem nodict_case (c : Case) : (cD c).hasDict = false := by
  unfold cD caseD
  simp only [PyData.hasDict, PyData.hasDictAll]
  rw [nodict_folk, nodict_rows]
  rfl
theorem shaped_case {c : Case} (h : COk c) : SeqAt.shaped (cD c) = true := by
  have a := Bool.and_eq_true_iff.mp (show (PyData.canLay0 (folkD c.1) && decide ((folkD c.1).depth ≤ 64)) = true from shaped_folk h.f)
  have b := Bool.and_eq_true_iff.mp (show (PyData.canLay0 (rowsD c.2) && decide ((rowsD c.2).depth ≤ 64)) = true from shaped_rows (lines_names h.l))
  refine Bool.and_eq_true_iff.mpr ⟨?_, decide_eq_true ?_⟩
  · unfold cD caseD
    simp only [PyData.canLay0, PyData.canLayAll0]
    rw [a.1, b.1]
    rfl
  · unfold cD caseD
    have d1 : (folkD c.1).depth ≤ 1 := by
      unfold folkD
      simp only [PyData.depth]
      rw [dep_strs]
      decide
    have d2 : (rowsD c.2).depth ≤ 4 := by
      unfold rowsD
      simp only [PyData.depth]
      have := dep_rows c.2
      omega
    simp only [PyData.depth, PyData.depthAll]
    omega
theorem SysAt.lst {K : PySem.W.Frag} {C D : Addr} {H : Hp} {x : Addr} {ns : List Str} {rs : List Rw} {ys zs : List V} (h : SysAt K C H x ns rs) (hD : H D = some (.lst ys)) : SysAt K C (upd H D (.lst zs)) x ns rs := by
  obtain ⟨h1, h2, dx, u, r, e, du, dr⟩ := h
  have k : Kept D H (upd H D (.lst zs)) := fun b o n e => by rw [upd_ne n]; exact e
  have n : x ≠ D := fun z => by rw [z, hD] at e; cases e
  exact ⟨h1, h2, dx, u, r, k _ _ n e, Dq.but hD k (noL_folk ns) du, Dq.but hD k (noL_rows rs) dr⟩
/-- systems of the cases, one each -/
def Sys (K : PySem.W.Frag) (C : Addr) (H : Hp) (xs : List Addr) (cs : List Case) : Prop := ∀ (k : Nat) (x : Addr) (c : Case), xs[k]? = some x → cs[k]? = some c → SysAt K C H x c.1 c.2
theorem Sys.same {K : PySem.W.Frag} {C : Addr} {H H' : Hp} {xs : List Addr} {cs : List Case} (h : Sys K C H xs cs) (s : Same H H') : Sys K C H' xs cs := fun k x c h1 h2 => (h k x c h1 h2).same s
theorem Sys.lst {K : PySem.W.Frag} {C D : Addr} {H : Hp} {xs : List Addr} {cs : List Case} {ys zs : List V} (h : Sys K C H xs cs) (hD : H D = some (.lst ys)) : Sys K C (upd H D (.lst zs)) xs cs := fun k x c h1 h2 => (h k x c h1 h2).lst hD
theorem Sys.nil {K : PySem.W.Frag} {C : Addr} {H : Hp} {cs : List Case} : Sys K C H [] cs := fun k x c h _ => by cases h
theorem Sys.snoc {K : PySem.W.Frag} {C : Addr} {H : Hp} {xs : List Addr} {cs : List Case} {x : Addr} {c : Case} (h : Sys K C H xs cs) (hc : cs[xs.length]? = some c) (hx : SysAt K C H x c.1 c.2) : Sys K C H (xs ++ [x]) cs := fun k y d h1 h2 => by
  by_cases g : k < xs.length
  · rw [List.getElem?_append_left g] at h1
    exact h k y d h1 h2
  · rw [List.getElem?_append_right (Nat.le_of_not_lt g)] at h1
    have e0 : k - xs.length = 0 := by
      cases z : k - xs.length with
      | zero => rfl
      | succ n => rw [z] at h1; cases h1
    rw [e0] at h1
    cases h1
    have : k = xs.length := by omega
    rw [this, hc] at h2
    cases h2
    exact hx
/-- a new instance's two objects -/
theorem made_same {H H' : Hp} {x dx C : Addr} (hx : H x = none) (hdx : H dx = none) (k : Kept x (upd (upd H dx (.own x)) x (.ins C dx [])) H') : Same H H' := fun b o e => by
  have n1 := ne_of_none e hx
  have n2 := ne_of_none e hdx
  exact k b o n1 (by rw [upd_ne n1, upd_ne n2]; exact e)
theorem made_new {H : Hp} {x dx C : Addr} (hx : H x = none) (hdx : H dx = none) : Same H (upd (upd H dx (.own x)) x (.ins C dx [])) := fun b o e => by
  rw [upd_ne (ne_of_none e hx), upd_ne (ne_of_none e hdx)]
  exact e
theorem ty_same {K : PySem.W.Frag} {H H' : Hp} {v : V} {t : Value} (s : Same H H') (h : Ty K H v t) : Ty K H' v t := by
  cases h with
  | non => exact .non
  | bl b => exact .bl b
  | int i => exact .int i
  | str x => exact .str x
  | lst e => exact .lst (s.seq e)
  | tup e => exact .tup (same_sqt s e)
  | dic e => exact .dic (s _ _ e)
  | ins e => exact .ins (s _ _ e)
end Ca
set_option Elab.async false
set_option linter.all false
set_option maxRecDepth 100000
set_option maxHeartbeats 4000000
namespace Ca
open PySem PySem.Calls PyProof.Rows
open Builtin Builtin.Slice
theorem rev_adjust (n : Nat) : sliceAdjust none none (-1) (n : Int) = ((n : Int) - 1, -1) := by
  unfold sliceAdjust
  simp
theorem rev_places (n : Nat) : slicePlaces ((n : Int) - 1) (-1) (-1) = n := by
  unfold slicePlaces
  by_cases h : n = 0
  · subst h; simp
  · simp
    omega
theorem rev_pick (xs : Array Value) : ((List.range xs.size).filterMap fun (m : Nat) => xs[(((xs.size : Int) - 1) + (m : Int) * (-1)).toNat]?).toArray = xs.toList.reverse.toArray := by
  congr 1
  have e : ((List.range xs.size).filterMap fun (m : Nat) => xs[(((xs.size : Int) - 1) + (m : Int) * (-1)).toNat]?) = ((List.range xs.size).map fun k => xs.size - 1 - k).filterMap (xs[·]?) := by
    rw [List.filterMap_map]
    congr 1
    funext m
    show xs[_]? = xs[xs.size - 1 - m]?
    congr 1
    omega
  rw [e, PySem.W.krv_range, List.filterMap_reverse, PySem.W.krv_all]
section
variable {prog : Program} {w : World} {A : Around} {E : Value → Shared → Prop} {s : Shared}
theorem tup_rev {t sl : Addr} {items : Array Value} {vs : Value} {Q : Value → Shared → Prop} (hTu : IsTup s.heap t items) (hs : s.heap.IsSliceOf sl .none .none vs) (ps : IsPart vs (some (-1)))
    (h : Q (.ref s.heap.objs.size) { s with heap := s.heap.push { cls := .type "tuple", data := .seq items.toList.reverse.toArray } }) (hsz : items.size ≤ sizeLine) : wpAny (model prog w) A (getItem (.ref t) (.ref sl)) Q E s := by
  have hfit : sizeOk (.seq items.toList.reverse.toArray) := by
    show items.toList.reverse.toArray.size ≤ sizeLine
    rw [List.size_toArray, List.length_reverse, Array.length_toList]
    exact hsz
  obtain ⟨os, hob, hcl, hda⟩ := id hs
  have hTy : s.TypeIs (.ref sl) "slice" := ⟨os, hob, hcl⟩
  unfold getItem
  try with_reducible refine wpAny_holding ?_
  first | refine wpAny_bind (wpAny_pure ?_) | skip
  refine wpAny_bind (wpAny_sequenceKey hTu.typeIs (by decide) ?_)
  refine wpAny_bind (wpAny_callSpecial?_slot (name := Str.ofString "__getitem__") hTu.typeIs PyProof.Rows.slot_tuple_getitem
    (wpAny_call_entry PyProof.Rows.slot_tuple_getitem hTu.typeIs entry_tuple_getitem ?_ (args_tuple_getitem _ _)))
  show wpAny _ _ (Builtin.Tuple.tupleItemsOf (.ref t) >>= _) _ _ s
  refine wpAny_bind (tupleItemsOf_ hTu ?_)
  refine wpAny_bind (wpAny_typeOf hTy ?_)
  rw [if_pos (by decide)]
  refine wpAny_bind ?_
  · unfold Builtin.Slice.sliceApplied Builtin.Slice.sliceFields
    refine wpAny_bind (wpAny_bind (wpAny_field hob hda (x := .none) rfl (wpAny_bind (wpAny_field hob hda (x := .none) rfl (wpAny_bind (wpAny_field hob hda (x := vs) rfl (wpAny_pure ?_)))))))
    refine wpAny_bind (HT.slicePart_ ps ?_)
    show wpAny _ _ (if ((-1 : Int) == 0) = true then _ else _) _ _ s
    rw [if_neg (by decide)]
    refine wpAny_bind (slicePart_none (wpAny_bind (slicePart_none (wpAny_bind (wpAny_pure ?_)))))
    show wpAny _ _ (match Builtin.Slice.sliceAdjust none none (-1) (items.size : Int) with | (lo, hi) => pure (lo, (-1 : Int), Builtin.Slice.slicePlaces lo hi (-1))) _ _ s
    rw [rev_adjust]
    show wpAny _ _ (pure ((items.size : Int) - 1, (-1 : Int), Builtin.Slice.slicePlaces ((items.size : Int) - 1) (-1) (-1))) _ _ s
    rw [rev_places]
    refine wpAny_pure ?_
    have hno : ¬ ((((items.size : Int) - 1 == 0) && ((-1 : Int) == 1) && (items.size == items.size)) = true) := by simp
    show wpAny _ _ (if (((items.size : Int) - 1 == 0) && ((-1 : Int) == 1) && (items.size == items.size)) = true then _ else _) _ _ s
    rw [if_neg hno, rev_pick]
    first
      | exact wpAny_bind (m := Builtin.Tuple.tupleExact _) (wpAny_newObj_type (wpAny_pure ⟨_, rfl, wpAny_pure h⟩) hfit)
      | exact wpAny_bind (m := Builtin.Tuple.tupleExact _) (wpAny_newObj_type (wpAny_bind (wpAny_pure (wpAny_pure ⟨_, rfl, wpAny_pure h⟩))) hfit)
end
end Ca
namespace Ca
open PySem PySem.Spec PyProof.Rows L2
section
variable {X : Cx}
def tRevT (K : PySem.W.Frag) (te : TE) : TE := fun σ H Q => te σ H fun x H1 => ∃ a xs, x = .ref a ∧ SqT K H1 a xs ∧ ∀ p, H1 p = none → Q (.ref p) (upd H1 p (.tup xs.reverse))
theorem pe_revT {e : Expr} {te : TE} {k : Nat} {p1 p2 p3 pos : Pos} (he : PE X e te) : PE X (.Subscript e (.Slice none none (some (.UnaryOp .USub (.Constant (.int 1) k p1) p2)) p3) pos) (tRevT X.K te) := by
  refine ⟨fun pins s σ H Q I h => ?_⟩
  refine Subscript_ (thn (he.run pins s σ H _ I h) fun v m1 ⟨x, H1, J1, r1, w1⟩ => ?_)
  obtain ⟨a, xs, eqx, hx, q⟩ := w1
  subst eqx
  cases r1
  have hmin : PO X (some (.UnaryOp .USub (.Constant (.int 1) k p1) p2)) (tPart (tUn (rU fun i => .int (-i)) (tC (.int 1)))) := po_some (pe_un un_neg pe_int)
  refine wpAny_Slice (thn (po_none.run pins m1 σ H1 (fun o H2 => o = none ∧ H2 = H1) J1 ⟨rfl, rfl⟩) fun vl m2 ⟨l, H2, J2, pl, el, e2⟩ => ?_)
  subst el e2
  refine thn (po_none.run pins m2 σ H2 (fun o H3 => o = none ∧ H3 = H2) J2 ⟨rfl, rfl⟩) fun vu m3 ⟨u, H3, J3, pu, eu, e3⟩ => ?_
  subst eu e3
  refine thn (hmin.run pins m3 σ H3 (fun o H4 => o = some (-1) ∧ H4 = H3) J3 ⟨1, rfl, -1, rfl, rfl, rfl⟩) fun vs m4 ⟨o, H4, J4, ps, eo, e4⟩ => ?_
  subst eo e4
  cases pl
  cases pu
  have I5 : Inv X pins σ H4 { m4 with heap := m4.heap.push { cls := .type "slice", data := .fields #[.none, .none, vs] } } := J4.kept (t' := m4.toks) fun b ob q => Heap.get?_push_of_some _ q
  obtain ⟨its, r, hTu, hz⟩ := I5.tuple hx
  have hlen := r.length
  show wpAny (model X.prog X.w) X.A (subscriptTail e (.Slice none none (some (.UnaryOp .USub (.Constant (.int 1) k p1) p2)) p3) (.ref a) (.ref m4.heap.objs.size)) (EP X pins σ Q) X.xe { m4 with heap := m4.heap.push { cls := .type "slice", data := .fields #[.none, .none, vs] } }
  refine tail_any (ops := [.ref a, .ref m4.heap.objs.size]) hTu.typeIs (PyProof.Rows.slot_tuple_getitem.lookup) ?_ (by with_unfolding_all rfl)
  refine tup_rev hTu (Heap.IsSliceOf.new _ .none .none vs) ps ?_ (by rw [List.size_toArray]; omega)
  refine ⟨.ref _, _, I5.laid (t' := m4.toks) (o := .tup xs.reverse) (fun b ob q => Heap.get?_push_of_some _ q) (Nat.le_refl _) ?_, rfl, q _ (I5.hok.fresh (Nat.le_refl _))⟩
  exact ⟨by rw [List.length_reverse]; exact hz, _, r.reverse, IsTup.new _ _⟩
end
end Ca
set_option Elab.async false
set_option linter.all false
set_option maxRecDepth 100000
set_option maxHeartbeats 4000000
namespace Ca
open PySem L2
section
variable {X : Cx}
theorem reprK (K : PySem.W.Frag) (hgd : X.A.guards = some []) (hu : X.A.units + 200 < cLine) (h : X.K = K := by rfl) : CallR X (.builtin "repr") (rRepr K) := h ▸ call_repr hgd hu
end
/-- a value whose repr comes through -/
def Good (K : PySem.W.Frag) (H : Hp) (v : V) (d : PyData) : Prop := Rp K H v d ∧ d.showable = true ∧ d.depth ≤ 64 ∧ d.shown.length ≤ sizeLine
theorem rd_rv {K : PySem.W.Frag} {H : Hp} {v : V} {d : PyData} {Q : VK} (g : Good K H v d) (q : Q (.str d.shown) H) : rRepr K [v] H Q := by
  obtain ⟨r, h1, h2, h3⟩ := g
  exact ⟨v, d, rfl, r, h1, h2, h3, q⟩
theorem rd_cb1 {K : PySem.W.Frag} {te : TE} {σ : L2.St} {H : Hp} {Q : VK} (h : te σ H fun x H1 => rRepr K [x] H1 Q) : tCB (rRepr K) (tCons te tNil) σ H Q := h
theorem dpB {K : PySem.W.Frag} {H : Hp} : ∀ bs : List Bool, DpAll K H (bs.map V.bl) (bs.map PyData.bool)
  | [] => .nil
  | b :: bs => .cons (.bl b) (dpB bs)
theorem layB : ∀ bs : List Bool, PyData.canLayAll0 (bs.map PyData.bool) = true
  | [] => rfl
  | b :: bs => by
    simp only [List.map_cons, PyData.canLayAll0, PyData.canLay0]
    rw [layB bs]
    rfl
theorem depB : ∀ bs : List Bool, PyData.depthAll (bs.map PyData.bool) = 0
  | [] => rfl
  | b :: bs => by
    simp only [List.map_cons, PyData.depthAll, PyData.depth]
    rw [depB bs]
    rfl
theorem shapedB (bs : List Bool) : SeqAt.shaped (.list (bs.map PyData.bool)) = true := by
  refine Bool.and_eq_true_iff.mpr ⟨by simp only [PyData.canLay0]; exact layB bs, decide_eq_true ?_⟩
  simp only [PyData.depth]
  rw [depB]
  decide
/-- two lists of the same truth values are not unequal -/
theorem rd_sameB {K : PySem.W.Frag} {H : Hp} {a b : Addr} {e : Nat → Bool} {n : Nat} {Q : VK} (ha : H a = some (.lst ((List.range n).map fun i => .bl (e i)))) (hb : H b = some (.lst ((List.range n).map fun i => .bl (e i)))) (q : Q (.bl false) H) : rNeD K (.ref a) (.ref b) H Q := by
  have er : ((List.range n).map fun i => V.bl (e i)) = ((List.range n).map e).map V.bl := by rw [List.map_map]; rfl
  rw [er] at ha hb
  have lay : (PyData.list (((List.range n).map e).map PyData.bool)).canLay0 = true := by simp only [PyData.canLay0]; exact layB _
  exact ⟨_, _, .lst (SqL.of ha) (dpB _), .lst (SqL.of hb) (dpB _), shapedB _, shapedB _, by rw [SeqAt.eqv_refl _ lay]; exact q⟩
def toldD (c : Case) : PyData := .list [folkD c.1, rowsD c.2, namesD c.2, .int c.2.length, .str (pageS c.1 c.2), .bool true]
end Ca
set_option Elab.async false
set_option linter.all false
set_option maxRecDepth 100000
set_option maxHeartbeats 4000000
namespace Ca
open PySem L2
/-! ### the size of what is told -/
def inT (p : Int × Int) : Prop := -10000 ≤ p.1 ∧ p.1 ≤ p.2 ∧ p.2 ≤ 10000
theorem row_T {r : Rw} {m : Nat} (h : isRowD (rowD r) m = true) : ∀ p ∈ r.parts ++ [r.bd], inT p := by
  obtain ⟨_, h2⟩ := Bool.and_eq_true_iff.mp (show (nameS r.name && (isTupN (.tuple (r.parts.map strD)) m && ((partsOf (.tuple (r.parts.map strD)) ++ [strD r.bd]).all isStretchD))) = true from h)
  obtain ⟨_, h4⟩ := Bool.and_eq_true_iff.mp h2
  intro p hp
  refine str_ok (List.all_eq_true.mp h4 (strD p) ?_)
  show strD p ∈ r.parts.map strD ++ [strD r.bd]
  rw [show r.parts.map strD ++ [strD r.bd] = (r.parts ++ [r.bd]).map strD by rw [List.map_append]; rfl]
  exact List.mem_map_of_mem hp
theorem int_show {i : Int} (h1 : -10000 ≤ i) (h2 : i ≤ 10000) : (PyData.int i).showable = true := by
  simp only [PyData.showable]
  exact decide_eq_true (log_small h1 h2)
theorem int_short {i : Int} (h1 : -10000 ≤ i) (h2 : i ≤ 10000) : (PyData.int i).intsShort 13 = true := by
  simp only [PyData.intsShort, PyData.shown]
  refine decide_eq_true ?_
  rw [PySem.ofString_length]
  have := PySem.int_text_length_le10 (a := i) (k := 5) (by decide) (by omega)
  omega
theorem int_weight {i : Int} (h1 : -10000 ≤ i) (h2 : i ≤ 10000) : (PyData.int i).weight ≤ 14 := by
  simp only [PyData.weight]
  split
  · omega
  · rename_i g
    have : i.natAbs < 2 ^ 14 := by show i.natAbs < 16384; omega
    have z : i.natAbs ≠ 0 := fun e => by
      have : i = 0 := by omega
      rw [this] at g
      exact g rfl
    have := (Nat.log2_lt z).mpr this
    omega
theorem pair_all {p : Int × Int} (h : inT p) : (strD p).showable = true ∧ (strD p).intsShort 13 = true ∧ (strD p).weight ≤ 30 := by
  obtain ⟨h1, h2, h3⟩ := h
  have a1 := int_show (i := p.1) h1 (by omega)
  have a2 := int_show (i := p.2) (by omega) h3
  have b1 := int_short (i := p.1) h1 (by omega)
  have b2 := int_short (i := p.2) (by omega) h3
  have c1 := int_weight (i := p.1) h1 (by omega)
  have c2 := int_weight (i := p.2) (by omega) h3
  unfold strD
  refine ⟨?_, ?_, ?_⟩
  · rw [PyData.showable, PyData.showableAll, PyData.showableAll, PyData.showableAll, a1, a2]
    rfl
  · rw [PyData.intsShort, PyData.intsShortAll, PyData.intsShortAll, PyData.intsShortAll, b1, b2]
    rfl
  · rw [PyData.weight, PyData.weightAll, PyData.weightAll, PyData.weightAll]
    omega
theorem pairs_all : ∀ ps : List (Int × Int), (∀ p ∈ ps, inT p) → PyData.showableAll (ps.map strD) = true ∧ PyData.intsShortAll 13 (ps.map strD) = true ∧ PyData.weightAll (ps.map strD) ≤ 31 * ps.length
  | [], _ => ⟨rfl, rfl, Nat.le_refl _⟩
  | p :: ps, h => by
    obtain ⟨a, b, c⟩ := pairs_all ps fun x z => h x (List.mem_cons_of_mem _ z)
    obtain ⟨d, e, f⟩ := pair_all (h p (List.mem_cons_self ..))
    refine ⟨?_, ?_, ?_⟩
    · rw [List.map_cons, PyData.showableAll, d, a]; rfl
    · rw [List.map_cons, PyData.intsShortAll, e, b]; rfl
    · rw [List.map_cons, PyData.weightAll, List.length_cons]; omega
theorem row_all {r : Rw} {m : Nat} (ok : isRowD (rowD r) m = true) (hm : m ≤ 3) : (rowD r).showable = true ∧ (rowD r).intsShort 13 = true ∧ (rowD r).weight ≤ 140 := by
  have t := row_T ok
  obtain ⟨a, b, c⟩ := pairs_all r.parts fun p z => t p (List.mem_append_left _ z)
  obtain ⟨d, e, f⟩ := pair_all (t r.bd (List.mem_append_right _ (List.mem_singleton.mpr rfl)))
  have hp := (row_name ok).2
  have hn := (name_parts (row_name ok).1).2.1
  unfold rowD
  refine ⟨?_, ?_, ?_⟩
  · rw [PyData.showable, PyData.showableAll, PyData.showableAll, PyData.showableAll, PyData.showableAll, PyData.showable, PyData.showable, a, d]; rfl
  · rw [PyData.intsShort, PyData.intsShortAll, PyData.intsShortAll, PyData.intsShortAll, PyData.intsShortAll, PyData.intsShort, PyData.intsShort, b, e]; rfl
  · rw [PyData.weight, PyData.weightAll, PyData.weightAll, PyData.weightAll, PyData.weightAll, PyData.weight, PyData.weight]
    have hn' : r.name.cps.size ≤ 8 := hn
    omega
theorem rows_all : ∀ (rs : List Rw) (m : Nat), (∀ r ∈ rs, isRowD (rowD r) m = true) → m ≤ 3 → PyData.showableAll (rs.map rowD) = true ∧ PyData.intsShortAll 13 (rs.map rowD) = true ∧ PyData.weightAll (rs.map rowD) ≤ 141 * rs.length
  | [], _, _, _ => ⟨rfl, rfl, Nat.le_refl _⟩
  | r :: rs, m, h, hm => by
    obtain ⟨a, b, c⟩ := rows_all rs m (fun x z => h x (List.mem_cons_of_mem _ z)) hm
    obtain ⟨d, e, f⟩ := row_all (h r (List.mem_cons_self ..)) hm
    refine ⟨?_, ?_, ?_⟩
    · rw [List.map_cons, PyData.showableAll, d, a]; rfl
    · rw [List.map_cons, PyData.intsShortAll, e, b]; rfl
    · rw [List.map_cons, PyData.weightAll, List.length_cons]; omega
theorem strs_all : ∀ ns : List Str, (∀ x ∈ ns, nameS x = true) → PyData.showableAll (ns.map .str) = true ∧ PyData.intsShortAll 13 (ns.map .str) = true ∧ PyData.weightAll (ns.map .str) ≤ 9 * ns.length
  | [], _ => ⟨rfl, rfl, Nat.le_refl _⟩
  | n :: ns, h => by
    obtain ⟨a, b, c⟩ := strs_all ns fun x z => h x (List.mem_cons_of_mem _ z)
    have hn := (name_parts (h n (List.mem_cons_self ..))).2.1
    have hn' : n.cps.size ≤ 8 := hn
    refine ⟨?_, ?_, ?_⟩
    · rw [List.map_cons, PyData.showableAll, PyData.showable, a]; rfl
    · rw [List.map_cons, PyData.intsShortAll, PyData.intsShort, b]; rfl
    · rw [List.map_cons, PyData.weightAll, PyData.weight, List.length_cons]; omega
/-! ### signs of the page -/
theorem ok_cat {x y : Str} (h1 : PyData.strOk x = true) (h2 : PyData.strOk y = true) : PyData.strOk (x ++ y) = true := by
  unfold PyData.strOk at *
  show (x.cps ++ y.cps).all _ = true
  rw [Array.all_append, h1, h2]
  rfl
theorem ok_join {y : Str} (hy : PyData.strOk y = true) : ∀ ps : List Str, (∀ p ∈ ps, PyData.strOk p = true) → PyData.strOk (Str.join y ps) = true
  | [], _ => by show PyData.strOk "" = true; decide +kernel
  | [p], h => h p (List.mem_cons_self ..)
  | p :: z :: r, h => ok_cat (ok_cat (h p (List.mem_cons_self ..)) hy) (ok_join hy (z :: r) fun x q => h x (List.mem_cons_of_mem _ q))
theorem ok_int (i : Int) : PyData.strOk (intS i) = true := by
  unfold PyData.strOk intS
  rw [← Array.all_toList, List.all_eq_true]
  intro c hc
  have hc' : c ∈ (Str.ofString (toString i)).cps.toList := hc
  rw [PyProof.Rows.signs_ofString] at hc'
  obtain ⟨d, _, rfl⟩ := List.mem_map.mp hc'
  refine decide_eq_true ?_
  have v := d.valid
  show d.val.toNat < 0x110000
  rcases v with v | ⟨_, v⟩
  · have : d.val.toNat < 0xd800 := v
    omega
  · exact v
theorem ok_name {x : Str} (h : nameS x = true) : PyData.strOk x = true := strOk_of (name_parts h).2.2
theorem ok_lineS {r : Rw} (h : nameS r.name = true) : PyData.strOk (lineS r) = true := by
  unfold lineS
  rw [TL.join_eq]
  refine ok_join (by decide +kernel) _ fun p hp => ?_
  rcases List.mem_append.mp hp with z | z
  · rcases List.mem_cons.mp z with rfl | z
    · decide +kernel
    · rw [List.mem_singleton.mp z]
      exact ok_name h
  · unfold wordsOf at z
    obtain ⟨q, _, z⟩ := List.mem_flatMap.mp z
    rcases List.mem_cons.mp z with rfl | z
    · exact ok_int _
    · rw [List.mem_singleton.mp z]
      exact ok_int _
theorem ok_pageS {c : Case} (ok : COk c) : PyData.strOk (pageS c.1 c.2) = true := by
  unfold pageS
  rw [TL.join_eq]
  refine ok_join (by decide +kernel) _ fun p hp => ?_
  rcases List.mem_cons.mp hp with rfl | z
  · rw [TL.join_eq]
    refine ok_join (by decide +kernel) _ fun p hp => ?_
    rcases List.mem_cons.mp hp with rfl | z
    · decide +kernel
    · exact ok_name (folk_names ok.f p z)
  · obtain ⟨r, hr, rfl⟩ := List.mem_map.mp z
    exact ok_lineS (lines_names ok.l r hr)
theorem page_len {c : Case} (ok : COk c) : (pageS c.1 c.2).length ≤ 100000 := by
  have n3 := ok.f.hi
  have r6 := ok.l.hi
  have nl := names_len c.1 (folk_names ok.f)
  have ll := lines_len c.2 c.1.length ok.l.ok n3
  have j1 := join_le " " (("unknowns" : Str) :: c.1)
  rw [← TL.join_eq] at j1
  unfold pageS
  rw [TL.join_eq]
  refine Nat.le_trans (join_le _ _) ?_
  simp only [List.map_cons, List.sum_cons, List.length_cons, List.length_map] at j1 ⊢
  have e8 : Str.length "unknowns" = 8 := rfl
  have e1 : Str.length " " = 1 := rfl
  have e2 : Str.length "\n" = 1 := rfl
  rw [e8, e1] at j1
  rw [e2]
  omega
theorem good_told {K : PySem.W.Frag} {H : Hp} {p : Addr} {tu tr nm : V} {c : Case} (ok : COk c) (h : H p = some (.lst [tu, tr, nm, .int c.2.length, .str (pageS c.1 c.2), .bl true])) (h1 : Dq K H tu (folkD c.1)) (h2 : Dq K H tr (rowsD c.2)) (h3 : Dq K H nm (namesD c.2)) :
    Good K H (.ref p) (toldD c) := by
  have n3 := ok.f.hi
  have r6 := ok.l.hi
  have nmOk : ∀ x ∈ c.2.map Rw.name, nameS x = true := fun x z => by
    obtain ⟨r, hr, rfl⟩ := List.mem_map.mp z
    exact lines_names ok.l r hr
  obtain ⟨a1, b1, w1⟩ := strs_all c.1 (folk_names ok.f)
  obtain ⟨a2, b2, w2⟩ := rows_all c.2 c.1.length ok.l.ok n3
  obtain ⟨a3, b3, w3⟩ := strs_all (c.2.map Rw.name) nmOk
  rw [List.length_map] at w3
  have i1 := int_show (i := (c.2.length : Int)) (by omega) (by omega)
  have i2 := int_short (i := (c.2.length : Int)) (by omega) (by omega)
  have i3 := int_weight (i := (c.2.length : Int)) (by omega) (by omega)
  have pl := page_len ok
  have pl' : (pageS c.1 c.2).cps.size ≤ 100000 := pl
  have sh : (toldD c).showable = true := by
    unfold toldD folkD rowsD namesD
    simp only [PyData.showable, PyData.showableAll, a1, a2, a3, Bool.true_and, Bool.and_true]
    exact decide_eq_true (log_small (by omega) (by omega))
  have dep : (toldD c).depth ≤ 5 := by
    unfold toldD folkD rowsD namesD
    have := dep_rows c.2
    simp only [PyData.depth, PyData.depthAll, dep_strs]
    omega
  have lay : (toldD c).canLay0 = true := by
    unfold toldD folkD rowsD namesD
    simp only [PyData.canLay0, PyData.canLayAll0]
    rw [lay_strs c.1 (folk_names ok.f), lay_rows c.2 (lines_names ok.l), lay_strs _ nmOk, ok_pageS ok]
    rfl
  have wt : (toldD c).weight ≤ 2 ^ 20 := by
    have f1 : (folkD c.1).weight ≤ 9 * c.1.length := by unfold folkD; rw [PyData.weight]; exact w1
    have f2 : (rowsD c.2).weight ≤ 141 * c.2.length := by unfold rowsD; rw [PyData.weight]; exact w2
    have f3 : (namesD c.2).weight ≤ 9 * c.2.length := by unfold namesD; rw [PyData.weight]; exact w3
    have f4 : (PyData.str (pageS c.1 c.2)).weight ≤ 100000 := by rw [PyData.weight]; exact pl'
    have f5 : (PyData.bool true).weight = 0 := by rw [PyData.weight]
    unfold toldD
    rw [PyData.weight, PyData.weightAll, PyData.weightAll, PyData.weightAll, PyData.weightAll, PyData.weightAll, PyData.weightAll, PyData.weightAll, f5]
    show _ ≤ 1048576
    omega
  have sz : (toldD c).shown.length ≤ 15728653 := by
    refine PyProof.Rows.shown_le13 ?_ ?_
    · show ((toldD c).canLay0 && decide ((toldD c).depth ≤ 64) && decide ((toldD c).weight ≤ 2 ^ 20)) = true
      rw [lay, decide_eq_true (show (toldD c).depth ≤ 64 by omega), decide_eq_true wt]
      rfl
    · have g : (PyData.int (c.2.length : Int)).intsShort 13 = true := i2
      have e1 : (folkD c.1).intsShort 13 = true := by unfold folkD; rw [PyData.intsShort]; exact b1
      have e2 : (rowsD c.2).intsShort 13 = true := by unfold rowsD; rw [PyData.intsShort]; exact b2
      have e3 : (namesD c.2).intsShort 13 = true := by unfold namesD; rw [PyData.intsShort]; exact b3
      have e4 : (PyData.str (pageS c.1 c.2)).intsShort 13 = true := by rw [PyData.intsShort]
      have e5 : (PyData.bool true).intsShort 13 = true := by rw [PyData.intsShort]
      unfold toldD
      rw [PyData.intsShort, PyData.intsShortAll, PyData.intsShortAll, PyData.intsShortAll, PyData.intsShortAll, PyData.intsShortAll, PyData.intsShortAll, PyData.intsShortAll, e1, e2, e3, g, e4, e5]
      rfl
  refine ⟨.dat (.lst (SqL.of h) (.cons (dp_of (nodict_folk _) h1) (.cons (dp_of (nodict_rows _) h2) (.cons (dp_of (nodict_folk _) h3) (.cons (.int _) (.cons (.str _) (.cons (.bl _) .nil))))))) ?_, sh, by omega, Nat.le_trans sz (by decide)⟩
  exact Bool.and_eq_true_iff.mpr ⟨lay, decide_eq_true (by omega)⟩
end Ca
set_option Elab.async false
set_option linter.all false
set_option maxRecDepth 100000
set_option maxHeartbeats 8000000
namespace Ca
open PySem L2
section
variable {X : Cx} {k : Nat} {f C : Addr} {fd : FuncData} {ps ks : List Str} {sp : Sp} {x : Str} {p pos : Pos} {kws : List Keyword} {tk : TA} {g : List Value → List Value → List Value} {gV : List V → List V → List V}
theorem pe_makeK0 (M : Mk X.K C f) (F : FnOk X.prog X.w X.K X.mg X.base CX0 k f fd ps sp) (hr : Room (k + 1) X.A) (hg : Gl X x) (hm : X.mg x = some (.ref C)) (hb : KBn X.K fd ps 1 ks g gV) (hkw : PK X kws tk)
    (hall : (backToKw pos (keywordEach kws X.env)).all (·.1.isSome) = true := by rfl) (hks : (backToKw pos (keywordEach kws X.env)).filterMap (·.1) = ks := by rfl) (hdb : (x == ("__debug__" : Str)) = false := by decide)
    (hpl : ((backTo pos (starEach [] X.env)).any (·.1) || (backToKw pos (keywordEach kws X.env)).any (·.1.isNone)) = false := by rfl) :
    PE X (.Call (.Name x p) [] kws pos) (tMakeN C 0 ks.length sp gV E0 tNil tk) := by
  refine ⟨fun pins s σ H Q I h => ?_⟩
  refine wpAny_Call_Name_kw (ld_glob I hg hm ?_ hdb)
  refine PySem.W.callWith_KW0 (h₀ := X.base) I.ok.mod.kin M.kp hall (thn (hkw.run pos pins s σ H _ I h) fun ws s1 ⟨zs, H1, I1, r, l1, l2, q⟩ => ?_) hpl
  rw [hks]
  exact ⟨I1.kIn, run_makeN (n := 0) M F hr hb pass0 I1 .nil r l1 l2 q⟩
theorem eqOK (K : PySem.W.Frag) {k : Nat} (F : FnOk X.prog X.w X.K X.mg X.base CX0 k f fd ps sp) (hr : Room k X.A) (hs : PySem.W.findIn X.K (.ref C) "__eq__" = some (some (.ref f))) (hf : PySem.W.isFn X.K (.ref f) = true) (hb : Binds X.K fd ps []) (h : X.K = K := by rfl) : OpR X (compareOp .Eq) (rEqO K C sp) := h ▸ op_eqO F hr hs hf hb
theorem neOK (K : PySem.W.Frag) {k : Nat} (F : FnOk X.prog X.w X.K X.mg X.base CX0 k f fd ps sp) (hr : Room (k + 1) X.A) (hn : PySem.W.findIn X.K (.ref C) "__ne__" = some (some (.builtin "object.__ne__"))) (hs : PySem.W.findIn X.K (.ref C) "__eq__" = some (some (.ref f))) (hf : PySem.W.isFn X.K (.ref f) = true)
    (ho : PySem.W.subIn X.K (.ref C) (.type "object") = some true) (hb : Binds X.K fd ps []) (h : X.K = K := by rfl) : OpR X (compareOp .NotEq) (rNeO K C sp) := h ▸ op_neO F hr hn hs hf ho hb
theorem eqDK (K : PySem.W.Frag) (hu : X.A.units + 64 < cLine) (h : X.K = K := by rfl) : OpR X (compareOp .Eq) (rEqD K) := h ▸ op_eqD hu
theorem neDK (K : PySem.W.Frag) (hu : X.A.units + 64 < cLine) (h : X.K = K := by rfl) : OpR X (compareOp .NotEq) (rNeD K) := h ▸ op_neD hu
end
/-- what the law's own part leans on of System -/
structure SysE (K : PySem.W.Frag) (C fI fE fS fL fB fN fUn fRo pUn pRo pNa : Addr) : Prop where
  mkr : Mk K C fI
  eq : PySem.W.findIn K (.ref C) "__eq__" = some (some (.ref fE))
  eqf : PySem.W.isFn K (.ref fE) = true
  ne : PySem.W.findIn K (.ref C) "__ne__" = some (some (.builtin "object.__ne__"))
  ob : PySem.W.subIn K (.ref C) (.type "object") = some true
  str : PySem.W.findIn K (.ref C) "__str__" = some (some (.ref fS))
  strf : PySem.W.isFn K (.ref fS) = true
  len : PySem.W.findIn K (.ref C) "__len__" = some (some (.ref fL))
  lenf : PySem.W.isFn K (.ref fL) = true
  bool : PySem.W.findIn K (.ref C) "__bool__" = some (some (.ref fB))
  boolf : PySem.W.isFn K (.ref fB) = true
  un : PropOf K C "unknowns" pUn fUn
  ro : PropOf K C "rows" pRo fRo
  na : PropOf K C "names" pNa fN
def spAll : Sp := fun vs H Q _ => ∃ l : Addr, vs = [.ref l] ∧ Urn H l ∧ ∀ H', Kept l H H' → Urn H' l → Q (.bl true) H'
/-- the further built-in names of the law's own part -/
structure Bm (mg : Str → Option Value) : Prop where
  rng : mg "range" = none
  zip : mg "zip" = none
  rep : mg "repr" = none
end Ca
set_option Elab.async false
set_option linter.all false
set_option maxRecDepth 100000
set_option maxHeartbeats 0
namespace Ca
open PySem PySem.Spec PyProof.Rows L2
/-! ### what the top leaves, by names -/
def topD (x : Str) (st : Stmt) : He.DefD := ⟨(x, none), x, x, defArgs st, defBody st, defScope st, [], []⟩
def memD (m q : Str) (st : Stmt) (dv : List He.Dv) : He.DefD := ⟨("System", some m), m, q, defArgs st, defBody st, defScope st, dv, []⟩
def e0A (K : PySem.W.Frag) : Addr := He.dflAt ("System", some "__init__") 0 K
/-! ### and of System -/
abbrev sysA (K : PySem.W.Frag) : Addr := He.ga K "System"
def isF (a b : Option (Option Value)) : Bool := decide (a = b)
/-- the getter of a property -/
def getA (K : PySem.W.Frag) (m : Str) : Addr := match PySem.W.recIn K (He.ma K (sysA K) m) "property" with
  | some (.ref g :: _) => g
  | _ => 0
def fnA (K : PySem.W.Frag) (a : Addr) : He.FnW := match K.lookup a with
  | some ⟨_, _, .func fd, _⟩ => some (fd.name, fd.qualname, fd.params, fd.body, fd.scope, fd.globals, fd.closure, fd.builtins)
  | _ => none
def okA (K : PySem.W.Frag) (a : Addr) (q : Str) : Bool := PySem.W.keepIn K (.ref a) && (match K.lookup a with
  | some ⟨_, _, .func fd, _⟩ => PySem.W.codeIn K fd.code q && He.dflB K fd.defaults []
  | _ => false)
theorem fun_at {K : PySem.W.Frag} {a : Addr} {n q : Str} {st : Stmt} (e : fnA K a = some (n, q, defArgs st, .stmts (defBody st), defScope st, mainGlobals, [], builtinsNs)) (c : okA K a q = true) : ∃ fd, FunD K n q (defArgs st) (defBody st) (defScope st) [] [] a fd := by
  obtain ⟨kp, c2⟩ := He.ba c
  unfold fnA at e
  cases z : K.lookup a with
  | none => rw [z] at c2; cases c2
  | some o =>
    obtain ⟨oc, od, dt, sl⟩ := o
    rw [z] at c2 e
    cases dt with
    | func fd =>
      obtain ⟨m1, m2, m3, m4, m5, m6, m7, m8, m9, m10, m11, m12, m13, m14, m15⟩ := fd
      have e2 : (some (m1, m2, m3, m4, m5, m6, m7, m15) : He.FnW) = some (n, q, defArgs st, .stmts (defBody st), defScope st, mainGlobals, [], builtinsNs) := e
      simp only [Option.some.injEq, Prod.mk.injEq] at e2
      obtain ⟨g1, g2, g3, g4, g5, g6, g7, g8⟩ := e2
      subst g1 g2 g3 g4 g5 g6 g7 g8
      obtain ⟨k1, k2⟩ := He.ba (show (PySem.W.codeIn K m13 m2 && He.dflB K m8 []) = true from c2)
      exact ⟨_, ⟨oc, od, m8, m9, m10, m11, m12, m13, m14, sl, rfl, z, k1, He.dflB_ok k2, .inl rfl⟩, kp⟩
    | _ => cases c2
def prB (K : PySem.W.Frag) (m q : Str) : Bool := isF (PySem.W.findIn K (.ref (sysA K)) m) (some (some (.ref (He.ma K (sysA K) m)))) && (isF (PySem.W.specialIn K (.ref (He.ma K (sysA K) m)) "__get__") (some (some (.builtin "property.__get__"))) &&
  (decide (PySem.W.takesIn K (.ref (He.ma K (sysA K) m)) = some true) && ((match PySem.W.recIn K (He.ma K (sysA K) m) "property" with
    | some (.ref _ :: _) => true
    | _ => false) && okA K (getA K m) q)))
def tyNames : List String := ["NoneType", "bool", "int", "str", "list", "tuple", "dict"]
def emB (K : PySem.W.Frag) : Bool := match K.lookup (e0A K) with
  | some ⟨.type c, _, .seq its _, _⟩ => decide (c = "tuple") && (decide (its.size ≤ sizeLine) && He.relAll [] its.toList)
  | _ => false
def sysB (K : PySem.W.Frag) : Bool := prB K "unknowns" "System.unknowns" && (prB K "rows" "System.rows" && (prB K "names" "System.names" && (emB K &&
  (isF (PySem.W.findIn K (.ref (sysA K)) "__ne__") (some (some (.builtin "object.__ne__"))) && (decide (PySem.W.subIn K (.ref (sysA K)) (.type "object") = some true) &&
  (isF (PySem.W.findIn K (.ref (sysA K)) "__class__") (some (some (.builtin "object.__class__"))) && (isF (PySem.W.specialIn K (.builtin "object.__class__") "__get__") (some (some (.builtin "getset_descriptor.__get__"))) &&
  (decide (PySem.W.takesIn K (.builtin "object.__class__") = some true) && (decide (PySem.W.mroIn K (sysA K) (.type "object") = some true) && (decide (PySem.W.kitOne K (.ref (sysA K)) (.ref (sysA K)) = some true) &&
  (PySem.W.notFirst K (sysA K) (.ref (sysA K)) && tyNames.all fun t => decide (PySem.W.kitOne K (.type t) (.ref (sysA K)) = some false) && PySem.W.notFirst K (sysA K) (.type t))))))))))))
def getV (n q : Str) (st : Stmt) : He.FnW := some (n, q, defArgs st, .stmts (defBody st), defScope st, mainGlobals, [], builtinsNs)
theorem isF_ok {a b : Option (Option Value)} (h : isF a b = true) : a = b := of_decide_eq_true h
theorem an {a b : Bool} (h : (a && b) = true) : a = true ∧ b = true := Bool.and_eq_true_iff.mp h
theorem pr_ok {K : PySem.W.Frag} {m q : Str} (h : prB K m q = true) : PropOf K (sysA K) m (He.ma K (sysA K) m) (getA K m) ∧ okA K (getA K m) q = true := by
  obtain ⟨h1, h⟩ := an h
  obtain ⟨h2, h⟩ := an h
  obtain ⟨h3, h⟩ := an h
  obtain ⟨h4, h5⟩ := an h
  refine ⟨⟨isF_ok h1, isF_ok h2, of_decide_eq_true h3, ?_⟩, h5⟩
  unfold getA
  cases z : PySem.W.recIn K (He.ma K (sysA K) m) "property" with
  | none => rw [z] at h4; cases h4
  | some l =>
    rw [z] at h4
    match l, h4 with
    | .ref g :: rest, _ => exact ⟨rest, rfl⟩
theorem em_ok {K : PySem.W.Frag} (h : emB K = true) (H : Hp) : SqT K H (e0A K) [] := by
  unfold emB at h
  cases q : K.lookup (e0A K) with
  | none => rw [q] at h; cases h
  | some o =>
    obtain ⟨oc, od, dt, osl⟩ := o
    rw [q] at h
    cases oc with
    | type c =>
      cases dt with
      | seq its n =>
        obtain ⟨h1, h2⟩ := an (show (decide (c = "tuple") && (decide (its.size ≤ sizeLine) && He.relAll [] its.toList)) = true from h)
        obtain ⟨h3, h4⟩ := an h2
        exact .inr ⟨_, its, n, q, congrArg Value.type (of_decide_eq_true h1), rfl, of_decide_eq_true h3, He.relAll_ok h4⟩
      | _ => cases h
    | _ => cases dt <;> cases h
theorem fun_of {K : PySem.W.Frag} {x : Str} {st : Stmt} {f : Addr} {fd : FuncData} (F : FunD K x x (defArgs st) (defBody st) (defScope st) [] [] f fd) : Fun K x x st f fd := by
  obtain ⟨⟨oc, od, dV, kV, doc, pm, an, cdv, ct, osl, rfl, lk, hcd, hD, hK⟩, kp⟩ := F
  rcases hD with ⟨_, rfl⟩ | ⟨e, _⟩
  · exact fun_mk lk hcd kp
  · exact absurd rfl e
end Ca
set_option Elab.async false
set_option linter.all false
set_option maxRecDepth 100000
set_option maxHeartbeats 4000000
namespace Ca
open PySem PySem.W PySem.Calls PyProof.Rows
section
variable {prog : Program} {w : World} {A : Around} {E : Value → Shared → Prop} {hp : Heap} {g : Array GenState} {d : Drawn} {t : Nat} {os : OsState}
/-- the first field of a new exception of an own class over any built-in error class -/
theorem sto0 {B : String} {bmB : List Value} {K : W.Frag} {C x tt : Addr} {name : PySem.Str} {v : Value} {Q : Unit → Shared → Prop}
    (SF : StoreFacts B bmB "object.__setattr__" "object") (X : K.In hp)
    (hx : hp.get? x = some (W.excObj C tt none .none))
    (sa : W.findIn K (.ref C) "__setattr__" = some (some (.builtin "object.__setattr__"))) (ho : W.excOver K C bmB = true)
    (ht : W.takerIn K C name = some none) (hh : W.hasDictIn K C = true)
    (hq : ∀ h' tk' dx, (∀ b o, b ≠ x → hp.get? b = some o → h'.get? b = some o) → hp.objs.size ≤ dx → dx ≠ x →
      h'.get? x = some (W.excObj C tt (some dx) .none) → h'.Ns1 dx (fun y => if y = name then some v else none) → Q () ⟨h', g, d, tk', os⟩) :
    wpAny (model prog w) A (setAttr (.ref x) name v) Q E ⟨hp, g, d, t, os⟩ := by
  obtain ⟨cd, hc, hd'⟩ := W.any_some hh
  have hxs : x ≠ hp.objs.size := Nat.ne_of_lt (Heap.lt_size hx)
  refine W.set_plain (od := none) X ⟨hx, rfl, rfl, trivial⟩ sa ?_
  refine W.osa_openX (od := none) SF X ⟨hx, rfl, rfl, trivial⟩ ho ht fun b => ?_
  refine wpAny_bind (wpAny_pure (wpAny_bind (W.instanceDict_exc hx (W.looks_clsIn X hc) hd' ?_)))
  have hx1 : (hp.push (W.dictOf [] 0)).get? x = some (W.excObj C tt none .none) := Heap.get?_push_of_some _ hx
  refine HandSPX.store_in_new (dx := hp.objs.size) ?nd ?st
  case nd =>
    exact ⟨_, #[], _, Eq.trans (Heap.get?_update_ne _ _ _ _ hxs.symm) (Heap.get?_push_at rfl rfl), rfl, (fun e he => absurd he (by simp)), fun _ => rfl⟩
  case st =>
    intro h' tk' hn hs
    refine hq h' tk' hp.objs.size (fun b o nb e => ?_) (Nat.le_refl _) hxs.symm ?_ hn
    · have nbs := Nat.ne_of_lt (Heap.lt_size e)
      rw [hs.2 b nbs, Heap.get?_update_ne _ _ _ _ nb]
      exact Heap.get?_push_of_some _ e
    · rw [hs.2 x hxs]
      exact Heap.get?_update_self _ hx1 rfl
end
end Ca
set_option Elab.async false
set_option linter.all false
set_option maxRecDepth 100000
set_option maxHeartbeats 4000000
namespace Ca
open PySem L2
/-! ### exceptions as values -/
/-- an exception of the class at C stands at e; its one field f holds v -/
def Exc (H : Hp) (e C : Addr) (f : Str) (v : V) : Prop := ∃ d, H e = some (exo e C (some d)) ∧ H d = some (exd d [(f, v)])
theorem Exc.same {H H' : Hp} {e C : Addr} {f : Str} {v : V} (x : Exc H e C f v) (s : Same H H') : Exc H' e C f v := by
  obtain ⟨d, h1, h2⟩ := x
  exact ⟨d, s _ _ h1, s _ _ h2⟩
/-- what the written part says of an own exception class, for its fields -/
structure StoC (K : PySem.W.Frag) (C : Addr) (bmB : List Value) (f : Str) : Prop where
  sa : PySem.W.findIn K (.ref C) "__setattr__" = some (some (.builtin "object.__setattr__"))
  ov : PySem.W.excOver K C bmB = true
  tk : PySem.W.takerIn K C f = some none
  hd : PySem.W.hasDictIn K C = true

section
variable {X : Cx} {pins : List (Addr × Obj)} {σ : St} {H : Hp} {s : Shared} {a C dx : Addr} {f : Str} {y : V} {u : Value} {Q : Unit → Shared → Prop} {E : Value → Shared → Prop} {A : Around} {B : String} {bmB : List Value}
theorem sto_ok (SF : StoreFacts B bmB "object.__setattr__" "object") (T : StoC X.K C bmB f) (I : Inv X pins σ H s) (e : H a = some (exo a C none)) (ry : RelV y u)
    (h : ∀ d s', H d = none → d ≠ a → Inv X pins σ (upd (upd H d (exd d [(f, y)])) a (exo a C (some d))) s' → Q () s') :
    wpAny (model X.prog X.w) A (setAttr (.ref a) f u) Q E s := by
  obtain ⟨t1, ho⟩ := exo_at I.hok e
  obtain ⟨hp, g, dr, t, os⟩ := s
  refine sto0 SF I.kIn ho T.sa T.ov T.tk T.hd (fun h' tk' d k dn dne hx hn => ?_)
  have hd0 : H d = none := I.hok.fresh dn
  have nold : ∀ {b : Addr} {o : Obj}, hp.get? b = some o → b ≠ d := fun z => Nat.ne_of_lt (Nat.lt_of_lt_of_le (Heap.lt_size z) dn)
  have nfree : ∀ {b : Addr}, H b = none → b ≠ a := fun n z => by
    rw [z, e] at n
    cases n
  have there : ∀ b o, hp.get? b = some o → ∃ o', h'.get? b = some o' := fun b o z => by
    by_cases q : b = a
    · exact ⟨_, by rw [q]; exact hx⟩
    · exact ⟨o, k b o q z⟩
  have un : Un X.fs [] H (upd (upd H d (exd d [(f, y)])) a (exo a C (some d))) hp h' := by
    constructor
    · exact fun b o z n _ _ => k b o (nfree n) z
    · exact fun b o z n _ _ => ⟨o.slots, k b o (nfree n) z⟩
    · exact fun b o z n _ => by rw [upd_ne (nfree n), upd_ne (nold z), n]
    · exact fun b o z _ => there b o z
    · exact fun b xs z => by rw [upd_ne (at_ne e z exo_tup), upd_ne (ne_of_none z hd0), z]
    · exact fun b o v z => by rw [upd_ne (at_ne e z exo_frz), upd_ne (ne_of_none z hd0), z]
    · exact fun b ps z => ⟨#[], by rw [upd_ne (at_ne e z exo_tbl), upd_ne (ne_of_none z hd0), z]; simp⟩
  refine h d _ hd0 dne (I.un (t' := tk') un fun b o z => ?_)
  by_cases qa : b = a
  · rw [qa] at z ⊢
    rw [upd_same] at z
    cases z
    exact exo_ok hx
  · rw [upd_ne qa] at z
    by_cases qd : b = d
    · rw [qd] at z ⊢
      rw [upd_same] at z
      cases z
      exact exd_ok hn (relO_put (fs := []) ry fun _ => trivial)
    · rw [upd_ne qd] at z
      refine (I.hok b o z).stay (fun c v hc w => k c v ?_ w) (fun c hc => ?_) (fun c xs hc => ?_)
      · rcases hc with hc | hc
        · rw [hc]; exact qa
        · exact at_ne e hc exo_own
      · rw [upd_ne (at_ne e hc exo_own), upd_ne (ne_of_none hc hd0), hc]
      · rw [upd_ne (at_ne e hc exo_tup), upd_ne (ne_of_none hc hd0), hc]
/-- self.f = e in the __init__ of such a class -/
def tSto (K : PySem.W.Frag) (bmB : List Value) (f : Str) (to te : TE) : TS := fun D σ H => te σ H fun y H1 => to σ H1 fun x H2 => ∃ a C : Addr, x = .ref a ∧ StoC K C bmB f ∧ H2 a = some (exo a C none) ∧
  ∀ d, H2 d = none → d ≠ a → D.nx σ (upd (upd H2 d (exd d [(f, y)])) a (exo a C (some d)))
theorem ps_sto {o e : Expr} {to te : TE} {p' pos : Pos} (SF : StoreFacts B bmB "object.__setattr__" "object") (ho : PE X o to) (he : PE X e te) (hs : swapsWith e (some (.Attribute o f p')) pos.line X.env = pure false := by rfl) :
    PS X (.Assign [.Attribute o f p'] e pos) (tSto X.K bmB f to te) := by
  refine ⟨fun pins s σ H D I h => ?_⟩
  refine plainObj_wpAny_Assign_Attribute (thn (he.run pins s σ H _ I h) fun v s1 z1 => ?_) hs
  obtain ⟨y, H1, I1, r1, q1⟩ := z1
  refine thn (ho.run pins s1 σ H1 _ I1 q1) fun u s2 z2 => ?_
  obtain ⟨x, H2, I2, r2, a, C, ex, T, ea, q⟩ := z2
  rw [ex] at r2
  obtain rfl : u = Value.ref a := r2
  exact sto_ok SF T I2 ea r1 fun d s' n ne J => ⟨σ, _, J, q d n ne⟩
end

/-! ### the __init__ of such a class -/
def spIni (K : PySem.W.Frag) (bmB : List Value) (f : Str) : Sp := fun vs H Q _ => ∃ (a C : Addr) (v : V), vs = [.ref a, v] ∧ StoC K C bmB f ∧ H a = some (exo a C none) ∧
  ∀ d, H d = none → d ≠ a → Q .non (upd (upd H d (exd d [(f, v)])) a (exo a C (some d)))
def iA (f : Str) (p1 p2 : Pos) : Arguments := { posonlyargs := [], args := [{ arg := "self", annotation := none, pos := p1 }, { arg := f, annotation := none, pos := p2 }], vararg := none, kwonlyargs := [], kw_defaults := [], kwarg := none, defaults := [] }
def iB (f : Str) (q1 q2 q3 q4 : Pos) : List Stmt := [.Assign [.Attribute (.Name "self" q1) f q2] (.Name f q3) q4]
def iS (f : Str) : Scope := { kind := .function, names := [("self", .local), (f, .local)], isGenerator := false, isCoroutine := false, more := [] }
section
variable {P : Program} {w : World} {K : PySem.W.Frag} {mg : Str → Option Value} {base : Heap} {B : String} {bmB : List Value}
theorem scG : FnScope ["self", "given"] ["self", "given"] (iS "given") := ⟨rfl, rfl, rfl, by decide +kernel, rfl, by decide +kernel, by decide +kernel⟩
theorem scI : FnScope ["self", "index"] ["self", "index"] (iS "index") := ⟨rfl, rfl, rfl, by decide +kernel, rfl, by decide +kernel, by decide +kernel⟩
theorem ok_given {qn : Str} {p1 p2 q1 q2 q3 q4 : Pos} {fa : Addr} {fd : FuncData} (SF : StoreFacts B bmB "object.__setattr__" "object") (F : FunD K "__init__" qn (iA "given" p1 p2) (iB "given" q1 q2 q3 q4) (iS "given") [] [] fa fd) :
    FnOk P w K mg base CX0 1 fa fd ["self", "given"] (spIni K bmB "given") := by
  refine F.ok scG (fun vs H Q E h => ?_) (fun cdv A outer s H vs Q E hr h => ?_)
  · obtain ⟨a, C, v, rfl, _⟩ := h
    rfl
  · obtain ⟨a, C, v, rfl, T, ea, q⟩ := h
    exact ⟨_, PSs.nox (pss_one (ps_sto SF (pv 0) (pv 1))), _, rfl, _, rfl, a, C, rfl, T, ea, fun d n ne => q d n ne⟩
theorem ok_index {qn : Str} {p1 p2 q1 q2 q3 q4 : Pos} {fa : Addr} {fd : FuncData} (SF : StoreFacts B bmB "object.__setattr__" "object") (F : FunD K "__init__" qn (iA "index" p1 p2) (iB "index" q1 q2 q3 q4) (iS "index") [] [] fa fd) :
    FnOk P w K mg base CX0 1 fa fd ["self", "index"] (spIni K bmB "index") := by
  refine F.ok scI (fun vs H Q E h => ?_) (fun cdv A outer s H vs Q E hr h => ?_)
  · obtain ⟨a, C, v, rfl, _⟩ := h
    rfl
  · obtain ⟨a, C, v, rfl, T, ea, q⟩ := h
    exact ⟨_, PSs.nox (pss_one (ps_sto SF (pv 0) (pv 1))), _, rfl, _, rfl, a, C, rfl, T, ea, fun d n ne => q d n ne⟩
end
end Ca
set_option Elab.async false
set_option linter.all false
set_option maxRecDepth 100000
set_option maxHeartbeats 8000000
namespace Ca
open PySem PySem.W PySem.Calls PyProof.Rows PySem.HandSPX
section
variable {prog : Program} {w : World} {A : Around} {E : Value → Shared → Prop} {R : Result → Shared → Prop} {hp : Heap} {gs : Array GenState} {dr : Drawn} {tk : Nat} {os : OsState}
variable {nm q : PySem.Str} {C N : Addr} {bs bm bmB : List Value} {hdct : Bool} {sn : List PySem.Str} {sub : List Value} {ab : Bool} {col : Option Bool} {dd : Option Addr} {k0 k1 k2 k3 k5 : Option Value} {B newId initId : String}
variable {kn : PySem.Str} {u : Value}
/-- type.__call__ is asked with one keyword and no value -/
theorem kw_check {M : Model} {Q : Unit → Shared → Prop} (hC : hp.get? C = some (excClassObj nm q C N bs bm hdct sn sub ab col dd k0 k1 k2 k3 k5 newId))
    (hq : Q () ⟨hp, gs, dr, tk, os⟩) : wpAny M A (checkBuiltinCall "type.__call__" ⟨[.ref C], [(kn, u)]⟩) Q E ⟨hp, gs, dr, tk, os⟩ := by
  have e3 := tc_sub
  have ty : (⟨hp, gs, dr, tk, os⟩ : Shared).TypeIs (.ref C) "type" := ⟨_, hC, rfl⟩
  simp only [checkBuiltinCall, tc_kind, tc_split]
  repeat (any_goals (first | assumption | (with_reducible refine wpAny_loadPart_at hC ?_) | (with_reducible refine wpAny_onRaise ?_) | (with_reducible refine wpAny_map ?_) | wp_step))
/-- .. and the base's __new__ -/
theorem kw_checkNew (F : ExcBaseFacts B newId initId bmB) (hT : ∀ X : String, bm.contains (.type X) = bmB.contains (.type X)) {Q : Unit → Shared → Prop} {M : Model}
    (hC : hp.get? C = some (excClassObj nm q C N bs bm hdct sn sub ab col dd k0 k1 k2 k3 k5 newId)) (hq : Q () ⟨hp, gs, dr, tk, os⟩) :
    wpAny M A (checkBuiltinCall newId ⟨[.ref C], [(kn, u)]⟩) Q E ⟨hp, gs, dr, tk, os⟩ := by
  have inB : (Value.ref C :: bm).contains (.type B) = true := by
    rw [List.contains_cons, hT, F.hasB]
    exact Bool.or_true _
  have star := F.noStar
  simp only [checkBuiltinCall, F.newKind, F.newSplit, F.newRow]
  repeat (first
    | refine wpAny_loadPart_at hC ?_
    | (refine wpAny_isSubtype_exc hC ?_; rw [inB])
    | refine wpAny_staticBase_exc hC ?_
    | refine wpAny_madeBy_exc hC ?_
    | simp only [bne_self_eq_false, Bool.false_eq_true, if_false]
    | wp_step)
  exact hq
/-- the base's __new__ lets the keyword be -/
theorem kw_new (F : ExcBaseFacts B newId initId bmB) (hT : ∀ X : String, bm.contains (.type X) = bmB.contains (.type X))
    (hC : hp.get? C = some (excClassObj nm q C N bs bm hdct sn sub ab col dd k0 k1 k2 k3 k5 newId))
    (hq : R (.ok (.ret (.ref (hp.objs.size + 1)))) ⟨(hp.push (W.kdv_tup [])).push (excO C hp.objs.size), gs, dr, tk, os⟩) :
    codeAny (model prog w) A (.builtin newId ⟨[.ref C], [(kn, u)]⟩) R ⟨hp, gs, dr, tk, os⟩ := by
  have en := F.ends
  have c1 : (Value.ref C :: bm).contains (.type B) = true := by
    rw [List.contains_cons, hT, F.hasB]
    exact Bool.or_true _
  have c2 : (Value.ref C :: bm).contains (.type "AttributeError") = false := by
    rw [List.contains_cons, hT, F.noAttr]
    rfl
  have c3 : (Value.ref C :: bm).contains (.type "NameError") = false := by
    rw [List.contains_cons, hT, F.noName]
    rfl
  refine codeAny_builtinAt F.entry ?_
  unfold Builtin.«BaseException.__new__»
  refine PySem.wpAt_bind ?_
  show PySem.wpAt _ _ _ (stack >>= _) _ _ _
  refine PySem.wpAt_bind (PySem.wpAt_stack fun p below => PySem.wpAt_of_wpAny ?_)
  wp_walk
  refine PySem.wpAt_of_wpAny ?_
  rw [F.owner]
  have hz : ([] : List Value).length ≤ sizeLine := Nat.zero_le _
  repeat (first
    | with_reducible refine wpAny_madeHere_exc F.canon hC ?_
    | with_reducible refine wpAny_loadPart_at hC ?_
    | (with_reducible refine wpAny_isSubtype_exc hC ?_; first | rw [c1] | rw [c2] | rw [c3])
    | wp_step)
  show R _ _
  rw [Heap.size_push]
  exact hq
/-- type.__call__ upon such a class: a new exception, then its own __init__ with the keyword -/
theorem kw_type (F : ExcBaseFacts B newId initId bmB) (hT : ∀ X : String, bm.contains (.type X) = bmB.contains (.type X)) {fI : Addr} {Q : Fin → Shared → Prop}
    (hC : hp.get? C = some (excClassObj nm q C N bs bm hdct sn sub ab col dd k0 k1 k2 k3 k5 newId))
    (hi : W.Looks (model prog w) hp (typeLookup (.ref C) "__init__") (some (.ref fI))) (hb : ∀ self, W.Looks (model prog w) hp (bindSpecial (.ref fI) self) (.ref fI, [self]))
    (hq : codeAny (model prog w) A (.call (.ref fI) ⟨[.ref (hp.objs.size + 1)], [(kn, u)]⟩)
      (fun r s' => match r with
        | .ok (.ret v) => v = .none ∧ Q (.done (.ret (.ref (hp.objs.size + 1)))) s'
        | .ok _ => False
        | .error e => E e s')
      ⟨(hp.push (W.kdv_tup [])).push (excO C hp.objs.size), gs, dr, tk, os⟩) :
    wpAny (model prog w) A (Builtin.«type.__call__» ⟨[.ref C], [(kn, u)]⟩) Q E ⟨hp, gs, dr, tk, os⟩ := by
  repeat (first
    | with_reducible refine wpAny_loadPart_at hC ?_
    | with_reducible refine wpAny_madeBy_exc hC ?_
    | wp_step)
  refine codeAny_call_builtin_code (Code.quiet_builtin _ F.quiet) (kw_checkNew F hT hC ?_)
  refine kw_new F hT hC ?_
  show wpAny _ _ _ _ _ _
  have keep : ∀ b o, hp.get? b = some o → ((hp.push (W.kdv_tup [])).push (excO C hp.objs.size)).get? b = some o := fun b o z => Heap.get?_push_of_some _ (Heap.get?_push_of_some _ z)
  have hC' := keep _ _ hC
  have self' : ((hp.push (W.kdv_tup [])).push (excO C hp.objs.size)).get? (hp.objs.size + 1) = some (excO C hp.objs.size) := by heap_get
  have own : (Value.ref C :: bm).contains (.ref C) = true := by simp
  have i' := hi.keeps keep
  have b' := (hb (.ref (hp.objs.size + 1))).keeps keep
  unfold isInstance
  repeat (first
    | with_reducible refine wpAny_loadPart_at self' ?_
    | (with_reducible refine wpAny_isSubtype_exc hC' ?_; rw [own])
    | wp_step)
  show wpAny _ _ (typeLookup (.ref C) _) _ _ _
  refine i'.at ?_
  refine wpAny_holding (wpAny_bind (b'.at ?_))
  refine wpAny_bind (wpAny_call (codeAny_mono hq fun r s' z => ?_))
  rcases r with e | (v | _ | _ | _)
  case error => exact z
  any_goals first
    | exact False.elim z
    | (obtain ⟨ev, z⟩ := z
       subst ev
       first
         | exact wpAny_pure (wpAny_pure z)
         | (wp_walk; exact z))
/-- C(f = u) -/
theorem kw_call (F : ExcBaseFacts B newId initId bmB) (hT : ∀ X : String, bm.contains (.type X) = bmB.contains (.type X)) {fI : Addr}
    (hC : hp.get? C = some (excClassObj nm q C N bs bm hdct sn sub ab col dd k0 k1 k2 k3 k5 newId))
    (hi : W.Looks (model prog w) hp (typeLookup (.ref C) "__init__") (some (.ref fI))) (hb : ∀ self, W.Looks (model prog w) hp (bindSpecial (.ref fI) self) (.ref fI, [self]))
    (hq : codeAny (model prog w) (A.under (.builtin "type.__call__" ⟨[.ref C], [(kn, u)]⟩)) (.call (.ref fI) ⟨[.ref (hp.objs.size + 1)], [(kn, u)]⟩) (W.InitBack (hp.objs.size + 1) R)
      ⟨(hp.push (W.kdv_tup [])).push (excO C hp.objs.size), gs, dr, tk, os⟩) :
    codeAny (model prog w) A (.call (.ref C) ⟨[], [(kn, u)]⟩) R ⟨hp, gs, dr, tk, os⟩ := by
  have e1 := tc_lookup
  have e2 := tc_bind (.ref C)
  have ty : (⟨hp, gs, dr, tk, os⟩ : Shared).TypeIs (.ref C) "type" := ⟨_, hC, rfl⟩
  refine codeAny_of_tree ?_
  show wpAny _ _ (callAny (.ref C) _) _ _ _
  repeat (any_goals (first | assumption | (with_reducible refine wpAny_loadPart_at hC ?_) | wp_step))
  refine ⟨rfl, ?_⟩
  refine codeAny_call_builtin_at (Code.quiet_builtin _ (by decide +kernel)) entry_typeCall (kw_check hC (kw_type F hT hC hi hb ?_))
  refine codeAny_mono hq fun r s' z => ?_
  rcases r with e | (v | _ | _ | _) <;> exact z
end
end Ca
set_option Elab.async false
set_option linter.all false
set_option maxRecDepth 100000
set_option maxHeartbeats 4000000
namespace Ca
open PySem L2
/-- what the written part says of a class, for its making -/
structure MkC (K : PySem.W.Frag) (C fI : Addr) (bmB : List Value) (newId : String) : Prop where
  xI : PySem.W.excInitIn K C bmB newId = true
  kC : PySem.W.keepIn K (.ref C) = true
  iI : PySem.W.findIn K (.ref C) "__init__" = some (some (.ref fI))
  tI : PySem.W.typeIn K (.ref fI) = some (.type "function")

section
variable {X : Cx} {pins : List (Addr × Obj)} {σ : St} {H : Hp} {s : Shared} {C fI : Addr} {f x : Str} {v : V} {u : Value} {Q : VK} {B newId initId : String} {bmB : List Value} {k : Nat} {fd : FuncData} {ps : List Str}
/-- a new exception, ahead of its __init__ -/
theorem mk_new (I : Inv X pins σ H s) (us : List Value) : Inv X pins σ (upd H (s.heap.objs.size + 1) (exo (s.heap.objs.size + 1) C none)) { s with heap := (s.heap.push (PySem.W.kdv_tup us)).push (PySem.HandSPX.excO C s.heap.objs.size) } := by
  have keep : ∀ b o, s.heap.get? b = some o → ((s.heap.push (PySem.W.kdv_tup us)).push (PySem.HandSPX.excO C s.heap.objs.size)).get? b = some o := fun b o z => Heap.get?_push_of_some _ (Heap.get?_push_of_some _ z)
  have self' : ((s.heap.push (PySem.W.kdv_tup us)).push (PySem.HandSPX.excO C s.heap.objs.size)).get? (s.heap.objs.size + 1) = some (PySem.HandSPX.excO C s.heap.objs.size) := by heap_get
  exact I.laid (t' := s.toks) (a := s.heap.objs.size + 1) (o := exo (s.heap.objs.size + 1) C none) keep (Nat.le_succ _) (exo_ok self')
/-- what __init__ leaves is an exception of its own, all else as it was -/
theorem mk_same {a d : Addr} (na : H a = none) (nd : upd H a (exo a C none) d = none) :
    Same H (upd (upd (upd H a (exo a C none)) d (exd d [(f, v)])) a (exo a C (some d))) ∧ Exc (upd (upd (upd H a (exo a C none)) d (exd d [(f, v)])) a (exo a C (some d))) a C f v := by
  have dne : d ≠ a := fun z => by
    rw [z, upd_same] at nd
    cases nd
  refine ⟨fun b o e => ?_, d, upd_same, ?_⟩
  · have n1 := ne_of_none e na
    have n2 : b ≠ d := fun z => by
      rw [z] at e n1
      rw [upd_ne n1, e] at nd
      cases nd
    rw [upd_ne n1, upd_ne n2, upd_ne n1, e]
  · rw [upd_ne dne, upd_same]
theorem mk_run (FB : ExcBaseFacts B newId initId bmB) (M : MkC X.K C fI bmB newId) (S : StoC X.K C bmB f) (G : FnOk X.prog X.w X.K X.mg X.base CX0 k fI fd ["self", f] (spIni X.K bmB f)) (hr : Room (k + 1) X.A) (hb : Binds X.K fd ["self", f] [])
    (I : Inv X pins σ H s) (r : RelV v u) (h : ∀ a H', H a = none → Same H H' → Exc H' a C f v → Q (.ref a) H') :
    wpAny (model X.prog X.w) X.A (call (.ref C) [u]) (EP X pins σ Q) X.xe s := by
  obtain ⟨nm, N', qn, bs, bm, hdct, sn, sub, ab, col, dd, k0, k1, k2, k3, k5, hC, hT⟩ := PySem.W.excInit_of I.kIn M.xI
  have I2 := mk_new (C := C) I [u]
  have na : H (s.heap.objs.size + 1) = none := I.hok.fresh (Nat.le_succ _)
  obtain ⟨hp, g, dr, tk, os⟩ := s
  refine wpAny_call (PySem.HandSPX.call_own FB hT hC (PySem.W.looks_findIn I.kIn M.iI) (fun self => PySem.W.bind_fn I.kIn self M.tI) (by show 1 ≤ sizeLine; decide) ?_)
  have bd := hb _ [.ref (hp.objs.size + 1), u] I2.kIn rfl
  refine codeAny_mono (G.run _ X.stack _ _ _ _ [.ref (hp.objs.size + 1), v] (fun z H' => z = .non ∧ Q (.ref (hp.objs.size + 1)) H') (fun _ _ _ => False) (hr.make C [u] []) (I2.env0.make C [u] []) bd (.cons rfl (.cons r .nil))
    ⟨_, C, v, rfl, S, upd_same, fun d nd dne => ⟨rfl, ?_⟩⟩) fun res s' z => ?_
  · obtain ⟨q1, q2⟩ := mk_same (C := C) (f := f) (v := v) na nd
    exact h _ _ na q1 q2
  · cases res with
    | error er => exact z.elim
    | ok fl =>
      cases fl with
      | ret uu =>
        obtain ⟨z0, H', os', bare, un, hok, rv, ev, q⟩ := z
        subst ev
        have J := I2.call' (s' := s') (ch := []) os' un hok bare (fun b y => absurd y (by simp))
        exact ⟨rv, .ref (hp.objs.size + 1), H', J, rfl, q⟩
      | next => exact False.elim z
      | brk => exact False.elim z
      | cont => exact False.elim z
theorem mk_runK (FB : ExcBaseFacts B newId initId bmB) (M : MkC X.K C fI bmB newId) (S : StoC X.K C bmB f) (G : FnOk X.prog X.w X.K X.mg X.base CX0 k fI fd ["self", f] (spIni X.K bmB f)) (hr : Room (k + 1) X.A)
    (hb : ∀ (s : Shared) (e z : Value), BindsTo s fd ⟨[e], [(f, z)]⟩ [("self", e), (f, z)])
    (I : Inv X pins σ H s) (r : RelV v u) (h : ∀ a H', H a = none → Same H H' → Exc H' a C f v → Q (.ref a) H') :
    wpAny (model X.prog X.w) X.A (call (.ref C) [] [(f, u)]) (EP X pins σ Q) X.xe s := by
  obtain ⟨nm, N', qn, bs, bm, hdct, sn, sub, ab, col, dd, k0, k1, k2, k3, k5, hC, hT⟩ := PySem.W.excInit_of I.kIn M.xI
  have I2 := mk_new (C := C) I []
  have na : H (s.heap.objs.size + 1) = none := I.hok.fresh (Nat.le_succ _)
  obtain ⟨hp, g, dr, tk, os⟩ := s
  refine wpAny_call (kw_call FB hT hC (PySem.W.looks_findIn I.kIn M.iI) (fun self => PySem.W.bind_fn I.kIn self M.tI) ?_)
  refine codeAny_mono (G.run _ X.stack _ _ _ [.ref (hp.objs.size + 1), u] [.ref (hp.objs.size + 1), v] (fun z H' => z = .non ∧ Q (.ref (hp.objs.size + 1)) H') (fun _ _ _ => False) (hr.make C [] [(f, u)]) (I2.env0.make C [] [(f, u)]) (hb _ _ _) (.cons rfl (.cons r .nil))
    ⟨_, C, v, rfl, S, upd_same, fun d nd dne => ⟨rfl, ?_⟩⟩) fun res s' z => ?_
  · obtain ⟨q1, q2⟩ := mk_same (C := C) (f := f) (v := v) na nd
    exact h _ _ na q1 q2
  · cases res with
    | error er => exact z.elim
    | ok fl =>
      cases fl with
      | ret uu =>
        obtain ⟨z0, H', os', bare, un, hok, rv, ev, q⟩ := z
        subst ev
        have J := I2.call' (s' := s') (ch := []) os' un hok bare (fun b y => absurd y (by simp))
        exact ⟨rv, .ref (hp.objs.size + 1), H', J, rfl, q⟩
      | next => exact False.elim z
      | brk => exact False.elim z
      | cont => exact False.elim z
/-- C(e), C(f = e): a new exception whose field holds the value -/
def tMkC (C : Addr) (f : Str) (ta : TA) : TE := fun σ H Q => ta σ H fun vs H1 => ∃ v, vs = [v] ∧ ∀ a H', H1 a = none → Same H1 H' → Exc H' a C f v → Q (.ref a) H'
theorem pe_mkC {e : Expr} {ta : TA} {p pos : Pos} (FB : ExcBaseFacts B newId initId bmB) (M : MkC X.K C fI bmB newId) (S : StoC X.K C bmB f) (G : FnOk X.prog X.w X.K X.mg X.base CX0 k fI fd ["self", f] (spIni X.K bmB f)) (hr : Room (k + 1) X.A) (hb : Binds X.K fd ["self", f] [])
    (hm : X.mg x = some (.ref C)) (ha : PA X [e] ta) (hg : Gl X x := by rfl) (hdb : (x == ("__debug__" : Str)) = false := by decide)
    (hs : starEach (e :: []) X.env = (false, eval e X.env) :: starEach [] X.env := by rfl) (hpl : (backTo pos (starEach [] X.env)).any (·.1) = false := by rfl) : PE X (.Call (.Name x p) [e] [] pos) (tMkC C f ta) := by
  refine ⟨fun pins s σ H Q I h => ?_⟩
  refine wpAny_Call_Name_kw (ld_glob I hg hm ?_ hdb)
  refine PySem.W.callWith_K (h₀ := X.base) I.ok.mod.kin M.kC (thn (ha.run pos pins s σ H _ I h) fun us s1 z => ?_) hs hpl
  obtain ⟨vs, H1, I1, r, v, ev, q⟩ := z
  subst ev
  cases r with
  | cons r rn =>
    cases rn
    exact ⟨I1.kIn, mk_run FB M S G hr hb I1 r q⟩
theorem pe_mkK {kws : List Keyword} {ta : TA} {p pos : Pos} (FB : ExcBaseFacts B newId initId bmB) (M : MkC X.K C fI bmB newId) (S : StoC X.K C bmB f) (G : FnOk X.prog X.w X.K X.mg X.base CX0 k fI fd ["self", f] (spIni X.K bmB f)) (hr : Room (k + 1) X.A)
    (hb : ∀ (s : Shared) (e z : Value), BindsTo s fd ⟨[e], [(f, z)]⟩ [("self", e), (f, z)])
    (hm : X.mg x = some (.ref C)) (hk : PK X kws ta) (hg : Gl X x := by rfl) (hdb : (x == ("__debug__" : Str)) = false := by decide)
    (hall : (backToKw pos (keywordEach kws X.env)).all (·.1.isSome) = true := by rfl) (hks : (backToKw pos (keywordEach kws X.env)).filterMap (·.1) = [f] := by rfl)
    (hpl : ((backTo pos (starEach [] X.env)).any (·.1) || (backToKw pos (keywordEach kws X.env)).any (·.1.isNone)) = false := by rfl) : PE X (.Call (.Name x p) [] kws pos) (tMkC C f ta) := by
  refine ⟨fun pins s σ H Q I h => ?_⟩
  refine wpAny_Call_Name_kw (ld_glob I hg hm ?_ hdb)
  refine PySem.W.callWith_KW0 (h₀ := X.base) I.ok.mod.kin M.kC hall (thn (hk.run pos pins s σ H _ I h) fun us s1 z => ?_) hpl
  obtain ⟨vs, H1, I1, r, v, ev, q⟩ := z
  subst ev
  rw [hks]
  cases r with
  | cons r rn =>
    cases rn
    exact ⟨I1.kIn, mk_runK FB M S G hr hb I1 r q⟩
/-- C(), C without an __init__ of its own -/
def tMk0 (C : Addr) : TE := fun σ H Q => ∀ a, H a = none → Q (.ref a) (upd H a (exo a C none))
theorem pe_mk0 {p pos : Pos} (FB : ExcBaseFacts B newId initId bmB) (hx : PySem.W.excIn X.K C bmB newId = true) (hk : PySem.W.keepIn X.K (.ref C) = true) (hm : X.mg x = some (.ref C)) (hg : Gl X x := by rfl) (hdb : (x == ("__debug__" : Str)) = false := by decide) :
    PE X (.Call (.Name x p) [] [] pos) (tMk0 C) := by
  refine ⟨fun pins s σ H Q I h => ?_⟩
  refine wpAny_Call_Name_kw (ld_glob I hg hm ?_ hdb)
  refine PySem.W.callWith_K0 I.kIn hk ?_
  obtain ⟨bm, N, nm, qn, bs, hdct, sn, sub, ab, col, dd, k0, k1, k2, k3, k5, mN, hC, hN, hni, T⟩ := exc_obj I.kIn hx
  refine wpAny_call_exc_subT FB T hC hN hni (fun h' e hm => ?_) (Nat.zero_le _)
  obtain ⟨t, he, _, _⟩ := hm.there
  have na := I.hok.gone hm.new
  exact ⟨.ref e, _, I.laidN (t' := s.toks) hm.keeps hm.new na (exo_ok he), rfl, h e na⟩
/-- the field of such an exception -/
def tXat (K : PySem.W.Frag) (f : Str) (te : TE) : TE := fun σ H Q => te σ H fun y H1 => ∃ a C v, y = .ref a ∧ XfC K C ∧ PySem.W.findIn K (.ref C) f = some none ∧ Exc H1 a C f v ∧ Q v H1
theorem pe_xat {e : Expr} {te : TE} {pos : Pos} (he : PE X e te) (hb : attributeBase e f X.env (eval e X.env) = eval e X.env := by rfl) : PE X (.Attribute e f pos) (tXat X.K f te) := by
  refine ⟨fun pins s σ H Q I h => ?_⟩
  refine attr_of hb (thn (he.run pins s σ H _ I h) fun u s1 z => ?_)
  obtain ⟨y, H1, I1, ry, a, C, v, ey, T, no, ⟨d, ea, ed⟩, q⟩ := z
  subst ey
  obtain rfl : u = Value.ref a := ry
  obtain ⟨t1, ha⟩ := exo_at I1.hok ea
  obtain ⟨mA, hns, rel⟩ := exd_at I1.hok ed
  obtain ⟨od, ho, hl⟩ := lookIn_ns hns
  have rf := rel f
  rw [show ([(f, v)] : List (Str × V)).lookup f = some v by simp [List.lookup]] at rf
  obtain ⟨w', hw, rw'⟩ := RelO.some_of rf
  refine PySem.HandSPX.exc_get (od := some od) I1.kIn ⟨ha, rfl, rfl, ho⟩ T.ga T.gg T.exC (PySem.W.findObj_own T.hdC no rfl (by rw [hl, hw])) (handed_of rw') ?_
  exact ⟨v, H1, I1.tok _, rw', q⟩
/-- isinstance of such an exception -/
def IsE (H : Hp) (a D : Addr) : Prop := H a = some (exo a D none) ∨ ∃ f v, Exc H a D f v
theorem IsE.same {H H' : Hp} {a D : Addr} (x : IsE H a D) (s : Same H H') : IsE H' a D := x.elim (fun e => .inl (s _ _ e)) fun ⟨f, v, e⟩ => .inr ⟨f, v, e.same s⟩
def rIsX (K : PySem.W.Frag) : List V → Hp → VK → Prop := fun xs H Q => ∃ (a D : Addr) (c : V) (cv : Value) (b : Bool), xs = [.ref a, c] ∧ IsE H a D ∧ ExcC K D ∧ (∀ u, RelV c u → u = cv) ∧ PySem.W.kitOne K (.ref D) cv = some b ∧ Q (.bl b) H
theorem call_isX : CallR X (.builtin "isinstance") (rIsX X.K) := by
  intro pins s σ H xs us Q I r h
  obtain ⟨a, D, c, cv, b, rfl, ie, C, hcv, e, q⟩ := h
  cases r with
  | cons ra rr =>
    cases rr with
    | cons rc rr =>
      cases rr
      cases ra
      have ec := hcv _ rc
      subst ec
      obtain ⟨cd, hcd, _⟩ := PySem.W.any_some C.hd
      have some' : (PySem.W.clsIn X.K D).isSome = true := by
        rw [hcd]
        rfl
      rcases ie with ea | ⟨f, v, d, ea, ed⟩
      · obtain ⟨t1, ha⟩ := exo_at I.hok ea
        exact PySem.W.kia_one (PySem.W.kitx_exc (od := none) some' C.hg C.hk C.hs C.ha C.hn C.ht C.hm) I.kIn ⟨ha, rfl, rfl, trivial⟩ e (fun z => nomatch z) fun tk => ⟨.bl b, H, I.tok tk, rfl, q⟩
      · obtain ⟨t1, ha⟩ := exo_at I.hok ea
        obtain ⟨mA, hns, rel⟩ := exd_at I.hok ed
        obtain ⟨od, ho, hl⟩ := lookIn_ns hns
        exact PySem.W.kia_one (PySem.W.kitx_exc (od := some od) some' C.hg C.hk C.hs C.ha C.hn C.ht C.hm) I.kIn ⟨ha, rfl, rfl, ho⟩ e (fun z => nomatch z) fun tk => ⟨.bl b, H, I.tok tk, rfl, q⟩
end
end Ca
set_option Elab.async false
set_option linter.all false
set_option maxRecDepth 100000
set_option maxHeartbeats 4000000
namespace Ca
open PySem PySem.Spec PyProof.Rows L2
/-! ### errors raised -/
/-- what is wished of an error with one field -/
def ErrW (E : XK) (H : Hp) (C : Addr) (f : Str) (v : V) : Prop := ∀ d H', H d = none → Same H H' → H' d = some (.xd [(f, v)]) → E (.ref C) (some d) H'
theorem same_none {H H' : Hp} {d : Addr} (s : Same H H') (n : H' d = none) : H d = none := by
  cases e : H d with
  | none => rfl
  | some o =>
    rw [s _ _ e] at n
    cases n
theorem ErrW.on {E : XK} {H0 H : Hp} {C : Addr} {f : Str} {v : V} (h : ErrW E H0 C f v) (s : Same H0 H) : ErrW E H C f v := fun d H' n s' e => h d H' (same_none s n) (s.trans s') e
/-- what the written part says of a class of errors -/
structure ErrC (K : PySem.W.Frag) (C fI : Addr) (bmB : List Value) (newId : String) (f : Str) : Prop where
  mkc : MkC K C fI bmB newId
  st : StoC K C bmB f
  exC : PySem.W.subIn K (.ref C) (.type "BaseException") = some true
  tyC : PySem.W.typeIn K (.ref C) = some (.type "type")
  isC : ExcC K C
  fld : XfC K C
  no : PySem.W.findIn K (.ref C) f = some none
/-- C(e), to be raised -/
def tErr (C : Addr) (f : Str) (ta : TA) : L2.St → Hp → XK → Prop := fun σ H Q => ta σ H fun vs H1 => ∃ v, vs = [v] ∧ ErrW Q H1 C f v
section
variable {X : Cx} {C fI : Addr} {f x : Str} {B newId initId : String} {bmB : List Value} {k : Nat} {fd : FuncData} {e : Expr} {ta : TA} {p pos pos2 : Pos}
theorem pmk_err (FB : ExcBaseFacts B newId initId bmB) (T : ErrC X.K C fI bmB newId f) (G : FnOk X.prog X.w X.K X.mg X.base CX0 k fI fd ["self", f] (spIni X.K bmB f)) (hr : Room (k + 1) X.A) (hb : Binds X.K fd ["self", f] [])
    (hm : X.mg x = some (.ref C)) (ha : PA X [e] ta) (hg : Gl X x := by rfl) (hdb : (x == ("__debug__" : Str)) = false := by decide)
    (he : starEach [e] X.env = (false, eval e X.env) :: starEach [] X.env := by rfl) (hpl : (backTo pos (starEach [] X.env)).any (·.1) = false := by rfl) :
    PMk X (.Call (.Name x p) [e] [] pos) (tErr C f ta) := by
  intro pins s σ H Q I h
  refine wpAny_Call_Name_kw (ld_glob I hg hm ?_ hdb)
  refine PySem.W.callWith_K (h₀ := X.base) I.ok.mod.kin T.mkc.kC (thn (ha.run pos pins s σ H _ I h) fun us s1 ⟨vs, H1, I1, r1, v, ev, q1⟩ => ?_) he hpl
  subst ev
  cases r1 with
  | @cons _ u _ _ r rn =>
  cases rn
  refine ⟨I1.kIn, ?_⟩
  show wpAny _ _ (call (.ref C) [u]) _ _ _
  obtain ⟨nm, N', qn, bs, bm, hdct, sn, sub, ab, col, dd, k0, k1, k2, k3, k5, hC, hT⟩ := PySem.W.excInit_of I1.kIn T.mkc.xI
  have I2 := mk_new (C := C) I1 [u]
  have hsz : s1.heap.objs.size ≤ s1.heap.objs.size + 1 := Nat.le_succ _
  have na : H1 (s1.heap.objs.size + 1) = none := I1.hok.fresh hsz
  obtain ⟨hp, g, dr, tk, os⟩ := s1
  have kk : ∀ b o, hp.get? b = some o → ((hp.push (PySem.W.kdv_tup [u])).push (PySem.HandSPX.excO C hp.objs.size)).get? b = some o := fun b o z => Heap.get?_push_of_some _ (Heap.get?_push_of_some _ z)
  refine wpAny_call (PySem.HandSPX.call_own FB hT hC (PySem.W.looks_findIn I1.kIn T.mkc.iI) (fun self => PySem.W.bind_fn I1.kIn self T.mkc.tI) (by show 1 ≤ sizeLine; decide) ?_)
  have bd := hb _ [.ref (hp.objs.size + 1), u] I2.kIn rfl
  refine codeAny_mono (G.run _ X.stack _ _ _ _ [.ref (hp.objs.size + 1), v] (fun z H' => z = .non ∧ ∃ d, H' (hp.objs.size + 1) = some (exo (hp.objs.size + 1) C (some d)) ∧ H' d = some (exd d [(f, v)]) ∧ H1 d = none ∧ Q (.ref C) (some d) (upd (del H' (hp.objs.size + 1)) d (.xd [(f, v)])))
    (fun _ _ _ => False) (hr.make C [u] []) (I2.env0.make C [u] []) bd (.cons rfl (.cons r .nil)) ⟨_, C, v, rfl, T.st, upd_same, fun d nd dne => ⟨rfl, d, upd_same, ?_, ?_, ?_⟩⟩) fun res s' z => ?_
  · rw [upd_ne dne, upd_same]
  · rw [upd_ne dne] at nd
    exact nd
  · rw [upd_ne dne] at nd
    refine q1 d _ nd (fun b o eb => ?_) upd_same
    have n1 := ne_of_none eb na
    have n2 := ne_of_none eb nd
    rw [upd_ne n2, del_ne n1, upd_ne n1, upd_ne n2, upd_ne n1]
    exact eb
  · cases res with
    | error er => exact z.elim
    | ok fl =>
      cases fl with
      | ret uu =>
        obtain ⟨z0, H2, os2, bare2, un2, hok2, rv, ev, d, ea, ed, hd1, q2⟩ := z
        subst ev
        obtain ⟨h2, g2, d2, t2, os'⟩ := s'
        exact ⟨rv, mk_end (raises_own T.exC T.tyC) I1 hsz kk un2 hok2 os2 bare2 ea ed hd1 q2⟩
      | next => exact False.elim z
      | brk => exact False.elim z
      | cont => exact False.elim z
/-- raise C(e) -/
theorem ps_err {W : WX} (FB : ExcBaseFacts B newId initId bmB) (T : ErrC X.K C fI bmB newId f) (G : FnOk X.prog X.w X.K X.mg X.base CX0 k fI fd ["self", f] (spIni X.K bmB f)) (hr : Room (k + 1) X.A) (hb : Binds X.K fd ["self", f] [])
    (hm : X.mg x = some (.ref C)) (tk : Takes X W) (ha : PA X [e] ta) (hc : X.calm = true := by rfl) (hg : Gl X x := by rfl) (hdb : (x == ("__debug__" : Str)) = false := by decide)
    (he : starEach [e] X.env = (false, eval e X.env) :: starEach [] X.env := by rfl) (hpl : (backTo pos (starEach [] X.env)).any (·.1) = false := by rfl) :
    PS X (.Raise (some (.Call (.Name x p) [e] [] pos)) none pos2) (fun _ σ H => tErr C f ta σ H fun cls d H' => W cls d σ H') :=
  ps_raise hc tk (pmk_err FB T G hr hb hm ha hg hdb he hpl)
end
end Ca
set_option Elab.async false
set_option linter.all false
set_option maxRecDepth 100000
set_option maxHeartbeats 4000000
namespace Ca
open PySem PySem.Spec PyProof.Rows L2
/-! ### o.m(k = v) -/
def tMethKw (C : Addr) (m : Str) (n : Nat) (sp : Sp) (gV : List V → List V → List V) (ta : TE) (tk : TA) : TE := fun σ H Q => ta σ H fun x H1 => ∃ a dx fs, x = .ref a ∧ H1 a = some (.ins C dx fs) ∧ fs.lookup m = none ∧
  tk σ H1 fun zs H2 => zs.length = n ∧ sp (gV [.ref a] zs) H2 Q E0
section
variable {X : Cx} {k : Nat} {f C : Addr} {fd : FuncData} {ps ks : List Str} {sp : Sp} {m : Str} {apos pos : Pos} {kws : List Keyword} {tk : TA} {g : List Value → List Value → List Value} {gV : List V → List V → List V} {o : Expr} {ta : TE}
theorem pe_methKw {pl : Sem Bool} (he : PE X o ta) (c : Cls X.K C) (hm : Meth X.K C m f) (F : FnOk X.prog X.w X.K X.mg X.base CX0 k f fd ps sp) (hr : Room k X.A) (hb : KBn X.K fd ps 1 ks g gV) (hkw : PK X kws tk)
    (hall : (backToKw pos (keywordEach kws X.env)).all (·.1.isSome) = true := by rfl) (hks : (backToKw pos (keywordEach kws X.env)).filterMap (·.1) = ks := by rfl)
    (hpl : ((backTo pos (starEach [] X.env)).any (·.1) || (backToKw pos (keywordEach kws X.env)).any (·.1.isNone)) = false := by rfl)
    (ht : eval (.Call (.Attribute o m apos) [] kws pos) X.env = (do
      let ov ← eval o X.env
      standAt apos.atName
      let (f, first) ← holding [ov] (getMethod ov m pl)
      callWith pos f first (backTo pos (starEach [] X.env)) (backToKw pos (keywordEach kws X.env))) := by rfl) :
    PE X (.Call (.Attribute o m apos) [] kws pos) (tMethKw C m ks.length sp gV ta tk) := by
  refine ⟨fun pins s σ H Q I h => ?_⟩
  refine PySem.W.methodCall_KW (pl := pl) (thn (he.run pins s σ H _ I h) fun u s1 ⟨x, H1, I1, rx, a, dx, fs, ex, ea, l, q⟩ => ?_) ht
  subst ex
  obtain rfl : u = Value.ref a := rx
  refine getmeth_ok I1 ea c hm l ?_
  refine PySem.W.callWith_KW0 (first := [.ref a]) (h₀ := X.base) I1.ok.mod.kin hm.kp hall (thn (hkw.run pos pins s1 σ H1 _ I1 q) fun ws s2 ⟨zs, H2, I2, rz, l2, q2⟩ => ?_) hpl
  rw [hks]
  exact ⟨I2.kIn, run_fnN (us := [.ref a]) (vs := [.ref a]) F hr hb pass0 I2 (.cons rfl .nil) rz rfl l2 q2⟩
end
/-! ### slices and sums of tuples, whatever object tells them -/
theorem cut_take (xs : List V) (k : Nat) : cutV xs none (some (k : Int)) = xs.take k := by
  unfold cutV
  rw [HT.sIx_none, HT.sIx_nat, List.drop_zero, Nat.sub_zero]
  by_cases h : k ≤ xs.length
  · rw [Nat.min_eq_left h]
  · rw [Nat.min_eq_right (Nat.le_of_not_le h), List.take_length, List.take_of_length_le (Nat.le_of_not_le h)]
theorem cut_drop (xs : List V) (k : Nat) : cutV xs (some (k : Int)) none = xs.drop k := by
  unfold cutV
  rw [HT.sIx_none, HT.sIx_nat]
  by_cases h : k ≤ xs.length
  · rw [Nat.min_eq_left h]
    exact List.take_of_length_le (by rw [List.length_drop]; omega)
  · rw [Nat.min_eq_right (Nat.le_of_not_le h), Nat.sub_self, List.take_zero, List.drop_eq_nil_of_le (Nat.le_of_not_le h)]
theorem rd_no {σ : L2.St} {H : Hp} {Q : Option Int → Hp → Prop} (h : Q none H) : tNoPart σ H Q := h
theorem rd_slA {K : PySem.W.Frag} {H : Hp} {a : Addr} {xs : List V} {lo hi : Option Int} {Q : VK} (h : SqT K H a xs) (q : ∀ H' b, Same H H' → SqT K H' b (cutV xs lo hi) → Q (.ref b) H') : rSlA K (.ref a) lo hi H Q :=
  ⟨a, xs, rfl, h, fun y => q H a (fun _ _ e => e) (by
    have e : cutV xs lo hi = xs := by
      unfold cutV
      rw [y.1, y.2, List.drop_zero, Nat.sub_zero, List.take_length]
    rw [e]
    exact h), fun _ p hp => q _ p (Same.new hp) (SqT.of upd_same)⟩
theorem rd_catA {K : PySem.W.Frag} {H : Hp} {a b : Addr} {xs ys : List V} {Q : VK} (ha : SqT K H a xs) (hb : SqT K H b ys) (hl : xs.length + ys.length ≤ sizeLine) (q : ∀ H' c, Same H H' → SqT K H' c (xs ++ ys) → Q (.ref c) H') : rCatA K (.ref a) (.ref b) H Q :=
  ⟨a, b, xs, ys, rfl, rfl, ha, hb, hl, fun z => q H b (fun _ _ e => e) (by rw [z]; exact hb), fun _ z => q H a (fun _ _ e => e) (by rw [z, List.append_nil]; exact ha), fun _ _ p hp => q _ p (Same.new hp) (SqT.of upd_same)⟩
theorem DqAll.take {K : PySem.W.Frag} {H : Hp} : ∀ {vs : List V} {ds : List PyData} (k : Nat), DqAll K H vs ds → DqAll K H (vs.take k) (ds.take k)
  | _, _, 0, _ => .nil
  | _, _, _ + 1, .nil => .nil
  | _, _, k + 1, .cons a t => .cons a (t.take k)
theorem DqAll.drop {K : PySem.W.Frag} {H : Hp} : ∀ {vs : List V} {ds : List PyData} (k : Nat), DqAll K H vs ds → DqAll K H (vs.drop k) (ds.drop k)
  | _, _, 0, h => h
  | _, _, _ + 1, .nil => .nil
  | _, _, k + 1, .cons _ t => t.drop k
/-- rows without the one at k -/
def dropAt {α : Type} (rs : List α) (k : Nat) : List α := rs.take k ++ rs.drop (k + 1)
theorem dropAt_sub {α : Type} (rs : List α) (k : Nat) : (dropAt rs k).Sublist rs := by
  unfold dropAt
  rw [← List.eraseIdx_eq_take_drop_succ]
  exact List.eraseIdx_sublist _ _
theorem dropAt_len {α : Type} {rs : List α} {k : Nat} (h : k < rs.length) : (dropAt rs k).length = rs.length - 1 := by
  unfold dropAt
  rw [List.length_append, List.length_take, List.length_drop]
  omega
theorem dropAt_map {α β : Type} (f : α → β) (rs : List α) (k : Nat) : dropAt (rs.map f) k = (dropAt rs k).map f := by
  unfold dropAt
  rw [List.map_append, List.map_take, List.map_drop]
theorem DqAll.dropAt {K : PySem.W.Frag} {H : Hp} {vs : List V} {ds : List PyData} (h : DqAll K H vs ds) (k : Nat) : DqAll K H (Ca.dropAt vs k) (Ca.dropAt ds k) := (h.take k).app (h.drop (k + 1))
theorem Lines.sub {rs qs : List Rw} {m : Nat} (h : qs.Sublist rs) (L : Lines rs m) : Lines qs m :=
  ⟨Nat.le_trans h.length_le L.hi, fun r z => L.ok r (h.subset z), L.nd.sublist (h.map Rw.name)⟩
theorem lenV_tup {K : PySem.W.Frag} {H : Hp} {v : V} {ds : List PyData} (h : Dq K H v (.tuple ds)) : LenV K v H ds.length := by
  obtain ⟨a, xs, rfl, h1, _, hl⟩ := tup_len h
  exact .inr ⟨_, h1, hl.symm⟩
/-- systems behind changes of a list -/
theorem SysAt.but {K : PySem.W.Frag} {C l : Addr} {H H' : Hp} {x : Addr} {ns : List Str} {rs : List Rw} {ys : List V} (hl : H l = some (.lst ys)) (k : Kept l H H') (h : SysAt K C H x ns rs) : SysAt K C H' x ns rs := by
  obtain ⟨h1, h2, dx, u, r, e, du, dr⟩ := h
  have n : x ≠ l := fun z => by rw [z, hl] at e; cases e
  exact ⟨h1, h2, dx, u, r, k _ _ n e, Dq.but hl k (noL_folk ns) du, Dq.but hl k (noL_rows rs) dr⟩
def spMore (K : PySem.W.Frag) (C : Addr) : Sp := fun vs H Q _ => ∃ x v ns rs r, vs = [.ref x, v] ∧ SysAt K C H x ns rs ∧ Dq K H v (rowD r) ∧ Lines (rs ++ [r]) ns.length ∧ ∀ H' y, Same H H' → SysAt K C H' y ns (rs ++ [r]) → Q (.ref y) H'
def spMadeC (K : PySem.W.Frag) (C : Addr) : Sp := fun vs H Q _ => ∃ v c, vs = [v] ∧ Dq K H v (cD c) ∧ COk c ∧ ∀ H' y, Same H H' → SysAt K C H' y c.1 c.2 → Q (.ref y) H'
end Ca
set_option Elab.async false
set_option linter.all false
set_option maxRecDepth 100000
set_option maxHeartbeats 4000000
namespace Ca
open PySem PySem.Spec PyProof.Rows L2
/-! ### data told twice -/
theorem rd_sameD {K : PySem.W.Frag} {H : Hp} {a b : V} {d : PyData} {Q : VK} (ha : Dp K H a d) (hb : Dp K H b d) (sh : SeqAt.shaped d = true) (q : Q (.bl false) H) : rNeD K a b H Q :=
  ⟨d, d, ha, hb, sh, sh, by rw [SeqAt.eqv_refl _ (Bool.and_eq_true_iff.mp (show (d.canLay0 && decide (d.depth ≤ 64)) = true from sh)).1]; exact q⟩
theorem lay_texts : ∀ ts : List Str, (∀ x ∈ ts, PyData.strOk x = true) → PyData.canLayAll0 (ts.map .str) = true
  | [], _ => rfl
  | n :: ns, h => by
    simp only [List.map_cons, PyData.canLayAll0, PyData.canLay0]
    rw [h n (List.mem_cons_self ..), lay_texts ns fun x z => h x (List.mem_cons_of_mem _ z)]
    rfl
theorem shaped_texts {ts : List Str} (h : ∀ x ∈ ts, PyData.strOk x = true) : SeqAt.shaped (.list (ts.map .str)) = true := by
  refine Bool.and_eq_true_iff.mpr ⟨by simp only [PyData.canLay0]; exact lay_texts ts h, decide_eq_true ?_⟩
  simp only [PyData.depth]
  rw [dep_strs]
  decide
theorem dpS {K : PySem.W.Frag} {H : Hp} : ∀ ts : List Str, DpAll K H (ts.map V.str) (ts.map PyData.str)
  | [] => .nil
  | b :: bs => .cons (.str b) (dpS bs)
/-- two lists of the same texts are not unequal -/
theorem rd_sameS {K : PySem.W.Frag} {H : Hp} {a b : Addr} {Q : VK} (ts : List Str) (h : ∀ x ∈ ts, PyData.strOk x = true) (ha : H a = some (.lst (ts.map V.str))) (hb : H b = some (.lst (ts.map V.str))) (q : Q (.bl false) H) : rNeD K (.ref a) (.ref b) H Q :=
  rd_sameD (.lst (SqL.of ha) (dpS ts)) (.lst (SqL.of hb) (dpS ts)) (shaped_texts h) q
theorem rd_neS {K : PySem.W.Frag} {C : Addr} {H : Hp} {x y : Addr} {ns ms : List Str} {rs qs : List Rw} {Q : VK} (I : SysI K C) (X : SysAt K C H x ns rs) (Y : SysAt K C H y ms qs) (q : Q (.bl (!(decide (ns = ms) && decide (rs = qs)))) H) : rNeO K C (spEqS K C) (.ref x) (.ref y) H Q := by
  obtain ⟨_, _, dx, u, r, ex, _, _⟩ := id X
  obtain ⟨_, _, dy, u2, r2, ey, _, _⟩ := id Y
  exact ⟨x, dx, _, .ref C, rfl, ex, .ins ey, I.nf, x, .ref y, ns, rs, rfl, X, .inr ⟨y, ms, qs, rfl, Y, _, rfl, q⟩⟩
theorem rd_eqS {K : PySem.W.Frag} {C : Addr} {H : Hp} {x y : Addr} {ns ms : List Str} {rs qs : List Rw} {Q : VK} (I : SysI K C) (X : SysAt K C H x ns rs) (Y : SysAt K C H y ms qs) (q : Q (.bl (decide (ns = ms) && decide (rs = qs))) H) : rEqO K C (spEqS K C) (.ref x) (.ref y) H Q := by
  obtain ⟨_, _, dx, u, r, ex, _, _⟩ := id X
  obtain ⟨_, _, dy, u2, r2, ey, _, _⟩ := id Y
  exact ⟨x, dx, _, .ref C, rfl, ex, .ins ey, I.nf, x, .ref y, ns, rs, rfl, X, .inr ⟨y, ms, qs, rfl, Y, _, rfl, q⟩⟩
/-- the same system, told by != -/
theorem rd_neSame {K : PySem.W.Frag} {C : Addr} {H : Hp} {x y : Addr} {ns : List Str} {rs : List Rw} {Q : VK} (I : SysI K C) (X : SysAt K C H x ns rs) (Y : SysAt K C H y ns rs) (q : Q (.bl false) H) : rNeO K C (spEqS K C) (.ref x) (.ref y) H Q :=
  rd_neS I X Y (by rw [decide_eq_true (rfl : ns = ns), decide_eq_true (rfl : rs = rs)]; exact q)
theorem rd_sameRows {K : PySem.W.Frag} {H : Hp} {a b : V} {rs : List Rw} {m : Nat} {Q : VK} (L : Lines rs m) (ha : Dq K H a (rowsD rs)) (hb : Dq K H b (rowsD rs)) (q : Q (.bl false) H) : rNeD K a b H Q :=
  rd_sameD (dp_of (nodict_rows rs) ha) (dp_of (nodict_rows rs) hb) (shaped_rows (lines_names L)) q
theorem rd_sameNames {K : PySem.W.Frag} {H : Hp} {a b : V} {rs : List Rw} {m : Nat} {Q : VK} (L : Lines rs m) (ha : Dq K H a (namesD rs)) (hb : Dq K H b (namesD rs)) (q : Q (.bl false) H) : rNeD K a b H Q :=
  rd_sameD (dp_of (nodict_folk _) ha) (dp_of (nodict_folk _) hb) (shaped_strs fun x z => by
    obtain ⟨r, hr, rfl⟩ := List.mem_map.mp z
    exact lines_names L r hr) q
/-! ### the repr of a case's parts -/
def pairD (c : Case) : PyData := .list [folkD c.1, rowsD c.2]
theorem good_pair {K : PySem.W.Frag} {H : Hp} {p : Addr} {tu tr : V} {c : Case} (ok : COk c) (h : H p = some (.lst [tu, tr])) (h1 : Dq K H tu (folkD c.1)) (h2 : Dq K H tr (rowsD c.2)) : Good K H (.ref p) (pairD c) := by
  have n3 := ok.f.hi
  have r6 := ok.l.hi
  obtain ⟨a1, b1, w1⟩ := strs_all c.1 (folk_names ok.f)
  obtain ⟨a2, b2, w2⟩ := rows_all c.2 c.1.length ok.l.ok n3
  have sh : (pairD c).showable = true := by
    unfold pairD folkD rowsD
    simp only [PyData.showable, PyData.showableAll, a1, a2, Bool.true_and, Bool.and_true]
  have dep : (pairD c).depth ≤ 5 := by
    unfold pairD folkD rowsD
    have := dep_rows c.2
    simp only [PyData.depth, PyData.depthAll, dep_strs]
    omega
  have lay : (pairD c).canLay0 = true := by
    unfold pairD folkD rowsD
    simp only [PyData.canLay0, PyData.canLayAll0]
    rw [lay_strs c.1 (folk_names ok.f), lay_rows c.2 (lines_names ok.l)]
    rfl
  have wt : (pairD c).weight ≤ 2 ^ 20 := by
    have f1 : (folkD c.1).weight ≤ 9 * c.1.length := by unfold folkD; rw [PyData.weight]; exact w1
    have f2 : (rowsD c.2).weight ≤ 141 * c.2.length := by unfold rowsD; rw [PyData.weight]; exact w2
    unfold pairD
    rw [PyData.weight, PyData.weightAll, PyData.weightAll, PyData.weightAll]
    show _ ≤ 1048576
    omega
  have sz : (pairD c).shown.length ≤ 15728653 := by
    refine PyProof.Rows.shown_le13 ?_ ?_
    · show ((pairD c).canLay0 && decide ((pairD c).depth ≤ 64) && decide ((pairD c).weight ≤ 2 ^ 20)) = true
      rw [lay, decide_eq_true (show (pairD c).depth ≤ 64 by omega), decide_eq_true wt]
      rfl
    · have e1 : (folkD c.1).intsShort 13 = true := by unfold folkD; rw [PyData.intsShort]; exact b1
      have e2 : (rowsD c.2).intsShort 13 = true := by unfold rowsD; rw [PyData.intsShort]; exact b2
      unfold pairD
      rw [PyData.intsShort, PyData.intsShortAll, PyData.intsShortAll, PyData.intsShortAll, e1, e2]
      rfl
  refine ⟨.dat (.lst (SqL.of h) (.cons (dp_of (nodict_folk _) h1) (.cons (dp_of (nodict_rows _) h2) .nil))) ?_, sh, by omega, Nat.le_trans sz (by decide)⟩
  exact Bool.and_eq_true_iff.mpr ⟨lay, decide_eq_true (by omega)⟩
/-- keywords of a def without defaults, all behind the positional ones -/
theorem kb_of {K : PySem.W.Frag} {x q : Str} {params : Arguments} {body : List Stmt} {scope : Scope} {f : Addr} {fd : FuncData} {ps ks : List Str} {n : Nat} (F : FunD K x q params body scope [] [] f fd)
    (h : ∀ (kV doc pm : Value) (an : Option Addr) (cdv ct : Value) (us ws : List Value), us.length = n → ws.length = ks.length → bindArgs (PySem.W.fnOf x q params body scope .none kV doc pm an cdv ct) ⟨us, ks.zip ws⟩ = pure (ps.zip (us ++ ws))) :
    KBn K fd ps n ks (fun us ws => us ++ ws) (fun vs zs => vs ++ zs) := by
  obtain ⟨oc, od, dV, kV, doc, pm, an, cdv, ct, osl, rfl, lk, hcd, hD, hK⟩ := F.ex
  rcases hD with ⟨_, rfl⟩ | ⟨e, _⟩
  · exact ⟨fun s us ws _ l1 l2 => .of_eq (h kV doc pm an cdv ct us ws l1 l2), fun r1 r2 => r1.append r2⟩
  · exact absurd rfl e
end Ca
set_option Elab.async false
set_option linter.all false
set_option maxRecDepth 100000
set_option maxHeartbeats 4000000
namespace Ca
open PySem L2
abbrev veT : List Value := PySem.HandSPX.veTail
/-- an error of the package over ValueError, as a def can raise it -/
structure ErrX (P : Program) (w : World) (K : PySem.W.Frag) (mg : Str → Option Value) (base : Heap) (C fI : Addr) (fd : FuncData) (f x : Str) : Prop where
  T : ErrC K C fI veT "ValueError.__new__" f
  G : FnOk P w K mg base CX0 1 fI fd ["self", f] (spIni K veT f)
  b : Binds K fd ["self", f] []
  g : mg x = some (.ref C)
theorem ps_errX {X : Cx} {C fI : Addr} {fd : FuncData} {f x : Str} {e : Expr} {ta : TA} {p pos pos2 : Pos} {W : WX} (Ex : ErrX X.prog X.w X.K X.mg X.base C fI fd f x) (hr : Room 2 X.A) (tk : Takes X W) (ha : PA X [e] ta) (hc : X.calm = true := by rfl) (hg : Gl X x := by rfl) (hdb : (x == ("__debug__" : Str)) = false := by decide)
    (he : starEach [e] X.env = (false, eval e X.env) :: starEach [] X.env := by rfl) (hpl : (backTo pos (starEach [] X.env)).any (·.1) = false := by rfl) :
    PS X (.Raise (some (.Call (.Name x p) [e] [] pos)) none pos2) (fun _ σ H => tErr C f ta σ H fun cls d H' => W cls d σ H') :=
  ps_err PySem.F.excBase_ValueError Ex.T Ex.G hr Ex.b Ex.g tk ha hc hg hdb he hpl
/-! ### the first wrong row, the first wrong unknown -/
def rowNm : PyData → Str
  | .tuple (.str x :: _) => x
  | _ => ""
def rowsGo (m : Nat) : Nat → List Str → List PyData → Option Nat
  | _, _, [] => none
  | i, seen, d :: ds => if i = 6 then some i else if isRowD d m = false then some i else if rowNm d ∈ seen then some i else rowsGo m (i + 1) (seen ++ [rowNm d]) ds
theorem rowsGo_cons (m i : Nat) (seen : List Str) (d : PyData) (ds : List PyData) : rowsGo m i seen (d :: ds) = if i = 6 then some i else if isRowD d m = false then some i else if rowNm d ∈ seen then some i else rowsGo m (i + 1) (seen ++ [rowNm d]) ds := rfl
def rowsSlip : PyData → Nat → Option (Option Nat)
  | .tuple ds, m => (rowsGo m 0 [] ds).map some
  | _, _ => some none
def strOf : PyData → Str
  | .str x => x
  | _ => ""
def unkGo : Nat → List Str → List PyData → Option Nat
  | _, _, [] => none
  | i, seen, d :: ds => if i = 3 then some i else if isUnknownD d = false then some i else if strOf d ∈ seen then some i else unkGo (i + 1) (seen ++ [strOf d]) ds
theorem unkGo_cons (i : Nat) (seen : List Str) (d : PyData) (ds : List PyData) : unkGo i seen (d :: ds) = if i = 3 then some i else if isUnknownD d = false then some i else if strOf d ∈ seen then some i else unkGo (i + 1) (seen ++ [strOf d]) ds := rfl
def unkSlip : PyData → Option (Option Nat)
  | .tuple [] => some none
  | .tuple ds => (unkGo 0 [] ds).map some
  | _ => some none
def ixV : Option Nat → V
  | none => .non
  | some i => .int i
def lenD : PyData → Nat
  | .tuple ds => ds.length
  | _ => 0
theorem row_shape {d : PyData} {m : Nat} (h : isRowD d m = true) : ∃ r, d = rowD r := by
  cases d with
  | tuple ds =>
    match ds, h with
    | [n, p, b], h =>
      obtain ⟨h1, h2⟩ := Bool.and_eq_true_iff.mp (show (isNameD n && (isTupN p m && ((partsOf p ++ [b]).all isStretchD))) = true from h)
      obtain ⟨h3, h4⟩ := Bool.and_eq_true_iff.mp h2
      have st : ∀ z, isStretchD z = true → ∃ q, z = strD q := fun z hz => by
        cases z with
        | tuple zs =>
          match zs, hz with
          | [.int a, .int c], _ => exact ⟨(a, c), rfl⟩
          | [], hz => simp [isStretchD] at hz
          | [_], hz => simp [isStretchD] at hz
          | _ :: _ :: _ :: _, hz => simp [isStretchD] at hz
          | [.none, _], hz => simp [isStretchD] at hz
          | [.bool _, _], hz => simp [isStretchD] at hz
          | [.str _, _], hz => simp [isStretchD] at hz
          | [.list _, _], hz => simp [isStretchD] at hz
          | [.tuple _, _], hz => simp [isStretchD] at hz
          | [.dict _, _], hz => simp [isStretchD] at hz
          | [.int _, .none], hz => simp [isStretchD] at hz
          | [.int _, .bool _], hz => simp [isStretchD] at hz
          | [.int _, .str _], hz => simp [isStretchD] at hz
          | [.int _, .list _], hz => simp [isStretchD] at hz
          | [.int _, .tuple _], hz => simp [isStretchD] at hz
          | [.int _, .dict _], hz => simp [isStretchD] at hz
        | _ => simp [isStretchD] at hz
      have sts : ∀ zs : List PyData, (∀ z ∈ zs, isStretchD z = true) → ∃ qs : List (Int × Int), zs = qs.map strD := fun zs => by
        induction zs with
        | nil => exact fun _ => ⟨[], rfl⟩
        | cons z zs ih =>
          intro hz
          obtain ⟨q, rfl⟩ := st z (hz z (List.mem_cons_self ..))
          obtain ⟨qs, rfl⟩ := ih fun y hy => hz y (List.mem_cons_of_mem _ hy)
          exact ⟨q :: qs, rfl⟩
      have hall := List.all_eq_true.mp h4
      cases n with
      | str x =>
        cases p with
        | tuple ps =>
          obtain ⟨qs, rfl⟩ := sts ps fun z hz => hall z (List.mem_append_left _ hz)
          obtain ⟨q, rfl⟩ := st b (hall b (List.mem_append_right _ (List.mem_singleton.mpr rfl)))
          exact ⟨⟨x, qs, q⟩, rfl⟩
        | _ => cases h3
      | _ => cases h1
    | [], h => simp [isRowD] at h
    | [_], h => simp [isRowD] at h
    | [_, _], h => simp [isRowD] at h
    | _ :: _ :: _ :: _ :: _, h => simp [isRowD] at h
  | _ => simp [isRowD] at h
theorem rowNm_D (r : Rw) : rowNm (rowD r) = r.name := rfl
theorem unk_shape {d : PyData} (h : isUnknownD d = true) : ∃ x, d = .str x := by
  cases d with
  | str x => exact ⟨x, rfl⟩
  | _ => cases h
theorem rows_go {m : Nat} : ∀ (ds : List PyData) (i : Nat) (seen : List Str), rowsGo m i seen ds = none → ∃ rs : List Rw, ds = rs.map rowD ∧ (∀ r ∈ rs, isRowD (rowD r) m = true) ∧ (seen.Nodup → (seen ++ rs.map Rw.name).Nodup) ∧ (i ≤ 6 → i + rs.length ≤ 6)
  | [], i, seen, _ => ⟨[], rfl, fun _ z => (nomatch z), fun h => by simpa using h, fun h => by simpa using h⟩
  | d :: ds, i, seen, h => by
    unfold rowsGo at h
    split at h
    · cases h
    · rename_i c1
      split at h
      · cases h
      · rename_i c2
        split at h
        · cases h
        · rename_i c3
          have ok : isRowD d m = true := by simpa using c2
          obtain ⟨r, rfl⟩ := row_shape ok
          obtain ⟨rs, rfl, h1, h2, h3⟩ := rows_go ds (i + 1) _ h
          rw [rowNm_D] at c3 h2
          refine ⟨r :: rs, rfl, fun q hq => ?_, fun hs => ?_, fun hi => ?_⟩
          · rcases List.mem_cons.mp hq with rfl | hq
            · exact ok
            · exact h1 q hq
          · have := h2 (List.nodup_append.mpr ⟨hs, by simp, fun a ha b hb e => by
              rw [List.mem_singleton.mp hb] at e
              exact c3 (e ▸ ha)⟩)
            rw [List.map_cons]
            simpa using this
          · have := h3 (by omega)
            rw [List.length_cons]
            omega
theorem lines_of {d : PyData} {m : Nat} (h : rowsSlip d m = none) : ∃ rs, d = rowsD rs ∧ Lines rs m := by
  cases d with
  | tuple ds =>
    have h' : (rowsGo m 0 [] ds).map some = none := h
    cases e : rowsGo m 0 [] ds with
    | some i => rw [e] at h'; cases h'
    | none =>
      obtain ⟨rs, rfl, h1, h2, h3⟩ := rows_go ds 0 [] e
      exact ⟨rs, rfl, by simpa using h3 (by decide), h1, by simpa using h2 (by simp)⟩
  | _ => cases h
theorem unk_go : ∀ (ds : List PyData) (i : Nat) (seen : List Str), unkGo i seen ds = none → ∃ ns : List Str, ds = ns.map .str ∧ (∀ x ∈ ns, isUnknownD (.str x) = true) ∧ (seen.Nodup → (seen ++ ns).Nodup) ∧ (i ≤ 3 → i + ns.length ≤ 3)
  | [], i, seen, _ => ⟨[], rfl, fun _ z => (nomatch z), fun h => by simpa using h, fun h => by simpa using h⟩
  | d :: ds, i, seen, h => by
    unfold unkGo at h
    split at h
    · cases h
    · rename_i c1
      split at h
      · cases h
      · rename_i c2
        split at h
        · cases h
        · rename_i c3
          have ok : isUnknownD d = true := by simpa using c2
          obtain ⟨x, rfl⟩ := unk_shape ok
          obtain ⟨ns, rfl, h1, h2, h3⟩ := unk_go ds (i + 1) _ h
          replace c3 : ¬ x ∈ seen := c3
          replace h2 : (seen ++ [x]).Nodup → (seen ++ [x] ++ ns).Nodup := h2
          refine ⟨x :: ns, rfl, fun q hq => ?_, fun hs => ?_, fun hi => ?_⟩
          · rcases List.mem_cons.mp hq with rfl | hq
            · exact ok
            · exact h1 q hq
          · have := h2 (List.nodup_append.mpr ⟨hs, by simp, fun a ha b hb e => by
              rw [List.mem_singleton.mp hb] at e
              exact c3 (e ▸ ha)⟩)
            simpa using this
          · have := h3 (by omega)
            rw [List.length_cons]
            omega
theorem folk_of {d : PyData} (h : unkSlip d = none) : ∃ ns, d = folkD ns ∧ Folk ns := by
  cases d with
  | tuple ds =>
    match ds, h with
    | d :: ds, h =>
      have h' : (unkGo 0 [] (d :: ds)).map some = none := h
      cases e : unkGo 0 [] (d :: ds) with
      | some i => rw [e] at h'; cases h'
      | none =>
        obtain ⟨ns, hn, h1, h2, h3⟩ := unk_go _ 0 [] e
        refine ⟨ns, by rw [hn]; rfl, ?_, by simpa using h3 (by decide), h1, by simpa using h2 (by simp)⟩
        cases ns with
        | nil => cases hn
        | cons _ _ => exact Nat.succ_le_succ (Nat.zero_le _)
    | [], h => cases h
  | _ => cases h
/-- a further row that is wrong -/
theorem rows_more {m : Nat} {d : PyData} : ∀ (rs : List Rw) (i : Nat) (seen : List Str), (∀ r ∈ rs, isRowD (rowD r) m = true) → (seen ++ rs.map Rw.name).Nodup → i + rs.length ≤ 6 →
    (isRowD d m = false ∨ i + rs.length = 6 ∨ rowNm d ∈ seen ++ rs.map Rw.name) → rowsGo m i seen (rs.map rowD ++ [d]) = some (i + rs.length)
  | [], i, seen, _, _, _, h => by
    show rowsGo m i seen [d] = some i
    unfold rowsGo
    simp only [List.map_nil, List.append_nil, List.length_nil, Nat.add_zero] at h
    split
    · rfl
    · rename_i c1
      split
      · rfl
      · rename_i c2
        rw [if_pos]
        rcases h with h | h | h
        · exact absurd h c2
        · exact absurd h c1
        · exact h
  | r :: rs, i, seen, h1, h2, h3, h => by
    rw [List.length_cons] at h3 h
    show rowsGo m i seen (rowD r :: (rs.map rowD ++ [d])) = _
    have nr : r.name ∉ seen := fun z => by
      have := (List.nodup_append.mp h2).2.2 _ z r.name (by simp)
      exact this rfl
    unfold rowsGo
    rw [if_neg (by omega), if_neg (by rw [h1 r (List.mem_cons_self ..)]; decide), if_neg (by rw [rowNm_D]; exact nr), rowNm_D]
    rw [rows_more rs (i + 1) (seen ++ [r.name]) (fun q hq => h1 q (List.mem_cons_of_mem _ hq)) (by simpa using h2) (by omega) (by
      rcases h with h | h | h
      · exact .inl h
      · exact .inr (.inl (by omega))
      · exact .inr (.inr (by simpa using h)))]
    rw [List.length_cons]
    congr 1
    omega
theorem rows_moreS {m : Nat} {d : PyData} {rs : List Rw} (L : Lines rs m) (h : isRowD d m = false ∨ rs.length = 6 ∨ rowNm d ∈ rs.map Rw.name) : rowsSlip (.tuple (rs.map rowD ++ [d])) m = some (some rs.length) := by
  have := rows_more (d := d) rs 0 [] L.ok (by simpa using L.nd) (by have := L.hi; omega) (by simpa using h)
  show (rowsGo m 0 [] (rs.map rowD ++ [d])).map some = _
  rw [this, Nat.zero_add]
  rfl
def spCheckRX (K : PySem.W.Frag) (CR : Addr) : Sp := fun vs H Q E => ∃ v d m, vs = [v, .int (m : Nat)] ∧ m ≤ 5000 ∧ Dq K H v d ∧ (∀ i, rowsSlip d m = some i → ErrW E H CR "index" (ixV i)) ∧ (rowsSlip d m = none → ∀ H', Same H H' → Q .non H')
def spCheckUX (K : PySem.W.Frag) (CU : Addr) : Sp := fun vs H Q E => ∃ v d, vs = [v] ∧ Dq K H v d ∧ (∀ i, unkSlip d = some i → ErrW E H CU "index" (ixV i)) ∧ (unkSlip d = none → ∀ H', Same H H' → Q .non H')
section
variable {P : Program} {w : World} {K : PySem.W.Frag} {mg : Str → Option Value} {base : Heap} {CR CU fIR fIU : Addr} {fdIR fdIU : FuncData}
theorem ok_checkRX {f fR : Addr} {fd fdR : FuncData} (F : FnT K "check_rows" sCheckRows f fd) (B : Bn mg) (C : Cn mg) (Ex : ErrX P w K mg base CR fIR fdIR "index" "InvalidRows")
    (gR : mg "is_row" = some (.ref fR)) (GR : FnOk P w K mg base CX0 3 fR fdR ["value", "many"] (spIs2 K isRowD)) (kR : PySem.W.keepIn K (.ref fR) = true) (bR : Binds K fdR ["value", "many"] []) :
    FnOk P w K mg base (L2.CX P w) 4 f fd ["rows", "many"] (spCheckRX K CR) := by
  obtain ⟨t1, c1⟩ := C.rows
  refine F.ok scCheckR (fun vs H Q E h => ?_) (fun cdv A outer s H vs Q E hr h => ?_)
  · obtain ⟨v, d, m, rfl, _⟩ := h
    rfl
  · obtain ⟨v, d, m, rfl, hm, hd, hE, q⟩ := h
    have nd := scCheckR.nd
    have hr2 : Room 2 _ := hr.mono (by decide)
    refine ⟨_, pss_cons (ps_if (pt_not (pt_val (pe_callB call_isi (by rfl) B.isi PyProof.Rows.boot_isinstance (pa_cons (pv 0) (pa_cons (pe_bltn (v := .ty "tuple") (by rfl) B.tup (by decide +kernel) rfl) pa_nil))))) (pss_one (ps_errX Ex hr2 (takes_of rfl rfl rfl rfl) (pa_cons pe_non pa_nil))) pss_nil)
      (pss_cons (ps_set (i := 2) nd rfl (.inl rfl) (pe_lst pa_nil))
      (pss_one (ps_for (passes_of rfl) rfl (pi_enumT (by rfl) B.enum (pa_cons (pv 0) pa_nil)) (pg_tup rfl (pgs_cons (pg_name (i := 3) nd rfl (.inl rfl)) (pgs_cons (pg_name (i := 4) nd rfl (.inl rfl)) pgs_nil)))
        (pss_cons (ps_if (PW.pt (pw_or (pt_cmpR op_eq (pv 3) (pe_glob (v := .int 6) rfl c1 ⟨_, rfl⟩) (nomark _)) (pw_or (pt_not (pt_val (pe_call GR hr rfl gR kR bR .nil pass0 (pa_cons (pv 4) (pa_cons (pv 1) pa_nil)))))
          (pw_or1 (pt_cmpR op_in_seq (pe_ix ix_tup (pv 4) pe_int (fun _ _ => rfl)) (pv 2) (by rfl)))))) (pss_one (ps_errX Ex hr2 (takes_of rfl rfl rfl rfl) (pa_cons (pv 3) pa_nil))) pss_nil)
        (pss_one (ps_expr (pe_bm PySem.F.plainAttrs_list PySem.F.slot_list_append PySem.F.type_list_append mt_append (pv 2) (pa_cons (pe_ix ix_tup (pv 4) pe_int (fun _ _ => rfl)) pa_nil)))))))), ?_⟩
    refine rd_isd hd rfl (kit_tup _) ⟨_, rfl, ?_⟩
    cases d with
    | tuple ds =>
      cases hd with
      | @tup a xs _ h1 h2 =>
      have hl : xs.length = ds.length := h2.len
      refine iteF ⟨by show 0 ≤ sizeLine; decide, fun nl hnl => ?_⟩
      have s0 : Same H (upd H nl (.lst [])) := Same.new hnl
      refine ⟨_, rfl, a, _, rfl, same_sqt s0 h1, ?_⟩
      refine for_it walk_enumT (fun i σ' H' => i ≤ ds.length ∧ i ≤ 6 ∧ (∃ o1 o2, σ' = [some (.ref a), some (.int m), some (.ref nl), o1, o2]) ∧ Same H H' ∧ H' nl = some (.lst (((ds.take i).map rowNm).map V.str)) ∧ rowsGo m i ((ds.take i).map rowNm) (ds.drop i) = rowsGo m 0 [] ds)
        ⟨Nat.zero_le _, Nat.zero_le _, ⟨_, _, rfl⟩, s0, upd_same, rfl⟩ (fun i σ' H' hi p => same_sqt p.2.2.2.1 h1) ?_ (fun σ' H' p => ?_)
      · rintro i x _ H1 _ hi ⟨_, i6, ⟨o1, o2, rfl⟩, s1, hn1, hgo⟩ ⟨T, x, rfl, hT, rfl, hx⟩
        refine ⟨T, _, rfl, SqT.of upd_same, rfl, _, _, rfl, _, _, rfl, rfl, ?_⟩
        have hil : i < ds.length := by rw [← hl]; exact hi
        have s2 : Same H1 (upd H1 T (.tup [.int (i : Nat), x])) := Same.new hT
        obtain ⟨d, hdi, hdq⟩ := (h2.same (s1.trans s2)).get hx
        rw [List.getElem?_eq_getElem hil] at hdi
        have ed : ds[i] = d := Option.some.inj hdi
        have edr : ds.drop i = d :: ds.drop (i + 1) := by rw [List.drop_eq_getElem_cons hil, ed]
        have etk : (ds.take (i + 1)).map rowNm = (ds.take i).map rowNm ++ [rowNm d] := by
          rw [List.take_succ, List.getElem?_eq_getElem hil, ed, List.map_append]
          rfl
        have err : ∀ {H'}, Same H H' → rowsGo m i ((ds.take i).map rowNm) (ds.drop i) = some i → ErrW E H' CR "index" (.int (i : Nat)) := fun {H'} s' e => by
          refine (hE (some i) ?_).on s'
          show (rowsGo m 0 [] ds).map some = _
          rw [← hgo, e]
          rfl
        rw [edr] at hgo err
        rw [rowsGo_cons] at hgo err
        refine ⟨_, rfl, rfl, _, rfl, ?_⟩
        by_cases e6 : i = 6
        · rw [decide_eq_true (show V.int ((i : Nat) : Int) = V.int 6 by rw [e6]; rfl)]
          exact iteT (iteT ⟨_, rfl, _, rfl, err (s1.trans s2) (if_pos e6)⟩)
        · rw [decide_eq_false (fun y => e6 (by injection y with y; omega))]
          rw [if_neg e6] at hgo err
          refine iteF ⟨_, rfl, _, rfl, x, d, m, rfl, hm, hdq, fun H3 s3 => ⟨_, rfl, ?_⟩⟩
          have s13 := s1.trans (s2.trans s3)
          cases g : isRowD d m with
          | false =>
            rw [if_pos g] at err
            exact iteT (iteT ⟨_, rfl, _, rfl, err s13 rfl⟩)
          | true =>
            rw [if_neg (by rw [g]; decide)] at hgo err
            obtain ⟨r, rfl⟩ := row_shape g
            obtain ⟨b, v2, v3, rfl, hb, _, _, _⟩ := row_at (hdq.same s3)
            have hn3 := s3 _ _ (s2 _ _ hn1)
            rw [rowNm_D] at hgo err etk
            refine iteF ⟨_, rfl, b, _, 0, _, rfl, rfl, hb, atI_nat (j := 0) rfl, _, rfl, nl, _, rfl, .inl (SqL.of hn3), rfl, flat_strs _, _, rfl, ?_⟩
            show (fun b_1 H1 => if b_1 = true then _ else _) (inV (.str r.name) (((ds.take i).map rowNm).map V.str)) H3
            rw [inV_strs]
            by_cases g2 : r.name ∈ (ds.take i).map rowNm
            · rw [if_pos g2] at err
              rw [decide_eq_true g2]
              exact iteT ⟨_, rfl, _, rfl, err s13 rfl⟩
            · rw [if_neg g2] at hgo
              rw [decide_eq_false g2]
              refine iteF ⟨_, rfl, .inl ⟨rfl, _, SqL.of hn3⟩, _, rfl, b, _, 0, _, rfl, rfl, hb, atI_nat (j := 0) rfl, nl, _, _, rfl, rfl, hn3, ?_, hil, by omega, ⟨_, _, rfl⟩, fun c o e => ?_, ?_, ?_⟩
              · rw [List.length_map, List.length_map, List.length_take]
                exact Nat.lt_of_le_of_lt (Nat.le_trans (Nat.min_le_left ..) i6) (by decide)
              · rw [upd_ne (ne_of_none e hnl)]
                exact s13 _ _ e
              · rw [upd_same, etk, List.map_append]
                rfl
              · rw [etk]
                exact hgo
      · obtain ⟨_, _, ⟨o1, o2, rfl⟩, s1, _, hgo⟩ := p
        refine q ?_ H' s1
        show (rowsGo m 0 [] ds).map some = none
        rw [← hgo, hl, List.drop_length]
        rfl
    | _ => exact iteT ⟨_, rfl, hE none rfl⟩
theorem strs_map {K : PySem.W.Frag} {H : Hp} {ds : List PyData} {xs : List V} (h : DqAll K H xs ds) (hs : ∀ d ∈ ds, ∃ x, d = .str x) : xs = (ds.map strOf).map V.str := by
  have e : ds = (ds.map strOf).map .str := by
    clear h
    induction ds with
    | nil => rfl
    | cons d ds ih =>
      obtain ⟨x, rfl⟩ := hs d (List.mem_cons_self ..)
      rw [List.map_cons, List.map_cons, ← ih fun y hy => hs y (List.mem_cons_of_mem _ hy)]
      rfl
  rw [e] at h
  exact (strs_of h).1
theorem dqTake {K : PySem.W.Frag} {H : Hp} : ∀ {xs : List V} {ds : List PyData} (k : Nat), DqAll K H xs ds → DqAll K H (xs.take k) (ds.take k)
  | _, _, 0, _ => .nil
  | _, _, _ + 1, .nil => .nil
  | _, _, k + 1, .cons a t => .cons a (dqTake k t)
theorem ok_checkUX {f fU : Addr} {fd fdU : FuncData} (F : FnT K "check_unknowns" sCheckUnknowns f fd) (B : Bn mg) (C : Cn mg) (Ex : ErrX P w K mg base CU fIU fdIU "index" "InvalidUnknowns")
    (gU : mg "is_unknown" = some (.ref fU)) (GU : FnOk P w K mg base CX0 2 fU fdU ["value"] (spIs K isUnknownD)) (kU : PySem.W.keepIn K (.ref fU) = true) (bU : Binds K fdU ["value"] []) :
    FnOk P w K mg base (L2.CX P w) 3 f fd ["unknowns"] (spCheckUX K CU) := by
  obtain ⟨t1, c1⟩ := C.unknowns
  refine F.ok scCheckU (fun vs H Q E h => ?_) (fun cdv A outer s H vs Q E hr h => ?_)
  · obtain ⟨v, d, rfl, _⟩ := h
    rfl
  · obtain ⟨v, d, rfl, hd, hE, q⟩ := h
    have nd := scCheckU.nd
    refine ⟨_, pss_cons (ps_if (PW.pt (pw_or (pt_not (pt_val (pe_callB call_isi (by rfl) B.isi PyProof.Rows.boot_isinstance (pa_cons (pv 0) (pa_cons (pe_bltn (v := .ty "tuple") (by rfl) B.tup (by decide +kernel) rfl) pa_nil)))))
        (pw_or1 (pt_cmpR op_eq (pe_callB call_len (by rfl) B.len boot_len (pa_cons (pv 0) pa_nil)) pe_int (nomark _))))) (pss_one (ps_errX Ex hr (takes_of rfl rfl rfl rfl) (pa_cons pe_non pa_nil))) pss_nil)
      (pss_one (ps_for (passes_of rfl) rfl (pi_enumT (by rfl) B.enum (pa_cons (pv 0) pa_nil)) (pg_tup rfl (pgs_cons (pg_name (i := 1) nd rfl (.inl rfl)) (pgs_cons (pg_name (i := 2) nd rfl (.inl rfl)) pgs_nil)))
        (pss_one (ps_if (PW.pt (pw_or (pt_cmpR op_eq (pv 1) (pe_glob (v := .int 3) rfl c1 ⟨_, rfl⟩) (nomark _)) (pw_or (pt_not (pt_val (pe_call GU hr rfl gU kU bU .nil pass0 (pa_cons (pv 2) pa_nil))))
          (pw_or1 (pt_cmpR op_in_seq (pv 2) (pe_slice sl_tupA (pv 0) po_none (po_some (pv 1))) (by rfl)))))) (pss_one (ps_errX Ex hr (takes_of rfl rfl rfl rfl) (pa_cons (pv 1) pa_nil))) pss_nil)))), ?_⟩
    refine rd_isd hd rfl (kit_tup _) ⟨_, rfl, ?_⟩
    cases d with
    | tuple ds =>
      cases hd with
      | @tup a xs _ h1 h2 =>
      have hl : xs.length = ds.length := h2.len
      refine iteF ⟨_, rfl, _, _, rfl, .inr ⟨_, h1, rfl⟩, rfl, _, rfl, ?_⟩
      by_cases e0 : ds.length = 0
      · rw [decide_eq_true (show V.int ((xs.length : Nat) : Int) = V.int 0 by rw [hl, e0]; rfl)]
        refine iteT ⟨_, rfl, hE none ?_⟩
        cases ds with
        | nil => rfl
        | cons _ _ => cases e0
      rw [decide_eq_false (fun z => by injection z with z; omega)]
      have eus : unkSlip (.tuple ds) = (unkGo 0 [] ds).map some := by
        cases ds with
        | nil => exact absurd rfl e0
        | cons _ _ => rfl
      refine iteF ⟨_, rfl, a, _, rfl, h1, ?_⟩
      refine for_it walk_enumT (fun i σ' H' => i ≤ ds.length ∧ i ≤ 3 ∧ (∃ o1 o2, σ' = [some (.ref a), o1, o2]) ∧ Same H H' ∧ (∀ d ∈ ds.take i, ∃ x, d = .str x) ∧ unkGo i ((ds.take i).map strOf) (ds.drop i) = unkGo 0 [] ds)
        ⟨Nat.zero_le _, Nat.zero_le _, ⟨_, _, rfl⟩, fun _ _ e => e, fun _ z => (by simp at z), rfl⟩ (fun i σ' H' hi p => same_sqt p.2.2.2.1 h1) ?_ (fun σ' H' p => ?_)
      · rintro i x _ H1 _ hi ⟨_, i3, ⟨o1, o2, rfl⟩, s1, hst, hgo⟩ ⟨T, x, rfl, hT, rfl, hx⟩
        refine ⟨T, _, rfl, SqT.of upd_same, rfl, _, _, rfl, _, _, rfl, rfl, ?_⟩
        have hil : i < ds.length := by rw [← hl]; exact hi
        have s2 : Same H1 (upd H1 T (.tup [.int (i : Nat), x])) := Same.new hT
        obtain ⟨d, hdi, hdq⟩ := (h2.same (s1.trans s2)).get hx
        rw [List.getElem?_eq_getElem hil] at hdi
        have ed : ds[i] = d := Option.some.inj hdi
        have edr : ds.drop i = d :: ds.drop (i + 1) := by rw [List.drop_eq_getElem_cons hil, ed]
        have etk0 : ds.take (i + 1) = ds.take i ++ [d] := by
          rw [List.take_succ, List.getElem?_eq_getElem hil, ed]
          rfl
        have err : ∀ {H'}, Same H H' → unkGo i ((ds.take i).map strOf) (ds.drop i) = some i → ErrW E H' CU "index" (.int (i : Nat)) := fun {H'} s' e => by
          refine (hE (some i) ?_).on s'
          rw [eus, ← hgo, e]
          rfl
        rw [edr, unkGo_cons] at hgo err
        refine ⟨_, rfl, rfl, _, rfl, ?_⟩
        by_cases e3 : i = 3
        · rw [decide_eq_true (show V.int ((i : Nat) : Int) = V.int 3 by rw [e3]; rfl)]
          exact iteT (iteT ⟨_, rfl, _, rfl, err (s1.trans s2) (if_pos e3)⟩)
        · rw [decide_eq_false (fun y => e3 (by injection y with y; omega))]
          rw [if_neg e3] at hgo err
          refine iteF ⟨_, rfl, x, d, rfl, hdq, fun H3 s3 => ⟨_, rfl, ?_⟩⟩
          have s13 := s1.trans (s2.trans s3)
          cases g : isUnknownD d with
          | false =>
            rw [if_pos g] at err
            exact iteT (iteT ⟨_, rfl, _, rfl, err s13 rfl⟩)
          | true =>
            rw [if_neg (by rw [g]; decide)] at hgo err
            obtain ⟨z, rfl⟩ := unk_shape g
            cases hdq
            replace err : ∀ {H'}, Same H H' → (if z ∈ (ds.take i).map strOf then some i else unkGo (i + 1) ((ds.take i).map strOf ++ [z]) (ds.drop (i + 1))) = some i → ErrW E H' CU "index" (.int (i : Nat)) := err
            replace hgo : (if z ∈ (ds.take i).map strOf then some i else unkGo (i + 1) ((ds.take i).map strOf ++ [z]) (ds.drop (i + 1))) = unkGo 0 [] ds := hgo
            have h3 : SqT K H3 a xs := same_sqt s13 h1
            refine iteF ⟨_, rfl, _, rfl, _, rfl, _, rfl, ?_⟩
            refine rd_slA h3 fun H4 b s4 hb => ?_
            rw [cut_take, strs_map (dqTake i (h2.same (s13.trans s4))) hst] at hb
            refine ⟨b, _, rfl, .inr hb, rfl, flat_strs _, _, rfl, ?_⟩
            rw [inV_strs]
            by_cases g2 : z ∈ (ds.take i).map strOf
            · rw [if_pos g2] at err
              rw [decide_eq_true g2]
              exact iteT ⟨_, rfl, _, rfl, err (s13.trans s4) rfl⟩
            · rw [if_neg g2] at hgo
              rw [decide_eq_false g2]
              refine iteF ⟨hil, by omega, ⟨_, _, rfl⟩, s13.trans s4, fun y hy => ?_, ?_⟩
              · rw [etk0] at hy
                rcases List.mem_append.mp hy with hy | hy
                · exact hst y hy
                · exact ⟨z, List.mem_singleton.mp hy⟩
              · rw [etk0, List.map_append]
                exact hgo
      · obtain ⟨_, _, ⟨o1, o2, rfl⟩, s1, _, hgo⟩ := p
        refine q ?_ H' s1
        rw [eus, ← hgo, hl, List.drop_length]
        rfl
    | _ => exact iteT (iteT ⟨_, rfl, hE none rfl⟩)
def spInitX (K : PySem.W.Frag) (C CU CR : Addr) : Sp := fun vs H Q E => ∃ x dx u r du dr, vs = [.ref x, u, r] ∧ H x = some (.ins C dx []) ∧ Dq K H u du ∧ Dq K H r dr ∧
  (∀ i, unkSlip du = some i → ErrW E H CU "index" (ixV i)) ∧ (∀ i, unkSlip du = none → rowsSlip dr (lenD du) = some i → ErrW E H CR "index" (ixV i)) ∧
  (unkSlip du = none → rowsSlip dr (lenD du) = none → ∀ H', Kept x H H' → H' x = some (.ins C dx (sysF u r)) → Q .non H')
variable {C : Addr}
theorem ok_initX {f fU fR : Addr} {fd fdU fdR : FuncData} {dvs : List V} (F : FnM K "__init__" "System.__init__" mSystemInit dvs f fd) (B : Bn mg) (S : SysC K C)
    (gU : mg "check_unknowns" = some (.ref fU)) (GU : FnOk P w K mg base (L2.CX P w) 3 fU fdU ["unknowns"] (spCheckUX K CU)) (kU : PySem.W.keepIn K (.ref fU) = true) (bU : Binds K fdU ["unknowns"] [])
    (gR : mg "check_rows" = some (.ref fR)) (GR : FnOk P w K mg base (L2.CX P w) 4 fR fdR ["rows", "many"] (spCheckRX K CR)) (kR : PySem.W.keepIn K (.ref fR) = true) (bR : Binds K fdR ["rows", "many"] []) :
    FnOk P w K mg base (L2.CX P w) 5 f fd ["self", "unknowns", "rows"] (spInitX K C CU CR) := by
  refine F.ok scInit (fun vs H Q E h => ?_) (fun cdv A outer s H vs Q E hr h => ?_)
  · obtain ⟨x, dx, u, r, du, dr, rfl, _⟩ := h
    rfl
  · obtain ⟨x, dx, u, r, du, dr, rfl, hx, hdu, hdr, e1, e2, q⟩ := h
    have hr3 : Room 3 _ := hr.mono (by decide)
    refine ⟨_, pss_cons (ps_expr (pe_call (E := E) GU hr3 rfl gU kU bU .nil (passes_call (takes_of rfl rfl rfl rfl) fun _ _ _ _ h => h) (pa_cons (pv 1) pa_nil)))
      (pss_cons (ps_expr (pe_call (E := E) GR hr rfl gR kR bR .nil (passes_call (takes_of rfl rfl rfl rfl) fun _ _ _ _ h => h) (pa_cons (pv 2) (pa_cons (pe_callB call_len (by rfl) B.len boot_len (pa_cons (pv 1) pa_nil)) pa_nil))))
      (pss_cons (ps_fld (pv 0) (pv 1) rfl) (pss_one (ps_fld (pv 0) (pv 2) rfl)))), ?_⟩
    refine ⟨_, rfl, u, du, rfl, hdu, e1, fun hu H1 s1 => ?_⟩
    obtain ⟨ns, rfl, hN⟩ := folk_of hu
    obtain ⟨a, xs, rfl, h1, h2, hl⟩ := tup_len (hdu.same s1)
    have hl2 : xs.length = ns.length := by rw [hl, List.length_map]
    have el : lenD (folkD ns) = ns.length := List.length_map ..
    rw [el] at e2 q
    refine ⟨_, rfl, _, rfl, _, ns.length, rfl, .inr ⟨_, h1, hl2.symm⟩, r, dr, ns.length, rfl, by have := hN.hi; omega, hdr.same s1, fun i hi => (e2 i hu hi).on s1, fun hr' H2 s2 => ?_⟩
    have hx2 := s2 _ _ (s1 _ _ hx)
    refine ⟨_, rfl, _, rfl, x, C, dx, _, rfl, hx2, S.cl, S.nu, by show 0 < 1000; decide, _, rfl, _, rfl, x, C, dx, _, rfl, upd_same, S.cl, S.nr, by show 1 < 1000; decide, ?_⟩
    refine q hu hr' _ (fun b o n e => ?_) upd_same
    rw [upd_ne n, upd_ne n]
    exact s2 _ _ (s1 _ _ e)
end
end Ca
set_option Elab.async false
set_option linter.all false
set_option maxRecDepth 100000
set_option maxHeartbeats 4000000
namespace Ca
open PySem PySem.Spec PyProof.Rows L2 LamX
/-! ### defs that make lambdas: the code object is known -/
def codeA (K : PySem.W.Frag) (f : Addr) : Addr := match K.lookup f with
  | some ⟨_, _, .func fd, _⟩ => (match fd.code with
    | .ref c => c
    | _ => 0)
  | _ => 0
theorem fnGC_of {P : Program} {w : World} {K : PySem.W.Frag} {mg : Str → Option Value} {base : Heap} {k : Nat} {f : Addr} {x qual : Str} {params : Arguments} {body : List Stmt} {scope : Scope} {dvs : List V} {kws : List (Str × V)} {fd : FuncData} {N ps : List Str} {sp : Sp}
    (F : FunD K x qual params body scope dvs kws f fd) (S : FnScope N ps scope) (len : ∀ vs H Q E, sp vs H Q E → vs.length = ps.length)
    (hbody : ∀ (A : Around) (outer : List Env) (s : Shared) (H : Hp) (vs : List V) (Q : VK), (A.deeper (envOfC qual scope s.heap.objs.size f (.ref (codeA K f)))).guards = some [] → Room k (A.deeper (envOfC qual scope s.heap.objs.size f (.ref (codeA K f)))) → sp vs H Q E0 →
      ∃ t, PSs (cxOf CX0 P w K mg base N qual scope f (.ref (codeA K f)) A outer s H E0) body t ∧ t { nx := fun _ H' => Q .non H', rt := Q } (start N vs) H) :
    FnG P w K mg base (k + 1) f fd ps sp := by
  have ec : ∀ cdv : Value, (∃ oc od dV kV doc pm an ct osl, K.lookup f = some ⟨oc, od, .func (PySem.W.fnOf x qual params body scope dV kV doc pm an cdv ct), osl⟩) → PySem.W.codeIn K cdv qual = true → cdv = .ref (codeA K f) := fun cdv ⟨oc, od, dV, kV, doc, pm, an, ct, osl, lk⟩ hc => by
    obtain ⟨c, rfl⟩ := He.codeIn_ref hc
    unfold codeA
    rw [lk]
  refine ⟨len, fun A outer s H args us vs Q hgd hr e0 hb r hsp => ?_⟩
  obtain ⟨oc, od, dV, kV, doc, pm, an, cdv, ct, osl, rfl, lk, hcd, _, _⟩ := F.ex
  obtain rfl := ec cdv ⟨oc, od, dV, kV, doc, pm, an, ct, osl, lk⟩ hcd
  refine LamX.run_ofS (CX := CX0) (E := E0) (k := k) lk hcd S hr e0 hb r (len _ _ _ _ hsp) fun hr2 => hbody A outer s H vs Q (guards_deeper hgd _) hr2 hsp
/-! ### a law whose defs make lambdas -/
theorem lawGT {P : Program} {w : World} {K : PySem.W.Frag} {mg mb : Str → Option Value} {k : Nat} {fa a : Addr} {cs : List (Addr × Addr)} {fd : FuncData} {x : Str} {sp : Sp} {s₁ : Shared} {vs : List Value} {ns : List Int}
    (KX : K.In s₁.heap) (hns : s₁.heap.Ns mainGlobals mg) (hb : s₁.heap.Ns builtinsNs mb) (hbb : ∀ x : Str, x ≠ "__name__" → mb x = bootBuiltins x) (hlim : s₁.heap.NoLimit) (hg : s₁.gens = #[])
    (hT : ∀ p ∈ cs, s₁.heap.get? p.2 = some { cls := .none, data := .fields #[] }) (nT : ∀ p ∈ cs, K.lookup p.2 = none) (hC : ∀ p ∈ cs, PySem.W.codeHdIn K p.1 p.2 = true)
    (hbm : ∃ (bm : Addr) (ob : Obj), mg "__builtins__" = some (.ref bm) ∧ bm ≠ builtinsNs ∧ s₁.heap.get? bm = some ob ∧ ob.cls = .type "module" ∧ ob.dict = some builtinsNs ∧ ob.data = .plain)
    (ha : s₁.heap.get? a = some { cls := .type "list", data := .seq vs.toArray }) (hi : IntsAre vs ns) (hl : ns.length ≤ sizeLine) (hr : Room k callerA)
    (F : ∀ base : Heap, K.In base → base.Ns mainGlobals mg → (∀ p ∈ cs, TabB base mg p.1 p.2) → FnG P w K mg base k fa fd [x] sp) (hbind : ∀ (s : Shared) (u : Value), BindsTo s fd ⟨[u], []⟩ [(x, u)])
    (hsp : ∀ H : Hp, (∀ p ∈ cs, H p.2 = some (.tbl #[])) → SqL K H a (ns.map V.int) → sp [.ref a] H (fun v _ => v = .bl true) E0) :
    codeAny (model P w) callerA (.call (.ref fa) ⟨[.ref a], []⟩) (fun r s' => r = .ok (.ret (.bool true)) ∧ OldK s₁.heap s'.heap ∧ s'.os = s₁.os ∧ AllBare s'.gens) s₁ := by
  have rv := vals_ints hi
  have tab : ∀ b, b ∈ cs.map (·.2) → s₁.heap.get? b = some { cls := .none, data := .fields #[] } ∧ K.lookup b = none := fun b hb => by
    obtain ⟨p, hp, rfl⟩ := List.mem_map.mp hb
    exact ⟨hT p hp, nT p hp⟩
  have aT : a ∉ cs.map (·.2) := fun z => by
    have e := (tab a z).1
    rw [ha] at e
    injection e with e
    injection e with _ _ e
    cases e
  have go : ∀ H : Hp, (∀ b u, H b = some u → (b ∈ cs.map (·.2) ∧ u = .tbl #[]) ∨ (b = a ∧ u = .frz { cls := .type "list", data := .seq vs.toArray } (.lst (ns.map V.int)) ∧ K.lookup a = none)) → (∀ b, b ∈ cs.map (·.2) → H b = some (.tbl #[])) → SqL K H a (ns.map V.int) →
      codeAny (model P w) callerA (.call (.ref fa) ⟨[.ref a], []⟩) (fun r s' => r = .ok (.ret (.bool true)) ∧ OldK s₁.heap s'.heap ∧ s'.os = s₁.os ∧ AllBare s'.gens) s₁ := by
    intro H hH hB hS
    have hok : HOk P w H s₁.heap := fun b u z => by
      rcases hH b u z with ⟨m, rfl⟩ | ⟨rfl, rfl, _⟩
      · exact (tab b m).1
      · exact ⟨ha, by rw [List.length_map]; exact hl, vs, _, rv, ha⟩
    have free : ∀ {b : Addr} {o : Obj}, s₁.heap.get? b = some o → (∀ v n, o.data ≠ .seq v n) → o.data ≠ .fields #[] → H b = none := fun {b o} e d1 d2 => by
      cases q : H b with
      | none => rfl
      | some u =>
        rcases hH b u q with ⟨m, _⟩ | ⟨rfl, _⟩
        · rw [(tab b m).1] at e
          cases e
          exact (d2 rfl).elim
        · rw [ha] at e
          cases e
          exact (d1 _ _ rfl).elim
    have dictFree : ∀ {b : Addr} {m : Str → Option Value}, s₁.heap.Ns b m → (hidT s₁.heap H).Ns b m := fun {b m} z => by
      obtain ⟨o, es, ep, e, dd, r⟩ := z
      exact ⟨o, es, ep, hidT_get e (free e (fun v n y => by rw [dd] at y; cases y) fun y => by rw [dd] at y; cases y), dd, r⟩
    have hKb : K.In (hidT s₁.heap H) := fun b o e => hidT_get (KX b o e) (by
      cases q : H b with
      | none => rfl
      | some u =>
        rcases hH b u q with ⟨m, _⟩ | ⟨rfl, _, z⟩
        · rw [(tab b m).2] at e
          cases e
        · rw [z] at e
          cases e)
    obtain ⟨mc, l1, l2⟩ := hlim
    have md : Mod K mg (hidT s₁.heap H) := { kin := hKb, glob := dictFree hns, blt := ⟨mb, dictFree hb, hbb⟩, nolimit := ⟨mc, dictFree l1, l2⟩ }
    have none' : ∀ b : Addr, b ∉ frs [] := fun b z => nomatch z
    have e0 : Env0 P w K mg (hidT s₁.heap H) callerA [] s₁ H :=
      { frames := rfl, mod := md, bs := fun b o e => of_hidT e, bsz := Nat.le_of_eq (hidT_size _ _), funs := trivial, frf := fun b z => (none' b z).elim, hok := hok, bare := .of_eq hg }
    have TB : ∀ p ∈ cs, TabB (hidT s₁.heap H) mg p.1 p.2 := fun p hp => by
      obtain ⟨bm, ob, b1, b2, b3, b4, b5, b6⟩ := hbm
      refine ⟨PySem.W.codeHd_of_K hKb (hC p hp), ⟨bm, ob, b1, b2, fun z => ?_, fun z => ?_, hidT_get b3 (free b3 (fun v n y => by rw [b6] at y; cases y) fun y => by rw [b6] at y; cases y), b4, b5, b6⟩, fun z => ?_⟩
      · obtain ⟨o, es, ep, e, dd, _⟩ := hns
        rw [← z, b3] at e
        cases e
        rw [dd] at b6
        cases b6
      · rw [z, hT p hp] at b3
        cases b3
        cases b6
      · obtain ⟨o, es, ep, e, dd, _⟩ := hns
        rw [z, hT p hp] at e
        cases e
        cases dd
    have run := (F _ hKb (dictFree hns) TB).run callerA [] s₁ H ⟨[.ref a], []⟩ [.ref a] [.ref a] (fun v _ => v = .bl true) rfl hr e0 (hbind s₁ (.ref a)) (.cons rfl .nil) (hsp H (fun p hp => hB _ (List.mem_map.mpr ⟨p, hp, rfl⟩)) hS)
    refine codeAny_mono run fun r s' z => ?_
    match r, z with
    | .error _, z => exact z.elim
    | .ok .next, z => exact z.elim
    | .ok .brk, z => exact z.elim
    | .ok .cont, z => exact z.elim
    | .ok (.ret u), z =>
      obtain ⟨v, H', os, bare, un, hok', r', q⟩ := z
      obtain rfl : v = .bl true := q
      obtain rfl : u = Value.bool true := r'
      have stays : ∀ b o, b ∉ cs.map (·.2) → s₁.heap.get? b = some o → s'.heap.get? b = some o := fun b o nb e => by
        cases q : H b with
        | none => exact un.keep b o e q (none' b) (by simp)
        | some y =>
          rcases hH b y q with ⟨m, _⟩ | ⟨rfl, rfl, _⟩
          · exact (nb m).elim
          · rw [ha] at e
            cases e
            exact (hok' b _ (un.frzs b _ _ q)).1
      have grows : ∀ b, b ∈ cs.map (·.2) → ∃ more : Array Value, s'.heap.get? b = some { cls := .none, data := .fields more } := fun b m => by
        obtain ⟨more, y⟩ := un.tbls b #[] (hB b m)
        exact ⟨_, hok' b _ y⟩
      refine ⟨rfl, ⟨fun b o e => ?_, fun b o e => ?_⟩, os, bare⟩
      · by_cases m : b ∈ cs.map (·.2)
        · obtain ⟨more, y⟩ := grows b m
          obtain ⟨p, hp, rfl⟩ := List.mem_map.mp m
          rw [hT p hp] at e
          cases e
          exact .inr (.inl ⟨((PySem.W.codeHd_of_K KX (hC p hp)).tab (hT p hp)).isCodeTable, rfl, #[], more, rfl, by rw [Array.empty_append]; exact y⟩)
        · exact .inl (stays b o m e)
      · by_cases m : b ∈ cs.map (·.2)
        · obtain ⟨more, y⟩ := grows b m
          exact ⟨_, y⟩
        · exact ⟨o, stays b o m e⟩
  cases hk : K.lookup a with
  | some o =>
    have e := KX a o hk
    rw [ha] at e
    cases e
    refine go (fun b => if b ∈ cs.map (·.2) then some (.tbl #[]) else none) (fun b u z => ?_) (fun b m => if_pos m) (.inr ⟨_, vs.toArray, _, hk, rfl, rfl, rfl, by rw [List.size_toArray, hi.length]; exact hl, by simpa using rv⟩)
    by_cases m : b ∈ cs.map (·.2)
    · have y := (if_pos m).symm.trans z
      exact .inl ⟨m, (Option.some.inj y).symm⟩
    · have y := (if_neg m).symm.trans z
      cases y
  | none =>
    refine go (fun b => if b ∈ cs.map (·.2) then some (.tbl #[]) else if b = a then some (.frz { cls := .type "list", data := .seq vs.toArray } (.lst (ns.map V.int))) else none) (fun b u z => ?_) (fun b m => if_pos m) (.inl (.inr ⟨{ cls := .type "list", data := .seq vs.toArray }, (if_neg aT).trans (if_pos rfl)⟩))
    by_cases m : b ∈ cs.map (·.2)
    · have y := (if_pos m).symm.trans z
      exact .inl ⟨m, (Option.some.inj y).symm⟩
    · have y := (if_neg m).symm.trans z
      by_cases n : b = a
      · subst n
        have y2 := (if_pos rfl).symm.trans y
        exact .inr ⟨rfl, (Option.some.inj y2).symm, hk⟩
      · have y2 := (if_neg n).symm.trans y
        cases y2
end Ca
set_option Elab.async false
set_option linter.all false
set_option maxRecDepth 100000
set_option maxHeartbeats 0
namespace Ca
open PySem PySem.Spec PyProof.Rows L2
/-! ### classes of errors, by names -/
def memE (x : Str) (q : Str) (st : Stmt) : He.DefD := ⟨(x, some "__init__"), "__init__", q, defArgs st, defBody st, defScope st, [], []⟩
abbrev exA (K : PySem.W.Frag) (x : Str) : Addr := He.ga K x
abbrev exI (K : PySem.W.Frag) (x : Str) : Addr := He.ma K (He.ga K x) "__init__"
def exFB (K : PySem.W.Frag) (x : Str) : Bool := isF (PySem.W.findIn K (.ref (exA K x)) "__getattribute__") (some (some (.builtin "BaseException.__getattribute__"))) && (isF (PySem.W.findIn K (.ref (exA K x)) "__getattr__") (some none) &&
  (decide (PySem.W.subIn K (.ref (exA K x)) (.type "BaseException") = some true) && (PySem.W.hasDictIn K (exA K x) && (isF (PySem.W.findIn K (.ref (exA K x)) "__class__") (some (some (.builtin "object.__class__"))) &&
  (isF (PySem.W.specialIn K (.builtin "object.__class__") "__get__") (some (some (.builtin "getset_descriptor.__get__"))) && (decide (PySem.W.takesIn K (.builtin "object.__class__") = some true) && (decide (PySem.W.mroIn K (exA K x) (.type "object") = some true) &&
  (PySem.W.keepIn K (.ref (exA K x)) && decide (PySem.W.typeIn K (.ref (exA K x)) = some (.type "type"))))))))))
def errB (K : PySem.W.Frag) (x f : Str) : Bool := exFB K x && (PySem.W.excInitIn K (exA K x) veT "ValueError.__new__" && (isF (PySem.W.findIn K (.ref (exA K x)) "__init__") (some (some (.ref (exI K x)))) && (decide (PySem.W.typeIn K (.ref (exI K x)) = some (.type "function")) &&
  (isF (PySem.W.findIn K (.ref (exA K x)) "__setattr__") (some (some (.builtin "object.__setattr__"))) && (PySem.W.excOver K (exA K x) veT && (decide (PySem.W.takerIn K (exA K x) f = some none) && isF (PySem.W.findIn K (.ref (exA K x)) f) (some none)))))))
theorem err_ok {K : PySem.W.Frag} {x f : Str} (h : errB K x f = true) : ErrC K (exA K x) (exI K x) veT "ValueError.__new__" f := by
  obtain ⟨h1, h⟩ := an h
  obtain ⟨b1, h⟩ := an h
  obtain ⟨b2, h⟩ := an h
  obtain ⟨b3, h⟩ := an h
  obtain ⟨b4, h⟩ := an h
  obtain ⟨b5, h⟩ := an h
  obtain ⟨b6, b7⟩ := an h
  obtain ⟨a1, h⟩ := an h1
  obtain ⟨a2, h⟩ := an h
  obtain ⟨a3, h⟩ := an h
  obtain ⟨a4, h⟩ := an h
  obtain ⟨a5, h⟩ := an h
  obtain ⟨a6, h⟩ := an h
  obtain ⟨a7, h⟩ := an h
  obtain ⟨a8, h⟩ := an h
  obtain ⟨a9, a10⟩ := an h
  exact ⟨⟨b1, a9, isF_ok b2, of_decide_eq_true b3⟩, ⟨isF_ok b4, b5, of_decide_eq_true b6, a4⟩, of_decide_eq_true a3, of_decide_eq_true a10, ⟨isF_ok a1, isF_ok a2, of_decide_eq_true a3, a4, isF_ok a5, isF_ok a6, of_decide_eq_true a7, of_decide_eq_true a8⟩, ⟨isF_ok a1, isF_ok a2, of_decide_eq_true a3, a4⟩, isF_ok b7⟩
/-! ### which is a kind of which -/
def kkB (K : PySem.W.Frag) (x y : Str) (b : Bool) : Bool := decide (PySem.W.kitOne K (.ref (exA K x)) (.ref (exA K y)) = some b)
def ktB (K : PySem.W.Frag) (x : Str) (y : String) (b : Bool) : Bool := decide (PySem.W.kitOne K (.ref (exA K x)) (.type y) = some b)
def slB (K : PySem.W.Frag) (x : Str) : Bool := kkB K x "BadValue" true && (kkB K x "BadName" false && (kkB K x "NoAnswer" false && (ktB K x "ValueError" true && (ktB K x "LookupError" false && ktB K x "ArithmeticError" false))))
def anyB (K : PySem.W.Frag) (x : Str) : Bool := decide (PySem.W.exmAny K (.ref (exA K x)) [.ref (exA K "BadValue"), .ref (exA K "BadName"), .ref (exA K "NoAnswer")] = some true)
/-! ### how values reach an error's __init__ -/
theorem ini_binds {K : PySem.W.Frag} {f qn : Str} {p1 p2 : Pos} {body : List Stmt} {fa : Addr} {fd : FuncData} (hf : f = "given" ∨ f = "index") (F : FunD K "__init__" qn (iA f p1 p2) body (iS f) [] [] fa fd) : Binds K fd ["self", f] [] := by
  refine F.bindsN fun _ _ _ _ _ _ us hl => ?_
  match us, hl with
  | [_, _], _ => rcases hf with rfl | rfl <;> rfl
theorem errx_given {P : Program} {w : World} {K : PySem.W.Frag} {mg : Str → Option Value} {base : Heap} {x qn : Str} {p1 p2 q1 q2 q3 q4 : Pos} {fd : FuncData} (b : errB K x "given" = true) (g : mg x = some (.ref (exA K x)))
    (F : FunD K "__init__" qn (iA "given" p1 p2) (iB "given" q1 q2 q3 q4) (iS "given") [] [] (exI K x) fd) : ErrX P w K mg base (exA K x) (exI K x) fd "given" x :=
  ⟨err_ok b, ok_given PySem.F.store_ValueError F, ini_binds (.inl rfl) F, g⟩
theorem errx_index {P : Program} {w : World} {K : PySem.W.Frag} {mg : Str → Option Value} {base : Heap} {x qn : Str} {p1 p2 q1 q2 q3 q4 : Pos} {fd : FuncData} (b : errB K x "index" = true) (g : mg x = some (.ref (exA K x)))
    (F : FunD K "__init__" qn (iA "index" p1 p2) (iB "index" q1 q2 q3 q4) (iS "index") [] [] (exI K x) fd) : ErrX P w K mg base (exA K x) (exI K x) fd "index" x :=
  ⟨err_ok b, ok_index PySem.F.store_ValueError F, ini_binds (.inr rfl) F, g⟩
/-! ### the dict of modules -/
def smB (K : PySem.W.Frag) : Bool := match K.lookup sysModules with
  | some ⟨_, _, .dict _ _, _⟩ => true
  | _ => false
theorem sm_ok {K : PySem.W.Frag} (h : smB K = true) : SysM K := by
  unfold smB at h
  cases e : K.lookup sysModules with
  | none => rw [e] at h; cases h
  | some o =>
    obtain ⟨oc, od, dt, osl⟩ := o
    rw [e] at h
    cases dt with
    | dict es n => exact ⟨_, es, n, e, rfl⟩
    | _ => cases h
/-! ### tables of code objects, empty and left out -/
structure TabsOut (tf : List He.Defn) (h : Heap) (K : PySem.W.Frag) : Prop where
  hd : ∀ p ∈ tf, PySem.W.codeHdIn K (He.cT K p).1 (He.cT K p).2 = true
  out : ∀ p ∈ tf, K.lookup (He.cT K p).2 = none
  empty : ∀ p ∈ tf, h.get? (He.cT K p).2 = some { cls := .none, data := .fields #[] }
theorem tabs_out {tf : List He.Defn} {as : List Addr} {h : Heap} (e : He.tabsB h.get? tf (He.frT h.get? as) = true) : TabsOut tf h (He.frT h.get? as) := by
  have key : ∀ p ∈ tf, PySem.W.codeHdIn (He.frT h.get? as) (He.cT (He.frT h.get? as) p).1 (He.cT (He.frT h.get? as) p).2 = true ∧ ∃ o, h.get? (He.cT (He.frT h.get? as) p).2 = some o ∧ He.emptyTab o = true := fun p hp => by
    obtain ⟨u, v⟩ := He.ba (List.all_eq_true.mp e p hp)
    refine ⟨u, ?_⟩
    split at v
    · rename_i o eo
      exact ⟨o, eo, v⟩
    · cases v
  refine ⟨fun p hp => (key p hp).1, fun p hp => ?_, fun p hp => ?_⟩
  · obtain ⟨_, o, eo, et⟩ := key p hp
    exact He.frT_none eo et
  · obtain ⟨_, o, eo, et⟩ := key p hp
    rw [eo, He.emptyTab_eq et]
end Ca
set_option Elab.async false
set_option linter.all false
set_option maxRecDepth 100000
set_option maxHeartbeats 0
namespace Ca
open PySem PySem.Spec PyProof.Rows L2
/-! ### System.read among what the top leaves -/
def rdA (K : PySem.W.Frag) : Addr := He5.wf K (sysA K) "classmethod" "read"
def sysR (K : PySem.W.Frag) : Bool := He5.wrapB K (sysA K) "classmethod" "classmethod.__get__" "read" && (PySem.W.fnIn K (rdA K) && (PySem.W.readsIn K (sysA K) (.type "type") && (okA K (rdA K) "System.read" && sysB K)))
theorem cread_reads {K : PySem.W.Frag} {C : Addr} (N : PySem.W.readsIn K C (.type "type") = true) : ClX.CRead K C (.type "type") := by
  refine ⟨N, ?_⟩
  have h := N
  unfold PySem.W.readsIn at h
  obtain ⟨h, _⟩ := an h
  obtain ⟨h, _⟩ := an h
  obtain ⟨h, h3⟩ := an h
  obtain ⟨_, h2⟩ := an h
  unfold PySem.W.specialIn
  rw [beq_iff_eq.mp h2, Option.bind_some]
  exact beq_iff_eq.mp h3
end Ca
set_option Elab.async false
set_option linter.all false
set_option maxRecDepth 100000
set_option maxHeartbeats 0
namespace Ca
open PySem PySem.Spec PyProof.Rows L2
def fnsk050 : List He.DefD := [topD "is_integer" sIsInteger,
  topD "is_tuple_of" sIsTupleOf,
  topD "is_name" sIsName,
  topD "is_unknown" sIsUnknown,
  topD "is_stretch" sIsStretch,
  topD "is_row" sIsRow,
  topD "check_unknowns" sCheckUnknowns,
  topD "check_rows" sCheckRows,
  topD "line_of" sLineOf,
  topD "_law_urn" sLawUrn,
  topD "_law_dip" sLawDip,
  topD "_law_from" sLawFrom]
def fnsk051 : List He.DefD := [topD "_law_unlike" sLawUnlike,
  topD "_law_stretch" sLawStretch,
  topD "_law_line" sLawLine,
  topD "_law_case" sLawCase,
  topD "_law_page" sLawPage,
  topD "_law_right" sLawRight,
  topD "law" sLaw,
  topD "integer_in" sIntegerIn,
  topD "row_in" sRowIn,
  topD "_law_is_int" sLawIsInt,
  topD "_law_is_name" sLawIsName,
  topD "_law_is_stretch" sLawIsStretch]
def fnsk052 : List He.DefD := [topD "_law_folk_slip" sLawFolkSlip,
  topD "_law_lines_slip" sLawLinesSlip,
  topD "_law_whole_in" sLawWholeIn,
  topD "_law_system_in" sLawSystemIn,
  topD "_law_caught" sLawCaught,
  topD "_law_slip" sLawSlip,
  topD "_law_bent_words" sLawBentWords,
  topD "_law_bent" sLawBent,
  memD "__init__" "System.__init__" mSystemInit [.adr e0A],
  memD "__len__" "System.__len__" mSystemLen [],
  memD "__bool__" "System.__bool__" mSystemBool [],
  memD "__str__" "System.__str__" mSystemStr []]
def fnsk053 : List He.DefD := [memD "__eq__" "System.__eq__" mSystemEq [],
  memE "InvalidText" "InvalidText.__init__" mInvalidTextInit,
  memE "InvalidUnknowns" "InvalidUnknowns.__init__" mInvalidUnknownsInit,
  memE "InvalidRows" "InvalidRows.__init__" mInvalidRowsInit]
def fnsk05 : List He.DefD := fnsk050 ++ fnsk051 ++ fnsk052 ++ fnsk053
def fask050 : List He.Fa := [.glo "is_integer", .glo "is_tuple_of", .glo "is_name", .glo "is_unknown", .glo "is_stretch", .glo "is_row", .glo "check_unknowns", .glo "check_rows", .glo "line_of", .glo "_law_urn", .glo "_law_dip", .glo "_law_from", .glo "_law_unlike", .glo "_law_stretch", .glo "_law_line", .glo "_law_case"]
def fask051 : List He.Fa := [.glo "_law_page", .glo "_law_right", .glo "law", .glo "integer_in", .glo "row_in", .glo "_law_is_int", .glo "_law_is_name", .glo "_law_is_stretch", .glo "_law_folk_slip", .glo "_law_lines_slip", .glo "_law_whole_in", .glo "_law_system_in", .glo "_law_caught", .glo "_law_slip", .glo "_law_bent_words", .glo "_law_bent"]
def fask052 : List He.Fa := [.glo "System", .glo "BadValue", .glo "BadName", .glo "NoAnswer", .glo "InvalidText", .glo "InvalidUnknowns", .glo "InvalidRows", .int "MOST_UNKNOWNS" 3, .int "MOST_ROWS" 6, .int "MOST_NUMBER" 10000, .int "MOST_CHARACTERS" 8, .str "LETTERS" LET, .str "DIGITS" DIG, .str "BOUND" "bound", .free "isinstance", .free "int"]
def fask053 : List He.Fa := [.free "bool", .free "str", .free "tuple", .free "len", .free "all", .free "enumerate", .free "range", .free "zip", .free "repr", .free "list", .free "max", .free "min", .free "abs", .free "divmod", .free "ValueError", .free "LookupError"]
def fask054 : List He.Fa := [.free "ArithmeticError", .cls "System", .noat "System" "_unknowns", .noat "System" "_rows", .mkr "System", .meth "System" "__len__", .meth "System" "__bool__", .meth "System" "__str__", .meth "System" "__eq__"]
def fask05 : List He.Fa := fask050 ++ fask051 ++ fask052 ++ fask053 ++ fask054
abbrev Alk05 : Type := Bool × He.FnW × He.FnW × He.FnW × He.FnW × He.AlD × Bool
def tfk05 : List He.Defn := [("_law_right", none)]
def exk05 (K : PySem.W.Frag) : Bool := errB K "InvalidText" "given" && (errB K "InvalidUnknowns" "index" && (errB K "InvalidRows" "index" && (slB K "InvalidText" && (anyB K "InvalidText" && (kkB K "InvalidText" "InvalidText" true && (decide (PySem.W.exmAny K (.ref (exA K "InvalidUnknowns")) [.ref (exA K "InvalidUnknowns"), .ref (exA K "InvalidRows")] = some true) && (decide (PySem.W.exmAny K (.ref (exA K "InvalidRows")) [.ref (exA K "InvalidUnknowns"), .ref (exA K "InvalidRows")] = some true))))))))
def obsk05 (g : Addr → Option Obj) : Alk05 := (sysR (He.frT g (He5.asA g 6)) && exk05 (He.frT g (He5.asA g 6)), fnA (He.frT g (He5.asA g 6)) (getA (He.frT g (He5.asA g 6)) "unknowns"), fnA (He.frT g (He5.asA g 6)) (getA (He.frT g (He5.asA g 6)) "rows"), fnA (He.frT g (He5.asA g 6)) (getA (He.frT g (He5.asA g 6)) "names"), fnA (He.frT g (He5.asA g 6)) (rdA (He.frT g (He5.asA g 6))), He.obsD fask05 fnsk05 (He.frT g (He5.asA g 6)), He.tabsB g tfk05 (He.frT g (He5.asA g 6)))
structure Saysk05 (h : Heap) (K : PySem.W.Frag) : Prop where
  b : sysR K = true
  e : exk05 K = true
  u : fnA K (getA K "unknowns") = getV "unknowns" "System.unknowns" mSystemUnknowns
  r : fnA K (getA K "rows") = getV "rows" "System.rows" mSystemRows
  n : fnA K (getA K "names") = getV "names" "System.names" mSystemNames
  c : fnA K (rdA K) = getV "read" "System.read" mSystemRead
  d : He.SaysD fask05 fnsk05 K
  t : TabsOut tfk05 h K
theorem saysk05_of {h : Heap} (e : obsk05 h.get? = (true, getV "unknowns" "System.unknowns" mSystemUnknowns, getV "rows" "System.rows" mSystemRows, getV "names" "System.names" mSystemNames, getV "read" "System.read" mSystemRead, He.valD fnsk05, true)) : Saysk05 h (He.frT h.get? (He5.asA h.get? 6)) := by
  unfold obsk05 at e
  simp only [Prod.mk.injEq] at e
  obtain ⟨e1, e2, e3, e4, ec, e5, e6⟩ := e
  obtain ⟨e1, e0⟩ := an e1
  exact ⟨e1, e0, e2, e3, e4, ec, e5, tabs_out e6⟩
def hkk05 : PySem.W.Hook where
  α := Alk05
  obs s := obsk05 s.heap.get?
  val _ := (true, getV "unknowns" "System.unknowns" mSystemUnknowns, getV "rows" "System.rows" mSystemRows, getV "names" "System.names" mSystemNames, getV "read" "System.read" mSystemRead, He.valD fnsk05, true)
  says _ h := ∃ K : PySem.W.Frag, K.In h ∧ Saysk05 h K
  of _ _ e := ⟨_, He.frT_in, saysk05_of e⟩
  keeps _ _ _ c k := c.elim fun K z => ⟨K, z.1.keeps k, { z.2 with t := ⟨z.2.t.hd, z.2.t.out, fun p hp => k _ _ (z.2.t.empty p hp)⟩ }⟩
def obk05 (s : PySem.W.SharedT) : Alk05 := obsk05 (HandSHeadRun.getT s)
theorem obk05_eq (s : PySem.W.SharedT) : obk05 s = hkk05.obs s.abs := by
  have e : HandSHeadRun.getT s = s.abs.heap.get? := funext (HandSHeadRun.getT_eq s)
  unfold obk05
  rw [e]
  rfl
abbrev rowk05 : PySem.W.OpenRow := PySem.W.OpenLaw.row PySem.Challenge.rw_commonanswer_k05_whole_texts_bent
def namesk050 : List Str := ["_wall", "BadValue", "BadName", "NoAnswer", "InvalidText", "InvalidUnknowns", "InvalidRows", "MOST_UNKNOWNS", "MOST_ROWS", "MOST_NUMBER", "LETTERS", "DIGITS", "MOST_CHARACTERS", "BOUND", "is_integer", "is_tuple_of"]
def namesk051 : List Str := ["is_name", "is_unknown", "is_stretch", "is_row", "check_unknowns", "check_rows", "line_of", "integer_in", "row_in", "System", "_law_urn", "_law_dip", "_law_from", "_law_unlike", "_law_stretch", "_law_line"]
def namesk052 : List Str := ["_law_case", "_law_page", "_law_is_int", "_law_is_name", "_law_is_stretch", "_law_folk_slip", "_law_lines_slip", "_law_whole_in", "_law_system_in", "_law_caught", "_law_slip", "_law_bent_words", "_law_bent", "_law_right"]
def namesk05 : List Str := namesk050 ++ namesk051 ++ namesk052
end Ca
set_option Elab.async false
set_option linter.all false
set_option maxRecDepth 100000
set_option maxHeartbeats 0
namespace Ca
open PySem PySem.Spec PyProof.Rows L2
theorem runk05 (w : World) : HandSHeadRun.RunEq rowk05 (PySem.W.view rowk05.prog [49]) hkk05 obk05 14000 namesk05 w := by
  intro os
  kernel_rfl
end Ca
set_option Elab.async false
set_option linter.all false
set_option maxRecDepth 100000
set_option maxHeartbeats 4000000
namespace Ca
open PySem PySem.Calls PySem.NumText PyProof.Rows PySem.Builtin.Str
/-! ### words for whole numbers -/
theorem isDec_digit {c : Nat} (h : 48 ≤ c ∧ c ≤ 57) : Unicode.isDecimal c = true := by
  have all : ∀ k ∈ List.range 10, Unicode.isDecimal (48 + k) = true := by decide +kernel
  have := all (c - 48) (List.mem_range.mpr (by omega))
  rwa [show 48 + (c - 48) = c by omega] at this
theorem digs (m : Nat) : ∃ cs : List Nat, (intS (m : Int)).cps.toList = cs ∧ AllDigits cs ∧ cs ≠ [] ∧ digitsVal cs = m := by
  refine ⟨_, PySem.W.KIN.signs_num m, fun c hc => ?_, fun e => ?_, PySem.W.KIN.val_back m⟩
  · obtain ⟨ch, h1, rfl⟩ := List.mem_map.mp hc
    exact digit_range (Nat.isDigit_of_mem_toDigits (by decide) (by decide) h1)
  · have := Nat.toDigits_ne_nil (b := 10) (n := m)
    exact this (List.map_eq_nil_iff.mp e)
theorem neg_signs (m : Nat) : (intS (-((m + 1 : Nat) : Int))).cps.toList = 45 :: (intS ((m + 1 : Nat) : Int)).cps.toList := by
  have e : (toString (-((m + 1 : Nat) : Int)) : String) = "-" ++ toString ((m + 1 : Nat) : Int) := rfl
  show (Str.ofString (toString (-((m + 1 : Nat) : Int)))).cps.toList = 45 :: (Str.ofString (toString ((m + 1 : Nat) : Int))).cps.toList
  rw [e, signs_ofString, signs_ofString, String.toList_append, List.map_append]
  rfl
theorem len_num5 {m : Nat} (h : m ≤ 10000) : (intS (m : Int)).length ≤ 5 := by
  have e : (intS (m : Int)).length = (Nat.toDigits 10 m).length := by
    show (intS (m : Int)).cps.toList.length = _
    rw [show (intS (m : Int)).cps.toList = _ from PySem.W.KIN.signs_num m, List.length_map]
  rw [e]
  exact (Nat.length_toDigits_le_iff (by decide) (by decide)).mpr (by omega)
theorem len_small {n : Int} (h : n.natAbs ≤ 10000) : (intS n).length ≤ 6 := by
  rcases Int.lt_or_le n 0 with g | g
  · obtain ⟨m, rfl⟩ : ∃ m : Nat, n = -((m + 1 : Nat) : Int) := ⟨n.natAbs - 1, by omega⟩
    have e : (intS (-((m + 1 : Nat) : Int))).length = (intS ((m + 1 : Nat) : Int)).length + 1 := by
      show (intS (-((m + 1 : Nat) : Int))).cps.toList.length = _
      rw [neg_signs]
      rfl
    rw [e]
    have := len_num5 (m := m + 1) (by omega)
    omega
  · obtain ⟨m, rfl⟩ := Int.eq_ofNat_of_zero_le g
    have := len_num5 (m := m) (by omega)
    omega
theorem dec_of {x : Str} {cs : List Nat} (e : x.cps.toList = cs) (h : AllDigits cs) (hne : cs ≠ []) : Txt.isdecimal x = true := by
  unfold Txt.isdecimal
  rw [Bool.and_eq_true]
  have hl : x.length = cs.length := by rw [← e]; rfl
  refine ⟨decide_eq_true ?_, ?_⟩
  · rw [hl]
    exact List.length_pos_iff.mpr hne
  · rw [← Array.all_toList, e, List.all_eq_true]
    exact fun c hc => isDec_digit (h c hc)
theorem pre_num {x : Str} {c : Nat} {cs : List Nat} (e : x.cps.toList = c :: cs) (h : c ≠ 45) : Txt.removeprefix x "-" = x := by
  have : subAt x "-" 0 = false := by
    unfold subAt
    rw [beq_eq_false_iff_ne]
    intro z
    have z2 := congrArg Array.toList z
    rw [Array.toList_extract, e] at z2
    have : (("-" : Str)).cps.toList = [45] := by decide +kernel
    rw [this] at z2
    have l1 : (("-" : Str)).length = 1 := by decide +kernel
    rw [l1] at z2
    simp [List.extract] at z2
    exact h z2
  unfold Txt.removeprefix
  rw [this]
  rfl
theorem pre_neg {x : Str} {cs : List Nat} (e : x.cps.toList = 45 :: cs) (hne : cs ≠ []) : (Txt.removeprefix x "-").cps.toList = cs := by
  have l1 : (("-" : Str)).length = 1 := by decide +kernel
  have c1 : (("-" : Str)).cps = #[45] := by decide +kernel
  have hl : x.length = cs.length + 1 := by
    have : x.cps.toList.length = x.length := rfl
    rw [← this, e]
    rfl
  have s1 : subAt x "-" 0 = true := by
    unfold subAt
    rw [beq_iff_eq, c1, l1]
    apply Array.toList_inj.mp
    rw [Array.toList_extract, e]
    rfl
  unfold Txt.removeprefix
  rw [s1, l1]
  show (Txt.affix x (some (1, x.length))).cps.toList = cs
  have ne : ((x.length - 1) == x.length) = false := by
    rw [beq_eq_false_iff_ne]
    omega
  show (if x.length - 1 == x.length then x else strSub x 1 x.length).cps.toList = cs
  rw [ne]
  show (x.cps.extract 1 x.length).toList = cs
  rw [Array.toList_extract, e, hl]
  simp [List.extract]
theorem int_reads {n : Int} (h : n.natAbs ≤ 10000) : Txt.isdecimal (Txt.removeprefix (intS n) "-") = true ∧ PySem.intText? (intS n) = some n := by
  have hl := len_small h
  rcases Int.lt_or_le n 0 with g | g
  · obtain ⟨m, rfl⟩ : ∃ m : Nat, n = -((m + 1 : Nat) : Int) := ⟨n.natAbs - 1, by omega⟩
    obtain ⟨cs, e1, e2, e3, e4⟩ := digs (m + 1)
    have e5 := neg_signs m
    rw [e1] at e5
    refine ⟨dec_of (pre_neg e5 e3) e2 e3, ?_⟩
    rw [intText_neg e5 e2 e3 (Nat.le_trans hl (by decide)), e4]
  · obtain ⟨m, rfl⟩ := Int.eq_ofNat_of_zero_le g
    obtain ⟨cs, e1, e2, e3, e4⟩ := digs m
    match cs, e3 with
    | c :: cs, _ =>
      have hc := e2.head
      rw [pre_num e1 (by omega)]
      refine ⟨dec_of e1 e2 (List.cons_ne_nil _ _), ?_⟩
      have := intText_digits (x := intS (m : Int)) (by rw [e1]; exact e2) (by rw [e1]; exact List.cons_ne_nil _ _) (Nat.le_trans hl (by decide))
      rw [this, e1, e4]
end Ca
set_option Elab.async false
set_option linter.all false
set_option maxRecDepth 100000
set_option maxHeartbeats 4000000
namespace Ca
open PySem PySem.Spec PyProof.Rows L2
/-! ### ==, != with [] and (), whatever is held -/
def rNilL (K : PySem.W.Frag) (neg : Bool) : R2 := fun x y H Q => ∃ a b xs, x = .ref a ∧ y = .ref b ∧ SqL K H a xs ∧ SqL K H b [] ∧ Q (.bl (if neg then !decide (xs = []) else decide (xs = []))) H
def rNilT (K : PySem.W.Frag) (neg : Bool) : R2 := fun x y H Q => ∃ a b xs, x = .ref a ∧ y = .ref b ∧ SqT K H a xs ∧ SqT K H b [] ∧ Q (.bl (if neg then !decide (xs = []) else decide (xs = []))) H
section
variable {X : Cx}
theorem vals_nil {us : List Value} (r : Vals [] us) : us = [] := by
  cases r
  rfl
theorem op_eqNilL (hu : X.A.units < cLine) : OpR X (compareOp .Eq) (rNilL X.K false) := by
  intro pins s σ H x y v u Q I rx ry h
  obtain ⟨a, b, xs, rfl, rfl, h1, h2, q⟩ := h
  cases rx
  cases ry
  obtain ⟨its, r, ⟨o, n, g1, g2, _, g3⟩, _⟩ := I.list h1
  obtain ⟨jts, r', ⟨o', n', k1, k2, _, k3⟩, _⟩ := I.list h2
  obtain rfl := vals_nil r'
  have ha : s.heap.IsList a its.toArray := ⟨o, g1, g2, n, g3⟩
  have hb : s.heap.IsList b ([] : List Value).toArray := ⟨o', k1, k2, n', k3⟩
  have l := r.length
  by_cases e : xs = []
  · subst e
    obtain rfl := vals_nil r
    exact SeqAt.RcAt.lists (A := X.A) (e := fun _ => true) ha hb rfl hu (fun j z _ => absurd z (Nat.not_lt_zero j)) X.prog X.w _ _ ⟨.bl _, H, I, rfl, q⟩
  · rw [decide_eq_false e] at q
    refine SeqAt.RcAt.lists_lengths (A := X.A) ha hb (bne_iff_ne.mpr fun z => e (List.eq_nil_of_length_eq_zero ?_)) hu X.prog X.w _ _ ⟨.bl _, H, I, rfl, q⟩
    rw [l]
    exact z
theorem op_neNilL (hu : X.A.units < cLine) : OpR X (compareOp .NotEq) (rNilL X.K true) := by
  intro pins s σ H x y v u Q I rx ry h
  obtain ⟨a, b, xs, rfl, rfl, h1, h2, q⟩ := h
  cases rx
  cases ry
  obtain ⟨its, r, ⟨o, n, g1, g2, _, g3⟩, _⟩ := I.list h1
  obtain ⟨jts, r', ⟨o', n', k1, k2, _, k3⟩, _⟩ := I.list h2
  obtain rfl := vals_nil r'
  have ha : s.heap.IsList a its.toArray := ⟨o, g1, g2, n, g3⟩
  have hb : s.heap.IsList b ([] : List Value).toArray := ⟨o', k1, k2, n', k3⟩
  have l := r.length
  by_cases e : xs = []
  · subst e
    obtain rfl := vals_nil r
    exact SeqAt.RcNeAt.lists (A := X.A) (e := fun _ => true) ha hb rfl hu (fun j z _ => absurd z (Nat.not_lt_zero j)) X.prog X.w _ _ ⟨.bl _, H, I, rfl, q⟩
  · rw [decide_eq_false e] at q
    refine SeqAt.RcNeAt.lists_lengths (A := X.A) ha hb (bne_iff_ne.mpr fun z => e (List.eq_nil_of_length_eq_zero ?_)) hu X.prog X.w _ _ ⟨.bl _, H, I, rfl, q⟩
    rw [l]
    exact z
theorem op_eqNilT (hu : X.A.units < cLine) : OpR X (compareOp .Eq) (rNilT X.K false) := by
  intro pins s σ H x y v u Q I rx ry h
  obtain ⟨a, b, xs, rfl, rfl, h1, h2, q⟩ := h
  cases rx
  cases ry
  obtain ⟨its, r, ⟨o, g1, g2, n, g3⟩, _⟩ := I.tuple h1
  obtain ⟨jts, r', ⟨o', k1, k2, n', k3⟩, _⟩ := I.tuple h2
  obtain rfl := vals_nil r'
  have ha : s.heap.IsTuple a its.toArray := ⟨o, g1, g2, n, g3⟩
  have hb : s.heap.IsTuple b ([] : List Value).toArray := ⟨o', k1, k2, n', k3⟩
  have l := r.length
  have go := SeqAt.RcAt.tuples (A := X.A) (e := fun _ => true) ha hb hu (fun j _ z => absurd z (Nat.not_lt_zero j)) X.prog X.w X.xe (EP X pins σ Q)
  cases xs with
  | nil =>
    obtain rfl := vals_nil r
    exact go ⟨.bl _, H, I, rfl, q⟩
  | cons z zs =>
    cases its with
    | nil => cases r
    | cons w ws =>
      rw [decide_eq_false (List.cons_ne_nil z zs)] at q
      have e0 : ((w :: ws).toArray.size == ([] : List Value).toArray.size) = false := rfl
      rw [e0, Bool.and_false] at go
      exact go ⟨.bl _, H, I, rfl, q⟩
theorem op_neNilT (hu : X.A.units < cLine) : OpR X (compareOp .NotEq) (rNilT X.K true) := by
  intro pins s σ H x y v u Q I rx ry h
  obtain ⟨a, b, xs, rfl, rfl, h1, h2, q⟩ := h
  cases rx
  cases ry
  obtain ⟨its, r, ⟨o, g1, g2, n, g3⟩, _⟩ := I.tuple h1
  obtain ⟨jts, r', ⟨o', k1, k2, n', k3⟩, _⟩ := I.tuple h2
  obtain rfl := vals_nil r'
  have ha : s.heap.IsTuple a its.toArray := ⟨o, g1, g2, n, g3⟩
  have hb : s.heap.IsTuple b ([] : List Value).toArray := ⟨o', k1, k2, n', k3⟩
  have l := r.length
  have go := SeqAt.RcNeAt.tuples (A := X.A) (e := fun _ => true) ha hb hu (fun j _ z => absurd z (Nat.not_lt_zero j)) X.prog X.w X.xe (EP X pins σ Q)
  cases xs with
  | nil =>
    obtain rfl := vals_nil r
    exact go ⟨.bl _, H, I, rfl, q⟩
  | cons z zs =>
    cases its with
    | nil => cases r
    | cons w ws =>
      rw [decide_eq_false (List.cons_ne_nil z zs)] at q
      have e0 : ((w :: ws).toArray.size == ([] : List Value).toArray.size) = false := rfl
      rw [e0, Bool.and_false] at go
      exact go ⟨.bl _, H, I, rfl, q⟩
end
end Ca
set_option Elab.async false
set_option linter.all false
set_option maxRecDepth 100000
set_option maxHeartbeats 8000000
namespace Ca
open PySem PySem.Calls PySem.NumText PyProof.Rows PySem.Builtin.Str L2
/-! ### words for whole numbers, any words -/
def plnS (x : Str) : Prop := ∀ c ∈ x.cps.toList, c < 128
theorem dec_asc {c : Nat} (h : c < 128) (d : Unicode.isDecimal c = true) : 48 ≤ c ∧ c ≤ 57 := by
  have all : ∀ k ∈ List.range 128, Unicode.isDecimal k = true → 48 ≤ k ∧ k ≤ 57 := by decide +kernel
  exact all c (List.mem_range.mpr h) d
theorem digs_of_dec {x : Str} (a : plnS x) (d : Txt.isdecimal x = true) : AllDigits x.cps.toList ∧ x.cps.toList ≠ [] := by
  unfold Txt.isdecimal at d
  obtain ⟨h1, h2⟩ := Bool.and_eq_true_iff.mp d
  rw [← Array.all_toList, List.all_eq_true] at h2
  refine ⟨fun c hc => dec_asc (a c hc) (h2 c hc), fun e => ?_⟩
  have h1 := of_decide_eq_true h1
  have : x.cps.toList.length = x.length := rfl
  rw [e] at this
  rw [← this] at h1
  cases h1
theorem str_of {x : Str} {cs : List Nat} (e : x.cps.toList = cs) : x = ⟨cs.toArray⟩ := by
  apply Str.ext'
  apply Array.toList_inj.mp
  rw [e]
theorem str_eq {x y : Str} (e : x.cps.toList = y.cps.toList) : x = y := Str.ext' (Array.toList_inj.mp e)
/-- int() of what `integer_in` lets through -/
theorem int_some {x : Str} (a : plnS x) (hl : x.length ≤ 640) (d : Txt.isdecimal (Txt.removeprefix x "-") = true) : ∃ n, PySem.intText? x = some n := by
  cases e : x.cps.toList with
  | nil =>
    have := str_of e
    subst this
    exact absurd d (by decide +kernel)
  | cons c cs =>
    by_cases h : c = 45
    · subst h
      by_cases hne : cs = []
      · subst hne
        have := str_of e
        subst this
        exact absurd d (by decide +kernel)
      · have ep := pre_neg e hne
        have a2 : plnS (Txt.removeprefix x "-") := fun z hz => by
          rw [ep] at hz
          exact a z (by rw [e]; exact List.mem_cons_of_mem _ hz)
        obtain ⟨h1, h2⟩ := digs_of_dec a2 d
        rw [ep] at h1 h2
        exact ⟨_, intText_neg e h1 h2 (Nat.le_trans hl (by decide))⟩
    · rw [pre_num e h] at d
      obtain ⟨h1, h2⟩ := digs_of_dec a d
      exact ⟨_, intText_digits h1 h2 (Nat.le_trans hl (by decide))⟩
theorem chars_back : ∀ cs : List Nat, AllDigits cs → (cs.map Char.ofNat).map Char.toNat = cs
  | [], _ => rfl
  | c :: cs, h => by
    rw [List.map_cons, List.map_cons, chars_back cs h.tail]
    have hc := h.head
    have all : ∀ k ∈ List.range 58, 48 ≤ k → (Char.ofNat k).toNat = k := by decide +kernel
    rw [all c (List.mem_range.mpr (by omega)) hc.1]
/-- digits without needless zeros are those that str tells -/
theorem canon {cs : List Nat} (h : AllDigits cs) (hne : cs ≠ []) (hz : cs = [48] ∨ ∃ c r, cs = c :: r ∧ c ≠ 48) : (intS ((digitsVal cs : Nat) : Int)).cps.toList = cs := by
  have e : (intS ((digitsVal cs : Nat) : Int)).cps.toList = (Nat.toDigits 10 (digitsVal cs)).map Char.toNat := PySem.W.KIN.signs_num _
  have hl : cs.length = (cs.length - 1) + 1 := by
    have := List.length_pos_iff.mpr hne
    omega
  rw [e, toDigits_digitsVal (cs.length - 1) cs hl h ?_, chars_back cs h]
  rcases hz with rfl | ⟨c, r, rfl, hc⟩
  · exact .inl rfl
  · have := h.head
    exact .inr ⟨c, r, rfl, by omega⟩
def numV : PyData → V
  | .int n => .int n
  | _ => .non
theorem num_dq {K : PySem.W.Frag} {H : Hp} {d : PyData} (h : d = .none ∨ ∃ n, d = .int n) : Dq K H (numV d) d := by
  rcases h with rfl | ⟨n, rfl⟩
  · exact .non
  · exact .int n
def spIntAny : Sp := fun vs H Q _ => ∃ x : Str, vs = [.str x] ∧ plnS x ∧ x.length ≤ 5000 ∧ ∀ d, (d = .none ∨ ∃ n, d = .int n) → (∀ n : Int, n.natAbs ≤ 10000 → x = intS n → d = .int n) → Q (numV d) H
section
variable {P : Program} {w : World} {K : PySem.W.Frag} {mg : Str → Option Value} {base : Heap}
theorem scIntIn5 : FnScope ["word"] ["word"] (defScope sIntegerIn) := ⟨rfl, rfl, rfl, by decide +kernel, rfl, by decide +kernel, by decide +kernel⟩
theorem ok_intAny {f : Addr} {fd : FuncData} (F : FnT K "integer_in" sIntegerIn f fd) (B : Bn mg) (C : Cn mg) : FnOk P w K mg base CX0 1 f fd ["word"] spIntAny := by
  obtain ⟨t1, c1⟩ := C.number
  refine F.ok scIntIn5 (fun vs H Q E h => ?_) (fun cdv A outer s H vs Q E hr h => ?_)
  · obtain ⟨x, rfl, _⟩ := h
    rfl
  · obtain ⟨x, rfl, ax, hx, q⟩ := h
    refine ⟨_, PSs.nox (pss_cons (ps_if (PW.pt (pw_or (pt_cmpR op_gt (pe_callB call_len (by rfl) B.len boot_len (pa_cons (pv 0) pa_nil)) (pe_callB call_len (by rfl) B.len boot_len (pa_cons (pe_callTy call_str_int (by rfl) B.str (by decide +kernel) (pa_cons (pe_un un_neg (pe_glob (v := .int 10000) rfl c1 ⟨_, rfl⟩)) pa_nil)) pa_nil)) (nomark _))
        (pw_or1 (pt_not (pt_val (pe_m0 PySem.F.slot_str_isdecimal PySem.F.type_str_isdecimal mt_isdecimal (pe_m1 PySem.F.slot_str_removeprefix PySem.F.type_str_removeprefix mt_removeprefix (pv 0) pe_str))))))) (pss_one (ps_ret pe_non)) pss_nil)
      (pss_one (ps_ret (pe_callTy call_int_str (by rfl) B.int (by decide +kernel) (pa_cons (pv 0) pa_nil))))), ?_⟩
    have e6 : ((toString (-10000 : Int) : Str)).length = 6 := by decide +kernel
    refine ⟨_, rfl, _, x.length, rfl, ⟨Nat.le_trans hx (by decide), rfl⟩, _, rfl, _, rfl, by decide +kernel, _, 6, rfl, ⟨by rw [e6]; decide, e6.symm⟩, _, _, rfl, rfl, _, rfl, ?_⟩
    by_cases h6 : (x.length : Int) > ((6 : Nat) : Int)
    · rw [decide_eq_true h6]
      refine iteT (q .none (.inl rfl) fun n hn e => ?_)
      have := len_small hn
      rw [← e] at this
      omega
    · rw [decide_eq_false h6]
      have l6 : x.length ≤ 6 := by omega
      refine iteF ⟨_, rfl, ⟨_, rfl⟩, _, _, rfl, rfl, Nat.le_trans l6 (by decide), ⟨_, rfl⟩, _, rfl, rfl, trivial, _, rfl, ?_⟩
      cases g : Txt.isdecimal (Txt.removeprefix x "-") with
      | false =>
        refine iteT (q .none (.inl rfl) fun n hn e => ?_)
        have := (int_reads hn).1
        rw [← e, g] at this
        cases this
      | true =>
        obtain ⟨n, hn⟩ := int_some ax (Nat.le_trans l6 (by decide)) g
        refine iteF ⟨_, rfl, _, n, rfl, hn, Nat.le_trans l6 (by decide), q (.int n) (.inr ⟨n, rfl⟩) fun m hm e => ?_⟩
        have := (int_reads hm).2
        rw [← e, hn] at this
        cases this
        rfl
/-! ### `_law_whole_in` -/
/-- what the law's own reading of a word tells -/
def Whole (x : Str) (d : PyData) : Prop := (d = .none ∧ ∀ n : Int, n.natAbs ≤ 10000 → x ≠ intS n) ∨ ∃ n : Int, d = .int n ∧ x = intS n ∧ PySem.intText? x = some n
theorem Whole.num {x : Str} {d : PyData} (h : Whole x d) : d = .none ∨ ∃ n, d = .int n := by
  rcases h with ⟨h, _⟩ | ⟨n, h, _⟩
  · exact .inl h
  · exact .inr ⟨n, h⟩
def spWhole : Sp := fun vs H Q _ => ∃ x : Str, vs = [.str x] ∧ x.length ≤ 5000 ∧ ∀ H' d, Same H H' → Whole x d → Q (numV d) H'
abbrev NWh : List Str := ["_law_word", "_law_digits", "_law_sign"]
theorem scWh : FnScope NWh ["_law_word"] (defScope sLawWholeIn) := ⟨rfl, rfl, rfl, by decide +kernel, rfl, by decide +kernel, by decide +kernel⟩
theorem cutS_head (x : Str) : (L2.cutS x none (some ((1 : Nat) : Int))).cps.toList = x.cps.toList.take 1 := by
  unfold L2.cutS
  have h1 : HT.sIx x.length 0 none = 0 := rfl
  rw [h1, List.drop_zero, Nat.sub_zero, HT.sIx_nat]
  show List.take (min 1 x.length) x.cps.toList = _
  have : x.cps.toList.length = x.length := rfl
  by_cases h : 1 ≤ x.length
  · rw [Nat.min_eq_left h]
  · rw [Nat.min_eq_right (by omega), ← this, List.take_length, List.take_of_length_le (by omega)]
theorem cutS_tail (x : Str) : (L2.cutS x (some ((1 : Nat) : Int)) none).cps.toList = x.cps.toList.drop 1 := by
  unfold L2.cutS
  have h1 : HT.sIx x.length x.length none = x.length := rfl
  rw [h1, HT.sIx_nat]
  show List.take (x.length - min 1 x.length) (x.cps.toList.drop (min 1 x.length)) = _
  have : x.cps.toList.length = x.length := rfl
  by_cases h : 1 ≤ x.length
  · rw [Nat.min_eq_left h]
    exact List.take_of_length_le (by rw [List.length_drop]; omega)
  · have e : x.cps.toList = [] := List.eq_nil_of_length_eq_zero (by omega)
    rw [e]
    simp
/-- the digits of a word -/
def digW (x : Str) : Str := if L2.cutS x none (some 1) = "-" then L2.cutS x (some 1) none else x
theorem digW_neg {x : Str} {cs : List Nat} (e : x.cps.toList = 45 :: cs) : (digW x).cps.toList = cs := by
  unfold digW
  rw [if_pos]
  · exact (cutS_tail x).trans (by rw [e]; rfl)
  · apply str_eq
    rw [show L2.cutS x none (some 1) = L2.cutS x none (some ((1 : Nat) : Int)) from rfl, cutS_head, e]
    show [45] = _
    decide +kernel
theorem digW_num {x : Str} (h : ∀ cs, x.cps.toList ≠ 45 :: cs) : digW x = x := by
  unfold digW
  rw [if_neg]
  intro z
  have z2 : (L2.cutS x none (some 1)).cps.toList = ("-" : Str).cps.toList := by rw [z]
  rw [show L2.cutS x none (some 1) = L2.cutS x none (some ((1 : Nat) : Int)) from rfl, cutS_head] at z2
  have e45 : ("-" : Str).cps.toList = [45] := by decide +kernel
  rw [e45] at z2
  cases e : x.cps.toList with
  | nil => rw [e] at z2; cases z2
  | cons c cs =>
    rw [e] at z2
    have : c = 45 := by simpa using z2
    exact h cs (by rw [e, this])
theorem digW_len (x : Str) : (digW x).length ≤ x.length := by
  unfold digW
  split
  · exact cutS_length ..
  · exact Nat.le_refl _
/-- a word that comes through is one that str tells -/
theorem whole_yes {x : Str} (hl : x.length ≤ 640) (hd : AllDigits (digW x).cps.toList) (hne : (digW x).cps.toList ≠ []) (hz : (∃ c r, (digW x).cps.toList = c :: r ∧ c ≠ 48) ∨ x = "0") : ∃ n : Int, x = intS n ∧ PySem.intText? x = some n := by
  rcases hz with hz | rfl
  · by_cases h : ∃ cs, x.cps.toList = 45 :: cs
    · obtain ⟨cs, e⟩ := h
      have ed := digW_neg e
      rw [ed] at hd hne hz
      refine ⟨_, ?_, intText_neg e hd hne (Nat.le_trans hl (by decide))⟩
      obtain ⟨c, r, ec, hc⟩ := hz
      have pos : 0 < digitsVal cs := by
        have hh : 48 ≤ c ∧ c ≤ 57 := hd c (by rw [ec]; exact List.mem_cons_self ..)
        rw [ec]
        exact digitsVal_pos (by omega)
      obtain ⟨m, em⟩ : ∃ m, digitsVal cs = m + 1 := ⟨digitsVal cs - 1, by omega⟩
      apply str_eq
      rw [e, em, neg_signs, ← em, canon hd hne (.inr ⟨c, r, ec, hc⟩)]
    · have ed := digW_num (x := x) fun cs e => h ⟨cs, e⟩
      rw [ed] at hd hne hz
      refine ⟨_, ?_, intText_digits hd hne (Nat.le_trans hl (by decide))⟩
      apply str_eq
      rw [canon hd hne (.inr hz)]
  · exact ⟨0, by decide +kernel, by decide +kernel⟩
/-- what str tells comes through -/
theorem whole_no {n : Int} (hn : n.natAbs ≤ 10000) : AllDigits (digW (intS n)).cps.toList ∧ (digW (intS n)).cps.toList ≠ [] ∧ ((∃ c r, (digW (intS n)).cps.toList = c :: r ∧ c ≠ 48) ∨ intS n = "0") ∧ (digW (intS n)).length ≤ 30 := by
  have l30 : (digW (intS n)).length ≤ 30 := Nat.le_trans (digW_len _) (Nat.le_trans (len_small hn) (by decide))
  rcases Int.lt_or_le n 0 with g | g
  · obtain ⟨m, rfl⟩ : ∃ m : Nat, n = -((m + 1 : Nat) : Int) := ⟨n.natAbs - 1, by omega⟩
    obtain ⟨cs, e1, e2, e3, e4⟩ := digs (m + 1)
    have e5 := neg_signs m
    rw [e1] at e5
    have ed := digW_neg e5
    refine ⟨by rw [ed]; exact e2, by rw [ed]; exact e3, .inl ?_, l30⟩
    rw [ed]
    have ec : cs = (Nat.toDigits 10 (m + 1)).map Char.toNat := by rw [← e1]; exact PySem.W.KIN.signs_num (m + 1)
    match cs, e3 with
    | c :: r, _ =>
      refine ⟨c, r, rfl, fun h0 => ?_⟩
      subst h0
      -- a leading zero: the value would have fewer digits
      have t := toDigits_all (48 :: r) e2
      rw [e4] at t
      have t2 := congrArg (List.map Char.toNat) t
      rw [← ec] at t2
      rw [List.dropWhile_cons] at t2
      simp only [beq_self_eq_true, if_true] at t2
      cases hr : r.dropWhile (· == 48) with
      | nil =>
        rw [hr] at t2
        have : r = [] := by
          have := congrArg List.length t2
          simpa using this
        subst this
        have : digitsVal [48] = 0 := rfl
        omega
      | cons a b =>
        rw [hr] at t2
        have l1 := congrArg List.length t2
        have l2 := (List.dropWhile_sublist (fun z => z == 48) (l := r)).length_le
        rw [hr] at l2
        simp at l1 l2
        omega
  · obtain ⟨m, rfl⟩ := Int.eq_ofNat_of_zero_le g
    obtain ⟨cs, e1, e2, e3, e4⟩ := digs m
    have nd : ∀ r, (intS (m : Int)).cps.toList ≠ 45 :: r := fun r z => by
      rw [e1] at z
      subst z
      have := e2.head
      omega
    have ed := digW_num nd
    refine ⟨by rw [ed, e1]; exact e2, by rw [ed, e1]; exact e3, ?_, l30⟩
    rw [ed, e1]
    have ec : cs = (Nat.toDigits 10 m).map Char.toNat := by rw [← e1]; exact PySem.W.KIN.signs_num m
    match cs, e3 with
    | c :: r, _ =>
      by_cases h0 : c = 48
      · subst h0
        right
        have t := toDigits_all (48 :: r) e2
        rw [e4] at t
        have t2 := congrArg (List.map Char.toNat) t
        rw [← ec] at t2
        rw [List.dropWhile_cons] at t2
        simp only [beq_self_eq_true, if_true] at t2
        cases hr : r.dropWhile (· == 48) with
        | nil =>
          rw [hr] at t2
          have : r = [] := by
            have := congrArg List.length t2
            simpa using this
          subst this
          apply str_eq
          rw [e1]
          decide +kernel
        | cons a b =>
          rw [hr] at t2
          have l1 := congrArg List.length t2
          have l2 := (List.dropWhile_sublist (fun z => z == 48) (l := r)).length_le
          rw [hr] at l2
          simp at l1 l2
          omega
      · exact .inl ⟨c, r, rfl, h0⟩
theorem dig_in {c : Nat} : c ∈ ("0123456789" : Str).cps.toList ↔ 48 ≤ c ∧ c ≤ 57 := by
  have e : ("0123456789" : Str).cps.toList = [48, 49, 50, 51, 52, 53, 54, 55, 56, 57] := by decide +kernel
  rw [e]
  simp only [List.mem_cons, List.not_mem_nil, or_false]
  omega
theorem ok_whole {f : Addr} {fd : FuncData} (F : FnT K "_law_whole_in" sLawWholeIn f fd) (B : Bn mg) : FnOk P w K mg base CX0 1 f fd ["_law_word"] spWhole := by
  refine F.ok scWh (fun vs H Q E h => ?_) (fun cdv A outer s H vs Q E hr h => ?_)
  · obtain ⟨x, rfl, _⟩ := h
    rfl
  · obtain ⟨x, rfl, hx, q⟩ := h
    have nd := scWh.nd
    have hu : (A.deeper (PyProof.Rows.envOfC "_law_whole_in" (defScope sLawWholeIn) s.heap.objs.size f cdv)).units < cLine := Nat.lt_of_le_of_lt (Nat.le_add_right _ 64) hr.units
    refine ⟨_, PSs.nox (pss_cons (ps_cut (ps_set (i := 1) nd rfl (.inl rfl) (pe_ifExp (pt_cmpR op_eq (pe_slice sl_str (pv 0) po_none (po_some pe_int)) pe_str (nomark _)) (pe_slice sl_str (pv 0) (po_some pe_int) po_none) (pv 0))))
      (pss_cons (ps_cut (ps_if (PW.pt (pw_or (pt_cmpR op_eq (pv 1) pe_str (nomark _)) (pw_or1 (pt_cmpR (op_neNilL hu) (pe_lc (own := [("_law_sign", 2)]) (g := gName 2) rfl nd (pi_str (pv 1))
          (blkOk_by (own := [("_law_sign", 2)]) (N := NWh) (sc := defScope sLawWholeIn) (by decide +kernel)) (fun _ _ _ _ _ => pg_name (i := 2) nd rfl (Or.inl rfl))
          (fun _ _ _ _ _ => pts_one (pt_cmpR op_notIn_sign (pv 2) pe_str (by rfl))) (fun _ _ _ _ _ => pv 2)) (pe_lst pa_nil) (nomark _))))) (pss_one (ps_ret pe_non)) pss_nil))
      (pss_cons (ps_cut (ps_if (PW.pt (pw_or (PW.pt (pw_and (pt_cmpR op_eq (pe_ix ix_str (pv 1) pe_int (fun _ _ => rfl)) pe_str (nomark _)) (pw_and1 (pt_cmpR op_ne (pv 0) pe_str (nomark _))))) (pw_or1 (pt_cmpR op_gt (pe_callB call_len (by rfl) B.len boot_len (pa_cons (pv 1) pa_nil)) pe_int (nomark _))))) (pss_one (ps_ret pe_non)) pss_nil))
      (pss_one (ps_ret (pe_callTy call_int_str (by rfl) B.int (by decide +kernel) (pa_cons (pv 0) pa_nil))))))), ?_⟩
    have hx2 : x.length ≤ sizeLine := Nat.le_trans hx (by decide)
    have hno : ∀ {H'}, Same H H' → (¬ (AllDigits (digW x).cps.toList ∧ (digW x).cps.toList ≠ [] ∧ ((∃ c r, (digW x).cps.toList = c :: r ∧ c ≠ 48) ∨ x = "0") ∧ (digW x).length ≤ 30)) → Q .non H' := fun {H'} s' hn => q H' .none s' (.inl ⟨rfl, fun n hb e => hn (by rw [e]; exact whole_no hb)⟩)
    refine ⟨fun σ' H' => σ' = [some (.str x), some (.str (digW x)), none] ∧ H' = H, ?_, ?_⟩
    · refine ⟨_, rfl, _, rfl, x, rfl, hx2, rfl, _, rfl, ?_⟩
      by_cases c : L2.cutS x none (some 1) = "-"
      · rw [decide_eq_true (show V.str (L2.cutS x none (some 1)) = V.str "-" by rw [c])]
        refine iteT ⟨_, rfl, _, rfl, rd_no ⟨x, rfl, hx2, ?_, rfl⟩⟩
        show [some (V.str x), some (V.str (L2.cutS x (some 1) none)), none] = _
        unfold digW
        rw [if_pos c]
      · rw [decide_eq_false (show ¬ V.str (L2.cutS x none (some 1)) = V.str "-" from fun z => c (V.str.inj z))]
        refine iteF ⟨_, rfl, ?_, rfl⟩
        show [some (V.str x), some (V.str x), none] = _
        unfold digW
        rw [if_neg c]
    rintro _ H0 ⟨rfl, rfl⟩
    have hd2 : (digW x).length ≤ sizeLine := Nat.le_trans (digW_len x) hx2
    have hlen := digW_len x
    have el : (digW x).cps.toList.length = (digW x).length := rfl
    refine ⟨fun σ' H' => σ' = [some (.str x), some (.str (digW x)), none] ∧ Same H0 H' ∧ AllDigits (digW x).cps.toList ∧ (digW x).cps.toList ≠ [], ?_, ?_⟩
    · refine ⟨_, rfl, rfl, _, rfl, ?_⟩
      by_cases c : digW x = ""
      · rw [decide_eq_true (show V.str (digW x) = V.str "" by rw [c])]
        refine iteT (iteT (hno (fun _ _ e => e) fun z => z.2.1 ?_))
        rw [c]
        decide +kernel
      · rw [decide_eq_false (show ¬ V.str (digW x) = V.str "" from fun z => c (V.str.inj z))]
        have hne : (digW x).cps.toList ≠ [] := fun z => c (str_eq (by rw [z]; decide +kernel))
        refine iteF ⟨_, rfl, digW x, rfl, fun D hD => ?_⟩
        refine lc_it walk_str (fun i H' => Same H0 H' ∧ ∃ ws, H' D = some (.lst ws) ∧ ws.length ≤ i ∧ (ws = [] ↔ AllDigits ((digW x).cps.toList.take i))) ⟨Same.new hD, [], upd_same, Nat.le_refl _, ⟨fun _ c hc => (by simp at hc), fun _ => rfl⟩⟩ (fun _ _ _ _ => trivial) ?_ ?_
        · rintro i z _ H5 hi ⟨s5, ws, bD, lw, ew⟩ ⟨rfl, c, hc', rfl⟩
          have hc2 : (digW x).cps.toList[i]? = some c := by rw [Array.getElem?_toList]; exact hc'
          have et : (digW x).cps.toList.take (i + 1) = (digW x).cps.toList.take i ++ [c] := by rw [List.take_succ, hc2]; rfl
          have hi2 : i < (digW x).length := hi
          have all : AllDigits ((digW x).cps.toList.take (i + 1)) ↔ AllDigits ((digW x).cps.toList.take i) ∧ (48 ≤ c ∧ c ≤ 57) := by
            rw [et]
            exact ⟨fun h => ⟨fun y hy => h y (List.mem_append_left _ hy), h c (List.mem_append_right _ (List.mem_singleton.mpr rfl))⟩, fun h y hy => (List.mem_append.mp hy).elim (h.1 y) fun z => by rw [List.mem_singleton.mp z]; exact h.2⟩
          refine ⟨rfl, ⟨_, rfl, c, _, rfl, rfl, _, rfl, ?_⟩⟩
          by_cases hk : c ∈ ("0123456789" : Str).cps.toList
          · rw [decide_eq_true hk]
            exact iteF ⟨s5, ws, bD, by omega, by rw [all]; exact ⟨fun z => ⟨ew.mp z, dig_in.mp hk⟩, fun z => ew.mpr z.1⟩⟩
          · rw [decide_eq_false hk]
            refine iteT ⟨_, rfl, ws, bD, Nat.lt_of_le_of_lt lw (Nat.lt_of_lt_of_le hi2 hd2), fun b o e => ?_, ws ++ [.str ⟨#[c]⟩], upd_same, by rw [List.length_append]; show ws.length + 1 ≤ i + 1; omega, ⟨fun z => by simp at z, fun z => absurd (dig_in.mpr (all.mp z).2) hk⟩⟩
            rw [upd_ne (ne_of_none e hD)]
            exact s5 b o e
        · rintro H5 ⟨s5, ws, bD, lw, ew⟩
          have eq1 : ((digW x).cps.toList.take (digW x).cps.size) = (digW x).cps.toList := List.take_of_length_le (by rw [Array.length_toList]; exact Nat.le_refl _)
          rw [eq1] at ew
          refine ⟨Nat.zero_le _, fun e he => ?_⟩
          have s6 := s5.trans (Same.new (o := .lst []) he)
          refine ⟨D, e, ws, rfl, rfl, SqL.of ((Same.new he) _ _ bD), SqL.of upd_same, _, rfl, ?_⟩
          show if (!decide (ws = [])) = true then _ else _
          by_cases cw : ws = []
          · rw [decide_eq_true cw]
            exact iteF ⟨rfl, s6, ew.mp cw, hne⟩
          · rw [decide_eq_false cw]
            exact iteT (hno s6 fun z => cw (ew.mpr z.1))
    rintro _ H1 ⟨rfl, s1, hD, hne⟩
    obtain ⟨c, r, ec⟩ : ∃ c r, (digW x).cps.toList = c :: r := by
      cases e : (digW x).cps.toList with
      | nil => exact absurd e hne
      | cons c r => exact ⟨c, r, rfl⟩
    have hc0 : (digW x).cps.toList[0]? = some c := by rw [ec]; rfl
    refine ⟨fun σ' H' => σ' = [some (.str x), some (.str (digW x)), none] ∧ H' = H1 ∧ ((∃ c r, (digW x).cps.toList = c :: r ∧ c ≠ 48) ∨ x = "0") ∧ (digW x).length ≤ 30, ?_, ?_⟩
    · have last : ((∃ c r, (digW x).cps.toList = c :: r ∧ c ≠ 48) ∨ x = "0") → ∀ {D : Ends}, (D.rt .non H1) → (∀ σ', σ' = [some (V.str x), some (V.str (digW x)), none] → (digW x).length ≤ 30 → D.nx σ' H1) → True := fun _ {D} _ _ => trivial
      clear last
      have fin : ((∃ c r, (digW x).cps.toList = c :: r ∧ c ≠ 48) ∨ x = "0") → ∀ {R : Prop}, (¬ (digW x).length ≤ 30 → R) → ((digW x).length ≤ 30 → R) → R := fun _ {R} h1 h2 => by
        by_cases h : (digW x).length ≤ 30
        · exact h2 h
        · exact h1 h
      refine ⟨_, rfl, digW x, 0, c, rfl, rfl, hd2, atI_nat (j := 0) hc0, rfl, _, rfl, ?_⟩
      have tail : ((∃ c r, (digW x).cps.toList = c :: r ∧ c ≠ 48) ∨ x = "0") → ((digW x).length ≤ 30 ∨ ¬ (digW x).length ≤ 30) := fun _ => Decidable.em _
      by_cases c48 : c = 48
      · rw [decide_eq_true (show V.str ⟨#[c]⟩ = V.str "0" by rw [c48]; rfl)]
        refine iteT ⟨_, rfl, rfl, _, rfl, ?_⟩
        by_cases x0 : x = "0"
        · rw [decide_eq_true (show V.str x = V.str "0" by rw [x0])]
          refine iteF ⟨_, rfl, _, (digW x).length, rfl, ⟨hd2, rfl⟩, _, _, rfl, rfl, _, rfl, ?_⟩
          by_cases h30 : ((digW x).length : Int) > 30
          · rw [decide_eq_true h30]
            exact iteT (hno s1 fun z => by have := z.2.2.2; omega)
          · rw [decide_eq_false h30]
            exact iteF ⟨rfl, rfl, .inr x0, by omega⟩
        · rw [decide_eq_false (show ¬ V.str x = V.str "0" from fun z => x0 (V.str.inj z))]
          refine iteT (iteT (hno s1 fun z => ?_))
          rcases z.2.2.1 with ⟨c', r', e', n'⟩ | e'
          · rw [ec] at e'
            cases e'
            exact n' c48
          · exact x0 e'
      · rw [decide_eq_false (show ¬ V.str ⟨#[c]⟩ = V.str "0" from fun z => c48 (by
          have z2 : (⟨#[c]⟩ : Str).cps.toList = ("0" : Str).cps.toList := by rw [V.str.inj z]
          have e0 : ("0" : Str).cps.toList = [48] := by decide +kernel
          rw [e0] at z2
          simpa using z2))]
        refine iteF (iteF ⟨_, rfl, _, (digW x).length, rfl, ⟨hd2, rfl⟩, _, _, rfl, rfl, _, rfl, ?_⟩)
        by_cases h30 : ((digW x).length : Int) > 30
        · rw [decide_eq_true h30]
          exact iteT (hno s1 fun z => by have := z.2.2.2; omega)
        · rw [decide_eq_false h30]
          exact iteF ⟨rfl, rfl, .inl ⟨c, r, ec, c48⟩, by omega⟩
    rintro _ _ ⟨rfl, rfl, hz, h30⟩
    have xl : x.length ≤ 640 := by
      by_cases h : ∃ cs, x.cps.toList = 45 :: cs
      · obtain ⟨cs, e⟩ := h
        have ed := digW_neg e
        have : x.cps.toList.length = x.length := rfl
        rw [e] at this
        rw [ed] at el
        simp only [List.length_cons] at this
        omega
      · have ed := digW_num (x := x) fun cs e => h ⟨cs, e⟩
        rw [ed] at h30
        omega
    obtain ⟨n, en, hn⟩ := whole_yes xl hD hne hz
    exact ⟨_, rfl, _, n, rfl, hn, xl, q _ (.int n) s1 (.inr ⟨n, rfl, en, hn⟩)⟩
end
end Ca
set_option Elab.async false
set_option linter.all false
set_option maxRecDepth 100000
set_option maxHeartbeats 4000000
namespace Ca
open PySem L2
/-! ### texts cut at blanks and at ends of rows -/
def clean (x : Str) : Prop := ∀ c ∈ x.cps.toList, c ≠ 32 ∧ c ≠ 10
theorem sign_clean {c : Nat} (h : isSign c = true) : c ≠ 32 ∧ c ≠ 10 := by
  refine ⟨fun e => ?_, fun e => ?_⟩
  · rw [e] at h
    exact absurd h (by decide +kernel)
  · rw [e] at h
    exact absurd h (by decide +kernel)
theorem name_clean {x : Str} (h : nameS x = true) : clean x := by
  unfold nameS at h
  obtain ⟨_, h⟩ := Bool.and_eq_true_iff.mp h
  obtain ⟨_, h⟩ := Bool.and_eq_true_iff.mp h
  obtain ⟨_, h⟩ := Bool.and_eq_true_iff.mp h
  exact fun c hc => sign_clean (List.all_eq_true.mp h c hc)
theorem int_clean (n : Int) : clean (intS n) := by
  rcases Int.lt_or_le n 0 with g | g
  · obtain ⟨m, rfl⟩ : ∃ m : Nat, n = -((m + 1 : Nat) : Int) := ⟨n.natAbs - 1, by omega⟩
    obtain ⟨cs, e1, e2, _, _⟩ := digs (m + 1)
    intro c hc
    rw [neg_signs, e1] at hc
    rcases List.mem_cons.mp hc with z | z
    · omega
    · have := e2 c z
      omega
  · obtain ⟨m, rfl⟩ := Int.eq_ofNat_of_zero_le g
    obtain ⟨cs, e1, e2, _, _⟩ := digs m
    intro c hc
    rw [e1] at hc
    have := e2 c hc
    omega
theorem words_clean : ∀ ps : List (Int × Int), ∀ x ∈ wordsOf ps, clean x
  | [], x, h => nomatch h
  | p :: ps, x, h => by
    have e : wordsOf (p :: ps) = intS p.1 :: intS p.2 :: wordsOf ps := rfl
    rw [e] at h
    rcases List.mem_cons.mp h with rfl | h
    · exact int_clean _
    · rcases List.mem_cons.mp h with rfl | h
      · exact int_clean _
      · exact words_clean ps x h
theorem joinL_mem {S : List Nat} {c : Nat} : ∀ {ps : List (List Nat)}, c ∈ TL.joinL S ps → c ∈ S ∨ ∃ p ∈ ps, c ∈ p
  | [], h => nomatch h
  | [p], h => .inr ⟨p, List.mem_singleton.mpr rfl, h⟩
  | p :: q :: r, h => by
    have e : TL.joinL S (p :: q :: r) = p ++ (S ++ TL.joinL S (q :: r)) := rfl
    rw [e] at h
    rcases List.mem_append.mp h with z | z
    · exact .inr ⟨p, List.mem_cons_self .., z⟩
    · rcases List.mem_append.mp z with z | z
      · exact .inl z
      · rcases joinL_mem z with y | ⟨x, hx, y⟩
        · exact .inl y
        · exact .inr ⟨x, List.mem_cons_of_mem _ hx, y⟩
theorem join_no10 {ps : List Str} (h : ∀ p ∈ ps, clean p) : ∀ c ∈ (Txt.join " " ps).cps.toList, c ≠ 10 := by
  intro c hc
  rw [TL.join_eq] at hc
  have hc2 : c ∈ TL.tl (Str.join " " ps) := hc
  rw [TL.tl_join] at hc2
  rcases joinL_mem hc2 with z | ⟨p, hp, z⟩
  · have e : TL.tl (" " : Str) = [32] := by decide +kernel
    rw [e, List.mem_singleton] at z
    omega
  · obtain ⟨x, hx, rfl⟩ := List.mem_map.mp hp
    exact (h x hx c z).2
theorem split_words {ps : List Str} (hne : ps ≠ []) (h : ∀ p ∈ ps, clean p) : Txt.split (Txt.join " " ps) " " = ps :=
  TL.split_join (s := 32) (S := []) (by decide +kernel) (by decide +kernel) hne fun p hp hc => (h p hp 32 hc).1 rfl
theorem split_lines {ps : List Str} (hne : ps ≠ []) (h : ∀ p ∈ ps, ∀ c ∈ p.cps.toList, c ≠ 10) : Txt.split (Txt.join "\n" ps) "\n" = ps :=
  TL.split_join (s := 10) (S := []) (by decide +kernel) (by decide +kernel) hne fun p hp hc => h p hp 10 hc rfl
theorem row_clean {r : Rw} {m : Nat} (h : isRowD (rowD r) m = true) : ∀ p ∈ [("row" : Str), r.name] ++ wordsOf (r.parts ++ [r.bd]), clean p := by
  intro p hp
  rcases List.mem_append.mp hp with z | z
  · rcases List.mem_cons.mp z with rfl | z
    · exact name_clean (by decide +kernel)
    · rw [List.mem_singleton.mp z]
      exact name_clean (row_name h).1
  · exact words_clean _ p z
theorem line_cut {r : Rw} {m : Nat} (h : isRowD (rowD r) m = true) : Txt.split (lineS r) " " = [("row" : Str), r.name] ++ wordsOf (r.parts ++ [r.bd]) := split_words (List.cons_ne_nil _ _) (row_clean h)
theorem folk_cut {ns : List Str} (h : ∀ x ∈ ns, nameS x = true) : Txt.split (Txt.join " " (("unknowns" : Str) :: ns)) " " = ("unknowns" : Str) :: ns :=
  split_words (List.cons_ne_nil _ _) fun p hp => by
    rcases List.mem_cons.mp hp with rfl | z
    · exact name_clean (by decide +kernel)
    · exact name_clean (h p z)
theorem page_cut {ns : List Str} {rs : List Rw} {m : Nat} (h : ∀ x ∈ ns, nameS x = true) (hr : ∀ r ∈ rs, isRowD (rowD r) m = true) : Txt.split (pageS ns rs) "\n" = Txt.join " " (("unknowns" : Str) :: ns) :: rs.map lineS := by
  refine split_lines (List.cons_ne_nil _ _) fun p hp => ?_
  rcases List.mem_cons.mp hp with rfl | z
  · refine join_no10 fun p hp => ?_
    rcases List.mem_cons.mp hp with rfl | z
    · exact name_clean (by decide +kernel)
    · exact name_clean (h p z)
  · obtain ⟨r, hr', rfl⟩ := List.mem_map.mp z
    exact join_no10 (row_clean (hr r hr'))
end Ca
set_option Elab.async false
set_option linter.all false
set_option maxRecDepth 100000
set_option maxHeartbeats 4000000
namespace Ca
open PySem L2
/-! ### a row, read from its line -/
def intsOf (ps : List (Int × Int)) : List Int := ps.flatMap fun p => [p.1, p.2]
theorem words_ints : ∀ ps : List (Int × Int), wordsOf ps = (intsOf ps).map intS
  | [] => rfl
  | p :: ps => by
    have e : wordsOf (p :: ps) = intS p.1 :: intS p.2 :: wordsOf ps := rfl
    rw [e, words_ints ps]
    rfl
theorem intsOf_len : ∀ ps : List (Int × Int), (intsOf ps).length = 2 * ps.length
  | [] => rfl
  | p :: ps => by
    show (intsOf ps).length + 1 + 1 = 2 * (ps.length + 1)
    rw [intsOf_len ps]
    omega
theorem intsOf_get : ∀ (ps : List (Int × Int)) (i : Nat) (h : i < ps.length), (intsOf ps)[2 * i]? = some ps[i].1 ∧ (intsOf ps)[2 * i + 1]? = some ps[i].2
  | p :: ps, 0, _ => ⟨rfl, rfl⟩
  | p :: ps, i + 1, h => by
    obtain ⟨a, b⟩ := intsOf_get ps i (Nat.lt_of_succ_lt_succ h)
    have e : intsOf (p :: ps) = p.1 :: p.2 :: intsOf ps := rfl
    rw [e, show 2 * (i + 1) = 2 * i + 1 + 1 by omega, show 2 * i + 1 + 1 + 1 = (2 * i + 1) + 1 + 1 by omega]
    simp only [List.getElem?_cons_succ, List.getElem_cons_succ]
    exact ⟨a, b⟩
theorem intsOf_small {r : Rw} {m : Nat} (h : isRowD (rowD r) m = true) : ∀ n ∈ intsOf (r.parts ++ [r.bd]), n.natAbs ≤ 10000 := by
  intro n hn
  obtain ⟨p, hp, z⟩ := List.mem_flatMap.mp hn
  obtain ⟨h1, h2, h3⟩ := row_T h p hp
  rcases List.mem_cons.mp z with rfl | z
  · omega
  · rw [List.mem_singleton.mp z]
    omega
theorem name_small {x : Str} (h : nameS x = true) : x.length ≤ 5000 := by
  have := (name_parts h).2.1
  omega
theorem line_small {r : Rw} {m : Nat} (h : isRowD (rowD r) m = true) (hm : m ≤ 3) : (lineS r).length ≤ 100000 :=
  Nat.le_trans (line_len h hm) (by decide)
theorem cut_init4 (xs : List V) (h : xs ≠ []) : cutV xs none (some (-1)) = xs.dropLast := by
  unfold cutV
  have hl : 0 < xs.length := List.length_pos_iff.mpr h
  have e0 : HT.sIx xs.length 0 none = 0 := rfl
  have e1 : HT.sIx xs.length xs.length (some (-1)) = xs.length - 1 := by
    unfold HT.sIx
    simp
    omega
  rw [e0, e1, List.drop_zero, Nat.sub_zero, List.dropLast_eq_take]
theorem dq_last {K : PySem.W.Frag} {H : Hp} : ∀ {ds : List PyData} {d : PyData} {us : List V}, DqAll K H us (ds ++ [d]) → ∃ ys z, us = ys ++ [z] ∧ DqAll K H ys ds ∧ Dq K H z d
  | [], d, us, h => by
    cases h with
    | @cons v _ _ _ a r =>
    cases r
    exact ⟨[], v, rfl, .nil, a⟩
  | e :: ds, d, us, h => by
    cases h with
    | @cons v _ _ _ a r =>
    obtain ⟨ys, z, rfl, b, c⟩ := dq_last r
    exact ⟨v :: ys, z, rfl, .cons a b, c⟩
theorem rgc {m : Nat} (hm : m ≤ 3) : RgC 0 ((2 * (m + 1) : Nat) - 1) 2 (m + 1) := by
  match m, hm with
  | 0, _ => exact ⟨by decide, by decide, by decide +kernel, by decide +kernel⟩
  | 1, _ => exact ⟨by decide, by decide, by decide +kernel, by decide +kernel⟩
  | 2, _ => exact ⟨by decide, by decide, by decide +kernel, by decide +kernel⟩
  | 3, _ => exact ⟨by decide, by decide, by decide +kernel, by decide +kernel⟩
end Ca
set_option Elab.async false
set_option linter.all false
set_option maxRecDepth 100000
set_option maxHeartbeats 8000000
namespace Ca
open PySem L2
/-! ### the parts of a text -/
theorem joinL_part {S : List Nat} : ∀ (ps : List (List Nat)) (p : List Nat), p ∈ ps → (∀ c ∈ p, c ∈ TL.joinL S ps) ∧ p.length ≤ (TL.joinL S ps).length
  | [], _, h => nomatch h
  | [q], p, h => by
    rw [List.mem_singleton.mp h]
    exact ⟨fun c hc => hc, Nat.le_refl _⟩
  | q :: r :: rs, p, h => by
    have e : TL.joinL S (q :: r :: rs) = q ++ (S ++ TL.joinL S (r :: rs)) := rfl
    rw [e]
    rcases List.mem_cons.mp h with rfl | h
    · exact ⟨fun c hc => List.mem_append_left _ hc, by rw [List.length_append]; omega⟩
    · obtain ⟨a, b⟩ := joinL_part (r :: rs) p h
      exact ⟨fun c hc => List.mem_append_right _ (List.mem_append_right _ (a c hc)), by rw [List.length_append, List.length_append]; omega⟩
theorem joinL_many {S : List Nat} (h1 : S.length = 1) : ∀ ps : List (List Nat), ps.length ≤ (TL.joinL S ps).length + 1
  | [] => Nat.zero_le _
  | [q] => by
    show 1 ≤ _
    omega
  | q :: r :: rs => by
    have ih := joinL_many h1 (r :: rs)
    have e : TL.joinL S (q :: r :: rs) = q ++ (S ++ TL.joinL S (r :: rs)) := rfl
    rw [e, List.length_append, List.length_append]
    simp only [List.length_cons] at ih ⊢
    omega
theorem split_ne (x y : Str) : Txt.split x y ≠ [] := by
  unfold Txt.split
  split
  · exact List.cons_ne_nil _ _
  · split
    · exact List.cons_ne_nil _ _
    · rw [StrLaws.partsBetween_eq]
      obtain ⟨p, r, e⟩ := StrLaws.partsFrom_ne x y.length 0 _
      rw [e]
      exact List.cons_ne_nil _ _
theorem split_parts (x y : Str) : ∀ p ∈ Txt.split x y, (plnS x → plnS p) ∧ p.length ≤ x.length := fun p hp => by
  have e := StrLaws.join_split x y
  have t : TL.tl x = TL.joinL (TL.tl y) ((Txt.split x y).map TL.tl) := by rw [← TL.tl_join, e]
  obtain ⟨a, b⟩ := joinL_part (S := TL.tl y) ((Txt.split x y).map TL.tl) (TL.tl p) (List.mem_map.mpr ⟨p, hp, rfl⟩)
  rw [← t] at a b
  exact ⟨fun h c hc => h c (a c hc), b⟩
theorem split_many (x y : Str) (h1 : (TL.tl y).length = 1) : (Txt.split x y).length ≤ x.length + 1 := by
  have e := StrLaws.join_split x y
  have t : TL.tl x = TL.joinL (TL.tl y) ((Txt.split x y).map TL.tl) := by rw [← TL.tl_join, e]
  have := joinL_many h1 ((Txt.split x y).map TL.tl)
  rw [← t, List.length_map] at this
  exact this
theorem join_asc {y : Str} {ps : List Str} (hy : plnS y) (h : ∀ p ∈ ps, plnS p) : plnS (Txt.join y ps) := fun c hc => by
  rw [TL.join_eq] at hc
  have hc2 : c ∈ TL.tl (Str.join y ps) := hc
  rw [TL.tl_join] at hc2
  rcases joinL_mem hc2 with z | ⟨p, hp, z⟩
  · exact hy c z
  · obtain ⟨q, hq, rfl⟩ := List.mem_map.mp hp
    exact h q hq c z
theorem rg2 {L : Nat} (h : L ≤ 5001) (h2 : 2 ≤ L) : RgC 0 ((L : Nat) - 1) 2 (L / 2) := by
  refine ⟨by decide, by decide, ?_, ?_⟩
  · have all : ∀ k ∈ List.range 5002, Builtin.Range.small 0 ((k : Nat) - 1) 2 = true := by decide +kernel
    exact all L (List.mem_range.mpr (by omega))
  · unfold Builtin.Range.rangeSize
    rw [if_pos (by decide), if_pos (by omega)]
    omega
/-- pairs of neighbours -/
def pairsD (es : List PyData) (m : Nat) : List PyData := (List.range m).map fun i => .tuple [es.getD (2 * i) .none, es.getD (2 * i + 1) .none]
end Ca
set_option Elab.async false
set_option linter.all false
set_option maxRecDepth 100000
set_option maxHeartbeats 4000000
namespace Ca
open PySem L2
theorem join_head (y a b : Str) : ∀ r : List Str, Str.join y ((a ++ b) :: r) = a ++ Str.join y (b :: r)
  | [] => rfl
  | z :: r => by
    show a ++ b ++ y ++ Str.join y (z :: r) = a ++ (b ++ y ++ Str.join y (z :: r))
    rw [Str.append_assoc, Str.append_assoc, Str.append_assoc]
def pairS (p : Int × Int) : Str := intS p.1 ++ " " ++ intS p.2
theorem join_pairs : ∀ (ps : List (Int × Int)) (x : Str), Str.join " " (x :: ps.map pairS) = Str.join " " (x :: wordsOf ps)
  | [], _ => rfl
  | p :: ps, x => by
    show x ++ " " ++ Str.join " " (pairS p :: ps.map pairS) = x ++ " " ++ (intS p.1 ++ " " ++ Str.join " " (intS p.2 :: wordsOf ps))
    show x ++ " " ++ Str.join " " ((intS p.1 ++ " " ++ intS p.2) :: ps.map pairS) = _
    rw [join_head, join_pairs ps (intS p.2)]
theorem line_pairs (r : Rw) : Txt.join " " ([("row" : Str), r.name] ++ (r.parts ++ [r.bd]).map pairS) = lineS r := by
  unfold lineS
  rw [TL.join_eq, TL.join_eq]
  show ("row" : Str) ++ " " ++ Str.join " " (r.name :: (r.parts ++ [r.bd]).map pairS) = ("row" : Str) ++ " " ++ Str.join " " (r.name :: wordsOf (r.parts ++ [r.bd]))
  rw [join_pairs]
theorem pairs_len : ∀ ps : List (Int × Int), (∀ p ∈ ps, inB p) → ((ps.map pairS).map (·.length)).sum ≤ 3843 * ps.length
  | [], _ => Nat.le_refl _
  | p :: ps, h => by
    have ih := pairs_len ps fun x z => h x (List.mem_cons_of_mem _ z)
    have hp := h p (List.mem_cons_self ..)
    have l1 := intS_len hp.1
    have l2 := intS_len hp.2
    have e : (pairS p).length = (intS p.1).length + 1 + (intS p.2).length := by
      unfold pairS
      rw [cat_len, cat_len]
      rfl
    simp only [List.map_cons, List.sum_cons, List.length_cons]
    rw [e]
    omega
def spPage (K : PySem.W.Frag) : Sp := fun vs H Q _ => ∃ v ns rs, vs = [v] ∧ Dq K H v (caseD ns rs) ∧ Folk ns ∧ Lines rs ns.length ∧ ∀ H', Same H H' → Q (.str (pageS ns rs)) H'
section
variable {P : Program} {w : World} {K : PySem.W.Frag} {mg : Str → Option Value} {base : Heap} {C : Addr}
abbrev NPage : List Str := ["_law_case_here", "_law_lines", "_law_title", "_law_parts", "_law_end", "_law_words", "_law_low", "_law_high"]
theorem scPage : FnScope NPage ["_law_case_here"] (defScope sLawPage) := ⟨rfl, rfl, rfl, by decide +kernel, rfl, by decide +kernel, by decide +kernel⟩
theorem ok_page {f : Addr} {fd : FuncData} (F : FnT K "_law_page" sLawPage f fd) (B : Bn mg) (mlist : mg "list" = none) : FnOk P w K mg base CX0 1 f fd ["_law_case_here"] (spPage K) := by
  refine F.ok scPage (fun vs H Q E h => ?_) (fun cdv A outer s H vs Q E hr h => ?_)
  · obtain ⟨v, ns, rs, rfl, _⟩ := h
    rfl
  · obtain ⟨v, ns, rs, rfl, hd, hN, hL, q⟩ := h
    have nd := scPage.nd
    refine ⟨_, PSs.nox (pss_cons (ps_set (i := 1) nd rfl (.inl rfl) (pe_lst (pa_cons (pe_join pe_str (pe_op op_cat (pe_lst (pa_cons pe_str pa_nil)) (pe_callTy call_list_of (by rfl) mlist (by decide +kernel) (pa_cons (pe_ix ix_tup (pv 0) pe_int (fun _ _ => rfl)) pa_nil)))) pa_nil)))
      (pss_cons (ps_for PassesOwn.never rfl (pi_tup (pe_ix ix_tup (pv 0) pe_int (fun _ _ => rfl))) (pg_tup rfl (pgs_cons (pg_name (i := 2) nd rfl (.inl rfl)) (pgs_cons (pg_name (i := 3) nd rfl (.inl rfl)) (pgs_cons (pg_name (i := 4) nd rfl (.inl rfl)) pgs_nil))))
        (pss_cons (ps_setLc (i := 5) (own := [("_law_low", 6), ("_law_high", 7)]) (g := gTup K 2 (gCons (gName 6) (gCons (gName 7) gNil))) (tt := tYes) rfl nd rfl rfl (sw_true rfl rfl rfl (by decide +kernel)) (pi_tup (pe_op op_catA (pv 3) (pe_tup (pa_cons (pv 4) pa_nil))))
            (blkOk_by (own := [("_law_low", 6), ("_law_high", 7)]) (N := NPage) (sc := defScope sLawPage) (by decide +kernel)) (fun _ _ _ _ _ => pgT K rfl (pgs_cons (pg_name (i := 6) nd rfl (Or.inl rfl)) (pgs_cons (pg_name (i := 7) nd rfl (Or.inl rfl)) pgs_nil))) (fun _ _ _ _ _ => pts_nil)
            (fun _ _ _ _ _ => pe_op op_add_str (pe_op op_add_str (pe_callTy call_str_int (by rfl) B.str (by decide +kernel) (pa_cons (pv 6) pa_nil)) pe_str) (pe_callTy call_str_int (by rfl) B.str (by decide +kernel) (pa_cons (pv 7) pa_nil))))
        (pss_one (ps_expr (pe_bm PySem.F.plainAttrs_list PySem.F.slot_list_append PySem.F.type_list_append mt_append (pv 1) (pa_cons (pe_join pe_str (pe_op op_cat (pe_lst (pa_cons pe_str (pa_cons (pv 2) pa_nil))) (pv 5))) pa_nil))))))
      (pss_one (ps_ret (pe_join pe_str (pv 1)))))), ?_⟩
    obtain ⟨c, u, r, rfl, hc, du, dr⟩ := case_at hd
    obtain ⟨u', xs, eu, h1, h2, _⟩ := tup_len du
    cases eu
    obtain ⟨rfl, hlen⟩ := strs_of h2
    have n3 := hN.hi
    have nl := names_len ns (folk_names hN)
    refine ⟨⟨_, rfl⟩, by show 1 ≤ sizeLine; decide, fun p1 hp1 => ?_⟩
    have s1 := Same.new (o := .lst [.str ("unknowns" : Str)]) hp1
    refine ⟨_, rfl, c, _, 0, _, rfl, rfl, same_sqt s1 hc, atI_nat (j := 0) rfl, u, _, rfl, .inr (same_sqt s1 h1), fun p2 hp2 => ?_⟩
    have s2 := Same.new (o := .lst (ns.map V.str)) hp2
    refine ⟨p1, p2, [.str ("unknowns" : Str)], ns.map V.str, rfl, rfl, s2 _ _ upd_same, upd_same, ?_, fun p3 hp3 => ?_⟩
    · rw [List.length_map]
      exact Nat.le_trans (show 1 + ns.length ≤ 100 by omega) (by decide)
    have s3 := Same.new (o := .lst ([.str ("unknowns" : Str)] ++ ns.map V.str)) hp3
    refine ⟨" ", p3, ("unknowns" : Str) :: ns, rfl, rfl, .inl (SqL.of upd_same), ?_, by show 1 ≤ sizeLine; decide, fun ll hll => ?_⟩
    · simp only [List.map_cons, List.sum_cons, List.length_cons]
      show 8 + _ + (ns.length + 1) * 1 ≤ 16777216
      omega
    have s4 := Same.new (o := .lst [.str (Txt.join " " (("unknowns" : Str) :: ns))]) hll
    have hl0 : H ll = none := by
      cases z : H ll with
      | none => rfl
      | some o => rw [s3 _ _ (s2 _ _ (s1 _ _ z))] at hll; cases hll
    have sG := s1.trans (s2.trans (s3.trans s4))
    clear s1 s2 s3 s4 hp1 hp2 hp3 hll
    obtain ⟨r', ys, er, g1, g2, gl⟩ := tup_len dr
    cases er
    rw [List.length_map] at gl
    have r6 := hL.hi
    refine ⟨_, rfl, c, _, 1, _, rfl, rfl, same_sqt sG hc, atI_nat (j := 1) rfl, r, rfl, ⟨_, same_sqt sG g1⟩, ?_⟩
    refine for_it (walk_tup (K := K) (a := r) (xs := ys)) (fun i σ' H' => i ≤ rs.length ∧ (∃ o2 o3 o4 o5 o6 o7, σ' = [some (.ref c), some (.ref ll), o2, o3, o4, o5, o6, o7]) ∧ Same H H' ∧ H' ll = some (.lst ((Txt.join " " (("unknowns" : Str) :: ns) :: (rs.take i).map lineS).map V.str)))
      ⟨Nat.zero_le _, ⟨_, _, _, _, _, _, rfl⟩, sG, upd_same⟩ (fun i σ' H' hi p => same_sqt p.2.2.1 g1) ?_ ?_
    · rintro i x _ H1 _ hi ⟨_, ⟨o2, o3, o4, o5, o6, o7, rfl⟩, s1, b1⟩ ⟨rfl, hx⟩
      have hi2 : i < rs.length := by rw [← gl]; exact hi
      obtain ⟨d, hdi, hdq⟩ := (g2.same s1).get hx
      rw [List.getElem?_map, List.getElem?_eq_getElem hi2] at hdi
      cases hdi
      have hok := hL.ok _ (List.getElem_mem hi2)
      have hnm := (name_parts (row_name hok).1).2.1
      have hp3 := (row_name hok).2
      have hin := row_in hok
      generalize hR : rs[i] = R at hdq hok hnm hp3 hin
      obtain ⟨a, v2, v3, rfl, ha, d2, d3, _⟩ := row_at hdq
      obtain ⟨a2, xs2, rfl, k1, k2, kl⟩ := tup_len d2
      rw [List.length_map] at kl
      refine ⟨a, _, rfl, ha, rfl, _, _, rfl, _, _, rfl, _, _, rfl, rfl, ?_⟩
      refine ⟨_, rfl, _, rfl, by show 1 ≤ sizeLine; decide, fun t ht => ?_⟩
      have s2 := Same.new (o := .tup [v3]) ht
      have hxl : xs2.length = ns.length := by rw [kl, hp3]
      refine ⟨a2, t, xs2, [v3], rfl, rfl, same_sqt s2 k1, SqT.of upd_same, ?_, fun z => ?_, fun _ z => (by cases z), fun _ _ tt htt => ?_⟩
      · rw [hxl]
        exact Nat.le_trans (show ns.length + 1 ≤ 100 by omega) (by decide)
      · rw [z] at hxl
        have := hN.lo
        simp at hxl
        omega
      have s3 := Same.new (o := .tup (xs2 ++ [v3])) htt
      have hall := (k2.app (.cons d3 .nil) : DqAll K _ (xs2 ++ [v3]) (R.parts.map strD ++ [strD R.bd])).same (s2.trans s3)
      rw [show R.parts.map strD ++ [strD R.bd] = (R.parts ++ [R.bd]).map strD by rw [List.map_append]; rfl] at hall
      have hpl : (R.parts ++ [R.bd]).length = (xs2 ++ [v3]).length := by rw [List.length_append, List.length_append, kl]; rfl
      have hpl4 : (R.parts ++ [R.bd]).length ≤ 4 := by rw [List.length_append, hp3]; show ns.length + 1 ≤ 4; omega
      refine ⟨tt, rfl, ⟨_, SqT.of upd_same⟩, fun D hD => ?_⟩
      refine lc_it (walk_tup (K := K) (a := tt) (xs := xs2 ++ [v3])) (fun k H' => Same _ H' ∧ H' D = some (.lst ((((R.parts ++ [R.bd]).take k).map pairS).map V.str))) ⟨Same.new hD, upd_same⟩ (fun k H' hk p => same_sqt p.1 (SqT.of upd_same)) ?_ ?_
      · rintro k y H5 _ hk ⟨s5, b5⟩ ⟨rfl, hy⟩
        obtain ⟨d, hdk, hdy⟩ := hall.get hy
        have hk2 : k < (R.parts ++ [R.bd]).length := by rw [hpl]; exact hk
        rw [List.getElem?_map, List.getElem?_eq_getElem hk2] at hdk
        cases hdk
        have hpin := hin _ (List.getElem_mem hk2)
        generalize hpp : (R.parts ++ [R.bd])[k] = pp at hdy hpin
        obtain ⟨b, zs, rfl, m1, m2, _⟩ := tup_len hdy
        cases m2 with
        | @cons w1 _ _ _ i1 t1 =>
          cases t1 with
          | @cons w2 _ _ _ i2 t2 =>
            cases t2
            cases i1
            cases i2
            have l1 := intS_len hpin.1
            have l2 := intS_len hpin.2
            refine ⟨b, _, rfl, same_sqt s5 m1, rfl, _, _, rfl, _, _, rfl, rfl, rfl, rdYes ?_⟩
            refine ⟨_, rfl, _, rfl, hpin.1, _, _, rfl, rfl, ?_, _, rfl, _, rfl, hpin.2, _, _, rfl, rfl, ?_, _, b5, ?_, fun u o e => ?_, ?_⟩
            · show (intS pp.1).length + 1 ≤ sizeLine
              exact Nat.le_trans (show _ ≤ 10000 by omega) (by decide)
            · show (intS pp.1 ++ " ").length + (intS pp.2).length ≤ sizeLine
              rw [cat_len]
              show (intS pp.1).length + 1 + (intS pp.2).length ≤ sizeLine
              exact Nat.le_trans (show _ ≤ 10000 by omega) (by decide)
            · rw [List.length_map, List.length_map, List.length_take]
              exact Nat.lt_of_le_of_lt (Nat.min_le_right ..) (Nat.lt_of_le_of_lt hpl4 (by decide))
            · rw [upd_ne (ne_of_none e hD)]
              exact s5 _ _ e
            · rw [upd_same]
              have et : (R.parts ++ [R.bd]).take (k + 1) = (R.parts ++ [R.bd]).take k ++ [pp] := by
                rw [List.take_succ, List.getElem?_eq_getElem hk2, hpp]
                rfl
              rw [et, List.map_append, List.map_append]
              rfl
      · rintro H5 ⟨s5, b5⟩
        rw [← hpl, List.take_length] at b5
        have s25 := s2.trans (s3.trans s5)
        refine ⟨_, rfl, .inl ⟨rfl, _, SqL.of (s25 _ _ b1)⟩, ⟨_, rfl⟩, _, rfl, by show 2 ≤ sizeLine; decide, fun q1 hq1 => ?_⟩
        have s6 := Same.new (o := .lst [.str ("row" : Str), .str R.name]) hq1
        refine ⟨_, rfl, q1, D, _, _, rfl, rfl, upd_same, s6 _ _ b5, ?_, fun q2 hq2 => ?_⟩
        · rw [List.length_map, List.length_map]
          exact Nat.le_trans (show 2 + _ ≤ 100 by omega) (by decide)
        have s7 := Same.new (o := .lst ([.str ("row" : Str), .str R.name] ++ ((R.parts ++ [R.bd]).map pairS).map V.str)) hq2
        refine ⟨" ", q2, [("row" : Str), R.name] ++ (R.parts ++ [R.bd]).map pairS, rfl, rfl, .inl (SqL.of upd_same), ?_, ll, _, _, rfl, rfl, (s6.trans s7) _ _ (s25 _ _ b1), ?_, hi2, ⟨_, _, _, _, _, _, rfl⟩, fun u o e => ?_, ?_⟩
        · have pl := pairs_len _ hin
          rw [List.map_append, List.sum_append, List.length_append, List.length_map]
          show 3 + (R.name.length + 0) + _ + (2 + (R.parts ++ [R.bd]).length) * 1 ≤ 16777216
          omega
        · rw [List.length_map, List.length_cons, List.length_map, List.length_take]
          exact Nat.lt_of_le_of_lt (show _ ≤ 100 by omega) (by decide)
        · rw [upd_ne (ne_of_none e hl0)]
          exact (s6.trans s7) _ _ (s25 _ _ (s1 _ _ e))
        · rw [upd_same, line_pairs]
          have et : rs.take (i + 1) = rs.take i ++ [R] := by
            rw [List.take_succ, List.getElem?_eq_getElem hi2, hR]
            rfl
          rw [et, List.map_append]
          simp
    · rintro σ' H1 ⟨_, ⟨o2, o3, o4, o5, o6, o7, rfl⟩, s1, b1⟩
      rw [gl, List.take_length] at b1
      have ll2 := lines_len rs ns.length hL.ok n3
      refine ⟨⟨_, rfl⟩, _, rfl, "\n", ll, _, rfl, rfl, .inl (SqL.of b1), ?_, q H1 s1⟩
      have j1 := join_le " " (("unknowns" : Str) :: ns)
      rw [← TL.join_eq] at j1
      simp only [List.map_cons, List.sum_cons, List.length_cons, List.length_map] at j1 ⊢
      have e8 : Str.length "unknowns" = 8 := rfl
      have e1 : Str.length " " = 1 := rfl
      have e2 : Str.length "\n" = 1 := rfl
      rw [e8, e1] at j1
      rw [e2]
      omega
end
end Ca
set_option Elab.async false
set_option linter.all false
set_option maxRecDepth 100000
set_option maxHeartbeats 4000000
namespace Ca
open PySem L2 Builtin.Str
/-! ### the signs of what repr tells -/
def ascS (x : Str) : Bool := x.cps.toList.all fun c => decide (c < 128)
mutual
def ascD : PyData → Bool
  | .none => true
  | .bool _ => true
  | .int _ => true
  | .str x => ascS x
  | .list ds => ascDs ds
  | .tuple ds => ascDs ds
  | .dict kvs => kvs.isEmpty
def ascDs : List PyData → Bool
  | [] => true
  | d :: ds => ascD d && ascDs ds
end
theorem repr_sign : ∀ c, c < 128 → ∀ q, q = 34 ∨ q = 39 → ∀ z ∈ reprChar q c, z < 128 := by
  have h1 : ∀ c ∈ List.range 128, ∀ z ∈ reprChar 34 c, z < 128 := by decide +kernel
  have h2 : ∀ c ∈ List.range 128, ∀ z ∈ reprChar 39 c, z < 128 := by decide +kernel
  intro c hc q hq
  rcases hq with rfl | rfl
  · exact h1 c (List.mem_range.mpr hc)
  · exact h2 c (List.mem_range.mpr hc)
theorem repr_fold (q : Nat) (hq : q = 34 ∨ q = 39) : ∀ (cs : List Nat) (out : Array Nat), (∀ c ∈ cs, c < 128) → (∀ z ∈ out.toList, z < 128) → ∀ z ∈ (cs.foldl (fun out c => out ++ (reprChar q c).toArray) out).toList, z < 128
  | [], out, _, ho => ho
  | c :: cs, out, hc, ho => by
    rw [List.foldl_cons]
    refine repr_fold q hq cs _ (fun x hx => hc x (List.mem_cons_of_mem _ hx)) fun z hz => ?_
    rw [Array.toList_append] at hz
    rcases List.mem_append.mp hz with hz | hz
    · exact ho z hz
    · exact repr_sign c (hc c (List.mem_cons_self ..)) q hq z (by simpa using hz)
theorem asc_repr {x : Str} (h : ascS x = true) : PyData.strOk (reprText x) = true := by
  have hx : ∀ c ∈ x.cps.toList, c < 128 := fun c hc => of_decide_eq_true (List.all_eq_true.mp h c hc)
  have hq : reprQuote x = 34 ∨ reprQuote x = 39 := by
    unfold reprQuote
    split
    · exact .inl rfl
    · exact .inr rfl
  refine strOk_of fun c hc => ?_
  unfold reprText at hc
  rw [Array.toList_push] at hc
  rcases List.mem_append.mp hc with hc | hc
  · rw [← Array.foldl_toList] at hc
    refine repr_fold _ hq _ _ hx (fun z hz => ?_) c hc
    have : z = reprQuote x := by simpa using hz
    rw [this]
    rcases hq with e | e <;> rw [e] <;> decide
  · have : c = reprQuote x := by simpa using hc
    rw [this]
    rcases hq with e | e <;> rw [e] <;> decide
theorem ok_textFrom : ∀ (ts : List Str) (k : Nat) (acc : Str), PyData.strOk acc = true → (∀ t ∈ ts, PyData.strOk t = true) → PyData.strOk (textFrom k acc ts) = true
  | [], k, acc, h, _ => h
  | t :: ts, k, acc, h, ht => by
    unfold textFrom
    refine ok_textFrom ts _ _ ?_ fun z hz => ht z (List.mem_cons_of_mem _ hz)
    have a := ht t (List.mem_cons_self ..)
    refine ok_cat (ok_cat h ?_) a
    split <;> decide +kernel
mutual
theorem ok_shown : ∀ d : PyData, ascD d = true → PyData.strOk d.shown = true
  | .none, _ => by decide +kernel
  | .bool b, _ => by cases b <;> decide +kernel
  | .int i, _ => ok_int i
  | .str x, h => asc_repr h
  | .list ds, h => by
    simp only [PyData.shown, listText]
    exact ok_cat (ok_textFrom _ _ _ (by decide +kernel) (ok_shownAll ds (by simpa only [ascD] using h))) (by decide +kernel)
  | .tuple ds, h => by
    simp only [PyData.shown, tupleText]
    refine ok_cat (ok_cat (by decide +kernel) (ok_join (by decide +kernel) _ (ok_shownAll ds (by simpa only [ascD] using h)))) ?_
    split <;> decide +kernel
  | .dict kvs, h => by
    have : kvs = [] := by simpa [ascD] using h
    subst this
    decide +kernel
theorem ok_shownAll : ∀ ds : List PyData, ascDs ds = true → ∀ t ∈ PyData.shownAll ds, PyData.strOk t = true
  | [], _, t, ht => by simp [PyData.shownAll] at ht
  | d :: ds, h, t, ht => by
    obtain ⟨h1, h2⟩ := Bool.and_eq_true_iff.mp (show (ascD d && ascDs ds) = true by simpa only [ascDs] using h)
    simp only [PyData.shownAll] at ht
    rcases List.mem_cons.mp ht with rfl | ht
    · exact ok_shown d h1
    · exact ok_shownAll ds h2 t ht
end
theorem ascDs_all : ∀ ds : List PyData, ascDs ds = ds.all ascD
  | [] => by simp only [ascDs]; rfl
  | d :: ds => by simp only [ascDs, List.all_cons]; rw [ascDs_all ds]
theorem asc_name {x : Str} (h : nameS x = true) : ascS x = true := List.all_eq_true.mpr fun c hc => decide_eq_true ((name_parts h).2.2 c hc)
theorem asc_strD (p : Int × Int) : ascD (strD p) = true := by
  unfold strD
  simp only [ascD, ascDs]
  rfl
theorem ascDs_strD (ps : List (Int × Int)) : ascDs (ps.map strD) = true := by
  rw [ascDs_all, List.all_map, List.all_eq_true]
  exact fun p _ => asc_strD p
theorem asc_row {r : Rw} (h : nameS r.name = true) : ascD (rowD r) = true := by
  unfold rowD
  simp only [ascD, ascDs]
  rw [asc_name h, ascDs_strD, asc_strD]
  rfl
end Ca
set_option Elab.async false
set_option linter.all false
set_option maxRecDepth 100000
set_option maxHeartbeats 8000000
namespace Ca
open PySem L2
/-! ### a text with something altered -/
/-- the signs of texts, with one sign behind each -/
def wtS (ps : List Str) : Nat := (ps.map (·.length)).sum + ps.length
theorem wt_cons (p : Str) (ps : List Str) : wtS (p :: ps) = p.length + 1 + wtS ps := by
  unfold wtS
  simp only [List.map_cons, List.sum_cons, List.length_cons]
  omega
theorem wt_app (ps qs : List Str) : wtS (ps ++ qs) = wtS ps + wtS qs := by
  induction ps with
  | nil => show wtS qs = wtS [] + wtS qs; unfold wtS; simp
  | cons p ps ih => rw [List.cons_append, wt_cons, wt_cons, ih]; omega
theorem wt_cut (ps : List Str) (k : Nat) : wtS (ps.take k) + wtS (ps.drop k) = wtS ps := by
  rw [← wt_app, List.take_append_drop]
theorem wt_drop1 (ps : List Str) (k : Nat) : wtS (ps.drop (k + 1)) ≤ wtS (ps.drop k) := by
  have := wt_cut (ps.drop k) 1
  rw [List.drop_drop] at this
  omega
theorem wt_set : ∀ (ps : List Str) (k : Nat) (p : Str), wtS (ps.set k p) ≤ wtS ps + p.length
  | [], _, _ => by show wtS [] ≤ _; omega
  | q :: ps, 0, p => by
    rw [List.set_cons_zero, wt_cons, wt_cons]
    omega
  | q :: ps, k + 1, p => by
    have := wt_set ps k p
    rw [List.set_cons_succ, wt_cons, wt_cons]
    omega
theorem join_wt {y : Str} (hy : y.length = 1) (ps : List Str) : (Txt.join y ps).length ≤ wtS ps := by
  rw [TL.join_eq]
  have := join_le y ps
  rw [hy] at this
  unfold wtS
  omega
theorem joinL_wt {S : List Nat} (h1 : S.length = 1) : ∀ ps : List (List Nat), ps ≠ [] → (ps.map (·.length)).sum + ps.length ≤ (TL.joinL S ps).length + 1
  | [], h => absurd rfl h
  | [q], _ => by
    show q.length + 0 + 1 ≤ _
    show _ ≤ q.length + 1
    omega
  | q :: r :: rs, _ => by
    have ih := joinL_wt h1 (r :: rs) (fun z => nomatch z)
    have e : TL.joinL S (q :: r :: rs) = q ++ (S ++ TL.joinL S (r :: rs)) := rfl
    rw [e, List.length_append, List.length_append]
    simp only [List.map_cons, List.sum_cons, List.length_cons] at ih ⊢
    omega
theorem split_wt (x y : Str) (h1 : (TL.tl y).length = 1) : wtS (Txt.split x y) ≤ x.length + 1 := by
  have e := StrLaws.join_split x y
  have t : TL.tl x = TL.joinL (TL.tl y) ((Txt.split x y).map TL.tl) := by rw [← TL.tl_join, e]
  have := joinL_wt h1 ((Txt.split x y).map TL.tl) (fun z => split_ne x y (List.map_eq_nil_iff.mp z))
  rw [← t, List.length_map, List.map_map] at this
  exact this
theorem cat_pln {x y : Str} (hx : plnS x) (hy : plnS y) : plnS (x ++ y) := fun c hc => by
  have : c ∈ x.cps.toList ++ y.cps.toList := by
    rw [← Array.toList_append]
    exact hc
  exact (List.mem_append.mp this).elim (hx c) (hy c)
theorem cut_pln {x : Str} (h : plnS x) (lo hi : Option Int) : plnS (L2.cutS x lo hi) := fun c hc => h c (List.mem_of_mem_drop (List.mem_of_mem_take hc))
/-! ### the signs of a page -/
theorem pln_of {x : Str} (h : ascS x = true) : plnS x := fun c hc => of_decide_eq_true (List.all_eq_true.mp h c hc)
theorem asc_of {x : Str} (h : plnS x) : ascS x = true := List.all_eq_true.mpr fun c hc => decide_eq_true (h c hc)
theorem intS_len6 {i : Int} (h1 : -10000 ≤ i) (h2 : i ≤ 10000) : (intS i).length ≤ 6 := by
  unfold intS
  show (Str.ofString (toString i)).length ≤ 6
  rw [PySem.ofString_length]
  have := PySem.int_text_length_le10 (a := i) (k := 5) (by decide) (by omega)
  omega
theorem words_small : ∀ ps : List (Int × Int), (∀ p ∈ ps, inT p) → ((wordsOf ps).map (·.length)).sum ≤ 12 * ps.length ∧ (wordsOf ps).length = 2 * ps.length
  | [], _ => ⟨Nat.le_refl _, rfl⟩
  | p :: ps, h => by
    obtain ⟨a, b⟩ := words_small ps fun x z => h x (List.mem_cons_of_mem _ z)
    obtain ⟨t1, t2, t3⟩ := h p (List.mem_cons_self ..)
    have l1 := intS_len6 (i := p.1) t1 (by omega)
    have l2 := intS_len6 (i := p.2) (by omega) t3
    have e : wordsOf (p :: ps) = intS p.1 :: intS p.2 :: wordsOf ps := rfl
    rw [e]
    simp only [List.map_cons, List.sum_cons, List.length_cons]
    omega
theorem line_len6 {r : Rw} {m : Nat} (ok : isRowD (rowD r) m = true) (hm : m ≤ 3) : (lineS r).length ≤ 69 := by
  have hp3 := (row_name ok).2
  have l3 : (r.parts ++ [r.bd]).length ≤ 4 := by rw [List.length_append, hp3]; show m + 1 ≤ 4; omega
  obtain ⟨w1, w2⟩ := words_small (r.parts ++ [r.bd]) (row_T ok)
  have hn := (name_parts (row_name ok).1).2.1
  unfold lineS
  rw [TL.join_eq]
  refine Nat.le_trans (join_le _ _) ?_
  rw [List.map_append, List.sum_append, List.length_append, w2]
  show 3 + (r.name.length + 0) + _ + (2 + 2 * (r.parts ++ [r.bd]).length) * 1 ≤ 69
  omega
theorem lines_len6 : ∀ (rs : List Rw) (m : Nat), (∀ r ∈ rs, isRowD (rowD r) m = true) → m ≤ 3 → (((rs.map lineS).map (·.length)).sum ≤ 69 * rs.length)
  | [], _, _, _ => Nat.le_refl _
  | r :: rs, m, h, hm => by
    have ih := lines_len6 rs m (fun x z => h x (List.mem_cons_of_mem _ z)) hm
    have l := line_len6 (h r (List.mem_cons_self ..)) hm
    simp only [List.map_cons, List.sum_cons, List.length_cons]
    omega
theorem page_small {ns : List Str} {rs : List Rw} (hN : Folk ns) (hL : Lines rs ns.length) : (pageS ns rs).length ≤ 460 := by
  have n3 := hN.hi
  have r6 := hL.hi
  have a := lines_len6 rs ns.length hL.ok n3
  have b := names_len ns (folk_names hN)
  have f : (Txt.join " " (("unknowns" : Str) :: ns)).length ≤ 36 := by
    rw [TL.join_eq]
    refine Nat.le_trans (join_le _ _) ?_
    simp only [List.map_cons, List.sum_cons, List.length_cons]
    show 8 + _ + (ns.length + 1) * 1 ≤ 36
    omega
  unfold pageS
  rw [TL.join_eq]
  refine Nat.le_trans (join_le _ _) ?_
  simp only [List.map_cons, List.sum_cons, List.length_cons, List.length_map]
  show _ + _ + (rs.length + 1) * 1 ≤ 460
  omega
theorem intS_pln (i : Int) : plnS (intS i) := fun c hc => by
  by_cases h : c < 128
  · exact h
  · exact absurd hc (PyProof.Rows.int_text_free' c ⟨by omega, by omega⟩ i)
theorem words_pln (ps : List (Int × Int)) : ∀ x ∈ wordsOf ps, plnS x := fun x hx => by
  obtain ⟨p, _, h⟩ := List.mem_flatMap.mp hx
  rcases List.mem_cons.mp h with rfl | h
  · exact intS_pln _
  · rw [List.mem_singleton.mp h]
    exact intS_pln _
theorem line_pln {r : Rw} {m : Nat} (ok : isRowD (rowD r) m = true) : plnS (lineS r) := by
  refine join_asc (pln_of (by decide +kernel)) fun x hx => ?_
  rcases List.mem_append.mp hx with hx | hx
  · rcases List.mem_cons.mp hx with rfl | hx
    · exact pln_of (by decide +kernel)
    · rw [List.mem_singleton.mp hx]
      exact pln_of (asc_name (row_name ok).1)
  · exact words_pln _ x hx
theorem page_pln {ns : List Str} {rs : List Rw} (hN : Folk ns) (hL : Lines rs ns.length) : plnS (pageS ns rs) := by
  refine join_asc (pln_of (by decide +kernel)) fun x hx => ?_
  rcases List.mem_cons.mp hx with rfl | hx
  · refine join_asc (pln_of (by decide +kernel)) fun y hy => ?_
    rcases List.mem_cons.mp hy with rfl | hy
    · exact pln_of (by decide +kernel)
    · exact pln_of (asc_name (folk_names hN y hy))
  · obtain ⟨r, hr, rfl⟩ := List.mem_map.mp hx
    exact line_pln (hL.ok r hr)
/-! ### words altered, left out, put in, exchanged -/
def freshA : List Str := ["0", "-0", "00", "05", "-7", "10000", "10001", "-10001", "", "row", "bound", "unknowns", "A", "x"]
def freshB : List Str := ["row n 0 0", "row n 0 0 0 0", "unknowns x", "1 1"]
theorem fresh_ok : ∀ x ∈ freshA ++ freshB, plnS x ∧ x.length ≤ 15 := by
  have h : ∀ x ∈ freshA ++ freshB, ascS x = true ∧ x.length ≤ 15 := by decide +kernel
  exact fun x hx => ⟨pln_of (h x hx).1, (h x hx).2⟩
theorem ixNs {n k : Nat} (h : k < n) : ixN n (k : Int) = some k := by
  unfold ixN
  rw [if_pos (by omega), if_pos (by omega)]
  simp
theorem mem_set2 {α : Type} {xs : List α} {k : Nat} {a x : α} (h : x ∈ xs.set k a) : x ∈ xs ∨ x = a := List.mem_or_eq_of_mem_set h
theorem last_atS {α : Type} {xs : List α} (h : xs ≠ []) : ∃ (v : α) (i : Nat), atI xs (-1) = some v ∧ xs[i]? = some v := by
  have e := List.dropLast_concat_getLast h
  have q := atI_last xs.dropLast (xs.getLast h)
  rw [e] at q
  obtain ⟨j, _, h2, _⟩ := atI_get q
  exact ⟨_, j, q, h2⟩
theorem rd_slS {K : PySem.W.Frag} {H : Hp} {a : Addr} {xs : List Str} {lo hi : Option Int} {ys : List V} {Q : VK} (h : H a = some (.lst (xs.map V.str))) (e : cutV (xs.map V.str) lo hi = ys) (q : ∀ H' b, Same H H' → H' b = some (.lst ys) → Q (.ref b) H') : rSlL K (.ref a) lo hi H Q :=
  ⟨a, _, rfl, SqL.of h, fun p hp => by rw [e]; exact q _ p (Same.new hp) upd_same⟩
theorem rd_catS {H : Hp} {a b : Addr} {xs ys : List Str} {Q : VK} (h1 : H a = some (.lst (xs.map V.str))) (h2 : H b = some (.lst (ys.map V.str))) (hl : xs.length + ys.length ≤ 100000) (q : ∀ H' c, Same H H' → H' c = some (.lst ((xs ++ ys).map V.str)) → Q (.ref c) H') : rCat (.ref a) (.ref b) H Q :=
  ⟨a, b, _, _, rfl, rfl, h1, h2, by rw [List.length_map, List.length_map]; exact Nat.le_trans hl (by decide), fun p hp => by rw [← List.map_append]; exact q _ p (Same.new hp) upd_same⟩
def spBentW (K : PySem.W.Frag) : Sp := fun vs H Q _ => ∃ (l : Addr) (t sep : Str), vs = [.ref l, .str t, .str sep] ∧ Urn H l ∧ plnS t ∧ t.length ≤ 4000 ∧ (sep = " " ∨ sep = "\n") ∧
  ∀ H' x, Kept l H H' → Urn H' l → plnS x → x.length ≤ 3 * t.length + 32 → Q (.str x) H'
abbrev NBw : List Str := ["_law_urn_here", "_law_page_here", "_law_parted", "_law_words", "_law_form", "_law_k", "_law_j", "_law_fresh"]
theorem scBw : FnScope NBw ["_law_urn_here", "_law_page_here", "_law_parted"] (defScope sLawBentWords) := ⟨rfl, rfl, rfl, by decide +kernel, rfl, by decide +kernel, by decide +kernel⟩
section
variable {P : Program} {w : World} {K : PySem.W.Frag} {mg : Str → Option Value} {base : Heap}
theorem ok_bentW {f fF fD : Addr} {fd fdF fdD : FuncData} (F : FnT K "_law_bent_words" sLawBentWords f fd) (B : Bn mg)
    (gF : mg "_law_from" = some (.ref fF)) (GF : FnOk P w K mg base CX0 2 fF fdF ["_law_urn_here", "_law_some"] (spFrom K)) (kF : PySem.W.keepIn K (.ref fF) = true) (bF : Binds K fdF ["_law_urn_here", "_law_some"] [])
    (gD : mg "_law_dip" = some (.ref fD)) (GD : FnOk P w K mg base CX0 1 fD fdD ["_law_urn_here", "_law_top"] spDip) (kD : PySem.W.keepIn K (.ref fD) = true) (bD : Binds K fdD ["_law_urn_here", "_law_top"] []) :
    FnOk P w K mg base CX0 3 f fd ["_law_urn_here", "_law_page_here", "_law_parted"] (spBentW K) := by
  refine F.ok scBw (fun vs H Q E h => ?_) (fun cdv A outer s H vs Q E hr h => ?_)
  · obtain ⟨l, t, sep, rfl, _⟩ := h
    rfl
  · obtain ⟨l, t, sep, rfl, hU, tp, tl, hsep, q⟩ := h
    have nd := scBw.nd
    have hr1 : Room 1 _ := hr.mono (by decide)
    have hr2 : Room 2 _ := hr.mono (by decide)
    refine ⟨_, PSs.nox (pss_cons (ps_cut (ps_par (i := 3) (j := 4) rfl nd rfl rfl (by decide) rfl rfl (pa_cons (pe_split (pv 1) (pv 2)) (pa_cons (pe_call GD hr1 rfl gD kD bD .nil pass0 (pa_cons (pv 0) (pa_cons pe_int pa_nil))) pa_nil)) rfl))
      (pss_cons (ps_cut (ps_par (i := 5) (j := 6) rfl nd rfl rfl (by decide) rfl rfl (pa_cons (pe_call GD hr1 rfl gD kD bD .nil pass0 (pa_cons (pv 0) (pa_cons (pe_callB (call_lenK K) (by rfl) B.len boot_len (pa_cons (pv 3) pa_nil)) pa_nil))) (pa_cons (pe_call GD hr1 rfl gD kD bD .nil pass0 (pa_cons (pv 0) (pa_cons (pe_callB (call_lenK K) (by rfl) B.len boot_len (pa_cons (pv 3) pa_nil)) pa_nil))) pa_nil)) rfl))
      (pss_cons (ps_cut (ps_set (i := 7) nd rfl (.inl rfl) (pe_lst (pa_cons pe_str (pa_cons pe_str (pa_cons pe_str (pa_cons pe_str (pa_cons pe_str (pa_cons pe_str (pa_cons pe_str (pa_cons pe_str (pa_cons pe_str (pa_cons pe_str (pa_cons pe_str (pa_cons pe_str (pa_cons pe_str (pa_cons pe_str pa_nil)))))))))))))))))
      (pss_cons (ps_cut (ps_set (i := 7) nd rfl (.inl rfl) (pe_call GF hr2 rfl gF kF bF .nil pass0 (pa_cons (pv 0) (pa_cons (pe_op op_cat (pv 7) (pe_lst (pa_cons pe_str (pa_cons pe_str (pa_cons pe_str (pa_cons pe_str (pa_cons (pe_ix (ixL K) (pv 3) pe_int (fun _ _ => rfl)) (pa_cons (pe_ix (ixL K) (pv 3) (pe_un un_neg pe_int) (fun _ _ => rfl)) pa_nil)))))))) pa_nil)))))
      (pss_cons (ps_cut (ps_if (pt_cmpR op_eq (pv 4) pe_int (nomark _)) (pss_one (ps_ret (pe_join (pv 2) (pe_op op_cat (pe_slice sl_list (pv 3) po_none (po_some (pv 5))) (pe_slice sl_list (pv 3) (po_some (pe_op op_add (pv 5) pe_int)) po_none))))) pss_nil))
      (pss_cons (ps_cut (ps_if (pt_cmpR op_eq (pv 4) pe_int (nomark _)) (pss_one (ps_ret (pe_join (pv 2) (pe_op op_cat (pe_op op_cat (pe_slice sl_list (pv 3) po_none (po_some (pv 5))) (pe_lst (pa_cons (pv 7) pa_nil))) (pe_slice sl_list (pv 3) (po_some (pv 5)) po_none))))) pss_nil))
      (pss_cons (ps_cut (ps_if (pt_cmpR op_eq (pv 4) pe_int (nomark _)) (pss_one (ps_ret (pe_join (pv 2) (pe_op op_cat (pe_op op_cat (pe_slice sl_list (pv 3) po_none (po_some (pv 5))) (pe_lst (pa_cons (pv 7) pa_nil))) (pe_slice sl_list (pv 3) (po_some (pe_op op_add (pv 5) pe_int)) po_none))))) pss_nil))
      (pss_cons (ps_cut (ps_asg (pe_tup (pa_cons (pe_ix (ixL K) (pv 3) (pv 6) (fun _ _ => rfl)) (pa_cons (pe_ix (ixL K) (pv 3) (pv 5) (fun _ _ => rfl)) pa_nil))) (pgT K rfl (pgs_cons (pg_sub (pv 3) (pv 5) set_list) (pgs_cons (pg_sub (pv 3) (pv 6) set_list) pgs_nil)))))
      (pss_one (ps_ret (pe_join (pv 2) (pv 3)))))))))))), ?_⟩
    have one : 1 ≤ sizeLine := by decide
    have two : 2 ≤ sizeLine := by decide
    have s1 : (TL.tl sep).length = 1 ∧ sep.length = 1 ∧ (sep.length == 0) = false ∧ plnS sep := by
      rcases hsep with rfl | rfl
      · exact ⟨by decide +kernel, by decide +kernel, by decide +kernel, pln_of (by decide +kernel)⟩
      · exact ⟨by decide +kernel, by decide +kernel, by decide +kernel, pln_of (by decide +kernel)⟩
    obtain ⟨sA, sB, sC, sD⟩ := s1
    clear hsep
    have wne := split_ne t sep
    have wpt := split_parts t sep
    have wmn := split_many t sep sA
    have wwt := split_wt t sep sA
    obtain ⟨yl, hyl⟩ := urn_lst hU
    have wpl : ∀ p ∈ Txt.split t sep, plnS p ∧ p.length ≤ t.length := fun p hp => ⟨(wpt p hp).1 tp, (wpt p hp).2⟩
    -- the words
    refine ⟨fun σ' H' => ∃ (p : Addr) (m : Int), σ' = [some (.ref l), some (.str t), some (.str sep), some (.ref p), some (.int m), none, none, none] ∧ Kept l H H' ∧ Urn H' l ∧ H' p = some (.lst ((Txt.split t sep).map V.str)) ∧ H p = none, ?_, ?_⟩
    · refine ⟨_, rfl, ⟨_, rfl⟩, _, rfl, t, sep, rfl, rfl, sC, Nat.le_trans (Nat.add_le_add_right tl 2) (by decide), fun p hp => ?_⟩
      have s2 := Same.new (o := .lst ((Txt.split t sep).map V.str)) hp
      refine ⟨_, rfl, l, 4, rfl, hU.same s2, by decide, by decide, fun H6 b k6 u6 b0 b1 => ⟨_, _, rfl, p, b, rfl, s2.kept.trans k6, u6, k6 _ _ (fun z => ?_) upd_same, hp⟩⟩
      rw [z, hyl] at hp
      cases hp
    rintro _ H1 ⟨p, m, rfl, k1, u1, e1, hp⟩
    have npl : p ≠ l := fun z => by rw [z, hyl] at hp; cases hp
    generalize Txt.split t sep = ws at *
    have pos : 0 < ws.length := List.length_pos_iff.mpr wne
    -- two places
    refine ⟨fun σ' H' => ∃ k j : Nat, σ' = [some (.ref l), some (.str t), some (.str sep), some (.ref p), some (.int m), some (.int (k : Nat)), some (.int (j : Nat)), none] ∧ k < ws.length ∧ j < ws.length ∧ Kept l H H' ∧ Urn H' l ∧ H' p = some (.lst (ws.map V.str)), ?_, ?_⟩
    · refine ⟨_, rfl, _, rfl, _, ws.length, rfl, .inl ⟨_, SqL.of e1, by rw [List.length_map]⟩, l, ((ws.length : Nat) : Int), rfl, u1, by omega, by omega, fun H6 b k6 u6 b0 b1 => ?_⟩
      obtain ⟨k, rfl⟩ := Int.eq_ofNat_of_zero_le b0
      have e6 := k6 _ _ npl e1
      refine ⟨_, rfl, _, rfl, _, ws.length, rfl, .inl ⟨_, SqL.of e6, by rw [List.length_map]⟩, l, ((ws.length : Nat) : Int), rfl, u6, by omega, by omega, fun H7 c k7 u7 c0 c1 => ?_⟩
      obtain ⟨j, rfl⟩ := Int.eq_ofNat_of_zero_le c0
      exact ⟨_, _, rfl, k, j, rfl, by omega, by omega, k1.trans (k6.trans k7), u7, k7 _ _ npl e6⟩
    rintro _ H2 ⟨k, j, rfl, hk, hj, k2, u2, e2⟩
    clear k1 u1 e1
    -- what may be put in
    refine ⟨fun σ' H' => ∃ r, σ' = [some (.ref l), some (.str t), some (.str sep), some (.ref p), some (.int m), some (.int (k : Nat)), some (.int (j : Nat)), some (.ref r)] ∧ Same H2 H' ∧ H' r = some (.lst (freshA.map V.str)), ?_, ?_⟩
    · exact ⟨(show 14 ≤ sizeLine by decide), fun r hr' => ⟨r, rfl, Same.new hr', upd_same⟩⟩
    rintro _ H3 ⟨r, rfl, s3, e3⟩
    refine ⟨fun σ' H' => ∃ x : Str, σ' = [some (.ref l), some (.str t), some (.str sep), some (.ref p), some (.int m), some (.int (k : Nat)), some (.int (j : Nat)), some (.str x)] ∧ plnS x ∧ x.length ≤ t.length + 15 ∧ Kept l H H' ∧ Urn H' l ∧ H' p = some (.lst (ws.map V.str)), ?_, ?_⟩
    · obtain ⟨w0, hw0⟩ : ∃ w0, ws[0]? = some w0 := ⟨_, List.getElem?_eq_getElem pos⟩
      obtain ⟨wz, iz, az, hwz⟩ := last_atS (xs := ws.map V.str) (fun e => wne (List.map_eq_nil_iff.mp e))
      obtain ⟨wz, hwz', rfl⟩ : ∃ y, ws[iz]? = some y ∧ wz = .str y := by
        rw [List.getElem?_map] at hwz
        cases e : ws[iz]? with
        | none => rw [e] at hwz; cases hwz
        | some y => rw [e] at hwz; exact ⟨y, rfl, (Option.some.inj hwz).symm⟩
      have e23 := s3 _ _ e2
      have u3 := u2.same s3
      refine ⟨_, rfl, _, rfl, _, rfl, p, _, 0, .str w0, rfl, rfl, SqL.of e23, atI_nat (j := 0) (by rw [List.getElem?_map, hw0]; rfl), _, rfl, _, rfl, p, _, _, .str wz, rfl, rfl, SqL.of e23, az, (show 6 ≤ sizeLine by decide), fun p1 h1 => ?_⟩
      have b1 := Same.new (o := .lst ((freshB ++ [w0, wz]).map V.str)) h1
      refine rd_catS (ys := freshB ++ [w0, wz]) (b1 _ _ e3) upd_same (show 14 + 6 ≤ 100000 by decide) fun H6 c6 s6 e6 => ?_
      have a6 := s3.trans (b1.trans s6)
      have nc : c6 ≠ l := fun z => by
        obtain ⟨g1, g2, g3, _, _, _, g⟩ := u2.same a6
        rw [z, g] at e6
        injection e6 with e6
        injection e6 with e6
        have e6' : V.int g1 :: [V.int g2, V.int g3] = V.str "0" :: _ := e6
        cases (List.cons.inj e6').1
      refine ⟨l, c6, _, rfl, u2.same a6, e6, nc, by rw [List.length_map]; exact Nat.succ_pos _, by rw [List.length_map]; exact (show 20 < 1000 by decide), fun H7 i v hv k7 u7 => ?_⟩
      rw [List.getElem?_map] at hv
      obtain ⟨x, hx, rfl⟩ : ∃ y, (freshA ++ (freshB ++ [w0, wz]))[i]? = some y ∧ v = .str y := by
        cases e : (freshA ++ (freshB ++ [w0, wz]))[i]? with
        | none => rw [e] at hv; cases hv
        | some y => rw [e] at hv; exact ⟨y, rfl, (Option.some.inj hv).symm⟩
      have mem := List.mem_of_getElem? hx
      have pl : plnS x ∧ x.length ≤ t.length + 15 := by
        rw [← List.append_assoc] at mem
        rcases List.mem_append.mp mem with h | h
        · obtain ⟨a, b⟩ := fresh_ok x h
          exact ⟨a, by omega⟩
        · rcases List.mem_cons.mp h with rfl | h
          · obtain ⟨a, b⟩ := wpl _ (List.mem_of_getElem? hw0)
            exact ⟨a, by omega⟩
          · rw [List.mem_singleton.mp h]
            obtain ⟨a, b⟩ := wpl _ (List.mem_of_getElem? hwz')
            exact ⟨a, by omega⟩
      exact ⟨x, rfl, pl.1, pl.2, k2.trans (a6.kept.trans k7), u7, k7 _ _ npl (a6 _ _ e2)⟩
    rintro _ H4 ⟨x, rfl, xp, xl, k4, u4, e4⟩
    clear k2 u2 e2 s3 e3
    have fin : ∀ {H' : Hp} {c : Addr} {ys : List Str}, Same H4 H' → H' c = some (.lst (ys.map V.str)) → (∀ y ∈ ys, plnS y) → wtS ys ≤ 3 * t.length + 32 → ∃ a p' zs, V.str sep = .str a ∧ [V.ref c] = [.ref p'] ∧ (SqL K H' p' (List.map V.str zs) ∨ SqT K H' p' (List.map V.str zs)) ∧ (zs.map (·.length)).sum + zs.length * a.length ≤ 16777216 ∧ Q (.str (Txt.join a zs)) H' := fun {H' c ys} s e pl wl => by
      refine ⟨sep, c, ys, rfl, rfl, .inl (SqL.of e), ?_, q H' _ (k4.trans s.kept) (u4.same s) (join_asc sD pl) (Nat.le_trans (join_wt sB ys) wl)⟩
      rw [sB]
      have : wtS ys = (ys.map (·.length)).sum + ys.length := rfl
      omega
    have cutT : ∀ i : Nat, cutV (ws.map V.str) none (some ((i : Nat) : Int)) = (ws.take i).map V.str := fun i => by rw [cut_take, List.map_take]
    have cutD : ∀ i : Nat, cutV (ws.map V.str) (some ((i : Nat) : Int)) none = (ws.drop i).map V.str := fun i => by rw [cut_drop, List.map_drop]
    have wk := wt_cut ws k
    have wk1 := wt_drop1 ws k
    have pT : ∀ i, ∀ y ∈ ws.take i, plnS y := fun i y hy => (wpl y (List.mem_of_mem_take hy)).1
    have pD : ∀ i, ∀ y ∈ ws.drop i, plnS y := fun i y hy => (wpl y (List.mem_of_mem_drop hy)).1
    have lT : ∀ i, (ws.take i).length ≤ 5001 := fun i => by rw [List.length_take]; omega
    have lD : ∀ i, (ws.drop i).length ≤ 5001 := fun i => by rw [List.length_drop]; omega
    -- left out
    refine ⟨fun σ' H' => σ' = [some (.ref l), some (.str t), some (.str sep), some (.ref p), some (.int m), some (.int (k : Nat)), some (.int (j : Nat)), some (.str x)] ∧ H' = H4, ?_, ?_⟩
    · refine ⟨_, rfl, rfl, _, rfl, ?_⟩
      by_cases c : V.int m = V.int 0
      · rw [decide_eq_true c]
        refine iteT ⟨_, rfl, ⟨_, rfl⟩, _, rfl, _, rfl, _, rfl, rd_slS e4 (cutT k) fun H5 b5 s5 e5 => ⟨_, rfl, _, rfl, _, _, rfl, rfl, _, rfl, rd_no (rd_slS (s5 _ _ e4) (cutD (k + 1)) fun H6 b6 s6 e6 => rd_catS (s6 _ _ e5) e6 (Nat.le_trans (Nat.add_le_add (lT k) (lD (k + 1))) (by decide)) fun H7 b7 s7 e7 => fin (s5.trans (s6.trans s7)) e7 ?_ ?_)⟩⟩
        · exact fun y hy => (List.mem_append.mp hy).elim (pT _ y) (pD _ y)
        · rw [wt_app]
          omega
      · rw [decide_eq_false c]
        exact iteF ⟨rfl, rfl⟩
    rintro _ H5 ⟨rfl, rfl⟩
    -- put in
    refine ⟨fun σ' H' => σ' = [some (.ref l), some (.str t), some (.str sep), some (.ref p), some (.int m), some (.int (k : Nat)), some (.int (j : Nat)), some (.str x)] ∧ H' = H5, ?_, ?_⟩
    · refine ⟨_, rfl, rfl, _, rfl, ?_⟩
      by_cases c : V.int m = V.int 1
      · rw [decide_eq_true c]
        refine iteT ⟨_, rfl, ⟨_, rfl⟩, _, rfl, _, rfl, _, rfl, rd_slS e4 (cutT k) fun H6 b6 s6 e6 => ⟨_, rfl, one, fun b7 h7 => ?_⟩⟩
        have s7 := Same.new (o := .lst [.str x]) h7
        refine rd_catS (ys := [x]) (s7 _ _ e6) upd_same (Nat.le_trans (Nat.add_le_add_right (lT k) 1) (by decide)) fun H8 b8 s8 e8 => ?_
        have a8 := s6.trans (s7.trans s8)
        refine ⟨_, rfl, _, rfl, _, rfl, rd_no (rd_slS (a8 _ _ e4) (cutD k) fun H9 b9 s9 e9 => rd_catS (s9 _ _ e8) e9 (by rw [List.length_append]; exact Nat.le_trans (Nat.add_le_add (Nat.add_le_add_right (lT k) 1) (lD k)) (by decide)) fun H10 b10 s10 e10 => fin (a8.trans (s9.trans s10)) e10 ?_ ?_)⟩
        · refine fun y hy => (List.mem_append.mp hy).elim (fun hy => (List.mem_append.mp hy).elim (pT _ y) fun hy => ?_) (pD _ y)
          rw [List.mem_singleton.mp hy]
          exact xp
        · rw [wt_app, wt_app, wt_cons]
          show _ + (_ + 1 + 0) + _ ≤ _
          omega
      · rw [decide_eq_false c]
        exact iteF ⟨rfl, rfl⟩
    rintro _ H6 ⟨rfl, rfl⟩
    -- altered
    refine ⟨fun σ' H' => σ' = [some (.ref l), some (.str t), some (.str sep), some (.ref p), some (.int m), some (.int (k : Nat)), some (.int (j : Nat)), some (.str x)] ∧ H' = H6, ?_, ?_⟩
    · refine ⟨_, rfl, rfl, _, rfl, ?_⟩
      by_cases c : V.int m = V.int 2
      · rw [decide_eq_true c]
        refine iteT ⟨_, rfl, ⟨_, rfl⟩, _, rfl, _, rfl, _, rfl, rd_slS e4 (cutT k) fun H7 b7 s7 e7 => ⟨_, rfl, one, fun b8 h8 => ?_⟩⟩
        have s8 := Same.new (o := .lst [.str x]) h8
        refine rd_catS (ys := [x]) (s8 _ _ e7) upd_same (Nat.le_trans (Nat.add_le_add_right (lT k) 1) (by decide)) fun H9 b9 s9 e9 => ?_
        have a9 := s7.trans (s8.trans s9)
        refine ⟨_, rfl, _, rfl, _, _, rfl, rfl, _, rfl, rd_no (rd_slS (a9 _ _ e4) (cutD (k + 1)) fun H10 b10 s10 e10 => rd_catS (s10 _ _ e9) e10 (by rw [List.length_append]; exact Nat.le_trans (Nat.add_le_add (Nat.add_le_add_right (lT k) 1) (lD (k + 1))) (by decide)) fun H11 b11 s11 e11 => fin (a9.trans (s10.trans s11)) e11 ?_ ?_)⟩
        · refine fun y hy => (List.mem_append.mp hy).elim (fun hy => (List.mem_append.mp hy).elim (pT _ y) fun hy => ?_) (pD _ y)
          rw [List.mem_singleton.mp hy]
          exact xp
        · rw [wt_app, wt_app, wt_cons]
          show _ + (_ + 1 + 0) + _ ≤ _
          omega
      · rw [decide_eq_false c]
        exact iteF ⟨rfl, rfl⟩
    rintro _ H7 ⟨rfl, rfl⟩
    -- exchanged
    obtain ⟨wk', hwk⟩ : ∃ w, ws[k]? = some w := ⟨_, List.getElem?_eq_getElem hk⟩
    obtain ⟨wj', hwj⟩ : ∃ w, ws[j]? = some w := ⟨_, List.getElem?_eq_getElem hj⟩
    refine ⟨fun σ' H' => σ' = [some (.ref l), some (.str t), some (.str sep), some (.ref p), some (.int m), some (.int (k : Nat)), some (.int (j : Nat)), some (.str x)] ∧ (∀ b o, b ≠ p → H7 b = some o → H' b = some o) ∧ H' p = some (.lst (((ws.set k wj').set j wk').map V.str)), ?_, ?_⟩
    · refine ⟨_, rfl, _, rfl, p, _, _, .str wj', rfl, rfl, SqL.of e4, atI_nat (by rw [List.getElem?_map, hwj]; rfl), _, rfl, _, rfl, p, _, _, .str wk', rfl, rfl, SqL.of e4, atI_nat (by rw [List.getElem?_map, hwk]; rfl), two, fun c8 h8 => ?_⟩
      have s8 := Same.new (o := .tup [.str wj', .str wk']) h8
      have e8 := s8 _ _ e4
      refine ⟨c8, _, rfl, SqT.of upd_same, rfl, _, _, rfl, ⟨_, rfl, _, rfl, p, _, _, k, rfl, rfl, e8, ixNs (by rw [List.length_map]; exact hk), _, _, rfl, _, rfl, _, rfl, p, _, _, j, rfl, rfl, upd_same, ixNs (by rw [List.length_set, List.length_map]; exact hj), rfl, rfl, fun b o nb e => ?_, ?_⟩⟩
      · rw [upd_ne nb, upd_ne nb]
        exact s8 _ _ e
      · rw [upd_same, List.map_set, List.map_set]
    rintro _ H8 ⟨rfl, k8, e8⟩
    refine ⟨_, rfl, ⟨_, rfl⟩, _, rfl, sep, p, _, rfl, rfl, .inl (SqL.of e8), ?_, ?_⟩
    · have := wt_set ws k wj'
      have := wt_set (ws.set k wj') j wk'
      have a := (wpl _ (List.mem_of_getElem? hwk)).2
      have b := (wpl _ (List.mem_of_getElem? hwj)).2
      have c : wtS ((ws.set k wj').set j wk') = (((ws.set k wj').set j wk').map (·.length)).sum + ((ws.set k wj').set j wk').length := rfl
      rw [sB]
      omega
    · refine q H8 _ (fun b o nb e => ?_) ?_ (join_asc sD fun y hy => ?_) (Nat.le_trans (join_wt sB _) ?_)
      · exact k8 b o (fun z => by rw [z, hp] at e; cases e) (k4 b o nb e)
      · obtain ⟨g, x1, n1, h1, h2, h3, h⟩ := u4
        exact ⟨g, x1, n1, h1, h2, h3, k8 _ _ (Ne.symm npl) h⟩
      · rcases mem_set2 hy with hy | rfl
        · rcases mem_set2 hy with hy | rfl
          · exact (wpl y hy).1
          · exact (wpl _ (List.mem_of_getElem? hwj)).1
        · exact (wpl _ (List.mem_of_getElem? hwk)).1
      · have := wt_set ws k wj'
        have := wt_set (ws.set k wj') j wk'
        have a := (wpl _ (List.mem_of_getElem? hwk)).2
        have b := (wpl _ (List.mem_of_getElem? hwj)).2
        omega
/-! ### a sign altered, put in -/
def signsB : List Str := [" ", "\n", "-", "0", "1", "a", "A", "_", ",", "(", "", "+"]
theorem signs_ok : ∀ x ∈ signsB, plnS x ∧ x.length ≤ 1 := by
  have h : ∀ x ∈ signsB, ascS x = true ∧ x.length ≤ 1 := by decide +kernel
  exact fun x hx => ⟨pln_of (h x hx).1, (h x hx).2⟩
def spBent5 (K : PySem.W.Frag) : Sp := fun vs H Q _ => ∃ (l : Addr) (t : Str), vs = [.ref l, .str t] ∧ Urn H l ∧ plnS t ∧ t.length ≤ 4000 ∧
  ∀ H' x, Kept l H H' → Urn H' l → plnS x → x.length ≤ 3 * t.length + 32 → Q (.str x) H'
abbrev NB5 : List Str := ["_law_urn_here", "_law_page_here", "_law_form", "_law_at", "_law_sign"]
theorem scB5 : FnScope NB5 ["_law_urn_here", "_law_page_here"] (defScope sLawBent) := ⟨rfl, rfl, rfl, by decide +kernel, rfl, by decide +kernel, by decide +kernel⟩
theorem ok_bent5 {f fF fD fW : Addr} {fd fdF fdD fdW : FuncData} (F : FnT K "_law_bent" sLawBent f fd) (B : Bn mg)
    (gF : mg "_law_from" = some (.ref fF)) (GF : FnOk P w K mg base CX0 2 fF fdF ["_law_urn_here", "_law_some"] (spFrom K)) (kF : PySem.W.keepIn K (.ref fF) = true) (bF : Binds K fdF ["_law_urn_here", "_law_some"] [])
    (gD : mg "_law_dip" = some (.ref fD)) (GD : FnOk P w K mg base CX0 1 fD fdD ["_law_urn_here", "_law_top"] spDip) (kD : PySem.W.keepIn K (.ref fD) = true) (bD : Binds K fdD ["_law_urn_here", "_law_top"] [])
    (gW : mg "_law_bent_words" = some (.ref fW)) (GW : FnOk P w K mg base CX0 3 fW fdW ["_law_urn_here", "_law_page_here", "_law_parted"] (spBentW K)) (kW : PySem.W.keepIn K (.ref fW) = true) (bW : Binds K fdW ["_law_urn_here", "_law_page_here", "_law_parted"] []) :
    FnOk P w K mg base CX0 4 f fd ["_law_urn_here", "_law_page_here"] (spBent5 K) := by
  refine F.ok scB5 (fun vs H Q E h => ?_) (fun cdv A outer s H vs Q E hr h => ?_)
  · obtain ⟨l, t, rfl, _⟩ := h
    rfl
  · obtain ⟨l, t, rfl, hU, tp, tl, q⟩ := h
    have nd := scB5.nd
    have hr1 : Room 1 _ := hr.mono (by decide)
    have hr2 : Room 2 _ := hr.mono (by decide)
    have hr3 : Room 3 _ := hr.mono (by decide)
    refine ⟨_, PSs.nox (pss_cons (ps_cut (ps_par (i := 2) (j := 3) rfl nd rfl rfl (by decide) rfl rfl (pa_cons (pe_call GD hr1 rfl gD kD bD .nil pass0 (pa_cons (pv 0) (pa_cons pe_int pa_nil))) (pa_cons (pe_call GD hr1 rfl gD kD bD .nil pass0 (pa_cons (pv 0) (pa_cons (pe_op op_add (pe_callB (call_lenK K) (by rfl) B.len boot_len (pa_cons (pv 1) pa_nil)) pe_int) pa_nil))) pa_nil)) rfl))
      (pss_cons (ps_cut (ps_set (i := 4) nd rfl (.inl rfl) (pe_call GF hr2 rfl gF kF bF .nil pass0 (pa_cons (pv 0) (pa_cons (pe_lst (pa_cons pe_str (pa_cons pe_str (pa_cons pe_str (pa_cons pe_str (pa_cons pe_str (pa_cons pe_str (pa_cons pe_str (pa_cons pe_str (pa_cons pe_str (pa_cons pe_str (pa_cons pe_str (pa_cons pe_str pa_nil))))))))))))) pa_nil)))))
      (pss_cons (ps_cut (ps_if (pt_cmpR op_lt (pv 2) pe_int (nomark _)) (pss_one (ps_ret (pe_op op_add_str (pe_op op_add_str (pe_slice sl_str (pv 1) po_none (po_some (pv 3))) (pv 4)) (pe_slice sl_str (pv 1) (po_some (pe_op op_add (pv 3) (pv 2))) po_none)))) pss_nil))
      (pss_one (ps_ret (pe_call GW hr3 rfl gW kW bW .nil pass0 (pa_cons (pv 0) (pa_cons (pv 1) (pa_cons (pe_ifExp (pt_cmpR op_eq (pv 2) pe_int (nomark _)) pe_str pe_str) pa_nil))))))))), ?_⟩
    have tz : t.length ≤ sizeLine := Nat.le_trans tl (by decide)
    refine ⟨fun σ' H' => ∃ m k : Int, σ' = [some (.ref l), some (.str t), some (.int m), some (.int k), none] ∧ Kept l H H' ∧ Urn H' l, ?_, ?_⟩
    · refine ⟨_, rfl, l, 6, rfl, hU, by decide, by decide, fun H6 b k6 u6 b0 b1 => ?_⟩
      refine ⟨_, rfl, _, rfl, _, t.length, rfl, ⟨tz, rfl⟩, (t.length : Int), 1, rfl, rfl, l, _, rfl, u6, by omega, by omega, fun H7 c k7 u7 c0 c1 => ⟨_, _, rfl, b, c, rfl, k6.trans k7, u7⟩⟩
    rintro _ H1 ⟨m, k, rfl, k1, u1⟩
    refine ⟨fun σ' H' => ∃ x : Str, σ' = [some (.ref l), some (.str t), some (.int m), some (.int k), some (.str x)] ∧ plnS x ∧ x.length ≤ 1 ∧ Kept l H H' ∧ Urn H' l, ?_, ?_⟩
    · refine ⟨_, rfl, (show 12 ≤ sizeLine by decide), fun p hp => ?_⟩
      have s2 := Same.new (o := .lst (signsB.map V.str)) hp
      have np : p ≠ l := fun z => by
        obtain ⟨ys, hz⟩ := urn_lst u1
        rw [z, hz] at hp
        cases hp
      refine ⟨l, p, _, rfl, u1.same s2, upd_same, np, (show 0 < 12 by decide), (show 12 < 1000 by decide), fun H7 i v hv k7 u7 => ?_⟩
      obtain ⟨x, hx, rfl⟩ : ∃ y, signsB[i]? = some y ∧ v = .str y := by
        replace hv : (signsB.map V.str)[i]? = some v := hv
        rw [List.getElem?_map] at hv
        cases e : signsB[i]? with
        | none => rw [e] at hv; cases hv
        | some y => rw [e] at hv; exact ⟨y, rfl, (Option.some.inj hv).symm⟩
      obtain ⟨a, b⟩ := signs_ok x (List.mem_of_getElem? hx)
      exact ⟨x, rfl, a, b, k1.trans (s2.kept.trans k7), u7⟩
    rintro _ H2 ⟨x, rfl, xp, xl, k2, u2⟩
    refine ⟨fun σ' H' => σ' = [some (.ref l), some (.str t), some (.int m), some (.int k), some (.str x)] ∧ H' = H2, ?_, ?_⟩
    · refine ⟨_, rfl, _, _, rfl, rfl, _, rfl, ?_⟩
      by_cases c : m < 2
      · rw [decide_eq_true c]
        have c1 := L2.cutS_length t none (some k)
        have c2 := L2.cutS_length t (some (k + m)) none
        refine iteT ⟨_, rfl, _, rfl, k, rfl, t, rfl, tz, _, rfl, _, _, rfl, rfl, Nat.le_trans (show _ ≤ 4001 by omega) (by decide), _, rfl, _, rfl, _, rfl, k, m, rfl, rfl, _, rfl, rd_no ⟨t, rfl, tz, _, _, rfl, rfl, ?_, ?_⟩⟩
        · rw [cat_len]
          exact Nat.le_trans (show _ ≤ 8001 by omega) (by decide)
        · refine q H2 _ k2 u2 (cat_pln (cat_pln (cut_pln tp _ _) xp) (cut_pln tp _ _)) ?_
          rw [cat_len, cat_len]
          omega
      · rw [decide_eq_false c]
        exact iteF ⟨rfl, rfl⟩
    rintro _ _ ⟨rfl, rfl⟩
    refine ⟨_, rfl, _, rfl, _, rfl, rfl, _, rfl, ?_⟩
    refine ite2 (fun _ => ?_) (fun _ => ?_)
    · exact ⟨l, t, "\n", rfl, u2, tp, tl, .inr rfl, fun H' x' k' u' p' l' => q H' x' (k2.trans k') u' p' l'⟩
    · exact ⟨l, t, " ", rfl, u2, tp, tl, .inl rfl, fun H' x' k' u' p' l' => q H' x' (k2.trans k') u' p' l'⟩
end
end Ca
set_option Elab.async false
set_option linter.all false
set_option maxRecDepth 100000
set_option maxHeartbeats 8000000
namespace Ca
open PySem L2
/-! ### a row, read from any line -/
def WordsAre (P : Str → PyData → Prop) (ws : List Str) (es : List PyData) : Prop := es.length = ws.length ∧ ∀ (j : Nat) (w : Str) (e : PyData), ws[j]? = some w → es[j]? = some e → P w e
theorem WordsAre.nil {P : Str → PyData → Prop} : WordsAre P [] [] := ⟨rfl, fun j w e h => by simp at h⟩
theorem WordsAre.snoc {P : Str → PyData → Prop} {ws : List Str} {es : List PyData} {i : Nat} {w : Str} {e : PyData} (h : WordsAre P (ws.take i) es) (hw : ws[i]? = some w) (p : P w e) : WordsAre P (ws.take (i + 1)) (es ++ [e]) := by
  obtain ⟨h1, h2⟩ := h
  have hi : i < ws.length := by
    have := List.getElem?_eq_some_iff.mp hw
    exact this.1
  have lt : (ws.take i).length = i := by rw [List.length_take]; omega
  have et : ws.take (i + 1) = ws.take i ++ [w] := by rw [List.take_succ, hw]; rfl
  rw [lt] at h1
  rw [et]
  refine ⟨by rw [List.length_append, List.length_append, h1, lt]; rfl, fun j w' e' a b => ?_⟩
  by_cases hj : j < i
  · rw [List.getElem?_append_left (by rw [lt]; exact hj)] at a
    rw [List.getElem?_append_left (by rw [h1]; exact hj)] at b
    exact h2 j w' e' a b
  · rw [List.getElem?_append_right (by rw [lt]; omega), lt] at a
    rw [List.getElem?_append_right (by rw [h1]; omega), h1] at b
    match hz : j - i with
    | 0 =>
      rw [hz] at a b
      cases a
      cases b
      exact p
    | z + 1 =>
      rw [hz] at a
      simp at a
def pairW (es : List PyData) (i : Nat) : PyData := .tuple [es.getD (2 * i) .none, es.getD (2 * i + 1) .none]
theorem pairs_succ (es : List PyData) (m : Nat) : pairsD es (m + 1) = pairsD es m ++ [pairW es m] := by
  unfold pairsD
  rw [List.range_succ, List.map_append]
  rfl
theorem pairs_ints (ps : List (Int × Int)) : pairsD ((intsOf ps).map PyData.int) ps.length = ps.map strD := by
  apply List.ext_getElem?
  intro i
  unfold pairsD
  rw [List.getElem?_map, List.getElem?_map]
  by_cases h : i < ps.length
  · obtain ⟨a, b⟩ := intsOf_get ps i h
    rw [List.getElem?_range h, List.getElem?_eq_getElem h]
    simp only [Option.map_some]
    rw [List.getD_eq_getElem?_getD, List.getD_eq_getElem?_getD, List.getElem?_map, List.getElem?_map, a, b]
    rfl
  · rw [List.getElem?_eq_none (by rw [List.length_range]; omega), List.getElem?_eq_none (by omega)]
    rfl
/-- what is known of a word and what it tells -/
def Tells5 (w : Str) (e : PyData) : Prop := (e = .none ∨ ∃ n, e = .int n) ∧ ∀ n : Int, n.natAbs ≤ 10000 → w = intS n → e = .int n
theorem exact_ints {P : Str → PyData → Prop} (hP : ∀ w e, P w e → ∀ n : Int, n.natAbs ≤ 10000 → w = intS n → e = .int n) {ns : List Int} {es : List PyData} (hn : ∀ n ∈ ns, n.natAbs ≤ 10000) (h : WordsAre P (ns.map intS) es) : es = ns.map PyData.int := by
  obtain ⟨h1, h2⟩ := h
  rw [List.length_map] at h1
  apply List.ext_getElem?
  intro i
  by_cases hi : i < ns.length
  · have he : i < es.length := by omega
    rw [List.getElem?_map, List.getElem?_eq_getElem hi, List.getElem?_eq_getElem he]
    have p := h2 i (intS ns[i]) es[i] (by rw [List.getElem?_map, List.getElem?_eq_getElem hi]; rfl) (List.getElem?_eq_getElem he)
    rw [hP _ _ p ns[i] (hn _ (List.getElem_mem hi)) rfl]
    rfl
  · rw [List.getElem?_eq_none (by omega), List.getElem?_eq_none (by rw [List.length_map]; omega)]
theorem num_at {es : List PyData} (h : ∀ e ∈ es, e = .none ∨ ∃ n, e = .int n) (i : Nat) : es.getD i .none = .none ∨ ∃ n, es.getD i .none = .int n := by
  rw [List.getD_eq_getElem?_getD]
  cases e : es[i]? with
  | none => exact .inl rfl
  | some d => exact h d (List.mem_of_getElem? e)
theorem noL_num {d : PyData} (h : d = .none ∨ ∃ n, d = .int n) : noL d = true := by
  rcases h with rfl | ⟨n, rfl⟩ <;> rfl
theorem noL_pair {es : List PyData} (h : ∀ e ∈ es, e = .none ∨ ∃ n, e = .int n) (i : Nat) : noL (pairW es i) = true := by
  unfold pairW
  simp only [noL, noLs]
  rw [noL_num (num_at h _), noL_num (num_at h _)]
  rfl
theorem noLs_pairs {es : List PyData} (h : ∀ e ∈ es, e = .none ∨ ∃ n, e = .int n) (m : Nat) : noLs (pairsD es m) = true := by
  have key : ∀ ds : List PyData, (∀ d ∈ ds, noL d = true) → noLs ds = true := fun ds => by
    induction ds with
    | nil => exact fun _ => rfl
    | cons d ds ih =>
      intro hh
      simp only [noLs]
      rw [hh d (List.mem_cons_self ..), ih fun x hx => hh x (List.mem_cons_of_mem _ hx)]
      rfl
  refine key _ fun d hd => ?_
  unfold pairsD at hd
  obtain ⟨i, _, rfl⟩ := List.mem_map.mp hd
  exact noL_pair h i
/-- a row as such a line tells it -/
def rowW (w1 : Str) (es : List PyData) (k : Nat) : PyData := .tuple [.str w1, .tuple (pairsD es k), pairW es k]
theorem rowW_exact {P : Str → PyData → Prop} (hP : ∀ w e, P w e → ∀ n : Int, n.natAbs ≤ 10000 → w = intS n → e = .int n) {r : Rw} {m : Nat} {ws : List Str} {es : List PyData} {w1 : Str} {k : Nat} (ok : isRowD (rowD r) m = true) (hc : ws = [("row" : Str), r.name] ++ wordsOf (r.parts ++ [r.bd]))
    (h1 : ws[1]? = some w1) (h : WordsAre P (ws.drop 2) es) (hk : es.length / 2 = k + 1) : rowW w1 es k = rowD r := by
  subst hc
  have e1 : w1 = r.name := (Option.some.inj h1).symm
  have ed : ([("row" : Str), r.name] ++ wordsOf (r.parts ++ [r.bd])).drop 2 = (intsOf (r.parts ++ [r.bd])).map intS := by rw [← words_ints]; rfl
  rw [ed] at h
  have ee := exact_ints hP (intsOf_small ok) h
  have hp := pairs_ints (r.parts ++ [r.bd])
  rw [← ee, List.length_append] at hp
  have hl : es.length = 2 * (r.parts.length + 1) := by rw [ee, List.length_map, intsOf_len, List.length_append]; rfl
  have kk : k = r.parts.length := by omega
  have e2 : pairsD es (k + 1) = (r.parts ++ [r.bd]).map strD := by rw [kk]; exact hp
  rw [pairs_succ, List.map_append] at e2
  obtain ⟨a, b⟩ := List.append_inj' e2 rfl
  unfold rowW
  rw [e1, a, List.cons.inj b |>.1]
  rfl
def spRowAny (K : PySem.W.Frag) : Sp := fun vs H Q _ => ∃ line : Str, vs = [.str line] ∧ plnS line ∧ line.length ≤ 5000 ∧
  ∀ H' z d, Same H H' → Dq K H' z d → noL d = true → (∀ r m, isRowD (rowD r) m = true → m ≤ 3 → line = lineS r → d = rowD r) → Q z H'
section
variable {P : Program} {w : World} {K : PySem.W.Frag} {mg : Str → Option Value} {base : Heap}
abbrev NRi5 : List Str := ["line", "words", "ends", "stretches", "word", "at"]
theorem scRowIn5 : FnScope NRi5 ["line"] (defScope sRowIn) := ⟨rfl, rfl, rfl, by decide +kernel, rfl, by decide +kernel, by decide +kernel⟩
theorem ok_rowAny {f fN : Addr} {fd fdN : FuncData} (F : FnT K "row_in" sRowIn f fd) (B : Bn mg) (mrng : mg "range" = none)
    (gN : mg "integer_in" = some (.ref fN)) (GN : FnOk P w K mg base CX0 1 fN fdN ["word"] spIntAny) (kN : PySem.W.keepIn K (.ref fN) = true) (bN : Binds K fdN ["word"] []) :
    FnOk P w K mg base CX0 2 f fd ["line"] (spRowAny K) := by
  refine F.ok scRowIn5 (fun vs H Q E h => ?_) (fun cdv A outer s H vs Q E hr h => ?_)
  · obtain ⟨line, rfl, _⟩ := h
    rfl
  · obtain ⟨line, rfl, al, ll, q⟩ := h
    have nd := scRowIn5.nd
    refine ⟨_, PSs.nox (pss_cons (ps_set (i := 1) nd rfl (.inl rfl) (pe_split (pv 0) pe_str))
      (pss_cons (ps_if (pt_cmpR op_lt (pe_callB call_len (by rfl) B.len boot_len (pa_cons (pv 1) pa_nil)) pe_int (nomark _)) (pss_one (ps_ret pe_non)) pss_nil)
      (pss_cons (ps_set (i := 2) nd rfl (.inr rfl) (pe_lc (own := [("word", 4)]) (g := gName 4) (tt := tYes) rfl nd (pi_list (pe_slice sl_list (pv 1) (po_some pe_int) po_none))
        (blkOk_by (own := [("word", 4)]) (N := NRi5) (sc := defScope sRowIn) (by decide +kernel)) (fun _ _ _ _ _ => pg_name (i := 4) nd rfl (Or.inl rfl)) (fun _ _ _ _ _ => pts_nil)
        (fun _ _ _ _ _ => pe_call GN hr rfl gN kN bN .nil pass0 (pa_cons (pv 4) pa_nil))))
      (pss_cons (ps_setLc (i := 3) (own := [("at", 5)]) (g := gName 5) (tt := tYes) rfl nd rfl rfl (sw_true rfl rfl rfl (by decide +kernel)) (pi_range3 rfl mrng (pa_cons pe_int (pa_cons (pe_op op_sub (pe_callB call_len (by rfl) B.len boot_len (pa_cons (pv 2) pa_nil)) pe_int) (pa_cons pe_int pa_nil))))
        (blkOk_by (own := [("at", 5)]) (N := NRi5) (sc := defScope sRowIn) (by decide +kernel)) (fun _ _ _ _ _ => pg_name (i := 5) nd rfl (Or.inl rfl)) (fun _ _ _ _ _ => pts_nil)
        (fun _ _ _ _ _ => pe_tup (pa_cons (pe_ix (ixL K) (pv 2) (pv 5) (fun _ _ => rfl)) (pa_cons (pe_ix (ixL K) (pv 2) (pe_op op_add (pv 5) pe_int) (fun _ _ => rfl)) pa_nil))))
      (pss_one (ps_ret (pe_tup (pa_cons (pe_ix ix_list (pv 1) pe_int (fun _ _ => rfl)) (pa_cons (pe_callTy call_tuple_of (by rfl) B.tup (by decide +kernel) (pa_cons (pe_slice sl_list (pv 3) po_none (po_some (pe_un un_neg pe_int))) pa_nil))
        (pa_cons (pe_ix ix_list (pv 3) (pe_un un_neg pe_int) (fun _ _ => rfl)) pa_nil)))))))))), ?_⟩
    have two : 2 ≤ sizeLine := by decide
    have hparts := split_parts line " "
    have hmany := split_many line " " (by decide +kernel)
    have hcut : ∀ r m, isRowD (rowD r) m = true → line = lineS r → Txt.split line " " = [("row" : Str), r.name] ++ wordsOf (r.parts ++ [r.bd]) := fun r m ok e => by rw [e]; exact line_cut ok
    refine ⟨_, rfl, ⟨_, rfl⟩, _, _, rfl, rfl, by decide +kernel, Nat.le_trans (Nat.add_le_add_right ll 2) (by decide), fun p1 h1 => ?_⟩
    have s1 := Same.new (o := .lst ((Txt.split line " ").map V.str)) h1
    have e1 : upd H p1 (.lst ((Txt.split line " ").map V.str)) p1 = some (.lst ((Txt.split line " ").map V.str)) := upd_same
    generalize upd H p1 (.lst ((Txt.split line " ").map V.str)) = H1 at s1 e1 ⊢
    generalize Txt.split line " " = ws at hparts hmany hcut e1
    have hl := hmany
    refine ⟨_, rfl, _, ws.length, rfl, .inl ⟨_, SqL.of e1, by rw [List.length_map]⟩, _, _, rfl, rfl, _, rfl, ?_⟩
    by_cases c4 : ((ws.length : Nat) : Int) < 4
    · rw [decide_eq_true c4]
      refine iteT (q H1 .non .none s1 .non rfl fun r m ok hm e => ?_)
      have := congrArg List.length (hcut r m ok e)
      rw [words_ints, List.length_append, List.length_map, intsOf_len, List.length_append] at this
      simp only [List.length_cons, List.length_nil] at this
      omega
    · rw [decide_eq_false c4]
      refine iteF ⟨_, rfl, _, rfl, rd_no ⟨p1, _, rfl, SqL.of e1, fun p2 h2 => ?_⟩⟩
      have ec : cutV (ws.map V.str) (some 2) none = (ws.drop 2).map V.str := by
        rw [show (2 : Int) = ((2 : Nat) : Int) from rfl, cut_drop, List.map_drop]
      rw [ec]
      have s2 := Same.new (o := .lst ((ws.drop 2).map V.str)) h2
      have e2 : upd H1 p2 (.lst ((ws.drop 2).map V.str)) p2 = some (.lst ((ws.drop 2).map V.str)) := upd_same
      generalize upd H1 p2 (.lst ((ws.drop 2).map V.str)) = H2 at s2 e2 ⊢
      refine ⟨p2, rfl, ⟨_, SqL.of e2⟩, fun D hD => ?_⟩
      refine lc_it (walk_list (K := K) (a := p2) (xs := (ws.drop 2).map V.str)) (fun i H' => Same H2 H' ∧ ∃ es : List PyData, H' D = some (.lst (es.map numV)) ∧ WordsAre Tells5 ((ws.drop 2).take i) es) ⟨Same.new hD, [], upd_same, WordsAre.nil⟩ (fun i H' hi p => SqL.of (p.1 _ _ e2)) ?_ ?_
      · rintro i z _ H5 hi ⟨s5, es, bD, we⟩ ⟨rfl, hz⟩
        obtain ⟨x, hx, rfl⟩ : ∃ x, (ws.drop 2)[i]? = some x ∧ z = .str x := by
          replace hz : ((ws.drop 2).map V.str)[i]? = some z := hz
          rw [List.getElem?_map] at hz
          cases e : (ws.drop 2)[i]? with
          | none => rw [e] at hz; cases hz
          | some x => rw [e] at hz; exact ⟨x, rfl, (Option.some.inj hz).symm⟩
        obtain ⟨pa, pl⟩ := hparts x (List.mem_of_mem_drop (List.mem_of_getElem? hx))
        refine ⟨rfl, rdYes ⟨_, rfl, x, rfl, pa al, by omega, fun d hd ex => ⟨_, bD, ?_, fun b o e => ?_, es ++ [d], ?_, we.snoc hx ⟨hd, ex⟩⟩⟩⟩
        · rw [List.length_map, we.1, List.length_take]
          exact Nat.lt_of_le_of_lt (show _ ≤ 5001 by rw [List.length_drop]; omega) (by decide)
        · rw [upd_ne (ne_of_none e hD)]
          exact s5 _ _ e
        · rw [upd_same, List.map_append]
          rfl
      rintro H3 ⟨s3, es, bD, we⟩
      rw [List.length_map, List.take_length] at we
      have el : es.length = ws.length - 2 := by rw [we.1, List.length_drop]
      have num : ∀ e ∈ es, e = .none ∨ ∃ n, e = .int n := fun e he => by
        obtain ⟨j, hj⟩ := List.mem_iff_getElem?.mp he
        have hj2 : j < es.length := (List.getElem?_eq_some_iff.mp hj).1
        have hj3 : j < (ws.drop 2).length := by rw [← we.1]; exact hj2
        exact (we.2 j _ e (List.getElem?_eq_getElem hj3) hj).1
      obtain ⟨k, hk⟩ : ∃ k, es.length / 2 = k + 1 := ⟨es.length / 2 - 1, by omega⟩
      have at_ : ∀ i, i < es.length → (es.map numV)[i]? = some (numV (es.getD i .none)) := fun i hi => by
        rw [List.getElem?_map, List.getD_eq_getElem?_getD, List.getElem?_eq_getElem hi]
        rfl
      -- the stretches
      refine ⟨_, rfl, _, es.length, rfl, .inl ⟨_, SqL.of bD, by rw [List.length_map]⟩, _, _, rfl, rfl, 0, _, 2, es.length / 2, rfl, rg2 (by omega) (by omega), fun E1 hE => ?_⟩
      refine lc_it (walk_rangeC (lo := 0) (c := 2) (n := es.length / 2)) (fun i H' => Same H3 H' ∧ ∃ us, H' E1 = some (.lst us) ∧ us.length = i ∧ DqAll K H' us (pairsD es i)) ⟨Same.new hE, [], upd_same, rfl, .nil⟩ (fun _ _ _ _ => trivial) ?_ ?_
      · rintro i z _ H5 hi ⟨s5, us, bE, lu, du⟩ ⟨rfl, hz⟩
        have hi2 : i < es.length / 2 := hi
        replace hz : z = .int ((2 * i : Nat) : Int) := hz.trans (congrArg V.int (by omega))
        subst hz
        have b5 := s5 _ _ bD
        refine ⟨rfl, rdYes ⟨_, rfl, _, rfl, D, _, _, _, rfl, rfl, SqL.of b5, atI_nat (j := 2 * i) (at_ _ (by omega)), _, rfl, _, rfl, _, _, rfl, rfl, D, _, _, _, rfl, rfl, SqL.of b5, atI_nat (j := 2 * i + 1) (at_ _ (by omega)), two, fun t ht => ?_⟩⟩
        have s6 := Same.new (o := .tup [numV (es.getD (2 * i) .none), numV (es.getD (2 * i + 1) .none)]) ht
        have b6 := s6 _ _ bE
        have kD : ∀ zs : List V, Kept E1 (upd H5 t (.tup [numV (es.getD (2 * i) .none), numV (es.getD (2 * i + 1) .none)])) (upd (upd H5 t (.tup [numV (es.getD (2 * i) .none), numV (es.getD (2 * i + 1) .none)])) E1 (.lst zs)) := fun zs b o n e => by rw [upd_ne n]; exact e
        refine ⟨_, b6, by rw [lu]; exact Nat.lt_of_lt_of_le (show i < 5001 by omega) (by decide), fun b o e => ?_, us ++ [.ref t], upd_same, by rw [List.length_append, lu]; rfl, ?_⟩
        · rw [upd_ne (ne_of_none e hE)]
          exact s6 _ _ (s5 _ _ e)
        · rw [pairs_succ]
          exact (DqAll.but b6 (kD _) (noLs_pairs num i) (du.same s6)).app (.cons (Dq.but b6 (kD _) (noL_pair num i) (.tup (SqT.of upd_same) (.cons (num_dq (num_at num _)) (.cons (num_dq (num_at num _)) .nil)))) .nil)
      rintro H4 ⟨s4, us, bE, lu, du⟩
      rw [hk, pairs_succ] at du
      obtain ⟨ys, z, rfl, dys, dz⟩ := dq_last du
      have s14 := s2.trans (s3.trans s4)
      have e14 := s14 _ _ e1
      obtain ⟨w1, hw1⟩ : ∃ w1, ws[1]? = some w1 := ⟨_, List.getElem?_eq_getElem (by omega : 1 < ws.length)⟩
      have hv1 : (ws.map V.str)[1]? = some (.str w1) := by rw [List.getElem?_map, hw1]; rfl
      obtain ⟨_, pl1⟩ := hparts w1 (List.mem_of_getElem? hw1)
      refine ⟨_, rfl, p1, _, 1, _, rfl, rfl, SqL.of e14, atI_nat (j := 1) hv1, _, rfl, _, rfl, _, rfl, E1, _, rfl, SqL.of bE, fun q1 g1 => ?_⟩
      rw [cut_init4 _ (by simp), List.dropLast_concat]
      have z1 := Same.new (o := .lst ys) g1
      refine ⟨q1, _, rfl, .inl ⟨SqL.of upd_same, fun q2 g2 => ?_⟩⟩
      have z2 := Same.new (o := .tup ys) g2
      refine ⟨_, rfl, _, rfl, E1, _, _, _, rfl, rfl, SqL.of (z2 _ _ (z1 _ _ bE)), atI_last ys z, by show 3 ≤ sizeLine; decide, fun q3 g3 => ?_⟩
      have z3 := Same.new (o := .tup [.str w1, .ref q2, z]) g3
      have z13 := z1.trans (z2.trans z3)
      refine q _ _ (rowW w1 es k) (s1.trans (s14.trans z13)) (.tup (SqT.of upd_same) (.cons (.str _ (by omega)) (.cons (.tup (SqT.of (z3 _ _ upd_same)) (dys.same z13)) (.cons (dz.same z13) .nil)))) ?_ fun r m ok hm e => rowW_exact (fun w e h => h.2) ok (hcut r m ok e) hw1 we hk
      unfold rowW
      simp only [noL, noLs]
      rw [noLs_pairs num k, noL_pair num k]
      rfl
end
end Ca
set_option Elab.async false
set_option linter.all false
set_option maxRecDepth 100000
set_option maxHeartbeats 4000000
namespace Ca
open PySem PySem.Spec PyProof.Rows L2
/-! ### cls(..), the class in a local -/
def tMakeL (i : Nat) (C : Addr) (sp : Sp) (dvs : List V) (E : XK) (t : TA) : TE := fun σ H Q => σ[i]? = some (some (.ref C)) ∧ tMake C sp dvs E t σ H Q
section
variable {X : Cx} {CX : CXT} {k i : Nat} {f C : Addr} {fd : FuncData} {ps : List Str} {sp : Sp} {dvs : List V} {ds : List Value} {E : XK} {x : Str} {p pos : Pos} {e : Expr} {es : List Expr} {t : TA}
theorem pe_makeL (M : Mk X.K C f) (F : FnOk X.prog X.w X.K X.mg X.base CX k f fd ps sp) (hr : Room (k + 1) X.A) (hN : X.N[i]? = some x) (hv : Vis X.env.scope x) (hb : Binds X.K fd ps ds) (hd : Vals dvs ds) (hx : Passes CX X E) (ha : PA X (e :: es) t)
    (hdb : (x == ("__debug__" : Str)) = false := by decide) (hcd : (x == ("__classdict__" : Str)) = false := by decide)
    (he : starEach (e :: es) X.env = (false, eval e X.env) :: starEach es X.env := by rfl) (hpl : (backTo pos (starEach es X.env)).any (·.1) = false := by rfl) : PE X (.Call (.Name x p) (e :: es) [] pos) (tMakeL i C sp dvs E t) := by
  refine ⟨fun pins s σ H Q I h => ?_⟩
  obtain ⟨hs, ht⟩ := h
  refine wpAny_Call_Name_kw (thn ((pe_var (pos := p) hN hv hdb hcd).run pins s σ H (fun v H1 => v = .ref C ∧ H1 = H) I ⟨.ref C, hs, rfl, rfl⟩) fun u s1 ⟨v, H1, I1, r1, q1⟩ => ?_)
  obtain ⟨rfl, rfl⟩ := q1
  cases r1
  refine PySem.W.callWith_K (h₀ := X.base) I1.ok.mod.kin M.kp (thn (ha.run pos pins s1 σ _ _ I1 ht) fun us s2 ⟨vs, H2, I2, r, q⟩ => ⟨I2.kIn, ?_⟩) he hpl
  exact run_make M F hr hb hd hx I2 r q
end
theorem first_len {ns : List Str} (h : Folk ns) : (Txt.join " " (("unknowns" : Str) :: ns)).length ≤ 100000 := by
  have n3 := h.hi
  have nl := names_len ns (folk_names h)
  have j1 := join_le " " (("unknowns" : Str) :: ns)
  rw [← TL.join_eq] at j1
  simp only [List.map_cons, List.sum_cons, List.length_cons] at j1
  have e8 : Str.length "unknowns" = 8 := rfl
  have e1 : Str.length " " = 1 := rfl
  rw [e8, e1] at j1
  omega
end Ca
set_option Elab.async false
set_option linter.all false
set_option maxRecDepth 100000
set_option maxHeartbeats 4000000
namespace Ca
open PySem L2
/-! ### unlike systems have unlike texts -/
theorem intS_inj {a b : Int} (ha : a.natAbs ≤ 10000) (hb : b.natAbs ≤ 10000) (e : intS a = intS b) : a = b := by
  have h1 := (int_reads ha).2
  have h2 := (int_reads hb).2
  rw [e, h2] at h1
  exact (Option.some.inj h1).symm
theorem intS_map_inj : ∀ {xs ys : List Int}, (∀ n ∈ xs, n.natAbs ≤ 10000) → (∀ n ∈ ys, n.natAbs ≤ 10000) → xs.map intS = ys.map intS → xs = ys
  | [], [], _, _, _ => rfl
  | [], _ :: _, _, _, e => by cases e
  | _ :: _, [], _, _, e => by cases e
  | x :: xs, y :: ys, hx, hy, e => by
    rw [List.map_cons, List.map_cons] at e
    obtain ⟨e1, e2⟩ := List.cons.inj e
    rw [intS_inj (hx x (List.mem_cons_self ..)) (hy y (List.mem_cons_self ..)) e1, intS_map_inj (fun n z => hx n (List.mem_cons_of_mem _ z)) (fun n z => hy n (List.mem_cons_of_mem _ z)) e2]
theorem intsOf_inj : ∀ {ps qs : List (Int × Int)}, intsOf ps = intsOf qs → ps = qs
  | [], [], _ => rfl
  | [], q :: qs, e => by
    have : intsOf (q :: qs) = q.1 :: q.2 :: intsOf qs := rfl
    rw [this] at e
    cases e
  | p :: ps, [], e => by
    have : intsOf (p :: ps) = p.1 :: p.2 :: intsOf ps := rfl
    rw [this] at e
    cases e
  | p :: ps, q :: qs, e => by
    have e1 : intsOf (p :: ps) = p.1 :: p.2 :: intsOf ps := rfl
    have e2 : intsOf (q :: qs) = q.1 :: q.2 :: intsOf qs := rfl
    rw [e1, e2] at e
    obtain ⟨a, e⟩ := List.cons.inj e
    obtain ⟨b, e⟩ := List.cons.inj e
    rw [intsOf_inj e]
    obtain ⟨p1, p2⟩ := p
    obtain ⟨q1, q2⟩ := q
    simp only at a b
    rw [a, b]
theorem line_inj {r q : Rw} {m n : Nat} (hr : isRowD (rowD r) m = true) (hq : isRowD (rowD q) n = true) (e : lineS r = lineS q) : r = q := by
  have c := line_cut hr
  rw [e, line_cut hq] at c
  have c2 : ("row" : Str) :: q.name :: wordsOf (q.parts ++ [q.bd]) = ("row" : Str) :: r.name :: wordsOf (r.parts ++ [r.bd]) := c
  obtain ⟨_, c2⟩ := List.cons.inj c2
  obtain ⟨en, ew⟩ := List.cons.inj c2
  rw [words_ints, words_ints] at ew
  have ep := intsOf_inj (intS_map_inj (intsOf_small hq) (intsOf_small hr) ew)
  obtain ⟨e1, e2⟩ := List.append_inj' ep rfl
  obtain ⟨e3, _⟩ := List.cons.inj e2
  cases r
  cases q
  simp only at en e1 e3
  rw [en, e1, e3]
theorem lines_inj {m n : Nat} : ∀ {rs qs : List Rw}, (∀ r ∈ rs, isRowD (rowD r) m = true) → (∀ r ∈ qs, isRowD (rowD r) n = true) → rs.map lineS = qs.map lineS → rs = qs
  | [], [], _, _, _ => rfl
  | [], _ :: _, _, _, e => by cases e
  | _ :: _, [], _, _, e => by cases e
  | r :: rs, q :: qs, hr, hq, e => by
    rw [List.map_cons, List.map_cons] at e
    obtain ⟨e1, e2⟩ := List.cons.inj e
    rw [line_inj (hr r (List.mem_cons_self ..)) (hq q (List.mem_cons_self ..)) e1, lines_inj (fun x z => hr x (List.mem_cons_of_mem _ z)) (fun x z => hq x (List.mem_cons_of_mem _ z)) e2]
theorem page_inj {ns ns' : List Str} {rs rs' : List Rw} (hN : Folk ns) (hL : Lines rs ns.length) (hN' : Folk ns') (hL' : Lines rs' ns'.length) (e : pageS ns rs = pageS ns' rs') : ns = ns' ∧ rs = rs' := by
  have c := page_cut (m := ns.length) (folk_names hN) hL.ok
  rw [e, page_cut (m := ns'.length) (folk_names hN') hL'.ok] at c
  obtain ⟨e1, e2⟩ := List.cons.inj c
  have f := folk_cut (folk_names hN)
  rw [← e1, folk_cut (folk_names hN')] at f
  exact ⟨(List.cons.inj f).2.symm, (lines_inj hL'.ok hL.ok e2).symm⟩
end Ca
set_option Elab.async false
set_option linter.all false
set_option maxRecDepth 100000
set_option maxHeartbeats 4000000
namespace Ca
open PySem PySem.Spec PyProof.Rows L2
/-! ### try: body, except (x1, x2, x3) as n: suite, all that the body raises being of them -/
theorem flying_push {base h : Heap} {l : List Env} {e : Addr} {Z : Obj → Prop} (o : Obj) (x : HandSPX.FlyingZ base l e Z h) : HandSPX.FlyingZ base l e Z (h.push o) := by
  obtain ⟨k1, k2, k3, oe, vs, T, oT, ts, he, hz, hd, h1, hnT, hTe, hT, hdT, h3⟩ := x
  have kp : ∀ b u, h.get? b = some u → (h.push o).get? b = some u := fun _ _ z => Heap.get?_push_of_some _ z
  exact ⟨fun b u z => kp _ _ (k1 b u z), k2, k3.of_keeps fun b u hb hnf => ⟨u, kp _ _ hb, rfl⟩, oe, vs, T, oT, ts, kp _ _ he, hz, hd, h1, hnT, hTe, kp _ _ hT, hdT, h3⟩
/-- a record is no frame -/
theorem rec_apart {X : Cx} {B h : Heap} {a : Addr} {o : Obj} (hf : X.env.frame = some X.env.locals) (ff : h.FunFrames B (X.env :: X.outer)) (e : h.get? a = some o) (dd : ∃ vs, o.data = .fields vs) : a ≠ X.env.locals ∧ a ∉ X.fs := by
  have key : a ∉ frs (X.env :: X.outer) := fun m => by
    obtain ⟨_, u, eu, no⟩ := ff.mem m
    obtain ⟨vs, dv⟩ := dd
    obtain rfl : o = u := Option.some.inj (e.symm.trans eu)
    exact no vs dv
  refine ⟨fun z => key ?_, fun m => key ?_⟩
  · rw [z]
    exact List.mem_filterMap.mpr ⟨_, List.mem_cons_self, hf⟩
  · obtain ⟨v, hv, q⟩ := List.mem_filterMap.mp m
    exact List.mem_filterMap.mpr ⟨v, List.mem_cons_of_mem _ hv, q⟩
/-- behind the suite the name is gone -/
theorem suite_out {X : Cx} {pins : List (Addr × Obj)} {a : Addr} {oe : Obj} {n : Str} {i : Nat} {pos : Pos} {D : Ends} {f : Flow} {s : Shared} (ok : X.Ok) (hN : X.N.Nodup) (hi : X.N[i]? = some n) (hl : X.env.kindOf n = some .local)
    (h : SP (X.suite a ((a, oe) :: (X.pn ++ pins))) [] { nx := fun σ' H' => D.nx (σ'.set i none) H', rt := D.rt, bk := fun σ' H' => D.bk (σ'.set i none) H', ct := fun σ' H' => D.ct (σ'.set i none) H' } f s) :
    wpAny (model X.prog X.w) X.A (do bindName X.env n .none; unbindBehindTheSuite X.env n pos) (fun _ s7 => SP X pins D f s7) X.xe s := by
  cases f with
  | ret u =>
    obtain ⟨v, σ, H, S, rv, w⟩ := h
    exact gone_ok (S.unsuite ok) hN hi hl fun s7 J => ⟨v, _, H, J, rv, w⟩
  | next => obtain ⟨σ, H, S, w⟩ := h; exact gone_ok (S.unsuite ok) hN hi hl fun s7 J => ⟨_, H, J, w⟩
  | brk => obtain ⟨σ, H, S, w⟩ := h; exact gone_ok (S.unsuite ok) hN hi hl fun s7 J => ⟨_, H, J, w⟩
  | cont => obtain ⟨σ, H, S, w⟩ := h; exact gone_ok (S.unsuite ok) hN hi hl fun s7 J => ⟨_, H, J, w⟩
/-- an end of the try's body is one of the try -/
theorem body_out {X : Cx} {pins pn : List (Addr × Obj)} {xe : Value → Shared → Prop} {D : Ends} {f : Flow} {s : Shared} (ok : X.Ok) (h : SP (X.tr (X.pn ++ pins) xe) pn D f s) : SP X pins D f s := by
  cases f with
  | ret u => obtain ⟨v, σ, H, J, rv, w⟩ := h; exact ⟨v, σ, H, J.ofTry ok, rv, w⟩
  | next => obtain ⟨σ, H, J, w⟩ := h; exact ⟨σ, H, J.ofTry ok, w⟩
  | brk => obtain ⟨σ, H, J, w⟩ := h; exact ⟨σ, H, J.ofTry ok, w⟩
  | cont => obtain ⟨σ, H, J, w⟩ := h; exact ⟨σ, H, J.ofTry ok, w⟩
def wAsT (K : PySem.W.Frag) (cs : List Value) (i : Nat) (ts : Addr → Value → Option Addr → TS) (D : Ends) : WX := fun cls d σ H =>
  PySem.W.exmAny K cls cs = some true ∧ ∀ a, H a = none → ts a cls d { nx := fun σ' H' => D.nx (σ'.set i none) H', rt := D.rt, bk := fun σ' H' => D.bk (σ'.set i none) H', ct := fun σ' H' => D.ct (σ'.set i none) H' } (σ.set i (some (.ref a))) H
/-- a name of a class is read in the suite's place -/
theorem name_there {X : Cx} {pins : List (Addr × Obj)} {a : Addr} {oe : Obj} {σ : L2.St} {H : Hp} {s : Shared} {x : Str} {c : Value} {np : Pos} (S : Inv (X.suite a ((a, oe) :: (X.pn ++ pins))) [] σ H s) (hc : Names X x c) {Q E : Value → Shared → Prop} (q : Q c s) :
    wpAny (model X.prog X.w) (X.A.mark (some (.ref a))) (eval (.Name x np) X.env) Q E s := by
  rcases hc with ⟨g, dbg, m | ⟨m, v, nn⟩⟩
  · exact ld_glob (X := X.suite a ((a, oe) :: (X.pn ++ pins))) S g m q dbg
  · exact ld_blt (X := X.suite a ((a, oe) :: (X.pn ++ pins))) S g m v q nn dbg
section
variable {X : Cx} {x1 x2 x3 n : Str} {c1 c2 c3 : Value} {i kk : Nat} {body suite : List Stmt} {b₀ : Stmt} {p1 p2 p3 tpos pos pos' : Pos} {tb : WX → TS} {ts : Addr → Value → Option Addr → TS}
/-- an error of the body, held against the three classes, and the suite -/
theorem three_caught {pins : List (Addr × Obj)} {D : Ends} {u : Value} {s : Shared} {xe : Value → Shared → Prop} (ok : X.Ok) (hs : X.stack = X.env :: X.outer) (hf : X.env.frame = some X.env.locals) (hN : X.N.Nodup) (hi : X.N[i]? = some n) (hln : X.env.kindOf n = some .local)
    (hc1 : Names X x1 c1) (hc2 : Names X x2 c2) (hc3 : Names X x3 c3)
    (hsu : ∀ (a : Addr) (oe : Obj) (cls : Value) (d : Option Addr) (pn : List (Addr × Obj)), Zc cls d oe → (∃ vs, oe.data = .fields vs) → PSs (X.suite a ((a, oe) :: pn)) (b₀ :: suite) (ts a cls d))
    (x : XE (X.tr (X.pn ++ pins) xe) (wAsT X.K [c1, c2, c3] i ts D) u s) :
    wpAny (model X.prog X.w) X.A (noteFrame u X.env) (fun _ s₂ => wpAny (model X.prog X.w) X.A (setFlight u none) (fun _ s₃ =>
      wpAny (model X.prog X.w) X.A (handleBy u X.env [.ExceptHandler (some (.Tuple [.Name x1 p1, .Name x2 p2, .Name x3 p3] kk tpos)) (some n) (b₀ :: suite) pos']) (SP X pins D) X.xe s₃) X.xe s₂) X.xe s := by
  rcases x with ⟨a, B, sI, pins', σ', H', cls, d, rfl, JT, nb, up, sky, na, os, ag, any, yes⟩
  have J := JT.ofTry ok
  refine Sky.land Zc.steady (env := X.env) (outer := X.outer) (by rw [ok.frames, hs]) hf (by rw [← hs]; exact sky) fun g fl upg => ?_
  obtain ⟨og, vg, eg, zg, dg⟩ := fl.there
  have apart := rec_apart hf fl.2.2.1 eg ⟨_, dg⟩
  have Jg : Inv X pins σ' H' { s with heap := g } := J.landed nb fl.1 (up.trans upg) os ag
  have Sg := Jg.suite eg dg na apart.1 apart.2
  have typ : PySem.W.Looks (model X.prog X.w) g (typeOf (.ref a)) cls := fun A Q E s k q => wpAny_typeOf_ref (k _ _ eg) (by rw [zg.1]; exact q)
  refine wpAny_handleBy_cons (codeAny_handlers_test (wpAny_Tuple ?_)) (fun q => nomatch q)
  refine wpAny_items_cons (name_there Sg hc1 (wpAny_items_cons (name_there Sg hc2 (wpAny_items_cons (name_there Sg hc3 (wpAny_items_nil ⟨by size_fits, ?_⟩))))))
  have kp : ∀ q o, g.get? q = some o → (g.push { cls := .type "tuple", data := .seq [c1, c2, c3].toArray }).get? q = some o := fun _ _ z => Heap.get?_push_of_some _ z
  refine (PySem.W.exm_tup3 (M := model X.prog X.w) (Jg.kIn.keeps kp) (typ.keeps kp) (Heap.get?_push_size g rfl) any).here (codeAny_handlers_suite_as ?_)
  refine HandSPX.lands_againZ (flying_push _ fl) fun h fh uph => ?_
  have Jh : Inv X pins σ' H' { s with heap := h } := J.landed nb fh.1 (((up.trans upg).trans (Heap.UpToSlots.of_keeps kp)).trans uph) os ag
  obtain ⟨oh, vh, eh, zh, dh⟩ := fh.there
  refine store_ok (X := X.suite a ((a, oh) :: (X.pn ++ pins))) (v := .ref a) (Jh.suite eh dh na apart.1 apart.2) hN hi (.inl hln) rfl (fun s5 S5 => ?_) (.inr hln)
  exact wpAny_mono ((hsu a oh cls d (X.pn ++ pins) zh ⟨_, dh⟩).run [] s5 _ H' _ S5 (yes a na)) (fun f s6 e6 => suite_out ok hN hi hln e6) fun _ _ z => z.elim
theorem ps_try_as3 (hs : X.stack = X.env :: X.outer) (hf : X.env.frame = some X.env.locals) (hN : X.N.Nodup) (hi : X.N[i]? = some n) (hln : X.env.kindOf n = some .local) (hc1 : Names X x1 c1) (hc2 : Names X x2 c2) (hc3 : Names X x3 c3)
    (hb : ∀ (W : WX) (pn : List (Addr × Obj)) (xe : Value → Shared → Prop), Takes (X.tr pn xe) W → PassesOwn (model X.prog X.w) X.A X.env xe → PSs (X.tr pn xe) body (tb W))
    (hsu : ∀ (a : Addr) (oe : Obj) (cls : Value) (d : Option Addr) (pn : List (Addr × Obj)), Zc cls d oe → (∃ vs, oe.data = .fields vs) → PSs (X.suite a ((a, oe) :: pn)) (b₀ :: suite) (ts a cls d)) :
    PS X (.Try body [.ExceptHandler (some (.Tuple [.Name x1 p1, .Name x2 p2, .Name x3 p3] kk tpos)) (some n) (b₀ :: suite) pos'] [] [] pos) (fun D σ H => tb (wAsT X.K [c1, c2, c3] i ts D) D σ H) := by
  refine ⟨fun pins s σ H D I q => wpAny_Try_except ?_⟩
  have run := (hb (wAsT X.K [c1, c2, c3] i ts D) (X.pn ++ pins) _ (fun u s' x => three_caught (p1 := p1) (p2 := p2) (p3 := p3) (tpos := tpos) (kk := kk) (pos' := pos') I.ok hs hf hN hi hln hc1 hc2 hc3 hsu x) PassesOwn.looking).run [] s σ H D (I.toTry _) q
  refine wpAny_mono run (fun f s1 e1 => ?_) fun _ _ z => z
  have e2 := body_out I.ok e1
  cases f with
  | next => exact wpAny_execs_nil e2
  | _ => exact e2
end
end Ca
set_option Elab.async false
set_option linter.all false
set_option maxRecDepth 100000
set_option maxHeartbeats 4000000
namespace Ca
open PySem PySem.Spec PyProof.Rows L2 HotX
/-! ### errors raised whose context is None, and errors raised where another one is handled -/
section
variable {X : Cx} {C fI : Addr} {f x : Str} {B newId initId : String} {bmB : List Value} {k : Nat} {fd : FuncData} {e : Expr} {ta : TA} {p pos pos2 : Pos}
theorem pmk_errN (FB : ExcBaseFacts B newId initId bmB) (T : ErrC X.K C fI bmB newId f) (G : FnOk X.prog X.w X.K X.mg X.base CX0 k fI fd ["self", f] (spIni X.K bmB f)) (hr : Room (k + 1) X.A) (hb : Binds X.K fd ["self", f] [])
    (hm : X.mg x = some (.ref C)) (ha : PA X [e] ta) (hg : Gl X x := by rfl) (hdb : (x == ("__debug__" : Str)) = false := by decide)
    (he : starEach [e] X.env = (false, eval e X.env) :: starEach [] X.env := by rfl) (hpl : (backTo pos (starEach [] X.env)).any (·.1) = false := by rfl) :
    L2N.PMk X (.Call (.Name x p) [e] [] pos) (tErr C f ta) := by
  intro pins s σ H Q I h
  refine wpAny_Call_Name_kw (ld_glob I hg hm ?_ hdb)
  refine PySem.W.callWith_K (h₀ := X.base) I.ok.mod.kin T.mkc.kC (thn (ha.run pos pins s σ H _ I h) fun us s1 ⟨vs, H1, I1, r1, v, ev, q1⟩ => ?_) he hpl
  subst ev
  cases r1 with
  | @cons _ u _ _ r rn =>
  cases rn
  refine ⟨I1.kIn, ?_⟩
  show wpAny _ _ (call (.ref C) [u]) _ _ _
  obtain ⟨nm, N', qn, bs, bm, hdct, sn, sub, ab, col, dd, k0, k1, k2, k3, k5, hC, hT⟩ := PySem.W.excInit_of I1.kIn T.mkc.xI
  have I2 := mk_new (C := C) I1 [u]
  have hsz : s1.heap.objs.size ≤ s1.heap.objs.size + 1 := Nat.le_succ _
  have na : H1 (s1.heap.objs.size + 1) = none := I1.hok.fresh hsz
  obtain ⟨hp, g, dr, tk, os⟩ := s1
  have kk : ∀ b o, hp.get? b = some o → ((hp.push (PySem.W.kdv_tup [u])).push (PySem.HandSPX.excO C hp.objs.size)).get? b = some o := fun b o z => Heap.get?_push_of_some _ (Heap.get?_push_of_some _ z)
  refine wpAny_call (PySem.HandSPX.call_own FB hT hC (PySem.W.looks_findIn I1.kIn T.mkc.iI) (fun self => PySem.W.bind_fn I1.kIn self T.mkc.tI) (by show 1 ≤ sizeLine; decide) ?_)
  have bd := hb _ [.ref (hp.objs.size + 1), u] I2.kIn rfl
  refine codeAny_mono (G.run _ X.stack _ _ _ _ [.ref (hp.objs.size + 1), v] (fun z H' => z = .non ∧ ∃ d, H' (hp.objs.size + 1) = some (exo (hp.objs.size + 1) C (some d)) ∧ H' d = some (exd d [(f, v)]) ∧ H1 d = none ∧ Q (.ref C) (some d) (upd (del H' (hp.objs.size + 1)) d (.xd [(f, v)])))
    (fun _ _ _ => False) (hr.make C [u] []) (I2.env0.make C [u] []) bd (.cons rfl (.cons r .nil)) ⟨_, C, v, rfl, T.st, upd_same, fun d nd dne => ⟨rfl, d, upd_same, ?_, ?_, ?_⟩⟩) fun res s' z => ?_
  · rw [upd_ne dne, upd_same]
  · rw [upd_ne dne] at nd
    exact nd
  · rw [upd_ne dne] at nd
    refine q1 d _ nd (fun b o eb => ?_) upd_same
    have n1 := ne_of_none eb na
    have n2 := ne_of_none eb nd
    rw [upd_ne n2, del_ne n1, upd_ne n1, upd_ne n2, upd_ne n1]
    exact eb
  · cases res with
    | error er => exact z.elim
    | ok fl =>
      cases fl with
      | ret uu =>
        obtain ⟨z0, H2, os2, bare2, un2, hok2, rv, ev, d, ea, ed, hd1, q2⟩ := z
        subst ev
        obtain ⟨h2, g2, d2, t2, os'⟩ := s'
        obtain ⟨t0, G', J, kG, ge, hoe, na'⟩ := mk_end0 (d2 := d2) (t2 := t2) I1 hsz kk un2 hok2 os2 bare2 ea ed hd1
        exact ⟨rv, ⟨hp.objs.size + 1, _, _, ⟨G', g2, d2, t2, os'⟩, _, .ref C, some d, rfl, J, kG, ge, hoe, ⟨rfl, rfl, fun vs hv => by cases hv; rfl⟩, rfl, rfl, na', rfl, bare2, raises_own T.exC T.tyC, q2⟩⟩
      | next => exact False.elim z
      | brk => exact False.elim z
      | cont => exact False.elim z
theorem ps_errN {W : WX} (FB : ExcBaseFacts B newId initId bmB) (T : ErrC X.K C fI bmB newId f) (G : FnOk X.prog X.w X.K X.mg X.base CX0 k fI fd ["self", f] (spIni X.K bmB f)) (hr : Room (k + 1) X.A) (hb : Binds X.K fd ["self", f] [])
    (hm : X.mg x = some (.ref C)) (tk : L2N.Takes X W) (ha : PA X [e] ta) (hc : X.calm = true := by rfl) (hg : Gl X x := by rfl) (hdb : (x == ("__debug__" : Str)) = false := by decide)
    (he : starEach [e] X.env = (false, eval e X.env) :: starEach [] X.env := by rfl) (hpl : (backTo pos (starEach [] X.env)).any (·.1) = false := by rfl) :
    PS X (.Raise (some (.Call (.Name x p) [e] [] pos)) none pos2) (fun _ σ H => tErr C f ta σ H fun cls d H' => W cls d σ H') :=
  L2N.ps_raise hc tk (pmk_errN FB T G hr hb hm ha hg hdb he hpl)
/-- C(e) while another error is handled -/
theorem pmk_errH (FB : ExcBaseFacts B newId initId bmB) (T : ErrC X.K C fI bmB newId f) (G : L2H.FnH X.prog X.w X.K X.mg X.base CX0 k fI fd ["self", f] (spIni X.K bmB f)) (hr : L2H.RoomH (k + 1) X.A) (hc : L2H.HotC X) (hb : Binds X.K fd ["self", f] [])
    (hm : X.mg x = some (.ref C)) (ha : PA X [e] ta) (hg : Gl X x := by rfl) (hdb : (x == ("__debug__" : Str)) = false := by decide)
    (he : starEach [e] X.env = (false, eval e X.env) :: starEach [] X.env := by rfl) (hpl : (backTo pos (starEach [] X.env)).any (·.1) = false := by rfl) :
    L2H.PMk5 X (.Call (.Name x p) [e] [] pos) (tErr C f ta) := by
  intro pins s σ H Q I h
  obtain ⟨pn, hot, hpn⟩ := hc
  refine wpAny_Call_Name_kw (ld_glob I hg hm ?_ hdb)
  refine PySem.W.callWith_K (h₀ := X.base) I.ok.mod.kin T.mkc.kC (thn (ha.run pos pins s σ H _ I h) fun us s1 ⟨vs, H1, I1, r1, v, ev, q1⟩ => ?_) he hpl
  subst ev
  cases r1 with
  | @cons _ u _ _ r rn =>
  cases rn
  refine ⟨I1.kIn, ?_⟩
  show wpAny _ _ (call (.ref C) [u]) _ _ _
  obtain ⟨nm, N', qn, bs, bm, hdct, sn, sub, ab, col, dd, k0, k1, k2, k3, k5, hC, hT⟩ := PySem.W.excInit_of I1.kIn T.mkc.xI
  have I2 := mk_new (C := C) I1 [u]
  have hsz : s1.heap.objs.size ≤ s1.heap.objs.size + 1 := Nat.le_succ _
  have na : H1 (s1.heap.objs.size + 1) = none := I1.hok.fresh hsz
  obtain ⟨hp, g, dr, tk, os⟩ := s1
  have kk : ∀ b o, hp.get? b = some o → ((hp.push (PySem.W.kdv_tup [u])).push (PySem.HandSPX.excO C hp.objs.size)).get? b = some o := fun b o z => Heap.get?_push_of_some _ (Heap.get?_push_of_some _ z)
  refine wpAny_call (PySem.HandSPX.call_own FB hT hC (PySem.W.looks_findIn I1.kIn T.mkc.iI) (fun self => PySem.W.bind_fn I1.kIn self T.mkc.tI) (by show 1 ≤ sizeLine; decide) ?_)
  have bd := hb _ [.ref (hp.objs.size + 1), u] I2.kIn rfl
  have P1 := I2.pin pn (List.mem_append_left _ hpn)
  have hpin := (⟨P1.1, P1.2.1, fun hmm => (List.mem_cons.mp (I2.stkSub pn.1 hmm)).elim P1.2.2.1 P1.2.2.2.1, P1.2.2.2.2⟩ : L2H.PinOk X.stack _ _ pn)
  refine codeAny_mono (G.run _ X.stack _ _ _ _ [.ref (hp.objs.size + 1), v] (fun z H' => z = .non ∧ ∃ d, H' (hp.objs.size + 1) = some (exo (hp.objs.size + 1) C (some d)) ∧ H' d = some (exd d [(f, v)]) ∧ H1 d = none ∧ Q (.ref C) (some d) (upd (del H' (hp.objs.size + 1)) d (.xd [(f, v)])))
    (fun _ _ _ => False) pn (hr.make C [u] []) ⟨hot.1, hot.2⟩ hpin (I2.env0.make C [u] []) bd (.cons rfl (.cons r .nil)) ⟨_, C, v, rfl, T.st, upd_same, fun d nd dne => ⟨rfl, d, upd_same, ?_, ?_, ?_⟩⟩) fun res s' z => ?_
  · rw [upd_ne dne, upd_same]
  · rw [upd_ne dne] at nd
    exact nd
  · rw [upd_ne dne] at nd
    refine q1 d _ nd (fun b o eb => ?_) upd_same
    have n1 := ne_of_none eb na
    have n2 := ne_of_none eb nd
    rw [upd_ne n2, del_ne n1, upd_ne n1, upd_ne n2, upd_ne n1]
    exact eb
  · cases res with
    | error er => exact z.elim
    | ok fl =>
      cases fl with
      | ret uu =>
        obtain ⟨z0, H2, os2, bare2, un2, hok2, rv, ev, d, ea, ed, hd1, q2⟩ := z
        subst ev
        obtain ⟨h2, g2, d2, t2, os'⟩ := s'
        obtain ⟨t0, G', J, kG, ge, hoe, na'⟩ := mk_end0 (d2 := d2) (t2 := t2) I1 hsz kk un2 hok2 os2 bare2 ea ed hd1
        refine ⟨rv, ⟨hp.objs.size + 1, _, _, ⟨G', g2, d2, t2, os'⟩, _, .ref C, some d, rfl, J, kG, ge, hoe, ⟨rfl, rfl, fun vs hv => by cases hv; rfl⟩, rfl, rfl, na', rfl, bare2, raises_own T.exC T.tyC, q2⟩, fun a oe vs ea2 hg2 hd2 => ?_⟩
        cases ea2
        have hg3 : h2.get? (hp.objs.size + 1) = some oe := hg2
        rw [hoe] at hg3
        cases hg3
        cases hd2
        show (4 : Nat) < 6
        decide
      | next => exact False.elim z
      | brk => exact False.elim z
      | cont => exact False.elim z
end
/-! ### their __init__ there -/
section
variable {P : Program} {w : World} {K : PySem.W.Frag} {mg : Str → Option Value} {base : Heap} {B : String} {bmB : List Value}
theorem okH_given {qn : Str} {p1 p2 q1 q2 q3 q4 : Pos} {fa : Addr} {fd : FuncData} (SF : StoreFacts B bmB "object.__setattr__" "object") (F : FunD K "__init__" qn (iA "given" p1 p2) (iB "given" q1 q2 q3 q4) (iS "given") [] [] fa fd) :
    L2H.FnH P w K mg base CX0 1 fa fd ["self", "given"] (spIni K bmB "given") := by
  obtain ⟨oc, od, dV, kV, doc, pm, an, cdv, ct, osl, rfl, lk, hcd, _, _⟩ := F.ex
  refine L2H.fn_ofH lk hcd scG (fun vs H Q E h => ?_) (fun A outer s H vs Q E p hot hr h => ?_)
  · obtain ⟨a, C, v, rfl, _⟩ := h
    rfl
  · obtain ⟨a, C, v, rfl, T, ea, q⟩ := h
    exact ⟨_, pss_one (ps_sto SF (pv 0) (pv 1)), _, rfl, _, rfl, a, C, rfl, T, ea, fun d n ne => q d n ne⟩
theorem okH_index {qn : Str} {p1 p2 q1 q2 q3 q4 : Pos} {fa : Addr} {fd : FuncData} (SF : StoreFacts B bmB "object.__setattr__" "object") (F : FunD K "__init__" qn (iA "index" p1 p2) (iB "index" q1 q2 q3 q4) (iS "index") [] [] fa fd) :
    L2H.FnH P w K mg base CX0 1 fa fd ["self", "index"] (spIni K bmB "index") := by
  obtain ⟨oc, od, dV, kV, doc, pm, an, cdv, ct, osl, rfl, lk, hcd, _, _⟩ := F.ex
  refine L2H.fn_ofH lk hcd scI (fun vs H Q E h => ?_) (fun A outer s H vs Q E p hot hr h => ?_)
  · obtain ⟨a, C, v, rfl, _⟩ := h
    rfl
  · obtain ⟨a, C, v, rfl, T, ea, q⟩ := h
    exact ⟨_, pss_one (ps_sto SF (pv 0) (pv 1)), _, rfl, _, rfl, a, C, rfl, T, ea, fun d n ne => q d n ne⟩
end
/-- an error of the package over ValueError, as an except suite can raise it -/
structure ErrH (P : Program) (w : World) (K : PySem.W.Frag) (mg : Str → Option Value) (base : Heap) (C fI : Addr) (fd : FuncData) (f x : Str) : Prop where
  T : ErrC K C fI veT "ValueError.__new__" f
  G : L2H.FnH P w K mg base CX0 1 fI fd ["self", f] (spIni K veT f)
  b : Binds K fd ["self", f] []
  g : mg x = some (.ref C)
section
variable {X : Cx} {C fI : Addr} {fd : FuncData} {f x : Str} {e : Expr} {ta : TA} {p pos pos2 : Pos} {W : WX}
theorem ps_errXN (Ex : ErrX X.prog X.w X.K X.mg X.base C fI fd f x) (hr : Room 2 X.A) (tk : L2N.Takes X W) (ha : PA X [e] ta) (hc : X.calm = true := by rfl) (hg : Gl X x := by rfl) (hdb : (x == ("__debug__" : Str)) = false := by decide)
    (he : starEach [e] X.env = (false, eval e X.env) :: starEach [] X.env := by rfl) (hpl : (backTo pos (starEach [] X.env)).any (·.1) = false := by rfl) :
    PS X (.Raise (some (.Call (.Name x p) [e] [] pos)) none pos2) (fun _ σ H => tErr C f ta σ H fun cls d H' => W cls d σ H') :=
  ps_errN PySem.F.excBase_ValueError Ex.T Ex.G hr Ex.b Ex.g tk ha hc hg hdb he hpl
/-- raise C(e) from None, in an except suite -/
theorem ps_errF {j : Nat} {cpos : Pos} (Ex : ErrH X.prog X.w X.K X.mg X.base C fI fd f x) (hr : L2H.RoomH 2 X.A) (hc : L2H.HotC X) (tk : L2.Takes X W) (ha : PA X [e] ta) (hg : Gl X x := by rfl) (hdb : (x == ("__debug__" : Str)) = false := by decide)
    (he : starEach [e] X.env = (false, eval e X.env) :: starEach [] X.env := by rfl) (hpl : (backTo pos (starEach [] X.env)).any (·.1) = false := by rfl) :
    PS X (.Raise (some (.Call (.Name x p) [e] [] pos)) (some (.Constant .none j cpos)) pos2) (fun _ σ H => tErr C f ta σ H fun cls d H' => W cls d σ H') :=
  L2H.ps_raiseHN hc tk (pmk_errH PySem.F.excBase_ValueError Ex.T Ex.G hr hc Ex.b Ex.g ha hg hdb he hpl)
end
/-! ### try: body, except (x1, x2): suite that may raise; all that the body raises is of them -/
def wTwo (K : PySem.W.Frag) (cs : List Value) (ts : Addr → Value → Option Addr → TS) (D : Ends) : WX := fun cls d σ H => PySem.W.exmAny K cls cs = some true ∧ ∀ a, H a = none → ts a cls d D σ H
theorem name_thereX {X : Cx} {pins : List (Addr × Obj)} {a : Addr} {oe : Obj} {σ : L2.St} {H : Hp} {s : Shared} {x : Str} {c : Value} {np : Pos} (S : Inv (X.suite a ((a, oe) :: (X.pn ++ pins))) [] σ H s) (hc : Names X x c) {Q E : Value → Shared → Prop} (q : Q c s) :
    wpAny (model X.prog X.w) (X.A.mark (some (.ref a))) (eval (.Name x np) X.env) Q E s := name_there S hc q
section
variable {X : Cx} {x1 x2 : Str} {c1 c2 : Value} {kk : Nat} {body suite : List Stmt} {b₀ : Stmt} {p1 p2 tpos pos pos' : Pos} {tb : WX → TS} {ts : Addr → Value → Option Addr → TS} {Wout : WX}
theorem ps_try_2X (hs : X.stack = X.env :: X.outer) (hf : X.env.frame = some X.env.locals) (hc1 : Names X x1 c1) (hc2 : Names X x2 c2) (hpa : ∀ hd : Option Value, PassesOwnAt (model X.prog X.w) (X.A.mark hd) X.A X.env X.xe) (tk : L2.Takes X Wout)
    (hb : ∀ (W : WX) (pn : List (Addr × Obj)) (xe : Value → Shared → Prop), L2N.Takes (X.tr pn xe) W → PassesOwn (model X.prog X.w) X.A X.env xe → PSs (X.tr pn xe) body (tb W))
    (hsu : ∀ (a : Addr) (oe : Obj) (cls : Value) (d : Option Addr) (pn : List (Addr × Obj)), L2N.Zn cls d oe → (∃ vs, oe.data = .fields vs) → L2.Takes (L2H.suiteX X a ((a, oe) :: pn)) Wout → L2H.HotC (L2H.suiteX X a ((a, oe) :: pn)) →
      PSs (L2H.suiteX X a ((a, oe) :: pn)) (b₀ :: suite) (ts a cls d)) :
    PS X (.Try body [.ExceptHandler (some (.Tuple [.Name x1 p1, .Name x2 p2] kk tpos)) none (b₀ :: suite) pos'] [] [] pos) (fun D σ H => tb (wTwo X.K [c1, c2] ts D) D σ H) := by
  refine ⟨fun pins s σ H D I h => ?_⟩
  have ok := I.ok
  have hfr : X.A.frames = some (X.env :: X.outer) := by rw [ok.frames, hs]
  have notFr : ∀ {B h : Heap} {a : Addr} {o : Obj} {vs : Array Value}, h.FunFrames B (X.env :: X.outer) → h.get? a = some o → o.data = .fields vs → a ∉ frs (X.env :: X.outer) := fun {B h a o vs} ff e dd hm => by
    obtain ⟨_, o', e', hnf⟩ := ff.mem hm
    rw [e] at e'; cases e'
    exact hnf _ dd
  refine wpAny_Try_except ?_
  refine wpAny_mono ((hb (wTwo X.K [c1, c2] ts D) (X.pn ++ pins) (fun e s₁ => wpAny (model X.prog X.w) X.A (noteFrame e X.env) (fun _ s₂ => wpAny (model X.prog X.w) X.A (setFlight e none) (fun _ s₃ =>
    wpAny (model X.prog X.w) X.A (handleBy e X.env [.ExceptHandler (some (.Tuple [.Name x1 p1, .Name x2 p2] kk tpos)) none (b₀ :: suite) pos']) (SP X pins D) X.xe s₃) X.xe s₂) X.xe s₁) (fun u s' xx => ?_) PassesOwn.looking).run [] s σ H D (I.toTry _) h) (fun f s1 hsp => ?_) (fun e s1 he => he)
  · obtain ⟨a, B, sI, pins', σ', H', cls, d, rfl, J', nb, up, sky, na, os, ag, any, hyes⟩ := xx
    have J : Inv X pins σ' H' sI := J'.ofTry ok
    have sky' : Sky B (X.env :: X.outer) a (L2N.Zn cls d) X.env.locals s'.heap := by rw [← hs]; exact sky
    show wpAny (model X.prog X.w) X.A (noteFrame (.ref a) X.env) _ _ _
    refine L2N.Sky.land L2N.Zn.steady hfr hf sky' fun h3 fl3 up3 => ?_
    have J3 : Inv X pins σ' H' { s' with heap := h3 } := J.landed nb fl3.1 (up.trans up3) os ag
    obtain ⟨oe3, vs3, he3, hz3, hd3⟩ := fl3.there
    have nfr : a ∉ frs (X.env :: X.outer) := notFr fl3.2.2.1 he3 hd3
    have nL : a ≠ X.env.locals := fun z => nfr (List.mem_filterMap.mpr ⟨X.env, List.mem_cons_self, by rw [hf, z]⟩)
    have nF : a ∉ X.fs := fun hm => by
      obtain ⟨e, he, q⟩ := List.mem_filterMap.mp hm
      exact nfr (List.mem_filterMap.mpr ⟨e, List.mem_cons_of_mem _ he, q⟩)
    have S3 := J3.suite he3 hd3 na nL nF
    refine wpAny_handleBy_cons (codeAny_handlers_test (wpAny_Tuple ?_)) (fun q => nomatch q)
    refine wpAny_items_cons (name_there S3 hc1 (wpAny_items_cons (name_there S3 hc2 (wpAny_items_nil ⟨by size_fits, ?_⟩))))
    have LT : PySem.W.Looks (model X.prog X.w) h3 (typeOf (.ref a)) cls := fun A Q E s k q => wpAny_typeOf_ref (k _ _ he3) (by rw [hz3.1]; exact q)
    have kp : ∀ q o, h3.get? q = some o → (h3.push { cls := .type "tuple", data := .seq [c1, c2].toArray }).get? q = some o := fun _ _ z => Heap.get?_push_of_some _ z
    refine (PySem.W.exm_tup2 (M := model X.prog X.w) (J3.kIn.keeps kp) (LT.keeps kp) (Heap.get?_push_size h3 rfl) any).here (codeAny_handlers_suite ?_)
    refine HandSPX.lands_againZ (flying_push _ fl3) fun h4 fl4 up4 => ?_
    have J4 : Inv X pins σ' H' { s' with heap := h4 } := J.landed nb fl4.1 (((up.trans up3).trans (Heap.UpToSlots.of_keeps kp)).trans up4) os ag
    obtain ⟨oe4, vs4, he4, hz4, hd4⟩ := fl4.there
    have S4 := J4.suite he4 hd4 na nL nF
    have tkS : L2.Takes (L2H.suiteX X a ((a, oe4) :: (X.pn ++ pins))) Wout := fun u2 s2 x2 => by
      obtain ⟨a2, B2, sI2, pn2, σ2, H2, cls2, d2, e2, I2, nb2, up2, sky2, na2, os2, ag2, w2⟩ := x2
      exact tk u2 s2 ⟨a2, B2, sI2, pins, σ2, H2, cls2, d2, e2, L2H.unsuiteX I2 ok, nb2, up2, sky2, na2, os2, ag2, w2⟩
    have hot : L2H.HotC (L2H.suiteX X a ((a, oe4) :: (X.pn ++ pins))) := ⟨(a, oe4), ⟨rfl, vs4, hd4, hz4.2.2 vs4 hd4⟩, List.mem_cons_self⟩
    refine wpAny_mono ((hsu a oe4 cls d (X.pn ++ pins) hz4 ⟨_, hd4⟩ tkS hot).run [] _ _ H' _ (L2H.suiteX_of S4) (hyes a na)) (fun f s6 hsp => ?_) (fun e6 s6 z => hpa (some (.ref a)) e6 s6 z)
    cases f with
    | next =>
      obtain ⟨σ6, H6, S6, q6⟩ := hsp
      exact ⟨_, _, L2H.unsuiteX S6 ok, q6⟩
    | brk =>
      obtain ⟨σ6, H6, S6, q6⟩ := hsp
      exact ⟨_, _, L2H.unsuiteX S6 ok, q6⟩
    | cont =>
      obtain ⟨σ6, H6, S6, q6⟩ := hsp
      exact ⟨_, _, L2H.unsuiteX S6 ok, q6⟩
    | ret u =>
      obtain ⟨v6, σ6, H6, S6, r6, q6⟩ := hsp
      exact ⟨_, _, _, L2H.unsuiteX S6 ok, r6, q6⟩
  · have e2 := body_out ok hsp
    cases f with
    | next => exact wpAny_execs_nil e2
    | _ => exact e2
end
end Ca
set_option Elab.async false
set_option linter.all false
set_option maxRecDepth 100000
set_option maxHeartbeats 4000000
namespace Ca
open PySem L2
/-! ### the checks of a system and its making, their errors without a context -/
section
variable {P : Program} {w : World} {K : PySem.W.Frag} {mg : Str → Option Value} {base : Heap} {CR CU fIR fIU : Addr} {fdIR fdIU : FuncData}
theorem ok_checkRN {f fR : Addr} {fd fdR : FuncData} (F : FnT K "check_rows" sCheckRows f fd) (B : Bn mg) (C : Cn mg) (Ex : ErrX P w K mg base CR fIR fdIR "index" "InvalidRows")
    (gR : mg "is_row" = some (.ref fR)) (GR : FnOk P w K mg base CX0 3 fR fdR ["value", "many"] (spIs2 K isRowD)) (kR : PySem.W.keepIn K (.ref fR) = true) (bR : Binds K fdR ["value", "many"] []) :
    FnOk P w K mg base (L2N.CX P w) 4 f fd ["rows", "many"] (spCheckRX K CR) := by
  obtain ⟨t1, c1⟩ := C.rows
  refine F.ok scCheckR (fun vs H Q E h => ?_) (fun cdv A outer s H vs Q E hr h => ?_)
  · obtain ⟨v, d, m, rfl, _⟩ := h
    rfl
  · obtain ⟨v, d, m, rfl, hm, hd, hE, q⟩ := h
    have nd := scCheckR.nd
    have hr2 : Room 2 _ := hr.mono (by decide)
    refine ⟨_, pss_cons (ps_if (pt_not (pt_val (pe_callB call_isi (by rfl) B.isi PyProof.Rows.boot_isinstance (pa_cons (pv 0) (pa_cons (pe_bltn (v := .ty "tuple") (by rfl) B.tup (by decide +kernel) rfl) pa_nil))))) (pss_one (ps_errXN Ex hr2 (L2N.takes_of rfl rfl rfl rfl) (pa_cons pe_non pa_nil))) pss_nil)
      (pss_cons (ps_set (i := 2) nd rfl (.inl rfl) (pe_lst pa_nil))
      (pss_one (ps_for (passes_of rfl) rfl (pi_enumT (by rfl) B.enum (pa_cons (pv 0) pa_nil)) (pg_tup rfl (pgs_cons (pg_name (i := 3) nd rfl (.inl rfl)) (pgs_cons (pg_name (i := 4) nd rfl (.inl rfl)) pgs_nil)))
        (pss_cons (ps_if (PW.pt (pw_or (pt_cmpR op_eq (pv 3) (pe_glob (v := .int 6) rfl c1 ⟨_, rfl⟩) (nomark _)) (pw_or (pt_not (pt_val (pe_call GR hr rfl gR kR bR .nil pass0 (pa_cons (pv 4) (pa_cons (pv 1) pa_nil)))))
          (pw_or1 (pt_cmpR op_in_seq (pe_ix ix_tup (pv 4) pe_int (fun _ _ => rfl)) (pv 2) (by rfl)))))) (pss_one (ps_errXN Ex hr2 (L2N.takes_of rfl rfl rfl rfl) (pa_cons (pv 3) pa_nil))) pss_nil)
        (pss_one (ps_expr (pe_bm PySem.F.plainAttrs_list PySem.F.slot_list_append PySem.F.type_list_append mt_append (pv 2) (pa_cons (pe_ix ix_tup (pv 4) pe_int (fun _ _ => rfl)) pa_nil)))))))), ?_⟩
    refine rd_isd hd rfl (kit_tup _) ⟨_, rfl, ?_⟩
    cases d with
    | tuple ds =>
      cases hd with
      | @tup a xs _ h1 h2 =>
      have hl : xs.length = ds.length := h2.len
      refine iteF ⟨by show 0 ≤ sizeLine; decide, fun nl hnl => ?_⟩
      have s0 : Same H (upd H nl (.lst [])) := Same.new hnl
      refine ⟨_, rfl, a, _, rfl, same_sqt s0 h1, ?_⟩
      refine for_it walk_enumT (fun i σ' H' => i ≤ ds.length ∧ i ≤ 6 ∧ (∃ o1 o2, σ' = [some (.ref a), some (.int m), some (.ref nl), o1, o2]) ∧ Same H H' ∧ H' nl = some (.lst (((ds.take i).map rowNm).map V.str)) ∧ rowsGo m i ((ds.take i).map rowNm) (ds.drop i) = rowsGo m 0 [] ds)
        ⟨Nat.zero_le _, Nat.zero_le _, ⟨_, _, rfl⟩, s0, upd_same, rfl⟩ (fun i σ' H' hi p => same_sqt p.2.2.2.1 h1) ?_ (fun σ' H' p => ?_)
      · rintro i x _ H1 _ hi ⟨_, i6, ⟨o1, o2, rfl⟩, s1, hn1, hgo⟩ ⟨T, x, rfl, hT, rfl, hx⟩
        refine ⟨T, _, rfl, SqT.of upd_same, rfl, _, _, rfl, _, _, rfl, rfl, ?_⟩
        have hil : i < ds.length := by rw [← hl]; exact hi
        have s2 : Same H1 (upd H1 T (.tup [.int (i : Nat), x])) := Same.new hT
        obtain ⟨d, hdi, hdq⟩ := (h2.same (s1.trans s2)).get hx
        rw [List.getElem?_eq_getElem hil] at hdi
        have ed : ds[i] = d := Option.some.inj hdi
        have edr : ds.drop i = d :: ds.drop (i + 1) := by rw [List.drop_eq_getElem_cons hil, ed]
        have etk : (ds.take (i + 1)).map rowNm = (ds.take i).map rowNm ++ [rowNm d] := by
          rw [List.take_succ, List.getElem?_eq_getElem hil, ed, List.map_append]
          rfl
        have err : ∀ {H'}, Same H H' → rowsGo m i ((ds.take i).map rowNm) (ds.drop i) = some i → ErrW E H' CR "index" (.int (i : Nat)) := fun {H'} s' e => by
          refine (hE (some i) ?_).on s'
          show (rowsGo m 0 [] ds).map some = _
          rw [← hgo, e]
          rfl
        rw [edr] at hgo err
        rw [rowsGo_cons] at hgo err
        refine ⟨_, rfl, rfl, _, rfl, ?_⟩
        by_cases e6 : i = 6
        · rw [decide_eq_true (show V.int ((i : Nat) : Int) = V.int 6 by rw [e6]; rfl)]
          exact iteT (iteT ⟨_, rfl, _, rfl, err (s1.trans s2) (if_pos e6)⟩)
        · rw [decide_eq_false (fun y => e6 (by injection y with y; omega))]
          rw [if_neg e6] at hgo err
          refine iteF ⟨_, rfl, _, rfl, x, d, m, rfl, hm, hdq, fun H3 s3 => ⟨_, rfl, ?_⟩⟩
          have s13 := s1.trans (s2.trans s3)
          cases g : isRowD d m with
          | false =>
            rw [if_pos g] at err
            exact iteT (iteT ⟨_, rfl, _, rfl, err s13 rfl⟩)
          | true =>
            rw [if_neg (by rw [g]; decide)] at hgo err
            obtain ⟨r, rfl⟩ := row_shape g
            obtain ⟨b, v2, v3, rfl, hb, _, _, _⟩ := row_at (hdq.same s3)
            have hn3 := s3 _ _ (s2 _ _ hn1)
            rw [rowNm_D] at hgo err etk
            refine iteF ⟨_, rfl, b, _, 0, _, rfl, rfl, hb, atI_nat (j := 0) rfl, _, rfl, nl, _, rfl, .inl (SqL.of hn3), rfl, flat_strs _, _, rfl, ?_⟩
            show (fun b_1 H1 => if b_1 = true then _ else _) (inV (.str r.name) (((ds.take i).map rowNm).map V.str)) H3
            rw [inV_strs]
            by_cases g2 : r.name ∈ (ds.take i).map rowNm
            · rw [if_pos g2] at err
              rw [decide_eq_true g2]
              exact iteT ⟨_, rfl, _, rfl, err s13 rfl⟩
            · rw [if_neg g2] at hgo
              rw [decide_eq_false g2]
              refine iteF ⟨_, rfl, .inl ⟨rfl, _, SqL.of hn3⟩, _, rfl, b, _, 0, _, rfl, rfl, hb, atI_nat (j := 0) rfl, nl, _, _, rfl, rfl, hn3, ?_, hil, by omega, ⟨_, _, rfl⟩, fun c o e => ?_, ?_, ?_⟩
              · rw [List.length_map, List.length_map, List.length_take]
                exact Nat.lt_of_le_of_lt (Nat.le_trans (Nat.min_le_left ..) i6) (by decide)
              · rw [upd_ne (ne_of_none e hnl)]
                exact s13 _ _ e
              · rw [upd_same, etk, List.map_append]
                rfl
              · rw [etk]
                exact hgo
      · obtain ⟨_, _, ⟨o1, o2, rfl⟩, s1, _, hgo⟩ := p
        refine q ?_ H' s1
        show (rowsGo m 0 [] ds).map some = none
        rw [← hgo, hl, List.drop_length]
        rfl
    | _ => exact iteT ⟨_, rfl, hE none rfl⟩
theorem ok_checkUN {f fU : Addr} {fd fdU : FuncData} (F : FnT K "check_unknowns" sCheckUnknowns f fd) (B : Bn mg) (C : Cn mg) (Ex : ErrX P w K mg base CU fIU fdIU "index" "InvalidUnknowns")
    (gU : mg "is_unknown" = some (.ref fU)) (GU : FnOk P w K mg base CX0 2 fU fdU ["value"] (spIs K isUnknownD)) (kU : PySem.W.keepIn K (.ref fU) = true) (bU : Binds K fdU ["value"] []) :
    FnOk P w K mg base (L2N.CX P w) 3 f fd ["unknowns"] (spCheckUX K CU) := by
  obtain ⟨t1, c1⟩ := C.unknowns
  refine F.ok scCheckU (fun vs H Q E h => ?_) (fun cdv A outer s H vs Q E hr h => ?_)
  · obtain ⟨v, d, rfl, _⟩ := h
    rfl
  · obtain ⟨v, d, rfl, hd, hE, q⟩ := h
    have nd := scCheckU.nd
    refine ⟨_, pss_cons (ps_if (PW.pt (pw_or (pt_not (pt_val (pe_callB call_isi (by rfl) B.isi PyProof.Rows.boot_isinstance (pa_cons (pv 0) (pa_cons (pe_bltn (v := .ty "tuple") (by rfl) B.tup (by decide +kernel) rfl) pa_nil)))))
        (pw_or1 (pt_cmpR op_eq (pe_callB call_len (by rfl) B.len boot_len (pa_cons (pv 0) pa_nil)) pe_int (nomark _))))) (pss_one (ps_errXN Ex hr (L2N.takes_of rfl rfl rfl rfl) (pa_cons pe_non pa_nil))) pss_nil)
      (pss_one (ps_for (passes_of rfl) rfl (pi_enumT (by rfl) B.enum (pa_cons (pv 0) pa_nil)) (pg_tup rfl (pgs_cons (pg_name (i := 1) nd rfl (.inl rfl)) (pgs_cons (pg_name (i := 2) nd rfl (.inl rfl)) pgs_nil)))
        (pss_one (ps_if (PW.pt (pw_or (pt_cmpR op_eq (pv 1) (pe_glob (v := .int 3) rfl c1 ⟨_, rfl⟩) (nomark _)) (pw_or (pt_not (pt_val (pe_call GU hr rfl gU kU bU .nil pass0 (pa_cons (pv 2) pa_nil))))
          (pw_or1 (pt_cmpR op_in_seq (pv 2) (pe_slice sl_tupA (pv 0) po_none (po_some (pv 1))) (by rfl)))))) (pss_one (ps_errXN Ex hr (L2N.takes_of rfl rfl rfl rfl) (pa_cons (pv 1) pa_nil))) pss_nil)))), ?_⟩
    refine rd_isd hd rfl (kit_tup _) ⟨_, rfl, ?_⟩
    cases d with
    | tuple ds =>
      cases hd with
      | @tup a xs _ h1 h2 =>
      have hl : xs.length = ds.length := h2.len
      refine iteF ⟨_, rfl, _, _, rfl, .inr ⟨_, h1, rfl⟩, rfl, _, rfl, ?_⟩
      by_cases e0 : ds.length = 0
      · rw [decide_eq_true (show V.int ((xs.length : Nat) : Int) = V.int 0 by rw [hl, e0]; rfl)]
        refine iteT ⟨_, rfl, hE none ?_⟩
        cases ds with
        | nil => rfl
        | cons _ _ => cases e0
      rw [decide_eq_false (fun z => by injection z with z; omega)]
      have eus : unkSlip (.tuple ds) = (unkGo 0 [] ds).map some := by
        cases ds with
        | nil => exact absurd rfl e0
        | cons _ _ => rfl
      refine iteF ⟨_, rfl, a, _, rfl, h1, ?_⟩
      refine for_it walk_enumT (fun i σ' H' => i ≤ ds.length ∧ i ≤ 3 ∧ (∃ o1 o2, σ' = [some (.ref a), o1, o2]) ∧ Same H H' ∧ (∀ d ∈ ds.take i, ∃ x, d = .str x) ∧ unkGo i ((ds.take i).map strOf) (ds.drop i) = unkGo 0 [] ds)
        ⟨Nat.zero_le _, Nat.zero_le _, ⟨_, _, rfl⟩, fun _ _ e => e, fun _ z => (by simp at z), rfl⟩ (fun i σ' H' hi p => same_sqt p.2.2.2.1 h1) ?_ (fun σ' H' p => ?_)
      · rintro i x _ H1 _ hi ⟨_, i3, ⟨o1, o2, rfl⟩, s1, hst, hgo⟩ ⟨T, x, rfl, hT, rfl, hx⟩
        refine ⟨T, _, rfl, SqT.of upd_same, rfl, _, _, rfl, _, _, rfl, rfl, ?_⟩
        have hil : i < ds.length := by rw [← hl]; exact hi
        have s2 : Same H1 (upd H1 T (.tup [.int (i : Nat), x])) := Same.new hT
        obtain ⟨d, hdi, hdq⟩ := (h2.same (s1.trans s2)).get hx
        rw [List.getElem?_eq_getElem hil] at hdi
        have ed : ds[i] = d := Option.some.inj hdi
        have edr : ds.drop i = d :: ds.drop (i + 1) := by rw [List.drop_eq_getElem_cons hil, ed]
        have etk0 : ds.take (i + 1) = ds.take i ++ [d] := by
          rw [List.take_succ, List.getElem?_eq_getElem hil, ed]
          rfl
        have err : ∀ {H'}, Same H H' → unkGo i ((ds.take i).map strOf) (ds.drop i) = some i → ErrW E H' CU "index" (.int (i : Nat)) := fun {H'} s' e => by
          refine (hE (some i) ?_).on s'
          rw [eus, ← hgo, e]
          rfl
        rw [edr, unkGo_cons] at hgo err
        refine ⟨_, rfl, rfl, _, rfl, ?_⟩
        by_cases e3 : i = 3
        · rw [decide_eq_true (show V.int ((i : Nat) : Int) = V.int 3 by rw [e3]; rfl)]
          exact iteT (iteT ⟨_, rfl, _, rfl, err (s1.trans s2) (if_pos e3)⟩)
        · rw [decide_eq_false (fun y => e3 (by injection y with y; omega))]
          rw [if_neg e3] at hgo err
          refine iteF ⟨_, rfl, x, d, rfl, hdq, fun H3 s3 => ⟨_, rfl, ?_⟩⟩
          have s13 := s1.trans (s2.trans s3)
          cases g : isUnknownD d with
          | false =>
            rw [if_pos g] at err
            exact iteT (iteT ⟨_, rfl, _, rfl, err s13 rfl⟩)
          | true =>
            rw [if_neg (by rw [g]; decide)] at hgo err
            obtain ⟨z, rfl⟩ := unk_shape g
            cases hdq
            replace err : ∀ {H'}, Same H H' → (if z ∈ (ds.take i).map strOf then some i else unkGo (i + 1) ((ds.take i).map strOf ++ [z]) (ds.drop (i + 1))) = some i → ErrW E H' CU "index" (.int (i : Nat)) := err
            replace hgo : (if z ∈ (ds.take i).map strOf then some i else unkGo (i + 1) ((ds.take i).map strOf ++ [z]) (ds.drop (i + 1))) = unkGo 0 [] ds := hgo
            have h3 : SqT K H3 a xs := same_sqt s13 h1
            refine iteF ⟨_, rfl, _, rfl, _, rfl, _, rfl, ?_⟩
            refine rd_slA h3 fun H4 b s4 hb => ?_
            rw [cut_take, strs_map (dqTake i (h2.same (s13.trans s4))) hst] at hb
            refine ⟨b, _, rfl, .inr hb, rfl, flat_strs _, _, rfl, ?_⟩
            rw [inV_strs]
            by_cases g2 : z ∈ (ds.take i).map strOf
            · rw [if_pos g2] at err
              rw [decide_eq_true g2]
              exact iteT ⟨_, rfl, _, rfl, err (s13.trans s4) rfl⟩
            · rw [if_neg g2] at hgo
              rw [decide_eq_false g2]
              refine iteF ⟨hil, by omega, ⟨_, _, rfl⟩, s13.trans s4, fun y hy => ?_, ?_⟩
              · rw [etk0] at hy
                rcases List.mem_append.mp hy with hy | hy
                · exact hst y hy
                · exact ⟨z, List.mem_singleton.mp hy⟩
              · rw [etk0, List.map_append]
                exact hgo
      · obtain ⟨_, _, ⟨o1, o2, rfl⟩, s1, _, hgo⟩ := p
        refine q ?_ H' s1
        rw [eus, ← hgo, hl, List.drop_length]
        rfl
    | _ => exact iteT (iteT ⟨_, rfl, hE none rfl⟩)
variable {C : Addr}
theorem ok_initN {f fU fR : Addr} {fd fdU fdR : FuncData} {dvs : List V} (F : FnM K "__init__" "System.__init__" mSystemInit dvs f fd) (B : Bn mg) (S : SysC K C)
    (gU : mg "check_unknowns" = some (.ref fU)) (GU : FnOk P w K mg base (L2N.CX P w) 3 fU fdU ["unknowns"] (spCheckUX K CU)) (kU : PySem.W.keepIn K (.ref fU) = true) (bU : Binds K fdU ["unknowns"] [])
    (gR : mg "check_rows" = some (.ref fR)) (GR : FnOk P w K mg base (L2N.CX P w) 4 fR fdR ["rows", "many"] (spCheckRX K CR)) (kR : PySem.W.keepIn K (.ref fR) = true) (bR : Binds K fdR ["rows", "many"] []) :
    FnOk P w K mg base (L2N.CX P w) 5 f fd ["self", "unknowns", "rows"] (spInitX K C CU CR) := by
  refine F.ok scInit (fun vs H Q E h => ?_) (fun cdv A outer s H vs Q E hr h => ?_)
  · obtain ⟨x, dx, u, r, du, dr, rfl, _⟩ := h
    rfl
  · obtain ⟨x, dx, u, r, du, dr, rfl, hx, hdu, hdr, e1, e2, q⟩ := h
    have hr3 : Room 3 _ := hr.mono (by decide)
    refine ⟨_, pss_cons (ps_expr (pe_call (E := E) GU hr3 rfl gU kU bU .nil (L2N.passes_call (L2N.takes_of rfl rfl rfl rfl) fun _ _ _ _ h => h) (pa_cons (pv 1) pa_nil)))
      (pss_cons (ps_expr (pe_call (E := E) GR hr rfl gR kR bR .nil (L2N.passes_call (L2N.takes_of rfl rfl rfl rfl) fun _ _ _ _ h => h) (pa_cons (pv 2) (pa_cons (pe_callB call_len (by rfl) B.len boot_len (pa_cons (pv 1) pa_nil)) pa_nil))))
      (pss_cons (ps_fld (pv 0) (pv 1) rfl) (pss_one (ps_fld (pv 0) (pv 2) rfl)))), ?_⟩
    refine ⟨_, rfl, u, du, rfl, hdu, e1, fun hu H1 s1 => ?_⟩
    obtain ⟨ns, rfl, hN⟩ := folk_of hu
    obtain ⟨a, xs, rfl, h1, h2, hl⟩ := tup_len (hdu.same s1)
    have hl2 : xs.length = ns.length := by rw [hl, List.length_map]
    have el : lenD (folkD ns) = ns.length := List.length_map ..
    rw [el] at e2 q
    refine ⟨_, rfl, _, rfl, _, ns.length, rfl, .inr ⟨_, h1, hl2.symm⟩, r, dr, ns.length, rfl, by have := hN.hi; omega, hdr.same s1, fun i hi => (e2 i hu hi).on s1, fun hr' H2 s2 => ?_⟩
    have hx2 := s2 _ _ (s1 _ _ hx)
    refine ⟨_, rfl, _, rfl, x, C, dx, _, rfl, hx2, S.cl, S.nu, by show 0 < 1000; decide, _, rfl, _, rfl, x, C, dx, _, rfl, upd_same, S.cl, S.nr, by show 1 < 1000; decide, ?_⟩
    refine q hu hr' _ (fun b o n e => ?_) upd_same
    rw [upd_ne n, upd_ne n]
    exact s2 _ _ (s1 _ _ e)
end
end Ca
set_option Elab.async false
set_option linter.all false
set_option maxRecDepth 100000
set_option maxHeartbeats 4000000
namespace Ca
open PySem L2
theorem unk_ok : ∀ (ns : List Str) (i : Nat) (seen : List Str), (∀ x ∈ ns, isUnknownD (.str x) = true) → (seen ++ ns).Nodup → i + ns.length ≤ 3 → unkGo i seen (ns.map .str) = none
  | [], _, _, _, _, _ => rfl
  | x :: ns, i, seen, h1, h2, h3 => by
    rw [List.length_cons] at h3
    rw [List.map_cons, unkGo_cons, if_neg (by omega), if_neg (by rw [h1 x (List.mem_cons_self ..)]; decide)]
    show (if x ∈ seen then some i else unkGo (i + 1) (seen ++ [x]) (ns.map .str)) = none
    rw [if_neg (fun z => (List.nodup_append.mp h2).2.2 _ z x (by simp) rfl)]
    exact unk_ok ns (i + 1) (seen ++ [x]) (fun q hq => h1 q (List.mem_cons_of_mem _ hq)) (by simpa using h2) (by omega)
theorem folk_ok {ns : List Str} (N : Folk ns) : unkSlip (folkD ns) = none := by
  have := unk_ok ns 0 [] N.ok (by simpa using N.nd) (by have := N.hi; omega)
  have h1 := N.lo
  cases ns with
  | nil => cases h1
  | cons x ns =>
    show (unkGo 0 [] ((x :: ns).map .str)).map some = none
    rw [this]
    rfl
theorem rows_ok {m : Nat} : ∀ (rs : List Rw) (i : Nat) (seen : List Str), (∀ r ∈ rs, isRowD (rowD r) m = true) → (seen ++ rs.map Rw.name).Nodup → i + rs.length ≤ 6 → rowsGo m i seen (rs.map rowD) = none
  | [], _, _, _, _, _ => rfl
  | r :: rs, i, seen, h1, h2, h3 => by
    rw [List.length_cons] at h3
    rw [List.map_cons] at h2
    rw [List.map_cons, rowsGo_cons, if_neg (by omega), if_neg (by rw [h1 r (List.mem_cons_self ..)]; decide), rowNm_D, if_neg (fun z => (List.nodup_append.mp h2).2.2 _ z r.name (by simp) rfl)]
    exact rows_ok rs (i + 1) (seen ++ [r.name]) (fun q hq => h1 q (List.mem_cons_of_mem _ hq)) (by simpa using h2) (by omega)
theorem lines_ok {rs : List Rw} {m : Nat} (L : Lines rs m) : rowsSlip (rowsD rs) m = none := by
  have := rows_ok rs 0 [] L.ok (by simpa using L.nd) (by have := L.hi; omega)
  show (rowsGo m 0 [] (rs.map rowD)).map some = none
  rw [this]
  rfl
/-! ### a wrong row, a wrong unknown in the midst -/
theorem rows_at {m : Nat} {d : PyData} {ds : List PyData} : ∀ (rs : List Rw) (i : Nat) (seen : List Str), (∀ r ∈ rs, isRowD (rowD r) m = true) → (seen ++ rs.map Rw.name).Nodup → i + rs.length ≤ 6 →
    (isRowD d m = false ∨ i + rs.length = 6 ∨ rowNm d ∈ seen ++ rs.map Rw.name) → rowsGo m i seen (rs.map rowD ++ d :: ds) = some (i + rs.length)
  | [], i, seen, _, _, _, h => by
    show rowsGo m i seen (d :: ds) = some i
    rw [rowsGo_cons]
    simp only [List.map_nil, List.append_nil, List.length_nil, Nat.add_zero] at h
    split
    · rfl
    · rename_i c1
      split
      · rfl
      · rename_i c2
        rw [if_pos]
        rcases h with h | h | h
        · exact absurd h c2
        · exact absurd h c1
        · exact h
  | r :: rs, i, seen, h1, h2, h3, h => by
    rw [List.length_cons] at h3 h
    rw [List.map_cons] at h2
    show rowsGo m i seen (rowD r :: (rs.map rowD ++ d :: ds)) = _
    rw [rowsGo_cons, if_neg (by omega), if_neg (by rw [h1 r (List.mem_cons_self ..)]; decide), rowNm_D, if_neg (fun z => (List.nodup_append.mp h2).2.2 _ z r.name (by simp) rfl)]
    rw [rows_at rs (i + 1) (seen ++ [r.name]) (fun q hq => h1 q (List.mem_cons_of_mem _ hq)) (by simpa using h2) (by omega) (by
      rcases h with h | h | h
      · exact .inl h
      · exact .inr (.inl (by omega))
      · exact .inr (.inr (by simpa using h))), List.length_cons]
    congr 1
    omega
theorem rows_atS {m : Nat} {d : PyData} {ds : List PyData} {rs : List Rw} (L : Lines rs m) (h : isRowD d m = false ∨ rs.length = 6 ∨ rowNm d ∈ rs.map Rw.name) : rowsSlip (.tuple (rs.map rowD ++ d :: ds)) m = some (some rs.length) := by
  have := rows_at (d := d) (ds := ds) rs 0 [] L.ok (by simpa using L.nd) (by have := L.hi; omega) (by simpa using h)
  show (rowsGo m 0 [] (rs.map rowD ++ d :: ds)).map some = _
  rw [this, Nat.zero_add]
  rfl
theorem unk_at {d : PyData} {ds : List PyData} : ∀ (ns : List Str) (i : Nat) (seen : List Str), (∀ x ∈ ns, isUnknownD (.str x) = true) → (seen ++ ns).Nodup → i + ns.length ≤ 3 →
    (isUnknownD d = false ∨ i + ns.length = 3 ∨ strOf d ∈ seen ++ ns) → unkGo i seen (ns.map .str ++ d :: ds) = some (i + ns.length)
  | [], i, seen, _, _, _, h => by
    show unkGo i seen (d :: ds) = some i
    rw [unkGo_cons]
    simp only [List.append_nil, List.length_nil, Nat.add_zero] at h
    split
    · rfl
    · rename_i c1
      split
      · rfl
      · rename_i c2
        rw [if_pos]
        rcases h with h | h | h
        · exact absurd h c2
        · exact absurd h c1
        · exact h
  | x :: ns, i, seen, h1, h2, h3, h => by
    rw [List.length_cons] at h3 h
    show unkGo i seen (.str x :: (ns.map .str ++ d :: ds)) = _
    rw [unkGo_cons, if_neg (by omega), if_neg (by rw [h1 x (List.mem_cons_self ..)]; decide)]
    show (if x ∈ seen then some i else unkGo (i + 1) (seen ++ [x]) (ns.map .str ++ d :: ds)) = _
    rw [if_neg (fun z => (List.nodup_append.mp h2).2.2 _ z x (by simp) rfl)]
    rw [unk_at ns (i + 1) (seen ++ [x]) (fun q hq => h1 q (List.mem_cons_of_mem _ hq)) (by simpa using h2) (by omega) (by
      rcases h with h | h | h
      · exact .inl h
      · exact .inr (.inl (by omega))
      · exact .inr (.inr (by simpa using h))), List.length_cons]
    congr 1
    omega
theorem unk_atS {d : PyData} {ds : List PyData} {ns : List Str} (hi : ns.length ≤ 3) (ok : ∀ x ∈ ns, isUnknownD (.str x) = true) (nd : ns.Nodup) (h : isUnknownD d = false ∨ ns.length = 3 ∨ strOf d ∈ ns) : unkSlip (.tuple (ns.map .str ++ d :: ds)) = some (some ns.length) := by
  have := unk_at (d := d) (ds := ds) ns 0 [] ok (by simpa using nd) (by omega) (by simpa using h)
  cases ns with
  | nil =>
    show (unkGo 0 [] (d :: ds)).map some = _
    rw [show unkGo 0 [] (d :: ds) = some 0 from this]
    rfl
  | cons x xs =>
    show (unkGo 0 [] ((x :: xs).map .str ++ d :: ds)).map some = _
    rw [this, Nat.zero_add]
    rfl
end Ca
set_option Elab.async false
set_option linter.all false
set_option maxRecDepth 100000
set_option maxHeartbeats 4000000
namespace Ca
open PySem PySem.Spec PyProof.Rows L2
/-! ### a, *b = a list -/
def gStar1 (K : PySem.W.Frag) (t : TGs) : TG := fun v σ H Q => ∃ a x xs, v = .ref a ∧ SqL K H a (x :: xs) ∧ ∀ D, H D = none → t [x, .ref D] σ (upd H D (.lst xs)) Q
section
variable {X : Cx} {e1 e2 : Expr} {p2 pos : Pos} {k : Nat} {t : TGs}
theorem pgs_star {tg : TG} (g : PG X e2 tg) : PGs X [.Starred e2 p2] (gCons tg gNil) := by
  refine ⟨fun pins s σ H vs us Q I r q => ?_⟩
  obtain ⟨v, w, rfl, q⟩ := q
  cases r with
  | @cons _ u _ ws ru rw1 =>
  refine wpAny_bind (wpAny_holding (wpAny_mono (g.run pins s σ H v u _ I ru q) (fun _ s1 z => ?_) fun _ _ z => z))
  obtain ⟨σ1, H1, I1, ew, q1⟩ := z
  subst ew
  cases rw1
  exact wpAny_pure ⟨σ1, H1, I1, q1⟩
theorem pg_star1 (hc : X.calm = true) (h : PGs X [e1, .Starred e2 p2] t) (hs : (assignEach [e1, .Starred e2 p2] X.env).findIdx? (·.1) = some 1 := by rfl) (two : (assignEach [e1, .Starred e2 p2] X.env).length = 2 := by rfl) : PG X (.Tuple [e1, .Starred e2 p2] k pos) (gStar1 X.K t) := by
  refine ⟨fun pins s σ H v u Q I r q => ?_⟩
  obtain ⟨a, x, xs, rfl, sq, q⟩ := q
  cases r
  obtain ⟨its, rv, pl, hz⟩ := I.list sq
  have hl := pl.isList
  have hd := I.ok.hd hc
  obtain ⟨y, ys, rfl⟩ : ∃ y ys, its = y :: ys := by cases rv with | cons _ _ => exact ⟨_, _, rfl⟩
  have ry : RelV x y ∧ Vals xs ys := by cases rv with | cons a b => exact ⟨a, b⟩
  have na : a ≠ s.heap.objs.size := by
    obtain ⟨o, ho, _⟩ := hl
    exact Nat.ne_of_lt (Heap.lt_size ho)
  rw [assign_Tuple]
  refine wpAny_bind (wpAny_standAt ?_)
  unfold unpack
  rw [hs]
  rw [two]
  refine wpAny_bind (wpAny_holding ?_)
  unfold unpackItems
  refine wpAny_bind ?_
  unfold notIterableAtAll
  refine wpAny_bind (wpAny_specialOf hl.typeIs slot_list_iter.lookup (wpAny_pure ?_))
  simp only [Bool.false_eq_true, if_false]
  refine wpAny_bind (wpAny_holding (wpAny_pyIter_list hl ?_))
  refine wpAny_bind (wpAny_holding (PySem.W.kun_draw na 1 0 _ _ ⟨_, Heap.get?_push_size _ rfl, rfl, rfl⟩ (hl.push _) (by simp) fun h1 it1 b1 => ?_))
  have l1 : h1.IsList a (y :: ys).toArray := (hl.push _).extBut b1.extBut na
  rw [if_neg (show ¬ (((y :: ys).toArray.toList.drop 0).take 1).length < 1 by simp)]
  obtain ⟨oi, hoi, _⟩ := id it1
  obtain ⟨ol, hol, _⟩ := id l1
  have hsz : (y :: ys).toArray.size ≤ sizeLine := by
    have := rv.length
    rw [List.size_toArray, ← this]
    exact hz
  refine wpAny_bind (wpAny_holding (PySem.W.kun_collect (s := { s with heap := h1 }) (T := "list_iterator") (.inr (.inr (.inl rfl))) (Walks.list (A := X.A.in1) hd s.heap.objs.size a na (y :: ys).toArray) (fun j u st => st.1.typeIs) (k := 1) (by simp) ⟨it1, l1⟩ (Heap.lt_size hoi) (Heap.lt_size hol) (fun h2 tk hk => ?_) hsz))
  have e1 : (y :: ys).toArray.toList.drop 1 = ys := rfl
  rw [e1]
  show wpAny _ _ (if ys.length < 2 - 1 - 1 then _ else _) _ _ _
  rw [if_neg (by omega)]
  have e2 : ys.length - (2 - 1 - 1) = ys.length := by omega
  show wpAny _ _ (newList (ys.take (ys.length - (2 - 1 - 1))) >>= fun d => pure (((y :: ys).toArray.toList.drop 0).take 1 ++ [d] ++ ys.drop (ys.length - (2 - 1 - 1)))) _ _ _
  rw [e2, List.take_length, List.drop_length]
  have keep : ∀ b o, s.heap.get? b = some o → h2.get? b = some o := fun b o eb => by
    have nb : b ≠ s.heap.objs.size := Nat.ne_of_lt (Heap.lt_size eb)
    exact hk b o nb (b1.extBut b o nb (Heap.get?_push_of_some _ eb))
  have I2 : Inv X pins σ H { s with heap := h2, toks := tk } := I.kept keep
  have free : H h2.objs.size = none := I2.hok.fresh (Nat.le_refl _)
  have hlen : ys.length ≤ sizeLine := by
    have := rv.length
    simp only [List.length_cons] at this hz
    omega
  refine wpAny_bind (wpAny_newList (wpAny_pure ?_) hlen)
  have I3 : Inv X pins σ (upd H h2.objs.size (.lst xs)) { s with heap := h2.push { cls := .type "list", data := .seq ys.toArray }, toks := tk } :=
    I2.laid (t' := tk) (fun b o eb => Heap.get?_push_of_some _ eb) (Nat.le_refl _) ⟨by rw [ry.2.length]; exact hlen, ys, 0, ry.2, Heap.get?_push_size _ rfl⟩
  exact h.run pins _ σ _ [x, .ref h2.objs.size] [y, .ref h2.objs.size] Q I3 (.cons ry.1 (.cons rfl .nil)) (q _ free)
end
end Ca
set_option Elab.async false
set_option linter.all false
set_option maxRecDepth 100000
set_option maxHeartbeats 8000000
namespace Ca
open PySem PySem.Spec PyProof.Rows L2
/-! ### cls(..), its errors wished of by what the locals hold -/
def tMakeLS (i : Nat) (C : Addr) (sp : Sp) (dvs : List V) (E : L2.St → XK) (t : TA) : TE := fun σ H Q => σ[i]? = some (some (.ref C)) ∧ t σ H fun vs H1 => ∀ x dx, H1 x = none → H1 dx = none → dx ≠ x →
  sp (.ref x :: (vs ++ dvs)) (upd (upd H1 dx (.own x)) x (.ins C dx [])) (fun v H2 => v = .non ∧ Q (.ref x) H2) (E σ)
section
variable {X : Cx} {CX : CXT} {k i : Nat} {f C : Addr} {fd : FuncData} {ps : List Str} {sp : Sp} {dvs : List V} {ds : List Value} {E : L2.St → XK} {x : Str} {p pos : Pos} {e : Expr} {es : List Expr} {t : TA}
theorem pe_makeLS (M : Mk X.K C f) (F : FnOk X.prog X.w X.K X.mg X.base CX k f fd ps sp) (hr : Room (k + 1) X.A) (hN : X.N[i]? = some x) (hv : Vis X.env.scope x) (hb : Binds X.K fd ps ds) (hd : Vals dvs ds) (hx : ∀ σ, PassesAt CX X σ (E σ)) (ha : PA X (e :: es) t)
    (hdb : (x == ("__debug__" : Str)) = false := by decide) (hcd : (x == ("__classdict__" : Str)) = false := by decide)
    (he : starEach (e :: es) X.env = (false, eval e X.env) :: starEach es X.env := by rfl) (hpl : (backTo pos (starEach es X.env)).any (·.1) = false := by rfl) : PE X (.Call (.Name x p) (e :: es) [] pos) (tMakeLS i C sp dvs E t) := by
  refine ⟨fun pins s σ H Q I h => ?_⟩
  obtain ⟨hs, ht⟩ := h
  refine wpAny_Call_Name_kw (thn ((pe_var (pos := p) hN hv hdb hcd).run pins s σ H (fun v H1 => v = .ref C ∧ H1 = H) I ⟨.ref C, hs, rfl, rfl⟩) fun u s1 ⟨v, H1, I1, r1, q1⟩ => ?_)
  obtain ⟨rfl, rfl⟩ := q1
  cases r1
  refine PySem.W.callWith_K (h₀ := X.base) I1.ok.mod.kin M.kp (thn (ha.run pos pins s1 σ _ _ I1 ht) fun us s2 ⟨vs, H2, I2, r, q⟩ => ⟨I2.kIn, ?_⟩) he hpl
  have hq := q (s2.heap.objs.size + 1) s2.heap.objs.size (I2.hok.fresh (Nat.le_succ _)) (I2.hok.fresh (Nat.le_refl _)) (Nat.ne_of_lt (Nat.lt_succ_self _))
  have I3 := Inv.made (C := C) I2
  have r2 : Vals (V.ref (s2.heap.objs.size + 1) :: (vs ++ dvs)) (Value.ref (s2.heap.objs.size + 1) :: (us ++ ds)) := .cons rfl (r.append hd)
  have hl : (Value.ref (s2.heap.objs.size + 1) :: us ++ ds).length = ps.length := by
    have e := r2.length
    rw [F.len _ _ _ _ hq] at e
    exact e.symm
  refine wpAny_call (make_map (f := f) I2.kIn M.makes M.init (beq_iff_eq.mp M.fn) (codeAny_mono (F.run _ X.stack _ _ ⟨Value.ref (s2.heap.objs.size + 1) :: us, []⟩ (Value.ref (s2.heap.objs.size + 1) :: (us ++ ds)) _ _ (E σ) (hr.make C us [])
    (I3.env0.make C us []) (hb _ (Value.ref (s2.heap.objs.size + 1) :: us) I3.kIn hl) r2 hq) fun r s' hq' => ?_))
  cases r with
  | error e => exact hx σ pins _ _ e s' I3 hq'
  | ok fl =>
    cases fl with
    | ret u =>
      obtain ⟨v, H', I4, rv, ev, q3⟩ := I3.after hq'
      subst ev
      exact ⟨rv, ⟨V.ref (s2.heap.objs.size + 1), H', I4, rfl, q3⟩⟩
    | next => exact False.elim hq'
    | brk => exact False.elim hq'
    | cont => exact False.elim hq'
end
/-! ### System.read of any value -/
def IsPageD (d : PyData) : Prop := ∃ ns rs, Folk ns ∧ Lines rs ns.length ∧ d = .str (pageS ns rs)
def spReadX (K : PySem.W.Frag) (C CT : Addr) : Sp := fun vs H Q E => ∃ v d, vs = [.ref C, v] ∧ Dq K H v d ∧ (∀ t, d = .str t → plnS t ∧ t.length ≤ 5000) ∧ (¬ IsPageD d → ErrW E H CT "given" v) ∧
  ∀ ns rs, Folk ns → Lines rs ns.length → d = .str (pageS ns rs) → ∀ H' y, Same H H' → SysAt K C H' y ns rs → Q (.ref y) H'
def RowTells (line : Str) (d : PyData) : Prop := ∀ r m, isRowD (rowD r) m = true → m ≤ 3 → line = lineS r → d = rowD r
theorem folk_inj {ns ns' : List Str} (h : folkD ns = folkD ns') : ns = ns' := by
  injection h with h
  have key : ∀ xs : List Str, (xs.map PyData.str).map strOf = xs := fun xs => by
    rw [List.map_map]
    exact List.map_id'' (fun _ => rfl) xs
  rw [← key ns, h, key]
theorem strD_inj {p q : Int × Int} (h : strD p = strD q) : p = q := by
  obtain ⟨a, b⟩ := p
  obtain ⟨c, d⟩ := q
  injection h with h
  injection h with h1 h
  injection h with h2 h
  injection h1 with h1
  injection h2 with h2
  have h1' : a = c := h1
  have h2' : b = d := h2
  rw [h1', h2']
theorem strDs_inj : ∀ {ps qs : List (Int × Int)}, ps.map strD = qs.map strD → ps = qs
  | [], [], _ => rfl
  | [], _ :: _, h => by cases h
  | _ :: _, [], h => by cases h
  | p :: ps, q :: qs, h => by
    rw [List.map_cons, List.map_cons] at h
    injection h with h1 h2
    rw [strD_inj h1, strDs_inj h2]
theorem rowD_inj {r q : Rw} (h : rowD r = rowD q) : r = q := by
  obtain ⟨n, ps, b⟩ := r
  obtain ⟨n', ps', b'⟩ := q
  injection h with h
  injection h with h1 h
  injection h with h2 h
  injection h with h3 h
  injection h1 with h1
  injection h2 with h2
  have e1 : n = n' := h1
  have e2 : ps = ps' := strDs_inj h2
  have e3 : b = b' := strD_inj h3
  rw [e1, e2, e3]
theorem rows_inj : ∀ {rs qs : List Rw}, rs.map rowD = qs.map rowD → rs = qs
  | [], [], _ => rfl
  | [], _ :: _, h => by cases h
  | _ :: _, [], h => by cases h
  | p :: ps, q :: qs, h => by
    rw [List.map_cons, List.map_cons] at h
    injection h with h1 h2
    rw [rowD_inj h1, rows_inj h2]
theorem noLs_app {ds : List PyData} {d : PyData} (h : noLs ds = true) (hd : noL d = true) : noLs (ds ++ [d]) = true := by
  induction ds with
  | nil => simp only [List.nil_append, noLs, hd]; rfl
  | cons e ds ih =>
    obtain ⟨h1, h2⟩ := Bool.and_eq_true_iff.mp (show (noL e && noLs ds) = true by simpa only [noLs] using h)
    rw [List.cons_append]
    simp only [noLs]
    rw [h1, ih h2]
    rfl
theorem strs_dqL {K : PySem.W.Frag} {H : Hp} : ∀ {ns : List Str}, (∀ x ∈ ns, x.length ≤ 5000) → DqAll K H (ns.map V.str) (ns.map PyData.str)
  | [], _ => .nil
  | x :: ns, h => .cons (.str x (h x (List.mem_cons_self ..))) (strs_dqL fun y hy => h y (List.mem_cons_of_mem _ hy))
section
variable {P : Program} {w : World} {K : PySem.W.Frag} {mg : Str → Option Value} {base : Heap} {C fI fE fS fL fB fN fUn fRo pUn pRo pNa CU CR CT fT : Addr} {fdI fdS fdT fdT2 : FuncData}
abbrev NRead5 : List Str := ["cls", "text", "first", "others", "unknowns", "rows", "system", "line"]
theorem scRead5 : FnScope NRead5 ["cls", "text"] (defScope mSystemRead) := ⟨rfl, rfl, rfl, by decide +kernel, rfl, by decide +kernel, by decide +kernel⟩
theorem ok_readX {f fR : Addr} {fd fdR : FuncData} (F : FnM K "read" "System.read" mSystemRead [] f fd) (B : Bn mg) (E1 : SysE K C fI fE fS fL fB fN fUn fRo pUn pRo pNa)
    (gR : mg "row_in" = some (.ref fR)) (GR : FnOk P w K mg base CX0 2 fR fdR ["line"] (spRowAny K)) (kR : PySem.W.keepIn K (.ref fR) = true) (bR : Binds K fdR ["line"] [])
    (GX : FnOk P w K mg base (L2N.CX P w) 5 fI fdI ["self", "unknowns", "rows"] (spInitX K C CU CR)) (bI : Binds K fdI ["self", "unknowns", "rows"] [])
    (GS : FnOk P w K mg base CX0 2 fS fdS ["self"] (spStr K C)) (bS : Binds K fdS ["self"] [])
    (gU : mg "InvalidUnknowns" = some (.ref CU)) (gW : mg "InvalidRows" = some (.ref CR)) (aU : PySem.W.exmAny K (.ref CU) [.ref CU, .ref CR] = some true) (aR : PySem.W.exmAny K (.ref CR) [.ref CU, .ref CR] = some true)
    (ET : ErrX P w K mg base CT fT fdT "given" "InvalidText") (EH : ErrH P w K mg base CT fT fdT "given" "InvalidText") :
    FnOk P w K mg base (L2.CX P w) 7 f fd ["cls", "text"] (spReadX K C CT) := by
  refine F.ok scRead5 (fun vs H Q E h => ?_) (fun cdv A outer s H vs Q E hr h => ?_)
  · obtain ⟨v, d, rfl, _⟩ := h
    rfl
  · obtain ⟨v, d, rfl, hd, hstr, hE, q⟩ := h
    have nd := scRead5.nd
    have hr2 : Room 2 _ := hr.mono (by decide)
    have hr4 : Room 4 _ := hr.mono (by decide)
    refine ⟨_, pss_cons (ps_if (pt_not (pt_val (pe_callB call_isi (by rfl) B.isi PyProof.Rows.boot_isinstance (pa_cons (pv 1) (pa_cons (pe_bltn (v := .ty "str") (by rfl) B.str (by decide +kernel) rfl) pa_nil))))) (pss_one (ps_errX ET hr2 (takes_of rfl rfl rfl rfl) (pa_cons (pv 1) pa_nil))) pss_nil)
      (pss_cons (ps_asg (pe_split (pv 1) pe_str) (pg_star1 rfl (pgs_cons (pg_name (i := 2) nd rfl (.inl rfl)) (pgs_star (pg_name (i := 3) nd rfl (.inl rfl))))))
      (pss_cons (ps_set (i := 4) nd rfl (.inl rfl) (pe_callTy call_tuple_of (by rfl) B.tup (by decide +kernel) (pa_cons (pe_slice sl_list (pe_split (pv 2) pe_str) (po_some pe_int) po_none) pa_nil)))
      (pss_cons (ps_set (i := 5) nd rfl (.inl rfl) (pe_callTy call_tuple_of (by rfl) B.tup (by decide +kernel) (pa_cons (pe_lc (own := [("line", 7)]) (g := gName 7) (tt := tYes) rfl nd (pi_list (pv 3))
        (blkOk_by (own := [("line", 7)]) (N := NRead5) (sc := defScope mSystemRead) (by decide +kernel)) (fun _ _ _ _ _ => pg_name (i := 7) nd rfl (Or.inl rfl)) (fun _ _ _ _ _ => pts_nil)
        (fun _ _ _ _ _ => pe_call GR hr2 rfl gR kR bR .nil pass0 (pa_cons (pv 7) pa_nil))) pa_nil)))
      (pss_cons (ps_try_2X rfl rfl ⟨rfl, by decide, .inl gU⟩ ⟨rfl, by decide, .inl gW⟩ (L2H.passesAt_of rfl) (takes_of rfl rfl rfl rfl)
        (fun W pn xe tkW _ => pss_one (ps_set (i := 6) nd rfl (.inl rfl) (pe_makeLS (i := 0) (E := WE W) E1.mkr GX hr rfl (by first | exact Or.inl rfl | exact Or.inr (Or.inl rfl)) bI .nil (fun σ => L2N.passAt tkW σ) (pa_cons (pv 4) (pa_cons (pv 5) pa_nil)))))
        (fun a oe cls d pn hz hf tkS hot => pss_one (ps_errF EH (L2H.roomH_mark hr2 _) hot tkS (pa_cons (pv 1) pa_nil))))
      (pss_cons (ps_if (pt_cmpR op_ne (pe_callTy (call_strO GS hr4 E1.str E1.strf bS) (by rfl) B.str (by decide +kernel) (pa_cons (pv 6) pa_nil)) (pv 1) (nomark _)) (pss_one (ps_errX ET hr2 (takes_of rfl rfl rfl rfl) (pa_cons (pv 1) pa_nil))) pss_nil)
      (pss_one (ps_ret (pv 6)))))))), ?_⟩
    refine rd_isd (i := 1) hd rfl (kit_str d) ⟨_, rfl, ?_⟩
    cases d with
    | str t =>
      cases hd with
      | str _ ht =>
      obtain ⟨at_, lt⟩ := hstr t rfl
      refine iteF ?_
      -- the lines
      refine ⟨_, rfl, ⟨_, rfl⟩, _, _, rfl, rfl, by decide +kernel, Nat.le_trans (Nat.add_le_add_right lt 2) (by decide), fun p1 h1 => ?_⟩
      have hparts := split_parts t "\n"
      have hmany := split_many t "\n" (by decide +kernel)
      have hne := split_ne t "\n"
      have hcut : ∀ ns rs, Folk ns → Lines rs ns.length → t = pageS ns rs → Txt.split t "\n" = Txt.join " " (("unknowns" : Str) :: ns) :: rs.map lineS := fun ns rs hN hL e => by
        rw [e]
        exact page_cut (m := ns.length) (folk_names hN) hL.ok
      have s1 := Same.new (o := .lst ((Txt.split t "\n").map V.str)) h1
      have e1 : upd H p1 (.lst ((Txt.split t "\n").map V.str)) p1 = some (.lst ((Txt.split t "\n").map V.str)) := upd_same
      generalize upd H p1 (.lst ((Txt.split t "\n").map V.str)) = H1 at s1 e1 ⊢
      generalize Txt.split t "\n" = ls at hparts hmany hne hcut e1
      obtain ⟨first, others, rfl⟩ : ∃ f o, ls = f :: o := by
        cases ls with
        | nil => exact absurd rfl hne
        | cons f o => exact ⟨f, o, rfl⟩
      rw [List.map_cons] at e1
      refine ⟨p1, _, _, rfl, SqL.of e1, fun p2 h2 => ?_⟩
      have s2 := Same.new (o := .lst (others.map V.str)) h2
      have e2 : upd H1 p2 (.lst (others.map V.str)) p2 = some (.lst (others.map V.str)) := upd_same
      generalize upd H1 p2 (.lst (others.map V.str)) = H2 at s2 e2 ⊢
      refine ⟨_, _, rfl, _, _, rfl, rfl, ?_⟩
      -- the unknowns
      obtain ⟨af, lf⟩ := hparts first (List.mem_cons_self ..)
      refine ⟨_, rfl, ⟨_, rfl⟩, _, _, rfl, rfl, by decide +kernel, Nat.le_trans (Nat.add_le_add_right (Nat.le_trans lf lt) 2) (by decide), fun p3 h3 => ?_⟩
      have fparts := split_parts first " "
      have fcut : ∀ ns rs, Folk ns → Lines rs ns.length → t = pageS ns rs → Txt.split first " " = ("unknowns" : Str) :: ns := fun ns rs hN hL e => by
        have := (List.cons.inj (hcut ns rs hN hL e)).1
        rw [this]
        exact folk_cut (folk_names hN)
      have s3 := Same.new (o := .lst ((Txt.split first " ").map V.str)) h3
      have e3 : upd H2 p3 (.lst ((Txt.split first " ").map V.str)) p3 = some (.lst ((Txt.split first " ").map V.str)) := upd_same
      generalize upd H2 p3 (.lst ((Txt.split first " ").map V.str)) = H3 at s3 e3 ⊢
      generalize Txt.split first " " = us at fparts fcut e3
      refine ⟨_, rfl, rd_no ⟨p3, _, rfl, SqL.of e3, fun p4 h4 => ?_⟩⟩
      have ec : cutV (us.map V.str) (some 1) none = (us.drop 1).map V.str := by
        rw [show (1 : Int) = ((1 : Nat) : Int) from rfl, cut_drop, List.map_drop]
      rw [ec]
      have s4 := Same.new (o := .lst ((us.drop 1).map V.str)) h4
      refine ⟨p4, _, rfl, .inl ⟨SqL.of upd_same, fun p5 h5 => ?_⟩⟩
      have s5 := Same.new (o := .tup ((us.drop 1).map V.str)) h5
      have e5 : upd (upd H3 p4 (.lst ((us.drop 1).map V.str))) p5 (.tup ((us.drop 1).map V.str)) p5 = some (.tup ((us.drop 1).map V.str)) := upd_same
      have s35 := s4.trans s5
      generalize upd (upd H3 p4 (.lst ((us.drop 1).map V.str))) p5 (.tup ((us.drop 1).map V.str)) = H5 at s35 e5 ⊢
      clear s4 s5
      have s25 := s3.trans s35
      have du : Dq K H5 (.ref p5) (.tuple ((us.drop 1).map PyData.str)) := .tup (SqT.of e5) (strs_dqL fun x hx => Nat.le_trans (fparts x (List.mem_of_mem_drop hx)).2 (Nat.le_trans lf lt))
      -- the rows
      have e2' := s25 _ _ e2
      refine ⟨_, rfl, p2, rfl, ⟨_, SqL.of e2'⟩, fun D hD => ?_⟩
      refine lc_it (walk_list (K := K) (a := p2) (xs := others.map V.str)) (fun i H' => Same H5 H' ∧ ∃ zs ds, H' D = some (.lst zs) ∧ DqAll K H' zs ds ∧ noLs ds = true ∧ WordsAre RowTells (others.take i) ds) ⟨Same.new hD, [], [], upd_same, .nil, rfl, WordsAre.nil⟩ (fun i H' hi p => SqL.of (p.1 _ _ e2')) ?_ ?_
      · rintro i z _ H6 hi ⟨s6, zs, ds, bD, dzs, nl, we⟩ ⟨rfl, hz⟩
        obtain ⟨x, hx, rfl⟩ : ∃ x, others[i]? = some x ∧ z = .str x := by
          replace hz : (others.map V.str)[i]? = some z := hz
          rw [List.getElem?_map] at hz
          cases e : others[i]? with
          | none => rw [e] at hz; cases hz
          | some x => rw [e] at hz; exact ⟨x, rfl, (Option.some.inj hz).symm⟩
        obtain ⟨pa, pl⟩ := hparts x (List.mem_cons_of_mem _ (List.mem_of_getElem? hx))
        refine ⟨rfl, rdYes ⟨_, rfl, x, rfl, pa at_, Nat.le_trans pl lt, fun H7 z d s7 dz nd' ex => ?_⟩⟩
        have b7 := s7 _ _ bD
        have kD : ∀ zs : List V, Kept D H7 (upd H7 D (.lst zs)) := fun zs b o n e => by rw [upd_ne n]; exact e
        refine ⟨_, b7, ?_, fun b o e => ?_, zs ++ [z], ds ++ [d], upd_same, (DqAll.but b7 (kD _) nl (dzs.same s7)).app (.cons (Dq.but b7 (kD _) nd' dz) .nil), noLs_app nl nd', we.snoc hx ex⟩
        · rw [dzs.len, we.1, List.length_take]
          exact Nat.lt_of_le_of_lt (show _ ≤ 5001 by simp only [List.length_cons] at hmany; omega) (by decide)
        · rw [upd_ne (ne_of_none e hD)]
          exact s7 _ _ (s6 _ _ e)
      rintro H6 ⟨s6, zs, ds, bD, dzs, nl, we⟩
      rw [List.length_map, List.take_length] at we
      refine ⟨D, _, rfl, .inl ⟨SqL.of bD, fun p7 h7 => ?_⟩⟩
      have s7 := Same.new (o := .tup zs) h7
      have dr : Dq K (upd H6 p7 (.tup zs)) (.ref p7) (.tuple ds) := .tup (SqT.of upd_same) (dzs.same s7)
      have s57 := s6.trans s7
      generalize upd H6 p7 (.tup zs) = H7 at s57 dr ⊢
      clear s7
      have du7 := du.same s57
      have s07 := s1.trans (s2.trans (s25.trans s57))
      -- what a page tells
      have hpage : ∀ ns rs, Folk ns → Lines rs ns.length → t = pageS ns rs → (us.drop 1).map PyData.str = ns.map PyData.str ∧ ds = rs.map rowD := fun ns rs hN hL e => by
        refine ⟨by rw [fcut ns rs hN hL e]; rfl, ?_⟩
        have eo : others = rs.map lineS := (List.cons.inj (hcut ns rs hN hL e)).2
        rw [eo] at we
        obtain ⟨w1, w2⟩ := we
        rw [List.length_map] at w1
        apply List.ext_getElem?
        intro i
        by_cases hi : i < rs.length
        · have hi2 : i < ds.length := by omega
          rw [List.getElem?_map, List.getElem?_eq_getElem hi, List.getElem?_eq_getElem hi2]
          have := w2 i (lineS rs[i]) ds[i] (by rw [List.getElem?_map, List.getElem?_eq_getElem hi]; rfl) (List.getElem?_eq_getElem hi2) rs[i] ns.length (hL.ok _ (List.getElem_mem hi)) hN.hi rfl
          rw [this]
          rfl
        · rw [List.getElem?_eq_none (by omega), List.getElem?_eq_none (by rw [List.length_map]; omega)]
      have refused : (∀ ns rs, Folk ns → Lines rs ns.length → t ≠ pageS ns rs) → ∀ {H'}, Same H H' → ErrW E H' CT "given" (.str t) := fun hn {H'} s' => (hE fun ⟨ns, rs, hN, hL, e⟩ => hn ns rs hN hL (PyData.str.inj e)).on s'
      -- the system
      refine ⟨rfl, _, rfl, _, rfl, ?_⟩
      intro y dy hy hdy ne
      have sn := made_new (C := C) hy hdy
      refine ⟨y, dy, .ref p5, .ref p7, .tuple ((us.drop 1).map PyData.str), .tuple ds, rfl, upd_same, du7.same sn, dr.same sn, fun i hi => ?_, fun i hu hi => ?_, fun hu hr' H11 k11 x11 => ⟨rfl, ?_⟩⟩
      · refine fun d9 H9 n9 s9 e9 => ⟨aU, fun a9 na9 => ⟨_, rfl, _, rfl, refused (fun ns rs hN hL e => ?_) (s07.trans (sn.trans s9))⟩⟩
        rw [(hpage ns rs hN hL e).1] at hi
        have := folk_ok hN
        rw [show unkSlip (.tuple (ns.map PyData.str)) = none from this] at hi
        cases hi
      · refine fun d9 H9 n9 s9 e9 => ⟨aR, fun a9 na9 => ⟨_, rfl, _, rfl, refused (fun ns rs hN hL e => ?_) (s07.trans (sn.trans s9))⟩⟩
        obtain ⟨g1, g2⟩ := hpage ns rs hN hL e
        rw [g1, g2] at hi
        have el : lenD (.tuple (ns.map PyData.str)) = ns.length := List.length_map ..
        rw [el] at hi
        have := lines_ok hL
        rw [show rowsSlip (.tuple (rs.map rowD)) ns.length = none from this] at hi
        cases hi
      · obtain ⟨ns, en, hN⟩ := folk_of hu
        have el : lenD (.tuple ((us.drop 1).map PyData.str)) = ns.length := by rw [en]; exact List.length_map ..
        rw [el] at hr'
        obtain ⟨rs, er, hL⟩ := lines_of hr'
        rw [en] at du7
        rw [er] at dr
        have s11 := made_same hy hdy k11
        have hY : SysAt K C H11 y ns rs := ⟨hN, hL, dy, .ref p5, .ref p7, x11, du7.same s11, dr.same s11⟩
        refine ⟨_, rfl, y, dy, _, rfl, x11, y, ns, rs, rfl, hY, fun H12 s12 => ⟨_, rfl, ?_⟩⟩
        have s012 := s07.trans (s11.trans s12)
        refine ⟨_, rfl, rfl, _, rfl, ?_⟩
        by_cases ct : pageS ns rs = t
        · rw [decide_eq_true (show V.str (pageS ns rs) = V.str t by rw [ct])]
          exact iteF ⟨_, rfl, q ns rs hN hL (by rw [ct]) H12 y s012 (hY.same s12)⟩
        · rw [decide_eq_false (show ¬ V.str (pageS ns rs) = V.str t from fun z => ct (V.str.inj z))]
          refine iteT ⟨_, rfl, _, rfl, refused (fun ns' rs' hN' hL' e => ct ?_) s012⟩
          obtain ⟨g1, g2⟩ := hpage ns' rs' hN' hL' e
          have e1' : folkD ns' = folkD ns := by rw [← en, g1]; rfl
          have e2' : rs'.map rowD = rs.map rowD := by
            have : PyData.tuple ds = rowsD rs := er
            injection this with this
            rw [← g2, this]
          rw [e, folk_inj e1', rows_inj e2']
    | _ => exact iteT ⟨_, rfl, _, rfl, hE fun ⟨_, _, _, _, e⟩ => by cases e⟩
end
end Ca
set_option Elab.async false
set_option linter.all false
set_option maxRecDepth 100000
set_option maxHeartbeats 8000000
namespace Ca
open PySem L2
/-! ### `_law_is_name` -/
/-- the signs that the law's own test holds -/
def sigS : Str := match defBody sLawIsName with
  | .Assign _ (.Constant (.str s) _ _) _ :: _ => s
  | _ => ""
theorem sig_eq : sigS.cps.toList = LET.cps.toList ++ DIG.cps.toList := by decide +kernel
theorem sig_cut : L2.cutS sigS (some 26) none = DIG := by decide +kernel
theorem sig_in (c : Nat) : decide (c ∈ sigS.cps.toList) = isSign c := by
  rw [sig_eq]
  unfold isSign isLet
  by_cases h1 : c ∈ LET.cps.toList
  · rw [decide_eq_true (List.mem_append_left _ h1), decide_eq_true h1]
    rfl
  · rw [decide_eq_false h1, Bool.false_or]
    by_cases h2 : c ∈ DIG.cps.toList
    · rw [decide_eq_true (List.mem_append_right _ h2), decide_eq_true h2]
    · rw [decide_eq_false h2, decide_eq_false fun z => (List.mem_append.mp z).elim h1 h2]
theorem let_dig : ∀ c ∈ DIG.cps.toList, isLet c = false := by decide +kernel
abbrev NNm : List Str := ["_law_thing", "_law_signs", "_law_sign"]
theorem scNm : FnScope NNm ["_law_thing"] (defScope sLawIsName) := ⟨rfl, rfl, rfl, by decide +kernel, rfl, by decide +kernel, by decide +kernel⟩
section
variable {P : Program} {w : World} {K : PySem.W.Frag} {mg : Str → Option Value} {base : Heap}
theorem ok_lawName {f : Addr} {fd : FuncData} (F : FnT K "_law_is_name" sLawIsName f fd) (B : Bn mg) : FnOk P w K mg base CX0 1 f fd ["_law_thing"] (spIs K isNameD) := by
  refine F.ok scNm (fun vs H Q E h => ?_) (fun cdv A outer s H vs Q E hr h => ?_)
  · obtain ⟨v, d, rfl, _⟩ := h
    rfl
  · obtain ⟨v, d, rfl, hd, q⟩ := h
    have nd := scNm.nd
    have q0 := q H (fun _ _ e => e)
    have hu : (A.deeper (PyProof.Rows.envOfC "_law_is_name" (defScope sLawIsName) s.heap.objs.size f cdv)).units < cLine := Nat.lt_of_le_of_lt (Nat.le_add_right _ 64) hr.units
    refine ⟨_, PSs.nox (pss_cons (ps_cut (ps_set (i := 1) nd rfl (.inr rfl) pe_str))
      (pss_cons (ps_if (PW.pt (pw_or (pt_not (pt_val (pe_callB call_isi (by rfl) B.isi PyProof.Rows.boot_isinstance (pa_cons (pv 0) (pa_cons (pe_bltn (v := .ty "str") (by rfl) B.str (by decide +kernel) rfl) pa_nil)))))
        (pw_or (pt_not (pt_chain op_le op_le pe_int (pe_callB call_len (by rfl) B.len boot_len (pa_cons (pv 0) pa_nil)) pe_int))
        (pw_or1 (pt_cmpR op_in_sign (pe_ix ix_str (pv 0) pe_int (fun _ _ => rfl)) (pe_slice sl_str (pv 1) (po_some pe_int) po_none) (by rfl)))))) (pss_one (ps_ret pe_bl)) pss_nil)
      (pss_one (ps_ret (pe_cmpR (op_eqNilL hu) (pe_lc (own := [("_law_sign", 2)]) (g := gName 2) rfl nd (pi_str (pv 0))
          (blkOk_by (own := [("_law_sign", 2)]) (N := NNm) (sc := defScope sLawIsName) (by decide +kernel)) (fun _ _ _ _ _ => pg_name (i := 2) nd rfl (Or.inl rfl))
          (fun _ _ _ _ _ => pts_one (pt_cmpR op_notIn_sign (pv 2) (pv 1) (by rfl))) (fun _ _ _ _ _ => pv 2)) (pe_lst pa_nil) (nomark _)))))), ?_⟩
    refine ⟨fun σ' H' => σ' = [some v, some (.str sigS), none] ∧ H' = H, ⟨rfl, rfl⟩, ?_⟩
    rintro _ H0 ⟨rfl, rfl⟩
    refine rd_isd hd rfl (kit_str d) ⟨_, rfl, ?_⟩
    cases d with
    | str x =>
      cases hd with
      | str _ hx =>
        have hx2 : x.length ≤ sizeLine := Nat.le_trans hx (by decide)
        have fin0 : nameS x = false → Q (.bl false) _ := fun z => by
          have q1 : Q (.bl (nameS x)) _ := q0
          rw [z] at q1
          exact q1
        refine iteF ⟨_, rfl, _, x.length, rfl, ⟨hx2, rfl⟩, _, _, rfl, rfl, _, rfl, ?_⟩
        by_cases g1 : 1 ≤ x.length
        · rw [decide_eq_true (show (1 : Int) ≤ (x.length : Int) by omega)]
          refine iteT ⟨_, _, rfl, rfl, _, rfl, ?_⟩
          by_cases g2 : x.length ≤ 8
          · rw [decide_eq_true (show ((x.length : Nat) : Int) ≤ (8 : Int) by omega)]
            have hsz : 0 < x.cps.toList.length := by
              rw [Array.length_toList]
              exact g1
            have hc : x.cps.toList[0]? = some (x.cps.toList.getD 0 0) := by
              rw [List.getD_eq_getElem?_getD, List.getElem?_eq_getElem hsz]
              rfl
            refine iteF ⟨_, rfl, x, 0, x.cps.toList.getD 0 0, rfl, rfl, hx2, atI_nat (j := 0) hc, _, rfl, _, rfl, sigS, rfl, by decide +kernel, _, DIG, rfl, by rw [sig_cut], _, rfl, ?_⟩
            have en : nameS x = (isLet (x.cps.toList.getD 0 0) && x.cps.toList.all isSign) := by
              unfold nameS
              rw [decide_eq_true g1, decide_eq_true g2]
              rfl
            refine ite2 (fun g3 => ?_) (fun g3 => ?_)
            · exact fin0 (by rw [en, let_dig _ (of_decide_eq_true g3), Bool.false_and])
            · have nd0 : ¬ x.cps.toList.getD 0 0 ∈ DIG.cps.toList := fun z => g3 (decide_eq_true z)
              have en2 : nameS x = x.cps.toList.all isSign := by
                rw [en]
                cases ha : x.cps.toList.all isSign with
                | false => rw [Bool.and_false]
                | true =>
                  have m0 : x.cps.toList.getD 0 0 ∈ x.cps.toList := List.mem_of_getElem? hc
                  have := List.all_eq_true.mp ha _ m0
                  unfold isSign at this
                  rw [decide_eq_false nd0, Bool.or_false] at this
                  rw [this]
                  rfl
              refine ⟨_, rfl, x, rfl, fun D hD => ?_⟩
              refine lc_it walk_str (fun i H' => Same H0 H' ∧ ∃ ws, H' D = some (.lst ws) ∧ ws.length ≤ i ∧ (ws = [] ↔ (x.cps.toList.take i).all isSign = true)) ⟨Same.new hD, [], upd_same, Nat.le_refl _, by simp⟩ (fun _ _ _ _ => trivial) ?_ ?_
              · rintro i z _ H5 hi ⟨s5, ws, bD, lw, ew⟩ ⟨rfl, c, hc', rfl⟩
                have hc2 : x.cps.toList[i]? = some c := by rw [Array.getElem?_toList]; exact hc'
                have et : x.cps.toList.take (i + 1) = x.cps.toList.take i ++ [c] := by rw [List.take_succ, hc2]; rfl
                have hi2 : i < x.length := hi
                refine ⟨rfl, ⟨_, rfl, _, rfl, c, sigS, rfl, rfl, _, rfl, ?_⟩⟩
                rw [sig_in]
                cases hk : isSign c with
                | true => exact iteF ⟨s5, ws, bD, by omega, by rw [et, List.all_append, List.all_cons, hk]; simpa using ew⟩
                | false =>
                  refine iteT ⟨_, rfl, ws, bD, Nat.lt_of_le_of_lt lw (Nat.lt_trans (show i < 9 by omega) (by decide)), fun b o e => ?_, ws ++ [.str ⟨#[c]⟩], upd_same, by rw [List.length_append]; show ws.length + 1 ≤ i + 1; omega, by rw [et, List.all_append, List.all_cons, hk]; simp⟩
                  rw [upd_ne (ne_of_none e hD)]
                  exact s5 b o e
              · rintro H5 ⟨s5, ws, bD, lw, ew⟩
                refine ⟨Nat.zero_le _, fun e he => ⟨D, e, ws, rfl, rfl, SqL.of ((Same.new he) _ _ bD), SqL.of upd_same, ?_⟩⟩
                have q' := q _ (s5.trans (Same.new (o := .lst []) he))
                have eq1 : (x.cps.toList.take x.cps.size) = x.cps.toList := List.take_of_length_le (by rw [Array.length_toList]; exact Nat.le_refl _)
                rw [eq1] at ew
                have q2 : Q (.bl (nameS x)) _ := q'
                rw [en2] at q2
                cases ha : x.cps.toList.all isSign with
                | true =>
                  rw [ha] at q2
                  show Q (.bl (decide (ws = []))) _
                  rw [decide_eq_true (ew.mpr ha)]
                  exact q2
                | false =>
                  rw [ha] at q2
                  show Q (.bl (decide (ws = []))) _
                  rw [decide_eq_false (show ¬ ws = [] from fun z => by rw [ew.mp z] at ha; cases ha)]
                  exact q2
          · rw [decide_eq_false (show ¬ ((x.length : Nat) : Int) ≤ (8 : Int) by omega)]
            exact iteT (fin0 (by unfold nameS; rw [decide_eq_false g2, Bool.false_and, Bool.and_false]))
        · rw [decide_eq_false (show ¬ (1 : Int) ≤ (x.length : Int) by omega)]
          exact iteF ⟨_, rfl, iteT (fin0 (by unfold nameS; rw [decide_eq_false g1, Bool.false_and]))⟩
    | _ => exact iteT q0
end
end Ca
set_option Elab.async false
set_option linter.all false
set_option maxRecDepth 100000
set_option maxHeartbeats 8000000
namespace Ca
open PySem L2
/-! ### `_law_folk_slip`: the first wrong unknown, as the law tells it -/
def slipL : Option (Option Nat) → List V
  | none => []
  | some i => [ixV i]
def spFolkSlip (K : PySem.W.Frag) : Sp := fun vs H Q _ => ∃ v d, vs = [v] ∧ Dq K H v d ∧ lenD d ≤ 5000 ∧ ∀ H' z, Same H H' → H' z = some (.lst (slipL (unkSlip d))) → Q (.ref z) H'
abbrev NFs : List Str := ["_law_folk", "_law_k"]
theorem scFs : FnScope NFs ["_law_folk"] (defScope sLawFolkSlip) := ⟨rfl, rfl, rfl, by decide +kernel, rfl, by decide +kernel, by decide +kernel⟩
section
variable {P : Program} {w : World} {K : PySem.W.Frag} {mg : Str → Option Value} {base : Heap}
theorem ok_folkSlip {f fN : Addr} {fd fdN : FuncData} (F : FnT K "_law_folk_slip" sLawFolkSlip f fd) (B : Bn mg) (mrng : mg "range" = none)
    (gN : mg "_law_is_name" = some (.ref fN)) (GN : FnOk P w K mg base CX0 1 fN fdN ["_law_thing"] (spIs K isNameD)) (kN : PySem.W.keepIn K (.ref fN) = true) (bN : Binds K fdN ["_law_thing"] []) :
    FnOk P w K mg base CX0 2 f fd ["_law_folk"] (spFolkSlip K) := by
  refine F.ok scFs (fun vs H Q E h => ?_) (fun cdv A outer s H vs Q E hr h => ?_)
  · obtain ⟨v, d, rfl, _⟩ := h
    rfl
  · obtain ⟨v, d, rfl, hd, hl, q⟩ := h
    have nd := scFs.nd
    have hr1 : Room 1 _ := hr.mono (by decide)
    have hu : (A.deeper (PyProof.Rows.envOfC "_law_folk_slip" (defScope sLawFolkSlip) s.heap.objs.size f cdv)).units < cLine := Nat.lt_of_le_of_lt (Nat.le_add_right _ 64) hr.units
    refine ⟨_, PSs.nox (pss_cons (ps_if (PW.pt (pw_or (pt_not (pt_val (pe_callB call_isi (by rfl) B.isi PyProof.Rows.boot_isinstance (pa_cons (pv 0) (pa_cons (pe_bltn (v := .ty "tuple") (by rfl) B.tup (by decide +kernel) rfl) pa_nil)))))
        (pw_or1 (pt_cmpR (op_eqNilT hu) (pv 0) (pe_tup pa_nil) (nomark _))))) (pss_one (ps_ret (pe_lst (pa_cons pe_non pa_nil)))) pss_nil)
      (pss_cons (ps_for PassesOwn.never rfl (pi_range1 rfl mrng (pa_cons (pe_callB (call_lenK K) (by rfl) B.len boot_len (pa_cons (pv 0) pa_nil)) pa_nil)) (pg_name (i := 1) nd rfl (.inl rfl))
        (pss_one (ps_if (PW.pt (pw_or (pt_cmpR op_eq (pv 1) pe_int (nomark _)) (pw_or (pt_not (pt_val (pe_call GN hr1 rfl gN kN bN .nil pass0 (pa_cons (pe_ix ix_tup (pv 0) (pv 1) (fun _ _ => rfl)) pa_nil))))
          (pw_or (pt_cmpR op_eq (pe_ix ix_tup (pv 0) (pv 1) (fun _ _ => rfl)) pe_str (nomark _)) (pw_or1 (pt_cmpR op_in_seq (pe_ix ix_tup (pv 0) (pv 1) (fun _ _ => rfl)) (pe_slice sl_tupA (pv 0) po_none (po_some (pv 1))) (by rfl))))))) (pss_one (ps_ret (pe_lst (pa_cons (pv 1) pa_nil)))) pss_nil)))
      (pss_one (ps_ret (pe_lst pa_nil))))), ?_⟩
    have one : 1 ≤ sizeLine := by decide
    have odd : unkSlip d = some none → ∀ H', Same H H' → ∀ p, H' p = none → Q (.ref p) (upd H' p (.lst [.non])) := fun e H' s' p hp => q _ p (s'.trans (Same.new hp)) (by rw [upd_same, e]; rfl)
    refine rd_isd hd rfl (kit_tup d) ⟨_, rfl, ?_⟩
    cases d with
    | tuple ds =>
      obtain ⟨a, xs, rfl, h1, h2, hl2⟩ := tup_len hd
      refine iteF ⟨_, rfl, Nat.zero_le _, fun p1 hp1 => ?_⟩
      have s1 := Same.new (o := .tup []) hp1
      refine ⟨a, p1, xs, rfl, rfl, same_sqt s1 h1, SqT.of upd_same, _, rfl, ?_⟩
      show if decide (xs = []) = true then _ else _
      by_cases hx : xs = []
      · rw [decide_eq_true hx]
        have : ds = [] := List.eq_nil_of_length_eq_zero (by rw [← hl2, hx]; rfl)
        subst this
        exact iteT ⟨one, fun p hp => odd rfl _ s1 p hp⟩
      · rw [decide_eq_false hx]
        have us : unkSlip (.tuple ds) = (unkGo 0 [] ds).map some := by
          cases ds with
          | nil => exact absurd (List.eq_nil_of_length_eq_zero hl2) hx
          | cons x t => rfl
        have h1' := same_sqt s1 h1
        refine iteF ⟨_, rfl, _, ds.length, rfl, lenV_tup (hd.same s1), (ds.length : Int), rfl, by omega, by have : ds.length ≤ 5000 := hl; omega, ?_⟩
        refine for_it (walk_range (lo := 0) (n := ds.length)) (fun k σ' H' => k ≤ ds.length ∧ (∃ o, σ' = [some (.ref a), o]) ∧ Same H H' ∧ ∃ seen : List Str, xs.take k = seen.map V.str ∧ seen.length = k ∧ unkGo 0 [] ds = unkGo k seen (ds.drop k))
          ⟨Nat.zero_le _, ⟨_, rfl⟩, s1, [], by simp, rfl, by simp⟩ (fun _ _ _ _ _ => trivial) ?_ (fun σ' H' pp => ?_)
        · rintro k z _ H5 _ hk ⟨hkl, ⟨o, rfl⟩, s5, seen, e1, e2, e3⟩ ⟨rfl, hz⟩
          obtain rfl : z = .int (k : Nat) := by
            rw [hz]
            show V.int (0 + (k : Int)) = _
            rw [Int.zero_add]
          have hk1 : k < xs.length := by rw [hl2]; exact hk
          have h5 := same_sqt s5 h1
          have hv : xs[k]? = some xs[k] := List.getElem?_eq_getElem hk1
          obtain ⟨d, hd', dv⟩ := (h2.same s5).get hv
          have edr : ds.drop k = d :: ds.drop (k + 1) := by
            rw [List.drop_eq_getElem_cons hk]
            congr 1
            rw [List.getElem?_eq_getElem hk] at hd'
            exact Option.some.inj hd'
          rw [edr, unkGo_cons] at e3
          have stop : unkGo 0 [] ds = some k → ∀ H6, Same H H6 → ∀ p, H6 p = none → Q (.ref p) (upd H6 p (.lst [.int (k : Nat)])) := fun e H6 s6 p hp => q _ p (s6.trans (Same.new hp)) (by rw [upd_same, us, e]; rfl)
          generalize xs[k] = y at hv dv
          refine ⟨_, rfl, rfl, _, rfl, ?_⟩
          by_cases c3 : k = 3
          · rw [decide_eq_true (show V.int ((k : Nat) : Int) = V.int 3 by rw [c3]; rfl)]
            rw [if_pos c3] at e3
            exact iteT ⟨_, rfl, one, fun p hp => stop e3 _ s5 p hp⟩
          · rw [decide_eq_false (show ¬ V.int ((k : Nat) : Int) = V.int 3 from fun z => c3 (by injection z with z; omega))]
            rw [if_neg c3] at e3
            refine iteF ⟨_, rfl, _, rfl, a, _, _, _, rfl, rfl, h5, atI_nat hv, _, d, rfl, dv, fun H6 s6 => ⟨_, rfl, ?_⟩⟩
            cases hn : isNameD d with
            | false =>
              have iu : isUnknownD d = false := by
                cases d with
                | str x => exact Bool.and_eq_false_iff.mpr (.inl hn)
                | _ => rfl
              rw [if_pos iu] at e3
              exact iteT ⟨_, rfl, one, fun p hp => stop e3 _ (s5.trans s6) p hp⟩
            | true =>
              obtain ⟨x, rfl⟩ : ∃ x, d = .str x := by
                cases d with
                | str x => exact ⟨x, rfl⟩
                | _ => cases hn
              cases dv with
              | str _ xl =>
              have h6 := same_sqt s6 h5
              refine iteF ⟨_, rfl, _, rfl, a, _, _, _, rfl, rfl, h6, atI_nat hv, rfl, _, rfl, ?_⟩
              by_cases cb : x = "bound"
              · rw [decide_eq_true (show V.str x = V.str "bound" by rw [cb])]
                rw [if_pos (show isUnknownD (.str x) = false by rw [cb]; decide +kernel)] at e3
                exact iteT ⟨_, rfl, one, fun p hp => stop e3 _ (s5.trans s6) p hp⟩
              · rw [decide_eq_false (show ¬ V.str x = V.str "bound" from fun e => cb (by injection e))]
                have iu : ¬ isUnknownD (.str x) = false := by
                  show ¬ (nameS x && !decide (x = "bound")) = false
                  rw [show nameS x = true from hn, decide_eq_false cb]
                  decide
                rw [if_neg iu] at e3
                refine iteF ⟨_, rfl, _, rfl, a, _, _, _, rfl, rfl, h6, atI_nat hv, _, rfl, _, rfl, _, rfl, rd_slA h6 fun H7 b7 s7 e7 => ?_⟩
                rw [cut_take, e1] at e7
                refine ⟨b7, _, rfl, .inr e7, rfl, flat_strs seen, _, rfl, ?_⟩
                show if inV (.str x) (seen.map V.str) = true then _ else _
                rw [inV_strs]
                by_cases cm : x ∈ seen
                · rw [if_pos (show strOf (.str x) ∈ seen from cm)] at e3
                  rw [decide_eq_true cm]
                  exact iteT ⟨_, rfl, one, fun p hp => stop e3 _ (s5.trans (s6.trans s7)) p hp⟩
                · rw [if_neg (show ¬ strOf (.str x) ∈ seen from cm)] at e3
                  rw [decide_eq_false cm]
                  refine iteF ⟨hk, ⟨_, rfl⟩, s5.trans (s6.trans s7), seen ++ [x], ?_, by rw [List.length_append, e2]; rfl, e3⟩
                  rw [List.take_succ, hv, e1, List.map_append]
                  rfl
        · obtain ⟨_, ⟨o, rfl⟩, s5, seen, e1, e2, e3⟩ := pp
          refine ⟨Nat.zero_le _, fun p hp => q _ p (s5.trans (Same.new hp)) ?_⟩
          rw [upd_same, us, e3, List.drop_length]
          rfl
    | _ => exact iteT ⟨one, fun p hp => odd rfl H (fun _ _ e => e) p hp⟩
end
end Ca
set_option Elab.async false
set_option linter.all false
set_option maxRecDepth 100000
set_option maxHeartbeats 4000000
namespace Ca
open PySem PySem.Spec PyProof.Rows L2
/-! ### defs called where an error is handled, which is looked at there -/
structure FnP (P : Program) (w : World) (K : PySem.W.Frag) (mg : Str → Option Value) (base : Heap) (k : Nat) (f : Addr) (fd : FuncData) (ps : List Str) (sp : Addr × Obj → Sp) : Prop where
  len : ∀ p vs H Q E, sp p vs H Q E → vs.length = ps.length
  run : ∀ (A : Around) (outer : List Env) (s : Shared) (H : Hp) (args : Args) (us : List Value) (vs : List V) (Q : VK) (p : Addr × Obj), A.guards = some [] → L2H.RoomH k A → L2H.PinOk outer H s p → Env0 P w K mg base A outer s H → BindsTo s fd args (ps.zip us) → Vals vs us → sp p vs H Q E0 →
    codeAny (model P w) A (.call (.ref f) args) (CR CX0 outer P w H s Q E0) s
theorem fnP_of {P : Program} {w : World} {K : PySem.W.Frag} {mg : Str → Option Value} {base : Heap} {k : Nat} {f : Addr} {x qual : Str} {params : Arguments} {body : List Stmt} {scope : Scope} {dvs : List V} {kws : List (Str × V)} {fd : FuncData} {N ps : List Str} {sp : Addr × Obj → Sp}
    (F : FunD K x qual params body scope dvs kws f fd) (S : FnScope N ps scope) (len : ∀ p vs H Q E, sp p vs H Q E → vs.length = ps.length)
    (hbody : ∀ (cdv : Value) (A : Around) (outer : List Env) (s : Shared) (H : Hp) (vs : List V) (Q : VK) (p : Addr × Obj), (A.deeper (envOfC qual scope s.heap.objs.size f cdv)).guards = some [] → L2H.RoomH k (A.deeper (envOfC qual scope s.heap.objs.size f cdv)) → sp p vs H Q E0 →
      ∃ t, PSs (L2H.cxH CX0 P w K mg base N qual scope f cdv A outer s H E0 p) body t ∧ t { nx := fun _ H' => Q .non H', rt := Q } (start N vs) H) :
    FnP P w K mg base (k + 1) f fd ps sp := by
  obtain ⟨oc, od, dV, kV, doc, pm, an, cdv, ct, osl, rfl, lk, hcd, _, _⟩ := F.ex
  refine ⟨len, fun A outer s H args us vs Q p hgd hr hpin e0 hb r hsp => ?_⟩
  have hl := len _ _ _ _ _ hsp
  have KX : K.In s.heap := e0.mod.kin.keeps fun b o e => (e0.bs b o e).1
  have lim : s.heap.NoLimit := e0.mod.nolimit.keeps fun b o e => (e0.bs b o e).1
  have hkind : ∀ y ∈ ps.zip us, scope.names.lookup y.1 = some .local ∨ (scope.names.lookup y.1 = some .cell ∧ ((cellsFrom (s.heap.objs.size + 1) scope.names []).lookup y.1).isSome = true) := fun ⟨n, v⟩ hy => by
    rcases S.par n (List.of_mem_zip hy).1 with q | q
    · exact .inl q
    · exact .inr ⟨q, PySem.W.cellsFrom_some _ _ _ (.inl q)⟩
  refine codeAny_call_function hr.depth (KX _ _ lk) rfl S.co S.gen rfl (PySem.W.codeRec_of KX hcd) (hb _ _ _ _ ?_)
  refine wpAny_newFunctionEnv_cells S.kind hkind fun env he s1 x => ?_
  subst he
  refine ⟨lim.keeps x.toInCall.keep, codeAny_func ?_⟩
  obtain ⟨t, ht, hq⟩ := hbody cdv A outer s H vs Q p (guards_deeper hgd _) (hr.deeper _) hsp
  have I : Inv (L2H.cxH CX0 P w K mg base N qual scope f cdv A outer s H E0 p) [] (L2.start N vs) H s1 := L2H.inv_startH S hpin e0 hl r x
  refine wpAny_mono (ht.run [] s1 (L2.start N vs) H _ I hq) (fun fl s' hs => ?_) fun e s' hs => hs
  have fin : ∀ {σ' : L2.St} {H' : Hp} {v : V} {u : Value}, Inv (L2H.cxH CX0 P w K mg base N qual scope f cdv A outer s H E0 p) [] σ' H' s' → RelV v u → Q v H' → CE outer P w H s Q u s' :=
    fun {σ' H' v u} J rv q => ⟨v, H', J.os, J.bare, J.base, J.hok, rv, q⟩
  cases fl with
  | ret u =>
    obtain ⟨v, σ', H', J, rv, q⟩ := hs
    exact fin J rv q
  | next =>
    obtain ⟨σ', H', J, q⟩ := hs
    exact fin (v := V.non) (u := Value.none) J rfl q
  | brk =>
    obtain ⟨_, _, _, q⟩ := hs
    exact False.elim q
  | cont =>
    obtain ⟨_, _, _, q⟩ := hs
    exact False.elim q
section
variable {X : Cx} {k : Nat} {f : Addr} {fd : FuncData} {ps : List Str} {sp : Addr × Obj → Sp} {x : Str} {q pos : Pos} {e : Expr} {es : List Expr} {t : TA} {p : Addr × Obj}
theorem pe_callP (F : FnP X.prog X.w X.K X.mg X.base k f fd ps sp) (hgd : X.A.guards = some []) (hr : L2H.RoomH k X.A) (hp : p ∈ X.pn) (hm : X.mg x = some (.ref f)) (hk : PySem.W.keepIn X.K (.ref f) = true) (hb : Binds X.K fd ps [])
    (ha : PA X (e :: es) t) (hg : Gl X x := by rfl) (hdb : (x == ("__debug__" : Str)) = false := by decide) (he : starEach (e :: es) X.env = (false, eval e X.env) :: starEach es X.env := by rfl) (hpl : (backTo pos (starEach es X.env)).any (·.1) = false := by rfl) :
    PE X (.Call (.Name x q) (e :: es) [] pos) (tCall (sp p) [] E0 t) := by
  refine ⟨fun pins s σ H Q I h => ?_⟩
  refine wpAny_Call_Name_kw (ld_glob I hg hm ?_ hdb)
  refine PySem.W.callWith_K (h₀ := X.base) I.ok.mod.kin hk (thn (ha.run pos pins s σ H _ I h) fun us s1 ⟨vs, H1, I1, r, q⟩ => ⟨I1.kIn, ?_⟩) he hpl
  replace q : sp p (vs ++ []) H1 Q E0 := q
  rw [List.append_nil] at q
  have hl : us.length = ps.length := by rw [← r.length]; exact F.len _ _ _ _ _ q
  have bd := hb s1 us I1.kIn (by rw [List.append_nil]; exact hl)
  rw [List.append_nil] at bd
  have P1 := I1.pin p (List.mem_append_left _ hp)
  have hpin : L2H.PinOk X.stack H1 s1 p := ⟨P1.1, P1.2.1, fun hm => (List.mem_cons.mp (I1.stkSub p.1 hm)).elim P1.2.2.1 P1.2.2.2.1, P1.2.2.2.2⟩
  show wpAny _ _ (call (.ref f) us) _ _ _
  refine wpAny_call (codeAny_mono (F.run X.A X.stack s1 H1 ⟨us, []⟩ us vs Q p hgd hr hpin I1.env0 bd r q) fun r s' hq => ?_)
  cases r with
  | error e => exact hq.elim
  | ok fl =>
    cases fl with
    | ret u => exact I1.after hq
    | next => exact False.elim hq
    | brk => exact False.elim hq
    | cont => exact False.elim hq
/-! ### the error looked at -/
/-- the error's object: an instance of D with its own dict at d -/
structure ErrO (p : Addr × Obj) (D d : Addr) : Prop where
  z : Zc (.ref D) (some d) p.2
  f : ∃ vs, p.2.data = .fields vs
theorem errO_at {pins : List (Addr × Obj)} {σ : L2.St} {H : Hp} {s : Shared} {D d : Addr} {fs : List (Str × V)} (hp : p ∈ X.pn) (I : Inv X pins σ H s) (O : ErrO p D d) (hd : H d = some (.xd fs)) :
    ∃ (od : Obj) (mA : Str → Option Value), PySem.W.InstAt s.heap p.1 p.2 D (some od) ∧ s.heap.get? d = some od ∧ (∀ f, PySem.W.lookIn f od = some (mA f)) ∧ ∀ f, RelO (fs.lookup f) (mA f) := by
  obtain ⟨ha, _⟩ := I.pin p (List.mem_append_left _ hp)
  obtain ⟨vs, hv⟩ := O.f
  have hx : ObjOk X.prog X.w H s.heap d (.xd fs) := I.hok d _ hd
  obtain ⟨mA, hns, hr⟩ := hx
  obtain ⟨od, ho, hl⟩ := lookIn_ns hns
  exact ⟨od, mA, ⟨ha, O.z.1, by unfold PySem.W.notCls; rw [hv] <;> rfl, by rw [O.z.2]; exact ho⟩, ho, hl, hr⟩
def rIsP (K : PySem.W.Frag) (p : Addr × Obj) : List V → Hp → VK → Prop := fun xs H Q => ∃ (D d : Addr) (fs : List (Str × V)) (c : V) (cv : Value) (b : Bool), xs = [.ref p.1, c] ∧ ErrO p D d ∧ H d = some (.xd fs) ∧ ExcC K D ∧ (∀ u, RelV c u → u = cv) ∧ PySem.W.kitOne K (.ref D) cv = some b ∧ Q (.bl b) H
theorem call_isP (hp : p ∈ X.pn) : CallR X (.builtin "isinstance") (rIsP X.K p) := by
  intro pins s σ H xs us Q I r h
  obtain ⟨D, d, fs, c, cv, b, rfl, O, hd, C, hcv, e, q⟩ := h
  cases r with
  | cons ra rr =>
    cases rr with
    | cons rc rr =>
      cases rr
      cases ra
      have ec := hcv _ rc
      subst ec
      obtain ⟨cd, hcd, _⟩ := PySem.W.any_some C.hd
      have some' : (PySem.W.clsIn X.K D).isSome = true := by
        rw [hcd]
        rfl
      obtain ⟨od, mA, J, _⟩ := errO_at hp I O hd
      exact PySem.W.kia_one (PySem.W.kitx_exc (od := some od) some' C.hg C.hk C.hs C.ha C.hn C.ht C.hm) I.kIn J e (fun z => nomatch z) fun tk => ⟨.bl b, H, I.tok tk, rfl, q⟩
/-- e.f, e the error -/
def tXp (K : PySem.W.Frag) (p : Addr × Obj) (f : Str) (te : TE) : TE := fun σ H Q => te σ H fun y H1 => y = .ref p.1 ∧ ∃ (D d : Addr) (fs : List (Str × V)) (v : V), ErrO p D d ∧ H1 d = some (.xd fs) ∧ XfC K D ∧ PySem.W.findIn K (.ref D) f = some none ∧ fs.lookup f = some v ∧ Q v H1
theorem pe_xp {f : Str} {te : TE} (hp : p ∈ X.pn) (he : PE X e te) (hb : attributeBase e f X.env (eval e X.env) = eval e X.env := by rfl) : PE X (.Attribute e f pos) (tXp X.K p f te) := by
  refine ⟨fun pins s σ H Q I h => ?_⟩
  refine attr_of hb (thn (he.run pins s σ H _ I h) fun u s1 z => ?_)
  obtain ⟨y, H1, I1, ry, ey, D, d, fs, v, O, hd, T, no, hv, q⟩ := z
  subst ey
  obtain rfl : u = Value.ref p.1 := ry
  obtain ⟨od, mA, J, _, hl, rel⟩ := errO_at hp I1 O hd
  have rf := rel f
  rw [hv] at rf
  obtain ⟨w', hw, rw'⟩ := RelO.some_of rf
  exact PySem.HandSPX.exc_get (od := some od) I1.kIn J T.ga T.gg T.exC (PySem.W.findObj_own T.hdC no rfl (by rw [hl, hw])) (handed_of rw') ⟨v, H1, I1.tok _, rw', q⟩
end
/-! ### how often a truth value stands in a list -/
def eqbV (b : Bool) (v : Value) : Bool := match v with
  | .bool c => c == b
  | _ => false
theorem vals_bools : ∀ {bs : List Bool} {us : List Value}, Vals (bs.map V.bl) us → us = bs.map Value.bool
  | [], _, .nil => rfl
  | b :: bs, _, .cons r t => by
    cases r
    rw [vals_bools t]
    rfl
theorem eqbV_count (b : Bool) : ∀ bs : List Bool, (bs.map Value.bool).countP (eqbV b) = bs.count b
  | [] => rfl
  | c :: bs => by
    rw [List.map_cons, List.countP_cons, List.count_cons, eqbV_count b bs]
    rfl
def rCntB (K : PySem.W.Frag) : V → List V → Hp → VK → Prop := fun x xs H Q => ∃ (p : Addr) (bs : List Bool) (b : Bool), x = .ref p ∧ xs = [.bl b] ∧ SqL K H p (bs.map V.bl) ∧ Q (.int (bs.count b : Nat)) H
theorem mt_lcountB {X : Cx} : MtR X "list.count" (rCntB X.K) := by
  intro pins s σ H x xs v us Q I rx rxs h
  obtain ⟨p, bs, b, rfl, rfl, hs, q⟩ := h
  cases rx
  obtain ⟨u, rfl, ru⟩ := rxs.one
  cases ru
  obtain ⟨its, rv, ⟨⟨cls, dd, data, sl⟩, n, ho, hc, hdn, hd⟩, hlen⟩ := I.list hs
  simp only at hc hd
  subst hc hd
  obtain rfl := vals_bools rv
  refine call_meets PySem.F.slot_list_count ⟨_, ho, rfl⟩ PySem.F.entry_list_count (PySem.F.args_list_count_2 _ _)
    (SeqAt.list_countAt p (bs.map Value.bool).toArray n dd sl (.bool b) (eqbV b)) ⟨ho, fun y hy => ?_, ?_⟩
  · obtain ⟨c, _, rfl⟩ := List.mem_map.mp (show y ∈ bs.map Value.bool by simpa using hy)
    exact SeqAt.EqAt.bool_bool c b
  · refine ⟨.int (bs.count b : Nat), H, I.tok _, ⟨s.toks, ?_⟩, q⟩
    show Value.int (((bs.map Value.bool).toArray.toList.countP (eqbV b) : Nat) : Int) s.toks = Value.int ((bs.count b : Nat) : Int) s.toks
    rw [show (bs.map Value.bool).toArray.toList = bs.map Value.bool from rfl, eqbV_count]
end Ca
set_option Elab.async false
set_option linter.all false
set_option maxRecDepth 100000
set_option maxHeartbeats 8000000
namespace Ca
open PySem L2
/-! ### what the law tells of an error -/
structure SlipF (K : PySem.W.Frag) (mg : Str → Option Value) (B0 B1 B2 C1 : Addr) : Prop where
  b0 : mg "BadValue" = some (.ref B0)
  b1 : mg "BadName" = some (.ref B1)
  b2 : mg "NoAnswer" = some (.ref B2)
  c1 : mg "InvalidText" = some (.ref C1)
  isi : mg "isinstance" = none
  ve : mg "ValueError" = none
  le : mg "LookupError" = none
  ae : mg "ArithmeticError" = none
  len : mg "len" = none
  rep : mg "repr" = none
/-- an error of the class D, which is under the first base alone -/
structure SlipD (K : PySem.W.Frag) (B0 B1 B2 D : Addr) (f : Str) : Prop where
  isC : ExcC K D
  fld : XfC K D
  no : PySem.W.findIn K (.ref D) f = some none
  b0 : PySem.W.kitOne K (.ref D) (.ref B0) = some true
  b1 : PySem.W.kitOne K (.ref D) (.ref B1) = some false
  b2 : PySem.W.kitOne K (.ref D) (.ref B2) = some false
  v0 : PySem.W.kitOne K (.ref D) (.type "ValueError") = some true
  v1 : PySem.W.kitOne K (.ref D) (.type "LookupError") = some false
  v2 : PySem.W.kitOne K (.ref D) (.type "ArithmeticError") = some false
mutual
theorem dpOn {K : PySem.W.Frag} {H H' : Hp} (s : Same H H') : ∀ {d : PyData} {v : V}, Dp K H v d → Dp K H' v d
  | .none, _, h => by cases h; exact .non
  | .bool b, _, h => by cases h; exact .bl b
  | .int i, _, h => by cases h; exact .int i
  | .str x, _, h => by cases h; exact .str x
  | .list ds, _, h => by
    cases h with
    | lst a b => exact .lst (s.seq a) (dpAllOn s b)
  | .tuple ds, _, h => by
    cases h with
    | tup a b => exact .tup (same_sqt s a) (dpAllOn s b)
  | .dict ds, _, h => by cases h
theorem dpAllOn {K : PySem.W.Frag} {H H' : Hp} (s : Same H H') : ∀ {ds : List PyData} {vs : List V}, DpAll K H vs ds → DpAll K H' vs ds
  | [], _, h => by cases h; exact .nil
  | d :: ds, _, h => by
    cases h with
    | cons a b => exact .cons (dpOn s a) (dpAllOn s b)
end
theorem Good.on {K : PySem.W.Frag} {H H' : Hp} {v : V} {d : PyData} (g : Good K H v d) (s : Same H H') : Good K H' v d := by
  obtain ⟨r, g⟩ := g
  refine ⟨?_, g⟩
  cases r with
  | dat D sd => exact .dat (dpOn s D) sd
  | dic h D nd => exact .dic (s _ _ h) (dpAllOn s D) nd
  | dee SM D => exact .dee SM (De.mono (fun b o e _ => s b o e) D)
theorem rd_isP {K : PySem.W.Frag} {p : Addr × Obj} {σ : L2.St} {H : Hp} {Q : VK} {D d : Addr} {fs : List (Str × V)} {c : V} {cv : Value} {b : Bool} (hσ : σ[0]? = some (some (.ref p.1))) (O : ErrO p D d) (hd : H d = some (.xd fs)) (hC : ExcC K D) (hcv : ∀ u, RelV c u → u = cv)
    (kit : PySem.W.kitOne K (.ref D) cv = some b) (q : Q (.bl b) H) : tCB (rIsP K p) (tCons (tVar 0) (tCons (tC c) tNil)) σ H Q := ⟨_, hσ, D, d, fs, c, cv, b, rfl, O, hd, hC, hcv, kit, q⟩
theorem shaped3 : SeqAt.shaped (.list [.bool true, .bool false, .bool false]) = true := by decide +kernel
theorem eqv3 : PyData.eqv (.list [.bool true, .bool false, .bool false]) (.list [.bool true, .bool false, .bool false]) = true := by decide +kernel
def Known (K : PySem.W.Frag) (C1 D : Addr) (f nm : Str) : Prop := (f = "given" ∧ nm = "InvalidText" ∧ PySem.W.kitOne K (.ref D) (.ref C1) = some true)
def spSlip (K : PySem.W.Frag) (B0 B1 B2 C1 : Addr) : Addr × Obj → Sp := fun p vs H Q _ => ∃ (D d : Addr) (f nm : Str) (v : V) (dat : PyData), vs = [.ref p.1] ∧ ErrO p D d ∧ H d = some (.xd [(f, v)]) ∧ SlipD K B0 B1 B2 D f ∧ Known K C1 D f nm ∧ Good K H v dat ∧
  ∀ H' q, Same H H' → H' q = some (.lst [.str nm, .str dat.shown]) → Q (.ref q) H'
section
variable {P : Program} {w : World} {K : PySem.W.Frag} {mg : Str → Option Value} {base : Heap} {B0 B1 B2 C1 : Addr}
abbrev NSl : List Str := ["_law_e", "_law_bases", "_law_kinds_here", "_law_found"]
theorem scSlip : FnScope NSl ["_law_e"] (defScope sLawSlip) := ⟨rfl, rfl, rfl, by decide +kernel, rfl, by decide +kernel, by decide +kernel⟩
theorem ok_slip {fa : Addr} {fd : FuncData} (F : FnT K "_law_slip" sLawSlip fa fd) (T : SlipF K mg B0 B1 B2 C1) : FnP P w K mg base 1 fa fd ["_law_e"] (spSlip K B0 B1 B2 C1) := by
  refine fnP_of F scSlip (fun p vs H Q E h => ?_) (fun cdv A outer s H vs Q p hgd hr h => ?_)
  · obtain ⟨D, d, f, nm, v, dat, rfl, _⟩ := h
    rfl
  · obtain ⟨D, d, f, nm, v, dat, rfl, O, hd, SD, Kn, G, q⟩ := h
    have nd := scSlip.nd
    have hun := hr.un
    have hu64 : (A.deeper (PyProof.Rows.envOfC "_law_slip" (defScope sLawSlip) s.heap.objs.size fa cdv)).units + 64 < cLine := by omega
    have hu : (A.deeper (PyProof.Rows.envOfC "_law_slip" (defScope sLawSlip) s.heap.objs.size fa cdv)).units + 200 < cLine := by omega
    refine ⟨_, pss_cons (ps_set (i := 1) nd rfl (.inl rfl) (pe_lst (pa_cons (pe_callB (call_isP (p := p) (List.mem_singleton.mpr rfl)) (by rfl) T.isi PyProof.Rows.boot_isinstance (pa_cons (pv 0) (pa_cons (pe_glob (v := .ref B0) rfl T.b0 rfl) pa_nil))) (pa_cons (pe_callB (call_isP (p := p) (List.mem_singleton.mpr rfl)) (by rfl) T.isi PyProof.Rows.boot_isinstance (pa_cons (pv 0) (pa_cons (pe_glob (v := .ref B1) rfl T.b1 rfl) pa_nil))) (pa_cons (pe_callB (call_isP (p := p) (List.mem_singleton.mpr rfl)) (by rfl) T.isi PyProof.Rows.boot_isinstance (pa_cons (pv 0) (pa_cons (pe_glob (v := .ref B2) rfl T.b2 rfl) pa_nil))) pa_nil)))))
      (pss_cons (ps_set (i := 2) nd rfl (.inl rfl) (pe_lst (pa_cons (pe_callB (call_isP (p := p) (List.mem_singleton.mpr rfl)) (by rfl) T.isi PyProof.Rows.boot_isinstance (pa_cons (pv 0) (pa_cons (pe_bltn (v := .ty "ValueError") (by rfl) T.ve (by decide +kernel) rfl) pa_nil))) (pa_cons (pe_callB (call_isP (p := p) (List.mem_singleton.mpr rfl)) (by rfl) T.isi PyProof.Rows.boot_isinstance (pa_cons (pv 0) (pa_cons (pe_bltn (v := .ty "LookupError") (by rfl) T.le (by decide +kernel) rfl) pa_nil))) (pa_cons (pe_callB (call_isP (p := p) (List.mem_singleton.mpr rfl)) (by rfl) T.isi PyProof.Rows.boot_isinstance (pa_cons (pv 0) (pa_cons (pe_bltn (v := .ty "ArithmeticError") (by rfl) T.ae (by decide +kernel) rfl) pa_nil))) pa_nil)))))
      (pss_cons (ps_set (i := 3) nd rfl (.inl rfl) (pe_lst pa_nil))
      (pss_cons (ps_if (pt_val (pe_callB (call_isP (p := p) (List.mem_singleton.mpr rfl)) (by rfl) T.isi PyProof.Rows.boot_isinstance (pa_cons (pv 0) (pa_cons (pe_glob (v := .ref C1) rfl T.c1 rfl) pa_nil)))) (pss_one (ps_expr (pe_bm PySem.F.plainAttrs_list PySem.F.slot_list_append PySem.F.type_list_append mt_append (pv 3) (pa_cons (pe_lst (pa_cons pe_str (pa_cons (pe_callB (reprK K hgd hu) (by rfl) T.rep PyProof.Rows.boot_repr (pa_cons (pe_xp (p := p) (List.mem_singleton.mpr rfl) (pv 0)) pa_nil)) pa_nil))) pa_nil)))) pss_nil)
      (pss_one (ps_ret (pe_ifExp (PW.pt (pw_and (pt_cmpR op_eq (pe_callB call_len_seq (by rfl) T.len boot_len (pa_cons (pv 3) pa_nil)) pe_int (nomark _))
          (pw_and (pt_cmpR (op_eqD hu64) (pv 1) (pv 2) (nomark _)) (pw_and1 (pt_cmpR op_eq (pe_bm PySem.F.plainAttrs_list PySem.F.slot_list_count PySem.F.type_list_count mt_lcountB (pv 1) (pa_cons pe_bl pa_nil)) pe_int (nomark _))))))
        (pe_ix ix_list (pv 3) pe_int (fun _ _ => rfl)) (pe_lst (pa_cons pe_str pa_nil)))))))), ?_⟩
    have three : 3 ≤ sizeLine := by decide
    have two : 2 ≤ sizeLine := by decide
    refine rd_isP rfl O hd SD.isC (fun u r => r) SD.b0 (rd_isP rfl O hd SD.isC (fun u r => r) SD.b1 (rd_isP rfl O hd SD.isC (fun u r => r) SD.b2 ⟨three, fun p1 hp1 => ?_⟩))
    have s1 := Same.new (o := .lst [.bl true, .bl false, .bl false]) hp1
    have e1 : upd H p1 (.lst [.bl true, .bl false, .bl false]) p1 = some (.lst ([true, false, false].map V.bl)) := upd_same
    generalize upd H p1 (.lst [.bl true, .bl false, .bl false]) = H1 at s1 e1 ⊢
    have hd1 := s1 _ _ hd
    refine rd_isP rfl O hd1 SD.isC (fun u r => r) SD.v0 (rd_isP rfl O hd1 SD.isC (fun u r => r) SD.v1 (rd_isP rfl O hd1 SD.isC (fun u r => r) SD.v2 ⟨three, fun p2 hp2 => ?_⟩))
    have s2 := Same.new (o := .lst [.bl true, .bl false, .bl false]) hp2
    have e2 : upd H1 p2 (.lst [.bl true, .bl false, .bl false]) p2 = some (.lst ([true, false, false].map V.bl)) := upd_same
    generalize upd H1 p2 (.lst [.bl true, .bl false, .bl false]) = H2 at s2 e2 ⊢
    refine ⟨by show 0 ≤ sizeLine; decide, fun p3 hp3 => ?_⟩
    have s3 := Same.new (o := .lst []) hp3
    have e3 : upd H2 p3 (.lst []) p3 = some (.lst []) := upd_same
    generalize upd H2 p3 (.lst []) = H3 at s3 e3 ⊢
    have s13 := s1.trans (s2.trans s3)
    have hd3 := s13 _ _ hd
    have G3 := G.on s13
    have fin : ∀ (H' : Hp) (p4 : Addr), Same H H' → Same H1 H' → Same H2 H' → H' p3 = some (.lst [.ref p4]) → H' p4 = some (.lst [.str nm, .str dat.shown]) → ∃ k, V.int ((1 : Nat) : Int) = k ∧ True := fun _ _ _ _ _ _ _ => ⟨_, rfl, trivial⟩
    clear fin
    obtain ⟨rfl, rfl, k1⟩ := Kn
    refine rd_isP rfl O hd3 SD.isC (fun u r => r) k1 ⟨_, rfl, iteT ?_⟩
    refine ⟨_, rfl, .inl ⟨rfl, _, SqL.of e3⟩, rd_cb1 ⟨_, rfl, rfl, D, d, _, v, O, hd3, SD.fld, SD.no, rfl, rd_rv G3 ⟨two, fun p4 hp4 => ?_⟩⟩⟩
    have s4 := Same.new (o := .lst [.str "InvalidText", .str dat.shown]) hp4
    have n43 : p4 ≠ p3 := fun z => by rw [z, e3] at hp4; cases hp4
    refine ⟨p3, _, _, rfl, rfl, s4 _ _ e3, by show 0 < sizeLine; decide, ?_⟩
    have s5 : Same H2 (upd (upd H3 p4 (.lst [.str "InvalidText", .str dat.shown])) p3 (.lst ([] ++ [.ref p4]))) := fun b o e => by
      rw [upd_ne (ne_of_none e hp3)]
      exact s4 _ _ (s3 _ _ e)
    have e53 : upd (upd H3 p4 (.lst [.str "InvalidText", .str dat.shown])) p3 (.lst ([] ++ [.ref p4])) p3 = some (.lst [.ref p4]) := upd_same
    have e54 : upd (upd H3 p4 (.lst [.str "InvalidText", .str dat.shown])) p3 (.lst ([] ++ [.ref p4])) p4 = some (.lst [.str "InvalidText", .str dat.shown]) := by rw [upd_ne n43, upd_same]
    generalize upd (upd H3 p4 (.lst [.str "InvalidText", .str dat.shown])) p3 (.lst ([] ++ [.ref p4])) = H5 at s5 e53 e54 ⊢
    have s05 := s1.trans (s2.trans s5)
    have hd5 := s05 _ _ hd
    refine ⟨_, rfl, p3, _, rfl, .inl (SqL.of e53), rfl, _, rfl, ?_⟩
    rw [decide_eq_true (show V.int (([V.ref p4].length : Nat) : Int) = V.int 1 from rfl)]
    refine iteT ⟨_, rfl, _, rfl, .list ([true, false, false].map PyData.bool), .list ([true, false, false].map PyData.bool), .lst (SqL.of (s5 _ _ (s2 _ _ e1))) (dpB _), .lst (SqL.of (s5 _ _ e2)) (dpB _), shaped3, shaped3, _, rfl, ?_⟩
    rw [show PyData.eqv (.list ([true, false, false].map PyData.bool)) (.list ([true, false, false].map PyData.bool)) = true from eqv3]
    refine iteT ⟨_, rfl, .inl ⟨rfl, _, SqL.of (s5 _ _ (s2 _ _ e1))⟩, p1, [true, false, false], true, rfl, rfl, SqL.of (s5 _ _ (s2 _ _ e1)), rfl, _, rfl, ?_⟩
    rw [decide_eq_true (show V.int ((([true, false, false].count true : Nat)) : Int) = V.int 1 from rfl)]
    exact iteT ⟨_, rfl, p3, _, 0, _, rfl, rfl, SqL.of e53, atI_nat (j := 0) rfl, q H5 p4 s05 e54⟩
end
end Ca
set_option Elab.async false
set_option linter.all false
set_option maxRecDepth 100000
set_option maxHeartbeats 8000000
namespace Ca
open PySem PySem.Spec PyProof.Rows L2 LamX
/-! ### a call in a lambda, what it returns or the error that it raises -/
def TTc (K : PySem.W.Frag) (cs : List Value) (sp : Addr × Obj → Sp) : (XK → Hp → VK → Prop) → Hp → VK → Prop := fun tl H Q =>
  tl (fun cls d H' => PySem.W.exmAny K cls cs = some true ∧ ∀ a oe, H' a = none → Zc cls d oe → (∃ vs, oe.data = .fields vs) → sp (a, oe) [.ref a] H' Q E0) H (fun v H' => ∀ p, H' p = none → Q (.ref p) (upd H' p (.lst [.str "told", v])))
abbrev NCa : List Str := ["_law_act", "_law_got", "_law_e"]
theorem scCaught : FnScope NCa ["_law_act"] (defScope sLawCaught) := ⟨rfl, rfl, rfl, by decide +kernel, rfl, by decide +kernel, by decide +kernel⟩
theorem caught_gives {X : Cx} {g fS : Addr} {fdS : FuncData} {cdg : Value} {q : Str} {B0 B1 B2 : Addr} {sp : Addr × Obj → Sp} (hgd : X.A.guards = some []) (hr : Room 3 X.A)
    (b0 : X.mg "BadValue" = some (.ref B0)) (b1 : X.mg "BadName" = some (.ref B1)) (b2 : X.mg "NoAnswer" = some (.ref B2))
    (gS : X.mg "_law_slip" = some (.ref fS)) (GS : FnP X.prog X.w X.K X.mg X.base 1 fS fdS ["_law_e"] sp) (kS : PySem.W.keepIn X.K (.ref fS) = true) (bS : Binds X.K fdS ["_law_e"] []) :
    GivesTo X NCa "_law_caught" (defScope sLawCaught) g cdg (defBody sLawCaught) "_law_act" q (TTc X.K [.ref B0, .ref B1, .ref B2] sp) := by
  intro f c' s H Q tl act hc h
  have nd := scCaught.nd
  have hr2 : Room 2 (X.A.deeper (PyProof.Rows.envOfC "_law_caught" (defScope sLawCaught) s.heap.objs.size g cdg)) := hr.deeper _
  have hgd2 := guards_deeper hgd (PyProof.Rows.envOfC "_law_caught" (defScope sLawCaught) s.heap.objs.size g cdg)
  refine ⟨_, pss_cons (ps_cut (ps_try_as3 (X := (cxOf C8.CX0 X.prog X.w X.K X.mg X.base NCa "_law_caught" (defScope sLawCaught) g cdg X.A X.stack s H C8.E0).nox) (i := 2)
      (tb := fun W D σ H => ∃ Ech : XK, (∀ cls d σ' H', Ech cls d H' → W cls d σ' H') ∧ σ[0]? = some (some (.ref f)) ∧ H c' = some (CodeO c' q) ∧ tl Ech H (fun v H' => D.nx (σ.set 1 (some v)) H'))
      (ts := fun a cls d D σ H => ∀ oe, Zc cls d oe → (∃ vs, oe.data = .fields vs) → σ.length = 3 → tCall (sp (a, oe)) [] E0 (tCons (tVar 2) tNil) σ H D.rt)
      rfl rfl nd rfl rfl ⟨rfl, by decide, .inl b0⟩ ⟨rfl, by decide, .inl b1⟩ ⟨rfl, by decide, .inl b2⟩ (fun W pn xe tk _ => ?_) (fun a oe cls d pn hz hf => ?_))) (pss_one (ps_ret (pe_lst (pa_cons pe_str (pa_cons (pv 1) pa_nil))))), ?_⟩
  · refine ⟨fun pins s' σ H' D I h' => ?_⟩
    obtain ⟨Ech, hW, h1, h2, h3⟩ := h'
    have act2 : ∀ p1 p2, PE ((cxOf C8.CX0 X.prog X.w X.K X.mg X.base NCa "_law_caught" (defScope sLawCaught) g cdg X.A X.stack s H C8.E0).nox.tr pn xe) (.Call (.Name "_law_act" p1) [] [] p2) (fun σZ HZ Q => σZ[0]? = some (some (.ref f)) ∧ HZ c' = some (CodeO c' q) ∧ tl Ech HZ Q) := fun p1 p2 => act W pn xe Ech p1 p2 tk hW
    refine (?_ : PSs ((cxOf C8.CX0 X.prog X.w X.K X.mg X.base NCa "_law_caught" (defScope sLawCaught) g cdg X.A X.stack s H C8.E0).nox.tr pn xe) _ (tAsg (fun σZ HZ Q => σZ[0]? = some (some (.ref f)) ∧ HZ c' = some (CodeO c' q) ∧ tl Ech HZ Q) (gName 1))).run pins s' σ H' D I ⟨h1, h2, h3⟩
    exact pss_one (ps_set (i := 1) nd rfl (.inl rfl) (act2 _ _))
  · refine ⟨fun pins s' σ H' D I h' => ?_⟩
    refine (?_ : PSs ((cxOf C8.CX0 X.prog X.w X.K X.mg X.base NCa "_law_caught" (defScope sLawCaught) g cdg X.A X.stack s H C8.E0).nox.suite a ((a, oe) :: pn)) _ (tRet (tCall (sp (a, oe)) [] E0 (tCons (tVar 2) tNil)))).run pins s' σ H' D I (h' oe hz hf I.len)
    exact pss_one (ps_ret (pe_callP (p := (a, oe)) GS hgd2 ⟨(L2H.roomH_of (hr2.mono (by decide : 1 ≤ 2))).dp, (L2H.roomH_of (hr2.mono (by decide : 1 ≤ 2))).un⟩ (List.mem_cons_self ..) gS kS bS (pa_cons (pv 2) pa_nil)))
  · refine ⟨fun σ' H' => match σ' with
      | [_, some v, _] => ∀ p, H' p = none → Q (.ref p) (upd H' p (.lst [.str "told", v]))
      | _ => False, ⟨fun cls d H' => PySem.W.exmAny X.K cls [.ref B0, .ref B1, .ref B2] = some true ∧ ∀ a oe, H' a = none → Zc cls d oe → (∃ vs, oe.data = .fields vs) → sp (a, oe) [.ref a] H' Q E0, fun cls d σ' H' hh => ⟨hh.1, fun a na oe hz hf hl => ?_⟩, rfl, hc, h⟩, fun σ' H' hh => ?_⟩
    · have hl' : 2 < σ'.length := by
        rw [List.length_set] at hl
        omega
      refine ⟨.ref a, ?_, ?_⟩
      · rw [List.getElem?_set_self hl']
      · exact hh.2 a oe na hz hf
    · match σ', hh with
      | [_, some v, _], hh => exact ⟨_, rfl, by show 2 ≤ sizeLine; decide, fun p hp => hh p hp⟩
end Ca
set_option Elab.async false
set_option linter.all false
set_option maxRecDepth 100000
set_option maxHeartbeats 4000000
namespace Ca
open PySem L2 LamX
/-! ### what stays, but for tables of code objects and a list at l -/
def KeptN (l : Addr) (H H' : Hp) : Prop := ∀ b o, b ≠ l → H b = some o → (∀ ps, o ≠ .tbl ps) → H' b = some o
theorem KeptN.refl (l : Addr) (H : Hp) : KeptN l H H := fun _ _ _ h _ => h
theorem KeptN.trans {l : Addr} {H H1 H2 : Hp} (a : KeptN l H H1) (b : KeptN l H1 H2) : KeptN l H H2 := fun c o n h t => b c o n (a c o n h t) t
theorem Kept.n {l : Addr} {H H' : Hp} (k : Kept l H H') : KeptN l H H' := fun b o n h _ => k b o n h
theorem extN_kept {l : Addr} {H H' : Hp} (k : ExtN H H') : KeptN l H H' := fun b o _ h t => k b o h t
theorem same_extN {H H' : Hp} (s : Same H H') : ExtN H H' := fun b o h _ => s b o h
theorem sameN {l : Addr} {H H' : Hp} (s : Same H H') : KeptN l H H' := fun b o _ h _ => s b o h
theorem Urn.extN {H H' : Hp} {l : Addr} (u : Urn H l) (k : ExtN H H') : Urn H' l := by
  obtain ⟨g, x, n, h1, h2, h3, h⟩ := u
  exact ⟨g, x, n, h1, h2, h3, k _ _ h fun _ z => nomatch z⟩
theorem seqL_ext {K : PySem.W.Frag} {H H' : Hp} {a : Addr} {xs : List V} (k : ExtN H H') (h : SqL K H a xs) : SqL K H' a xs := by
  rcases h with (e | ⟨o, e⟩) | e
  · exact .inl (.inl (k _ _ e fun _ z => nomatch z))
  · exact .inl (.inr ⟨o, k _ _ e fun _ z => nomatch z⟩)
  · exact .inr e
theorem seqT_ext {K : PySem.W.Frag} {H H' : Hp} {a : Addr} {xs : List V} (k : ExtN H H') (h : SqT K H a xs) : SqT K H' a xs := by
  rcases h with (e | ⟨o, e⟩) | e
  · exact .inl (.inl (k _ _ e fun _ z => nomatch z))
  · exact .inl (.inr ⟨o, k _ _ e fun _ z => nomatch z⟩)
  · exact .inr e
mutual
theorem Dq.extN {K : PySem.W.Frag} {H H' : Hp} (k : ExtN H H') : ∀ {d : PyData} {v : V}, Dq K H v d → Dq K H' v d
  | .none, _, h => by cases h; exact .non
  | .bool b, _, h => by cases h; exact .bl b
  | .int i, _, h => by cases h; exact .int i
  | .str x, _, h => by cases h with | str _ a => exact .str x a
  | .list ds, _, h => by
    cases h with
    | lst a b => exact .lst (seqL_ext k a) (DqAll.extN k b)
  | .tuple ds, _, h => by
    cases h with
    | tup a b => exact .tup (seqT_ext k a) (DqAll.extN k b)
  | .dict ds, _, h => by
    cases h with
    | dic a => exact .dic (k _ _ a fun _ z => nomatch z)
theorem DqAll.extN {K : PySem.W.Frag} {H H' : Hp} (k : ExtN H H') : ∀ {ds : List PyData} {vs : List V}, DqAll K H vs ds → DqAll K H' vs ds
  | [], _, h => by cases h; exact .nil
  | d :: ds, _, h => by
    cases h with
    | cons a b => exact .cons (Dq.extN k a) (DqAll.extN k b)
end
mutual
theorem dpExt {K : PySem.W.Frag} {H H' : Hp} (k : ExtN H H') : ∀ {d : PyData} {v : V}, Dp K H v d → Dp K H' v d
  | .none, _, h => by cases h; exact .non
  | .bool b, _, h => by cases h; exact .bl b
  | .int i, _, h => by cases h; exact .int i
  | .str x, _, h => by cases h; exact .str x
  | .list ds, _, h => by
    cases h with
    | lst a b => exact .lst (seqL_ext k a) (dpAllExt k b)
  | .tuple ds, _, h => by
    cases h with
    | tup a b => exact .tup (seqT_ext k a) (dpAllExt k b)
  | .dict ds, _, h => by cases h
theorem dpAllExt {K : PySem.W.Frag} {H H' : Hp} (k : ExtN H H') : ∀ {ds : List PyData} {vs : List V}, DpAll K H vs ds → DpAll K H' vs ds
  | [], _, h => by cases h; exact .nil
  | d :: ds, _, h => by
    cases h with
    | cons a b => exact .cons (dpExt k a) (dpAllExt k b)
end
theorem Good.extN {K : PySem.W.Frag} {H H' : Hp} {v : V} {d : PyData} (g : Good K H v d) (k : ExtN H H') : Good K H' v d := by
  obtain ⟨r, g⟩ := g
  refine ⟨?_, g⟩
  cases r with
  | dat D sd => exact .dat (dpExt k D) sd
  | dic h D nd => exact .dic (k _ _ h fun _ z => nomatch z) (dpAllExt k D) nd
  | dee SM D => exact .dee SM (De.mono k D)
theorem SysAt.extN {K : PySem.W.Frag} {C : Addr} {H H' : Hp} {x : Addr} {ns : List Str} {rs : List Rw} (h : SysAt K C H x ns rs) (k : ExtN H H') : SysAt K C H' x ns rs := by
  obtain ⟨h1, h2, dx, u, r, e, du, dr⟩ := h
  exact ⟨h1, h2, dx, u, r, k _ _ e (fun _ z => (nomatch z)), du.extN k, dr.extN k⟩
/-! ### data whose lists stand apart from l -/
mutual
inductive Dr (K : PySem.W.Frag) (l : Addr) (H : Hp) : V → PyData → Prop
  | non : Dr K l H .non .none
  | bl (b : Bool) : Dr K l H (.bl b) (.bool b)
  | int (i : Int) : Dr K l H (.int i) (.int i)
  | str (x : Str) (h : x.length ≤ 5000) : Dr K l H (.str x) (.str x)
  | lst {a : Addr} {xs : List V} {ds : List PyData} : a ≠ l → SqL K H a xs → DrAll K l H xs ds → Dr K l H (.ref a) (.list ds)
  | tup {a : Addr} {xs : List V} {ds : List PyData} : SqT K H a xs → DrAll K l H xs ds → Dr K l H (.ref a) (.tuple ds)
  | dic {a : Addr} : H a = some (.dK []) → Dr K l H (.ref a) (.dict [])
inductive DrAll (K : PySem.W.Frag) (l : Addr) (H : Hp) : List V → List PyData → Prop
  | nil : DrAll K l H [] []
  | cons {v : V} {vs : List V} {d : PyData} {ds : List PyData} : Dr K l H v d → DrAll K l H vs ds → DrAll K l H (v :: vs) (d :: ds)
end
theorem sql_butN {K : PySem.W.Frag} {H H' : Hp} {l a : Addr} {xs : List V} (n : a ≠ l) (k : KeptN l H H') (h : SqL K H a xs) : SqL K H' a xs := by
  rcases h with (e | ⟨o, e⟩) | e
  · exact .inl (.inl (k _ _ n e fun _ z => nomatch z))
  · exact .inl (.inr ⟨o, k _ _ n e fun _ z => nomatch z⟩)
  · exact .inr e
theorem sqt_butN {K : PySem.W.Frag} {H H' : Hp} {l a : Addr} {ys xs : List V} (hl : H l = some (.lst ys)) (k : KeptN l H H') (h : SqT K H a xs) : SqT K H' a xs := by
  have n : ∀ o, H a = some o → (∀ zs, o ≠ .lst zs) → a ≠ l := fun o e z y => by
    rw [y, hl] at e
    cases e
    exact z _ rfl
  rcases h with (e | ⟨o, e⟩) | e
  · exact .inl (.inl (k _ _ (n _ e fun _ z => nomatch z) e fun _ z => nomatch z))
  · exact .inl (.inr ⟨o, k _ _ (n _ e fun _ z => nomatch z) e fun _ z => nomatch z⟩)
  · exact .inr e
mutual
theorem Dr.but {K : PySem.W.Frag} {H H' : Hp} {l : Addr} {ys : List V} (hl : H l = some (.lst ys)) (k : KeptN l H H') : ∀ {d : PyData} {v : V}, Dr K l H v d → Dr K l H' v d
  | .none, _, h => by cases h; exact .non
  | .bool b, _, h => by cases h; exact .bl b
  | .int i, _, h => by cases h; exact .int i
  | .str x, _, h => by cases h with | str _ a => exact .str x a
  | .list ds, _, h => by
    cases h with
    | lst n a b => exact .lst n (sql_butN n k a) (DrAll.but hl k b)
  | .tuple ds, _, h => by
    cases h with
    | tup a b => exact .tup (sqt_butN hl k a) (DrAll.but hl k b)
  | .dict ds, _, h => by
    cases h with
    | dic a => exact .dic (k _ _ (fun z => by rw [z, hl] at a; cases a) a fun _ z => nomatch z)
theorem DrAll.but {K : PySem.W.Frag} {H H' : Hp} {l : Addr} {ys : List V} (hl : H l = some (.lst ys)) (k : KeptN l H H') : ∀ {ds : List PyData} {vs : List V}, DrAll K l H vs ds → DrAll K l H' vs ds
  | [], _, h => by cases h; exact .nil
  | d :: ds, _, h => by
    cases h with
    | cons a b => exact .cons (Dr.but hl k a) (DrAll.but hl k b)
end
mutual
theorem Dr.dq {K : PySem.W.Frag} {H : Hp} {l : Addr} : ∀ {d : PyData} {v : V}, Dr K l H v d → Dq K H v d
  | .none, _, h => by cases h; exact .non
  | .bool b, _, h => by cases h; exact .bl b
  | .int i, _, h => by cases h; exact .int i
  | .str x, _, h => by cases h with | str _ a => exact .str x a
  | .list ds, _, h => by
    cases h with
    | lst n a b => exact .lst a (DrAll.dq b)
  | .tuple ds, _, h => by
    cases h with
    | tup a b => exact .tup a (DrAll.dq b)
  | .dict ds, _, h => by
    cases h with
    | dic a => exact .dic a
theorem DrAll.dq {K : PySem.W.Frag} {H : Hp} {l : Addr} : ∀ {ds : List PyData} {vs : List V}, DrAll K l H vs ds → DqAll K H vs ds
  | [], _, h => by cases h; exact .nil
  | d :: ds, _, h => by
    cases h with
    | cons a b => exact .cons (Dr.dq a) (DrAll.dq b)
end
mutual
theorem dr_of {K : PySem.W.Frag} {H : Hp} {l : Addr} : ∀ {d : PyData} {v : V}, noL d = true → Dq K H v d → Dr K l H v d
  | .none, _, _, h => by cases h; exact .non
  | .bool b, _, _, h => by cases h; exact .bl b
  | .int i, _, _, h => by cases h; exact .int i
  | .str x, _, _, h => by cases h with | str _ a => exact .str x a
  | .list ds, _, n, _ => by simp [noL] at n
  | .tuple ds, _, n, h => by
    cases h with
    | tup a b => exact .tup a (drAll_of (by simpa only [noL] using n) b)
  | .dict ds, _, n, _ => by simp [noL] at n
theorem drAll_of {K : PySem.W.Frag} {H : Hp} {l : Addr} : ∀ {ds : List PyData} {vs : List V}, noLs ds = true → DqAll K H vs ds → DrAll K l H vs ds
  | [], _, _, h => by cases h; exact .nil
  | d :: ds, _, n, h => by
    obtain ⟨n1, n2⟩ := Bool.and_eq_true_iff.mp (show (noL d && noLs ds) = true by simpa only [noLs] using n)
    cases h with
    | cons a b => exact .cons (dr_of n1 a) (drAll_of n2 b)
end
theorem DrAll.len {K : PySem.W.Frag} {H : Hp} {l : Addr} : ∀ {vs : List V} {ds : List PyData}, DrAll K l H vs ds → vs.length = ds.length
  | _, _, .nil => rfl
  | _, _, .cons _ t => congrArg Nat.succ t.len
theorem DrAll.get {K : PySem.W.Frag} {H : Hp} {l : Addr} : ∀ {vs : List V} {ds : List PyData} {i : Nat} {v : V}, DrAll K l H vs ds → vs[i]? = some v → ∃ d, ds[i]? = some d ∧ Dr K l H v d
  | _, _, 0, _, .cons a _, e => by
    cases e
    exact ⟨_, rfl, a⟩
  | _, _, i + 1, _, .cons _ t, e => t.get (i := i) e
theorem DrAll.app {K : PySem.W.Frag} {H : Hp} {l : Addr} : ∀ {vs ws : List V} {ds es : List PyData}, DrAll K l H vs ds → DrAll K l H ws es → DrAll K l H (vs ++ ws) (ds ++ es)
  | _, _, _, _, .nil, h => h
  | _, _, _, _, .cons a t, h => .cons a (t.app h)
theorem Dr.same {K : PySem.W.Frag} {H H' : Hp} {l : Addr} {ys : List V} (hl : H l = some (.lst ys)) (s : Same H H') {d : PyData} {v : V} (h : Dr K l H v d) : Dr K l H' v d := Dr.but hl (sameN s) h
theorem DrAll.same {K : PySem.W.Frag} {H H' : Hp} {l : Addr} {ys : List V} (hl : H l = some (.lst ys)) (s : Same H H') {ds : List PyData} {vs : List V} (h : DrAll K l H vs ds) : DrAll K l H' vs ds := DrAll.but hl (sameN s) h
theorem SysAt.butN {K : PySem.W.Frag} {C l : Addr} {H H' : Hp} {x : Addr} {ns : List Str} {rs : List Rw} {ys : List V} (hl : H l = some (.lst ys)) (k : KeptN l H H') (h : SysAt K C H x ns rs) : SysAt K C H' x ns rs := by
  obtain ⟨h1, h2, dx, u, r, e, du, dr⟩ := h
  have n : x ≠ l := fun z => by rw [z, hl] at e; cases e
  exact ⟨h1, h2, dx, u, r, k _ _ n e (fun _ z => (nomatch z)), (Dr.but hl k (dr_of (noL_folk ns) du)).dq, (Dr.but hl k (dr_of (noL_rows rs) dr)).dq⟩
/-! ### an error that is told -/
theorem caught_err {K : PySem.W.Frag} {B0 B1 B2 C1 D : Addr} {f nm : Str} {v : V} {dat : PyData} {H : Hp} {Q : VK} (any : PySem.W.exmAny K (.ref D) [.ref B0, .ref B1, .ref B2] = some true) (SD : SlipD K B0 B1 B2 D f) (Kn : Known K C1 D f nm) (G : Good K H v dat)
    (q : ∀ H' p, Same H H' → H' p = some (.lst [.str nm, .str dat.shown]) → Q (.ref p) H') :
    ErrW (fun cls d H' => PySem.W.exmAny K cls [.ref B0, .ref B1, .ref B2] = some true ∧ ∀ a oe, H' a = none → Zc cls d oe → (∃ vs, oe.data = .fields vs) → spSlip K B0 B1 B2 C1 (a, oe) [.ref a] H' Q E0) H D f v :=
  fun d H' _ s hd => ⟨any, fun a oe _ hz hf => ⟨D, d, f, nm, v, dat, rfl, ⟨hz, hf⟩, hd, SD, Kn, G.on s, fun H2 p s2 e => q H2 p (s.trans s2) e⟩⟩
/-! ### o.m(k = v), which may raise -/
def tMethKwX (C : Addr) (m : Str) (n : Nat) (sp : Sp) (gV : List V → List V → List V) (E : XK) (ta : TE) (tk : TA) : TE := fun σ H Q => ta σ H fun x H1 => ∃ a dx fs, x = .ref a ∧ H1 a = some (.ins C dx fs) ∧ fs.lookup m = none ∧
  tk σ H1 fun zs H2 => zs.length = n ∧ sp (gV [.ref a] zs) H2 Q E
section
variable {X : Cx} {CX : CXT} {E : XK} {k : Nat} {f C : Addr} {fd : FuncData} {ps ks : List Str} {sp : Sp} {m : Str} {apos pos : Pos} {kws : List Keyword} {tk : TA} {g : List Value → List Value → List Value} {gV : List V → List V → List V} {o : Expr} {ta : TE}
theorem pe_methKwX {pl : Sem Bool} (he : PE X o ta) (c : Cls X.K C) (hm : Meth X.K C m f) (F : FnOk X.prog X.w X.K X.mg X.base CX k f fd ps sp) (hr : Room k X.A) (hb : KBn X.K fd ps 1 ks g gV) (hx : Passes CX X E) (hkw : PK X kws tk)
    (hall : (backToKw pos (keywordEach kws X.env)).all (·.1.isSome) = true := by rfl) (hks : (backToKw pos (keywordEach kws X.env)).filterMap (·.1) = ks := by rfl)
    (hpl : ((backTo pos (starEach [] X.env)).any (·.1) || (backToKw pos (keywordEach kws X.env)).any (·.1.isNone)) = false := by rfl)
    (ht : eval (.Call (.Attribute o m apos) [] kws pos) X.env = (do
      let ov ← eval o X.env
      standAt apos.atName
      let (f, first) ← holding [ov] (getMethod ov m pl)
      callWith pos f first (backTo pos (starEach [] X.env)) (backToKw pos (keywordEach kws X.env))) := by rfl) :
    PE X (.Call (.Attribute o m apos) [] kws pos) (tMethKwX C m ks.length sp gV E ta tk) := by
  refine ⟨fun pins s σ H Q I h => ?_⟩
  refine PySem.W.methodCall_KW (pl := pl) (thn (he.run pins s σ H _ I h) fun u s1 ⟨x, H1, I1, rx, a, dx, fs, ex, ea, l, q⟩ => ?_) ht
  subst ex
  obtain rfl : u = Value.ref a := rx
  refine getmeth_ok I1 ea c hm l ?_
  refine PySem.W.callWith_KW0 (first := [.ref a]) (h₀ := X.base) I1.ok.mod.kin hm.kp hall (thn (hkw.run pos pins s1 σ H1 _ I1 q) fun ws s2 ⟨zs, H2, I2, rz, l2, q2⟩ => ?_) hpl
  rw [hks]
  exact ⟨I2.kIn, run_fnN (us := [.ref a]) (vs := [.ref a]) F hr hb hx I2 (.cons rfl .nil) rz rfl l2 q2⟩
end
end Ca
set_option Elab.async false
set_option linter.all false
set_option maxRecDepth 100000
set_option maxHeartbeats 4000000
namespace Ca
open PySem L2
/-! ### small data of any kind, dicts without keys too -/
def niceB (d : PyData) : Bool := PyData.leavesShort 13 d && (decide (d.weight ≤ 60) && (d.showable && (decide (d.depth ≤ 3) && ascD d)))
/-- a pair holds whole numbers or truth values only -/
def flatIB : PyData → Bool
  | .int _ => true
  | .bool _ => true
  | _ => false
def twoB : PyData → Bool
  | .tuple [a, b] => flatIB a && flatIB b
  | _ => true
theorem nice_parts {d : PyData} (h : niceB d = true) : PyData.leavesShort 13 d = true ∧ d.weight ≤ 60 ∧ d.showable = true ∧ d.depth ≤ 3 ∧ ascD d = true := by
  obtain ⟨h1, h⟩ := Bool.and_eq_true_iff.mp h
  obtain ⟨h2, h⟩ := Bool.and_eq_true_iff.mp h
  obtain ⟨h3, h⟩ := Bool.and_eq_true_iff.mp h
  obtain ⟨h4, h5⟩ := Bool.and_eq_true_iff.mp h
  exact ⟨h1, of_decide_eq_true h2, h3, of_decide_eq_true h4, h5⟩
theorem nice_all : ∀ ds : List PyData, (∀ x ∈ ds, niceB x = true) → PyData.leavesShortAll 13 ds = true ∧ PyData.weightAll ds ≤ 61 * ds.length ∧ PyData.showableAll ds = true ∧ PyData.depthAll ds ≤ 3 ∧ ascDs ds = true
  | [], _ => ⟨rfl, Nat.le_refl _, rfl, Nat.zero_le _, rfl⟩
  | d :: ds, h => by
    obtain ⟨a1, a2, a3, a4, a5⟩ := nice_parts (h d (List.mem_cons_self ..))
    obtain ⟨b1, b2, b3, b4, b5⟩ := nice_all ds fun x hx => h x (List.mem_cons_of_mem _ hx)
    refine ⟨by rw [PyData.leavesShortAll, a1, b1]; rfl, by rw [PyData.weightAll, List.length_cons]; omega, by rw [PyData.showableAll, a3, b3]; rfl, by rw [PyData.depthAll]; omega, by rw [ascDs, a5, b5]; rfl⟩
theorem nice_name {x : Str} (h : nameS x = true) : niceB (.str x) = true := by
  obtain ⟨h1, h2, h3⟩ := name_parts h
  have hs : x.cps.size ≤ 8 := h2
  refine Bool.and_eq_true_iff.mpr ⟨?_, Bool.and_eq_true_iff.mpr ⟨?_, Bool.and_eq_true_iff.mpr ⟨rfl, Bool.and_eq_true_iff.mpr ⟨rfl, asc_name h⟩⟩⟩⟩
  · show (x.cps.toList.all fun c => decide (c < 16 ^ 8)) = true
    exact List.all_eq_true.mpr fun c hc => decide_eq_true (Nat.lt_of_lt_of_le (h3 c hc) (by decide))
  · refine decide_eq_true ?_
    rw [PyData.weight]
    omega
theorem nice_str {p : Int × Int} (h : isStretchD (strD p) = true) : niceB (strD p) = true := by
  obtain ⟨a, b, c⟩ := pair_all (str_ok h)
  have b' : PyData.leavesShort 13 (strD p) = true := by
    unfold strD at b ⊢
    simp only [PyData.intsShort, PyData.intsShortAll, Bool.and_true, Bool.and_eq_true] at b
    simp only [PyData.leavesShort, PyData.leavesShortAll, Bool.and_true, Bool.and_eq_true]
    exact b
  have dp : (strD p).depth ≤ 3 := by
    unfold strD
    simp only [PyData.depth, PyData.depthAll]
    omega
  exact Bool.and_eq_true_iff.mpr ⟨b', Bool.and_eq_true_iff.mpr ⟨decide_eq_true (by omega), Bool.and_eq_true_iff.mpr ⟨a, Bool.and_eq_true_iff.mpr ⟨decide_eq_true dp, asc_strD p⟩⟩⟩⟩
/-- what may be told as a change -/
def Deed (d : PyData) : Prop := (∃ ds, ds.length ≤ 4 ∧ (∀ x ∈ ds, niceB x = true ∧ twoB x = true) ∧ (d = .tuple ds ∨ d = .list ds)) ∨ d = .none ∨ d = .str "change" ∨ d = .dict []
theorem deed_asc {d : PyData} (h : Deed d) : ascD d = true := by
  rcases h with ⟨ds, _, hn, rfl | rfl⟩ | rfl | rfl | rfl
  · exact (by simpa only [ascD] using (nice_all ds fun x hx => (hn x hx).1).2.2.2.2)
  · exact (by simpa only [ascD] using (nice_all ds fun x hx => (hn x hx).1).2.2.2.2)
  · rfl
  · decide +kernel
  · rfl
theorem deed_good {K : PySem.W.Frag} {H : Hp} {v : V} {d : PyData} (SM : SysM K) (D : De K H v d) (h : Deed d) : Good K H v d := by
  have key : ∀ d : PyData, PyData.leavesShort 13 d = true → d.weight ≤ 1000 → d.shown.length ≤ sizeLine := fun d h1 h2 => by
    have := PyData.shown_le 13 (by decide) d h1
    have := sizeLine_eq
    omega
  have big : ∀ ds : List PyData, ds.length ≤ 4 → (∀ x ∈ ds, niceB x = true ∧ twoB x = true) → ∀ d : PyData, (d = .tuple ds ∨ d = .list ds) → d.showable = true ∧ d.depth ≤ 64 ∧ d.shown.length ≤ sizeLine := fun ds hl hn d hd => by
    obtain ⟨a1, a2, a3, a4, _⟩ := nice_all ds fun x hx => (hn x hx).1
    rcases hd with rfl | rfl
    · exact ⟨by rw [PyData.showable]; exact a3, by rw [PyData.depth]; omega, key _ (by rw [PyData.leavesShort]; exact a1) (by rw [PyData.weight]; omega)⟩
    · exact ⟨by rw [PyData.showable]; exact a3, by rw [PyData.depth]; omega, key _ (by rw [PyData.leavesShort]; exact a1) (by rw [PyData.weight]; omega)⟩
  rcases h with ⟨ds, hl, hn, hd⟩ | rfl | rfl | rfl
  · exact ⟨.dee SM D, big ds hl hn d hd⟩
  · exact ⟨.dee SM D, by decide +kernel, by decide +kernel, by decide +kernel⟩
  · exact ⟨.dee SM D, by decide +kernel, by decide +kernel, by decide +kernel⟩
  · exact ⟨.dee SM D, by decide +kernel, by decide +kernel, by decide +kernel⟩
mutual
theorem Dr.de {K : PySem.W.Frag} {H : Hp} {l : Addr} : ∀ {d : PyData} {v : V}, Dr K l H v d → De K H v d
  | .none, _, .non => .non
  | .bool _, _, .bl b => .bl b
  | .int _, _, .int i => .int i
  | .str _, _, .str x _ => .str x
  | .list _, _, .lst _ a b => .lst a (DrAll.de b)
  | .tuple _, _, .tup a b => .tup a (DrAll.de b)
  | .dict _, _, .dic a => .dic a
theorem DrAll.de {K : PySem.W.Frag} {H : Hp} {l : Addr} : ∀ {ds : List PyData} {vs : List V}, DrAll K l H vs ds → DeAll K H vs ds
  | [], _, .nil => .nil
  | _ :: _, _, .cons a b => .cons (Dr.de a) (DrAll.de b)
end
end Ca
set_option Elab.async false
set_option linter.all false
set_option maxRecDepth 100000
set_option maxHeartbeats 8000000
namespace Ca
open PySem L2
def intIn : PyData → Int → Int → Bool
  | .int i, a, b => decide (a ≤ i) && decide (i ≤ b)
  | _, _, _ => false
def spIntIn (K : PySem.W.Frag) : Sp := fun vs H Q _ => ∃ v d a b, vs = [v, .int a, .int b] ∧ Dq K H v d ∧ Q (.bl (intIn d a b)) H
abbrev NIi : List Str := ["_law_thing", "_law_least", "_law_most"]
theorem scIi : FnScope NIi ["_law_thing", "_law_least", "_law_most"] (defScope sLawIsInt) := ⟨rfl, rfl, rfl, by decide +kernel, rfl, by decide +kernel, by decide +kernel⟩
abbrev NIs : List Str := ["_law_thing", "_law_x"]
theorem scIs8 : FnScope NIs ["_law_thing"] (defScope sLawIsStretch) := ⟨rfl, rfl, rfl, by decide +kernel, rfl, by decide +kernel, by decide +kernel⟩
/-- a pair, if it is one, holds whole numbers or truth values only -/
def spStrIs (K : PySem.W.Frag) : Sp := fun vs H Q _ => ∃ v d, vs = [v] ∧ Dq K H v d ∧ twoB d = true ∧ ∀ H', Same H H' → Q (.bl (isStretchD d)) H'
section
variable {P : Program} {w : World} {K : PySem.W.Frag} {mg : Str → Option Value} {base : Heap}
theorem ok_intIn {f : Addr} {fd : FuncData} (F : FnT K "_law_is_int" sLawIsInt f fd) (B : Bn mg) : FnOk P w K mg base CX0 1 f fd ["_law_thing", "_law_least", "_law_most"] (spIntIn K) := by
  refine F.ok scIi (fun vs H Q E h => ?_) (fun cdv A outer s H vs Q E hr h => ?_)
  · obtain ⟨v, d, a, b, rfl, _⟩ := h
    rfl
  · obtain ⟨v, d, a, b, rfl, hd, q⟩ := h
    refine ⟨_, PSs.nox (pss_one (ps_ret (pe_and (pe_callB call_isi (by rfl) B.isi PyProof.Rows.boot_isinstance (pa_cons (pv 0) (pa_cons (pe_bltn (v := .ty "int") (by rfl) B.int (by decide +kernel) rfl) pa_nil)))
      (pe_and (pe_not (pe_callB call_isi (by rfl) B.isi PyProof.Rows.boot_isinstance (pa_cons (pv 0) (pa_cons (pe_bltn (v := .ty "bool") (by rfl) B.bool (by decide +kernel) rfl) pa_nil))))
        (pe_one (pe_chain op_le op_le (pv 1) (pv 0) (pv 2))))))), ?_⟩
    refine rd_isd hd rfl (kit_int d) ⟨_, rfl, ?_⟩
    cases d with
    | int i =>
      cases hd with
      | int =>
        refine iteT (rd_isd (.int i) rfl (kit_bool _) ⟨_, rfl, _, rfl, iteT ⟨_, rfl, _, rfl, _, _, rfl, rfl, _, rfl, ?_⟩⟩)
        have q2 : Q (.bl (decide (a ≤ i) && decide (i ≤ b))) H := q
        refine ite2 (fun g => ?_) (fun g => ?_)
        · rw [g, Bool.true_and] at q2
          exact ⟨_, rfl, _, _, rfl, rfl, q2⟩
        · rw [Bool.eq_false_iff.mpr g, Bool.false_and] at q2
          exact q2
    | bool b => exact iteT (rd_isd hd rfl (kit_bool _) ⟨_, rfl, _, rfl, iteF q⟩)
    | _ => exact iteF q
theorem dpAll_app {K : PySem.W.Frag} {H : Hp} : ∀ {vs ws : List V} {ds es : List PyData}, DpAll K H vs ds → DpAll K H ws es → DpAll K H (vs ++ ws) (ds ++ es)
  | _, _, _, _, .nil, h => h
  | _, _, _, _, .cons a t, h => .cons a (dpAll_app t h)
theorem eqv_nil (f : List PyData) : PyData.eqv (.list f) (.list []) = decide (f = []) := by
  cases f with
  | nil => decide +kernel
  | cons x xs => rfl
theorem two_shape {ds : List PyData} (h2 : ds.length = 2) (h : twoB (.tuple ds) = true) : ∃ x y, ds = [x, y] ∧ flatIB x = true ∧ flatIB y = true := by
  match ds, h2 with
  | [x, y], _ =>
    obtain ⟨h1, h2⟩ := Bool.and_eq_true_iff.mp (show (flatIB x && flatIB y) = true from h)
    exact ⟨x, y, rfl, h1, h2⟩
theorem str_two (x y : PyData) : isStretchD (.tuple [x, y]) = (intIn x (-10000) 10000 && (intIn y (-10000) 10000 && (match x, y with | .int a, .int b => decide (a ≤ b) | _, _ => false))) := by
  cases x with
  | int a =>
    cases y with
    | int b =>
      show (decide (-10000 ≤ a) && (decide (a ≤ b) && decide (b ≤ 10000))) = ((decide (-10000 ≤ a) && decide (a ≤ 10000)) && ((decide (-10000 ≤ b) && decide (b ≤ 10000)) && decide (a ≤ b)))
      by_cases h1 : -10000 ≤ a <;> by_cases h2 : a ≤ b <;> by_cases h3 : b ≤ 10000 <;> by_cases h4 : a ≤ 10000 <;> by_cases h5 : -10000 ≤ b <;> simp [h1, h2, h3, h4, h5] <;> omega
    | _ => simp [isStretchD, intIn]
  | _ => simp [isStretchD, intIn]
theorem str_many {ds : List PyData} (h : ds.length ≠ 2) : isStretchD (.tuple ds) = false := by
  match ds, h with
  | [], _ => simp [isStretchD]
  | [_], _ => simp [isStretchD]
  | [_, _], h => exact absurd rfl h
  | _ :: _ :: _ :: _, _ => simp [isStretchD]
theorem flat_dp {K : PySem.W.Frag} {H : Hp} {v : V} {d : PyData} (f : flatIB d = true) (h : Dq K H v d) : (∀ H', Dp K H' v d) ∧ SeqAt.shaped (.list [d]) = true := by
  cases d with
  | int i =>
    cases h
    exact ⟨fun _ => .int i, rfl⟩
  | bool b =>
    cases h
    exact ⟨fun _ => .bl b, rfl⟩
  | _ => cases f
theorem flat_shaped {ds : List PyData} (h : ∀ d ∈ ds, flatIB d = true) : SeqAt.shaped (.list ds) = true := by
  have key : ∀ ds : List PyData, (∀ d ∈ ds, flatIB d = true) → PyData.canLayAll0 ds = true ∧ PyData.depthAll ds = 0 := fun ds => by
    induction ds with
    | nil => exact fun _ => ⟨rfl, rfl⟩
    | cons d ds ih =>
      intro h
      obtain ⟨a, b⟩ := ih fun x hx => h x (List.mem_cons_of_mem _ hx)
      have f := h d (List.mem_cons_self ..)
      cases d with
      | int i => exact ⟨by simp only [PyData.canLayAll0, PyData.canLay0, a]; rfl, by simp only [PyData.depthAll, PyData.depth, b]; rfl⟩
      | bool i => exact ⟨by simp only [PyData.canLayAll0, PyData.canLay0, a]; rfl, by simp only [PyData.depthAll, PyData.depth, b]; rfl⟩
      | _ => cases f
  obtain ⟨a, b⟩ := key ds h
  refine Bool.and_eq_true_iff.mpr ⟨by simp only [PyData.canLay0]; exact a, decide_eq_true ?_⟩
  simp only [PyData.depth, b]
  decide
theorem eqDK8 {X : Cx} (K : PySem.W.Frag) (hu : X.A.units + 64 < cLine) (h : X.K = K := by rfl) : OpR X (compareOp .Eq) (rEqD K) := h ▸ op_eqD hu
theorem ok_strIs {f fI : Addr} {fd fdI : FuncData} (F : FnT K "_law_is_stretch" sLawIsStretch f fd) (B : Bn mg)
    (gI : mg "_law_is_int" = some (.ref fI)) (GI : FnOk P w K mg base CX0 1 fI fdI ["_law_thing", "_law_least", "_law_most"] (spIntIn K)) (kI : PySem.W.keepIn K (.ref fI) = true) (bI : Binds K fdI ["_law_thing", "_law_least", "_law_most"] []) :
    FnOk P w K mg base CX0 2 f fd ["_law_thing"] (spStrIs K) := by
  refine F.ok scIs8 (fun vs H Q E h => ?_) (fun cdv A outer s H vs Q E hr h => ?_)
  · obtain ⟨v, d, rfl, _⟩ := h
    rfl
  · obtain ⟨v, d, rfl, hd, tw, q⟩ := h
    have nd := scIs8.nd
    have hr1 : Room 1 _ := hr.mono (by decide)
    refine ⟨_, PSs.nox (pss_cons (ps_if (PW.pt (pw_or (pt_not (pt_val (pe_callB call_isi (by rfl) B.isi PyProof.Rows.boot_isinstance (pa_cons (pv 0) (pa_cons (pe_bltn (v := .ty "tuple") (by rfl) B.tup (by decide +kernel) rfl) pa_nil)))))
        (pw_or1 (pt_cmpR op_ne (pe_callB (call_lenK K) (by rfl) B.len boot_len (pa_cons (pv 0) pa_nil)) pe_int (nomark _))))) (pss_one (ps_ret pe_bl)) pss_nil)
      (pss_one (ps_ret (pe_and (pe_cmpR (op_eqD hr.units) (pe_lc (own := [("_law_x", 1)]) (g := gName 1) rfl nd (pi_tup (pv 0))
          (blkOk_by (own := [("_law_x", 1)]) (N := NIs) (sc := defScope sLawIsStretch) (by decide +kernel)) (fun _ _ _ _ _ => pg_name (i := 1) nd rfl (Or.inl rfl))
          (fun _ _ _ _ _ => pts_one (pt_not (pt_val (pe_call GI hr1 rfl gI kI bI .nil pass0 (pa_cons (pv 1) (pa_cons (pe_un un_neg (pe_op op_pow pe_int pe_int)) (pa_cons (pe_op op_pow pe_int pe_int) pa_nil)))))))
          (fun _ _ _ _ _ => pv 1)) (pe_lst pa_nil) (nomark _)) (pe_one (pe_cmpR op_le (pe_ix ix_tup (pv 0) pe_int (fun _ _ => rfl)) (pe_ix ix_tup (pv 0) pe_int (fun _ _ => rfl)) (nomark _))))))), ?_⟩
    refine rd_isd hd rfl (kit_tup d) ⟨_, rfl, ?_⟩
    cases d with
    | tuple ds =>
      obtain ⟨a, xs, rfl, h1, h2, hl⟩ := tup_len hd
      refine iteF ⟨_, rfl, _, ds.length, rfl, lenV_tup hd, rfl, _, rfl, ?_⟩
      by_cases h3 : ds.length = 2
      · rw [decide_eq_true (show V.int ((ds.length : Nat) : Int) = V.int 2 by rw [h3]; rfl)]
        obtain ⟨x, y, rfl, fx, fy⟩ := two_shape h3 tw
        cases h2 with
        | @cons vx _ _ _ dx t =>
        cases t with
        | @cons vy _ _ _ dy t =>
        cases t
        have px := (flat_dp fx dx).1
        have py := (flat_dp fy dy).1
        refine iteF ⟨_, rfl, a, rfl, ⟨_, h1⟩, fun D hD => ?_⟩
        -- what is not within
        refine lc_it (walk_tup (K := K) (a := a) (xs := [vx, vy])) (fun i H' => Same H H' ∧ ∃ ws fs, H' D = some (.lst ws) ∧ (∀ H'', DpAll K H'' ws fs) ∧ ws.length ≤ i ∧ (∀ z ∈ fs, flatIB z = true) ∧ fs = (([x, y].take i).filter fun z => !intIn z (-10000) 10000)) ⟨Same.new hD, [], [], upd_same, fun _ => .nil, Nat.le_refl _, (fun z hz => nomatch hz), rfl⟩ (fun i H' hi p => same_sqt p.1 h1) ?_ ?_
        · rintro i z _ H5 hi ⟨s5, ws, fs, bD, dD, lw, ff, ef⟩ ⟨rfl, hz⟩
          obtain ⟨d, fd', dd, pp, ed⟩ : ∃ d, flatIB d = true ∧ Dq K H5 z d ∧ (∀ H'', Dp K H'' z d) ∧ [x, y].take (i + 1) = [x, y].take i ++ [d] := by
            match i, hz with
            | 0, hz => cases hz; exact ⟨x, fx, dx.same s5, px, rfl⟩
            | 1, hz => cases hz; exact ⟨y, fy, dy.same s5, py, rfl⟩
            | i + 2, hz => cases hz
          refine ⟨rfl, ⟨_, rfl, 10, 4, rfl, rfl, ⟨by decide, by decide, by decide⟩, _, rfl, 10, 4, rfl, rfl, ⟨by decide, by decide, by decide⟩, z, d, -10000, 10000, rfl, dd, _, rfl, ?_⟩⟩
          cases hk : intIn d (-10000) 10000 with
          | true => exact iteF ⟨s5, ws, fs, bD, dD, by omega, ff, by rw [ed, List.filter_append, ← ef, List.filter_cons, hk]; simp⟩
          | false =>
            refine iteT ⟨_, rfl, ws, bD, Nat.lt_of_le_of_lt lw (Nat.lt_trans (show i < 3 by have : i < 2 := hi; omega) (by decide)), fun b o e => ?_, ws ++ [z], fs ++ [d], upd_same, fun H'' => dpAll_app (dD H'') (.cons (pp H'') .nil), by rw [List.length_append]; show ws.length + 1 ≤ i + 1; omega, fun u hu => ?_, by rw [ed, List.filter_append, ← ef, List.filter_cons, hk]; simp⟩
            · rw [upd_ne (ne_of_none e hD)]
              exact s5 b o e
            · rcases List.mem_append.mp hu with hu | hu
              · exact ff u hu
              · rw [List.mem_singleton.mp hu]
                exact fd'
        · rintro H5 ⟨s5, ws, fs, bD, dD, lw, ff, ef⟩
          refine ⟨Nat.zero_le _, fun e he => ?_⟩
          have s6 := Same.new (o := .lst []) he
          have s56 := s5.trans s6
          refine ⟨.list fs, .list [], .lst (SqL.of (s6 _ _ bD)) (dD _), .lst (SqL.of upd_same) .nil, flat_shaped ff, rfl, _, rfl, ?_⟩
          rw [eqv_nil]
          have q' := q _ s56
          rw [str_two] at q'
          have et : [x, y].take 2 = [x, y] := rfl
          rw [show ([vx, vy] : List V).length = 2 from rfl, et] at ef
          cases kx : intIn x (-10000) 10000 with
          | false =>
            rw [kx, Bool.false_and] at q'
            rw [decide_eq_false (show ¬ fs = [] from fun z => by rw [ef, List.filter_cons, kx] at z; cases z)]
            exact iteF q'
          | true =>
            rw [kx, Bool.true_and] at q'
            cases ky : intIn y (-10000) 10000 with
            | false =>
              rw [ky, Bool.false_and] at q'
              rw [decide_eq_false (show ¬ fs = [] from fun z => by rw [ef, List.filter_cons, kx, List.filter_cons, ky] at z; cases z)]
              exact iteF q'
            | true =>
              rw [ky, Bool.true_and] at q'
              rw [decide_eq_true (show fs = [] by rw [ef, List.filter_cons, kx, List.filter_cons, ky]; rfl)]
              cases x with
              | int i =>
                cases y with
                | int j =>
                  cases dx
                  cases dy
                  exact iteT ⟨_, rfl, a, _, 0, _, rfl, rfl, same_sqt s56 h1, atI_nat (j := 0) rfl, _, rfl, a, _, 1, _, rfl, rfl, same_sqt s56 h1, atI_nat (j := 1) rfl, _, _, rfl, rfl, q'⟩
                | _ => cases ky
              | _ => cases kx
      · rw [decide_eq_false (show ¬ V.int ((ds.length : Nat) : Int) = V.int 2 from fun z => h3 (by injection z with z; omega))]
        refine iteT ?_
        have := q H (fun _ _ e => e)
        rwa [str_many h3] at this
    | _ => exact iteT (q H (fun _ _ e => e))
end
end Ca
set_option Elab.async false
set_option linter.all false
set_option maxRecDepth 100000
set_option maxHeartbeats 8000000
namespace Ca
open PySem L2
/-! ### `_law_is_stretch` of any data -/
def spStrAny (K : PySem.W.Frag) : Sp := fun vs H Q _ => ∃ v d, vs = [v] ∧ Dq K H v d ∧ ∀ H', Same H H' → Q (.bl (isStretchD d)) H'
section
variable {P : Program} {w : World} {K : PySem.W.Frag} {mg : Str → Option Value} {base : Heap}
theorem ok_strAny {f fI : Addr} {fd fdI : FuncData} (F : FnT K "_law_is_stretch" sLawIsStretch f fd) (B : Bn mg)
    (gI : mg "_law_is_int" = some (.ref fI)) (GI : FnOk P w K mg base CX0 1 fI fdI ["_law_thing", "_law_least", "_law_most"] (spIntIn K)) (kI : PySem.W.keepIn K (.ref fI) = true) (bI : Binds K fdI ["_law_thing", "_law_least", "_law_most"] []) :
    FnOk P w K mg base CX0 2 f fd ["_law_thing"] (spStrAny K) := by
  refine F.ok scIs8 (fun vs H Q E h => ?_) (fun cdv A outer s H vs Q E hr h => ?_)
  · obtain ⟨v, d, rfl, _⟩ := h
    rfl
  · obtain ⟨v, d, rfl, hd, q⟩ := h
    have nd := scIs8.nd
    have hr1 : Room 1 _ := hr.mono (by decide)
    have hu : (A.deeper (PyProof.Rows.envOfC "_law_is_stretch" (defScope sLawIsStretch) s.heap.objs.size f cdv)).units < cLine := Nat.lt_of_le_of_lt (Nat.le_add_right _ 64) hr.units
    refine ⟨_, PSs.nox (pss_cons (ps_if (PW.pt (pw_or (pt_not (pt_val (pe_callB call_isi (by rfl) B.isi PyProof.Rows.boot_isinstance (pa_cons (pv 0) (pa_cons (pe_bltn (v := .ty "tuple") (by rfl) B.tup (by decide +kernel) rfl) pa_nil)))))
        (pw_or1 (pt_cmpR op_ne (pe_callB (call_lenK K) (by rfl) B.len boot_len (pa_cons (pv 0) pa_nil)) pe_int (nomark _))))) (pss_one (ps_ret pe_bl)) pss_nil)
      (pss_one (ps_ret (pe_and (pe_cmpR (op_eqNilL hu) (pe_lc (own := [("_law_x", 1)]) (g := gName 1) rfl nd (pi_tup (pv 0))
          (blkOk_by (own := [("_law_x", 1)]) (N := NIs) (sc := defScope sLawIsStretch) (by decide +kernel)) (fun _ _ _ _ _ => pg_name (i := 1) nd rfl (Or.inl rfl))
          (fun _ _ _ _ _ => pts_one (pt_not (pt_val (pe_call GI hr1 rfl gI kI bI .nil pass0 (pa_cons (pv 1) (pa_cons (pe_un un_neg (pe_op op_pow pe_int pe_int)) (pa_cons (pe_op op_pow pe_int pe_int) pa_nil)))))))
          (fun _ _ _ _ _ => pv 1)) (pe_lst pa_nil) (nomark _)) (pe_one (pe_cmpR op_le (pe_ix ix_tup (pv 0) pe_int (fun _ _ => rfl)) (pe_ix ix_tup (pv 0) pe_int (fun _ _ => rfl)) (nomark _))))))), ?_⟩
    refine rd_isd hd rfl (kit_tup d) ⟨_, rfl, ?_⟩
    cases d with
    | tuple ds =>
      obtain ⟨a, xs, rfl, h1, h2, hl⟩ := tup_len hd
      refine iteF ⟨_, rfl, _, ds.length, rfl, lenV_tup hd, rfl, _, rfl, ?_⟩
      by_cases h3 : ds.length = 2
      · rw [decide_eq_true (show V.int ((ds.length : Nat) : Int) = V.int 2 by rw [h3]; rfl)]
        obtain ⟨x, y, rfl⟩ : ∃ x y, ds = [x, y] := by
          match ds, h3 with
          | [x, y], _ => exact ⟨x, y, rfl⟩
        cases h2 with
        | @cons vx _ _ _ dx t =>
        cases t with
        | @cons vy _ _ _ dy t =>
        cases t
        refine iteF ⟨_, rfl, a, rfl, ⟨_, h1⟩, fun D hD => ?_⟩
        refine lc_it (walk_tup (K := K) (a := a) (xs := [vx, vy])) (fun i H' => Same H H' ∧ ∃ ws, H' D = some (.lst ws) ∧ ws.length ≤ i ∧ (ws = [] ↔ (([x, y].take i).all fun z => intIn z (-10000) 10000) = true)) ⟨Same.new hD, [], upd_same, Nat.le_refl _, by simp⟩ (fun i H' hi p => same_sqt p.1 h1) ?_ ?_
        · rintro i z _ H5 hi ⟨s5, ws, bD, lw, ew⟩ ⟨rfl, hz⟩
          obtain ⟨d, dd, ed⟩ : ∃ d, Dq K H5 z d ∧ [x, y].take (i + 1) = [x, y].take i ++ [d] := by
            match i, hz with
            | 0, hz => cases hz; exact ⟨x, dx.same s5, rfl⟩
            | 1, hz => cases hz; exact ⟨y, dy.same s5, rfl⟩
            | i + 2, hz => cases hz
          refine ⟨rfl, ⟨_, rfl, 10, 4, rfl, rfl, ⟨by decide, by decide, by decide⟩, _, rfl, 10, 4, rfl, rfl, ⟨by decide, by decide, by decide⟩, z, d, -10000, 10000, rfl, dd, _, rfl, ?_⟩⟩
          cases hk : intIn d (-10000) 10000 with
          | true => exact iteF ⟨s5, ws, bD, by omega, by rw [ed, List.all_append, List.all_cons, hk]; simpa using ew⟩
          | false =>
            refine iteT ⟨_, rfl, ws, bD, Nat.lt_of_le_of_lt lw (Nat.lt_trans (show i < 3 by have : i < 2 := hi; omega) (by decide)), fun b o e => ?_, ws ++ [z], upd_same, by rw [List.length_append]; show ws.length + 1 ≤ i + 1; omega, by rw [ed, List.all_append, List.all_cons, hk]; simp⟩
            rw [upd_ne (ne_of_none e hD)]
            exact s5 b o e
        · rintro H5 ⟨s5, ws, bD, lw, ew⟩
          refine ⟨Nat.zero_le _, fun e he => ?_⟩
          have s6 := Same.new (o := .lst []) he
          have s56 := s5.trans s6
          refine ⟨D, e, ws, rfl, rfl, SqL.of (s6 _ _ bD), SqL.of upd_same, _, rfl, ?_⟩
          have q' := q _ s56
          rw [str_two] at q'
          have ew' : ws = [] ↔ (intIn x (-10000) 10000 && intIn y (-10000) 10000) = true := by
            have e2 : (([x, y].take 2).all fun z => intIn z (-10000) 10000) = (intIn x (-10000) 10000 && intIn y (-10000) 10000) := by simp
            rw [← e2]
            exact ew
          show if decide (ws = []) = true then _ else _
          cases kx : intIn x (-10000) 10000 with
          | false =>
            rw [kx, Bool.false_and] at q'
            rw [decide_eq_false (show ¬ ws = [] from fun z => by have := ew'.mp z; rw [kx] at this; cases this)]
            exact iteF q'
          | true =>
            rw [kx, Bool.true_and] at q'
            cases ky : intIn y (-10000) 10000 with
            | false =>
              rw [ky, Bool.false_and] at q'
              rw [decide_eq_false (show ¬ ws = [] from fun z => by have := ew'.mp z; rw [kx, ky] at this; cases this)]
              exact iteF q'
            | true =>
              rw [ky, Bool.true_and] at q'
              rw [decide_eq_true (show ws = [] from ew'.mpr (by rw [kx, ky]; rfl))]
              cases x with
              | int i =>
                cases y with
                | int j =>
                  cases dx
                  cases dy
                  exact iteT ⟨_, rfl, a, _, 0, _, rfl, rfl, same_sqt s56 h1, atI_nat (j := 0) rfl, _, rfl, a, _, 1, _, rfl, rfl, same_sqt s56 h1, atI_nat (j := 1) rfl, _, _, rfl, rfl, q'⟩
                | _ => cases ky
              | _ => cases kx
      · rw [decide_eq_false (show ¬ V.int ((ds.length : Nat) : Int) = V.int 2 from fun z => h3 (by injection z with z; omega))]
        refine iteT ?_
        have := q H (fun _ _ e => e)
        rwa [str_many h3] at this
    | _ => exact iteT (q H (fun _ _ e => e))
end
end Ca
set_option Elab.async false
set_option linter.all false
set_option maxRecDepth 100000
set_option maxHeartbeats 8000000
namespace Ca
open PySem L2
/-! ### `_law_lines_slip`: the first wrong row, as the law tells it -/
def spLinesSlip (K : PySem.W.Frag) : Sp := fun vs H Q _ => ∃ v d m, vs = [v, .int (m : Nat)] ∧ Dq K H v d ∧ lenD d ≤ 5000 ∧ m ≤ 5000 ∧ ∀ H' z, Same H H' → H' z = some (.lst (slipL (rowsSlip d m))) → Q (.ref z) H'
abbrev NLs : List Str := ["_law_lines", "_law_many", "_law_titles", "_law_k", "_law_each", "_law_part"]
theorem scLs : FnScope NLs ["_law_lines", "_law_many"] (defScope sLawLinesSlip) := ⟨rfl, rfl, rfl, by decide +kernel, rfl, by decide +kernel, by decide +kernel⟩
section
variable {P : Program} {w : World} {K : PySem.W.Frag} {mg : Str → Option Value} {base : Heap}
theorem ok_linesSlip {f fN fS : Addr} {fd fdN fdS : FuncData} (F : FnT K "_law_lines_slip" sLawLinesSlip f fd) (B : Bn mg) (mrng : mg "range" = none)
    (gN : mg "_law_is_name" = some (.ref fN)) (GN : FnOk P w K mg base CX0 1 fN fdN ["_law_thing"] (spIs K isNameD)) (kN : PySem.W.keepIn K (.ref fN) = true) (bN : Binds K fdN ["_law_thing"] [])
    (gS : mg "_law_is_stretch" = some (.ref fS)) (GS : FnOk P w K mg base CX0 2 fS fdS ["_law_thing"] (spStrAny K)) (kS : PySem.W.keepIn K (.ref fS) = true) (bS : Binds K fdS ["_law_thing"] []) :
    FnOk P w K mg base CX0 3 f fd ["_law_lines", "_law_many"] (spLinesSlip K) := by
  refine F.ok scLs (fun vs H Q E h => ?_) (fun cdv A outer s H vs Q E hr h => ?_)
  · obtain ⟨v, d, m, rfl, _⟩ := h
    rfl
  · obtain ⟨v, d, m, rfl, hd, hl, hm, q⟩ := h
    have nd := scLs.nd
    have hr1 : Room 1 _ := hr.mono (by decide)
    have hu : (A.deeper (PyProof.Rows.envOfC "_law_lines_slip" (defScope sLawLinesSlip) s.heap.objs.size f cdv)).units < cLine := Nat.lt_of_le_of_lt (Nat.le_add_right _ 64) hr.units
    refine ⟨_, PSs.nox (pss_cons (ps_if (pt_not (pt_val (pe_callB call_isi (by rfl) B.isi PyProof.Rows.boot_isinstance (pa_cons (pv 0) (pa_cons (pe_bltn (v := .ty "tuple") (by rfl) B.tup (by decide +kernel) rfl) pa_nil))))) (pss_one (ps_ret (pe_lst (pa_cons pe_non pa_nil)))) pss_nil)
      (pss_cons (ps_set (i := 2) nd rfl (.inl rfl) (pe_lst pa_nil))
      (pss_cons (ps_for PassesOwn.never rfl (pi_range1 rfl mrng (pa_cons (pe_callB (call_lenK K) (by rfl) B.len boot_len (pa_cons (pv 0) pa_nil)) pa_nil)) (pg_name (i := 3) nd rfl (.inl rfl))
        (pss_cons (ps_set (i := 4) nd rfl (.inl rfl) (pe_ix ix_tup (pv 0) (pv 3) (fun _ _ => rfl)))
        (pss_cons (ps_if (PW.pt (pw_or (pt_cmpR op_eq (pv 3) pe_int (nomark _)) (pw_or (pt_not (pt_val (pe_callB call_isi (by rfl) B.isi PyProof.Rows.boot_isinstance (pa_cons (pv 4) (pa_cons (pe_bltn (v := .ty "tuple") (by rfl) B.tup (by decide +kernel) rfl) pa_nil)))))
            (pw_or1 (pt_cmpR op_ne (pe_callB (call_lenK K) (by rfl) B.len boot_len (pa_cons (pv 4) pa_nil)) pe_int (nomark _)))))) (pss_one (ps_ret (pe_lst (pa_cons (pv 3) pa_nil)))) pss_nil)
        (pss_cons (ps_if (PW.pt (pw_or (pt_not (pt_val (pe_call GN hr1 rfl gN kN bN .nil pass0 (pa_cons (pe_ix ix_tup (pv 4) pe_int (fun _ _ => rfl)) pa_nil)))) (pw_or1 (pt_cmpR op_in_seq (pe_ix ix_tup (pv 4) pe_int (fun _ _ => rfl)) (pv 2) (by rfl))))) (pss_one (ps_ret (pe_lst (pa_cons (pv 3) pa_nil)))) pss_nil)
        (pss_cons (ps_if (PW.pt (pw_or (pt_not (pt_val (pe_callB call_isi (by rfl) B.isi PyProof.Rows.boot_isinstance (pa_cons (pe_ix ix_tup (pv 4) pe_int (fun _ _ => rfl)) (pa_cons (pe_bltn (v := .ty "tuple") (by rfl) B.tup (by decide +kernel) rfl) pa_nil)))))
            (pw_or (pt_cmpR op_ne (pe_callB (call_lenK K) (by rfl) B.len boot_len (pa_cons (pe_ix ix_tup (pv 4) pe_int (fun _ _ => rfl)) pa_nil)) (pv 1) (nomark _)) (pw_or1 (pt_not (pt_val (pe_call GS (hr.mono (by decide)) rfl gS kS bS .nil pass0 (pa_cons (pe_ix ix_tup (pv 4) pe_int (fun _ _ => rfl)) pa_nil)))))))) (pss_one (ps_ret (pe_lst (pa_cons (pv 3) pa_nil)))) pss_nil)
        (pss_cons (ps_if (pt_cmpR (op_neNilL hu) (pe_lc (own := [("_law_part", 5)]) (g := gName 5) rfl nd (pi_tup (pe_ix ix_tup (pv 4) pe_int (fun _ _ => rfl)))
            (blkOk_by (own := [("_law_part", 5)]) (N := NLs) (sc := defScope sLawLinesSlip) (by decide +kernel)) (fun _ _ _ _ _ => pg_name (i := 5) nd rfl (Or.inl rfl))
            (fun _ _ _ _ _ => pts_one (pt_not (pt_val (pe_call GS (hr.mono (by decide)) rfl gS kS bS .nil pass0 (pa_cons (pv 5) pa_nil))))) (fun _ _ _ _ _ => pv 5)) (pe_lst pa_nil) (nomark _)) (pss_one (ps_ret (pe_lst (pa_cons (pv 3) pa_nil)))) pss_nil)
        (pss_one (ps_expr (pe_bm PySem.F.plainAttrs_list PySem.F.slot_list_append PySem.F.type_list_append mt_append (pv 2) (pa_cons (pe_ix ix_tup (pv 4) pe_int (fun _ _ => rfl)) pa_nil))))))))))
      (pss_one (ps_ret (pe_lst pa_nil)))))), ?_⟩
    have one : 1 ≤ sizeLine := by decide
    refine rd_isd hd rfl (kit_tup d) ⟨_, rfl, ?_⟩
    cases d with
    | tuple ds =>
      obtain ⟨a, xs, rfl, h1, h2, hl2⟩ := tup_len hd
      refine iteF ⟨Nat.zero_le _, fun t0 ht0 => ⟨_, rfl, _, ds.length, rfl, lenV_tup (hd.same (Same.new ht0)), (ds.length : Int), rfl, by omega, by have : ds.length ≤ 5000 := hl; omega, ?_⟩⟩
      have s0 := Same.new (o := .lst []) ht0
      refine for_it (walk_range (lo := 0) (n := ds.length)) (fun k σ' H' => k ≤ ds.length ∧ (∃ o3 o4, σ' = [some (.ref a), some (.int (m : Nat)), some (.ref t0), o3, o4, none]) ∧ Same H H' ∧ ∃ seen : List Str, H' t0 = some (.lst (seen.map V.str)) ∧ seen.length = k ∧ rowsGo m 0 [] ds = rowsGo m k seen (ds.drop k))
        ⟨Nat.zero_le _, ⟨_, _, rfl⟩, s0, [], upd_same, rfl, by simp⟩ (fun _ _ _ _ _ => trivial) ?_ (fun σ' H' pp => ?_)
      · rintro k z _ H5 _ hk ⟨hkl, ⟨o3, o4, rfl⟩, s5, seen, e1, e2, e3⟩ ⟨rfl, hz⟩
        obtain rfl : z = .int (k : Nat) := by
          rw [hz]
          show V.int (0 + (k : Int)) = _
          rw [Int.zero_add]
        have hk1 : k < xs.length := by rw [hl2]; exact hk
        have h5 := same_sqt s5 h1
        have hv : xs[k]? = some xs[k] := List.getElem?_eq_getElem hk1
        obtain ⟨d, hd', dv⟩ := (h2.same s5).get hv
        have edr : ds.drop k = d :: ds.drop (k + 1) := by
          rw [List.drop_eq_getElem_cons hk]
          congr 1
          rw [List.getElem?_eq_getElem hk] at hd'
          exact Option.some.inj hd'
        rw [edr, rowsGo_cons] at e3
        have stop : (k = 6 ∨ isRowD d m = false ∨ rowNm d ∈ seen) → ∀ H6, Same H H6 → ∀ p, H6 p = none → Q (.ref p) (upd H6 p (.lst [.int (k : Nat)])) := fun h H6 s6 p hp => q _ p (s6.trans (Same.new hp)) (by
          have e4 : rowsGo m 0 [] ds = some k := by
            rw [e3]
            split
            · rfl
            · split
              · rfl
              · rw [if_pos]
                rcases h with h | h | h
                · contradiction
                · contradiction
                · exact h
          rw [upd_same]
          show some (HO.lst [V.int (k : Nat)]) = some (.lst (slipL ((rowsGo m 0 [] ds).map some)))
          rw [e4]
          rfl)
        generalize xs[k] = y at hv dv
        refine ⟨_, rfl, _, rfl, a, _, _, _, rfl, rfl, h5, atI_nat hv, ?_⟩
        refine ⟨_, rfl, rfl, _, rfl, ?_⟩
        by_cases c6 : k = 6
        · rw [decide_eq_true (show V.int ((k : Nat) : Int) = V.int 6 by rw [c6]; rfl)]
          exact iteT ⟨_, rfl, one, fun p hp => stop (.inl c6) _ s5 p hp⟩
        · rw [decide_eq_false (show ¬ V.int ((k : Nat) : Int) = V.int 6 from fun z => c6 (by injection z with z; omega))]
          refine iteF (rd_isd dv rfl (kit_tup d) ⟨_, rfl, ?_⟩)
          cases d with
          | tuple es =>
            obtain ⟨b, ys, rfl, y1, y2, yl⟩ := tup_len dv
            refine iteF ⟨_, rfl, _, es.length, rfl, lenV_tup dv, rfl, _, rfl, ?_⟩
            by_cases c3 : es.length = 3
            · rw [decide_eq_true (show V.int ((es.length : Nat) : Int) = V.int 3 by rw [c3]; rfl)]
              obtain ⟨n, p, bb, rfl⟩ : ∃ n p bb, es = [n, p, bb] := by
                match es, c3 with
                | [n, p, bb], _ => exact ⟨n, p, bb, rfl⟩
              have row : isRowD (.tuple [n, p, bb]) m = (isNameD n && (isTupN p m && ((partsOf p ++ [bb]).all isStretchD))) := rfl
              cases y2 with
              | @cons vn _ _ _ dn t =>
              cases t with
              | @cons vp _ _ _ dp t =>
              cases t with
              | @cons vb _ _ _ db t =>
              cases t
              refine iteF ⟨_, rfl, b, _, 0, _, rfl, rfl, y1, atI_nat (j := 0) rfl, vn, n, rfl, dn, fun H6 s6 => ⟨_, rfl, ?_⟩⟩
              have s56 := s5.trans s6
              cases hn : isNameD n with
              | false => exact iteT ⟨_, rfl, one, fun p' hp => stop (.inr (.inl (by rw [row, hn, Bool.false_and]))) _ s56 p' hp⟩
              | true =>
              obtain ⟨x, rfl⟩ : ∃ x, n = .str x := by
                cases n with
                | str x => exact ⟨x, rfl⟩
                | _ => cases hn
              cases dn with
              | str _ xl =>
              have y16 := same_sqt s6 y1
              refine iteF ⟨_, rfl, b, _, 0, _, rfl, rfl, y16, atI_nat (j := 0) rfl, _, rfl, t0, _, rfl, .inl (SqL.of (s6 _ _ e1)), rfl, flat_strs seen, _, rfl, ?_⟩
              show if inV (.str x) (seen.map V.str) = true then _ else _
              rw [inV_strs]
              by_cases cm : x ∈ seen
              · rw [decide_eq_true cm]
                exact iteT ⟨_, rfl, one, fun p' hp => stop (.inr (.inr cm)) _ s56 p' hp⟩
              · rw [decide_eq_false cm]
                refine iteF ⟨_, rfl, b, _, 1, _, rfl, rfl, y16, atI_nat (j := 1) rfl, vp, .ty "tuple", _, _, _, rfl, .ty "tuple", (dp.same s6).tyx, kit_ty (kit_tup p), _, rfl, ?_⟩
                cases p with
                | tuple ps =>
                  obtain ⟨pa, us, rfl, p1, p2, pl⟩ := tup_len (dp.same s6)
                  refine iteF ⟨_, rfl, b, _, 1, _, rfl, rfl, y16, atI_nat (j := 1) rfl, _, ps.length, rfl, lenV_tup (dp.same s6), _, rfl, rfl, _, rfl, ?_⟩
                  by_cases cp : ps.length = m
                  · rw [decide_eq_true (show V.int ((ps.length : Nat) : Int) = V.int (m : Nat) by rw [cp])]
                    refine iteF ⟨_, rfl, b, _, 2, _, rfl, rfl, y16, atI_nat (j := 2) rfl, vb, bb, rfl, db.same s6, fun H7 s7 => ⟨_, rfl, ?_⟩⟩
                    have s57 := s56.trans s7
                    have y17 := same_sqt s7 y16
                    have p17 := same_sqt s7 p1
                    have row2 : isRowD (.tuple [.str x, .tuple ps, bb]) m = (ps.all isStretchD && isStretchD bb) := by
                      rw [row, hn, show isTupN (.tuple ps) m = true from decide_eq_true cp]
                      show (ps ++ [bb]).all isStretchD = _
                      rw [List.all_append, List.all_cons]
                      simp
                    cases hs : isStretchD bb with
                    | false => exact iteT ⟨_, rfl, one, fun p' hp => stop (.inr (.inl (by rw [row2, hs, Bool.and_false]))) _ s57 p' hp⟩
                    | true =>
                      refine iteF ⟨_, rfl, b, _, 1, _, rfl, rfl, y17, atI_nat (j := 1) rfl, pa, rfl, ⟨_, p17⟩, fun D hD => ?_⟩
                      refine lc_it (walk_tup (K := K) (a := pa) (xs := us)) (fun i H' => Same H7 H' ∧ ∃ ws, H' D = some (.lst ws) ∧ ws.length ≤ i ∧ (ws = [] ↔ (ps.take i).all isStretchD = true)) ⟨Same.new hD, [], upd_same, Nat.le_refl _, by simp⟩ (fun i H' hi pp => same_sqt pp.1 p17) ?_ ?_
                      · rintro i z _ H8 hi ⟨s8, ws, bD, lw, ew⟩ ⟨rfl, hz⟩
                        obtain ⟨g, hg, dg⟩ := (p2.same (s7.trans s8)).get hz
                        have et : ps.take (i + 1) = ps.take i ++ [g] := by rw [List.take_succ, hg]; rfl
                        have hi2 : i < us.length := hi
                        refine ⟨rfl, ⟨_, rfl, z, g, rfl, dg, fun H9 s9 => ⟨_, rfl, ?_⟩⟩⟩
                        have bD9 := s9 _ _ bD
                        cases hk : isStretchD g with
                        | true => exact iteF ⟨s8.trans s9, ws, bD9, by omega, by rw [et, List.all_append, List.all_cons, hk]; simpa using ew⟩
                        | false =>
                          refine iteT ⟨_, rfl, ws, bD9, Nat.lt_of_le_of_lt lw (Nat.lt_of_lt_of_le hi2 (Nat.le_trans (show us.length ≤ 5000 by omega) (by decide))), fun c o e => ?_, ws ++ [z], upd_same, by rw [List.length_append]; show ws.length + 1 ≤ i + 1; omega, by rw [et, List.all_append, List.all_cons, hk]; simp⟩
                          rw [upd_ne (ne_of_none e hD)]
                          exact s9 _ _ (s8 _ _ e)
                      · rintro H8 ⟨s8, ws, bD, lw, ew⟩
                        rw [show us.length = ps.length from pl, List.take_length] at ew
                        refine ⟨Nat.zero_le _, fun e he => ?_⟩
                        have s9 := Same.new (o := .lst []) he
                        have s59 := s57.trans (s8.trans s9)
                        refine ⟨D, e, ws, rfl, rfl, SqL.of (s9 _ _ bD), SqL.of upd_same, _, rfl, ?_⟩
                        show if (!decide (ws = [])) = true then _ else _
                        by_cases cw : ws = []
                        · rw [decide_eq_true cw]
                          have ok : ¬ isRowD (.tuple [.str x, .tuple ps, bb]) m = false := by
                            rw [row2, ew.mp cw, hs]
                            decide
                          rw [if_neg c6, if_neg ok, if_neg (show ¬ rowNm (.tuple [.str x, .tuple ps, bb]) ∈ seen from cm)] at e3
                          have g1 := (s6.trans (s7.trans (s8.trans s9))) _ _ e1
                          refine iteF ⟨_, rfl, .inl ⟨rfl, _, SqL.of g1⟩, _, rfl, b, _, 0, _, rfl, rfl, same_sqt (s8.trans s9) y17, atI_nat (j := 0) rfl, t0, _, _, rfl, rfl, g1, by rw [List.length_map, e2]; exact Nat.lt_of_lt_of_le hk (Nat.le_trans hl (by decide)), hk, ⟨_, _, rfl⟩, fun c o ec => ?_, seen ++ [x], ?_, by rw [List.length_append, e2]; rfl, e3⟩
                          · rw [upd_ne (ne_of_none ec ht0)]
                            exact s59 _ _ ec
                          · rw [List.map_append]
                            exact upd_same
                        · rw [decide_eq_false cw]
                          exact iteT ⟨_, rfl, one, fun p' hp => stop (.inr (.inl (by
                            rw [row2]
                            cases ha : ps.all isStretchD with
                            | true => exact absurd (ew.mpr ha) cw
                            | false => rfl))) _ s59 p' hp⟩
                  · rw [decide_eq_false (show ¬ V.int ((ps.length : Nat) : Int) = V.int (m : Nat) from fun z => cp (by injection z with z; omega))]
                    exact iteT ⟨_, rfl, one, fun p' hp => stop (.inr (.inl (by rw [row, show isTupN (.tuple ps) m = false from decide_eq_false cp, Bool.false_and, Bool.and_false]))) _ s56 p' hp⟩
                | _ => exact iteT ⟨_, rfl, one, fun p' hp => stop (.inr (.inl (by rw [row]; exact Bool.and_false _))) _ s56 p' hp⟩
            · rw [decide_eq_false (show ¬ V.int ((es.length : Nat) : Int) = V.int 3 from fun z => c3 (by injection z with z; omega))]
              refine iteT ⟨_, rfl, one, fun p hp => stop (.inr (.inl ?_)) _ s5 p hp⟩
              match es, c3 with
              | [], _ => rfl
              | [_], _ => rfl
              | [_, _], _ => rfl
              | [_, _, _], c => exact absurd rfl c
              | _ :: _ :: _ :: _ :: _, _ => rfl
          | _ => exact iteT ⟨_, rfl, one, fun p hp => stop (.inr (.inl rfl)) _ s5 p hp⟩
      · obtain ⟨_, ⟨o3, o4, rfl⟩, s5, seen, e1, e2, e3⟩ := pp
        refine ⟨Nat.zero_le _, fun p hp => q _ p (s5.trans (Same.new hp)) ?_⟩
        rw [upd_same]
        show some (HO.lst []) = some (.lst (slipL ((rowsGo m 0 [] ds).map some)))
        rw [e3, List.drop_length]
        rfl
    | _ => exact iteT ⟨one, fun p hp => q _ p (Same.new hp) (by rw [upd_same]; rfl)⟩
end
end Ca
set_option Elab.async false
set_option linter.all false
set_option maxRecDepth 100000
set_option maxHeartbeats 8000000
namespace Ca
open PySem L2
/-! ### `_law_system_in` -/
def LineIs (ws : List Str) (d : PyData) : Prop := ∃ w1 es k, ws[0]? = some ("row" : Str) ∧ ws[1]? = some w1 ∧ WordsAre Whole (ws.drop 2) es ∧ es.length = 2 * (k + 1) ∧ d = rowW w1 es k
theorem ints_of_pairs {es : List PyData} {ps : List (Int × Int)} (hl : es.length = 2 * ps.length) (h : pairsD es ps.length = ps.map strD) : es = (intsOf ps).map PyData.int := by
  apply List.ext_getElem?
  intro j
  by_cases hj : j < es.length
  · obtain ⟨i, hi⟩ : ∃ i, j = 2 * i ∨ j = 2 * i + 1 := ⟨j / 2, by omega⟩
    have hi2 : i < ps.length := by omega
    have e : (pairsD es ps.length)[i]? = (ps.map strD)[i]? := by rw [h]
    unfold pairsD at e
    rw [List.getElem?_map, List.getElem?_range hi2, List.getElem?_map, List.getElem?_eq_getElem hi2] at e
    have e2 : (PyData.tuple [es.getD (2 * i) .none, es.getD (2 * i + 1) .none]) = strD ps[i] := Option.some.inj e
    injection e2 with e2
    injection e2 with a e2
    injection e2 with b _
    obtain ⟨c1, c2⟩ := intsOf_get ps i hi2
    rw [List.getElem?_map]
    rcases hi with rfl | rfl
    · rw [c1, List.getElem?_eq_getElem hj]
      rw [List.getD_eq_getElem?_getD, List.getElem?_eq_getElem hj] at a
      exact congrArg some a
    · rw [c2, List.getElem?_eq_getElem hj]
      rw [List.getD_eq_getElem?_getD, List.getElem?_eq_getElem hj] at b
      exact congrArg some b
  · rw [List.getElem?_eq_none (by omega), List.getElem?_eq_none (by rw [List.length_map, intsOf_len]; omega)]
theorem pairsD_len (es : List PyData) (m : Nat) : (pairsD es m).length = m := by
  unfold pairsD
  rw [List.length_map, List.length_range]
theorem two_heads {α : Type} {ws : List α} {a b : α} (h0 : ws[0]? = some a) (h1 : ws[1]? = some b) : ws = a :: b :: ws.drop 2 := by
  match ws, h0, h1 with
  | x :: y :: r, h0, h1 =>
    cases h0
    cases h1
    rfl
  | [x], _, h1 => cases h1
theorem line_back {ws : List Str} {r : Rw} (h : LineIs ws (rowD r)) : ws = [("row" : Str), r.name] ++ wordsOf (r.parts ++ [r.bd]) := by
  obtain ⟨w1, es, k, h0, h1, hw, hl, hd⟩ := h
  unfold rowW at hd
  injection hd with hd
  injection hd with a hd
  injection hd with b hd
  injection hd with c _
  injection a with a
  injection b with b
  have kk : k = r.parts.length := by
    have := congrArg List.length b
    rw [pairsD_len, List.length_map] at this
    exact this.symm
  have e2 : pairsD es (r.parts ++ [r.bd]).length = (r.parts ++ [r.bd]).map strD := by
    rw [List.length_append, show [r.bd].length = 1 from rfl, ← kk, pairs_succ, List.map_append, ← b, ← c]
    rfl
  have ee := ints_of_pairs (by rw [hl, List.length_append, kk]; rfl) e2
  have ew : ws.drop 2 = wordsOf (r.parts ++ [r.bd]) := by
    rw [words_ints]
    obtain ⟨w1', w2⟩ := hw
    apply List.ext_getElem?
    intro i
    by_cases hi : i < (intsOf (r.parts ++ [r.bd])).length
    · have hi3 : i < es.length := by rw [ee, List.length_map]; exact hi
      have hi2 : i < (ws.drop 2).length := by rw [← w1']; exact hi3
      have he : es[i]? = some (.int (intsOf (r.parts ++ [r.bd]))[i]) := by rw [ee, List.getElem?_map, List.getElem?_eq_getElem hi]; rfl
      rw [List.getElem?_map, List.getElem?_eq_getElem hi, List.getElem?_eq_getElem hi2]
      rcases w2 i _ _ (List.getElem?_eq_getElem hi2) he with ⟨z, _⟩ | ⟨n, en, ex, _⟩
      · cases z
      · injection en with en
        rw [ex, ← en]
        rfl
    · rw [List.getElem?_eq_none (by rw [← w1', ee, List.length_map]; omega), List.getElem?_eq_none (by rw [List.length_map]; omega)]
  rw [two_heads h0 h1, ew, ← a]
  rfl
theorem whole_exact : ∀ w e, Whole w e → ∀ n : Int, n.natAbs ≤ 10000 → w = intS n → e = .int n := fun w e h n hn ew => by
  rcases h with ⟨_, h⟩ | ⟨m, rfl, _, hm⟩
  · exact absurd ew (h n hn)
  · have := (int_reads hn).2
    rw [← ew, hm] at this
    cases this
    rfl
theorem line_exact {ws : List Str} {d : PyData} {r : Rw} {m : Nat} (ok : isRowD (rowD r) m = true) (h : LineIs ws d) (hc : ws = [("row" : Str), r.name] ++ wordsOf (r.parts ++ [r.bd])) : d = rowD r := by
  obtain ⟨w1, es, k, _, h1, hw, hl, rfl⟩ := h
  exact rowW_exact whole_exact ok hc h1 hw (by omega)
/-- the words of all lines, and what the lines tell -/
def LinesAre (Ws : List (List Str)) (ds : List PyData) : Prop := ds.length = Ws.length ∧ ∀ (j : Nat) (ws : List Str) (d : PyData), Ws[j]? = some ws → ds[j]? = some d → LineIs ws d
/-- a text that comes through is the text of a system -/
theorem is_page {t : Str} {first : Str} {others : List Str} {us : List Str} {ns : List Str} {rs : List Rw} (hl : Txt.split t "\n" = first :: others) (hf : Txt.split first " " = ("unknowns" : Str) :: us) (eu : us = ns)
    (h : LinesAre (others.map fun x => Txt.split x " ") (rs.map rowD)) : t = pageS ns rs := by
  subst eu
  have e1 : t = Str.join "\n" (first :: others) := by rw [← hl]; exact (StrLaws.join_split t "\n").symm
  have e2 : first = Txt.join " " (("unknowns" : Str) :: us) := by rw [TL.join_eq, ← hf]; exact (StrLaws.join_split first " ").symm
  have e3 : others = rs.map lineS := by
    obtain ⟨h1, h2⟩ := h
    rw [List.length_map, List.length_map] at h1
    apply List.ext_getElem?
    intro i
    by_cases hi : i < others.length
    · have hi2 : i < rs.length := by omega
      rw [List.getElem?_map, List.getElem?_eq_getElem hi, List.getElem?_eq_getElem hi2]
      have := line_back (h2 i (Txt.split others[i] " ") (rowD rs[i]) (by rw [List.getElem?_map, List.getElem?_eq_getElem hi]; rfl) (by rw [List.getElem?_map, List.getElem?_eq_getElem hi2]; rfl))
      have e : others[i] = lineS rs[i] := by
        unfold lineS
        rw [TL.join_eq, ← this]
        exact (StrLaws.join_split _ " ").symm
      rw [e]
      rfl
    · rw [List.getElem?_eq_none (by omega), List.getElem?_eq_none (by rw [List.length_map]; omega)]
  unfold pageS
  rw [e1, TL.join_eq, e2, e3]
/-- what the lines of such a text tell -/
theorem page_lines {ns : List Str} {rs : List Rw} {t first : Str} {others : List Str} (hN : Folk ns) (hL : Lines rs ns.length) (e : t = pageS ns rs) (hl : Txt.split t "\n" = first :: others) :
    Txt.split first " " = ("unknowns" : Str) :: ns ∧ others = rs.map lineS := by
  have c := page_cut (m := ns.length) (folk_names hN) hL.ok
  rw [← e, hl] at c
  obtain ⟨a, b⟩ := List.cons.inj c
  exact ⟨by rw [a]; exact folk_cut (folk_names hN), b⟩
theorem page_words {rs : List Rw} {m i : Nat} {x : Str} (ok : ∀ r ∈ rs, isRowD (rowD r) m = true) (hx : (rs.map lineS)[i]? = some x) : ∃ r, rs[i]? = some r ∧ isRowD (rowD r) m = true ∧ Txt.split x " " = [("row" : Str), r.name] ++ wordsOf (r.parts ++ [r.bd]) := by
  rw [List.getElem?_map] at hx
  cases e : rs[i]? with
  | none => rw [e] at hx; cases hx
  | some r =>
    rw [e] at hx
    cases hx
    have o := ok r (List.mem_of_getElem? e)
    exact ⟨r, rfl, o, line_cut o⟩
theorem page_rows {rs : List Rw} {ds : List PyData} {m : Nat} (ok : ∀ r ∈ rs, isRowD (rowD r) m = true) (h : LinesAre ((rs.map lineS).map fun x => Txt.split x " ") ds) : ds = rs.map rowD := by
  obtain ⟨h1, h2⟩ := h
  rw [List.length_map, List.length_map] at h1
  apply List.ext_getElem?
  intro i
  by_cases hi : i < rs.length
  · have hi2 : i < ds.length := by omega
    have o := ok _ (List.getElem_mem hi)
    have := line_exact o (h2 i (Txt.split (lineS rs[i]) " ") ds[i] (by rw [List.getElem?_map, List.getElem?_map, List.getElem?_eq_getElem hi]; rfl) (List.getElem?_eq_getElem hi2)) (line_cut o)
    rw [List.getElem?_map, List.getElem?_eq_getElem hi, List.getElem?_eq_getElem hi2, this]
    rfl
  · rw [List.getElem?_eq_none (by omega), List.getElem?_eq_none (by rw [List.length_map]; omega)]
def Al2 {α β : Type} (R : α → β → Prop) (ws : List α) (es : List β) : Prop := es.length = ws.length ∧ ∀ (j : Nat) (x : α) (e : β), ws[j]? = some x → es[j]? = some e → R x e
theorem Al2.nil {α β : Type} {R : α → β → Prop} : Al2 R [] [] := ⟨rfl, fun j x e h => by simp at h⟩
theorem Al2.imp {α β : Type} {R R' : α → β → Prop} {ws : List α} {es : List β} (h : Al2 R ws es) (i : ∀ x e, e ∈ es → R x e → R' x e) : Al2 R' ws es := ⟨h.1, fun j x e a b => i x e (List.mem_of_getElem? b) (h.2 j x e a b)⟩
theorem Al2.snoc {α β : Type} {R : α → β → Prop} {ws : List α} {es : List β} {i : Nat} {x : α} {e : β} (h : Al2 R (ws.take i) es) (hx : ws[i]? = some x) (r : R x e) : Al2 R (ws.take (i + 1)) (es ++ [e]) := by
  obtain ⟨h1, h2⟩ := h
  have hi : i < ws.length := (List.getElem?_eq_some_iff.mp hx).1
  have lt : (ws.take i).length = i := by rw [List.length_take]; omega
  have et : ws.take (i + 1) = ws.take i ++ [x] := by rw [List.take_succ, hx]; rfl
  rw [lt] at h1
  rw [et]
  refine ⟨by rw [List.length_append, List.length_append, h1, lt]; rfl, fun j x' e' a b => ?_⟩
  by_cases hj : j < i
  · rw [List.getElem?_append_left (by rw [lt]; exact hj)] at a
    rw [List.getElem?_append_left (by rw [h1]; exact hj)] at b
    exact h2 j x' e' a b
  · rw [List.getElem?_append_right (by rw [lt]; omega), lt] at a
    rw [List.getElem?_append_right (by rw [h1]; omega), h1] at b
    match hz : j - i with
    | 0 =>
      rw [hz] at a b
      cases a
      cases b
      exact r
    | z + 1 =>
      rw [hz] at a
      simp at a
/-- lists of words stand at qs -/
def QAt (H : Hp) (x : Str) (q : Addr) : Prop := H q = some (.lst ((Txt.split x " ").map V.str))
theorem Al2.get {α β : Type} {R : α → β → Prop} {ws : List α} {es : List β} {j : Nat} {e : β} (h : Al2 R ws es) (he : es[j]? = some e) : ∃ x, ws[j]? = some x ∧ R x e := by
  have hj : j < es.length := (List.getElem?_eq_some_iff.mp he).1
  have hj2 : j < ws.length := by rw [← h.1]; exact hj
  exact ⟨_, List.getElem?_eq_getElem hj2, h.2 j _ e (List.getElem?_eq_getElem hj2) he⟩
def spSysIn (K : PySem.W.Frag) : Sp := fun vs H Q _ => ∃ t : Str, vs = [.str t] ∧ t.length ≤ 4990 ∧
  ∀ H' v, Same H H' → ((v = .non ∧ ¬ IsPageD (.str t)) ∨ ∃ ns rs, Folk ns ∧ Lines rs ns.length ∧ t = pageS ns rs ∧ Dq K H' v (caseD ns rs)) → Q v H'
abbrev NSi : List Str := ["_law_page_here", "_law_words", "_law_lines", "_law_some", "_law_ends", "_law_pairs", "_law_folk", "_law_each", "_law_word", "_law_k"]
theorem scSi : FnScope NSi ["_law_page_here"] (defScope sLawSystemIn) := ⟨rfl, rfl, rfl, by decide +kernel, rfl, by decide +kernel, by decide +kernel⟩
section
variable {P : Program} {w : World} {K : PySem.W.Frag} {mg : Str → Option Value} {base : Heap}
theorem ok_sysIn {f fW fF fL : Addr} {fd fdW fdF fdL : FuncData} (F : FnT K "_law_system_in" sLawSystemIn f fd) (B : Bn mg) (mrng : mg "range" = none)
    (gW : mg "_law_whole_in" = some (.ref fW)) (GW : FnOk P w K mg base CX0 1 fW fdW ["_law_word"] spWhole) (kW : PySem.W.keepIn K (.ref fW) = true) (bW : Binds K fdW ["_law_word"] [])
    (gF : mg "_law_folk_slip" = some (.ref fF)) (GF : FnOk P w K mg base CX0 2 fF fdF ["_law_folk"] (spFolkSlip K)) (kF : PySem.W.keepIn K (.ref fF) = true) (bF : Binds K fdF ["_law_folk"] [])
    (gL : mg "_law_lines_slip" = some (.ref fL)) (GL : FnOk P w K mg base CX0 3 fL fdL ["_law_lines", "_law_many"] (spLinesSlip K)) (kL : PySem.W.keepIn K (.ref fL) = true) (bL : Binds K fdL ["_law_lines", "_law_many"] []) :
    FnOk P w K mg base CX0 4 f fd ["_law_page_here"] (spSysIn K) := by
  refine F.ok scSi (fun vs H Q E h => ?_) (fun cdv A outer s H vs Q E hr h => ?_)
  · obtain ⟨t, rfl, _⟩ := h
    rfl
  · obtain ⟨t, rfl, lt, q⟩ := h
    have nd := scSi.nd
    have hr1 : Room 1 _ := hr.mono (by decide)
    have hr2 : Room 2 _ := hr.mono (by decide)
    have hu : (A.deeper (PyProof.Rows.envOfC "_law_system_in" (defScope sLawSystemIn) s.heap.objs.size f cdv)).units < cLine := Nat.lt_of_le_of_lt (Nat.le_add_right _ 64) hr.units
    refine ⟨_, PSs.nox (pss_cons (ps_cut (ps_setLc (i := 1) (own := [("_law_each", 7)]) (g := gName 7) (tt := tYes) rfl nd rfl rfl (sw_true rfl rfl rfl (by decide +kernel)) (pi_list (pe_split (pv 0) pe_str))
          (blkOk_by (own := [("_law_each", 7)]) (N := NSi) (sc := defScope sLawSystemIn) (by decide +kernel)) (fun _ _ _ _ _ => pg_name (i := 7) nd rfl (Or.inl rfl)) (fun _ _ _ _ _ => pts_nil) (fun _ _ _ _ _ => pe_split (pv 7) pe_str)))
      (pss_cons (ps_cut (ps_set (i := 2) nd rfl (.inl rfl) (pe_lst pa_nil)))
      (pss_cons (ps_cut (ps_for PassesOwn.never rfl (pi_list (pe_slice sl_list (pv 1) (po_some pe_int) po_none)) (pg_name (i := 3) nd rfl (.inl rfl))
        (pss_cons (ps_cut (ps_if (PW.pt (pw_or (pt_cmpR op_lt (pe_callB (call_lenK K) (by rfl) B.len boot_len (pa_cons (pv 3) pa_nil)) pe_int (nomark _))
            (pw_or (pt_cmpR op_eq (pe_op op_mod (pe_callTy call_int1 (by rfl) B.int (by decide +kernel) (pa_cons (pe_callB (call_lenK K) (by rfl) B.len boot_len (pa_cons (pv 3) pa_nil)) pa_nil)) pe_int) pe_int (nomark _)) (pw_or1 (pt_cmpR op_ne (pe_ix ix_list (pv 3) pe_int (fun _ _ => rfl)) pe_str (nomark _)))))) (pss_one (ps_ret pe_non)) pss_nil))
        (pss_cons (ps_cut (ps_set (i := 4) nd rfl (.inr rfl) (pe_lc (own := [("_law_word", 8)]) (g := gName 8) (tt := tYes) rfl nd (pi_list (pe_slice sl_list (pv 3) (po_some pe_int) po_none))
            (blkOk_by (own := [("_law_word", 8)]) (N := NSi) (sc := defScope sLawSystemIn) (by decide +kernel)) (fun _ _ _ _ _ => pg_name (i := 8) nd rfl (Or.inl rfl)) (fun _ _ _ _ _ => pts_nil) (fun _ _ _ _ _ => pe_call GW hr1 rfl gW kW bW .nil pass0 (pa_cons (pv 8) pa_nil)))))
        (pss_cons (ps_cut (ps_setLc (i := 5) (own := [("_law_k", 9)]) (g := gName 9) (tt := tYes) rfl nd rfl rfl (sw_true rfl rfl rfl (by decide +kernel)) (pi_range1 rfl mrng (pa_cons (pe_op op_fdiv (pe_callB (call_lenK K) (by rfl) B.len boot_len (pa_cons (pv 4) pa_nil)) pe_int) pa_nil))
            (blkOk_by (own := [("_law_k", 9)]) (N := NSi) (sc := defScope sLawSystemIn) (by decide +kernel)) (fun _ _ _ _ _ => pg_name (i := 9) nd rfl (Or.inl rfl)) (fun _ _ _ _ _ => pts_nil)
            (fun _ _ _ _ _ => pe_tup (pa_cons (pe_ix (ixL K) (pv 4) (pe_op op_mul pe_int (pv 9)) (fun _ _ => rfl)) (pa_cons (pe_ix (ixL K) (pv 4) (pe_op op_add (pe_op op_mul pe_int (pv 9)) pe_int) (fun _ _ => rfl)) pa_nil)))))
        (pss_one (ps_cut (ps_expr (pe_bm PySem.F.plainAttrs_list PySem.F.slot_list_append PySem.F.type_list_append mt_append (pv 2) (pa_cons (pe_tup (pa_cons (pe_ix ix_list (pv 3) pe_int (fun _ _ => rfl)) (pa_cons (pe_callTy call_tuple_of (by rfl) B.tup (by decide +kernel) (pa_cons (pe_slice sl_list (pv 5) po_none (po_some (pe_un un_neg pe_int))) pa_nil))
            (pa_cons (pe_ix ix_list (pv 5) (pe_un un_neg pe_int) (fun _ _ => rfl)) pa_nil)))) pa_nil))))))))))
      (pss_cons (ps_cut (ps_if (PW.pt (pw_or (pt_cmpR op_ne (pe_ix ix_list (pe_ix ix_list (pv 1) pe_int (fun _ _ => rfl)) pe_int (fun _ _ => rfl)) pe_str (nomark _)) (pw_or1 (pt_cmpR (op_neNilL hu) (pe_call GF hr2 rfl gF kF bF .nil pass0 (pa_cons (pe_callTy call_tuple_of (by rfl) B.tup (by decide +kernel) (pa_cons (pe_slice sl_list (pe_ix ix_list (pv 1) pe_int (fun _ _ => rfl)) (po_some pe_int) po_none) pa_nil)) pa_nil)) (pe_lst pa_nil) (nomark _))))) (pss_one (ps_ret pe_non)) pss_nil))
      (pss_cons (ps_cut (ps_set (i := 6) nd rfl (.inl rfl) (pe_callTy call_tuple_of (by rfl) B.tup (by decide +kernel) (pa_cons (pe_slice sl_list (pe_ix ix_list (pv 1) pe_int (fun _ _ => rfl)) (po_some pe_int) po_none) pa_nil))))
      (pss_one (ps_ret (pe_ifExp (pt_cmpR (op_eqNilL hu) (pe_call GL hr rfl gL kL bL .nil pass0 (pa_cons (pe_callTy call_tuple_of (by rfl) B.tup (by decide +kernel) (pa_cons (pv 2) pa_nil)) (pa_cons (pe_callB (call_lenK K) (by rfl) B.len boot_len (pa_cons (pv 6) pa_nil)) pa_nil))) (pe_lst pa_nil) (nomark _)) (pe_tup (pa_cons (pv 6) (pa_cons (pe_callTy call_tuple_of (by rfl) B.tup (by decide +kernel) (pa_cons (pv 2) pa_nil)) pa_nil))) pe_non)))))))), ?_⟩
    have one : 1 ≤ sizeLine := by decide
    have two : 2 ≤ sizeLine := by decide
    have three : 3 ≤ sizeLine := by decide
    have hparts := split_parts t "\n"
    have hmany := split_many t "\n" (by decide +kernel)
    have hne := split_ne t "\n"
    obtain ⟨ls, els⟩ : ∃ ls, Txt.split t "\n" = ls := ⟨_, rfl⟩
    rw [els] at hparts hmany hne
    -- all words
    refine ⟨fun σ' H' => ∃ (D : Addr) (qs : List Addr), σ' = [some (.str t), some (.ref D), none, none, none, none, none, none, none, none] ∧ Same H H' ∧ H' D = some (.lst (qs.map V.ref)) ∧ Al2 (QAt H') ls qs, ?_, ?_⟩
    · refine ⟨_, rfl, ⟨_, rfl⟩, _, _, rfl, rfl, by decide +kernel, Nat.le_trans (Nat.add_le_add_right lt 2) (by decide), fun p1 h1 => ?_⟩
      rw [els]
      have s1 := Same.new (o := .lst (ls.map V.str)) h1
      have e1 : upd H p1 (.lst (ls.map V.str)) p1 = some (.lst (ls.map V.str)) := upd_same
      generalize upd H p1 (.lst (ls.map V.str)) = H1 at s1 e1 ⊢
      refine ⟨p1, rfl, ⟨_, SqL.of e1⟩, fun D hD => ?_⟩
      refine lc_it (walk_list (K := K) (a := p1) (xs := ls.map V.str)) (fun i H' => Same H1 H' ∧ ∃ qs : List Addr, H' D = some (.lst (qs.map V.ref)) ∧ (∀ q ∈ qs, q ≠ D) ∧ Al2 (QAt H') (ls.take i) qs) ⟨Same.new hD, [], upd_same, fun _ h => (nomatch h), Al2.nil⟩ (fun i H' hi p => SqL.of (p.1 _ _ e1)) ?_ ?_
      · rintro i z _ H5 hi ⟨s5, qs, bD, nq, al⟩ ⟨rfl, hz⟩
        obtain ⟨x, hx, rfl⟩ : ∃ x, ls[i]? = some x ∧ z = .str x := by
          replace hz : (ls.map V.str)[i]? = some z := hz
          rw [List.getElem?_map] at hz
          cases e : ls[i]? with
          | none => rw [e] at hz; cases hz
          | some x => rw [e] at hz; exact ⟨x, rfl, (Option.some.inj hz).symm⟩
        have pl := (hparts x (List.mem_of_getElem? hx)).2
        refine ⟨rfl, rdYes ⟨_, rfl, ⟨_, rfl⟩, _, _, rfl, rfl, by decide +kernel, Nat.le_trans (Nat.add_le_add_right (Nat.le_trans pl lt) 2) (by decide), fun q hq => ?_⟩⟩
        have s6 := Same.new (o := .lst ((Txt.split x " ").map V.str)) hq
        have b6 := s6 _ _ bD
        have nqD : q ≠ D := fun z => by rw [z, bD] at hq; cases hq
        refine ⟨_, b6, ?_, fun b o e => ?_, qs ++ [q], ?_, fun q' h => ?_, (al.imp fun x' e' he r => ?_).snoc hx ?_⟩
        · rw [List.length_map, al.1, List.length_take]
          exact Nat.lt_of_le_of_lt (show _ ≤ 5001 by omega) (by decide)
        · rw [upd_ne (ne_of_none e hD)]
          exact s6 _ _ (s5 _ _ e)
        · rw [upd_same, List.map_append]
          rfl
        · rcases List.mem_append.mp h with h | h
          · exact nq q' h
          · rw [List.mem_singleton.mp h]
            exact nqD
        · show upd _ D _ e' = _
          rw [upd_ne (nq e' he)]
          exact s6 _ _ r
        · show upd _ D _ q = _
          rw [upd_ne nqD, upd_same]
      · rintro H5 ⟨s5, qs, bD, nq, al⟩
        rw [List.length_map, List.take_length] at al
        exact ⟨D, qs, rfl, s1.trans s5, bD, al⟩
    rintro _ H1 ⟨D, qs, rfl, s1, eD, al⟩
    obtain ⟨first, others, rfl⟩ : ∃ f o, ls = f :: o := by
      cases ls with
      | nil => exact absurd rfl hne
      | cons f o => exact ⟨f, o, rfl⟩
    obtain ⟨q0, qr, rfl⟩ : ∃ a b, qs = a :: b := by
      have := al.1
      cases qs with
      | nil => cases this
      | cons a b => exact ⟨a, b, rfl⟩
    have al0 : QAt H1 first q0 := al.2 0 _ _ rfl rfl
    have alr : Al2 (QAt H1) others qr := ⟨by simpa using al.1, fun j x e a b => al.2 (j + 1) x e a b⟩
    have lo : others.length ≤ 5000 := by simp only [List.length_cons] at hmany; omega
    have fparts := split_parts first " "
    have ffne := split_ne first " "
    have lf := (hparts first (List.mem_cons_self ..)).2
    have pageF : ∀ ns rs, Folk ns → Lines rs ns.length → t = pageS ns rs → Txt.split first " " = ("unknowns" : Str) :: ns ∧ others = rs.map lineS := fun ns rs hN hL e => page_lines hN hL e els
    -- no lines as yet
    refine ⟨fun σ' H' => ∃ t0, σ' = [some (.str t), some (.ref D), some (.ref t0), none, none, none, none, none, none, none] ∧ H1 t0 = none ∧ H' = upd H1 t0 (.lst []), ?_, ?_⟩
    · exact ⟨Nat.zero_le _, fun t0 h0 => ⟨t0, rfl, h0, rfl⟩⟩
    rintro _ _ ⟨t0, rfl, h0, rfl⟩
    have nt : ∀ b o, H1 b = some o → b ≠ t0 := fun b o e => ne_of_none e h0
    -- the lines
    refine ⟨fun σ' H' => (∃ o3 o4 o5, σ' = [some (.str t), some (.ref D), some (.ref t0), o3, o4, o5, none, none, none, none]) ∧ Same H1 H' ∧ ∃ zs ds, H' t0 = some (.lst zs) ∧ DqAll K H' zs ds ∧ noLs ds = true ∧ Al2 LineIs (others.map fun x => Txt.split x " ") ds, ?_, ?_⟩
    · have s2 : Same H1 (upd H1 t0 (.lst [])) := Same.new h0
      refine ⟨_, rfl, _, rfl, rd_no ⟨D, _, rfl, SqL.of (s2 _ _ eD), fun p2 h2 => ?_⟩⟩
      have ec : cutV ((q0 :: qr).map V.ref) (some 1) none = qr.map V.ref := by
        rw [show (1 : Int) = ((1 : Nat) : Int) from rfl, cut_drop]
        rfl
      rw [ec]
      have s3 := Same.new (o := .lst (qr.map V.ref)) h2
      have np : p2 ≠ t0 := fun z => by rw [z, upd_same] at h2; cases h2
      have e0 : upd (upd H1 t0 (.lst [])) p2 (.lst (qr.map V.ref)) t0 = some (.lst []) := s3 _ _ upd_same
      have e2 : upd (upd H1 t0 (.lst [])) p2 (.lst (qr.map V.ref)) p2 = some (.lst (qr.map V.ref)) := upd_same
      have s12 := s2.trans s3
      generalize upd (upd H1 t0 (.lst [])) p2 (.lst (qr.map V.ref)) = Hs at s12 e0 e2 ⊢
      refine ⟨p2, rfl, ⟨_, SqL.of e2⟩, ?_⟩
      refine for_it (walk_list (K := K) (a := p2) (xs := qr.map V.ref)) (fun k σ' H' => (∃ o3 o4 o5, σ' = [some (.str t), some (.ref D), some (.ref t0), o3, o4, o5, none, none, none, none]) ∧ Kept t0 Hs H' ∧ ∃ zs ds, H' t0 = some (.lst zs) ∧ DqAll K H' zs ds ∧ noLs ds = true ∧ Al2 LineIs ((others.map fun x => Txt.split x " ").take k) ds)
        ⟨⟨_, _, _, rfl⟩, Kept.refl _ _, [], [], e0, .nil, rfl, Al2.nil⟩ (fun k σ' H' hk pp => SqL.of (pp.2.1 _ _ np e2)) ?_ (fun σ' H' pp => ?_)
      · rintro k z _ _ H8 hk ⟨⟨o3, o4, o5, rfl⟩, k8, zs, ds, et, dzs, nl, ld⟩ ⟨rfl, hz⟩
        obtain ⟨qk, hqk, rfl⟩ : ∃ qk, qr[k]? = some qk ∧ z = .ref qk := by
          replace hz : (qr.map V.ref)[k]? = some z := hz
          rw [List.getElem?_map] at hz
          cases e : qr[k]? with
          | none => rw [e] at hz; cases hz
          | some x => rw [e] at hz; exact ⟨x, rfl, (Option.some.inj hz).symm⟩
        obtain ⟨x, hx, qx⟩ := alr.get hqk
        have sB : Same H1 H8 := fun b o e => k8 b o (nt b o e) (s12 _ _ e)
        have qx8 := sB _ _ qx
        have lx := (hparts x (List.mem_cons_of_mem _ (List.mem_of_getElem? hx))).2
        have wparts := split_parts x " "
        have wmany := split_many x " " (by decide +kernel)
        have pageW : IsPageD (.str t) → ∃ (r : Rw), Txt.split x " " = [("row" : Str), r.name] ++ wordsOf (r.parts ++ [r.bd]) := fun ⟨ns, rs, hN, hL, e⟩ => by
          have eo := (pageF ns rs hN hL (PyData.str.inj e)).2
          rw [eo] at hx
          obtain ⟨r, _, _, h⟩ := page_words hL.ok hx
          exact ⟨r, h⟩
        have hWs : (others.map fun x => Txt.split x " ")[k]? = some (Txt.split x " ") := by rw [List.getElem?_map, hx]; rfl
        generalize Txt.split x " " = ws at qx8 wparts wmany pageW hWs
        have lenW : ∀ r : Rw, ws = [("row" : Str), r.name] ++ wordsOf (r.parts ++ [r.bd]) → ws.length = 2 * (r.parts.length + 1) + 2 := fun r e => by
          rw [e, words_ints, List.length_append, List.length_map, intsOf_len, List.length_append]
          simp only [List.length_cons, List.length_nil]
          omega
        have stop : ¬ IsPageD (.str t) → Q .non H8 := fun hn => q H8 .non (s1.trans sB) (.inl ⟨rfl, hn⟩)
        -- what can be no row
        refine ⟨fun σ' H' => σ' = [some (.str t), some (.ref D), some (.ref t0), some (.ref qk), o4, o5, none, none, none, none] ∧ H' = H8 ∧ 4 ≤ ws.length ∧ ws.length % 2 = 0 ∧ ws[0]? = some ("row" : Str), ?_, ?_⟩
        · refine ⟨_, rfl, _, ws.length, rfl, .inl ⟨_, SqL.of qx8, by rw [List.length_map]⟩, _, _, rfl, rfl, _, rfl, ?_⟩
          by_cases c4 : ((ws.length : Nat) : Int) < 4
          · rw [decide_eq_true c4]
            refine iteT (iteT (stop fun h => ?_))
            obtain ⟨r, e⟩ := pageW h
            have := lenW r e
            omega
          · rw [decide_eq_false c4]
            refine iteF ⟨_, rfl, _, ws.length, rfl, .inl ⟨_, SqL.of qx8, by rw [List.length_map]⟩, .inl ⟨_, rfl, _, _, rfl, rfl, (Int.ofNat_lt.mpr Nat.two_pos), rfl, _, rfl, ?_⟩⟩
            by_cases c2 : V.int (((ws.length : Nat) : Int) % 2) = V.int 1
            · rw [decide_eq_true c2]
              refine iteT (iteT (stop fun h => ?_))
              obtain ⟨r, e⟩ := pageW h
              have := lenW r e
              injection c2 with c2
              omega
            · rw [decide_eq_false c2]
              have c2' : ws.length % 2 = 0 := by
                have : ¬ (((ws.length : Nat) : Int) % 2 = 1) := fun z => c2 (by rw [z])
                omega
              obtain ⟨w0, hw0⟩ : ∃ w0, ws[0]? = some w0 := ⟨_, List.getElem?_eq_getElem (by omega : 0 < ws.length)⟩
              refine iteF ⟨_, rfl, qk, _, 0, .str w0, rfl, rfl, SqL.of qx8, atI_nat (j := 0) (by rw [List.getElem?_map, hw0]; rfl), rfl, _, rfl, ?_⟩
              by_cases cr : w0 = "row"
              · rw [decide_eq_true (show V.str w0 = V.str "row" by rw [cr])]
                exact iteF ⟨rfl, rfl, by omega, c2', by rw [hw0, cr]⟩
              · rw [decide_eq_false (show ¬ V.str w0 = V.str "row" from fun z => cr (V.str.inj z))]
                refine iteT (stop fun h => cr ?_)
                obtain ⟨r, e⟩ := pageW h
                rw [e] at hw0
                exact (Option.some.inj hw0).symm
        rintro _ H8 ⟨rfl, rfl, h4, he, hrow⟩
        -- the ends
        refine ⟨fun σ' H' => ∃ (p : Addr) (es : List PyData), σ' = [some (.str t), some (.ref D), some (.ref t0), some (.ref qk), some (.ref p), o5, none, none, none, none] ∧ Same H8 H' ∧ H' p = some (.lst (es.map numV)) ∧ WordsAre Whole (ws.drop 2) es, ?_, ?_⟩
        · refine ⟨_, rfl, _, rfl, rd_no ⟨qk, _, rfl, SqL.of qx8, fun p3 h3 => ?_⟩⟩
          have ec3 : cutV (ws.map V.str) (some 2) none = (ws.drop 2).map V.str := by
            rw [show (2 : Int) = ((2 : Nat) : Int) from rfl, cut_drop, List.map_drop]
          rw [ec3]
          have s9 := Same.new (o := .lst ((ws.drop 2).map V.str)) h3
          have e9 : upd H8 p3 (.lst ((ws.drop 2).map V.str)) p3 = some (.lst ((ws.drop 2).map V.str)) := upd_same
          generalize upd H8 p3 (.lst ((ws.drop 2).map V.str)) = H9 at s9 e9 ⊢
          refine ⟨p3, rfl, ⟨_, SqL.of e9⟩, fun D9 hD9 => ?_⟩
          refine lc_it (walk_list (K := K) (a := p3) (xs := (ws.drop 2).map V.str)) (fun i H' => Same H9 H' ∧ ∃ es : List PyData, H' D9 = some (.lst (es.map numV)) ∧ WordsAre Whole ((ws.drop 2).take i) es) ⟨Same.new hD9, [], upd_same, WordsAre.nil⟩ (fun i H' hi p => SqL.of (p.1 _ _ e9)) ?_ ?_
          · rintro i z _ H5 hi ⟨s5, es, bD, we⟩ ⟨rfl, hz⟩
            obtain ⟨y, hy, rfl⟩ : ∃ y, (ws.drop 2)[i]? = some y ∧ z = .str y := by
              replace hz : ((ws.drop 2).map V.str)[i]? = some z := hz
              rw [List.getElem?_map] at hz
              cases e : (ws.drop 2)[i]? with
              | none => rw [e] at hz; cases hz
              | some y => rw [e] at hz; exact ⟨y, rfl, (Option.some.inj hz).symm⟩
            have ly := (wparts y (List.mem_of_mem_drop (List.mem_of_getElem? hy))).2
            refine ⟨rfl, rdYes ⟨_, rfl, y, rfl, by omega, fun H6 d s6 wh => ⟨_, s6 _ _ bD, ?_, fun b o e => ?_, es ++ [d], ?_, we.snoc hy wh⟩⟩⟩
            · rw [List.length_map, we.1, List.length_take]
              exact Nat.lt_of_le_of_lt (show _ ≤ 5001 by rw [List.length_drop]; omega) (by decide)
            · rw [upd_ne (ne_of_none e hD9)]
              exact s6 _ _ (s5 _ _ e)
            · rw [upd_same, List.map_append]
              rfl
          · rintro H5 ⟨s5, es, bD, we⟩
            rw [List.length_map, List.take_length] at we
            exact ⟨D9, es, rfl, s9.trans s5, bD, we⟩
        rintro _ H9 ⟨p, es, rfl, s9, e9, we⟩
        have el : es.length = ws.length - 2 := by rw [we.1, List.length_drop]
        obtain ⟨m, hm⟩ : ∃ m, es.length = 2 * (m + 1) := ⟨es.length / 2 - 1, by omega⟩
        have num : ∀ e ∈ es, e = .none ∨ ∃ n, e = .int n := fun e he => by
          obtain ⟨j, hj⟩ := List.mem_iff_getElem?.mp he
          have hj2 : j < es.length := (List.getElem?_eq_some_iff.mp hj).1
          have hj3 : j < (ws.drop 2).length := by rw [← we.1]; exact hj2
          exact (we.2 j _ e (List.getElem?_eq_getElem hj3) hj).num
        have at_ : ∀ i, i < es.length → (es.map numV)[i]? = some (numV (es.getD i .none)) := fun i hi => by
          rw [List.getElem?_map, List.getD_eq_getElem?_getD, List.getElem?_eq_getElem hi]
          rfl
        -- the pairs
        refine ⟨fun σ' H' => ∃ (E1 : Addr) (us : List V), σ' = [some (.str t), some (.ref D), some (.ref t0), some (.ref qk), some (.ref p), some (.ref E1), none, none, none, none] ∧ Same H8 H' ∧ H' E1 = some (.lst us) ∧ DqAll K H' us (pairsD es (m + 1)), ?_, ?_⟩
        · refine ⟨_, rfl, _, es.length, rfl, .inl ⟨_, SqL.of e9, by rw [List.length_map]⟩, _, _, rfl, rfl, ⟨by decide, by decide⟩, ((es.length : Nat) : Int) / 2, rfl, by omega, by omega, fun E1 hE => ?_⟩
          have en : (((es.length : Nat) : Int) / 2).toNat = m + 1 := by omega
          rw [en]
          refine lc_it (walk_range (lo := 0) (n := m + 1)) (fun i H' => Same H9 H' ∧ ∃ us, H' E1 = some (.lst us) ∧ us.length = i ∧ DqAll K H' us (pairsD es i)) ⟨Same.new hE, [], upd_same, rfl, .nil⟩ (fun _ _ _ _ => trivial) ?_ ?_
          · rintro i z _ H5 hi ⟨s5, us, bE, lu, du⟩ ⟨rfl, hz⟩
            have hi2 : i < m + 1 := hi
            obtain rfl : z = .int (i : Nat) := by
              rw [hz]
              show V.int (0 + (i : Int)) = _
              rw [Int.zero_add]
            have b5 := s5 _ _ e9
            have cm : CMul 2 ((i : Nat) : Int) := .inl ⟨by decide, by decide⟩
            have i1 : 2 * ((i : Nat) : Int) = ((2 * i : Nat) : Int) := by omega
            have i2 : 2 * ((i : Nat) : Int) + 1 = ((2 * i + 1 : Nat) : Int) := by omega
            refine ⟨rfl, rdYes ⟨_, rfl, _, rfl, _, _, rfl, rfl, cm, p, _, _, _, rfl, rfl, SqL.of b5, by rw [i1]; exact atI_nat (at_ (2 * i) (by omega)), _, rfl, _, rfl, _, _, rfl, rfl, cm, _, _, rfl, rfl, p, _, _, _, rfl, rfl, SqL.of b5, by rw [i2]; exact atI_nat (at_ (2 * i + 1) (by omega)), two, fun t ht => ?_⟩⟩
            have s6 := Same.new (o := .tup [numV (es.getD (2 * i) .none), numV (es.getD (2 * i + 1) .none)]) ht
            have b6 := s6 _ _ bE
            have kD : ∀ zs : List V, Kept E1 (upd H5 t (.tup [numV (es.getD (2 * i) .none), numV (es.getD (2 * i + 1) .none)])) (upd (upd H5 t (.tup [numV (es.getD (2 * i) .none), numV (es.getD (2 * i + 1) .none)])) E1 (.lst zs)) := fun zs b o n e => by rw [upd_ne n]; exact e
            refine ⟨_, b6, by rw [lu]; exact Nat.lt_of_lt_of_le (show i < 5001 by omega) (by decide), fun b o e => ?_, us ++ [.ref t], upd_same, by rw [List.length_append, lu]; rfl, ?_⟩
            · rw [upd_ne (ne_of_none e hE)]
              exact s6 _ _ (s5 _ _ e)
            · rw [pairs_succ]
              exact (DqAll.but b6 (kD _) (noLs_pairs num i) (du.same s6)).app (.cons (Dq.but b6 (kD _) (noL_pair num i) (.tup (SqT.of upd_same) (.cons (num_dq (num_at num _)) (.cons (num_dq (num_at num _)) .nil)))) .nil)
          · rintro H5 ⟨s5, us, bE, lu, du⟩
            exact ⟨E1, us, rfl, s9.trans s5, bE, du⟩
        rintro _ H10 ⟨E1, us, rfl, s10, bE, du⟩
        rw [pairs_succ] at du
        obtain ⟨ys, z, rfl, dys, dz⟩ := dq_last du
        obtain ⟨w1, hw1⟩ : ∃ w1, ws[1]? = some w1 := ⟨_, List.getElem?_eq_getElem (by omega : 1 < ws.length)⟩
        have hv1 : (ws.map V.str)[1]? = some (.str w1) := by rw [List.getElem?_map, hw1]; rfl
        have pl1 := (wparts w1 (List.mem_of_getElem? hw1)).2
        -- a row more
        refine ⟨fun σ' H' => (∃ o3 o4 o5, σ' = [some (.str t), some (.ref D), some (.ref t0), o3, o4, o5, none, none, none, none]) ∧ Kept t0 Hs H' ∧ ∃ zs ds, H' t0 = some (.lst zs) ∧ DqAll K H' zs ds ∧ noLs ds = true ∧ Al2 LineIs ((others.map fun x => Txt.split x " ").take (k + 1)) ds, ?_, fun σ' H' pp => pp⟩
        have et10 := s10 _ _ et
        refine ⟨_, rfl, .inl ⟨rfl, _, SqL.of et10⟩, _, rfl, qk, _, 1, _, rfl, rfl, SqL.of (s10 _ _ qx8), atI_nat (j := 1) hv1, _, rfl, _, rfl, _, rfl, E1, _, rfl, SqL.of bE, fun q1 g1 => ?_⟩
        rw [cut_init4 _ (by simp), List.dropLast_concat]
        have z1 := Same.new (o := .lst ys) g1
        refine ⟨q1, _, rfl, .inl ⟨SqL.of upd_same, fun q2 g2 => ?_⟩⟩
        have z2 := Same.new (o := .tup ys) g2
        refine ⟨_, rfl, _, rfl, E1, _, _, _, rfl, rfl, SqL.of (z2 _ _ (z1 _ _ bE)), atI_last ys z, three, fun q3 g3 => ?_⟩
        have z3 := Same.new (o := .tup [.str w1, .ref q2, z]) g3
        have z13 := z1.trans (z2.trans z3)
        have et13 := z13 _ _ et10
        have nlr : noL (rowW w1 es m) = true := by
          unfold rowW
          simp only [noL, noLs]
          rw [noLs_pairs num m, noL_pair num m]
          rfl
        have dR : Dq K _ (.ref q3) (rowW w1 es m) := .tup (SqT.of upd_same) (.cons (.str _ (by omega)) (.cons (.tup (SqT.of (z3 _ _ upd_same)) (dys.same z13)) (.cons (dz.same z13) .nil)))
        have kD : ∀ zs : List V, Kept t0 (upd (upd (upd H10 q1 (.lst ys)) q2 (.tup ys)) q3 (.tup [.str w1, .ref q2, z])) (upd (upd (upd (upd H10 q1 (.lst ys)) q2 (.tup ys)) q3 (.tup [.str w1, .ref q2, z])) t0 (.lst zs)) := fun zs b o n e => by rw [upd_ne n]; exact e
        refine ⟨t0, _, _, rfl, rfl, et13, ?_, ⟨_, _, _, rfl⟩, ?_, zs ++ [.ref q3], ds ++ [rowW w1 es m], upd_same, (DqAll.but et13 (kD _) nl ((dzs.same s10).same z13)).app (.cons (Dq.but et13 (kD _) nlr dR) .nil), noLs_app nl nlr, ld.snoc hWs ⟨w1, es, m, hrow, hw1, we, hm, rfl⟩⟩
        · rw [dzs.len, ld.1, List.length_take]
          exact Nat.lt_of_le_of_lt (show _ ≤ 5000 by rw [List.length_map]; omega) (by decide)
        · intro b o n e
          rw [upd_ne n]
          exact z13 _ _ (s10 _ _ (k8 b o n e))
      · obtain ⟨⟨o3, o4, o5, rfl⟩, k8, zs, ds, et, dzs, nl, ld⟩ := pp
        refine ⟨⟨_, _, _, rfl⟩, fun b o e => k8 b o (nt b o e) (s12 _ _ e), zs, ds, et, dzs, nl, ?_⟩
        rw [List.length_map, alr.1, List.take_of_length_le (by rw [List.length_map]; exact Nat.le_refl _)] at ld
        exact ld
    rintro _ H2 ⟨⟨o3, o4, o5, rfl⟩, s2, zs, ds, et, dzs, nl, ld⟩
    have s02 := s1.trans s2
    have eD2 := s2 _ _ eD
    have q02 := s2 _ _ al0
    obtain ⟨us, eus⟩ : ∃ us, Txt.split first " " = us := ⟨_, rfl⟩
    rw [eus] at fparts ffne pageF
    replace q02 : H2 q0 = some (.lst (us.map V.str)) := by
      have : H2 q0 = some (.lst ((Txt.split first " ").map V.str)) := q02
      rw [eus] at this
      exact this
    obtain ⟨u0, ur, rfl⟩ : ∃ a b, us = a :: b := by
      cases us with
      | nil => exact absurd rfl ffne
      | cons a b => exact ⟨a, b, rfl⟩
    have lur : ur.length ≤ 5000 := by
      have := split_many first " " (by decide +kernel)
      rw [eus] at this
      simp only [List.length_cons] at this
      omega
    have ecu : cutV ((u0 :: ur).map V.str) (some 1) none = ur.map V.str := by
      rw [show (1 : Int) = ((1 : Nat) : Int) from rfl, cut_drop]
      rfl
    have dU : ∀ {H' : Hp} {b : Addr}, H' b = some (.tup (ur.map V.str)) → Dq K H' (.ref b) (.tuple (ur.map PyData.str)) := fun {H' b} e => .tup (SqT.of e) (strs_dqL fun x hx => Nat.le_trans (fparts x (List.mem_cons_of_mem _ hx)).2 (Nat.le_trans lf (by omega)))
    have lenU : lenD (.tuple (ur.map PyData.str)) ≤ 5000 := by
      show (ur.map PyData.str).length ≤ 5000
      rw [List.length_map]
      exact lur
    -- the unknowns are right
    refine ⟨fun σ' H' => σ' = [some (.str t), some (.ref D), some (.ref t0), o3, o4, o5, none, none, none, none] ∧ Same H2 H' ∧ u0 = "unknowns" ∧ unkSlip (.tuple (ur.map PyData.str)) = none, ?_, ?_⟩
    · refine ⟨_, rfl, D, _, 0, _, rfl, rfl, SqL.of eD2, atI_nat (j := 0) rfl, q0, _, 0, _, rfl, rfl, SqL.of q02, atI_nat (j := 0) rfl, rfl, _, rfl, ?_⟩
      by_cases cu : u0 = "unknowns"
      · rw [decide_eq_true (show V.str u0 = V.str "unknowns" by rw [cu])]
        refine iteF ⟨_, rfl, D, _, 0, _, rfl, rfl, SqL.of eD2, atI_nat (j := 0) rfl, _, rfl, rd_no ⟨q0, _, rfl, SqL.of q02, fun p4 h4 => ?_⟩⟩
        rw [ecu]
        have s4 := Same.new (o := .lst (ur.map V.str)) h4
        refine ⟨p4, _, rfl, .inl ⟨SqL.of upd_same, fun p5 h5 => ?_⟩⟩
        have s5 := s4.trans (Same.new (o := .tup (ur.map V.str)) h5)
        refine ⟨.ref p5, _, rfl, dU upd_same, lenU, fun H6 z6 s6 e6 => ⟨Nat.zero_le _, fun e7 h7 => ?_⟩⟩
        have s7 := Same.new (o := .lst []) h7
        refine ⟨z6, e7, _, rfl, rfl, SqL.of (s7 _ _ e6), SqL.of upd_same, _, rfl, ?_⟩
        have s27 := s5.trans (s6.trans s7)
        cases hs : unkSlip (.tuple (ur.map PyData.str)) with
        | none =>
          show if (!decide (slipL none = [])) = true then _ else _
          exact iteF ⟨rfl, s27, cu, rfl⟩
        | some i =>
          show if (!decide (slipL (some i) = [])) = true then _ else _
          refine iteT (q _ .non (s02.trans s27) (.inl ⟨rfl, fun ⟨ns, rs, hN, hL, e⟩ => ?_⟩))
          have e1 := (pageF ns rs hN hL (PyData.str.inj e)).1
          obtain ⟨_, e2⟩ := List.cons.inj e1
          rw [e2] at hs
          have := folk_ok hN
          rw [show unkSlip (.tuple (ns.map PyData.str)) = none from this] at hs
          cases hs
      · rw [decide_eq_false (show ¬ V.str u0 = V.str "unknowns" from fun z => cu (V.str.inj z))]
        refine iteT (iteT (q _ .non s02 (.inl ⟨rfl, fun ⟨ns, rs, hN, hL, e⟩ => cu ?_⟩)))
        exact (List.cons.inj (pageF ns rs hN hL (PyData.str.inj e)).1).1
    rintro _ H3 ⟨rfl, s3, cu, hu0⟩
    have s03 := s02.trans s3
    obtain ⟨ns, en, hN⟩ := folk_of hu0
    have ens : ur = ns := by
      have : PyData.tuple (ur.map PyData.str) = folkD ns := en
      exact folk_inj this
    subst ens
    -- them themselves
    refine ⟨fun σ' H' => ∃ b, σ' = [some (.str t), some (.ref D), some (.ref t0), o3, o4, o5, some (.ref b), none, none, none] ∧ Same H3 H' ∧ H' b = some (.tup (ur.map V.str)), ?_, ?_⟩
    · refine ⟨_, rfl, D, _, 0, _, rfl, rfl, SqL.of (s3 _ _ eD2), atI_nat (j := 0) rfl, _, rfl, rd_no ⟨q0, _, rfl, SqL.of (s3 _ _ q02), fun p4 h4 => ?_⟩⟩
      rw [ecu]
      have s4 := Same.new (o := .lst (ur.map V.str)) h4
      refine ⟨p4, _, rfl, .inl ⟨SqL.of upd_same, fun p5 h5 => ?_⟩⟩
      exact ⟨p5, rfl, s4.trans (Same.new (o := .tup (ur.map V.str)) h5), upd_same⟩
    rintro _ H4 ⟨b, rfl, s4, eb⟩
    have s24 := s3.trans s4
    have et4 := s24 _ _ et
    have dz4 := dzs.same s24
    have lds : ds.length ≤ 5000 := by rw [ld.1, List.length_map]; exact lo
    refine ⟨_, rfl, t0, _, rfl, .inl ⟨SqL.of et4, fun p5 h5 => ?_⟩⟩
    have s5 := Same.new (o := .tup zs) h5
    have s45 := s5
    refine ⟨_, rfl, _, ur.length, rfl, .inr ⟨_, SqT.of (s5 _ _ eb), by rw [List.length_map]⟩, .ref p5, .tuple ds, ur.length, rfl, .tup (SqT.of upd_same) (dz4.same s5), lds, by have := hN.hi; omega, fun H6 z6 s6 e6 => ⟨Nat.zero_le _, fun e7 h7 => ?_⟩⟩
    have s7 := Same.new (o := .lst []) h7
    refine ⟨z6, e7, _, rfl, rfl, SqL.of (s7 _ _ e6), SqL.of upd_same, _, rfl, ?_⟩
    have s47 := s5.trans (s6.trans s7)
    have s07 := s03.trans (s4.trans s47)
    cases hs : rowsSlip (.tuple ds) ur.length with
    | none =>
      show if decide (slipL none = []) = true then _ else _
      obtain ⟨rs, er, hL⟩ := lines_of hs
      have erd : ds = rs.map rowD := by
        have : PyData.tuple ds = rowsD rs := er
        injection this
      have pg := is_page els (by rw [eus, cu]) rfl (show LinesAre (others.map fun x => Txt.split x " ") (rs.map rowD) by rw [← erd]; exact ld)
      refine iteT ⟨_, rfl, _, rfl, t0, _, rfl, .inl ⟨SqL.of (s47 _ _ et4), fun p8 h8 => ⟨two, fun p9 h9 => ?_⟩⟩⟩
      have s8 := Same.new (o := .tup zs) h8
      have s9 := Same.new (o := .tup [.ref b, .ref p8]) h9
      have s49 := s47.trans (s8.trans s9)
      refine q _ _ (s03.trans (s4.trans s49)) (.inr ⟨ur, rs, hN, hL, pg, ?_⟩)
      refine .tup (SqT.of upd_same) (.cons (dU (s49 _ _ eb)) (.cons ?_ .nil))
      have := DqAll.same s49 dz4
      rw [erd] at this
      exact .tup (SqT.of (s9 _ _ upd_same)) this
    | some i =>
      show if decide (slipL (some i) = []) = true then _ else _
      refine iteF (q _ .non s07 (.inl ⟨rfl, fun ⟨ns', rs, hN', hL, e⟩ => ?_⟩))
      obtain ⟨e1, e2⟩ := pageF ns' rs hN' hL (PyData.str.inj e)
      have e3 := (List.cons.inj e1).2
      subst e3
      rw [e2] at ld
      have := page_rows hL.ok (show LinesAre ((rs.map lineS).map fun x => Txt.split x " ") ds from ld)
      rw [this] at hs
      have lk := lines_ok hL
      rw [show rowsSlip (.tuple (rs.map rowD)) ur.length = none from lk] at hs
      cases hs
end
end Ca
set_option Elab.async false
set_option linter.all false
set_option maxRecDepth 100000
set_option maxHeartbeats 4000000
namespace Ca
open PySem PySem.Spec PyProof.Rows L2
/-! ### C.m(e), C.m(k = v) for a classmethod -/
def tCMetF (C : Addr) (sp : Sp) (ta : TE) (t : TA) : TE := fun σ H Q => ta σ H fun x H1 => x = .ref C ∧ t σ H1 fun vs H2 => sp (.ref C :: vs) H2 Q E0
def tCMetK (C : Addr) (n : Nat) (sp : Sp) (gV : List V → List V → List V) (ta : TE) (tk : TA) : TE := fun σ H Q => ta σ H fun x H1 => x = .ref C ∧ tk σ H1 fun zs H2 => zs.length = n ∧ sp (gV [.ref C] zs) H2 Q E0
section
variable {X : Cx} {k : Nat} {C p g : Addr} {fd : FuncData} {ps ks : List Str} {sp : Sp} {m : Str} {mc : Value} {apos pos : Pos} {kws : List Keyword} {tk t : TA} {gg : List Value → List Value → List Value} {gV : List V → List V → List V} {o e : Expr} {es : List Expr} {ta : TE} {pl : Sem Bool}
theorem cod_fn {pins : List (Addr × Obj)} {σ : L2.St} {H : Hp} {s : Shared} {Q : VK} {us as : List Value} {kw : List (Str × Value)} {vs : List V} (F : FnOk X.prog X.w X.K X.mg X.base CX0 k g fd ps sp) (hr : Room k X.A) (I : Inv X pins σ H s)
    (hb : BindsTo s fd ⟨us, kw⟩ (ps.zip as)) (r : Vals vs as) (q : sp vs H Q E0) :
    codeAny (model X.prog X.w) X.A (.call (.ref g) ⟨us, kw⟩) (fun r s' => match r with | .ok (.ret v) => EP X pins σ Q v s' | .ok _ => False | .error e => X.xe e s') s := by
  refine codeAny_mono (F.run X.A X.stack s H ⟨us, kw⟩ as vs Q E0 hr I.env0 hb r q) fun z s' y => ?_
  match z, y with
  | .error e, y => exact pass0 pins σ H s e s' I y
  | .ok (.ret u), y => exact I.after y
  | .ok .next, y => exact False.elim y
  | .ok .brk, y => exact False.elim y
  | .ok .cont, y => exact False.elim y
theorem pe_cmetF (he : PE X o ta) (r : ClX.CRead X.K C mc) (c : ClX.CMet X.K C mc m p g) (F : FnOk X.prog X.w X.K X.mg X.base CX0 k g fd ps sp) (hr : Room k X.A) (hb : Binds X.K fd ps []) (ha : PA X (e :: es) t)
    (hst : starEach (e :: es) X.env = (false, eval e X.env) :: starEach es X.env := by rfl) (hpl : (backTo pos (starEach es X.env)).any (·.1) = false := by rfl)
    (ht : eval (.Call (.Attribute o m apos) (e :: es) [] pos) X.env = (do
      let ov ← eval o X.env
      standAt apos.atName
      let (f, first) ← holding [ov] (getMethod ov m pl)
      callWith pos f first (backTo pos (starEach (e :: es) X.env)) (backToKw pos (keywordEach [] X.env))) := by rfl) :
    PE X (.Call (.Attribute o m apos) (e :: es) [] pos) (tCMetF C sp ta t) := by
  refine ⟨fun pins s σ H Q I h => ?_⟩
  refine PySem.W.methodCall_KW (pl := pl) (thn (he.run pins s σ H _ I h) fun u s1 ⟨x, H1, I1, rx, ex, q⟩ => ?_) ht
  subst ex
  obtain rfl : u = Value.ref C := rx
  refine ClX.getmethcm_ok I1 r c fun s2 I2 => ?_
  refine ClX.callwith_cm I2 (ClX.base_none I1 (Nat.le_refl _)) c.fi (thn (ha.run pos _ s2 σ H1 _ I2 q) fun us s3 ⟨vs, H2, I3, rv, q2⟩ => ⟨⟨ClX.pin_at I3, I3.kIn⟩, ?_⟩) hst hpl
  have hl : (Value.ref C :: us).length = ps.length := by
    have := F.len _ _ _ _ q2
    have e := rv.length
    simp only [List.length_cons] at this ⊢
    omega
  have bt := hb s3 (Value.ref C :: us) I3.kIn (by rw [List.append_nil]; exact hl)
  rw [List.append_nil] at bt
  have z := wpAny_call (PySem.W.method_call (kw := []) (pos := us) (ClX.pin_at I3) (cod_fn F hr I3 bt (.cons (a := V.ref C) (b := Value.ref C) rfl rv) q2))
  exact thn z fun _ _ y => ClX.unpinE y
theorem pe_cmetK (he : PE X o ta) (r : ClX.CRead X.K C mc) (c : ClX.CMet X.K C mc m p g) (F : FnOk X.prog X.w X.K X.mg X.base CX0 k g fd ps sp) (hr : Room k X.A) (hb : KBn X.K fd ps 1 ks gg gV) (hkw : PK X kws tk)
    (hall : (backToKw pos (keywordEach kws X.env)).all (·.1.isSome) = true := by rfl) (hks : (backToKw pos (keywordEach kws X.env)).filterMap (·.1) = ks := by rfl)
    (hpl : ((backTo pos (starEach [] X.env)).any (·.1) || (backToKw pos (keywordEach kws X.env)).any (·.1.isNone)) = false := by rfl)
    (ht : eval (.Call (.Attribute o m apos) [] kws pos) X.env = (do
      let ov ← eval o X.env
      standAt apos.atName
      let (f, first) ← holding [ov] (getMethod ov m pl)
      callWith pos f first (backTo pos (starEach [] X.env)) (backToKw pos (keywordEach kws X.env))) := by rfl) :
    PE X (.Call (.Attribute o m apos) [] kws pos) (tCMetK C ks.length sp gV ta tk) := by
  refine ⟨fun pins s σ H Q I h => ?_⟩
  refine PySem.W.methodCall_KW (pl := pl) (thn (he.run pins s σ H _ I h) fun u s1 ⟨x, H1, I1, rx, ex, q⟩ => ?_) ht
  subst ex
  obtain rfl : u = Value.ref C := rx
  refine ClX.getmethcm_ok I1 r c fun s2 I2 => ?_
  refine PySem.W.callWith_of (P := PySem.W.MethP X.K s1.heap.objs.size g (.ref C)) hpl (PySem.W.keeps_M c.fi) (evalArgs_kw2_nil hall (thn (hkw.run pos _ s2 σ H1 _ I2 q) fun ws s3 ⟨zs, H2, I3, rz, l2, q2⟩ => ?_))
  rw [hks]
  refine ⟨⟨ClX.pin_at I3, I3.kIn⟩, ?_⟩
  have bt := hb.to s3 [Value.ref C] ws I3.kIn rfl (rz.length.symm.trans l2)
  have r1 : Vals [V.ref C] [Value.ref C] := .cons rfl .nil
  have z := wpAny_call (PySem.W.method_call (kw := ks.zip ws) (pos := []) (ClX.pin_at I3) (cod_fn F hr I3 bt (hb.rel r1 rz) q2))
  exact thn z fun _ _ y => ClX.unpinE y
end
end Ca
set_option Elab.async false
set_option linter.all false
set_option maxRecDepth 100000
set_option maxHeartbeats 4000000
namespace Ca
open PySem PySem.Spec PyProof.Rows L2
/-! ### C.m(e), C.m(k = v) for a classmethod that may raise -/
def tCMetFX (C : Addr) (sp : Sp) (E : XK) (ta : TE) (t : TA) : TE := fun σ H Q => ta σ H fun x H1 => x = .ref C ∧ t σ H1 fun vs H2 => sp (.ref C :: vs) H2 Q E
def tCMetKX (C : Addr) (n : Nat) (sp : Sp) (gV : List V → List V → List V) (E : XK) (ta : TE) (tk : TA) : TE := fun σ H Q => ta σ H fun x H1 => x = .ref C ∧ tk σ H1 fun zs H2 => zs.length = n ∧ sp (gV [.ref C] zs) H2 Q E
section
variable {X : Cx} {CX : CXT} {E : XK} {k : Nat} {C p g : Addr} {fd : FuncData} {ps ks : List Str} {sp : Sp} {m : Str} {mc : Value} {apos pos : Pos} {kws : List Keyword} {tk t : TA} {gg : List Value → List Value → List Value} {gV : List V → List V → List V} {o e : Expr} {es : List Expr} {ta : TE} {pl : Sem Bool}
theorem cod_fnX {pins : List (Addr × Obj)} {σ : L2.St} {H : Hp} {s : Shared} {Q : VK} {us as : List Value} {kw : List (Str × Value)} {vs : List V} (F : FnOk X.prog X.w X.K X.mg X.base CX k g fd ps sp) (hr : Room k X.A) (hx : Passes CX X E) (I : Inv X pins σ H s)
    (hb : BindsTo s fd ⟨us, kw⟩ (ps.zip as)) (r : Vals vs as) (q : sp vs H Q E) :
    codeAny (model X.prog X.w) X.A (.call (.ref g) ⟨us, kw⟩) (fun r s' => match r with | .ok (.ret v) => EP X pins σ Q v s' | .ok _ => False | .error e => X.xe e s') s := by
  refine codeAny_mono (F.run X.A X.stack s H ⟨us, kw⟩ as vs Q E hr I.env0 hb r q) fun z s' y => ?_
  match z, y with
  | .error e, y => exact hx pins σ H s e s' I y
  | .ok (.ret u), y => exact I.after y
  | .ok .next, y => exact False.elim y
  | .ok .brk, y => exact False.elim y
  | .ok .cont, y => exact False.elim y
theorem pe_cmetFX (he : PE X o ta) (r : ClX.CRead X.K C mc) (c : ClX.CMet X.K C mc m p g) (F : FnOk X.prog X.w X.K X.mg X.base CX k g fd ps sp) (hr : Room k X.A) (hb : Binds X.K fd ps []) (hx : Passes CX X E) (ha : PA X (e :: es) t)
    (hst : starEach (e :: es) X.env = (false, eval e X.env) :: starEach es X.env := by rfl) (hpl : (backTo pos (starEach es X.env)).any (·.1) = false := by rfl)
    (ht : eval (.Call (.Attribute o m apos) (e :: es) [] pos) X.env = (do
      let ov ← eval o X.env
      standAt apos.atName
      let (f, first) ← holding [ov] (getMethod ov m pl)
      callWith pos f first (backTo pos (starEach (e :: es) X.env)) (backToKw pos (keywordEach [] X.env))) := by rfl) :
    PE X (.Call (.Attribute o m apos) (e :: es) [] pos) (tCMetFX C sp E ta t) := by
  refine ⟨fun pins s σ H Q I h => ?_⟩
  refine PySem.W.methodCall_KW (pl := pl) (thn (he.run pins s σ H _ I h) fun u s1 ⟨x, H1, I1, rx, ex, q⟩ => ?_) ht
  subst ex
  obtain rfl : u = Value.ref C := rx
  refine ClX.getmethcm_ok I1 r c fun s2 I2 => ?_
  refine ClX.callwith_cm I2 (ClX.base_none I1 (Nat.le_refl _)) c.fi (thn (ha.run pos _ s2 σ H1 _ I2 q) fun us s3 ⟨vs, H2, I3, rv, q2⟩ => ⟨⟨ClX.pin_at I3, I3.kIn⟩, ?_⟩) hst hpl
  have hl : (Value.ref C :: us).length = ps.length := by
    have := F.len _ _ _ _ q2
    have e := rv.length
    simp only [List.length_cons] at this ⊢
    omega
  have bt := hb s3 (Value.ref C :: us) I3.kIn (by rw [List.append_nil]; exact hl)
  rw [List.append_nil] at bt
  have z := wpAny_call (PySem.W.method_call (kw := []) (pos := us) (ClX.pin_at I3) (cod_fnX F hr hx I3 bt (.cons (a := V.ref C) (b := Value.ref C) rfl rv) q2))
  exact thn z fun _ _ y => ClX.unpinE y
theorem pe_cmetKX (he : PE X o ta) (r : ClX.CRead X.K C mc) (c : ClX.CMet X.K C mc m p g) (F : FnOk X.prog X.w X.K X.mg X.base CX k g fd ps sp) (hr : Room k X.A) (hb : KBn X.K fd ps 1 ks gg gV) (hx : Passes CX X E) (hkw : PK X kws tk)
    (hall : (backToKw pos (keywordEach kws X.env)).all (·.1.isSome) = true := by rfl) (hks : (backToKw pos (keywordEach kws X.env)).filterMap (·.1) = ks := by rfl)
    (hpl : ((backTo pos (starEach [] X.env)).any (·.1) || (backToKw pos (keywordEach kws X.env)).any (·.1.isNone)) = false := by rfl)
    (ht : eval (.Call (.Attribute o m apos) [] kws pos) X.env = (do
      let ov ← eval o X.env
      standAt apos.atName
      let (f, first) ← holding [ov] (getMethod ov m pl)
      callWith pos f first (backTo pos (starEach [] X.env)) (backToKw pos (keywordEach kws X.env))) := by rfl) :
    PE X (.Call (.Attribute o m apos) [] kws pos) (tCMetKX C ks.length sp gV E ta tk) := by
  refine ⟨fun pins s σ H Q I h => ?_⟩
  refine PySem.W.methodCall_KW (pl := pl) (thn (he.run pins s σ H _ I h) fun u s1 ⟨x, H1, I1, rx, ex, q⟩ => ?_) ht
  subst ex
  obtain rfl : u = Value.ref C := rx
  refine ClX.getmethcm_ok I1 r c fun s2 I2 => ?_
  refine PySem.W.callWith_of (P := PySem.W.MethP X.K s1.heap.objs.size g (.ref C)) hpl (PySem.W.keeps_M c.fi) (evalArgs_kw2_nil hall (thn (hkw.run pos _ s2 σ H1 _ I2 q) fun ws s3 ⟨zs, H2, I3, rz, l2, q2⟩ => ?_))
  rw [hks]
  refine ⟨⟨ClX.pin_at I3, I3.kIn⟩, ?_⟩
  have bt := hb.to s3 [Value.ref C] ws I3.kIn rfl (rz.length.symm.trans l2)
  have r1 : Vals [V.ref C] [Value.ref C] := .cons rfl .nil
  have z := wpAny_call (PySem.W.method_call (kw := ks.zip ws) (pos := []) (ClX.pin_at I3) (cod_fnX F hr hx I3 bt (hb.rel r1 rz) q2))
  exact thn z fun _ _ y => ClX.unpinE y
end
end Ca
set_option Elab.async false
set_option linter.all false
set_option maxRecDepth 100000
set_option maxHeartbeats 8000000
namespace Ca
open PySem L2 LamX
abbrev lamQ (x : Str) : Str := x ++ ".<locals>." ++ "<lambda>"
/-! ### draws that end well, where tables of code objects may have grown -/
def spAllT (T : List (Addr × Str)) : Sp := fun vs H Q _ => ∃ l, vs = [.ref l] ∧ Urn H l ∧ Tabs T H ∧ ∀ H', KeptN l H H' → Urn H' l → Tabs T H' → Q (.bl true) H'
theorem tabs_upd {T : List (Addr × Str)} {H : Hp} {p : Addr} {xs ys : List V} (t : Tabs T H) (h : H p = some (.lst xs)) : Tabs T (upd H p (.lst ys)) := fun q hq => by
  obtain ⟨ps, h1, h2, h3⟩ := t q hq
  refine ⟨ps, ?_, h2, fun pos cv hc => ?_⟩
  · rw [upd_ne (fun z => by rw [z, h] at h1; cases h1)]
    exact h1
  · obtain ⟨c, rfl, hco⟩ := h3 pos cv hc
    refine ⟨c, rfl, ?_⟩
    rw [upd_ne (fun z => by rw [z, h] at hco; cases hco)]
    exact hco
theorem tabs_on {T : List (Addr × Str)} {H H' : Hp} (t : Tabs T H) (s : Same H H') : Tabs T H' := t.ext fun b o e => s b o e
theorem tabs_kept {T : List (Addr × Str)} {l : Addr} {ys : List V} {H H' : Hp} (hl : H l = some (.lst ys)) (k : Kept l H H') (t : Tabs T H) : Tabs T H' := fun q hq => by
  obtain ⟨ps, h1, h2, h3⟩ := t q hq
  refine ⟨ps, k _ _ (fun z => by rw [z, hl] at h1; cases h1) h1, h2, fun pos cv hc => ?_⟩
  obtain ⟨c, rfl, hco⟩ := h3 pos cv hc
  exact ⟨c, rfl, k _ _ (fun z => by rw [z, hl] at hco; cases hco) hco⟩
abbrev NLt : List Str := ["_law_cells", "_law_at"]
def spLawT (K : PySem.W.Frag) (T : List (Addr × Str)) : Sp := fun vs H Q _ => ∃ (a : Addr) (ns : List Int), vs = [.ref a] ∧ SqL K H a (ns.map V.int) ∧ Tabs T H ∧ ∀ H', Q (.bl true) H'
theorem scLawT : FnScope NLt ["_law_cells"] (defScope sLaw) := ⟨rfl, rfl, rfl, by decide +kernel, rfl, by decide +kernel, by decide +kernel⟩
theorem rep_moreT (t : Nat) : (List.replicate t true).map V.bl ++ [V.bl true] = (List.replicate (t + 1) true).map V.bl := by
  rw [List.replicate_succ', List.map_append]
  rfl
theorem rep_allT : ∀ t : Nat, (List.replicate t true).all id = true
  | 0 => rfl
  | t + 1 => by
    rw [List.replicate_succ, List.all_cons, rep_allT t]
    rfl
theorem fewT (n : Nat) : (2 : Int) ≤ (if (if (6 : Int) < (n : Int) then (6 : Int) else (n : Int)) > 2 then (if (6 : Int) < (n : Int) then (6 : Int) else (n : Int)) else 2) ∧ (if (if (6 : Int) < (n : Int) then (6 : Int) else (n : Int)) > 2 then (if (6 : Int) < (n : Int) then (6 : Int) else (n : Int)) else 2) ≤ 6 := by
  split <;> split <;> omega
theorem rd_callT {sp : Sp} {te : TE} {σ : L2.St} {H : Hp} {Q : VK} (h : te σ H fun x H1 => sp [x] H1 Q E0) : tCall sp [] E0 (tCons te tNil) σ H Q := h
section
variable {P : Program} {w : World} {K : PySem.W.Frag} {mg : Str → Option Value} {base : Heap}
theorem ok_lawT {T : List (Addr × Str)} {j : Nat} (hj : 1 ≤ j) {f fR fU : Addr} {fd fdR fdU : FuncData} (F : FnT K "law" sLaw f fd)
    (gR : mg "_law_right" = some (.ref fR)) (GR : FnG P w K mg base j fR fdR ["_law_urn_here"] (spAllT T)) (kR : PySem.W.keepIn K (.ref fR) = true) (bR : Binds K fdR ["_law_urn_here"] [])
    (gU : mg "_law_urn" = some (.ref fU)) (GU : FnOk P w K mg base CX0 1 fU fdU ["_law_cells", "_law_at"] (spUrn K)) (kU : PySem.W.keepIn K (.ref fU) = true) (bU : Binds K fdU ["_law_cells", "_law_at"] [])
    (mall : mg "all" = none) (mrng : mg "range" = none) (mmax : mg "max" = none) (mmin : mg "min" = none) (mlen : mg "len" = none) :
    FnG P w K mg base (j + 1) f fd ["_law_cells"] (spLawT K T) := by
  refine fnG_of F scLawT (fun vs H Q E h => ?_) (fun cdv A outer s H vs Q hgd hr h => ?_)
  · obtain ⟨a, ns, rfl, _⟩ := h
    rfl
  · obtain ⟨a, ns, rfl, hS, hT, q⟩ := h
    have nd := scLawT.nd
    have hr1 : Room 1 _ := hr.mono hj
    refine ⟨_, PSs.nox (pss_one (ps_ret (pe_callB (cr_all rfl) (by rfl) mall PyProof.Rows.boot_all (pa_cons (pe_lc (own := [("_law_at", 1)]) (g := gName 1) (tt := tYes) rfl nd
          (pi_range1 rfl mrng (pa_cons (pe_callB (call_max2 rfl) (by rfl) mmax PyProof.Rows.boot_max (pa_cons pe_int (pa_cons (pe_callB (call_min2 rfl) (by rfl) mmin PyProof.Rows.boot_min (pa_cons (pe_callB call_len (by rfl) mlen boot_len (pa_cons (pv 0) pa_nil)) (pa_cons pe_int pa_nil))) pa_nil))) pa_nil))
          (blkOk_by (own := [("_law_at", 1)]) (N := NLt) (sc := defScope sLaw) (by decide +kernel)) (fun _ _ _ _ _ => pg_name (i := 1) nd rfl (Or.inl rfl)) (fun _ _ _ _ _ => pts_nil)
          (fun _ _ _ _ _ => pe_callG GR hgd hr gR kR bR (pa_cons (pe_call GU hr1 rfl gU kU bU .nil pass0 (pa_cons (pv 0) (pa_cons (pv 1) pa_nil))) pa_nil))) pa_nil))))
      , ?_⟩
    refine ⟨_, rfl, _, _, rfl, .inl ⟨_, hS, rfl⟩, _, _, rfl, _, _, rfl, ?_⟩
    obtain ⟨hlo, hhi⟩ := fewT (ns.map V.int).length
    generalize (if (if (6 : Int) < ((ns.map V.int).length : Int) then (6 : Int) else ((ns.map V.int).length : Int)) > 2 then (if (6 : Int) < ((ns.map V.int).length : Int) then (6 : Int) else ((ns.map V.int).length : Int)) else 2) = jj at hlo hhi
    refine ⟨jj, rfl, Int.le_trans (by decide) hlo, Int.lt_of_le_of_lt hhi (by decide), fun D hD => lc_range (lo := 0) (n := jj.toNat) (fun t H' => ExtN H H' ∧ Tabs T H' ∧ H' D = some (.lst ((List.replicate t true).map V.bl))) ⟨same_extN (Same.new hD), tabs_on hT (Same.new hD), upd_same⟩ ?_ ?_⟩
    · rintro t H' ht ⟨sG, tG, bD⟩
      refine ⟨rfl, rdYes (rd_callT ⟨_, rfl, _, rfl, a, ns, t, by rw [Int.zero_add]; rfl, seqL_ext sG hS, fun H3 l hl s3 u3 => ⟨l, rfl, u3, tabs_on tG s3, fun H4 k4 u4 t4 => ?_⟩⟩)⟩
      have nD : D ≠ l := ne_of_none bD hl
      have bD4 := k4 _ _ nD (s3 _ _ bD) (fun _ z => nomatch z)
      have s4 : ExtN H H4 := fun b o e n => by
        have e1 := sG _ _ e n
        exact k4 _ _ (ne_of_none e1 hl) (s3 _ _ e1) n
      refine ⟨_, bD4, ?_, fun b o e n => ?_, tabs_upd t4 bD4, ?_⟩
      · rw [List.length_map, List.length_replicate]
        have : t < 7 := by omega
        exact Nat.lt_trans this (by decide)
      · rw [upd_ne (ne_of_none e hD)]
        exact s4 b o e n
      · rw [rep_moreT]
        exact upd_same
    · rintro H' ⟨sG, tG, bD⟩
      refine ⟨D, _, rfl, SqL.of bD, ?_⟩
      rw [rep_allT]
      exact q H'
end
end Ca
set_option Elab.async false
set_option linter.all false
set_option maxRecDepth 100000
set_option maxHeartbeats 4000000
/-! lists told apart by !=, whose items have an == of their own: where all pairs are equal, the answer is False -/
namespace Ca
section
open PySem PySem.SeqAt AutoSeq1 MeetsSeq MeetsSeq2 MeetsSeq3 SeqRoads2
section
variable {prog : Program} {w : World} {A : Around} {R : Result → Shared → Prop}
theorem ne_turns {l b : Addr} {N : Nat} {I : Nat → Shared → Prop} (hl : GQ.ListI prog w A (fun e s' => R (.error e) s') l b N I) (fin : ∀ s, I N s → R (.ok (.ret (.bool false))) s) (k : Nat) :
    ∀ i : Nat, N - i = k → i ≤ N → ∀ s, I i s → wpAny (model prog w) A.in1 (Builtin.«list.__eq__.loop» ⟨[.ref l, .ref b, rawInt i, rawInt 3], []⟩) (GQ.FinOf prog w A R) (fun e s' => R (.error e) s') s := by
  induction k with
  | zero =>
    rintro i hk hi s h
    obtain ⟨xs, ys, n, m, gx, gy, lx, ly, -⟩ := hl _ _ h
    obtain rfl : i = N := by omega
    have done := fin s h
    obtain ⟨hp, g, d, tk, os⟩ := s
    wp_walk using wpAny_loadPart' gx, wpAny_loadPart' gy
    rw [show xs[((i : Nat) : Int).toNat]? = none by simp; omega, show ys[((i : Nat) : Int).toNat]? = none by simp; omega]
    wp_walk using wpAny_loadPart' gx, wpAny_loadPart' gy
    show R (.ok (.ret (.bool (xs.size != ys.size)))) _
    rw [lx, ly]
    simpa using done
  | succ k ih =>
    rintro i hk hi s h
    obtain ⟨xs, ys, n, m, gx, gy, lx, ly, turn⟩ := hl _ _ h
    have ix : i < xs.size := by omega
    have iy : i < ys.size := by omega
    have t := turn ix iy
    obtain ⟨hp, g, d, tk, os⟩ := s
    wp_walk using wpAny_loadPart' gx, wpAny_loadPart' gy
    rw [show xs[((i : Nat) : Int).toNat]? = some xs[i] by simp [ix], show ys[((i : Nat) : Int).toNat]? = some ys[i] by simp [iy]]
    refine wpAny_bind (wpAny_mono t ?_ fun _ _ x => x)
    rintro r s2 ⟨rfl, q⟩
    have more := ih (i + 1) (by omega) (by omega) s2 q
    obtain ⟨hp2, g2, d2, tk2, os2⟩ := s2
    wp_walk
    rw [show ((i : Int) + 1) = ((i + 1 : Nat) : Int) by omega]
    refine ⟨plainId_quiet plain_eq_loop _, codeAny_builtin entry_eq_loop ?_⟩
    rw [Around.under_plainId plain_eq_loop _]
    exact more
end
section
variable {prog : Program} {w : World} {A : Around} {E : Value → Shared → Prop} {s : Shared}
theorem ne_lists {l b : Addr} {N : Nat} {Q : Value → Shared → Prop} (hu : A.units < cLine) (I : Nat → Shared → Prop) (hl : GQ.ListI prog w A E l b N I) (fin : ∀ s, I N s → Q (.bool false) s) (h : I 0 s) : wpAny (model prog w) A (richCompare .NotEq (.ref l) (.ref b)) Q E s := by
  obtain ⟨xs, ys, n, m, gx, gy, lx, ly, -⟩ := hl _ _ h
  refine wpAny_richCompare_same_room (op := .NotEq) ⟨_, gx, rfl⟩ ⟨_, gy, rfl⟩ F.slot_list_ne (GQ.call_here F.slot_list_ne ⟨_, gx, rfl⟩ F.entry_list_ne (F.args_list_ne_2 _ _) ?_) hu
  have more := ne_turns (A := A) (R := wants (fun v s' => v ≠ .notImplemented ∧ Q v s') E) hl (fun s' q => ⟨(fun x => nomatch x), fin s' q⟩) _ 0 rfl (Nat.zero_le _) s h
  obtain ⟨hp, g, d, tk, os⟩ := s
  have f3 := AutoSeq1.sub_list_list
  have same : ¬ (xs.size != ys.size) = true := by simp [lx, ly]
  wp_walk using wpAny_loadPart' gx, wpAny_loadPart' gy
  refine ⟨plainId_quiet plain_eq_loop _, codeAny_builtin entry_eq_loop ?_⟩
  rw [Around.under_plainId plain_eq_loop _]
  exact more
end
end
open PySem PySem.Spec PyProof.Rows L2
section
variable {X : Cx} {n : Nat} {D : Eqv}
def rNeG (D : Eqv) : R2 := fun x y H Q => DList D x y H ∧ ∀ H', Same H H' → Q (.bl false) H'
theorem op_neG (hD : Mon D) (h : EqG X n D) (hr : Room (n + 1) X.A) : OpR X (compareOp .NotEq) (rNeG D) := by
  rintro pins s σ H x y v u Q I rx ry ⟨⟨a, b, xs, ys, rfl, rfl, ha, hb, p⟩, q⟩
  cases rx
  cases ry
  have sb : L2.Sub X (n + 1) X.A := ⟨hr, rfl⟩
  show wpAny (model X.prog X.w) X.A (richCompare .NotEq (.ref a) (.ref b)) (EP X pins σ Q) X.xe s
  refine ne_lists (N := xs.length) hr.units0 (fun _ s' => LoopI X pins σ H s') (fun i s' g => ?_) (fun s' g => ?_) ⟨H, I, Ext.rfl'⟩
  · obtain ⟨H1, I1, e1⟩ := id g
    obtain ⟨z, its, k, r, e⟩ := I1.hok a _ (e1 _ _ ha)
    obtain ⟨z2, its2, k2, r2, e2⟩ := I1.hok b _ (e1 _ _ hb)
    exact ⟨its.toArray, its2.toArray, k, k2, e, e2, by rw [List.size_toArray, ← r.length], by rw [List.size_toArray, ← r2.length, ← p.1], fun h1 h2 => turnG hD h sb p r r2 i h1 h2 s' g⟩
  · obtain ⟨H1, I1, e1⟩ := g
    exact ⟨.bl false, H1, I1, rfl, q H1 e1⟩
end
/-- systems that are equal -/
def SameSys (K : PySem.W.Frag) (C : Addr) (a b : Addr) (H : Hp) : Prop := ∃ ns rs, SysAt K C H a ns rs ∧ SysAt K C H b ns rs
theorem eq_spec {K : PySem.W.Frag} {C : Addr} {vs : List V} {H : Hp} {Q : VK} {E : XK} (h : spEq (SameSys K C) vs H Q E) : spEqS K C vs H Q E := by
  obtain ⟨a, b, rfl, ⟨ns, rs, ha, hb⟩, q⟩ := h
  refine ⟨a, .ref b, ns, rs, rfl, ha, .inr ⟨b, ns, rs, rfl, hb, ?_⟩⟩
  rw [decide_eq_true (rfl : ns = ns), decide_eq_true (rfl : rs = rs)]
  exact q H Ext.rfl'
theorem mon_sys {K : PySem.W.Frag} {C : Addr} : Mon (DIns C (SameSys K C)) := mon_ins fun a b H H' e h => by
  obtain ⟨ns, rs, h1, h2⟩ := h
  exact ⟨ns, rs, h1.same e, h2.same e⟩
theorem dins_of {K : PySem.W.Frag} {C : Addr} {H : Hp} {a b : Addr} {ns : List Str} {rs : List Rw} (h1 : SysAt K C H a ns rs) (h2 : SysAt K C H b ns rs) : DIns C (SameSys K C) (.ref a) (.ref b) H := by
  obtain ⟨_, _, dx, _, _, ex, _, _⟩ := id h1
  obtain ⟨_, _, dy, _, _, ey, _, _⟩ := id h2
  exact ⟨a, b, dx, dy, _, _, rfl, rfl, ex, ey, ns, rs, h1, h2⟩
section
variable {X : Cx} {C fE : Addr} {fdE : FuncData}
theorem neSysK (K : PySem.W.Frag) (GE : FnOk X.prog X.w X.K X.mg X.base CX0 1 fE fdE ["self", "other"] (spEqS K C)) (hr : Room 2 X.A) (hs : PySem.W.findIn X.K (.ref C) "__eq__" = some (some (.ref fE))) (hf : PySem.W.isFn X.K (.ref fE) = true) (hb : Binds X.K fdE ["self", "other"] []) (hK : X.K = K := by rfl) :
    OpR X (compareOp .NotEq) (rNeG (DIns C (SameSys K C))) := by
  subst hK
  exact op_neG mon_sys (eqG_ins (E := E0) (GE.imp fun vs H Q E h => eq_spec h) hs hf hb pass0) hr
end
end Ca
set_option Elab.async false
set_option linter.all false
set_option maxRecDepth 100000
set_option maxHeartbeats 4000000
namespace Ca
open PySem PySem.Spec PyProof.Rows L2 HT
/-! ### t[::-1] of a tuple of three -/
theorem rev_applied {prog : Program} {w : World} {A : Around} {E : Value → Shared → Prop} {s : Shared} {sl : Addr} {k : Tok} {Q : Int × Int × Nat → Shared → Prop} (hs : s.heap.IsSliceOf sl .none .none (.int (-1) k)) (h : Q (2, -1, 3) s) :
    wpAny (model prog w) A (Builtin.Slice.sliceApplied (.ref sl) (pure ((3 : Nat) : Int))) Q E s := by
  obtain ⟨ob, g1, g2, g3⟩ := id hs
  unfold Builtin.Slice.sliceApplied Builtin.Slice.sliceFields
  refine wpAny_bind (wpAny_bind (wpAny_field g1 g3 (x := .none) rfl (wpAny_bind (wpAny_field g1 g3 (x := .none) rfl (wpAny_bind (wpAny_field g1 g3 (x := .int (-1) k) rfl (wpAny_pure ?_)))))))
  refine wpAny_bind (slicePart_ (o := some (-1)) (.int (-1) k) ?_)
  show wpAny _ _ (if ((-1 : Int) == 0) = true then _ else _) _ _ s
  rw [if_neg (by decide)]
  exact wpAny_bind (slicePart_none (wpAny_bind (slicePart_none (wpAny_bind (wpAny_pure (wpAny_pure h))))))
theorem getItem_rev3 {prog : Program} {w : World} {A : Around} {E : Value → Shared → Prop} {s : Shared} {t sl : Addr} {a b c : Value} {k : Tok} {Q : Value → Shared → Prop} (ht : IsTup s.heap t #[a, b, c]) (hs : s.heap.IsSliceOf sl .none .none (.int (-1) k))
    (h : Q (.ref s.heap.objs.size) { s with heap := s.heap.push { cls := .type "tuple", data := .seq #[c, b, a] } }) : wpAny (model prog w) A (getItem (.ref t) (.ref sl)) Q E s := by
  obtain ⟨ob, g1, g2, g3⟩ := id hs
  have hT : s.TypeIs (.ref sl) "slice" := ⟨ob, g1, g2⟩
  unfold getItem
  refine wpAny_holding ?_
  refine wpAny_bind (wpAny_sequenceKey ht.typeIs (by decide) ?_)
  refine wpAny_bind (wpAny_callSpecial?_slot (name := Str.ofString "__getitem__") ht.typeIs PyProof.Rows.slot_tuple_getitem (wpAny_call_entry PyProof.Rows.slot_tuple_getitem ht.typeIs entry_tuple_getitem ?_ (args_tuple_getitem _ _)))
  show wpAny _ _ (Builtin.Tuple.tupleItemsOf (.ref t) >>= _) _ _ s
  refine wpAny_bind (tupleItemsOf_ ht (wpAny_bind (wpAny_typeOf hT ?_)))
  rw [if_pos (by decide)]
  refine wpAny_bind (rev_applied hs ?_)
  show wpAny _ _ (if ((2 : Int) == 0 && (-1 : Int) == 1 && (3 : Nat) == 3) = true then _ else _) _ _ s
  rw [if_neg (by decide)]
  have sz : sizeOk (.seq #[c, b, a]) := by show 3 ≤ sizeLine; decide
  show wpAny _ _ (Builtin.Tuple.tupleExact #[c, b, a] >>= _) _ _ s
  first
    | exact wpAny_bind (m := Builtin.Tuple.tupleExact _) (wpAny_newObj_type (wpAny_pure ⟨_, rfl, wpAny_pure h⟩) sz)
    | exact wpAny_bind (m := Builtin.Tuple.tupleExact _) (wpAny_newObj_type (wpAny_bind (wpAny_pure (wpAny_pure ⟨_, rfl, wpAny_pure h⟩))) sz)
    | exact wpAny_bind (wpAny_bind (m := Builtin.Tuple.tupleExact _) (wpAny_newObj_type (wpAny_pure (wpAny_pure ⟨_, rfl, wpAny_pure h⟩)) sz))
    | exact wpAny_bind (wpAny_bind (m := Builtin.Tuple.tupleExact _) (wpAny_newObj_type (wpAny_pure ⟨_, rfl, wpAny_pure h⟩) sz))
/-! ### the slice itself, tracked -/
def StepO (p : Addr) : HO := .ext fun h => ∃ k, h.IsSliceOf p .none .none (.int (-1) k)
/-- the slice [::-1] -/
def tStep (te : TE) : TE := fun σ H Q => te σ H fun x H1 => x = .int (-1) ∧ ∀ p, H1 p = none → Q (.ref p) (upd H1 p (StepO p))
/-- t[::-1], three items -/
def rRev3 (K : PySem.W.Frag) : R2 := fun x y H Q => ∃ t p x0 x1 x2, x = .ref t ∧ y = .ref p ∧ SqT K H t [x0, x1, x2] ∧ H p = some (StepO p) ∧ ∀ q, H q = none → Q (.ref q) (upd H q (.tup [x2, x1, x0]))
section
variable {X : Cx}
theorem pe_step {e : Expr} {te : TE} {pos : Pos} (he : PE X e te) : PE X (.Slice none none (some e) pos) (tStep te) := by
  refine ⟨fun pins s σ H Q I h => ?_⟩
  refine wpAny_Slice ?_
  rw [evalPart_none]
  refine wpAny_pure (wpAny_pure ?_)
  show wpAny _ _ (eval e X.env) _ _ s
  refine thn (he.run pins s σ H _ I h) fun v s1 ⟨x, H1, I1, r1, ex, q1⟩ => ?_
  subst ex
  obtain ⟨k, rfl⟩ : ∃ k, v = Value.int (-1) k := r1
  have keep : ∀ b o, s1.heap.get? b = some o → (s1.heap.push { cls := .type "slice", data := .fields #[.none, .none, .int (-1) k] }).get? b = some o := fun b o z => Heap.get?_push_of_some _ z
  refine ⟨.ref s1.heap.objs.size, _, I1.laid (t' := s1.toks) (o := StepO s1.heap.objs.size) keep (Nat.le_refl _) ?_, rfl, q1 _ (I1.hok.fresh (Nat.le_refl _))⟩
  refine ⟨⟨k, Heap.IsSliceOf.new ..⟩, ⟨_, Heap.get?_push_size _ rfl⟩, fun h h' ⟨k', o', e1, e2⟩ kp => ⟨k', o', kp _ e1, e2⟩⟩
theorem ix_rev3 : IxR X (rRev3 X.K) := by
  intro value slice pins s σ H x y v u Q I rx ry h hs
  obtain ⟨t, p, x0, x1, x2, rfl, rfl, hT, hp, q⟩ := h
  cases rx
  cases ry
  obtain ⟨its, r, ht, hz⟩ := I.tuple hT
  obtain ⟨k, hsl⟩ := (I.hok p _ hp).1
  cases r with
  | @cons _ a _ _ r0 r =>
  cases r with
  | @cons _ b _ _ r1 r =>
  cases r with
  | @cons _ c _ _ r2 r =>
  cases r
  refine subscriptTail_builtinR (x := .ref s.heap.objs.size) ht.typeIs slot_tuple_getitem.lookup (getItem_rev3 ht hsl ⟨rfl, ?_⟩) hs
  refine ⟨.ref s.heap.objs.size, _, I.laid (t' := s.toks) (o := .tup [x2, x1, x0]) (fun b ob q => Heap.get?_push_of_some _ q) (Nat.le_refl _) ?_, rfl, q _ (I.hok.fresh (Nat.le_refl _))⟩
  exact ⟨by show 3 ≤ sizeLine; decide, [c, b, a], .cons r2 (.cons r1 (.cons r0 .nil)), IsTup.new _ _⟩
end
end Ca
set_option Elab.async false
set_option linter.all false
set_option maxRecDepth 100000
set_option maxHeartbeats 8000000
namespace Ca
open PySem L2
/-! ### lists of known data, apart from the urn -/
def LAt (K : PySem.W.Frag) (l : Addr) (H : Hp) (p : Addr) (ds : List PyData) : Prop := ∃ xs, H p = some (.lst xs) ∧ p ≠ l ∧ DrAll K l H xs ds
theorem LAt.n {K : PySem.W.Frag} {l p : Addr} {H H' : Hp} {ys : List V} {ds : List PyData} (hl : H l = some (.lst ys)) (k : KeptN l H H') (h : LAt K l H p ds) : LAt K l H' p ds := by
  obtain ⟨xs, h1, h2, h3⟩ := h
  exact ⟨xs, k _ _ h2 h1 (fun _ z => nomatch z), h2, DrAll.but hl k h3⟩
theorem LAt.cat {K : PySem.W.Frag} {l q r : Addr} {H : Hp} {ys zs : List V} {ds es : List PyData} {Q : VK} (hl : H l = some (.lst ys)) (h : LAt K l H q ds) (h1 : H r = some (.lst zs)) (hz : DrAll K l H zs es) (len : ds.length + es.length ≤ 1000)
    (w : ∀ H' m, Same H H' → LAt K l H' m (ds ++ es) → Q (.ref m) H') : rCat (.ref q) (.ref r) H Q := by
  obtain ⟨xs, e1, _, e3⟩ := h
  refine ⟨q, r, xs, zs, rfl, rfl, e1, h1, Nat.le_trans (by rw [e3.len, hz.len]; exact len) (by decide), fun m hm => ?_⟩
  have s := Same.new (o := .lst (xs ++ zs)) hm
  exact w _ m s ⟨_, upd_same, (fun z => by rw [z, hl] at hm; cases hm), (e3.same hl s).app (hz.same hl s)⟩
theorem DrAll.reps {K : PySem.W.Frag} {H : Hp} {l : Addr} {vs : List V} {ds : List PyData} (h : DrAll K l H vs ds) : ∀ n : Nat, DrAll K l H (List.replicate n vs).flatten (List.replicate n ds).flatten
  | 0 => .nil
  | n + 1 => by
    rw [List.replicate_succ, List.replicate_succ, List.flatten_cons, List.flatten_cons]
    exact h.app (DrAll.reps h n)
theorem mem_reps {α : Type} {x : α} {ds : List α} {n : Nat} (h : x ∈ (List.replicate n ds).flatten) : x ∈ ds := by
  obtain ⟨l, hl, hx⟩ := List.mem_flatten.mp h
  rw [List.eq_of_mem_replicate hl] at hx
  exact hx
theorem rd_c {v : V} {σ : L2.St} {H : Hp} {Q : VK} (h : Q v H) : tC v σ H Q := h
theorem len4 {α : Type} (ds : List α) : (List.replicate 4 ds).flatten.length = 4 * ds.length := by
  simp
  omega
theorem LAt.rep4 {K : PySem.W.Frag} {l q : Addr} {H : Hp} {ys : List V} {ds : List PyData} {Q : VK} (hl : H l = some (.lst ys)) (h : LAt K l H q ds) (len : ds.length ≤ 20)
    (w : ∀ H' m, Same H H' → LAt K l H' m (List.replicate 4 ds).flatten → Q (.ref m) H') : rRep (.ref q) (.int 4) H Q := by
  obtain ⟨xs, e1, _, e3⟩ := h
  refine ⟨q, 4, xs, rfl, rfl, e1, by decide, by decide, Nat.le_trans (show xs.length * 4 ≤ 80 by rw [e3.len]; omega) (by decide), fun m hm => ?_⟩
  have s := Same.new (o := .lst (List.replicate (4 : Int).toNat xs).flatten) hm
  exact w _ m s ⟨_, upd_same, (fun z => by rw [z, hl] at hm; cases hm), DrAll.reps (e3.same hl s) 4⟩
end Ca
set_option Elab.async false
set_option linter.all false
set_option maxRecDepth 100000
set_option maxHeartbeats 8000000
namespace Ca
open PySem L2 LamX
abbrev lamR : Str := "_law_right" ++ ".<locals>." ++ "<lambda>"
/-- what is known of the error -/
structure One05 (K : PySem.W.Frag) (B0 B1 B2 CT : Addr) : Prop where
  at_ : PySem.W.exmAny K (.ref CT) [.ref B0, .ref B1, .ref B2] = some true
  st : SlipD K B0 B1 B2 CT "given"
  ktt : PySem.W.kitOne K (.ref CT) (.ref CT) = some true
abbrev N05 : List Str := ["_law_urn_here", "_law_turn", "_law_page_here", "_law_again", "_law_thing", "_law_case_here", "_law_told", "_law_each"]
theorem sc05 : FnScope N05 ["_law_urn_here"] (defScope sLawRight) := ⟨rfl, rfl, rfl, by decide +kernel, rfl, by decide +kernel, by decide +kernel⟩
/-! ### what is read -/
def Thing (d : PyData) : Prop := d = .none ∨ d = .int 5 ∨ d = .dict [] ∨ ∃ x : Str, plnS x ∧ x.length ≤ 4990 ∧ (d = .str x ∨ d = .list [.str x] ∨ d = .tuple [.str x])
theorem str_ok5 {x : Str} (h : plnS x) : PyData.strOk x = true := strOk_of fun c hc => h c hc
theorem good_lay {K : PySem.W.Frag} {H : Hp} {v : V} {d : PyData} (hn : d.hasDict = false) (dq : Dq K H v d) (lay : d.canLay0 = true) (sh : d.showable = true) (dep : d.depth ≤ 64) (wt : d.weight ≤ 2 ^ 20) (is : d.intsShort 13 = true) : Good K H v d := by
  have sz : d.shown.length ≤ 15728653 := by
    refine PyProof.Rows.shown_le13 ?_ is
    show (d.canLay0 && decide (d.depth ≤ 64) && decide (d.weight ≤ 2 ^ 20)) = true
    rw [lay, decide_eq_true dep, decide_eq_true wt]
    rfl
  refine ⟨.dat (dp_of hn dq) ?_, sh, dep, Nat.le_trans sz (by decide)⟩
  exact Bool.and_eq_true_iff.mpr ⟨lay, decide_eq_true dep⟩
theorem thing_good {K : PySem.W.Frag} {H : Hp} {v : V} {l : Addr} {d : PyData} (dr : Dr K l H v d) (h : Thing d) : Good K H v d := by
  rcases h with rfl | rfl | rfl | ⟨x, xp, xl, rfl | rfl | rfl⟩
  · exact good_lay rfl dr.dq rfl rfl (by decide) (by decide) rfl
  · exact good_lay rfl dr.dq rfl (by decide +kernel) (by decide) (by decide +kernel) (by decide +kernel)
  · cases dr with
    | dic e => exact ⟨.dic (kvs := []) (ds := []) e .nil rfl, by decide +kernel, by decide +kernel, by decide +kernel⟩
  · refine good_lay rfl dr.dq (str_ok5 xp) rfl (by simp [PyData.depth]) ?_ rfl
    rw [PyData.weight]
    exact Nat.le_trans xl (by decide)
  · refine good_lay rfl dr.dq ?_ rfl (by simp [PyData.depth, PyData.depthAll]) ?_ rfl
    · simp only [PyData.canLay0, PyData.canLayAll0, str_ok5 xp]
      rfl
    · simp only [PyData.weight, PyData.weightAll]
      have : x.cps.size ≤ 4990 := xl
      omega
  · refine good_lay rfl dr.dq ?_ rfl (by simp [PyData.depth, PyData.depthAll]) ?_ rfl
    · simp only [PyData.canLay0, PyData.canLayAll0, str_ok5 xp]
      rfl
    · simp only [PyData.weight, PyData.weightAll]
      have : x.cps.size ≤ 4990 := xl
      omega
theorem thing_asc {d : PyData} (h : Thing d) : ascD d = true := by
  rcases h with rfl | rfl | rfl | ⟨x, xp, xl, rfl | rfl | rfl⟩
  · rfl
  · rfl
  · rfl
  · exact asc_of xp
  · simp only [ascD, ascDs, asc_of xp]
    rfl
  · simp only [ascD, ascDs, asc_of xp]
    rfl
theorem thing_str {d : PyData} {t : Str} (h : Thing d) (e : d = .str t) : plnS t ∧ t.length ≤ 4990 := by
  subst e
  rcases h with z | z | z | ⟨x, xp, xl, z | z | z⟩
  · cases z
  · cases z
  · cases z
  · cases z
    exact ⟨xp, xl⟩
  · cases z
  · cases z
/-- what a call tells -/
def Out5 (K : PySem.W.Frag) (C : Addr) (d : PyData) (H : Hp) (p : Addr) : Prop :=
  (∃ y ns rs, Folk ns ∧ Lines rs ns.length ∧ d = .str (pageS ns rs) ∧ H p = some (.lst [.str "told", .ref y]) ∧ SysAt K C H y ns rs) ∨ (¬ IsPageD d ∧ H p = some (.lst [.str "InvalidText", .str d.shown]))
theorem Out5.ext {K : PySem.W.Frag} {C : Addr} {d : PyData} {H H' : Hp} {p : Addr} (o : Out5 K C d H p) (e : ExtN H H') : Out5 K C d H' p := by
  rcases o with ⟨y, ns, rs, h1, h2, h3, h4, h5⟩ | ⟨h1, h2⟩
  · exact .inl ⟨y, ns, rs, h1, h2, h3, e _ _ h4 fun _ z => (nomatch z), h5.extN e⟩
  · exact .inr ⟨h1, e _ _ h2 fun _ z => (nomatch z)⟩
theorem Out5.upd {K : PySem.W.Frag} {C : Addr} {d : PyData} {H : Hp} {p q t : Addr} {zs : List V} (o : Out5 K C d H p) (ht : H t = some (.lst [.ref q])) : Out5 K C d (L2.upd H t (.lst zs)) p := by
  have no : ∀ {b : Addr} {a : V} {xs : List V}, H b = some (.lst (a :: xs)) → a ≠ .ref q → b ≠ t := fun {b a xs} e n z => by
    rw [z, ht] at e
    injection e with e
    injection e with e
    exact n (List.cons.inj e).1.symm
  rcases o with ⟨y, ns, rs, h1, h2, h3, h4, h5⟩ | ⟨h1, h2⟩
  · exact .inl ⟨y, ns, rs, h1, h2, h3, by rw [upd_ne (no h4 fun z => nomatch z)]; exact h4, SysAt.butN ht (fun b o n e _ => by rw [upd_ne n]; exact e) h5⟩
  · exact .inr ⟨h1, by rw [upd_ne (no h2 fun z => nomatch z)]; exact h2⟩
section
variable {K : PySem.W.Frag} {C CT B0 B1 B2 : Addr}
/-- System.read(..), taken or refused -/
theorem read_out (E2 : One05 K B0 B1 B2 CT) {H0 : Hp} {l : Addr} {v : V} {d : PyData} {Q : VK} (dr : Dr K l H0 v d) (th : Thing d) (q : ∀ H' p, Same H0 H' → Out5 K C d H' p → Q (.ref p) H') :
    spReadX K C CT [.ref C, v] H0 (fun w H3 => ∀ p, H3 p = none → Q (.ref p) (upd H3 p (.lst [.str "told", w])))
      (fun cls d H' => PySem.W.exmAny K cls [.ref B0, .ref B1, .ref B2] = some true ∧ ∀ a oe, H' a = none → Zc cls d oe → (∃ vs, oe.data = .fields vs) → spSlip K B0 B1 B2 CT (a, oe) [.ref a] H' Q E0) := by
  refine ⟨v, d, rfl, dr.dq, fun t e => ?_, fun hn => ?_, fun ns rs hN hL e H' y s sy p hp => ?_⟩
  · obtain ⟨a, b⟩ := thing_str th e
    exact ⟨a, Nat.le_trans b (by decide)⟩
  · exact caught_err E2.at_ E2.st ⟨rfl, rfl, E2.ktt⟩ (thing_good dr th) fun H' p s e => q H' p s (.inr ⟨hn, e⟩)
  · have sp := Same.new (o := .lst [.str "told", .ref y]) hp
    exact q _ p (s.trans sp) (.inl ⟨y, ns, rs, hN, hL, e, upd_same, sy.same sp⟩)
end
theorem slLK {X : Cx} (K : PySem.W.Frag) (h : X.K = K := by rfl) : SlR X (rSlL K) := h ▸ sl_list
/-! ### pairs of what is told, and of a system -/
theorem neTellK {X : Cx} {C fE : Addr} {fdE : FuncData} (K : PySem.W.Frag) (GE : FnOk X.prog X.w X.K X.mg X.base CX0 1 fE fdE ["self", "other"] (spEqS K C)) (hr : Room 2 X.A) (hs : PySem.W.findIn X.K (.ref C) "__eq__" = some (some (.ref fE))) (hf : PySem.W.isFn X.K (.ref fE) = true) (hb : Binds X.K fdE ["self", "other"] []) (hK : X.K = K := by rfl) :
    OpR X (compareOp .NotEq) (rNeG fun x y H => DFlat x y H ∨ DIns C (SameSys K C) x y H) := by
  subst hK
  exact op_neG (Mon.or mon_flat mon_sys) (EqG.or (eqG_flat.mono (Nat.zero_le 1)) (eqG_ins (E := E0) (GE.imp fun vs H Q E h => eq_spec h) hs hf hb pass0)) hr
theorem good_two {K : PySem.W.Frag} {H : Hp} {p : Addr} {u r : V} {c : Case} (ok : COk c) (h : H p = some (.lst [u, r])) (h1 : Dq K H u (folkD c.1)) (h2 : Dq K H r (rowsD c.2)) : Good K H (.ref p) (.list [folkD c.1, rowsD c.2]) := by
  have n3 := ok.f.hi
  have r6 := ok.l.hi
  obtain ⟨a1, b1, w1⟩ := strs_all c.1 (folk_names ok.f)
  obtain ⟨a2, b2, w2⟩ := rows_all c.2 c.1.length ok.l.ok n3
  have sh : (PyData.list [folkD c.1, rowsD c.2]).showable = true := by
    unfold folkD rowsD
    simp only [PyData.showable, PyData.showableAll, a1, a2, Bool.true_and, Bool.and_true]
  have dep : (PyData.list [folkD c.1, rowsD c.2]).depth ≤ 5 := by
    unfold folkD rowsD
    have := dep_rows c.2
    simp only [PyData.depth, PyData.depthAll, dep_strs]
    omega
  have lay : (PyData.list [folkD c.1, rowsD c.2]).canLay0 = true := by
    unfold folkD rowsD
    simp only [PyData.canLay0, PyData.canLayAll0]
    rw [lay_strs c.1 (folk_names ok.f), lay_rows c.2 (lines_names ok.l)]
    rfl
  have wt : (PyData.list [folkD c.1, rowsD c.2]).weight ≤ 2 ^ 20 := by
    have f1 : (folkD c.1).weight ≤ 9 * c.1.length := by unfold folkD; rw [PyData.weight]; exact w1
    have f2 : (rowsD c.2).weight ≤ 141 * c.2.length := by unfold rowsD; rw [PyData.weight]; exact w2
    rw [PyData.weight, PyData.weightAll, PyData.weightAll, PyData.weightAll]
    show _ ≤ 1048576
    omega
  have e1 : (folkD c.1).intsShort 13 = true := by unfold folkD; rw [PyData.intsShort]; exact b1
  have e2 : (rowsD c.2).intsShort 13 = true := by unfold rowsD; rw [PyData.intsShort]; exact b2
  have sz : (PyData.list [folkD c.1, rowsD c.2]).shown.length ≤ 15728653 := by
    refine PyProof.Rows.shown_le13 ?_ ?_
    · show ((PyData.list [folkD c.1, rowsD c.2]).canLay0 && decide ((PyData.list [folkD c.1, rowsD c.2]).depth ≤ 64) && decide ((PyData.list [folkD c.1, rowsD c.2]).weight ≤ 2 ^ 20)) = true
      rw [lay, decide_eq_true (show (PyData.list [folkD c.1, rowsD c.2]).depth ≤ 64 by omega), decide_eq_true wt]
      rfl
    · rw [PyData.intsShort, PyData.intsShortAll, PyData.intsShortAll, PyData.intsShortAll, e1, e2]
      rfl
  refine ⟨.dat (.lst (SqL.of h) (.cons (dp_of (nodict_folk _) h1) (.cons (dp_of (nodict_rows _) h2) .nil))) ?_, sh, by omega, Nat.le_trans sz (by decide)⟩
  exact Bool.and_eq_true_iff.mpr ⟨lay, decide_eq_true (by omega)⟩
def lstS (ts : List Str) : PyData := .list (ts.map .str)
theorem dp_strs {K : PySem.W.Frag} {H : Hp} : ∀ ts : List Str, DpAll K H (ts.map V.str) (ts.map PyData.str)
  | [] => .nil
  | t :: ts => .cons (.str t) (dp_strs ts)
theorem dp_lstS {K : PySem.W.Frag} {H : Hp} {p : Addr} {ts : List Str} (h : H p = some (.lst (ts.map V.str))) : Dp K H (.ref p) (lstS ts) := .lst (SqL.of h) (dp_strs ts)
theorem lay_okS : ∀ ts : List Str, (∀ t ∈ ts, PyData.strOk t = true) → PyData.canLayAll0 (ts.map .str) = true
  | [], _ => rfl
  | t :: ts, h => by
    simp only [List.map_cons, PyData.canLayAll0, PyData.canLay0]
    rw [h t (List.mem_cons_self ..), lay_okS ts fun x hx => h x (List.mem_cons_of_mem _ hx)]
    rfl
theorem shaped_lstS {ts : List Str} (h : ∀ t ∈ ts, PyData.strOk t = true) : SeqAt.shaped (lstS ts) = true := by
  unfold lstS
  refine Bool.and_eq_true_iff.mpr ⟨?_, decide_eq_true ?_⟩
  · simp only [PyData.canLay0]
    exact lay_okS ts h
  · simp only [PyData.depth, dep_strs]
    omega
theorem shaped_pair {ts : List Str} (h : ∀ t ∈ ts, PyData.strOk t = true) : SeqAt.shaped (.list [lstS ts, lstS ts]) = true := by
  unfold lstS
  refine Bool.and_eq_true_iff.mpr ⟨?_, decide_eq_true ?_⟩
  · simp only [PyData.canLay0, PyData.canLayAll0, lay_okS ts h]
    rfl
  · simp only [PyData.depth, PyData.depthAll, dep_strs]
    omega
/-! ### what may be read -/
def thingsOf (x : Str) : List PyData := (List.replicate 9 [PyData.str x]).flatten ++ [.none, .int 5, .list [.str x], .tuple [.str x], .dict [], .str (x ++ "\n"), .str (x ++ " "), .str ""]
theorem things_ok {x : Str} (xp : plnS x) (xl : x.length ≤ 4980) : ∀ d ∈ thingsOf x, Thing d := by
  intro d hd
  have p1 : plnS "\n" := pln_of (by decide +kernel)
  have p2 : plnS " " := pln_of (by decide +kernel)
  have p3 : plnS "" := pln_of (by decide +kernel)
  have l1 : (x ++ ("\n" : Str)).length ≤ 4990 := by rw [cat_len]; exact Nat.le_trans (Nat.add_le_add_right xl 1) (by decide)
  have l2 : (x ++ (" " : Str)).length ≤ 4990 := by rw [cat_len]; exact Nat.le_trans (Nat.add_le_add_right xl 1) (by decide)
  have l0 : x.length ≤ 4990 := by omega
  rcases List.mem_append.mp hd with hd | hd
  · rw [List.mem_singleton.mp (mem_reps hd)]
    exact .inr (.inr (.inr ⟨x, xp, l0, .inl rfl⟩))
  · simp only [List.mem_cons, List.not_mem_nil, or_false] at hd
    rcases hd with rfl | rfl | rfl | rfl | rfl | rfl | rfl | rfl
    · exact .inl rfl
    · exact .inr (.inl rfl)
    · exact .inr (.inr (.inr ⟨x, xp, l0, .inr (.inl rfl)⟩))
    · exact .inr (.inr (.inr ⟨x, xp, l0, .inr (.inr rfl)⟩))
    · exact .inr (.inr (.inl rfl))
    · exact .inr (.inr (.inr ⟨_, cat_pln xp p1, l1, .inl rfl⟩))
    · exact .inr (.inr (.inr ⟨_, cat_pln xp p2, l2, .inl rfl⟩))
    · exact .inr (.inr (.inr ⟨_, p3, by decide +kernel, .inl rfl⟩))
theorem LAt.rep9 {K : PySem.W.Frag} {l q : Addr} {H : Hp} {ys : List V} {ds : List PyData} {Q : VK} (hl : H l = some (.lst ys)) (h : LAt K l H q ds) (len : ds.length ≤ 20)
    (w : ∀ H' m, Same H H' → LAt K l H' m (List.replicate 9 ds).flatten → Q (.ref m) H') : rRep (.ref q) (.int 9) H Q := by
  obtain ⟨xs, e1, _, e3⟩ := h
  refine ⟨q, 9, xs, rfl, rfl, e1, by decide, by decide, Nat.le_trans (show xs.length * 9 ≤ 180 by rw [e3.len]; omega) (by decide), fun m hm => ?_⟩
  have s := Same.new (o := .lst (List.replicate (9 : Int).toNat xs).flatten) hm
  exact w _ m s ⟨_, upd_same, (fun z => by rw [z, hl] at hm; cases hm), DrAll.reps (e3.same hl s) 9⟩
end Ca
set_option Elab.async false
set_option linter.all false
set_option maxRecDepth 100000
set_option maxHeartbeats 8000000
namespace Ca
open PySem L2 LamX
/-- what stands in a turn -/
structure St05 (l : Addr) (T : List (Addr × Str)) (H0 H : Hp) : Prop where
  kn : KeptN l H0 H
  un : Urn H l
  tb : Tabs T H
theorem St05.same {l : Addr} {T : List (Addr × Str)} {H0 H H' : Hp} (h : St05 l T H0 H) (s : Same H H') : St05 l T H0 H' := ⟨h.kn.trans (sameN s), h.un.same s, tabs_on h.tb s⟩
theorem St05.ext {l : Addr} {T : List (Addr × Str)} {H0 H H' : Hp} (h : St05 l T H0 H) (e : ExtN H H') (t : Tabs T H') : St05 l T H0 H' := ⟨h.kn.trans (extN_kept e), h.un.extN e, t⟩
theorem St05.kept {l : Addr} {T : List (Addr × Str)} {H0 H H' : Hp} (h : St05 l T H0 H) (k : Kept l H H') (u : Urn H' l) : St05 l T H0 H' := by
  obtain ⟨ys, hz⟩ := urn_lst h.un
  exact ⟨h.kn.trans k.n, u, tabs_kept hz k h.tb⟩
theorem Dr.extN {K : PySem.W.Frag} {l : Addr} {H H' : Hp} {ys : List V} {d : PyData} {v : V} (hl : H l = some (.lst ys)) (k : ExtN H H') (h : Dr K l H v d) : Dr K l H' v d := Dr.but hl (extN_kept k) h
section
variable {P : Program} {w : World} {K : PySem.W.Frag} {mg : Str → Option Value} {base : Heap} {C fI fE fS fL fB fN fUn fRo pUn pRo pNa CT B0 B1 B2 PT fSl fCa : Addr} {fdE fdS fdUn fdRo fdSl fdCa : FuncData}
theorem ok_right05 {mc : Value} {pRd f fC fD fF fP fBt fSi fRd : Addr} {fd fdC fdD fdF fdP fdBt fdSi fdRd : FuncData} (F : FnT K "_law_right" sLawRight f fd) (B : Bn mg) (mrng : mg "range" = none) (mrep : mg "repr" = none) (mlst : mg "list" = none) (E1 : SysE K C fI fE fS fL fB fN fUn fRo pUn pRo pNa) (S : SysC K C) (gS : mg "System" = some (.ref C))
    (gC : mg "_law_case" = some (.ref fC)) (GC : FnOk P w K mg base CX0 5 fC fdC ["_law_urn_here", "_law_many", "_law_most"] (spCase K)) (kC : PySem.W.keepIn K (.ref fC) = true) (bC : Binds K fdC ["_law_urn_here", "_law_many", "_law_most"] [])
    (gP : mg "_law_page" = some (.ref fP)) (GP : FnOk P w K mg base CX0 1 fP fdP ["_law_case_here"] (spPage K)) (kP : PySem.W.keepIn K (.ref fP) = true) (bP : Binds K fdP ["_law_case_here"] [])
    (gD : mg "_law_dip" = some (.ref fD)) (GD : FnOk P w K mg base CX0 1 fD fdD ["_law_urn_here", "_law_top"] spDip) (kD : PySem.W.keepIn K (.ref fD) = true) (bD : Binds K fdD ["_law_urn_here", "_law_top"] [])
    (gF : mg "_law_from" = some (.ref fF)) (GF : FnOk P w K mg base CX0 2 fF fdF ["_law_urn_here", "_law_some"] (spFrom K)) (kF : PySem.W.keepIn K (.ref fF) = true) (bF : Binds K fdF ["_law_urn_here", "_law_some"] [])
    (gBt : mg "_law_bent" = some (.ref fBt)) (GBt : FnOk P w K mg base CX0 4 fBt fdBt ["_law_urn_here", "_law_page_here"] (spBent5 K)) (kBt : PySem.W.keepIn K (.ref fBt) = true) (bBt : Binds K fdBt ["_law_urn_here", "_law_page_here"] [])
    (gSi : mg "_law_system_in" = some (.ref fSi)) (GSi : FnOk P w K mg base CX0 4 fSi fdSi ["_law_page_here"] (spSysIn K)) (kSi : PySem.W.keepIn K (.ref fSi) = true) (bSi : Binds K fdSi ["_law_page_here"] [])
    (cr : ClX.CRead K C mc) (cm : ClX.CMet K C mc "read" pRd fRd) (GRd : FnOk P w K mg base (L2.CX P w) 7 fRd fdRd ["cls", "text"] (spReadX K C CT)) (bRd : Binds K fdRd ["cls", "text"] [])
    (kbRd : KBn K fdRd ["cls", "text"] 1 ["text"] (fun us ws => us ++ ws) (fun vs zs => vs ++ zs))
    (GE : FnOk P w K mg base CX0 1 fE fdE ["self", "other"] (spEqS K C)) (bE : Binds K fdE ["self", "other"] []) (GS : FnOk P w K mg base CX0 2 fS fdS ["self"] (spStr K C)) (bS : Binds K fdS ["self"] [])
    (GUn : FnOk P w K mg base CX0 1 fUn fdUn ["self"] (spUnknowns C)) (bUn : Binds K fdUn ["self"] []) (GRo : FnOk P w K mg base CX0 1 fRo fdRo ["self"] (spRows C)) (bRo : Binds K fdRo ["self"] [])
    (FCa : FnT K "_law_caught" sLawCaught fCa fdCa) (gCa : mg "_law_caught" = some (.ref fCa)) (bCa : Binds K fdCa ["_law_act"] [])
    (TS : SlipF K mg B0 B1 B2 CT) (gSl : mg "_law_slip" = some (.ref fSl)) (GSl : FnP P w K mg base 1 fSl fdSl ["_law_e"] (spSlip K B0 B1 B2 CT)) (kSl : PySem.W.keepIn K (.ref fSl) = true) (bSl : Binds K fdSl ["_law_e"] []) (E2 : One05 K B0 B1 B2 CT)
    (TB : TabB base mg (codeA K f) PT) : FnG P w K mg base 10 f fd ["_law_urn_here"] (spAllT [(PT, lamR)]) := by
  refine fnGC_of F sc05 (fun vs H Q E h => ?_) (fun A outer s H vs Q hgd hr h => ?_)
  · obtain ⟨l, rfl, _⟩ := h
    rfl
  · obtain ⟨l, rfl, hU, hT, q⟩ := h
    have nd := sc05.nd
    have hr1 : Room 1 _ := hr.mono (by decide)
    have hr2 : Room 2 _ := hr.mono (by decide)
    have hr3 : Room 3 _ := hr.mono (by decide)
    have hr4 : Room 4 _ := hr.mono (by decide)
    have hr5 : Room 5 _ := hr.mono (by decide)
    have hu := hr.un
    have hu' : (A.deeper (PyProof.Rows.envOfC "_law_right" (defScope sLawRight) s.heap.objs.size f (.ref (codeA K f)))).units + 200 < cLine := by omega
    have kpC := FCa.kp
    obtain ⟨oc, od, dV, kV, doc, pm, an, cdv, ct, osl, rfl, lk, hcd, _, _⟩ := FCa.ex
    have hTm : (PT, lamR) ∈ [(PT, lamR)] := List.mem_singleton.mpr rfl
    have hTu : ∀ p ∈ [(PT, lamR)], p.1 = PT → p.2 = lamR := fun p hp _ => by rw [List.mem_singleton.mp hp]
    refine ⟨_, PSs.nox (pss_cons (ps_cut (ps_for PassesOwn.never rfl (pi_range1 rfl mrng (pa_cons pe_int pa_nil)) (pg_name (i := 1) nd rfl (.inl rfl))
        (pss_cons (ps_cut (ps_set (i := 2) nd rfl (.inl rfl) (pe_call GP hr1 rfl gP kP bP .nil pass0 (pa_cons (pe_call GC hr5 rfl gC kC bC .nil pass0 (pa_cons (pv 0) (pa_cons pe_int (pa_cons pe_int pa_nil)))) pa_nil))))
        (pss_cons (ps_cut (ps_for PassesOwn.never rfl (pi_range1 rfl mrng (pa_cons (pe_call GD hr1 rfl gD kD bD .nil pass0 (pa_cons (pv 0) (pa_cons pe_int pa_nil))) pa_nil)) (pg_name (i := 3) nd rfl (.inl rfl))
            (pss_one (ps_set (i := 2) nd rfl (.inl rfl) (pe_call GBt hr4 rfl gBt kBt bBt .nil pass0 (pa_cons (pv 0) (pa_cons (pv 2) pa_nil)))))))
        (pss_cons (ps_cut (ps_set (i := 4) nd rfl (.inr rfl) (pe_call GF hr2 rfl gF kF bF .nil pass0 (pa_cons (pv 0) (pa_cons (pe_op op_cat (pe_op op_rep (pe_lst (pa_cons (pv 2) pa_nil)) pe_int)
            (pe_lst (pa_cons pe_non (pa_cons pe_int (pa_cons (pe_lst (pa_cons (pv 2) pa_nil)) (pa_cons (pe_tup (pa_cons (pv 2) pa_nil)) (pa_cons pe_dnewK (pa_cons (pe_op op_add_str (pv 2) pe_str) (pa_cons (pe_op op_add_str (pv 2) pe_str) (pa_cons pe_str pa_nil)))))))))) pa_nil)))))
        (pss_cons (ps_cut (ps_set (i := 5) nd rfl (.inl rfl) (pe_ifExp (pt_val (pe_callB call_isi (by rfl) B.isi PyProof.Rows.boot_isinstance (pa_cons (pv 4) (pa_cons (pe_bltn (v := .ty "str") (by rfl) B.str (by decide +kernel) rfl) pa_nil)))) (pe_call GSi hr4 rfl gSi kSi bSi .nil pass0 (pa_cons (pv 4) pa_nil)) pe_non)))
        (pss_cons (ps_cut (ps_set (i := 6) nd rfl (.inl rfl) (pe_lst (pa_cons (pe_lamcall (k := 7) rfl gCa kpC lk hcd bCa scCaught rfl (.inl rfl) (caught_gives hgd hr3 TS.b0 TS.b1 TS.b2 gSl GSl kSl bSl) TB rfl hTm hTu hr (lamS_by (by kernel_rfl)) rfl (fun _ _ _ _ _ => rfl)
              (fun A' outer' s' H' E f' c' hr' => pe_cmetFX (E := E) (pe_glob (v := .ref C) rfl gS rfl) cr cm GRd hr' bRd (passes_call (takes_of rfl rfl rfl rfl) fun _ _ _ _ h => h) (pa_cons (pv 4) pa_nil))) pa_nil))))
        (pss_cons (ps_cut (ps_expr (pe_bm PySem.F.plainAttrs_list PySem.F.slot_list_append PySem.F.type_list_append mt_append (pv 6) (pa_cons (pe_lamcall (k := 7) rfl gCa kpC lk hcd bCa scCaught rfl (.inl rfl) (caught_gives hgd hr3 TS.b0 TS.b1 TS.b2 gSl GSl kSl bSl) TB rfl hTm hTu hr (lamS_by (by kernel_rfl)) rfl (fun _ _ _ _ _ => rfl)
              (fun A' outer' s' H' E f' c' hr' => pe_cmetKX (E := E) (pe_glob (v := .ref C) rfl gS rfl) cr cm GRd hr' kbRd (passes_call (takes_of rfl rfl rfl rfl) fun _ _ _ _ h => h) (pk_cons (pv 4) pk_nil))) pa_nil))))
        (pss_cons (ps_cut (ps_if (PW.pt (pw_and (pt_cmpR op_isN (pv 5) pe_non (nomark _)) (pw_and1 (pt_cmpR (op_neD hr.units) (pv 6) (pe_op op_rep (pe_lst (pa_cons (pe_lst (pa_cons pe_str (pa_cons (pe_callB (reprK K hgd hu') (by rfl) mrep PyProof.Rows.boot_repr (pa_cons (pv 4) pa_nil)) pa_nil))) pa_nil)) pe_int) (nomark _))))) (pss_one (ps_ret pe_bl)) pss_nil))
        (pss_one (ps_cut (ps_if (pt_cmpR op_notN (pv 5) pe_non (nomark _))
          (pss_cons (ps_cut (ps_if (PW.pt (pw_or (pt_cmpR (op_neD hr.units) (pe_lc (own := [("_law_each", 7)]) (g := gName 7) (tt := tYes) rfl nd (pi_list (pv 6))
                (blkOk_by (own := [("_law_each", 7)]) (N := N05) (sc := defScope sLawRight) (by decide +kernel)) (fun _ _ _ _ _ => pg_name (i := 7) nd rfl (Or.inl rfl)) (fun _ _ _ _ _ => pts_nil)
                (fun _ _ _ _ _ => pe_ix (ixL K) (pv 7) pe_int (fun _ _ => rfl)))
              (pe_lst (pa_cons pe_str (pa_cons pe_str pa_nil))) (nomark _))
            (pw_or (pt_cmpR op_ne (pe_callTy (call_strO GS hr4 E1.str E1.strf bS) (by rfl) B.str (by decide +kernel) (pa_cons (pe_ix (ixL K) (pe_ix (ixL K) (pv 6) pe_int (fun _ _ => rfl)) pe_int (fun _ _ => rfl)) pa_nil)) (pv 4) (nomark _))
            (pw_or1 (pt_cmpR (neTellK K GE hr2 E1.eq E1.eqf bE) (pe_ix (ixL K) (pv 6) pe_int (fun _ _ => rfl)) (pe_ix (ixL K) (pv 6) pe_int (fun _ _ => rfl)) (nomark _)))))) (pss_one (ps_ret pe_bl)) pss_nil))
          (pss_one (ps_cut (ps_if (pt_cmpR op_ne (pe_callB (reprK K hgd hu') (by rfl) mrep PyProof.Rows.boot_repr (pa_cons (pe_lst (pa_cons (pe_prop (pe_ix (ixL K) (pe_ix (ixL K) (pv 6) pe_int (fun _ _ => rfl)) pe_int (fun _ _ => rfl)) S.cl E1.un GUn hr2 bUn .nil pass0 rfl)
                  (pa_cons (pe_prop (pe_ix (ixL K) (pe_ix (ixL K) (pv 6) pe_int (fun _ _ => rfl)) pe_int (fun _ _ => rfl)) S.cl E1.ro GRo hr2 bRo .nil pass0 rfl) pa_nil))) pa_nil))
                (pe_callB (reprK K hgd hu') (by rfl) mrep PyProof.Rows.boot_repr (pa_cons (pe_callTy call_list_of (by rfl) mlst (by decide +kernel) (pa_cons (pv 5) pa_nil)) pa_nil)) (nomark _)) (pss_one (ps_ret pe_bl)) pss_nil)))) pss_nil))))))))))))
      (pss_one (ps_ret pe_bl))), ?_⟩
    have one : 1 ≤ sizeLine := by decide
    have two : 2 ≤ sizeLine := by decide
    refine ⟨fun σ' H' => (∃ o1 o2 o3 o4 o5 o6, σ' = [some (.ref l), o1, o2, o3, o4, o5, o6, none]) ∧ St05 l [(PT, lamR)] H H', ?_, ?_⟩
    · refine ⟨20, rfl, by decide, by decide, ?_⟩
      refine for_it (walk_range (lo := 0) (n := 20)) (fun j σ' H' => (∃ o1 o2 o3 o4 o5 o6, σ' = [some (.ref l), o1, o2, o3, o4, o5, o6, none]) ∧ St05 l [(PT, lamR)] H H')
        ⟨⟨_, _, _, _, _, _, rfl⟩, ⟨KeptN.refl l H, hU, hT⟩⟩ (fun _ _ _ _ _ => trivial) ?_ (fun σ' H' pp => pp)
      rintro j z _ _ H1 hj ⟨⟨o1, o2, o3, o4, o5, o6, rfl⟩, S1⟩ ⟨rfl, hzz⟩
      clear hzz
      -- a page
      refine ⟨fun σ' H' => ∃ x : Str, σ' = [some (.ref l), some z, some (.str x), o3, o4, o5, o6, none] ∧ plnS x ∧ x.length ≤ 460 ∧ St05 l [(PT, lamR)] H H', ?_, ?_⟩
      · refine ⟨_, rfl, l, 4, rfl, by decide, S1.un, fun H6 v ns rs k6 u6 dq hN hL _ _ => ?_⟩
        have S6 := S1.kept k6 u6
        exact ⟨v, ns, rs, rfl, dq, hN, hL, fun H7 s7 => ⟨_, rfl, page_pln hN hL, page_small hN hL, S6.same s7⟩⟩
      rintro _ H2 ⟨x0, rfl, xp0, xl0, S2⟩
      clear S1
      -- bent
      refine ⟨fun σ' H' => ∃ (x : Str) (o : Option V), σ' = [some (.ref l), some z, some (.str x), o, o4, o5, o6, none] ∧ plnS x ∧ x.length ≤ 4980 ∧ St05 l [(PT, lamR)] H H', ?_, ?_⟩
      · refine ⟨_, rfl, l, 3, rfl, S2.un, by decide, by decide, fun H6 b k6 u6 b0 b1 => ?_⟩
        obtain ⟨n, rfl⟩ := Int.eq_ofNat_of_zero_le b0
        have S6 := S2.kept k6 u6
        refine ⟨n, rfl, by omega, by omega, ?_⟩
        refine for_it (walk_range (lo := 0) (n := n)) (fun i σ' H' => ∃ (x : Str) (o : Option V), σ' = [some (.ref l), some z, some (.str x), o, o4, o5, o6, none] ∧ plnS x ∧ ((i = 0 ∧ x.length ≤ 460) ∨ (i = 1 ∧ x.length ≤ 1412) ∨ (i = 2 ∧ x.length ≤ 4268)) ∧ St05 l [(PT, lamR)] H H')
          ⟨x0, _, rfl, xp0, .inl ⟨rfl, xl0⟩, S6⟩ (fun _ _ _ _ _ => trivial) ?_ ?_
        · rintro i y _ _ H7 hi ⟨x, o, rfl, xp, xl, S7⟩ ⟨rfl, hy⟩
          clear hy
          have hi2 : i < n := hi
          refine ⟨_, rfl, _, rfl, l, x, rfl, S7.un, xp, by omega, fun H8 x' k8 u8 xp' xl' => ?_⟩
          exact ⟨x', _, rfl, xp', by omega, S7.kept k8 u8⟩
        · rintro _ H7 ⟨x, o, rfl, xp, xl, S7⟩
          exact ⟨x, o, rfl, xp, by omega, S7⟩
      rintro _ H3 ⟨x, o3', rfl, xp, xl, S3⟩
      clear S2
      -- what is read
      refine ⟨fun σ' H' => ∃ v d, σ' = [some (.ref l), some z, some (.str x), o3', some v, o5, o6, none] ∧ Thing d ∧ Dr K l H' v d ∧ St05 l [(PT, lamR)] H H', ?_, ?_⟩
      · obtain ⟨ys3, hz3⟩ := urn_lst S3.un
        refine ⟨_, rfl, _, rfl, one, fun p1 h1 => ?_⟩
        have s1 := Same.new (o := .lst [.str x]) h1
        have L1 : LAt K l (upd H3 p1 (.lst [.str x])) p1 [.str x] := ⟨_, upd_same, (fun y => by rw [y, hz3] at h1; cases h1), .cons (.str _ (by omega)) .nil⟩
        refine rd_c (LAt.rep9 (s1 _ _ hz3) L1 (Nat.succ_le_succ (Nat.zero_le 19)) fun H4 m4 s4 L4 => ?_)
        have a4 := s1.trans s4
        have sz1 : x.length + ("\n" : Str).length ≤ sizeLine := Nat.le_trans (Nat.add_le_add_right xl 1) (by decide)
        have sz2 : x.length + (" " : Str).length ≤ sizeLine := Nat.le_trans (Nat.add_le_add_right xl 1) (by decide)
        refine ⟨_, rfl, one, fun p2 h2 => ⟨_, rfl, one, fun p3 h3 p5 h5 => ⟨_, rfl, x, "\n", rfl, rfl, sz1, _, rfl, x, " ", rfl, rfl, sz2, (show 8 ≤ sizeLine by decide), fun p9 h9 => ?_⟩⟩⟩
        have b9 := Same.new (o := .lst [.non, .int 5, .ref p2, .ref p3, .ref p5, .str (x ++ "\n"), .str (x ++ " "), .str ""]) h9
        have b5 := (Same.new (o := .dK []) h5).trans b9
        have b3 := (Same.new (o := .tup [.str x]) h3).trans b5
        have b2 := (Same.new (o := .lst [.str x]) h2).trans b3
        have np2 : p2 ≠ l := fun y => by rw [y, a4 _ _ hz3] at h2; cases h2
        have w2 := b3 _ _ (upd_same (a := p2) (o := HO.lst [.str x]))
        have w3 := b5 _ _ (upd_same (a := p3) (o := HO.tup [.str x]))
        have w5 := b9 _ _ (upd_same (a := p5) (o := HO.dK []))
        have lx1 : (x ++ ("\n" : Str)).length ≤ 5000 := by rw [cat_len]; exact Nat.le_trans (Nat.add_le_add_right xl 1) (by decide)
        have lx2 : (x ++ (" " : Str)).length ≤ 5000 := by rw [cat_len]; exact Nat.le_trans (Nat.add_le_add_right xl 1) (by decide)
        have hz9 := b2 _ _ (a4 _ _ hz3)
        refine LAt.cat (K := K) (es := [.none, .int 5, .list [.str x], .tuple [.str x], .dict [], .str (x ++ "\n"), .str (x ++ " "), .str ""]) hz9 (L4.n (a4 _ _ hz3) (sameN b2)) upd_same
          (.cons .non (.cons (.int _) (.cons (.lst np2 (SqL.of w2) (.cons (.str _ (by omega)) .nil)) (.cons (.tup (SqT.of w3) (.cons (.str _ (by omega)) .nil)) (.cons (.dic w5) (.cons (.str _ lx1) (.cons (.str _ lx2) (.cons (.str _ (by decide)) .nil)))))))) (show 9 + 8 ≤ 1000 by omega) fun H6 m6 s6 L6 => ?_
        have a6 := a4.trans (b2.trans s6)
        obtain ⟨xs6, e6, n6, d6⟩ := L6
        have el6 := d6.len
        have el6' : xs6.length = 17 := el6
        refine ⟨l, m6, xs6, rfl, S3.un.same a6, e6, n6, by omega, by omega, fun H7 i v hv k7 u7 => ?_⟩
        obtain ⟨d, hd, dv⟩ := d6.get hv
        have hz6 := s6 _ _ hz9
        exact ⟨v, d, rfl, things_ok xp xl d (List.mem_of_getElem? hd), Dr.but hz6 k7.n dv, (S3.same a6).kept k7 u7⟩
      rintro _ H4 ⟨v, d, rfl, th, dr4, S4⟩
      clear S3
      -- what the law reads
      refine ⟨fun σ' H' => ∃ cv, σ' = [some (.ref l), some z, some (.str x), o3', some v, some cv, o6, none] ∧ Same H4 H' ∧ ((cv = .non ∧ ¬ IsPageD d) ∨ ∃ ns rs, Folk ns ∧ Lines rs ns.length ∧ d = .str (pageS ns rs) ∧ Dq K H' cv (caseD ns rs)), ?_, ?_⟩
      · refine rd_isd (i := 4) dr4.dq rfl (kit_str d) ⟨_, rfl, ?_⟩
        cases d with
        | str t =>
          cases dr4 with
          | str _ ht =>
          refine iteT ⟨_, rfl, t, rfl, (thing_str th rfl).2, fun H5 cv s5 hc => ⟨cv, rfl, s5, ?_⟩⟩
          rcases hc with hc | ⟨ns, rs, hN, hL, e, dq⟩
          · exact .inl hc
          · exact .inr ⟨ns, rs, hN, hL, by rw [e], dq⟩
        | _ => exact iteF ⟨_, rfl, fun _ _ e => e, .inl ⟨rfl, fun ⟨_, _, _, _, e⟩ => nomatch e⟩⟩
      rintro _ H5 ⟨cv, rfl, s5, hcv⟩
      have S5 := S4.same s5
      obtain ⟨ys5, hz5⟩ := urn_lst S5.un
      obtain ⟨ys4, hz4⟩ := urn_lst S4.un
      have dr5 := dr4.same hz4 s5
      clear S4 dr4 s5 hz4
      have hvs : ∀ y, d = .str y → v = .str y := fun y e => by
        subst e
        cases dr5
        rfl
      -- told, by place
      refine ⟨fun σ' H' => ∃ t p1, σ' = [some (.ref l), some z, some (.str x), o3', some v, some cv, some (.ref t), none] ∧ (∀ b o, H5 b = some o → (∀ ps, o ≠ .tbl ps) → b ≠ t) ∧ ExtN H5 H' ∧ Tabs [(PT, lamR)] H' ∧ H' t = some (.lst [.ref p1]) ∧ Out5 K C d H' p1, ?_, ?_⟩
      · refine ⟨S5.tb, fun H6 x6 t6 => ?_⟩
        refine ⟨rfl, _, rfl, ?_⟩
        refine read_out E2 (Dr.extN hz5 x6 dr5) th fun H7 p s7 o7 => ⟨one, fun q hq => ?_⟩
        have s8 := Same.new (o := .lst [.ref p]) hq
        have a7 := x6.trans (same_extN s7)
        exact ⟨q, p, rfl, fun b o eb n => ne_of_none (a7 b o eb n) hq, a7.trans (same_extN s8), tabs_on (tabs_on t6 s7) s8, upd_same, o7.ext (same_extN s8)⟩
      rintro _ H6 ⟨t, p1, rfl, apart, x6, t6, et6, out6⟩
      -- told, by name
      refine ⟨fun σ' H' => ∃ p2, σ' = [some (.ref l), some z, some (.str x), o3', some v, some cv, some (.ref t), none] ∧ ExtN H5 H' ∧ Tabs [(PT, lamR)] H' ∧ H' t = some (.lst [.ref p1, .ref p2]) ∧ Out5 K C d H' p1 ∧ Out5 K C d H' p2, ?_, ?_⟩
      · refine ⟨_, rfl, .inl ⟨rfl, _, SqL.of et6⟩, t6, fun H7 x7 t7 => ?_⟩
        have a7 := x6.trans x7
        refine ⟨rfl, _, rfl, rfl, ?_⟩
        refine read_out E2 (Dr.extN hz5 a7 dr5) th fun H8 p s8 o8 => ?_
        have et8 := s8 _ _ (x7 _ _ et6 fun _ z => nomatch z)
        have out8 := (out6.ext x7).ext (same_extN s8)
        have b8 : ExtN H5 (upd H8 t (.lst ([.ref p1] ++ [.ref p]))) := fun b o eb n => by
          rw [upd_ne (apart b o eb n)]
          exact s8 _ _ (a7 b o eb n)
        exact ⟨t, _, _, rfl, rfl, et8, by show 1 < sizeLine; decide, p, rfl, b8, tabs_upd (tabs_on t7 s8) et8, upd_same, out8.upd et8, o8.upd et8⟩
      rintro _ H7 ⟨p2, rfl, x7, t7, et7, o17, o27⟩
      clear x6 t6 et6 out6
      have S7 := S5.ext x7 t7
      have dr7 := Dr.extN hz5 x7 dr5
      have go7 := thing_good dr7 th
      have hcv7 : (cv = .non ∧ ¬ IsPageD d) ∨ ∃ ns rs, Folk ns ∧ Lines rs ns.length ∧ d = .str (pageS ns rs) ∧ Dq K H7 cv (caseD ns rs) := by
        rcases hcv with hc | ⟨ns, rs, hN, hL, e, dq⟩
        · exact .inl hc
        · exact .inr ⟨ns, rs, hN, hL, e, dq.extN x7⟩
      clear hcv S5 dr5
      -- refused
      refine ⟨fun σ' H' => σ' = [some (.ref l), some z, some (.str x), o3', some v, some cv, some (.ref t), none] ∧ Same H7 H', ?_, ?_⟩
      · refine ⟨_, rfl, rfl, _, rfl, ?_⟩
        rcases hcv7 with ⟨rfl, hno⟩ | ⟨ns, rs, hN, hL, e, dq⟩
        · rw [decide_eq_true rfl]
          have i1 : H7 p1 = some (.lst [.str "InvalidText", .str d.shown]) := by
            rcases o17 with ⟨y, ns, rs, h1, h2, h3, _⟩ | ⟨_, h⟩
            · exact absurd ⟨ns, rs, h1, h2, h3⟩ hno
            · exact h
          have i2 : H7 p2 = some (.lst [.str "InvalidText", .str d.shown]) := by
            rcases o27 with ⟨y, ns, rs, h1, h2, h3, _⟩ | ⟨_, h⟩
            · exact absurd ⟨ns, rs, h1, h2, h3⟩ hno
            · exact h
          have tok : ∀ y ∈ [("InvalidText" : Str), d.shown], PyData.strOk y = true := fun y hy => by
            rcases List.mem_cons.mp hy with rfl | hy
            · decide +kernel
            · rw [List.mem_singleton.mp hy]
              exact ok_shown d (thing_asc th)
          refine iteT ⟨_, rfl, rd_cb1 ⟨_, rfl, rd_rv go7 ⟨two, fun q1 h1 => ⟨one, fun q2 h2 => ⟨q2, 2, _, rfl, rfl, upd_same, by decide, by decide, two, fun q3 h3 => ?_⟩⟩⟩⟩⟩
          have s1 := Same.new (o := .lst [.str "InvalidText", .str d.shown]) h1
          have s2 := Same.new (o := .lst [.ref q1]) h2
          have s3 := Same.new (o := .lst (List.replicate (2 : Int).toNat [V.ref q1]).flatten) h3
          have s13 := s1.trans (s2.trans s3)
          have eq1 := s3 _ _ (s2 _ _ (upd_same (a := q1) (o := HO.lst [.str "InvalidText", .str d.shown])))
          exact rd_sameD (d := .list [lstS ["InvalidText", d.shown], lstS ["InvalidText", d.shown]]) (.lst (SqL.of (s13 _ _ et7)) (.cons (dp_lstS (ts := ["InvalidText", d.shown]) (s13 _ _ i1)) (.cons (dp_lstS (ts := ["InvalidText", d.shown]) (s13 _ _ i2)) .nil))) (.lst (SqL.of upd_same) (.cons (dp_lstS (ts := ["InvalidText", d.shown]) eq1) (.cons (dp_lstS (ts := ["InvalidText", d.shown]) eq1) .nil))) (shaped_pair tok) ⟨_, rfl, iteF ⟨rfl, s13⟩⟩
        · obtain ⟨c, u, r, rfl, _⟩ := case_at dq
          rw [decide_eq_false (fun z => nomatch z)]
          exact iteF ⟨rfl, fun _ _ e => e⟩
      rintro _ H8 ⟨rfl, s8⟩
      have S8 := S7.same s8
      have hcv8 : (cv = .non ∧ ¬ IsPageD d) ∨ ∃ ns rs, Folk ns ∧ Lines rs ns.length ∧ d = .str (pageS ns rs) ∧ Dq K H8 cv (caseD ns rs) := by
        rcases hcv7 with hc | ⟨ns, rs, hN, hL, e, dq⟩
        · exact .inl hc
        · exact .inr ⟨ns, rs, hN, hL, e, dq.same s8⟩
      have et8 := s8 _ _ et7
      have o18 := o17.ext (same_extN s8)
      have o28 := o27.ext (same_extN s8)
      clear hcv7 dr7 go7 o17 o27 et7
      -- taken
      refine ⟨fun σ' H' => σ' = [some (.ref l), some z, some (.str x), o3', some v, some cv, some (.ref t), none] ∧ Same H8 H', ?_, ?_⟩
      · refine ⟨_, rfl, rfl, _, rfl, ?_⟩
        rcases hcv8 with ⟨rfl, hno⟩ | ⟨ns, rs, hN, hL, e, dq⟩
        · rw [decide_eq_true rfl]
          exact iteF ⟨rfl, fun _ _ e => e⟩
        · obtain ⟨c, u, r, rfl, sq, du, dr⟩ := case_at dq
          rw [decide_eq_false (fun z => nomatch z)]
          have page : IsPageD d := ⟨ns, rs, hN, hL, e⟩
          obtain ⟨y1, i1, sy1⟩ : ∃ y, H8 p1 = some (.lst [.str "told", .ref y]) ∧ SysAt K C H8 y ns rs := by
            rcases o18 with ⟨y, ms, qs, h1, h2, h3, h4, h5⟩ | ⟨h, _⟩
            · rw [e] at h3
              obtain ⟨rfl, rfl⟩ := page_inj hN hL h1 h2 (PyData.str.inj h3)
              exact ⟨y, h4, h5⟩
            · exact absurd page h
          obtain ⟨y2, i2, sy2⟩ : ∃ y, H8 p2 = some (.lst [.str "told", .ref y]) ∧ SysAt K C H8 y ns rs := by
            rcases o28 with ⟨y, ms, qs, h1, h2, h3, h4, h5⟩ | ⟨h, _⟩
            · rw [e] at h3
              obtain ⟨rfl, rfl⟩ := page_inj hN hL h1 h2 (PyData.str.inj h3)
              exact ⟨y, h4, h5⟩
            · exact absurd page h
          refine iteT ?_
          refine ⟨fun σ' H' => σ' = [some (.ref l), some z, some (.str x), o3', some v, some (.ref c), some (.ref t), none] ∧ Same H8 H', ?_, ?_⟩
          · refine ⟨_, rfl, t, rfl, ⟨_, SqL.of et8⟩, fun D hD => ?_⟩
            refine lc_it (walk_list (K := K) (a := t) (xs := [.ref p1, .ref p2])) (fun i H' => Same H8 H' ∧ H' D = some (.lst (List.replicate i (V.str "told")))) ⟨Same.new hD, upd_same⟩ (fun i H' hi p => SqL.of (p.1 _ _ et8)) ?_ ?_
            · rintro i y H9 _ hi ⟨s9, bD⟩ ⟨rfl, hy⟩
              have hi2 : i < 2 := hi
              obtain ⟨p, yy, rfl, g⟩ : ∃ (p yy : Addr), y = V.ref p ∧ H8 p = some (.lst [.str "told", .ref yy]) := by
                match i, hy with
                | 0, hy => cases hy; exact ⟨p1, y1, rfl, i1⟩
                | 1, hy => cases hy; exact ⟨p2, y2, rfl, i2⟩
                | i + 2, hy => cases hy
              refine ⟨rfl, rdYes ⟨_, rfl, p, _, 0, .str "told", rfl, rfl, SqL.of (s9 _ _ g), atI_nat (j := 0) rfl, ?_⟩⟩
              refine ⟨_, bD, (by rw [List.length_replicate]; exact Nat.lt_trans hi2 (by decide)), fun b o eb => ?_, ?_⟩
              · rw [upd_ne (ne_of_none eb hD)]
                exact s9 _ _ eb
              · rw [upd_same, List.replicate_succ']
            · rintro H9 ⟨s9, bD⟩
              refine ⟨two, fun w1 hw => ?_⟩
              have s10 := Same.new (o := .lst [.str "told", .str "told"]) hw
              have sA := s9.trans s10
              have tok : ∀ y ∈ [("told" : Str), "told"], PyData.strOk y = true := fun y hy => by
                rcases List.mem_cons.mp hy with rfl | hy
                · decide +kernel
                · rw [List.mem_singleton.mp hy]
                  decide +kernel
              refine rd_sameD (d := lstS ["told", "told"]) (dp_lstS (ts := ["told", "told"]) (s10 _ _ bD)) (dp_lstS (ts := ["told", "told"]) upd_same) (shaped_lstS tok) ⟨_, rfl, iteF ?_⟩
              -- its text
              obtain ⟨_, _, dx1, u1, v1, ex1, _, _⟩ := id sy1
              obtain rfl := hvs _ e
              refine ⟨_, rfl, t, _, 0, _, rfl, rfl, SqL.of (sA _ _ et8), atI_nat (j := 0) rfl, p1, _, 1, _, rfl, rfl, SqL.of (sA _ _ i1), atI_nat (j := 1) rfl, y1, dx1, _, rfl, sA _ _ ex1, y1, ns, rs, rfl, sy1.same sA, fun H11 s11 => ⟨_, rfl, _, rfl, rfl, _, rfl, ?_⟩⟩
              rw [decide_eq_true rfl]
              have sB := sA.trans s11
              refine iteF ⟨_, rfl, t, _, 0, _, rfl, rfl, SqL.of (sB _ _ et8), atI_nat (j := 0) rfl, _, rfl, t, _, 1, _, rfl, rfl, SqL.of (sB _ _ et8), atI_nat (j := 1) rfl, ⟨p1, p2, _, _, rfl, rfl, sB _ _ i1, sB _ _ i2, .cons (.inl ⟨rfl, rfl, by decide +kernel⟩) (.cons (.inr (dins_of (sy1.same sB) (sy2.same sB))) .nil)⟩, fun H12 s12 => ⟨_, rfl, iteF ⟨rfl, sB.trans s12⟩⟩⟩
          rintro _ H9 ⟨rfl, s9⟩
          -- its unknowns and rows
          refine ⟨fun σ' H' => σ' = [some (.ref l), some z, some (.str x), o3', some v, some (.ref c), some (.ref t), none] ∧ Same H8 H', ?_, fun σ' H' hh => hh⟩
          obtain ⟨_, _, dx1, u1, v1, ex1, du1, dv1⟩ := sy1.same s9
          refine rd_cb1 ⟨_, rfl, t, _, 0, _, rfl, rfl, SqL.of (s9 _ _ et8), atI_nat (j := 0) rfl, p1, _, 1, _, rfl, rfl, SqL.of (s9 _ _ i1), atI_nat (j := 1) rfl, y1, dx1, _, rfl, ex1, y1, dx1, u1, v1, rfl, ex1,
            _, rfl, t, _, 0, _, rfl, rfl, SqL.of (s9 _ _ et8), atI_nat (j := 0) rfl, p1, _, 1, _, rfl, rfl, SqL.of (s9 _ _ i1), atI_nat (j := 1) rfl, y1, dx1, _, rfl, ex1, y1, dx1, u1, v1, rfl, ex1, two, fun w1 hw1 => ?_⟩
          have s10 := Same.new (o := .lst [u1, v1]) hw1
          refine rd_rv (good_two (c := (ns, rs)) ⟨hN, hL⟩ upd_same (du1.same s10) (dv1.same s10)) (rd_cb1 ⟨_, rfl, c, _, rfl, .inr (same_sqt (s9.trans s10) sq), fun w2 hw2 => ?_⟩)
          have s11 := Same.new (o := .lst [.ref u, .ref r]) hw2
          have sC := s9.trans (s10.trans s11)
          refine rd_rv (good_two (c := (ns, rs)) ⟨hN, hL⟩ upd_same (du.same sC) (dr.same sC)) ⟨rfl, _, rfl, ?_⟩
          rw [decide_eq_true rfl]
          exact iteF ⟨rfl, sC⟩
      rintro _ H9 ⟨rfl, s9⟩
      exact ⟨⟨_, _, _, _, _, _, rfl⟩, S8.same s9⟩
    rintro _ H1 ⟨⟨o1, o2, o3, o4, o5, o6, rfl⟩, S1⟩
    exact q H1 S1.kn S1.un S1.tb
end
end Ca
set_option Elab.async false
set_option linter.all false
set_option maxRecDepth 100000
set_option maxHeartbeats 0
namespace Ca
open PySem PySem.Spec PyProof.Rows L2
open LamX
section
variable {P : Program} {w : World} {K : PySem.W.Frag} {h : Heap} {mg : Str → Option Value}
theorem sl_ok {x f : Str} (h : errB K x f = true) (s : slB K x = true) : SlipD K (exA K "BadValue") (exA K "BadName") (exA K "NoAnswer") (exA K x) f := by
  have E := err_ok h
  obtain ⟨s1, s⟩ := an s
  obtain ⟨s2, s⟩ := an s
  obtain ⟨s3, s⟩ := an s
  obtain ⟨s4, s⟩ := an s
  obtain ⟨s5, s6⟩ := an s
  exact ⟨E.isC, E.fld, E.no, of_decide_eq_true s1, of_decide_eq_true s2, of_decide_eq_true s3, of_decide_eq_true s4, of_decide_eq_true s5, of_decide_eq_true s6⟩
theorem factsk05 (X : K.In h) (G : h.Ns mainGlobals mg) {f : Addr} (hfa : mg "law" = some (.ref f)) (c : Saysk05 h K) :
    ∃ fd : FuncData, (∀ (s : Shared) (v : Value), BindsTo s fd ⟨[v], []⟩ [("_law_cells", v)]) ∧ ∀ (base : Heap) (PT : Addr), TabB base mg (codeA K (He.ga K "_law_right")) PT → FnG P w K mg base 11 f fd ["_law_cells"] (spLawT K [(PT, lamQ "_law_right")]) := by
  have d := c.d
  have gl : ∀ (i : Nat) {x : Str}, fask05[i]? = some (.glo x) → mg x = some (.ref (He.ga K x)) := fun i x q => He.glo_ok X G (d.fact i q)
  have fr : ∀ (i : Nat) {x : Str}, fask05[i]? = some (.free x) → mg x = none := fun i x q => He.free_ok X G (d.fact i q)
  have it : ∀ (i : Nat) {x : Str} {z : Int}, fask05[i]? = some (.int x z) → ∃ t, mg x = some (.int z t) := fun i x z q => He.int_ok X G (d.fact i q)
  have st : ∀ (i : Nat) {x z : Str}, fask05[i]? = some (.str x z) → ∃ t, mg x = some (.str z t) := fun i x z q => He.str_ok X G (d.fact i q)
  obtain ⟨fdIsInteger, FIsInteger⟩ := d.def_ 0 (d := topD "is_integer" sIsInteger) rfl
  obtain ⟨fdIsTupleOf, FIsTupleOf⟩ := d.def_ 1 (d := topD "is_tuple_of" sIsTupleOf) rfl
  obtain ⟨fdIsName, FIsName⟩ := d.def_ 2 (d := topD "is_name" sIsName) rfl
  obtain ⟨fdIsUnknown, FIsUnknown⟩ := d.def_ 3 (d := topD "is_unknown" sIsUnknown) rfl
  obtain ⟨fdIsStretch, FIsStretch⟩ := d.def_ 4 (d := topD "is_stretch" sIsStretch) rfl
  obtain ⟨fdIsRow, FIsRow⟩ := d.def_ 5 (d := topD "is_row" sIsRow) rfl
  obtain ⟨fdCheckUnknowns, FCheckUnknowns⟩ := d.def_ 6 (d := topD "check_unknowns" sCheckUnknowns) rfl
  obtain ⟨fdCheckRows, FCheckRows⟩ := d.def_ 7 (d := topD "check_rows" sCheckRows) rfl
  obtain ⟨fdLineOf, FLineOf⟩ := d.def_ 8 (d := topD "line_of" sLineOf) rfl
  obtain ⟨fdLawUrn, FLawUrn⟩ := d.def_ 9 (d := topD "_law_urn" sLawUrn) rfl
  obtain ⟨fdLawDip, FLawDip⟩ := d.def_ 10 (d := topD "_law_dip" sLawDip) rfl
  obtain ⟨fdLawFrom, FLawFrom⟩ := d.def_ 11 (d := topD "_law_from" sLawFrom) rfl
  obtain ⟨fdLawUnlike, FLawUnlike⟩ := d.def_ 12 (d := topD "_law_unlike" sLawUnlike) rfl
  obtain ⟨fdLawStretch, FLawStretch⟩ := d.def_ 13 (d := topD "_law_stretch" sLawStretch) rfl
  obtain ⟨fdLawLine, FLawLine⟩ := d.def_ 14 (d := topD "_law_line" sLawLine) rfl
  obtain ⟨fdLawCase, FLawCase⟩ := d.def_ 15 (d := topD "_law_case" sLawCase) rfl
  obtain ⟨fdLawPage, FLawPage⟩ := d.def_ 16 (d := topD "_law_page" sLawPage) rfl
  obtain ⟨fdLawRight, FLawRight⟩ := d.def_ 17 (d := topD "_law_right" sLawRight) rfl
  obtain ⟨fdLaw, FLaw⟩ := d.def_ 18 (d := topD "law" sLaw) rfl
  obtain ⟨fdIntegerIn, FIntegerIn⟩ := d.def_ 19 (d := topD "integer_in" sIntegerIn) rfl
  obtain ⟨fdRowIn, FRowIn⟩ := d.def_ 20 (d := topD "row_in" sRowIn) rfl
  obtain ⟨fdLawIsInt, FLawIsInt⟩ := d.def_ 21 (d := topD "_law_is_int" sLawIsInt) rfl
  obtain ⟨fdLawIsName, FLawIsName⟩ := d.def_ 22 (d := topD "_law_is_name" sLawIsName) rfl
  obtain ⟨fdLawIsStretch, FLawIsStretch⟩ := d.def_ 23 (d := topD "_law_is_stretch" sLawIsStretch) rfl
  obtain ⟨fdLawFolkSlip, FLawFolkSlip⟩ := d.def_ 24 (d := topD "_law_folk_slip" sLawFolkSlip) rfl
  obtain ⟨fdLawLinesSlip, FLawLinesSlip⟩ := d.def_ 25 (d := topD "_law_lines_slip" sLawLinesSlip) rfl
  obtain ⟨fdLawWholeIn, FLawWholeIn⟩ := d.def_ 26 (d := topD "_law_whole_in" sLawWholeIn) rfl
  obtain ⟨fdLawSystemIn, FLawSystemIn⟩ := d.def_ 27 (d := topD "_law_system_in" sLawSystemIn) rfl
  obtain ⟨fdLawCaught, FLawCaught⟩ := d.def_ 28 (d := topD "_law_caught" sLawCaught) rfl
  obtain ⟨fdLawSlip, FLawSlip⟩ := d.def_ 29 (d := topD "_law_slip" sLawSlip) rfl
  obtain ⟨fdLawBentWords, FLawBentWords⟩ := d.def_ 30 (d := topD "_law_bent_words" sLawBentWords) rfl
  obtain ⟨fdLawBent, FLawBent⟩ := d.def_ 31 (d := topD "_law_bent" sLawBent) rfl
  obtain ⟨fdMInit, FMInit⟩ := d.def_ 32 (d := memD "__init__" "System.__init__" mSystemInit [.adr e0A]) rfl
  obtain ⟨fdMLen, FMLen⟩ := d.def_ 33 (d := memD "__len__" "System.__len__" mSystemLen []) rfl
  obtain ⟨fdMBool, FMBool⟩ := d.def_ 34 (d := memD "__bool__" "System.__bool__" mSystemBool []) rfl
  obtain ⟨fdMStr, FMStr⟩ := d.def_ 35 (d := memD "__str__" "System.__str__" mSystemStr []) rfl
  obtain ⟨fdMEq, FMEq⟩ := d.def_ 36 (d := memD "__eq__" "System.__eq__" mSystemEq []) rfl
  have c0 := c.b
  obtain ⟨w1, c0⟩ := an c0
  obtain ⟨w2, c0⟩ := an c0
  obtain ⟨w3, c0⟩ := an c0
  obtain ⟨w4, c0⟩ := an c0
  have crR := cread_reads w3
  have cmR := He5.cmet_of w1 w2
  obtain ⟨fdRd, FRd⟩ := fun_at c.c w4
  have nRd : Binds K fdRd ["cls", "text"] [] := FRd.bindsN fun _ _ _ _ _ _ us hl => match us, hl with | [_, _], _ => rfl
  have kRd : KBn K fdRd ["cls", "text"] 1 ["text"] (fun us ws => us ++ ws) (fun vs zs => vs ++ zs) := kb_of FRd fun _ _ _ _ _ _ us ws h1 h2 => match us, ws, h1, h2 with | [_], [_], _, _ => rfl
  obtain ⟨p1, c1⟩ := an c0
  obtain ⟨p2, c1⟩ := an c1
  obtain ⟨p3, c1⟩ := an c1
  obtain ⟨em, c1⟩ := an c1
  obtain ⟨b1, c1⟩ := an c1
  obtain ⟨b2, c1⟩ := an c1
  obtain ⟨b3, c1⟩ := an c1
  obtain ⟨b4, c1⟩ := an c1
  obtain ⟨b5, c1⟩ := an c1
  obtain ⟨b6, c1⟩ := an c1
  obtain ⟨b7, c1⟩ := an c1
  obtain ⟨b8, b9⟩ := an c1
  obtain ⟨pU, okU⟩ := pr_ok p1
  obtain ⟨pR, okR⟩ := pr_ok p2
  obtain ⟨pN, okN⟩ := pr_ok p3
  obtain ⟨fdU, FU⟩ := fun_at c.u okU
  obtain ⟨fdR, FR⟩ := fun_at c.r okR
  obtain ⟨fdN, FN⟩ := fun_at c.n okN
  have B : Bn mg := ⟨fr 46 rfl, fr 47 rfl, fr 48 rfl, fr 49 rfl, fr 50 rfl, fr 51 rfl, fr 52 rfl, fr 53 rfl⟩
  have Bx : Bm mg := ⟨fr 54 rfl, fr 55 rfl, fr 56 rfl⟩
  have Bq : Bi mg := ⟨fr 51 rfl, fr 47 rfl, fr 60 rfl, fr 61 rfl⟩
  have C : Cn mg := ⟨st 43 rfl, st 44 rfl, it 42 rfl, st 45 rfl, it 39 rfl, it 40 rfl, it 41 rfl⟩
  have S : SysC K (sysA K) := ⟨He.cls_ok (d.fact 65 (f := .cls "System") rfl), He.noat_ok (d.fact 66 (f := .noat "System" "_unknowns") rfl), He.noat_ok (d.fact 67 (f := .noat "System" "_rows") rfl)⟩
  have mLen := He.meth_ok (d.fact 69 (f := .meth "System" "__len__") rfl)
  have mBool := He.meth_ok (d.fact 70 (f := .meth "System" "__bool__") rfl)
  have mStr := He.meth_ok (d.fact 71 (f := .meth "System" "__str__") rfl)
  have mEq := He.meth_ok (d.fact 72 (f := .meth "System" "__eq__") rfl)
  have E1 : SysE K (sysA K) _ _ _ _ _ _ _ _ _ _ _ := { mkr := He.mkr_ok (d.fact 68 (f := .mkr "System") rfl), eq := mEq.at_, eqf := mEq.fn, ne := isF_ok b1, ob := of_decide_eq_true b2, str := mStr.at_, strf := mStr.fn, len := mLen.at_, lenf := mLen.fn, bool := mBool.at_, boolf := mBool.fn, un := pU, ro := pR, na := pN }
  have hodd : ∀ t : String, t ∈ tyNames → PySem.W.kitOne K (.type t) (.ref (sysA K)) = some false ∧ PySem.W.notFirst K (sysA K) (.type t) = true := fun t ht => by
    obtain ⟨z1, z2⟩ := an (List.all_eq_true.mp b9 t ht)
    exact ⟨of_decide_eq_true z1, z2⟩
  have I : SysI K (sysA K) := { ha := isF_ok b3, hn := isF_ok b4, ht := of_decide_eq_true b5, hm := of_decide_eq_true b6, own := of_decide_eq_true b7, nf := b8, odd := hodd }
  have gIsInteger := gl 0 (x := "is_integer") rfl
  have gIsTupleOf := gl 1 (x := "is_tuple_of") rfl
  have gIsName := gl 2 (x := "is_name") rfl
  have gIsUnknown := gl 3 (x := "is_unknown") rfl
  have gIsStretch := gl 4 (x := "is_stretch") rfl
  have gIsRow := gl 5 (x := "is_row") rfl
  have gCheckUnknowns := gl 6 (x := "check_unknowns") rfl
  have gCheckRows := gl 7 (x := "check_rows") rfl
  have gLineOf := gl 8 (x := "line_of") rfl
  have gLawUrn := gl 9 (x := "_law_urn") rfl
  have gLawDip := gl 10 (x := "_law_dip") rfl
  have gLawFrom := gl 11 (x := "_law_from") rfl
  have gLawUnlike := gl 12 (x := "_law_unlike") rfl
  have gLawStretch := gl 13 (x := "_law_stretch") rfl
  have gLawLine := gl 14 (x := "_law_line") rfl
  have gLawCase := gl 15 (x := "_law_case") rfl
  have gLawPage := gl 16 (x := "_law_page") rfl
  have gLawRight := gl 17 (x := "_law_right") rfl
  have gLaw := gl 18 (x := "law") rfl
  have gIntegerIn := gl 19 (x := "integer_in") rfl
  have gRowIn := gl 20 (x := "row_in") rfl
  have gLawIsInt := gl 21 (x := "_law_is_int") rfl
  have gLawIsName := gl 22 (x := "_law_is_name") rfl
  have gLawIsStretch := gl 23 (x := "_law_is_stretch") rfl
  have gLawFolkSlip := gl 24 (x := "_law_folk_slip") rfl
  have gLawLinesSlip := gl 25 (x := "_law_lines_slip") rfl
  have gLawWholeIn := gl 26 (x := "_law_whole_in") rfl
  have gLawSystemIn := gl 27 (x := "_law_system_in") rfl
  have gLawCaught := gl 28 (x := "_law_caught") rfl
  have gLawSlip := gl 29 (x := "_law_slip") rfl
  have gLawBentWords := gl 30 (x := "_law_bent_words") rfl
  have gLawBent := gl 31 (x := "_law_bent") rfl
  have gS := gl 32 (x := "System") rfl
  have e := hfa.symm.trans gLaw
  cases e
  have bL := FunD.bindsA (ps := ["_law_cells"]) FLaw fun _ _ _ _ _ _ us hl => match us, hl with | [_], _ => rfl
  obtain ⟨fdXInvalidText, FXInvalidText⟩ := d.def_ 37 (d := memE "InvalidText" "InvalidText.__init__" mInvalidTextInit) rfl
  obtain ⟨fdXInvalidUnknowns, FXInvalidUnknowns⟩ := d.def_ 38 (d := memE "InvalidUnknowns" "InvalidUnknowns.__init__" mInvalidUnknownsInit) rfl
  obtain ⟨fdXInvalidRows, FXInvalidRows⟩ := d.def_ 39 (d := memE "InvalidRows" "InvalidRows.__init__" mInvalidRowsInit) rfl
  have gBadValue := gl 33 (x := "BadValue") rfl
  have gBadName := gl 34 (x := "BadName") rfl
  have gNoAnswer := gl 35 (x := "NoAnswer") rfl
  have gInvalidText := gl 36 (x := "InvalidText") rfl
  have gInvalidUnknowns := gl 37 (x := "InvalidUnknowns") rfl
  have gInvalidRows := gl 38 (x := "InvalidRows") rfl
  have hx := c.e
  obtain ⟨x0, hx⟩ := an hx
  obtain ⟨x1, hx⟩ := an hx
  obtain ⟨x2, hx⟩ := an hx
  obtain ⟨x3, hx⟩ := an hx
  obtain ⟨x4, hx⟩ := an hx
  obtain ⟨x5, hx⟩ := an hx
  obtain ⟨x6, hx⟩ := an hx
  have x7 := hx
  refine ⟨fdLaw, fun s v => bL s [v] rfl, fun base PT TB => ?_⟩
  have nIsInteger : Binds K fdIsInteger ["value"] [] := FIsInteger.bindsN fun _ _ _ _ _ _ us hl => match us, hl with | [_], _ => rfl
  have nIsTupleOf : Binds K fdIsTupleOf ["value", "many"] [] := FIsTupleOf.bindsN fun _ _ _ _ _ _ us hl => match us, hl with | [_, _], _ => rfl
  have nIsName : Binds K fdIsName ["value"] [] := FIsName.bindsN fun _ _ _ _ _ _ us hl => match us, hl with | [_], _ => rfl
  have nIsUnknown : Binds K fdIsUnknown ["value"] [] := FIsUnknown.bindsN fun _ _ _ _ _ _ us hl => match us, hl with | [_], _ => rfl
  have nIsStretch : Binds K fdIsStretch ["value"] [] := FIsStretch.bindsN fun _ _ _ _ _ _ us hl => match us, hl with | [_], _ => rfl
  have nIsRow : Binds K fdIsRow ["value", "many"] [] := FIsRow.bindsN fun _ _ _ _ _ _ us hl => match us, hl with | [_, _], _ => rfl
  have nCheckUnknowns : Binds K fdCheckUnknowns ["unknowns"] [] := FCheckUnknowns.bindsN fun _ _ _ _ _ _ us hl => match us, hl with | [_], _ => rfl
  have nCheckRows : Binds K fdCheckRows ["rows", "many"] [] := FCheckRows.bindsN fun _ _ _ _ _ _ us hl => match us, hl with | [_, _], _ => rfl
  have nLineOf : Binds K fdLineOf ["row"] [] := FLineOf.bindsN fun _ _ _ _ _ _ us hl => match us, hl with | [_], _ => rfl
  have nLawUrn : Binds K fdLawUrn ["_law_cells", "_law_at"] [] := FLawUrn.bindsN fun _ _ _ _ _ _ us hl => match us, hl with | [_, _], _ => rfl
  have nLawDip : Binds K fdLawDip ["_law_urn_here", "_law_top"] [] := FLawDip.bindsN fun _ _ _ _ _ _ us hl => match us, hl with | [_, _], _ => rfl
  have nLawFrom : Binds K fdLawFrom ["_law_urn_here", "_law_some"] [] := FLawFrom.bindsN fun _ _ _ _ _ _ us hl => match us, hl with | [_, _], _ => rfl
  have nLawUnlike : Binds K fdLawUnlike ["_law_urn_here", "_law_menu", "_law_many"] [] := FLawUnlike.bindsN fun _ _ _ _ _ _ us hl => match us, hl with | [_, _, _], _ => rfl
  have nLawStretch : Binds K fdLawStretch ["_law_urn_here"] [] := FLawStretch.bindsN fun _ _ _ _ _ _ us hl => match us, hl with | [_], _ => rfl
  have nLawLine : Binds K fdLawLine ["_law_urn_here", "_law_title", "_law_many"] [] := FLawLine.bindsN fun _ _ _ _ _ _ us hl => match us, hl with | [_, _, _], _ => rfl
  have nLawCase : Binds K fdLawCase ["_law_urn_here", "_law_many", "_law_most"] [] := FLawCase.bindsN fun _ _ _ _ _ _ us hl => match us, hl with | [_, _, _], _ => rfl
  have nLawPage : Binds K fdLawPage ["_law_case_here"] [] := FLawPage.bindsN fun _ _ _ _ _ _ us hl => match us, hl with | [_], _ => rfl
  have nLawRight : Binds K fdLawRight ["_law_urn_here"] [] := FLawRight.bindsN fun _ _ _ _ _ _ us hl => match us, hl with | [_], _ => rfl
  have nIntegerIn : Binds K fdIntegerIn ["word"] [] := FIntegerIn.bindsN fun _ _ _ _ _ _ us hl => match us, hl with | [_], _ => rfl
  have nRowIn : Binds K fdRowIn ["line"] [] := FRowIn.bindsN fun _ _ _ _ _ _ us hl => match us, hl with | [_], _ => rfl
  have nLawIsInt : Binds K fdLawIsInt ["_law_thing", "_law_least", "_law_most"] [] := FLawIsInt.bindsN fun _ _ _ _ _ _ us hl => match us, hl with | [_, _, _], _ => rfl
  have nLawIsName : Binds K fdLawIsName ["_law_thing"] [] := FLawIsName.bindsN fun _ _ _ _ _ _ us hl => match us, hl with | [_], _ => rfl
  have nLawIsStretch : Binds K fdLawIsStretch ["_law_thing"] [] := FLawIsStretch.bindsN fun _ _ _ _ _ _ us hl => match us, hl with | [_], _ => rfl
  have nLawFolkSlip : Binds K fdLawFolkSlip ["_law_folk"] [] := FLawFolkSlip.bindsN fun _ _ _ _ _ _ us hl => match us, hl with | [_], _ => rfl
  have nLawLinesSlip : Binds K fdLawLinesSlip ["_law_lines", "_law_many"] [] := FLawLinesSlip.bindsN fun _ _ _ _ _ _ us hl => match us, hl with | [_, _], _ => rfl
  have nLawWholeIn : Binds K fdLawWholeIn ["_law_word"] [] := FLawWholeIn.bindsN fun _ _ _ _ _ _ us hl => match us, hl with | [_], _ => rfl
  have nLawSystemIn : Binds K fdLawSystemIn ["_law_page_here"] [] := FLawSystemIn.bindsN fun _ _ _ _ _ _ us hl => match us, hl with | [_], _ => rfl
  have nLawCaught : Binds K fdLawCaught ["_law_act"] [] := FLawCaught.bindsN fun _ _ _ _ _ _ us hl => match us, hl with | [_], _ => rfl
  have nLawSlip : Binds K fdLawSlip ["_law_e"] [] := FLawSlip.bindsN fun _ _ _ _ _ _ us hl => match us, hl with | [_], _ => rfl
  have nLawBentWords : Binds K fdLawBentWords ["_law_urn_here", "_law_page_here", "_law_parted"] [] := FLawBentWords.bindsN fun _ _ _ _ _ _ us hl => match us, hl with | [_, _, _], _ => rfl
  have nLawBent : Binds K fdLawBent ["_law_urn_here", "_law_page_here"] [] := FLawBent.bindsN fun _ _ _ _ _ _ us hl => match us, hl with | [_, _], _ => rfl
  have nMLen : Binds K fdMLen ["self"] [] := FMLen.bindsN fun _ _ _ _ _ _ us hl => match us, hl with | [_], _ => rfl
  have nMBool : Binds K fdMBool ["self"] [] := FMBool.bindsN fun _ _ _ _ _ _ us hl => match us, hl with | [_], _ => rfl
  have nMStr : Binds K fdMStr ["self"] [] := FMStr.bindsN fun _ _ _ _ _ _ us hl => match us, hl with | [_], _ => rfl
  have nMEq : Binds K fdMEq ["self", "other"] [] := FMEq.bindsN fun _ _ _ _ _ _ us hl => match us, hl with | [_, _], _ => rfl
  have nU : Binds K fdU ["self"] [] := FU.bindsN fun _ _ _ _ _ _ us hl => match us, hl with | [_], _ => rfl
  have nR : Binds K fdR ["self"] [] := FR.bindsN fun _ _ _ _ _ _ us hl => match us, hl with | [_], _ => rfl
  have nN : Binds K fdN ["self"] [] := FN.bindsN fun _ _ _ _ _ _ us hl => match us, hl with | [_], _ => rfl
  obtain ⟨ds, vd, nI⟩ := FMInit.binds1 (ps := ["self", "unknowns", "rows"]) 3 1 (List.cons_ne_nil _ _) rfl fun T kV doc pm an cdv ct us its h1 h2 => match us, its, h1, h2 with | [_, _, _], [_], _, _ => ⟨_, rfl, rfl⟩
  obtain ⟨ds2, vd2, nI0⟩ := FMInit.binds1 (ps := ["self", "unknowns", "rows"]) 2 0 (List.cons_ne_nil _ _) rfl fun T kV doc pm an cdv ct us its h1 h2 => match us, its, h1, h2 with | [_, _], [_], _, _ => ⟨_, rfl, rfl⟩
  have EInvalidText : ErrX P w K mg base (exA K "InvalidText") (exI K "InvalidText") fdXInvalidText "given" "InvalidText" := errx_given x0 gInvalidText FXInvalidText
  have EInvalidUnknowns : ErrX P w K mg base (exA K "InvalidUnknowns") (exI K "InvalidUnknowns") fdXInvalidUnknowns "index" "InvalidUnknowns" := errx_index x1 gInvalidUnknowns FXInvalidUnknowns
  have EInvalidRows : ErrX P w K mg base (exA K "InvalidRows") (exI K "InvalidRows") fdXInvalidRows "index" "InvalidRows" := errx_index x2 gInvalidRows FXInvalidRows
  have GIsInteger := ok_isInteger (P := P) (w := w) (mg := mg) (base := base) FIsInteger B
  have GIsTupleOf := ok_isTupleOf (P := P) (w := w) (mg := mg) (base := base) FIsTupleOf B
  have GIsName := ok_isName (P := P) (w := w) (mg := mg) (base := base) FIsName B C
  have GIsUnknown := ok_isUnknown (P := P) (w := w) (mg := mg) (base := base) FIsUnknown C gIsName GIsName FIsName.kp nIsName
  have GIsStretch := ok_isStretch (P := P) (w := w) (mg := mg) (base := base) FIsStretch C gIsTupleOf GIsTupleOf FIsTupleOf.kp nIsTupleOf gIsInteger GIsInteger FIsInteger.kp nIsInteger
  have GIsRow := ok_isRow (P := P) (w := w) (mg := mg) (base := base) FIsRow B gIsTupleOf GIsTupleOf FIsTupleOf.kp nIsTupleOf gIsName GIsName FIsName.kp nIsName gIsStretch GIsStretch FIsStretch.kp nIsStretch
  have GCheckUnknowns := ok_checkU (P := P) (w := w) (mg := mg) (base := base) FCheckUnknowns B C gIsUnknown GIsUnknown FIsUnknown.kp nIsUnknown
  have GCheckRows := ok_checkR (P := P) (w := w) (mg := mg) (base := base) FCheckRows B C gIsRow GIsRow FIsRow.kp nIsRow
  have GLineOf := ok_line (P := P) (w := w) (mg := mg) (base := base) FLineOf B
  have GI := ok_init (P := P) (w := w) (mg := mg) (base := base) FMInit B S gCheckUnknowns GCheckUnknowns FCheckUnknowns.kp nCheckUnknowns gCheckRows GCheckRows FCheckRows.kp nCheckRows
  have GLen := ok_len (P := P) (w := w) (mg := mg) (base := base) FMLen B S
  have GBool := ok_bool (P := P) (w := w) (mg := mg) (base := base) FMBool
  have GStr := ok_str (P := P) (w := w) (mg := mg) (base := base) FMStr S gLineOf GLineOf FLineOf.kp nLineOf
  have GEq := ok_eq (P := P) (w := w) (mg := mg) (base := base) FMEq B S I gS
  have GU := ok_unknowns (P := P) (w := w) (mg := mg) (base := base) FU S
  have GR := ok_rows (P := P) (w := w) (mg := mg) (base := base) FR S
  have GN := ok_names (P := P) (w := w) (mg := mg) (base := base) FN B S
  have GLawUrn := ok_urn (P := P) (w := w) (mg := mg) (base := base) (fun_of FLawUrn) Bq
  have GLawDip := ok_dip (P := P) (w := w) (mg := mg) (base := base) (fun_of FLawDip) Bq
  have GLawFrom := ok_from (P := P) (w := w) (mg := mg) (base := base) (fun_of FLawFrom) Bq gLawDip (fun_of FLawDip) nLawDip
  have GLawUnlike := ok_unlike (P := P) (w := w) (mg := mg) (base := base) FLawUnlike B Bx.rng gLawDip GLawDip FLawDip.kp nLawDip
  have GLawStretch := ok_stretch (P := P) (w := w) (mg := mg) (base := base) FLawStretch gLawDip GLawDip FLawDip.kp nLawDip gLawFrom GLawFrom FLawFrom.kp nLawFrom
  have GLawLine := ok_rowD (P := P) (w := w) (mg := mg) (base := base) FLawLine B Bx.rng gLawStretch GLawStretch FLawStretch.kp nLawStretch
  have GLawCase := ok_case (P := P) (w := w) (mg := mg) (base := base) FLawCase B gLawDip GLawDip FLawDip.kp nLawDip gLawUnlike GLawUnlike FLawUnlike.kp nLawUnlike gLawLine GLawLine FLawLine.kp nLawLine
  have GLawPage := ok_page (P := P) (w := w) (mg := mg) (base := base) FLawPage B (fr 57 rfl)
  cases vd
  cases vd2 with
  | cons vr vrr =>
  cases vrr
  have GCU := ok_checkUN (P := P) (w := w) (mg := mg) (base := base) FCheckUnknowns B C EInvalidUnknowns gIsUnknown GIsUnknown FIsUnknown.kp nIsUnknown
  have GCR := ok_checkRN (P := P) (w := w) (mg := mg) (base := base) FCheckRows B C EInvalidRows gIsRow GIsRow FIsRow.kp nIsRow
  have GIX := ok_initN (P := P) (w := w) (mg := mg) (base := base) FMInit B S gCheckUnknowns GCU FCheckUnknowns.kp nCheckUnknowns gCheckRows GCR FCheckRows.kp nCheckRows
  have GIntegerIn := ok_intAny (P := P) (w := w) (mg := mg) (base := base) FIntegerIn B C
  have GRowIn := ok_rowAny (P := P) (w := w) (mg := mg) (base := base) FRowIn B Bx.rng gIntegerIn GIntegerIn FIntegerIn.kp nIntegerIn
  have EH : ErrH P w K mg base (exA K "InvalidText") (exI K "InvalidText") fdXInvalidText "given" "InvalidText" := ⟨err_ok x0, okH_given PySem.F.store_ValueError FXInvalidText, ini_binds (.inl rfl) FXInvalidText, gInvalidText⟩
  have GRead := ok_readX (P := P) (w := w) (mg := mg) (base := base) FRd B E1 gRowIn GRowIn FRowIn.kp nRowIn GIX nI GStr nMStr gInvalidUnknowns gInvalidRows (of_decide_eq_true x6) (of_decide_eq_true x7) EInvalidText EH
  have TS : SlipF K mg (exA K "BadValue") (exA K "BadName") (exA K "NoAnswer") (exA K "InvalidText") := ⟨gBadValue, gBadName, gNoAnswer, gInvalidText, (fr 46 rfl), (fr 62 rfl), (fr 63 rfl), (fr 64 rfl), (fr 51 rfl), (fr 56 rfl)⟩
  have E2 : One05 K (exA K "BadValue") (exA K "BadName") (exA K "NoAnswer") (exA K "InvalidText") := ⟨of_decide_eq_true x4, sl_ok x0 x3, of_decide_eq_true x5⟩
  have GLawSlip := ok_slip (P := P) (w := w) (mg := mg) (base := base) FLawSlip TS
  have GLawIsInt := ok_intIn (P := P) (w := w) (mg := mg) (base := base) FLawIsInt B
  have GLawIsName := ok_lawName (P := P) (w := w) (mg := mg) (base := base) FLawIsName B
  have GLawIsStretch := ok_strAny (P := P) (w := w) (mg := mg) (base := base) FLawIsStretch B gLawIsInt GLawIsInt FLawIsInt.kp nLawIsInt
  have GLawFolkSlip := ok_folkSlip (P := P) (w := w) (mg := mg) (base := base) FLawFolkSlip B Bx.rng gLawIsName GLawIsName FLawIsName.kp nLawIsName
  have GLawLinesSlip := ok_linesSlip (P := P) (w := w) (mg := mg) (base := base) FLawLinesSlip B Bx.rng gLawIsName GLawIsName FLawIsName.kp nLawIsName gLawIsStretch GLawIsStretch FLawIsStretch.kp nLawIsStretch
  have GLawWholeIn := ok_whole (P := P) (w := w) (mg := mg) (base := base) FLawWholeIn B
  have GLawSystemIn := ok_sysIn (P := P) (w := w) (mg := mg) (base := base) FLawSystemIn B Bx.rng gLawWholeIn GLawWholeIn FLawWholeIn.kp nLawWholeIn gLawFolkSlip GLawFolkSlip FLawFolkSlip.kp nLawFolkSlip gLawLinesSlip GLawLinesSlip FLawLinesSlip.kp nLawLinesSlip
  have GLawBentWords := ok_bentW (P := P) (w := w) (mg := mg) (base := base) FLawBentWords B gLawFrom GLawFrom FLawFrom.kp nLawFrom gLawDip GLawDip FLawDip.kp nLawDip
  have GLawBent := ok_bent5 (P := P) (w := w) (mg := mg) (base := base) FLawBent B gLawFrom GLawFrom FLawFrom.kp nLawFrom gLawDip GLawDip FLawDip.kp nLawDip gLawBentWords GLawBentWords FLawBentWords.kp nLawBentWords
  have GLawRight := ok_right05 (P := P) (w := w) (mg := mg) (base := base) FLawRight B Bx.rng Bx.rep (fr 57 rfl) E1 S gS gLawCase GLawCase FLawCase.kp nLawCase gLawPage GLawPage FLawPage.kp nLawPage gLawDip GLawDip FLawDip.kp nLawDip gLawFrom GLawFrom FLawFrom.kp nLawFrom gLawBent GLawBent FLawBent.kp nLawBent gLawSystemIn GLawSystemIn FLawSystemIn.kp nLawSystemIn crR cmR GRead nRd kRd GEq nMEq GStr nMStr GU nU GR nR FLawCaught gLawCaught nLawCaught TS gLawSlip GLawSlip FLawSlip.kp nLawSlip E2 TB
  exact ok_lawT (by decide) FLaw gLawRight GLawRight FLawRight.kp nLawRight gLawUrn GLawUrn FLawUrn.kp nLawUrn (fr 52 rfl) (fr 54 rfl) (fr 58 rfl) (fr 59 rfl) (fr 51 rfl)
end
end Ca
open PySem PySem.W PySem.Calls PyProof.Rows
theorem PySem.Challenge.cw_commonanswer_k05_whole_texts_bent_holds : PySem.Challenge.rw_commonanswer_k05_whole_texts_bent.Holds := by
  w_on; o_law
  refine HandSHeadRun.head_any (r := Ca.rowk05) (q := view Ca.rowk05.prog [49]) (H := Ca.hkk05) (ob := Ca.obk05) (M := 14000) (loose := Ca.namesk05) (d := HandSHeadRun.topDef Ca.rowk05.prog 49) (kwd := []) Ca.obk05_eq
    (by kernel_rfl) (fun s => by kernel_rfl) Ca.runk05 (by kernel_rfl) (by kernel_rfl) (by kernel_rfl) (by rfl) (by first | assumption | decide +kernel) (by decide +kernel) ⟨rfl, rfl, rfl, rfl, rfl, by decide +kernel⟩ ?hw ?hc
  case hw => w_witness2
  case hc =>
    refine Att.attach_call (l := PySem.Challenge.rw_commonanswer_k05_whole_texts_bent) (n := 63) rfl (by kernel_rfl) fun w s₀ s₁ mg mb fa o pm cd doc a vs ns G Y ho hd hcd hmg hobj hints hlen hg => ?_
    obtain ⟨K, KX, c⟩ := Y
    have hmg' : mg ("law" : PySem.Str) = some (.ref fa) := by
      rw [← show (HandSHeadRun.topDef Ca.rowk05.prog 49).name = ("law" : PySem.Str) by kernel_rfl]
      exact hmg
    obtain ⟨fd, hb, hF⟩ := Ca.factsk05 (P := (PySem.Challenge.rw_commonanswer_k05_whole_texts_bent).prog) (w := w) KX G.T.g hmg' c
    have tt := c.t
    have mem : ∀ {p : Addr × Addr}, p ∈ [(Ca.codeA K (He.ga K "_law_right"), (He.cT K ("_law_right", none)).2)] → p = (Ca.codeA K (He.ga K "_law_right"), (He.cT K ("_law_right", none)).2) := fun hp => List.mem_singleton.mp hp
    have tm : (("_law_right", none) : He.Defn) ∈ Ca.tfk05 := List.mem_singleton.mpr rfl
    exact Ca.lawGT (k := 11) (cs := [(Ca.codeA K (He.ga K "_law_right"), (He.cT K ("_law_right", none)).2)]) KX G.T.g G.T.b G.T.builtins G.T.nolimit hg
      (fun p hp => by rw [mem hp]; exact tt.empty _ tm) (fun p hp => by rw [mem hp]; exact tt.out _ tm) (fun p hp => by rw [mem hp]; exact tt.hd _ tm) G.T.bmain hobj hints (Nat.le_trans hlen (by decide)) ⟨rfl, by decide, by decide⟩
      (fun base _ _ TB => hF base _ (TB _ (List.mem_singleton.mpr rfl))) hb (fun H hB hS => ⟨a, ns, rfl, hS, fun p hp => by
        rw [List.mem_singleton.mp hp]
        exact LamX.TabS.nil (hB _ (List.mem_singleton.mpr rfl)), fun _ => rfl⟩)
