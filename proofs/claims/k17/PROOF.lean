import PyProof.Rows.All
import Wide.All
import OpenK.AllK
import Wide.FinOn
import HandS.Base
import HandS.Call
import HandS.List
import HandS.Comp
import HandS.Ends
import HandS.Words
import HandS.WordsList
import HandS.Defaults
import HandS.HeadEnd
import HandS.Dict
import PyProof.ReprRoads
import HandS.OwnEq
import HandS.IsInst
import PyProof.InstNe
import KE.KCallOwn
import HandS.Iter
import KE.GoesEnum
import HandS.ForMost
import HandS.Star
import HandS.Walk
import PySem.Challenge.RW_commonanswer_k17_whole_members_drawn
import HandS.TupAny
import HandS.Property
import PyProof.Rows.RegStrFacts
import KE.KRevSl
import HandS.Style
import PyProof.Rows.RegFStrParts
import PyProof.Rows.ReprOcc
import HandS.MakeKw
import HandS.Zip
import HandS.Head0
import HandS.Head1
import HandS.Head2
import HandS.HeadHook1
import HandS.HeadHook2
import HandS.Head3
import HandS.Zip0
import HandS.Gcd
import HandS.Wide
set_option Elab.async false
set_option linter.all false
set_option maxRecDepth 100000
set_option maxHeartbeats 4000000
namespace Ca
open PySem L2
/-! ### a mid-condition at a statement, an expression, a test -/
def cutS (t : TS) : TS := fun D σ H => ∃ P : St → Hp → Prop, t { D with nx := P } σ H ∧ ∀ σ' H', P σ' H' → D.nx σ' H'
def cutE (t : TE) : TE := fun σ H Q => ∃ P : VK, t σ H P ∧ ∀ v H', P v H' → Q v H'
def cutT (t : TT) : TT := fun σ H Q => ∃ P : Bool → Hp → Prop, t σ H P ∧ ∀ b H', P b H' → Q b H'
theorem sp_mono {X : Cx} {pins : List (Addr × Obj)} {D : Ends} {P : St → Hp → Prop} {f : Flow} {s : Shared} (h : SP X pins { D with nx := P } f s) (k : ∀ σ' H', P σ' H' → D.nx σ' H') : SP X pins D f s := by
  cases f with
  | next => obtain ⟨σ', H', I, q⟩ := h; exact ⟨σ', H', I, k _ _ q⟩
  | brk => exact h
  | cont => exact h
  | ret u => exact h
theorem ps_cut {X : Cx} {st : Stmt} {t : TS} (h : PS X st t) : PS X st (cutS t) := ⟨fun pins s σ H D I q => by
  obtain ⟨P, q1, q2⟩ := q
  exact thn (h.run pins s σ H _ I q1) fun f s' z => sp_mono z q2⟩
theorem pss_cut {X : Cx} {st : List Stmt} {t : TS} (h : PSs X st t) : PSs X st (cutS t) := ⟨fun pins s σ H D I q => by
  obtain ⟨P, q1, q2⟩ := q
  exact thn (h.run pins s σ H _ I q1) fun f s' z => sp_mono z q2⟩
theorem pe_cut {X : Cx} {e : Expr} {t : TE} (h : PE X e t) : PE X e (cutE t) := ⟨fun pins s σ H Q I q => by
  obtain ⟨P, q1, q2⟩ := q
  exact thn (h.run pins s σ H _ I q1) fun u s' ⟨v, H', I', r, z⟩ => ⟨v, H', I', r, q2 _ _ z⟩⟩
theorem pt_cut {X : Cx} {e : Expr} {t : TT} (h : PT X e t) : PT X e (cutT t) := ⟨fun pins s σ H Q I q => by
  obtain ⟨P, q1, q2⟩ := q
  exact thn (h.run pins s σ H _ I q1) fun b s' ⟨H', I', z⟩ => ⟨H', I', q2 _ _ z⟩⟩

/-! ### heaps -/
/-- an urn stands at l -/
def Urn (H : Hp) (l : Addr) : Prop := ∃ g x n : Int, 0 ≤ g ∧ 0 ≤ x ∧ x < 2147483563 ∧ H l = some (.lst [.int g, .int x, .int n])
/-- all that was tracked, but what stands at l, is as it was -/
def Kept (l : Addr) (H H' : Hp) : Prop := ∀ b o, b ≠ l → H b = some o → H' b = some o
theorem Kept.refl (l : Addr) (H : Hp) : Kept l H H := fun _ _ _ h => h
theorem Kept.trans {l : Addr} {H H1 H2 : Hp} (a : Kept l H H1) (b : Kept l H1 H2) : Kept l H H2 := fun c o n h => b c o n (a c o n h)
theorem _root_.L2.Same.kept {l : Addr} {H H' : Hp} (a : Same H H') : Kept l H H' := fun c o _ h => a c o h
theorem Kept.upd {l : Addr} {H : Hp} {o : HO} : Kept l H (L2.upd H l o) := fun b u n h => by rw [upd_ne n]; exact h
theorem Kept.new {l p : Addr} {H : Hp} {o : HO} (h : H p = none) : Kept l H (L2.upd H p o) := fun b u _ e => by rw [upd_ne (ne_of_none e h)]; exact e
theorem _root_.L2.Same.new {p : Addr} {H : Hp} {o : HO} (h : H p = none) : Same H (L2.upd H p o) := fun b u e => by rw [upd_ne (ne_of_none e h)]; exact e
theorem Urn.same {H H' : Hp} {l : Addr} (u : Urn H l) (s : Same H H') : Urn H' l := by
  obtain ⟨g, x, n, h1, h2, h3, h⟩ := u
  exact ⟨g, x, n, h1, h2, h3, s _ _ h⟩
theorem Urn.some {H : Hp} {l : Addr} (u : Urn H l) : ∃ o, H l = some o := by
  obtain ⟨g, x, n, h1, h2, h3, h⟩ := u
  exact ⟨_, h⟩
/-- what is new stands apart from what stood, also behind changes at l -/
theorem Kept.free {l b : Addr} {H H' : Hp} (k : Kept l H H') (n : b ≠ l) (h : H' b = none) : H b = none := by
  cases q : H b with
  | none => rfl
  | some o => rw [k b o n q] at h; cases h

/-- the built-in names are still their own -/
structure Bi (mg : Str → Option Value) : Prop where
  len : mg "len" = none
  int : mg "int" = none
  abs : mg "abs" = none
  divmod : mg "divmod" = none

def spUrn (K : PySem.W.Frag) : Sp := fun vs H Q _ => ∃ (a : Addr) (ns : List Int) (k : Nat), vs = [.ref a, .int k] ∧ SqL K H a (ns.map V.int) ∧
  ∀ H' l, H l = none → Same H H' → Urn H' l → Q (.ref l) H'
def spDip : Sp := fun vs H Q _ => ∃ (l : Addr) (t : Int), vs = [.ref l, .int t] ∧ Urn H l ∧ 0 < t ∧ t < 1073741824 ∧
  ∀ H' r, Kept l H H' → Urn H' l → 0 ≤ r → r < t → Q (.int r) H'
def spFrom (K : PySem.W.Frag) : Sp := fun vs H Q _ => ∃ (l a : Addr) (xs : List V), vs = [.ref l, .ref a] ∧ Urn H l ∧ H a = some (.lst xs) ∧ a ≠ l ∧ 0 < xs.length ∧ xs.length < 1000 ∧
  ∀ H' (i : Nat) v, xs[i]? = some v → Kept l H H' → Urn H' l → Q v H'

theorem map_int_get {ns : List Int} {i : Nat} {y : V} (hi : (ns.map V.int)[i]? = some y) : ∃ z, y = V.int z := by
  rw [List.getElem?_map] at hi
  cases e : ns[i]? with
  | none => rw [e] at hi; cases hi
  | some z => rw [e] at hi; exact ⟨z, (Option.some.inj hi).symm⟩
theorem cut_int_get {ns : List Int} {lo hi : Option Int} {i : Nat} {y : V} (h : (cutV (ns.map V.int) lo hi)[i]? = some y) : ∃ z, y = V.int z := by
  have m := List.mem_of_getElem? h
  unfold cutV at m
  have m2 := List.mem_of_mem_drop (List.mem_of_mem_take m)
  obtain ⟨z, _, e⟩ := List.mem_map.mp m2
  exact ⟨z, e.symm⟩
end Ca
set_option Elab.async false
set_option linter.all false
set_option maxRecDepth 100000
set_option maxHeartbeats 4000000
namespace Ca
open PySem PySem.Spec PyProof.Rows L2
/-! ### defs that ask repr: called where no repr is under way -/
structure FnG (P : Program) (w : World) (K : PySem.W.Frag) (mg : Str → Option Value) (base : Heap) (k : Nat) (f : Addr) (fd : FuncData) (ps : List Str) (sp : Sp) : Prop where
  len : ∀ vs H Q E, sp vs H Q E → vs.length = ps.length
  run : ∀ (A : Around) (outer : List Env) (s : Shared) (H : Hp) (args : Args) (us : List Value) (vs : List V) (Q : VK), A.guards = some [] → Room k A → Env0 P w K mg base A outer s H → BindsTo s fd args (ps.zip us) → Vals vs us → sp vs H Q E0 →
    codeAny (model P w) A (.call (.ref f) args) (CR CX0 outer P w H s Q E0) s
theorem guards_deeper {A : Around} (h : A.guards = some []) (env : Env) : (A.deeper env).guards = some [] := by
  first | exact h | (simp [Around.deeper, h]; done)
/-- a def by its body: the body may ask that no repr is under way -/
theorem fnG_of {P : Program} {w : World} {K : PySem.W.Frag} {mg : Str → Option Value} {base : Heap} {k : Nat} {f : Addr} {x qual : Str} {params : Arguments} {body : List Stmt} {scope : Scope} {dvs : List V} {kws : List (Str × V)} {fd : FuncData} {N ps : List Str} {sp : Sp}
    (F : FunD K x qual params body scope dvs kws f fd) (S : FnScope N ps scope) (len : ∀ vs H Q E, sp vs H Q E → vs.length = ps.length)
    (hbody : ∀ (cdv : Value) (A : Around) (outer : List Env) (s : Shared) (H : Hp) (vs : List V) (Q : VK), (A.deeper (envOfC qual scope s.heap.objs.size f cdv)).guards = some [] → Room k (A.deeper (envOfC qual scope s.heap.objs.size f cdv)) → sp vs H Q E0 →
      ∃ t, PSs (cxOf CX0 P w K mg base N qual scope f cdv A outer s H E0) body t ∧ t { nx := fun _ H' => Q .non H', rt := Q } (start N vs) H) :
    FnG P w K mg base (k + 1) f fd ps sp := by
  obtain ⟨oc, od, dV, kV, doc, pm, an, cdv, ct, osl, rfl, lk, hcd, _, _⟩ := F.ex
  constructor
  · exact len
  · intro A outer s H args us vs Q hgd hr e0 hb r hsp
    have hl := len _ _ _ _ hsp
    have stays : ∀ b o, base.get? b = some o → s.heap.get? b = some o := fun b o e => (e0.bs b o e).1
    have KX : K.In s.heap := e0.mod.kin.keeps stays
    have kinds : ∀ y ∈ ps.zip us, scope.names.lookup y.1 = some .local ∨ (scope.names.lookup y.1 = some .cell ∧ ((cellsFrom (s.heap.objs.size + 1) scope.names []).lookup y.1).isSome = true) := by
      intro y hy
      obtain ⟨n, v⟩ := y
      cases S.par n (List.of_mem_zip hy).1 with
      | inl q => exact .inl q
      | inr q => exact .inr ⟨q, PySem.W.cellsFrom_some _ _ _ (.inl q)⟩
    refine codeAny_call_function hr.depth (KX _ _ lk) rfl S.co S.gen rfl (PySem.W.codeRec_of KX hcd) (hb _ _ _ _ ?_)
    refine wpAny_newFunctionEnv_cells S.kind kinds fun env he s1 x => ?_
    subst he
    refine ⟨(e0.mod.nolimit.keeps stays).keeps x.toInCall.keep, codeAny_func ?_⟩
    obtain ⟨t, ht, hq⟩ := hbody cdv A outer s H vs Q (guards_deeper hgd _) (hr.deeper _) hsp
    have I : Inv (cxOf CX0 P w K mg base N qual scope f cdv A outer s H E0) [] (start N vs) H s1 := inv_start S hr.hd e0 hl r x
    refine wpAny_mono (ht.run [] s1 (start N vs) H _ I hq) (fun fl s' hs => ?_) fun e s' hs => hs
    cases fl with
    | ret u =>
      obtain ⟨v, σ', H', J, rv, q⟩ := hs
      exact ⟨v, H', J.os, J.bare, J.base, J.hok, rv, q⟩
    | next =>
      obtain ⟨σ', H', J, q⟩ := hs
      exact ⟨.non, H', J.os, J.bare, J.base, J.hok, rfl, q⟩
    | brk => exact hs.elim fun _ z => z.elim fun _ y => y.2.elim
    | cont => exact hs.elim fun _ z => z.elim fun _ y => y.2.elim
section
variable {X : Cx} {k : Nat} {f : Addr} {fd : FuncData} {ps : List Str} {sp : Sp} {x : Str} {p pos : Pos} {e : Expr} {es : List Expr} {t : TA}
/-- a call of such a def -/
theorem pe_callG (F : FnG X.prog X.w X.K X.mg X.base k f fd ps sp) (hgd : X.A.guards = some []) (hr : Room k X.A) (hm : X.mg x = some (.ref f)) (hk : PySem.W.keepIn X.K (.ref f) = true) (hb : Binds X.K fd ps [])
    (ha : PA X (e :: es) t) (hg : Gl X x := by rfl) (hdb : (x == ("__debug__" : Str)) = false := by decide) (he : starEach (e :: es) X.env = (false, eval e X.env) :: starEach es X.env := by rfl) (hpl : (backTo pos (starEach es X.env)).any (·.1) = false := by rfl) :
    PE X (.Call (.Name x p) (e :: es) [] pos) (tCall sp [] E0 t) := by
  refine ⟨fun pins s σ H Q I h => ?_⟩
  refine wpAny_Call_Name_kw (ld_glob I hg hm ?_ hdb)
  refine PySem.W.callWith_K (h₀ := X.base) I.ok.mod.kin hk (thn (ha.run pos pins s σ H _ I h) fun us s1 z => ?_) he hpl
  obtain ⟨vs, H1, I1, r, q⟩ := z
  rw [List.append_nil] at q
  refine ⟨I1.kIn, ?_⟩
  have hl : us.length = ps.length := by
    rw [← r.length]
    exact F.len _ _ _ _ q
  have bd := hb s1 us I1.kIn (by rw [List.append_nil]; exact hl)
  rw [List.append_nil] at bd
  show wpAny _ _ (call (.ref f) us) _ _ _
  refine wpAny_call (codeAny_mono (F.run X.A X.stack s1 H1 ⟨us, []⟩ us vs Q hgd hr I1.env0 bd r q) fun res s' z => ?_)
  cases res with
  | error er => exact z.elim
  | ok fl =>
    cases fl with
    | ret u => exact I1.after z
    | next => exact z.elim
    | brk => exact z.elim
    | cont => exact z.elim
end
/-- the law's own call, where such a def is the law -/
theorem lawG {P : Program} {w : World} {K : PySem.W.Frag} {mg mb : Str → Option Value} {k : Nat} {fa a : Addr} {fd : FuncData} {x : Str} {sp : Sp} {s₁ : Shared} {vs : List Value} {ns : List Int}
    (KX : K.In s₁.heap) (hns : s₁.heap.Ns mainGlobals mg) (hb : s₁.heap.Ns builtinsNs mb) (hbb : ∀ x : Str, x ≠ "__name__" → mb x = bootBuiltins x) (hlim : s₁.heap.NoLimit) (hg : s₁.gens = #[])
    (ha : s₁.heap.get? a = some { cls := .type "list", data := .seq vs.toArray }) (hi : IntsAre vs ns) (hl : ns.length ≤ sizeLine) (hr : Room k callerA)
    (F : ∀ base : Heap, K.In base → base.Ns mainGlobals mg → FnG P w K mg base k fa fd [x] sp) (hbind : ∀ (s : Shared) (u : Value), BindsTo s fd ⟨[u], []⟩ [(x, u)])
    (hsp : ∀ H : Hp, SqL K H a (ns.map V.int) → sp [.ref a] H (fun v _ => v = .bl true) E0) :
    codeAny (model P w) callerA (.call (.ref fa) ⟨[.ref a], []⟩) (fun r s' => r = .ok (.ret (.bool true)) ∧ OldK s₁.heap s'.heap ∧ s'.os = s₁.os ∧ AllBare s'.gens) s₁ := by
  have rv := vals_ints hi
  -- whatever is tracked at first: nothing, or the script alone
  have go : ∀ H : Hp, (∀ b u, H b = some u → b = a ∧ u = .frz { cls := .type "list", data := .seq vs.toArray } (.lst (ns.map V.int)) ∧ K.lookup a = none) → SqL K H a (ns.map V.int) →
      codeAny (model P w) callerA (.call (.ref fa) ⟨[.ref a], []⟩) (fun r s' => r = .ok (.ret (.bool true)) ∧ OldK s₁.heap s'.heap ∧ s'.os = s₁.os ∧ AllBare s'.gens) s₁ := by
    intro H hH hS
    have hok : HOk P w H s₁.heap := fun b u z => by
      obtain ⟨rfl, rfl, _⟩ := hH b u z
      exact ⟨ha, by rw [List.length_map]; exact hl, vs, _, rv, ha⟩
    have free : ∀ {b : Addr} {o : Obj}, s₁.heap.get? b = some o → (∀ es ep, o.data ≠ .dict es ep → False) → H b = none := fun {b o} e d => by
      cases q : H b with
      | none => rfl
      | some u =>
        obtain ⟨rfl, _, _⟩ := hH b u q
        rw [ha] at e
        cases e
        exact (d #[] 0 (fun z => nomatch z)).elim
    have dictFree : ∀ {b : Addr} {m : Str → Option Value}, s₁.heap.Ns b m → (hidT s₁.heap H).Ns b m := fun {b m} z => by
      obtain ⟨o, es, ep, e, dd, r⟩ := z
      have n : H b = none := by
        cases q : H b with
        | none => rfl
        | some u =>
          obtain ⟨rfl, _, _⟩ := hH b u q
          rw [ha] at e
          cases e
          cases dd
      exact ⟨o, es, ep, hidT_get e n, dd, r⟩
    have hKb : K.In (hidT s₁.heap H) := fun b o e => hidT_get (KX b o e) (by
      cases q : H b with
      | none => rfl
      | some u =>
        obtain ⟨rfl, _, z⟩ := hH b u q
        rw [z] at e
        cases e)
    obtain ⟨mc, l1, l2⟩ := hlim
    have md : Mod K mg (hidT s₁.heap H) := { kin := hKb, glob := dictFree hns, blt := ⟨mb, dictFree hb, hbb⟩, nolimit := ⟨mc, dictFree l1, l2⟩ }
    have none' : ∀ b : Addr, b ∉ frs [] := fun b z => nomatch z
    have e0 : Env0 P w K mg (hidT s₁.heap H) callerA [] s₁ H :=
      { frames := rfl, mod := md, bs := fun b o e => of_hidT e, bsz := Nat.le_of_eq (hidT_size _ _), funs := trivial, frf := fun b z => (none' b z).elim, hok := hok, bare := .of_eq hg }
    have run := (F _ hKb (dictFree hns)).run callerA [] s₁ H ⟨[.ref a], []⟩ [.ref a] [.ref a] (fun v _ => v = .bl true) rfl hr e0 (hbind s₁ (.ref a)) (.cons rfl .nil) (hsp H hS)
    refine codeAny_mono run fun r s' z => ?_
    cases r with
    | error e => exact z.elim
    | ok fl =>
      cases fl with
      | next => exact z.elim
      | brk => exact z.elim
      | cont => exact z.elim
      | ret u =>
        obtain ⟨v, H', os, bare, un, hok', r', q⟩ := z
        obtain rfl : v = .bl true := q
        obtain rfl : u = Value.bool true := r'
        refine ⟨rfl, OldK.of_keep fun b o e => ?_, os, bare⟩
        cases q : H b with
        | none => exact un.keep b o e q (none' b) (by simp)
        | some y =>
          obtain ⟨rfl, rfl, _⟩ := hH b y q
          rw [ha] at e
          cases e
          exact (hok' b _ (un.frzs b _ _ q)).1
  cases hk : K.lookup a with
  | some o =>
    have e := KX a o hk
    rw [ha] at e
    cases e
    exact go (fun _ => none) (fun b u z => nomatch z) (.inr ⟨_, vs.toArray, _, hk, rfl, rfl, rfl, by rw [List.size_toArray, ← hi.length] at *; first | exact hl | omega, by simpa using rv⟩)
  | none =>
    refine go (fun b => if b = a then some (.frz { cls := .type "list", data := .seq vs.toArray } (.lst (ns.map V.int))) else none) (fun b u z => ?_) (.inl (.inr ⟨{ cls := .type "list", data := .seq vs.toArray }, if_pos rfl⟩))
    by_cases hb' : b = a
    · subst hb'
      have z' : some _ = some u := (if_pos rfl).symm.trans z
      exact ⟨rfl, (Option.some.inj z').symm, hk⟩
    · have z' : none = some u := (if_neg hb').symm.trans z
      cases z'
end Ca
set_option Elab.async false
set_option linter.all false
set_option maxRecDepth 100000
set_option maxHeartbeats 4000000
namespace Ca
open PySem PySem.Spec PyProof.Rows L2
/-- a key as data -/
def kd : Key → PyData
  | .inl i => .int i
  | .inr x => .str x
/-- a value whose repr is known: data without dicts, or a dict of such -/
inductive Rp (K : PySem.W.Frag) (H : Hp) : V → PyData → Prop
  | dat {v : V} {d : PyData} : Dp K H v d → SeqAt.shaped d = true → Rp K H v d
  | dic {p : Addr} {kvs : List (Key × V)} {ds : List PyData} : H p = some (.dK kvs) → DpAll K H (kvs.map (·.2)) ds → PyData.hasDictAll ds = false → Rp K H (.ref p) (.dict ((kvs.map fun kv => kd kv.1).zip ds))
def rRepr (K : PySem.W.Frag) : List V → Hp → VK → Prop := fun xs H Q => ∃ v d, xs = [v] ∧ Rp K H v d ∧ d.showable = true ∧ d.depth ≤ 64 ∧ d.shown.length ≤ sizeLine ∧ Q (.str d.shown) H
theorem dpAll_len {K : PySem.W.Frag} {H : Hp} : ∀ {vs : List V} {ds : List PyData}, DpAll K H vs ds → vs.length = ds.length
  | _, _, .nil => rfl
  | _, _, .cons _ t => congrArg Nat.succ (dpAll_len t)
section
variable {X : Cx} {pins : List (Addr × Obj)} {σ : L2.St} {H : Hp} {s : Shared}
/-- the keys and the values of a dict as they stand -/
theorem pairs_read {P : Program} {w : World} {h : Heap} : ∀ {es : List DictEntry} {ws : List (Key × Value)}, PySem.Pairs (mixKind P w) es ws →
    (∃ as, ReadsAll h (es.map (·.key)) (ws.map fun kv => kd kv.1) as) ∧ es.map (·.val) = ws.map (·.2)
  | _, _, .nil => ⟨⟨[], .nil⟩, rfl⟩
  | _, _, .cons (e := e) (kv := kv) hk hv t => by
    obtain ⟨⟨as, r⟩, q⟩ := pairs_read (h := h) t
    refine ⟨?_, by rw [List.map_cons, List.map_cons, q, hv]⟩
    obtain ⟨k, v⟩ := kv
    rcases keyIs_shape (show keyIs k e.key = true from hk) with ⟨i, t', ek, ev⟩ | ⟨x, t', ek, ev⟩
    · subst ek
      refine ⟨[] ++ as, ReadsAll.cons (as := []) ?_ r⟩
      show Reads h e.key (.int i) []
      rw [ev]
      exact Reads.int i t'
    · subst ek
      refine ⟨[] ++ as, ReadsAll.cons (as := []) ?_ r⟩
      show Reads h e.key (.str x) []
      rw [ev]
      exact Reads.str x t'
theorem kv_vals : ∀ {kvs : List (Key × V)} {ws : List (Key × Value)}, KV kvs ws → Vals (kvs.map (·.2)) (ws.map (·.2)) ∧ (kvs.map fun kv => kd kv.1) = ws.map fun kv => kd kv.1
  | _, _, .nil => ⟨.nil, rfl⟩
  | _, _, .cons r t => by
    obtain ⟨h1, h2⟩ := kv_vals t
    exact ⟨.cons r.2 h1, by rw [List.map_cons, List.map_cons, h2, r.1]⟩
theorem keys_plain : ∀ ws : List (Key × Value), PyData.hasDictAll (ws.map fun kv => kd kv.1) = false
  | [] => by simp only [List.map_nil, PyData.hasDictAll]
  | (.inl i, v) :: l => by
    show PyData.hasDictAll (.int i :: l.map fun kv => kd kv.1) = false
    simp only [PyData.hasDictAll, PyData.hasDict, Bool.false_or]
    exact keys_plain l
  | (.inr x, v) :: l => by
    show PyData.hasDictAll (.str x :: l.map fun kv => kd kv.1) = false
    simp only [PyData.hasDictAll, PyData.hasDict, Bool.false_or]
    exact keys_plain l
theorem call_repr (hgd : X.A.guards = some []) (hu : X.A.units + 200 < cLine) : CallR X (.builtin "repr") (rRepr X.K) := by
  intro pins s σ H xs us Q I r h
  obtain ⟨v, d, rfl, rp, sh, dp, sz, q⟩ := h
  cases r with
  | @cons _ u _ _ ru rr =>
    cases rr
    cases rp with
    | dat D sd =>
      obtain ⟨as, R⟩ := Dp.reads I d v u D ru
      have nd : d.hasDict = false := PyData.hasDict_of_canLay d (SeqAt.canLay_of_shaped sd)
      have fin : ∀ h' z tk, (∀ b o, s.heap.get? b = some o → h'.get? b = some o) → EP X pins σ Q (.str d.shown z) { s with heap := h', toks := tk } := fun h' z tk kp => ⟨.str d.shown, H, I.kept (t' := tk) kp, ⟨z, rfl⟩, q⟩
      cases R with
      | none => exact P.repr_of_none (by simpa only [PyData.shown] using fin s.heap s.toks _ (fun _ _ e => e))
      | bool b => exact P.repr_of_bool (by simpa only [PyData.shown] using fin s.heap s.toks _ (fun _ _ e => e))
      | int i t => exact P.repr_of_int (by simpa only [PyData.showable, decide_eq_true_eq] using sh) (by simpa only [PyData.shown] using fin s.heap s.toks _ (fun _ _ e => e))
      | str x t => exact P.repr_of_str (by simpa only [PyData.shown] using fin s.heap s.toks _ (fun _ _ e => e)) (by simpa only [PyData.shown] using sz)
      | list h1 h2 h3 h4 => exact repr_of_reads' (.list h1 h2 h3 h4) sh (PyData.noDict_hsm nd) hgd (by omega) (fun _ _ e => e) fin sz
      | tuple h1 h2 h3 h4 => exact repr_of_reads' (.tuple h1 h2 h3 h4) sh (PyData.noDict_hsm nd) hgd (by omega) (fun _ _ e => e) fin sz
      | dict h1 h2 h3 h4 h5 => exact repr_of_reads' (.dict h1 h2 h3 h4 h5) sh (PyData.noDict_hsm nd) hgd (by omega) (fun _ _ e => e) fin sz
    | @dic p kvs ds hp D nd =>
      obtain rfl : u = Value.ref p := ru
      obtain ⟨_, sys, ws, rel, o, es, ep, ho, hx, hd, _, ps, _⟩ := dk_of I.hok hp
      obtain ⟨rv, ek⟩ := kv_vals rel
      obtain ⟨⟨as, rk⟩, evs⟩ := pairs_read (h := s.heap) ps
      obtain ⟨bs, rvs⟩ := Dp.readsAll I ds _ _ D rv
      rw [← evs] at rvs
      have lz : (kvs.map fun kv => kd kv.1).length = ds.length := by
        rw [List.length_map, ← dpAll_len D, List.length_map]
      have z1 : ((kvs.map fun kv => kd kv.1).zip ds).map (·.1) = ws.map fun kv => kd kv.1 := by
        rw [← ek]
        exact List.map_fst_zip (Nat.le_of_eq lz)
      have z2 : ((kvs.map fun kv => kd kv.1).zip ds).map (·.2) = ds := List.map_snd_zip (Nat.le_of_eq lz.symm)
      have R : Reads s.heap (.ref p) (.dict ((kvs.map fun kv => kd kv.1).zip ds)) _ := Reads.dict ho hx.1 hd (by rw [z1]; exact rk) (by rw [z2]; exact rvs)
      generalize (kvs.map fun kv => kd kv.1).zip ds = kk at R z1 z2 sh dp sz q
      have hz' : (dictText (PyData.shownKv kk)).length ≤ sizeLine := by simpa only [PyData.shown] using sz
      obtain ⟨hs1, hs2⟩ := PyData.showableKv_split kk (by simpa only [PyData.showable] using sh)
      have nk : PyData.hasDictAll (kk.map (·.1)) = false := by
        rw [z1]
        exact keys_plain ws
      obtain ⟨b1, hb1, k1⟩ := ReprAllK.of_readsAll (prog := X.prog) (w := X.w) (by rw [z1]; exact rk : ReadsAll s.heap (es.toList.map (·.key)) (kk.map (·.1)) as) hs1 (fun y => by rw [nk] at y; cases y)
        (fun t ht => let ⟨e, he, hl⟩ := PyData.shownKv_key_le kk t ht; Nat.le_trans hl (Nat.le_trans (dictText_mem_le he) hz'))
      obtain ⟨b2, hb2, k2⟩ := ReprAllK.of_readsAll (prog := X.prog) (w := X.w) (by rw [z2]; exact rvs : ReadsAll s.heap (es.toList.map (·.val)) (kk.map (·.2)) bs) hs2 (fun y => by rw [z2, nd] at y; cases y)
        (fun t ht => let ⟨e, he, hl⟩ := PyData.shownKv_val_le kk t ht; Nat.le_trans hl (Nat.le_trans (dictText_mem_le he) hz'))
      have hb : ReadAtMost s.heap (PyData.depthKv kk) (b1 ++ b2) := (hb1.mono (PyData.depthAll_keys_le kk)).append (hb2.mono (PyData.depthAll_vals_le kk))
      have hna : p ∉ b1 ++ b2 := not_mem_of_deeper R (by simp only [PyData.depth]; omega) hb
      have dp' : PyData.depthKv kk + 1 ≤ 64 := by simpa only [PyData.depth] using dp
      have ent := ReprEntriesK.of_two es.toList _ _ (k1.more_le (fun b hb => List.mem_append_left _ hb) (PyData.depthAll_keys_le kk)) (k2.more_le (fun b hb => List.mem_append_right _ hb) (PyData.depthAll_vals_le kk))
      refine call_repr_slot (by omega) ⟨o, ho, hx.1⟩ F.slot_dict_repr ?_
      refine call_dict_reprK ho hx.1 hd sys hna ent hgd (fun b _ => Clear.nil b) (by show X.A.units + 1 + (PyData.depthKv kk + 1) < cLine; omega) (fun _ _ e => e) (fun h' z tk kp => ⟨_, _, rfl, ?_⟩) (by rw [← PyData.shownKv_eq]; exact hz')
      refine ⟨.str (PyData.dict kk).shown, H, I.kept (t' := tk) kp, ⟨z, ?_⟩, q⟩
      simp only [PyData.shown, PyData.shownKv_eq]
end
end Ca
set_option Elab.async false
set_option linter.all false
set_option maxRecDepth 100000
set_option maxHeartbeats 4000000
namespace Ca
open PySem PySem.Spec PyProof.Rows L2
/-! ### a < b < c < d -/
def tChain3 (r r' r'' : R2) (ta tb tc td : TE) : TE := fun σ H Q => ta σ H fun x H1 => tb σ H1 fun y H2 => r x y H2 fun z G3 => ∃ k, z = .bl k ∧
  (if k = true then tc σ G3 fun w' H4 => r' y w' H4 fun z' H5 => ∃ k', z' = .bl k' ∧ (if k' = true then td σ H5 fun x' H6 => r'' w' x' H6 Q else Q (.bl false) H5) else Q (.bl false) G3)
section
variable {X : Cx} {a b c d : Expr} {ta tb tc td : TE} {pos : Pos} {k : Nat} {f C : Addr} {fd : FuncData} {ps : List Str} {sp : Sp} {pins : List (Addr × Obj)} {σ : L2.St} {H : Hp} {s : Shared}
theorem pe_chain3 {op op' op'' : CmpOp} {r r' r'' : R2} (ho : OpR X (compareOp op) r) (ho' : OpR X (compareOp op') r') (ho'' : OpR X (compareOp op'') r'') (ha : PE X a ta) (hb : PE X b tb) (hc : PE X c tc) (hd : PE X d td)
    (hm : lastMarks [op, op', op''] [b, c, d] = false := by with_unfolding_all rfl) : PE X (.Compare a [op, op', op''] [b, c, d] pos) (tChain3 r r' r'' ta tb tc td) := by
  refine ⟨fun pins s σ H Q I h => ?_⟩
  refine Compare_chain (thn (ha.run pins s σ H _ I h) fun v s1 ⟨x, H1, I1, r1, q1⟩ => chain_link (thn (hb.run pins s1 σ H1 _ I1 q1) fun u s2 ⟨y, H2, I2, r2, q2⟩ =>
    thn (ho pins s2 σ H2 x y v u _ I2 r1 r2 q2) fun z0 s3 ⟨z, G3, J3, c3, k, e, w3⟩ => ?_)) hm
  subst e
  cases c3
  refine wpAny_truthy_bool ?_
  cases k with
  | false => exact ite_ff ⟨.bl false, G3, J3, rfl, w3⟩
  | true =>
    refine ite_tt (chain_link (thn (hc.run pins s3 σ G3 _ J3 w3) fun w' s4 ⟨z', H4, I4, r4, q4⟩ => thn (ho' pins s4 σ H4 y z' u w' _ I4 r2 r4 q4) fun z1 s5 ⟨z2, H5, I5, r5, k', e', q5⟩ => ?_))
    subst e'
    cases r5
    refine wpAny_truthy_bool ?_
    cases k' with
    | false => exact ite_ff ⟨.bl false, H5, I5, rfl, q5⟩
    | true => exact ite_tt (chain_last (thn (hd.run pins s5 σ H5 _ I5 q5) fun x' s6 ⟨z3, H6, I6, r6, q6⟩ => ho'' pins s6 σ H6 z' z3 w' x' Q I6 r4 r6 q6))
/-! ### own methods that the language itself calls -/
theorem own_call {A : Around} {us : List Value} {vs : List V} {Q : VK} (sub : Sub X k A) (F : FnOk X.prog X.w X.K X.mg X.base CX0 k f fd ps sp) (hb : Binds X.K fd ps []) (I : Inv X pins σ H s) (r : Vals vs us) (h : sp vs H Q E0) :
    wpAny (model X.prog X.w) A (call (.ref f) us) (EP X pins σ Q) X.xe s := by
  have env0 : Env0 X.prog X.w X.K X.mg X.base A X.stack s H := by
    have e := I.env0
    exact ⟨by rw [sub.fr]; exact e.frames, e.mod, e.bs, e.bsz, e.funs, e.frf, e.hok, e.bare⟩
  have hl : us.length = ps.length := by
    rw [← r.length]
    exact F.len _ _ _ _ h
  have bd := hb s us I.kIn (by rw [List.append_nil]; exact hl)
  rw [List.append_nil] at bd
  refine wpAny_call (codeAny_mono (F.run A X.stack s H ⟨us, []⟩ us vs Q E0 sub.room env0 bd r h) fun res s' z => ?_)
  cases res with
  | error e => exact pass0 pins σ H s e s' I z
  | ok fl =>
    cases fl with
    | ret u => exact I.after z
    | next => exact z.elim
    | brk => exact z.elim
    | cont => exact z.elim
end
/-- a value's type, for a comparison -/
inductive Ty (K : PySem.W.Frag) (H : Hp) : V → Value → Prop where
  | non : Ty K H .non (.type "NoneType")
  | bl (x : Bool) : Ty K H (.bl x) (.type "bool")
  | int (i : Int) : Ty K H (.int i) (.type "int")
  | str (x : Str) : Ty K H (.str x) (.type "str")
  | lst {a : Addr} {xs : List V} (e : SqL K H a xs) : Ty K H (.ref a) (.type "list")
  | tup {a : Addr} {xs : List V} (e : SqT K H a xs) : Ty K H (.ref a) (.type "tuple")
  | dic {a : Addr} {kvs : List (Key × V)} (e : H a = some (.dK kvs)) : Ty K H (.ref a) (.type "dict")
  | ins {a C dx : Addr} {fs : List (Str × V)} (e : H a = some (.ins C dx fs)) : Ty K H (.ref a) (.ref C)
section
variable {X : Cx} {k : Nat} {f C : Addr} {fd : FuncData} {ps : List Str} {sp : Sp} {pins : List (Addr × Obj)} {σ : L2.St} {H : Hp} {s : Shared}
theorem type_at {M : Model} {h : Heap} {a : Addr} {o : Obj} {t : Value} (e : h.get? a = some o) (c : o.cls = t) : PySem.W.Looks M h (typeOf (.ref a)) t := c ▸ (PySem.W.Looks.ld e).andThen .now
theorem ty_of {M : Model} {y : V} {u t : Value} (I : Inv X pins σ H s) (ry : RelV y u) (ty : Ty X.K H y t) : PySem.W.Looks M s.heap (typeOf u) t := by
  cases ty with
  | non => cases (show u = Value.none from ry); exact .of_pure rfl
  | bl b => cases (show u = Value.bool b from ry); exact .of_pure rfl
  | int i => obtain ⟨t, q⟩ := (show ∃ t, u = Value.int i t from ry); cases q; exact .of_pure rfl
  | str x => obtain ⟨t, q⟩ := (show ∃ t, u = Value.str x t from ry); cases q; exact .of_pure rfl
  | @lst a xs e =>
    cases (show u = Value.ref a from ry)
    obtain ⟨its, _, pl, _⟩ := I.list e
    obtain ⟨o, h1, h2, _⟩ := pl.isList
    exact type_at h1 h2
  | @tup a xs e =>
    cases (show u = Value.ref a from ry)
    obtain ⟨its, _, tt, _⟩ := I.tuple e
    obtain ⟨o, h1, h2, _⟩ := tt
    exact type_at h1 h2
  | @dic a kvs e =>
    cases (show u = Value.ref a from ry)
    obtain ⟨_, _, vs, _, o, es, ep, h1, h2, _⟩ := (show ObjOk X.prog X.w H s.heap a (.dK kvs) from I.hok a _ e)
    exact type_at h1 h2.1
  | @ins a C dx fs e =>
    cases (show u = Value.ref a from ry)
    obtain ⟨mA, O, _⟩ := ins_get I.hok e
    obtain ⟨od, J, _⟩ := O.look
    exact J.type
/-- o == y by the class's own __eq__, whose answer is True or False -/
def rEqO (K : PySem.W.Frag) (C : Addr) (sp : Sp) : R2 := fun x y H Q => ∃ a dx fs t, x = .ref a ∧ H a = some (.ins C dx fs) ∧ Ty K H y t ∧ PySem.W.notFirst K C t = true ∧ sp [x, y] H (fun v H' => ∃ b, v = .bl b ∧ Q v H') E0
theorem op_eqO (F : FnOk X.prog X.w X.K X.mg X.base CX0 k f fd ps sp) (hr : Room k X.A) (hs : PySem.W.findIn X.K (.ref C) "__eq__" = some (some (.ref f))) (hf : PySem.W.isFn X.K (.ref f) = true) (hb : Binds X.K fd ps []) : OpR X (compareOp .Eq) (rEqO X.K C sp) := by
  intro pins s σ H x y v u Q I rx ry h
  obtain ⟨a, dx, fs, t, rfl, e, ty, nf, q⟩ := h
  cases rx
  show wpAny (model X.prog X.w) X.A (richCompare .Eq (.ref a) u) (EP X pins σ Q) X.xe s
  obtain ⟨mA, O, _⟩ := ins_get I.hok e
  obtain ⟨od, J, _⟩ := O.look
  obtain ⟨m, hF⟩ := I.fr
  refine PySem.W.cmp_K (op := .Eq) (tb := t) hr.units0 hF I.ok.mod.kin J (ty_of I ry ty) nf hs hf ?_
  refine thn (own_call (vs := [.ref a, y]) ⟨hr, rfl⟩ F hb I (.cons rfl (.cons ry .nil)) q) fun w s' z => ?_
  obtain ⟨v, H', I', rv, b, ev, q'⟩ := z
  subst ev
  cases rv
  exact ⟨.bl b, H', I', rfl, q'⟩
/-- .. o != y, where the class has no __ne__ of its own -/
def rNeO (K : PySem.W.Frag) (C : Addr) (sp : Sp) : R2 := fun x y H Q => ∃ a dx fs t, x = .ref a ∧ H a = some (.ins C dx fs) ∧ Ty K H y t ∧ PySem.W.notFirst K C t = true ∧ sp [x, y] H (fun v H' => ∃ b, v = .bl b ∧ Q (.bl (!b)) H') E0
theorem ne_slot : Slot "object" "__ne__" "object.__ne__" := .of (owner := "object") (n := "__ne__") (by rw [typeLookup_type, builtinLookup_eq_fast]; kernel_rfl) (by decide +kernel) (by decide +kernel) (by decide +kernel) (by first | exact .inl (by decide +kernel) | exact .inr (by decide +kernel)) (by rw [isSubtype_type]; kernel_rfl)
theorem ne_try {prog : Program} {w : World} {A : Around} {E : Value → Shared → Prop} {x : Addr} {b : Value} {ox : Obj} {od : Option Obj} {K : PySem.W.Frag} {Q : Option Value → Shared → Prop} (X : K.In s.heap) (I : PySem.W.InstAt s.heap x ox C od) (hu : A.in1.units < cLine)
    (ho : PySem.W.instIn K (.ref x) (.type "object") = some true ∨ PySem.W.Looks (model prog w) s.heap (isInstance (.ref x) (.type "object")) true)
    (hn : PySem.W.findIn K (.ref C) "__ne__" = some (some (.builtin "object.__ne__"))) (hs : PySem.W.findIn K (.ref C) "__eq__" = some (some (.ref f))) (hf : PySem.W.isFn K (.ref f) = true)
    (h : wpAny (model prog w) A.in1 (call (.ref f) [.ref x, b]) (fun v s' => ∃ r, v = .bool r ∧ Q (some (.bool (!r))) s') E s) : wpAny (model prog w) A (tryCompare (.ref x) "__ne__" b) Q E s := by
  have hi : PySem.W.Looks (model prog w) s.heap (isInstance (.ref x) (.type "object")) true := ho.elim (PySem.W.looks_instIn X) id
  unfold tryCompare
  refine wpAny_bind ?_
  simp only [callSpecialIfBound?, bindSpecialIfBound?]
  refine wpAny_holding (wpAny_bind (wpAny_bind (wpAny_bind (I.type.here ((PySem.W.looks_findIn X hn).here ?_)))))
  refine wpAny_bind (wpAny_askSetting (wpAny_ite ?_))
  have core : wpAny (model prog w) A (call (.builtin "object.__ne__") ([.ref x] ++ [b])) (fun v s' => ∃ r, v = .bool r ∧ Q (some (.bool r)) s') E s := by
    refine wpAny_call (codeAny_call_builtin ne_slot.plain F.cmpEntry_ne (PySem.W.check_slot F.cmpKind_ne F.cmpSplit_ne hi (F.cmpArgs_ne _ _) ?_))
    unfold Builtin.«object.__ne__»
    repeat (first
      | with_reducible refine wpAny_cRoomFor hu ?_
      | (refine wpAny_bind (m := callSpecialIfBound? (.ref x) (Str.ofString "__eq__") [b])
          (PySem.W.ifBound_K X I hs hf (wpAny_mono h (fun r s' hr => by
            obtain ⟨b, rfl, hq⟩ := hr
            repeat (first | exact ⟨_, rfl, hq⟩ | exact hq | exact wpAny_pure ⟨_, rfl, hq⟩ | exact wpAny_truthy_bool ⟨_, rfl, hq⟩ | (refine wpAny_bind (m := truthy (.bool _)) (wpAny_truthy_bool ?_)) | wp_step)) fun _ _ e => e)))
      | wp_step)
  simp only [ne_slot.bind]
  have fin : wpAny (model prog w) A (call (.builtin "object.__ne__") ([.ref x] ++ [b]) >>= fun v => pure (some v)) (fun r s' => ∃ b, r = some (.bool b) ∧ Q (some (.bool b)) s') E s :=
    wpAny_bind (wpAny_mono core (fun v s' ⟨r, ev, q⟩ => wpAny_pure ⟨r, by rw [ev], q⟩) fun _ _ e => e)
  have fin2 := wpAny_mono (Q' := fun a s' => wpAny (model prog w) A (match a with
      | some Value.notImplemented => pure none
      | none => pure none
      | some r => pure (some r)) Q E s') fin (fun r s' ⟨b, e, q⟩ => by
    subst e
    exact wpAny_pure q) fun _ _ e => e
  split
  · exact wpAny_bind (wpAny_pure (wpAny_pure fin2))
  · exact wpAny_tryCatch (wpAny_bind (wpAny_pure (wpAny_pure fin2)))
theorem op_neO (F : FnOk X.prog X.w X.K X.mg X.base CX0 k f fd ps sp) (hr : Room (k + 1) X.A) (hn : PySem.W.findIn X.K (.ref C) "__ne__" = some (some (.builtin "object.__ne__"))) (hs : PySem.W.findIn X.K (.ref C) "__eq__" = some (some (.ref f))) (hf : PySem.W.isFn X.K (.ref f) = true)
    (ho : PySem.W.subIn X.K (.ref C) (.type "object") = some true) (hb : Binds X.K fd ps []) : OpR X (compareOp .NotEq) (rNeO X.K C sp) := by
  intro pins s σ H x y v u Q I rx ry h
  obtain ⟨a, dx, fs, t, rfl, e, ty, nf, q⟩ := h
  cases rx
  show wpAny (model X.prog X.w) X.A (richCompare .NotEq (.ref a) u) (EP X pins σ Q) X.xe s
  obtain ⟨mA, O, _⟩ := ins_get I.hok e
  obtain ⟨od, J, _⟩ := O.look
  have hi : PySem.W.Looks (model X.prog X.w) s.heap (isInstance (.ref a) (.type "object")) true := J.type.andThen (PySem.W.looks_subIn I.kIn ho)
  have one : wpAny (model X.prog X.w) X.A (tryCompare (.ref a) (cmpInfo .NotEq).2.1 u) (fun r s' => ∃ v, r = some v ∧ EP X pins σ Q v s') X.xe s := by
    refine ne_try I.kIn J (hr.in1).units0 (.inr hi) hn hs hf ?_
    refine thn (own_call (vs := [.ref a, y]) ⟨hr.in1, rfl⟩ F hb I (.cons rfl (.cons ry .nil)) q) fun w s' z => ?_
    obtain ⟨v, H', I', rv, b, ev, q'⟩ := z
    subst ev
    cases rv
    exact ⟨b, rfl, _, rfl, .bl (!b), H', I', rfl, q'⟩
  have two := ty_of (M := model X.prog X.w) I ry ty
  unfold richCompare
  simp only [oneThing_ref]
  refine wpAny_holding (wpAny_bind (wpAny_cRoomFor hr.units0 ?_))
  refine wpAny_bind (J.type.here (wpAny_bind (two.here ?_)))
  split
  · rename_i z
    have z2 : PySem.W.subIn X.K t (.ref C) = some false := by
      rcases Bool.or_eq_true_iff.mp nf with z3 | z3
      · rw [beq_iff_eq.mp z3] at z
        simp at z
      · exact beq_iff_eq.mp z3
    refine wpAny_bind ((PySem.W.looks_subIn I.kIn z2).here ?_)
    simp only [Bool.false_eq_true, if_false]
    exact wpAny_bind (thn one fun r s' ⟨v, ev, q⟩ => by
      subst ev
      exact wpAny_pure q)
  · refine wpAny_bind (wpAny_pure ?_)
    simp only [Bool.false_eq_true, if_false]
    exact wpAny_bind (thn one fun r s' ⟨v, ev, q⟩ => by
      subst ev
      exact wpAny_pure q)
theorem call_lenO (F : FnOk X.prog X.w X.K X.mg X.base CX0 k f fd ps sp) (hr : Room (k + 1) X.A) (hs : PySem.W.findIn X.K (.ref C) "__len__" = some (some (.ref f))) (hf : PySem.W.isFn X.K (.ref f) = true) (hb : Binds X.K fd ps []) :
    CallR X (.builtin "len") (fun xs H Q => ∃ a dx fs, xs = [.ref a] ∧ H a = some (.ins C dx fs) ∧ sp [.ref a] H (fun v H' => ∃ n : Nat, v = .int n ∧ (n : Int) < 2 ^ 63 ∧ Q (.int n) H') E0) := by
  intro pins s σ H xs us Q I r h
  obtain ⟨a, dx, fs, rfl, e, q⟩ := h
  obtain rfl := Vals.ref1 r
  obtain ⟨mA, O, _⟩ := ins_get I.hok e
  obtain ⟨od, J, _⟩ := O.look
  obtain ⟨m, hF⟩ := I.fr
  refine PySem.W.len_K hF I.ok.mod.kin J hs hf ?_
  refine thn (own_call (vs := [.ref a]) ⟨hr.in1, rfl⟩ F hb I (.cons rfl .nil) q) fun w s' z => ?_
  obtain ⟨v, H', I', rv, n, ev, hn, q'⟩ := z
  subst ev
  obtain ⟨t, rfl⟩ := (show ∃ t, w = Value.int n t from rv)
  exact ⟨⟨Int.natCast_nonneg n, hn⟩, .int n, H', I'.tok _, ⟨_, rfl⟩, q'⟩
theorem call_strO (F : FnOk X.prog X.w X.K X.mg X.base CX0 k f fd ps sp) (hr : Room (k + 2) X.A) (hs : PySem.W.findIn X.K (.ref C) "__str__" = some (some (.ref f))) (hf : PySem.W.isFn X.K (.ref f) = true) (hb : Binds X.K fd ps []) :
    CallR X (.type "str") (fun xs H Q => ∃ a dx fs, xs = [.ref a] ∧ H a = some (.ins C dx fs) ∧ sp [.ref a] H (fun v H' => ∃ x, v = .str x ∧ Q (.str x) H') E0) := by
  intro pins s σ H xs us Q I r h
  obtain ⟨a, dx, fs, rfl, e, q⟩ := h
  obtain rfl := Vals.ref1 r
  obtain ⟨mA, O, _⟩ := ins_get I.hok e
  obtain ⟨od, J, _⟩ := O.look
  refine PySem.W.kso_call (hr.in1.in1).units0 I.kIn J hs hf ?_
  refine thn (own_call (vs := [.ref a]) ⟨hr.in1.in1, rfl⟩ F hb I (.cons rfl .nil) q) fun w s' z => ?_
  obtain ⟨v, H', I', rv, x, ev, q'⟩ := z
  subst ev
  obtain ⟨t, rfl⟩ := (show ∃ t, w = Value.str x t from rv)
  exact ⟨.str x, H', I', ⟨_, rfl⟩, q'⟩
theorem call_boolO (F : FnOk X.prog X.w X.K X.mg X.base CX0 k f fd ps sp) (hr : Room (k + 2) X.A) (hs : PySem.W.findIn X.K (.ref C) "__bool__" = some (some (.ref f))) (hf : PySem.W.isFn X.K (.ref f) = true) (hb : Binds X.K fd ps []) :
    CallR X (.type "bool") (fun xs H Q => ∃ a dx fs, xs = [.ref a] ∧ H a = some (.ins C dx fs) ∧ sp [.ref a] H (fun v H' => ∃ b, v = .bl b ∧ Q (.bl b) H') E0) := by
  intro pins s σ H xs us Q I r h
  obtain ⟨a, dx, fs, rfl, e, q⟩ := h
  obtain rfl := Vals.ref1 r
  obtain ⟨mA, O, _⟩ := ins_get I.hok e
  obtain ⟨od, J, _⟩ := O.look
  obtain ⟨m, hF⟩ := I.fr
  have t : wpAny (model X.prog X.w) X.A.in1.in1 (truthy (.ref a)) (fun b s' => ∃ H', Inv X pins σ H' s' ∧ Q (.bl b) H') X.xe s := by
    refine PySem.W.truthy_K hF I.ok.mod.kin J hs hf ?_
    refine thn (own_call (vs := [.ref a]) ⟨hr.in1.in1, rfl⟩ F hb I (.cons rfl .nil) q) fun w s' z => ?_
    obtain ⟨v, H', I', rv, b, ev, q'⟩ := z
    subst ev
    cases rv
    exact ⟨H', I', q'⟩
  refine callType_codes (T := "bool") (Bi := Builtin.«object.__init__») (Q₁ := fun r s₁ => ∃ b H', r = .bool b ∧ Inv X pins σ H' s₁ ∧ Q (.bl b) H') PySem.F.called_bool (PySem.F.typeCall_bool_1 _) PySem.F.entry_object_init ?_ ?_
  · refine codeAny_of_tree ?_
    show wpAny _ X.A.in1.in1 (do checkBuiltinCall "bool.__new__" ⟨[.type "bool", .ref a], []⟩; again (.builtin "bool.__new__" ⟨[.type "bool", .ref a], []⟩)) _ _ s
    refine wpAny_bind (wpAny_of_eq (PySem.F.newCall_bool_1 _) (wpAny_pure ⟨plainId_quiet (by decide +kernel) _, codeAny_builtin PySem.F.entry_bool_new ?_⟩))
    rw [Around.under_plainId (by decide +kernel) _]
    unfold Builtin.«bool.__new__»
    have f1 := PySem.F.conv_sub_bool
    repeat (any_goals (first | assumption | (with_reducible refine wpAny_mono t (fun b s' hb => ?_) fun _ _ e => e) | wp_step))
    obtain ⟨H', I', q'⟩ := hb
    all_goals first | exact ⟨_, H', rfl, I', q'⟩ | skip
  · rintro obj s₁ ⟨b, H', rfl, I', hq⟩
    exact ⟨rfl, PySem.F.args_object_init_2 _ _, object_init_meets PySem.F.called_bool.init.lookup PySem.F.called_bool.made (by decide) X.prog X.w X.A.in1 _ s₁ ⟨rfl, rfl, .bl b, H', I', rfl, hq⟩⟩
end
end Ca
set_option Elab.async false
set_option linter.all false
set_option maxRecDepth 100000
set_option maxHeartbeats 4000000
namespace PySem
open Sem (wp)
/-- enumerate(v): its two new cells -/
theorem cx_enum_new {v : Value} {o : Obj} {H : Heap → Prop} (B : Begins v o H) :
    Meets (Builtin.«enumerate.__new__» ⟨[.type "enumerate", v], []⟩) (fun _ R s => H s.heap ∧
      R (.ok (.ret (.ref (s.heap.push o).objs.size))) { s with heap := (s.heap.push o).push { cls := .type "enumerate", data := .fields #[.none, .bool false, .ref s.heap.objs.size, rawInt 0, .none, .none] } }) :=
  .of_wp fun prog w A R s h => by
    obtain ⟨hp, g, d, tk, os⟩ := s
    obtain ⟨h1, h⟩ := h
    have z1 := sub_enumerate
    have z2 : ∀ {A' : Around} {E : Value → Shared → Prop} {Q : Value → Shared → Prop}, Q (.ref hp.objs.size) ⟨hp.push o, g, d, tk, os⟩ → wpAny (model prog w) A' (pyIter v) Q E ⟨hp, g, d, tk, os⟩ :=
      fun q => B.iter prog w _ _ ⟨hp, g, d, tk, os⟩ _ h1 q
    wp_walk using z2
    refine wpAny_stack_any fun st => wpAny_pure ?_
    split
    · rename_i c _ _ _ _ _
      cases (c == Value.type "enumerate") <;> (wp_walk using z2; exact ⟨_, rfl, h⟩)
    · wp_walk using z2
      exact ⟨_, rfl, h⟩
section
variable {prog : Program} {w : World} {A : Around} {E : Value → Shared → Prop} {s : Shared}
theorem cx_enum {v : Value} {o : Obj} {H : Heap → Prop} {Q : Value → Shared → Prop} (B : Begins v o H) (h1 : H s.heap)
    (h : ∀ h', IsEnum h' (s.heap.objs.size + 1) s.heap.objs.size 0 .none → h'.get? s.heap.objs.size = some o → h'.objs.size = s.heap.objs.size + 2 →
      (∀ b o, s.heap.get? b = some o → h'.get? b = some o) → Q (.ref (s.heap.objs.size + 1)) { s with heap := h' }) :
    wpAny (model prog w) A (call (.type "enumerate") [v]) Q E s := by
  refine callType_new F.called_enumerate (by decide) (F.typeCall_enumerate_1 _) (F.newCall_enumerate_1 _) (fun obj => F.args_object_init_2 obj _) F.entry_enumerate_new (cx_enum_new B) ⟨h1, ?_⟩
  have hSz : (s.heap.push o).objs.size = s.heap.objs.size + 1 := Heap.size_push ..
  show _ ∧ _
  rw [hSz]
  have hEn : IsEnum ((s.heap.push o).push { cls := .type "enumerate", data := .fields #[.none, .bool false, .ref s.heap.objs.size, rawInt 0, .none, .none] }) (s.heap.objs.size + 1) s.heap.objs.size 0 .none := by
    have z := Heap.get?_push_size (s.heap.push o) (o := { cls := .type "enumerate", data := .fields #[.none, .bool false, .ref s.heap.objs.size, rawInt 0, .none, .none] }) rfl
    rw [hSz] at z
    exact z
  exact ⟨⟨_, hEn, rfl⟩, h _ hEn (Heap.get?_push_of_some _ (Heap.get?_push_size _ B.free)) (by rw [Heap.size_push, hSz]) fun b o x => Heap.get?_push_of_some _ (Heap.get?_push_of_some _ x)⟩
end
end PySem
namespace Ca
open PySem PySem.Spec PyProof.Rows L2
/-! ### enumerate(tuple) -/
def IteT (K : PySem.W.Frag) (a : Addr) : It :=
  ⟨fun i H => ∃ (xs : List V) (x : V), SqT K H a xs ∧ xs[i]? = some x, fun i H v H' => ∃ T x, v = .ref T ∧ H T = none ∧ H' = upd H T (.tup [.int (i : Nat), x]) ∧ ∀ xs, SqT K H a xs → xs[i]? = some x, fun i H => ∃ xs : List V, SqT K H a xs ∧ xs.length = i⟩
theorem turn_enumT {P : Program} {w : World} {K : PySem.W.Frag} {elts : List Expr} {kk : Nat} {tpos : Pos} (a e it : Addr) :
    Turn P w K (.Tuple elts kk tpos) (IteT K a) [e, it] e (fun i h => (∃ was, IsEnum h e it ((i : Nat) : Int) was) ∧ h.IsTupleIter it a i ∧ e ≠ it) where
  mem := by simp
  obj := fun i h st b hb => by
    obtain ⟨⟨was, hEn⟩, ⟨o, ho, hc, hd⟩, _⟩ := st
    rcases (show b = e ∨ b = it by simpa using hb) with z | z
    · rw [z]; exact ⟨_, hEn, fun v q => nomatch q⟩
    · rw [z]; exact ⟨o, ho, fun v q => by rw [hd] at q; cases q⟩
  keep := fun i h h' st k => let ⟨⟨was, hEn⟩, hi, hne⟩ := st; ⟨⟨was, k e (by simp) _ hEn⟩, hi.at fun o q => k it (by simp) o q, hne⟩
  item := by
    intro X hP hw hK hc i pins s σ H E I hf st hg
    subst hP hw hK
    obtain ⟨⟨was, hEn⟩, hIt, hne⟩ := st
    obtain ⟨xs, x, hSq, hIx⟩ := hg
    obtain ⟨its, rVs, p, hSz⟩ := I.tuple hSq
    obtain ⟨u, hUu, rUu⟩ := rVs.get hIx
    have ltE : e < s.heap.objs.size := Heap.lt_size hEn
    have ltI : it < s.heap.objs.size := by obtain ⟨_, q, _⟩ := hIt; exact Heap.lt_size q
    have p' : s.heap.IsTuple a its.toArray := p
    have nai : a ≠ it := fun z => by
      obtain ⟨o1, q1, c1, _⟩ := p'
      obtain ⟨o2, q2, c2, _⟩ := hIt
      rw [z, q2] at q1
      cases q1
      rw [c1] at c2
      injection c2 with c2
      exact absurd c2 (by decide)
    have nae : e ≠ a := fun z => by
      obtain ⟨o1, q1, c1, _⟩ := p'
      rw [← z, hEn] at q1
      cases q1
      injection c1 with c1
      exact absurd c1 (by decide)
    have D := Draws.tuple (prog := X.prog) (w := X.w) (A := X.A.in1) (I.ok.hd hc) it a nai its.toArray
    have lt : i < its.toArray.size := by
      have := (Array.getElem?_eq_some_iff.mp (show its.toArray[i]? = some u by simpa using hUu)).1
      exact this
    refine wpAny_pyNext_enum_itemD D hEn ⟨hIt, p'⟩ lt hne (by simp [hne, nae]) fun u' h' tk hu' ho hit' hT hsz hk => ?_
    have eu : u' = u := by
      have z1 : its.toArray[i]? = some u' := hu'
      have z2 : its.toArray[i]? = some u := by simpa using hUu
      exact Option.some.inj (z1.symm.trans z2)
    subst eu
    refine ⟨_, rfl, wpAny_letOwnedTupleGo_enum (s := { s with heap := h', toks := tk + 1 }) ho fun h'' he' sm => ?_⟩
    have tT : h''.get? s.heap.objs.size = some { cls := .type "tuple", data := .seq #[.int i tk, u'] } := (sm.2 _ (Nat.ne_of_gt ltE)).trans hT
    have new : ObjOk X.prog X.w (upd H s.heap.objs.size (.tup [.int (i : Nat), x])) h'' s.heap.objs.size (.tup [.int (i : Nat), x]) :=
      ⟨by show 2 ≤ sizeLine; decide, [.int i tk, u'], .cons ⟨_, rfl⟩ (.cons rUu .nil), ⟨_, tT, rfl, _, rfl⟩⟩
    have J1 : Inv X pins σ (upd H s.heap.objs.size (.tup [.int (i : Nat), x])) { s with heap := h'', toks := tk + 1 } :=
      I.turnedNew (ch := [e, it]) (fun b ob hb q => (sm.2 b (fun z => hb (by simp [z]))).trans (hk b ob (fun z => hb (by simp [z])) (fun z => hb (by simp [z])) q)) hf (Nat.le_refl _) new
    refine ⟨.ref s.heap.objs.size, _, J1, rfl, ⟨_, x, rfl, I.hok.fresh (Nat.le_refl _), rfl, fun ys hy => by rw [I.tuple_inj hy hSq]; exact hIx⟩, ⟨⟨u', ?_⟩, hit'.1.at fun o q => (sm.2 it (Ne.symm hne)).trans q, hne⟩, fun b hb => ?_⟩
    · have e1 : ((i + 1 : Nat) : Int) = (i : Int) + 1 := by omega
      rw [e1]; exact he'
    · have hb' : b < s.heap.objs.size := by
        rcases (show b = e ∨ b = it by simpa using hb) with z | z
        · rw [z]; exact ltE
        · rw [z]; exact ltI
      rw [upd_ne (Nat.ne_of_lt hb')]
      exact (hf b hb).1
  done := by
    intro X hP hw hK hc i pins s σ H E I hf st hg
    subst hP hw hK
    obtain ⟨⟨was, hEn⟩, hIt, hne⟩ := st
    obtain ⟨xs, hSq, hIx⟩ := hg
    obtain ⟨its, rVs, p, hSz⟩ := I.tuple hSq
    obtain ⟨f0, f1, f2, f3, f4, f5⟩ := hf it (by simp)
    have hl := rVs.length
    have p' : s.heap.IsTuple a its.toArray := p
    have nai : a ≠ it := fun z => by
      obtain ⟨o1, q1, c1, _⟩ := p'
      obtain ⟨o2, q2, c2, _⟩ := hIt
      rw [z, q2] at q1
      cases q1
      rw [c1] at c2
      injection c2 with c2
      exact absurd c2 (by decide)
    have D := Draws.tuple (prog := X.prog) (w := X.w) (A := X.A.in1) (I.ok.hd hc) it a nai its.toArray
    have e1 : its.toArray.size = i := by simp; omega
    exact wpAny_pyNext_enum_endD D hEn ⟨by rw [e1]; exact hIt, p'⟩ fun h' eb => ⟨rfl, I.turned (t' := s.toks) (fun b o hb q => eb b o hb q) f0 f1 f3 f4 f5⟩
  self := fun A i s Q E st h => let ⟨⟨_, hEn⟩, _⟩ := st; wpAny_pyIter_enum hEn h
def iEnumT (K : PySem.W.Frag) (ta : TA) : TI := fun σ H R => ta σ H fun vs H1 => ∃ a xs, vs = [.ref a] ∧ SqT K H1 a xs ∧ R (IteT K a) H1
theorem pi_enumT {X : Cx} {e : Expr} {ta : TA} {p pos tpos : Pos} {elts : List Expr} {kk : Nat} (hg : Gl X "enumerate") (hm : X.mg "enumerate" = none) (ha : PA X [e] ta) (hs : starEach [e] X.env = [(false, eval e X.env)] := by rfl) :
    PI X (.Tuple elts kk tpos) (.Call (.Name "enumerate" p) [e] [] pos) (iEnumT X.K ta) := by
  refine ⟨fun pins s σ H R I h => ?_⟩
  refine Call_ (ld_blt I hg hm boot_enumerate (PyProof.Rows.callWith_type1 (thn (ha.run pos pins s σ H _ I h) fun us s1 ⟨vs, H1, J1, r1, q1⟩ => ?_) hs rfl))
  obtain ⟨a, xs, ex, hSq, q⟩ := q1
  subst ex
  cases r1 with
  | cons r rr =>
    cases rr
    cases r
    obtain ⟨its, rVs, p', hSz⟩ := J1.tuple hSq
    refine cx_enum (begins_tuple a its.toArray) (show s1.heap.IsTuple a its.toArray from p') fun h' hEn hIt hsz hk => wpAny_pyIter_enum hEn ?_
    have I2 : Inv X pins σ H1 { s1 with heap := h' } := J1.kept (t' := s1.toks) hk
    refine ⟨s1.heap.objs.size + 1, [s1.heap.objs.size + 1, s1.heap.objs.size], _, _, H1, rfl, I2, turn_enumT a (s1.heap.objs.size + 1) s1.heap.objs.size, ⟨⟨.none, hEn⟩, ⟨_, hIt, rfl, rfl⟩, Nat.succ_ne_self _⟩, fun b hb => ?_, q⟩
    have hle : s1.heap.objs.size ≤ b := by
      rcases (show b = s1.heap.objs.size + 1 ∨ b = s1.heap.objs.size by simpa using hb) with z | z
      · rw [z]; exact Nat.le_add_right _ _
      · rw [z]; exact Nat.le_refl _
    exact J1.fpOk hle (J1.hok.fresh hle)
end Ca
set_option Elab.async false
set_option linter.all false
set_option maxRecDepth 100000
set_option maxHeartbeats 4000000
namespace Ca
open PySem L2
/-! ### values as data, dicts among them -/
mutual
inductive Dq (K : PySem.W.Frag) (H : Hp) : V → PyData → Prop
  | non : Dq K H .non .none
  | bl (b : Bool) : Dq K H (.bl b) (.bool b)
  | int (i : Int) : Dq K H (.int i) (.int i)
  | str (x : Str) (h : x.length ≤ 1000) : Dq K H (.str x) (.str x)
  | lst {a : Addr} {xs : List V} {ds : List PyData} : SqL K H a xs → DqAll K H xs ds → Dq K H (.ref a) (.list ds)
  | tup {a : Addr} {xs : List V} {ds : List PyData} : SqT K H a xs → DqAll K H xs ds → Dq K H (.ref a) (.tuple ds)
  | dic {a : Addr} {kvs : List (Key × V)} : H a = some (.dK kvs) → Dq K H (.ref a) (.dict [])
inductive DqAll (K : PySem.W.Frag) (H : Hp) : List V → List PyData → Prop
  | nil : DqAll K H [] []
  | cons {v : V} {vs : List V} {d : PyData} {ds : List PyData} : Dq K H v d → DqAll K H vs ds → DqAll K H (v :: vs) (d :: ds)
end
theorem same_sqt {K : PySem.W.Frag} {H H' : Hp} {a : Addr} {xs : List V} (s : Same H H') (h : SqT K H a xs) : SqT K H' a xs := h.ext s
mutual
theorem Dq.same {K : PySem.W.Frag} {H H' : Hp} (s : Same H H') : ∀ {d : PyData} {v : V}, Dq K H v d → Dq K H' v d
  | .none, _, h => by cases h; exact .non
  | .bool b, _, h => by cases h; exact .bl b
  | .int i, _, h => by cases h; exact .int i
  | .str x, _, h => by cases h with | str _ a => exact .str x a
  | .list ds, _, h => by
    cases h with
    | lst a b => exact .lst (s.seq a) (DqAll.same s b)
  | .tuple ds, _, h => by
    cases h with
    | tup a b => exact .tup (same_sqt s a) (DqAll.same s b)
  | .dict ds, _, h => by
    cases h with
    | dic a => exact .dic (s _ _ a)
theorem DqAll.same {K : PySem.W.Frag} {H H' : Hp} (s : Same H H') : ∀ {ds : List PyData} {vs : List V}, DqAll K H vs ds → DqAll K H' vs ds
  | [], _, h => by cases h; exact .nil
  | d :: ds, _, h => by
    cases h with
    | cons a b => exact .cons (Dq.same s a) (DqAll.same s b)
end
theorem DqAll.len {K : PySem.W.Frag} {H : Hp} : ∀ {vs : List V} {ds : List PyData}, DqAll K H vs ds → vs.length = ds.length
  | _, _, .nil => rfl
  | _, _, .cons _ t => congrArg Nat.succ t.len
theorem DqAll.get {K : PySem.W.Frag} {H : Hp} : ∀ {vs : List V} {ds : List PyData} {i : Nat} {v : V}, DqAll K H vs ds → vs[i]? = some v → ∃ d, ds[i]? = some d ∧ Dq K H v d
  | _, _, 0, _, .cons a _, e => by
    cases e
    exact ⟨_, rfl, a⟩
  | _, _, i + 1, _, .cons _ t, e => t.get (i := i) e
theorem DqAll.app {K : PySem.W.Frag} {H : Hp} : ∀ {vs ws : List V} {ds es : List PyData}, DqAll K H vs ds → DqAll K H ws es → DqAll K H (vs ++ ws) (ds ++ es)
  | _, _, _, _, .nil, h => h
  | _, _, _, _, .cons a t, h => .cons a (t.app h)
def tyOf : PyData → String
  | .none => "NoneType"
  | .bool _ => "bool"
  | .int _ => "int"
  | .str _ => "str"
  | .list _ => "list"
  | .tuple _ => "tuple"
  | .dict _ => "dict"
theorem Dq.ty {K : PySem.W.Frag} {H : Hp} {v : V} {d : PyData} (h : Dq K H v d) : Ty K H v (.type (tyOf d)) := by
  cases h with
  | non => exact .non
  | bl b => exact .bl b
  | int i => exact .int i
  | str x h => exact .str x
  | lst a b => exact .lst a
  | tup a b => exact .tup a
  | dic a => exact .dic a
theorem tyx_l {K : PySem.W.Frag} {H : Hp} {a : Addr} {xs : List V} (h : SqL K H a xs) : TyX K H (.ref a) (.type "list") := by
  rcases h with (e | ⟨o, e⟩) | ⟨o, _, _, e, c, _⟩
  · exact .base (.lst e)
  · exact .base (.frz e)
  · exact .kList e c
theorem tyx_t {K : PySem.W.Frag} {H : Hp} {a : Addr} {xs : List V} (h : SqT K H a xs) : TyX K H (.ref a) (.type "tuple") := by
  rcases h with (e | ⟨o, e⟩) | ⟨o, _, _, e, c, _⟩
  · exact .base (.tup e)
  · exact .fTuple e
  · exact .kTuple e c
theorem Dq.tyx {K : PySem.W.Frag} {H : Hp} {v : V} {d : PyData} (h : Dq K H v d) : TyX K H v (.type (tyOf d)) := by
  cases h with
  | non => exact .base .non
  | bl b => exact .base (.bl b)
  | int i => exact .base (.int i)
  | str x h => exact .base (.str x)
  | lst a b => exact tyx_l a
  | tup a b => exact tyx_t a
  | dic a => exact .base (.dK a)
def isInt : PyData → Bool
  | .int _ => true
  | _ => false
def isBool : PyData → Bool
  | .bool _ => true
  | _ => false
def isStr : PyData → Bool
  | .str _ => true
  | _ => false
def isTup : PyData → Bool
  | .tuple _ => true
  | _ => false
theorem kit_int : ∀ d : PyData, kitB (tyOf d) "int" = some (isInt d || isBool d)
  | .none => (by decide +kernel : kitB "NoneType" "int" = some false)
  | .bool _ => (by decide +kernel : kitB "bool" "int" = some true)
  | .int _ => (by decide +kernel : kitB "int" "int" = some true)
  | .str _ => (by decide +kernel : kitB "str" "int" = some false)
  | .list _ => (by decide +kernel : kitB "list" "int" = some false)
  | .tuple _ => (by decide +kernel : kitB "tuple" "int" = some false)
  | .dict _ => (by decide +kernel : kitB "dict" "int" = some false)
theorem kit_bool : ∀ d : PyData, kitB (tyOf d) "bool" = some (isBool d)
  | .none => (by decide +kernel : kitB "NoneType" "bool" = some false)
  | .bool _ => (by decide +kernel : kitB "bool" "bool" = some true)
  | .int _ => (by decide +kernel : kitB "int" "bool" = some false)
  | .str _ => (by decide +kernel : kitB "str" "bool" = some false)
  | .list _ => (by decide +kernel : kitB "list" "bool" = some false)
  | .tuple _ => (by decide +kernel : kitB "tuple" "bool" = some false)
  | .dict _ => (by decide +kernel : kitB "dict" "bool" = some false)
theorem kit_str : ∀ d : PyData, kitB (tyOf d) "str" = some (isStr d)
  | .none => (by decide +kernel : kitB "NoneType" "str" = some false)
  | .bool _ => (by decide +kernel : kitB "bool" "str" = some false)
  | .int _ => (by decide +kernel : kitB "int" "str" = some false)
  | .str _ => (by decide +kernel : kitB "str" "str" = some true)
  | .list _ => (by decide +kernel : kitB "list" "str" = some false)
  | .tuple _ => (by decide +kernel : kitB "tuple" "str" = some false)
  | .dict _ => (by decide +kernel : kitB "dict" "str" = some false)
theorem kit_tup : ∀ d : PyData, kitB (tyOf d) "tuple" = some (isTup d)
  | .none => (by decide +kernel : kitB "NoneType" "tuple" = some false)
  | .bool _ => (by decide +kernel : kitB "bool" "tuple" = some false)
  | .int _ => (by decide +kernel : kitB "int" "tuple" = some false)
  | .str _ => (by decide +kernel : kitB "str" "tuple" = some false)
  | .list _ => (by decide +kernel : kitB "list" "tuple" = some false)
  | .tuple _ => (by decide +kernel : kitB "tuple" "tuple" = some true)
  | .dict _ => (by decide +kernel : kitB "dict" "tuple" = some false)
section
variable {K : PySem.W.Frag} {σ : L2.St} {H : Hp} {v : V} {d : PyData} {i : Nat}
theorem rd_isd {n : String} {b : Bool} {Q : VK} (h : Dq K H v d) (hv : σ[i]? = some (some v)) (hk : kitB (tyOf d) n = some b) (q : Q (.bl b) H) : tCB (rIsi K) (tCons (tVar i) (tCons (tC (.ty n)) tNil)) σ H Q :=
  ⟨_, hv, v, .ty n, _, _, b, rfl, .ty n, h.tyx, kit_ty hk, q⟩
end
/-- a def that tells something of a value -/
def spIs (K : PySem.W.Frag) (f : PyData → Bool) : Sp := fun vs H Q _ => ∃ v d, vs = [v] ∧ Dq K H v d ∧ ∀ H', Same H H' → Q (.bl (f d)) H'
def spIs2 (K : PySem.W.Frag) (f : PyData → Nat → Bool) : Sp := fun vs H Q _ => ∃ v d m, vs = [v, .int (m : Nat)] ∧ m ≤ 1000 ∧ Dq K H v d ∧ ∀ H', Same H H' → Q (.bl (f d m)) H'
end Ca
set_option Elab.async false
set_option linter.all false
set_option maxRecDepth 100000
set_option maxHeartbeats 4000000
namespace Ca
open PySem L2
theorem walk_enumT {K : PySem.W.Frag} {a : Addr} {xs : List V} : Walk (IteT K a) xs.length (fun H => SqT K H a xs) (fun i H v H' => ∃ T x, v = .ref T ∧ H T = none ∧ H' = upd H T (.tup [.int (i : Nat), x]) ∧ xs[i]? = some x) :=
  ⟨fun i _ hi q => ⟨xs, xs[i], q, by simp [hi]⟩, fun _ q => ⟨xs, q, rfl⟩, fun _ _ _ _ _ q y => by
    obtain ⟨T, x, e1, e2, e3, e4⟩ := y
    exact ⟨T, x, e1, e2, e3, e4 xs q⟩⟩
/-- a comprehension without a test, whose items are known ahead -/
theorem lc_known {J : It} {n : Nat} {G : Hp → Prop} {Y : Nat → Hp → V → Hp → Prop} (w : Walk J n G Y) {te : TE} {vs : List Nat} {σ : L2.St} {H1 : Hp} {D : Addr} {Qd : Hp → Prop} {j : Nat} (f : Nat → V) (hn : n ≤ 100000) (hD : H1 D = none) (hG : ∀ H, Same H1 H → G H)
    (hY : ∀ i H x H', Y i H x H' → Same H H') (hw : ∀ x, wipe ((wipe σ vs).set j (some x)) vs = wipe σ vs)
    (hs : ∀ i x H H' (Qk : VK), i < n → Same H1 H → Y i H x H' → (∀ H4, Same H' H4 → Qk (f i) H4) → te ((wipe σ vs).set j (some x)) H' Qk) (hd : ∀ H, Same H1 H → H D = some (.lst ((List.range n).map f)) → Qd H) :
    ∃ W : Nat → Nat → Hp → Prop, (∃ m, W 0 m (upd H1 D (.lst []))) ∧ ∀ i m H, W i m H →
      (J.stop i H ∧ Qd H) ∨ (J.go i H ∧ ∃ Nx : Hp → Prop, (∀ H', Nx H' → ∃ m', m' < m ∧ W (i + 1) m' H') ∧ ∀ x H', J.yld i H x H' → gName j x (wipe σ vs) H' fun σ2 H2 => wipe σ2 vs = wipe σ vs ∧ tYes σ2 H2 fun b H3 =>
        if b = true then te σ2 H3 fun y H4 => ∃ acc, H4 D = some (.lst acc) ∧ acc.length < sizeLine ∧ Nx (upd H4 D (.lst (acc ++ [y]))) else Nx H3) :=
  lc_it w (fun i H => Same H1 H ∧ H D = some (.lst ((List.range i).map f))) ⟨Same.new hD, upd_same⟩ (fun i H hi p => hG H p.1) (fun i x H H' hi p y => ⟨hw x, rd_yes' (hs i x H H' _ hi p.1 y fun H4 s4 => by
    have t := hY i H x H' y
    refine ⟨_, s4 _ _ (t _ _ p.2), ?_, fun b o e => ?_, ?_⟩
    · rw [List.length_map, List.length_range]
      exact Nat.lt_of_lt_of_le (Nat.lt_of_lt_of_le hi hn) (by decide)
    · rw [upd_ne (ne_of_none e hD)]
      exact s4 _ _ (t _ _ (p.1 _ _ e))
    · rw [upd_same, List.range_succ, List.map_append]
      rfl)⟩) fun H p => hd H p.1 p.2
where
  rd_yes' {A B : Hp → Prop} {σ : L2.St} {H : Hp} (h : A H) : tYes σ H (fun b H3 => if b = true then A H3 else B H3) := by
    show (if true = true then A H else B H)
    rw [if_pos rfl]
    exact h
end Ca
set_option Elab.async false
set_option linter.all false
set_option maxRecDepth 100000
namespace Ca
open PySem L2
def top (i : Nat) : Stmt := PySem.Challenge.pw_commonanswer_k17_whole_members_drawn.main.body.getD i (.Pass ⟨0, 0, 0, 0⟩)
def inner (s : Stmt) (j : Nat) : Stmt := match s with
  | .ClassDef _ _ _ body _ _ _ _ _ _ _ => body.getD j (.Pass ⟨0, 0, 0, 0⟩)
  | s => s
abbrev sWall : Stmt := top 1
abbrev mInvalidTextInit : Stmt := inner (top 4) 0
abbrev mInvalidAnswerInit : Stmt := inner (top 5) 0
abbrev mNotASystemInit : Stmt := inner (top 6) 0
abbrev mInvalidUnknownsInit : Stmt := inner (top 7) 0
abbrev mInvalidRowsInit : Stmt := inner (top 8) 0
abbrev sIsInteger : Stmt := top 17
abbrev sIsTupleOf : Stmt := top 18
abbrev sIsName : Stmt := top 19
abbrev sIsUnknown : Stmt := top 20
abbrev sIsStretch : Stmt := top 21
abbrev sIsRow : Stmt := top 22
abbrev sCheckUnknowns : Stmt := top 23
abbrev sCheckRows : Stmt := top 24
abbrev sLineOf : Stmt := top 25
abbrev sIntegerIn : Stmt := top 26
abbrev sRowIn : Stmt := top 27
abbrev mSystemInit : Stmt := inner (top 28) 0
abbrev mSystemRead : Stmt := inner (top 28) 1
abbrev mSystemUnknowns : Stmt := inner (top 28) 2
abbrev mSystemRows : Stmt := inner (top 28) 3
abbrev mSystemNames : Stmt := inner (top 28) 4
abbrev mSystemLen : Stmt := inner (top 28) 5
abbrev mSystemBool : Stmt := inner (top 28) 6
abbrev mSystemStr : Stmt := inner (top 28) 7
abbrev mSystemEq : Stmt := inner (top 28) 8
abbrev mSystemChanged : Stmt := inner (top 28) 9
abbrev mSystemWithout : Stmt := inner (top 28) 10
abbrev mSystemMore : Stmt := inner (top 28) 11
abbrev sIsFraction : Stmt := top 31
abbrev sFraction : Stmt := top 32
abbrev sPlus : Stmt := top 33
abbrev sTimes : Stmt := top 34
abbrev sOpposite : Stmt := top 35
abbrev sMinus : Stmt := top 36
abbrev sWeighed : Stmt := top 37
abbrev sDot : Stmt := top 38
abbrev sIsAnswer : Stmt := top 40
abbrev sCheckSystem : Stmt := top 41
abbrev sCheckAnswer : Stmt := top 42
abbrev sEndsFor : Stmt := top 46
abbrev sBoundFor : Stmt := top 47
abbrev sRoomFor : Stmt := top 48
abbrev sAlwaysKeeps : Stmt := top 49
abbrev sCanKeep : Stmt := top 50
abbrev sIsSure : Stmt := top 51
abbrev sIsPossible : Stmt := top 52
abbrev sRooms : Stmt := top 53
abbrev sLawUrn : Stmt := top 55
abbrev sLawDip : Stmt := top 56
abbrev sLawFrom : Stmt := top 57
abbrev sLawUnlike : Stmt := top 58
abbrev sLawStretch : Stmt := top 59
abbrev sLawLine : Stmt := top 60
abbrev sLawCase : Stmt := top 61
abbrev sLawMade : Stmt := top 62
abbrev sLawShared : Stmt := top 63
abbrev sLawLow : Stmt := top 64
abbrev sLawValue : Stmt := top 65
abbrev sLawPoint : Stmt := top 66
abbrev sLawIsOne : Stmt := top 67
abbrev sLawWithin : Stmt := top 68
abbrev sLawMember : Stmt := top 69
abbrev sLawAround : Stmt := top 70
abbrev sLawCloser : Stmt := top 71
abbrev sLawIsBetween : Stmt := top 72
abbrev sLawRight : Stmt := top 73
abbrev sLaw : Stmt := top 74
abbrev nmLow : Str := "_law_low_here"
end Ca
set_option Elab.async false
set_option linter.all false
set_option maxRecDepth 100000
set_option maxHeartbeats 4000000
namespace Ca
open PySem L2
abbrev FnT (K : PySem.W.Frag) (x : Str) (st : Stmt) (f : Addr) (fd : FuncData) : Prop := FunD K x x (defArgs st) (defBody st) (defScope st) [] [] f fd
/-- the built-in names that these defs read -/
structure Bn (mg : Str → Option Value) : Prop where
  isi : mg "isinstance" = none
  int : mg "int" = none
  bool : mg "bool" = none
  str : mg "str" = none
  tup : mg "tuple" = none
  len : mg "len" = none
  all : mg "all" = none
  enum : mg "enumerate" = none
def isTupN : PyData → Nat → Bool
  | .tuple ds, m => decide (ds.length = m)
  | _, _ => false
section
variable {P : Program} {w : World} {K : PySem.W.Frag} {mg : Str → Option Value} {base : Heap}
theorem scIsInteger : FnScope ["value"] ["value"] (defScope sIsInteger) := ⟨rfl, rfl, rfl, by decide +kernel, rfl, by decide +kernel, by decide +kernel⟩
theorem ok_isInteger {f : Addr} {fd : FuncData} (F : FnT K "is_integer" sIsInteger f fd) (B : Bn mg) : FnOk P w K mg base CX0 1 f fd ["value"] (spIs K isInt) := by
  refine F.ok scIsInteger (fun vs H Q E h => ?_) (fun cdv A outer s H vs Q E hr h => ?_)
  · obtain ⟨v, d, rfl, _⟩ := h
    rfl
  · obtain ⟨v, d, rfl, hd, q⟩ := h
    have q0 := q H (fun _ _ e => e)
    refine ⟨_, PSs.nox (pss_one (ps_ret (pe_and (pe_callB call_isi (by rfl) B.isi PyProof.Rows.boot_isinstance (pa_cons (pv 0) (pa_cons (pe_bltn (v := .ty "int") (by rfl) B.int (by decide +kernel) rfl) pa_nil)))
      (pe_one (pe_not (pe_callB call_isi (by rfl) B.isi PyProof.Rows.boot_isinstance (pa_cons (pv 0) (pa_cons (pe_bltn (v := .ty "bool") (by rfl) B.bool (by decide +kernel) rfl) pa_nil)))))))), ?_⟩
    refine rd_isd hd rfl (kit_int d) ⟨_, rfl, ?_⟩
    cases d with
    | int i => exact iteT (rd_isd hd rfl (kit_bool _) ⟨_, rfl, q0⟩)
    | bool b => exact iteT (rd_isd hd rfl (kit_bool _) ⟨_, rfl, q0⟩)
    | _ => exact iteF q0
theorem scIsTupleOf : FnScope ["value", "many"] ["value", "many"] (defScope sIsTupleOf) := ⟨rfl, rfl, rfl, by decide +kernel, rfl, by decide +kernel, by decide +kernel⟩
theorem ok_isTupleOf {f : Addr} {fd : FuncData} (F : FnT K "is_tuple_of" sIsTupleOf f fd) (B : Bn mg) : FnOk P w K mg base CX0 1 f fd ["value", "many"] (spIs2 K isTupN) := by
  refine F.ok scIsTupleOf (fun vs H Q E h => ?_) (fun cdv A outer s H vs Q E hr h => ?_)
  · obtain ⟨v, d, m, rfl, _⟩ := h
    rfl
  · obtain ⟨v, d, m, rfl, hm, hd, q⟩ := h
    have q0 := q H (fun _ _ e => e)
    refine ⟨_, PSs.nox (pss_one (ps_ret (pe_and (pe_callB call_isi (by rfl) B.isi PyProof.Rows.boot_isinstance (pa_cons (pv 0) (pa_cons (pe_bltn (v := .ty "tuple") (by rfl) B.tup (by decide +kernel) rfl) pa_nil)))
      (pe_one (pe_cmpR op_eq (pe_callB call_len (by rfl) B.len boot_len (pa_cons (pv 0) pa_nil)) (pv 1) (nomark _)))))), ?_⟩
    refine rd_isd hd rfl (kit_tup d) ⟨_, rfl, ?_⟩
    cases d with
    | tuple ds =>
      cases hd with
      | @tup a xs _ h1 h2 =>
        refine iteT ⟨_, rfl, _, _, rfl, .inr ⟨_, h1, rfl⟩, _, rfl, rfl, ?_⟩
        have e : decide (V.int (xs.length : Int) = V.int (m : Int)) = decide (ds.length = m) := by
          rw [h2.len]
          by_cases c : ds.length = m
          · rw [decide_eq_true c, decide_eq_true (by rw [c])]
          · rw [decide_eq_false c, decide_eq_false (fun z => c (by injection z with z; omega))]
        rw [e]
        exact q0
    | _ => exact iteF q0
/-! ### names -/
def LET : Str := "abcdefghijklmnopqrstuvwxyz"
def DIG : Str := "0123456789"
structure Cn (mg : Str → Option Value) : Prop where
  letters : ∃ t, mg "LETTERS" = some (.str LET t)
  digits : ∃ t, mg "DIGITS" = some (.str DIG t)
  chars : ∃ t, mg "MOST_CHARACTERS" = some (.int 8 t)
  bound : ∃ t, mg "BOUND" = some (.str "bound" t)
  unknowns : ∃ t, mg "MOST_UNKNOWNS" = some (.int 3 t)
  rows : ∃ t, mg "MOST_ROWS" = some (.int 6 t)
  number : ∃ t, mg "MOST_NUMBER" = some (.int 10000 t)
def isLet (c : Nat) : Bool := decide (c ∈ LET.cps.toList)
def isSign (c : Nat) : Bool := isLet c || decide (c ∈ DIG.cps.toList)
def nameS (x : Str) : Bool := decide (1 ≤ x.length) && (decide (x.length ≤ 8) && (isLet (x.cps.toList.getD 0 0) && x.cps.toList.all isSign))
def isNameD : PyData → Bool
  | .str x => nameS x
  | _ => false
theorem all_range (l : List Nat) (g : Nat → Bool) (n : Nat) (h : l.length = n) : ((List.range n).map fun i => g (l.getD i 0)).all id = l.all g := by
  have e : ((List.range n).map fun i => g (l.getD i 0)) = l.map g := by
    refine List.ext_getElem (by simp [h]) fun i h1 h2 => ?_
    have hi : i < l.length := by simpa using h2
    simp [List.getElem?_eq_getElem hi]
  rw [e, List.all_map]
  rfl
theorem scIsName : FnScope ["value", "char"] ["value"] (defScope sIsName) := ⟨rfl, rfl, rfl, by decide +kernel, rfl, by decide +kernel, by decide +kernel⟩
theorem ok_isName {f : Addr} {fd : FuncData} (F : FnT K "is_name" sIsName f fd) (B : Bn mg) (C : Cn mg) : FnOk P w K mg base CX0 1 f fd ["value"] (spIs K isNameD) := by
  obtain ⟨t1, c1⟩ := C.letters
  obtain ⟨t2, c2⟩ := C.digits
  obtain ⟨t3, c3⟩ := C.chars
  refine F.ok scIsName (fun vs H Q E h => ?_) (fun cdv A outer s H vs Q E hr h => ?_)
  · obtain ⟨v, d, rfl, _⟩ := h
    rfl
  · obtain ⟨v, d, rfl, hd, q⟩ := h
    have nd := scIsName.nd
    have q0 := q H (fun _ _ e => e)
    refine ⟨_, PSs.nox (pss_cons (ps_if (PW.pt (pw_or (pt_not (pt_val (pe_callB call_isi (by rfl) B.isi PyProof.Rows.boot_isinstance (pa_cons (pv 0) (pa_cons (pe_bltn (v := .ty "str") (by rfl) B.str (by decide +kernel) rfl) pa_nil)))))
        (pw_or1 (pt_not (pt_chain op_le op_le pe_int (pe_callB call_len (by rfl) B.len boot_len (pa_cons (pv 0) pa_nil)) (pe_glob (v := .int 8) rfl c3 ⟨_, rfl⟩)))))) (pss_one (ps_ret pe_bl)) pss_nil)
      (pss_one (ps_ret (pe_and (pe_cmpR op_in_sign (pe_ix ix_str (pv 0) pe_int (fun _ _ => rfl)) (pe_glob (v := .str LET) rfl c1 ⟨_, rfl⟩) (by rfl))
        (pe_one (pe_callB (cr_all rfl) (by rfl) B.all PyProof.Rows.boot_all (pa_cons (pe_lc (own := [("char", 1)]) (g := gName 1) (tt := tYes) rfl nd (pi_str (pv 0))
          (blkOk_by (own := [("char", 1)]) (N := ["value", "char"]) (sc := defScope sIsName) (by decide +kernel)) (fun _ _ _ _ _ => pg_name (i := 1) nd rfl (Or.inl rfl)) (fun _ _ _ _ _ => pts_nil)
          (fun _ _ _ _ _ => pe_or (pe_cmpR op_in_sign (pv 1) (pe_glob (v := .str LET) rfl c1 ⟨_, rfl⟩) (by rfl)) (pe_one (pe_cmpR op_in_sign (pv 1) (pe_glob (v := .str DIG) rfl c2 ⟨_, rfl⟩) (by rfl))))) pa_nil))))))), ?_⟩
    refine rd_isd hd rfl (kit_str d) ⟨_, rfl, ?_⟩
    cases d with
    | str x =>
      cases hd with
      | str _ hx =>
        have hx2 : x.length ≤ sizeLine := Nat.le_trans hx (by decide)
        have fin0 : nameS x = false → Q (.bl false) H := fun z => by
          have q1 : Q (.bl (nameS x)) H := q0
          rw [z] at q1
          exact q1
        refine iteF ⟨_, rfl, _, x.length, rfl, ⟨hx2, rfl⟩, _, _, rfl, rfl, _, rfl, ?_⟩
        by_cases g1 : 1 ≤ x.length
        · rw [decide_eq_true (show (1 : Int) ≤ (x.length : Int) by omega)]
          refine iteT ⟨_, _, rfl, rfl, _, rfl, ?_⟩
          by_cases g2 : x.length ≤ 8
          · rw [decide_eq_true (show ((x.length : Nat) : Int) ≤ (8 : Int) by omega)]
            have hsz : 0 < x.cps.toList.length := by
              show 0 < x.cps.toList.length
              rw [Array.length_toList]
              exact g1
            have hc : x.cps.toList[0]? = some (x.cps.toList.getD 0 0) := by
              rw [List.getD_eq_getElem?_getD, List.getElem?_eq_getElem hsz]
              rfl
            refine iteF ⟨_, rfl, x, 0, x.cps.toList.getD 0 0, rfl, rfl, hx2, atI_nat (j := 0) hc, _, _, rfl, rfl, _, rfl, ?_⟩
            have en : nameS x = (isLet (x.cps.toList.getD 0 0) && x.cps.toList.all isSign) := by
              unfold nameS
              rw [decide_eq_true g1, decide_eq_true g2]
              rfl
            have q2 : ∀ H', Same H H' → Q (.bl (isLet (x.cps.toList.getD 0 0) && x.cps.toList.all isSign)) H' := fun H' s => by
              rw [← en]
              exact q H' s
            refine ite2 (fun g3 => ?_) (fun g3 => ?_)
            · rw [show isLet (x.cps.toList.getD 0 0) = true from g3] at q2
              refine ⟨_, rfl, x, rfl, fun D hD => lc_known walk_str (fun i => .bl (isSign (x.cps.toList.getD i 0))) (by show x.length ≤ 100000; omega) hD (fun _ _ => trivial) (fun _ _ _ _ y => by obtain ⟨rfl, _⟩ := y; exact fun _ _ e => e) (fun _ => rfl) ?_ ?_⟩
              · rintro i _ H1 _ Qk hi s1 ⟨rfl, c, hc, rfl⟩ k
                have ec : x.cps.toList.getD i 0 = c := by
                  rw [List.getD_eq_getElem?_getD, Array.getElem?_toList, hc]
                  rfl
                have k1 := k _ (fun _ _ e => e)
                rw [ec] at k1
                refine ⟨_, rfl, c, LET, rfl, rfl, _, rfl, ite2 (fun g4 => ?_) (fun g4 => ⟨_, rfl, c, DIG, rfl, rfl, ?_⟩)⟩
                · rw [show isSign c = true from by unfold isSign isLet; rw [g4]; rfl] at k1
                  exact k1
                · rw [show isSign c = decide (c ∈ DIG.cps.toList) from by unfold isSign isLet; rw [Bool.eq_false_iff.mpr g4]; rfl] at k1
                  exact k1
              · intro H1 s1 bD
                refine ⟨D, (List.range x.cps.size).map fun i => isSign (x.cps.toList.getD i 0), rfl, SqL.of (by rw [bD, List.map_map]; rfl), ?_⟩
                rw [all_range x.cps.toList isSign x.cps.size Array.length_toList]
                exact q2 H1 s1
            · rw [show isLet (x.cps.toList.getD 0 0) = false from Bool.eq_false_iff.mpr g3] at q2
              exact q2 H fun _ _ e => e
          · rw [decide_eq_false (show ¬ ((x.length : Nat) : Int) ≤ (8 : Int) by omega)]
            exact iteT (fin0 (by unfold nameS; rw [decide_eq_false g2, Bool.false_and, Bool.and_false]))
        · rw [decide_eq_false (show ¬ (1 : Int) ≤ (x.length : Int) by omega)]
          exact iteF ⟨_, rfl, iteT (fin0 (by unfold nameS; rw [decide_eq_false g1, Bool.false_and]))⟩
    | _ => exact iteT q0
end
end Ca
set_option Elab.async false
set_option linter.all false
set_option maxRecDepth 100000
set_option maxHeartbeats 4000000
namespace Ca
open PySem L2
def isUnknownD : PyData → Bool
  | .str x => nameS x && !decide (x = "bound")
  | _ => false
def isStretchD : PyData → Bool
  | .tuple [.int a, .int b] => decide (-10000 ≤ a) && (decide (a ≤ b) && decide (b ≤ 10000))
  | _ => false
def partsOf : PyData → List PyData
  | .tuple ps => ps
  | _ => []
def isRowD : PyData → Nat → Bool
  | .tuple [n, p, b], m => isNameD n && (isTupN p m && ((partsOf p ++ [b]).all isStretchD))
  | _, _ => false
section
variable {P : Program} {w : World} {K : PySem.W.Frag} {mg : Str → Option Value} {base : Heap}
theorem bind1 {x : Str} {st : Stmt} {f : Addr} {fd : FuncData} {p : Str} (F : FnT K x st f fd) (h : ∀ (kV doc pm : Value) (an : Option Addr) (cdv ct : Value) (u : Value), bindArgs (PySem.W.fnOf x x (defArgs st) (defBody st) (defScope st) .none kV doc pm an cdv ct) ⟨[u], []⟩ = pure [(p, u)]) : Binds K fd [p] [] :=
  F.bindsN fun kV doc pm an cdv ct us hl => match us, hl with | [u], _ => h kV doc pm an cdv ct u
theorem scIsUnknown : FnScope ["value"] ["value"] (defScope sIsUnknown) := ⟨rfl, rfl, rfl, by decide +kernel, rfl, by decide +kernel, by decide +kernel⟩
theorem ok_isUnknown {f fN : Addr} {fd fdN : FuncData} (F : FnT K "is_unknown" sIsUnknown f fd) (C : Cn mg) (gN : mg "is_name" = some (.ref fN)) (GN : FnOk P w K mg base CX0 1 fN fdN ["value"] (spIs K isNameD)) (kN : PySem.W.keepIn K (.ref fN) = true) (bN : Binds K fdN ["value"] []) :
    FnOk P w K mg base CX0 2 f fd ["value"] (spIs K isUnknownD) := by
  obtain ⟨t1, c1⟩ := C.bound
  refine F.ok scIsUnknown (fun vs H Q E h => ?_) (fun cdv A outer s H vs Q E hr h => ?_)
  · obtain ⟨v, d, rfl, _⟩ := h
    rfl
  · obtain ⟨v, d, rfl, hd, q⟩ := h
    refine ⟨_, PSs.nox (pss_one (ps_ret (pe_and (pe_call GN hr rfl gN kN bN .nil pass0 (pa_cons (pv 0) pa_nil)) (pe_one (pe_cmpR op_ne (pv 0) (pe_glob (v := .str "bound") rfl c1 ⟨_, rfl⟩) (nomark _)))))), ?_⟩
    refine ⟨_, rfl, v, d, rfl, hd, fun H1 s1 => ⟨_, rfl, ?_⟩⟩
    cases d with
    | str x =>
      cases hd with
      | str _ hx =>
        have q1 : Q (.bl (nameS x && !decide (x = "bound"))) H1 := q H1 s1
        refine ite2 (fun g => ?_) (fun g => ?_)
        · have g' : nameS x = true := g
          rw [g', Bool.true_and] at q1
          refine ⟨_, rfl, rfl, ?_⟩
          rw [show decide (V.str x = V.str "bound") = decide (x = "bound") from by
            by_cases z : x = "bound"
            · rw [decide_eq_true z, decide_eq_true (by rw [z])]
            · rw [decide_eq_false z, decide_eq_false (fun y => z (by injection y))]]
          exact q1
        · have g' : nameS x = false := Bool.eq_false_iff.mpr g
          rw [g', Bool.false_and] at q1
          exact q1
    | _ => exact iteF (q H1 s1)
theorem scIsStretch : FnScope ["value", "low", "high"] ["value"] (defScope sIsStretch) := ⟨rfl, rfl, rfl, by decide +kernel, rfl, by decide +kernel, by decide +kernel⟩
theorem ok_isStretch {f fT fI : Addr} {fd fdT fdI : FuncData} (F : FnT K "is_stretch" sIsStretch f fd) (C : Cn mg)
    (gT : mg "is_tuple_of" = some (.ref fT)) (GT : FnOk P w K mg base CX0 1 fT fdT ["value", "many"] (spIs2 K isTupN)) (kT : PySem.W.keepIn K (.ref fT) = true) (bT : Binds K fdT ["value", "many"] [])
    (gI : mg "is_integer" = some (.ref fI)) (GI : FnOk P w K mg base CX0 1 fI fdI ["value"] (spIs K isInt)) (kI : PySem.W.keepIn K (.ref fI) = true) (bI : Binds K fdI ["value"] []) :
    FnOk P w K mg base CX0 2 f fd ["value"] (spIs K isStretchD) := by
  obtain ⟨t1, c1⟩ := C.number
  refine F.ok scIsStretch (fun vs H Q E h => ?_) (fun cdv A outer s H vs Q E hr h => ?_)
  · obtain ⟨v, d, rfl, _⟩ := h
    rfl
  · obtain ⟨v, d, rfl, hd, q⟩ := h
    have nd := scIsStretch.nd
    refine ⟨_, PSs.nox (pss_cons (ps_if (pt_not (pt_val (pe_call GT hr rfl gT kT bT .nil pass0 (pa_cons (pv 0) (pa_cons pe_int pa_nil))))) (pss_one (ps_ret pe_bl)) pss_nil)
      (pss_cons (ps_asg (pv 0) (pg_tup rfl (pgs_cons (pg_name (i := 1) nd rfl (.inl rfl)) (pgs_cons (pg_name (i := 2) nd rfl (.inl rfl)) pgs_nil))))
      (pss_one (ps_ret (pe_and (pe_call GI hr rfl gI kI bI .nil pass0 (pa_cons (pv 1) pa_nil)) (pe_and (pe_call GI hr rfl gI kI bI .nil pass0 (pa_cons (pv 2) pa_nil))
        (pe_one (pe_chain3 op_le op_le op_le (pe_un un_neg (pe_glob (v := .int 10000) rfl c1 ⟨_, rfl⟩)) (pv 1) (pv 2) (pe_glob (v := .int 10000) rfl c1 ⟨_, rfl⟩))))))))), ?_⟩
    refine ⟨_, rfl, v, d, 2, rfl, by decide, hd, fun H1 s1 => ⟨_, rfl, ?_⟩⟩
    have bad : isTupN d 2 = false → isStretchD d = false := fun z => by
      cases d with
      | tuple ds =>
        match ds with
        | [] => simp [isStretchD]
        | [_] => simp [isStretchD]
        | [_, _] => cases z
        | _ :: _ :: _ :: _ => simp [isStretchD]
      | _ => rfl
    cases g : isTupN d 2 with
    | false =>
      have q1 := q H1 s1
      rw [bad g] at q1
      exact iteT q1
    | true =>
      cases d with
      | tuple ds =>
        have hl : ds.length = 2 := of_decide_eq_true g
        match ds, hl with
        | [d1, d2], _ =>
          have hd1 := hd.same s1
          cases hd1 with
          | @tup a xs _ h1 h2 =>
            cases h2 with
            | @cons v1 _ _ _ e1 r1 =>
              cases r1 with
              | @cons v2 _ _ _ e2 r2 =>
                cases r2
                refine iteF ⟨_, rfl, a, _, rfl, h1, rfl, _, _, rfl, _, _, rfl, rfl, ?_⟩
                refine ⟨_, rfl, v1, d1, rfl, e1, fun H2 s2 => ⟨_, rfl, ?_⟩⟩
                have q2 := fun H3 (s3 : Same H2 H3) => q H3 (s1.trans (s2.trans s3))
                cases d1 with
                | int i =>
                  refine iteT ⟨_, rfl, v2, d2, rfl, e2.same s2, fun H3 s3 => ⟨_, rfl, ?_⟩⟩
                  have q3 := q2 H3 s3
                  cases d2 with
                  | int j =>
                    cases e1
                    cases e2
                    refine iteT ⟨_, rfl, _, rfl, _, _, rfl, rfl, _, rfl, ?_⟩
                    have q4 : Q (.bl (decide (-10000 ≤ i) && (decide (i ≤ j) && decide (j ≤ 10000)))) H3 := q3
                    refine ite2 (fun g1 => ?_) (fun g1 => ?_)
                    · rw [g1, Bool.true_and] at q4
                      refine ⟨_, rfl, _, _, rfl, rfl, _, rfl, ite2 (fun g2 => ?_) (fun g2 => ?_)⟩
                      · rw [g2, Bool.true_and] at q4
                        exact ⟨_, _, rfl, rfl, q4⟩
                      · rw [Bool.eq_false_iff.mpr g2, Bool.false_and] at q4
                        exact q4
                    · rw [Bool.eq_false_iff.mpr g1, Bool.false_and] at q4
                      exact q4
                  | _ => exact iteF q3
                | _ => exact iteF (q2 H2 fun _ _ e => e)
      | _ => cases g
theorem all_getD (ds : List PyData) (g : PyData → Bool) (n : Nat) (h : ds.length = n) : ((List.range n).map fun i => g (ds.getD i .none)).all id = ds.all g := by
  have e : ((List.range n).map fun i => g (ds.getD i .none)) = ds.map g := by
    refine List.ext_getElem (by simp [h]) fun i h1 h2 => ?_
    have hi : i < ds.length := by simpa using h2
    simp [List.getElem?_eq_getElem hi]
  rw [e, List.all_map]
  rfl
theorem row_bad {d : PyData} {m : Nat} (z : isTupN d 3 = false) : isRowD d m = false := by
  cases d with
  | tuple ds =>
    match ds with
    | [] => simp [isRowD]
    | [_] => simp [isRowD]
    | [_, _] => simp [isRowD]
    | [_, _, _] => cases z
    | _ :: _ :: _ :: _ :: _ => simp [isRowD]
  | _ => simp [isRowD]
abbrev NRow : List Str := ["value", "many", "name", "stretches", "bound", "stretch"]
theorem scIsRow : FnScope NRow ["value", "many"] (defScope sIsRow) := ⟨rfl, rfl, rfl, by decide +kernel, rfl, by decide +kernel, by decide +kernel⟩
theorem ok_isRow {f fT fN fS : Addr} {fd fdT fdN fdS : FuncData} (F : FnT K "is_row" sIsRow f fd) (B : Bn mg)
    (gT : mg "is_tuple_of" = some (.ref fT)) (GT : FnOk P w K mg base CX0 1 fT fdT ["value", "many"] (spIs2 K isTupN)) (kT : PySem.W.keepIn K (.ref fT) = true) (bT : Binds K fdT ["value", "many"] [])
    (gN : mg "is_name" = some (.ref fN)) (GN : FnOk P w K mg base CX0 1 fN fdN ["value"] (spIs K isNameD)) (kN : PySem.W.keepIn K (.ref fN) = true) (bN : Binds K fdN ["value"] [])
    (gS : mg "is_stretch" = some (.ref fS)) (GS : FnOk P w K mg base CX0 2 fS fdS ["value"] (spIs K isStretchD)) (kS : PySem.W.keepIn K (.ref fS) = true) (bS : Binds K fdS ["value"] []) :
    FnOk P w K mg base CX0 3 f fd ["value", "many"] (spIs2 K isRowD) := by
  refine F.ok scIsRow (fun vs H Q E h => ?_) (fun cdv A outer s H vs Q E hr h => ?_)
  · obtain ⟨v, d, m, rfl, _⟩ := h
    rfl
  · obtain ⟨v, d, m, rfl, hm, hd, q⟩ := h
    have nd := scIsRow.nd
    have hr1 : Room 1 _ := hr.mono (by decide)
    refine ⟨_, PSs.nox (pss_cons (ps_if (pt_not (pt_val (pe_call GT hr1 rfl gT kT bT .nil pass0 (pa_cons (pv 0) (pa_cons pe_int pa_nil))))) (pss_one (ps_ret pe_bl)) pss_nil)
      (pss_cons (ps_asg (pv 0) (pg_tup rfl (pgs_cons (pg_name (i := 2) nd rfl (.inl rfl)) (pgs_cons (pg_name (i := 3) nd rfl (.inl rfl)) (pgs_cons (pg_name (i := 4) nd rfl (.inl rfl)) pgs_nil)))))
      (pss_cons (ps_if (PW.pt (pw_or (pt_not (pt_val (pe_call GN hr1 rfl gN kN bN .nil pass0 (pa_cons (pv 2) pa_nil)))) (pw_or1 (pt_not (pt_val (pe_call GT hr1 rfl gT kT bT .nil pass0 (pa_cons (pv 3) (pa_cons (pv 1) pa_nil)))))))) (pss_one (ps_ret pe_bl)) pss_nil)
      (pss_one (ps_ret (pe_callB (cr_all rfl) (by rfl) B.all PyProof.Rows.boot_all (pa_cons (pe_lc (own := [("stretch", 5)]) (g := gName 5) (tt := tYes) rfl nd (pi_tup (pe_tup (StX.pa_star (pv 3) (pa_cons (pv 4) pa_nil))))
          (blkOk_by (own := [("stretch", 5)]) (N := NRow) (sc := defScope sIsRow) (by decide +kernel)) (fun _ _ _ _ _ => pg_name (i := 5) nd rfl (Or.inl rfl)) (fun _ _ _ _ _ => pts_nil)
          (fun _ _ _ _ _ => pe_call GS hr rfl gS kS bS .nil pass0 (pa_cons (pv 5) pa_nil))) pa_nil))))))), ?_⟩
    refine ⟨_, rfl, v, d, 3, rfl, by decide, hd, fun H1 s1 => ⟨_, rfl, ?_⟩⟩
    cases g : isTupN d 3 with
    | false =>
      have q1 := q H1 s1
      rw [row_bad g] at q1
      exact iteT q1
    | true =>
      cases d with
      | tuple ds =>
        have hl : ds.length = 3 := of_decide_eq_true g
        match ds, hl with
        | [d1, d2, d3], _ =>
          have hd1 := hd.same s1
          cases hd1 with
          | @tup a xs _ h1 h2 =>
            cases h2 with
            | @cons v1 _ _ _ e1 r1 =>
              cases r1 with
              | @cons v2 _ _ _ e2 r2 =>
                cases r2 with
                | @cons v3 _ _ _ e3 r3 =>
                  cases r3
                  refine iteF ⟨_, rfl, a, _, rfl, h1, rfl, _, _, rfl, _, _, rfl, _, _, rfl, rfl, ?_⟩
                  refine ⟨_, rfl, v1, d1, rfl, e1, fun H2 s2 => ⟨_, rfl, ?_⟩⟩
                  have q2 : ∀ H', Same H2 H' → Q (.bl (isNameD d1 && (isTupN d2 m && ((partsOf d2 ++ [d3]).all isStretchD)))) H' := fun H' s' => q H' (s1.trans (s2.trans s'))
                  cases g2 : isNameD d1 with
                  | false =>
                    rw [g2] at q2
                    exact iteT (q2 H2 fun _ _ e => e)
                  | true =>
                    rw [g2] at q2
                    refine iteF ⟨_, rfl, _, rfl, v2, d2, m, rfl, hm, e2.same s2, fun H3 s3 => ⟨_, rfl, ?_⟩⟩
                    cases g3 : isTupN d2 m with
                    | false =>
                      rw [g3] at q2
                      exact iteT (q2 H3 s3)
                    | true =>
                      rw [g3] at q2
                      cases d2 with
                      | tuple ps =>
                        have hps : ps.length = m := of_decide_eq_true g3
                        have e2' := e2.same (s2.trans s3)
                        cases e2' with
                        | @tup a2 xs2 _ h3 h4 =>
                          have hx2 : xs2.length = m := by rw [h4.len, hps]
                          have hall : DqAll K H3 (xs2 ++ [v3]) (ps ++ [d3]) := h4.app (.cons (e3.same (s2.trans s3)) .nil)
                          refine iteF ⟨_, rfl, a2, xs2, rfl, .inl h3, _, rfl, by rw [List.length_append, hx2]; exact Nat.le_trans (Nat.succ_le_succ hm) (by decide), fun p hp => ⟨p, rfl, ⟨_, SqT.of upd_same⟩, fun D hD => ?_⟩⟩
                          have s4 : Same H3 (upd H3 p (.tup (xs2 ++ [v3]))) := Same.new hp
                          refine lc_known (walk_tup (K := K) (a := p) (xs := xs2 ++ [v3])) (fun i => .bl (isStretchD ((ps ++ [d3]).getD i .none))) (by rw [List.length_append, hx2]; show m + 1 ≤ 100000; omega) hD (fun H' s' => same_sqt s' (SqT.of upd_same)) (fun _ _ _ _ y => by obtain ⟨rfl, _⟩ := y; exact fun _ _ e => e) (fun _ => rfl) ?_ ?_
                          · rintro i x H5 H6 Qk hi s5 ⟨rfl, hx⟩ k
                            obtain ⟨d, hdi, hdq⟩ := (hall.same (s4.trans s5)).get hx
                            have ed : (ps ++ [d3]).getD i .none = d := by
                              rw [List.getD_eq_getElem?_getD, hdi]
                              rfl
                            refine ⟨_, rfl, x, d, rfl, hdq, fun H7 s7 => ?_⟩
                            have k1 := k H7 s7
                            rw [ed] at k1
                            exact k1
                          · intro H5 s5 bD
                            refine ⟨D, (List.range (xs2 ++ [v3]).length).map fun i => isStretchD ((ps ++ [d3]).getD i .none), rfl, SqL.of (by rw [bD, List.map_map]; rfl), ?_⟩
                            rw [all_getD (ps ++ [d3]) isStretchD _ (by rw [List.length_append, List.length_append, hx2, hps]; rfl)]
                            exact q2 H5 (s3.trans (s4.trans s5))
                      | _ => cases g3
      | _ => cases g
end
end Ca
set_option Elab.async false
set_option linter.all false
set_option maxRecDepth 100000
set_option maxHeartbeats 4000000
namespace Ca
open PySem L2
structure Folk (ns : List Str) : Prop where
  lo : 1 ≤ ns.length
  hi : ns.length ≤ 3
  ok : ∀ x ∈ ns, isUnknownD (.str x) = true
  nd : ns.Nodup
def folkD (ns : List Str) : PyData := .tuple (ns.map .str)
theorem strs_of {K : PySem.W.Frag} {H : Hp} : ∀ {ns : List Str} {xs : List V}, DqAll K H xs (ns.map .str) → xs = ns.map V.str ∧ ∀ x ∈ ns, x.length ≤ 1000
  | [], _, .nil => ⟨rfl, fun _ z => nomatch z⟩
  | n :: ns, _, .cons (.str _ h) t => by
    obtain ⟨e, q⟩ := strs_of (ns := ns) t
    refine ⟨by rw [e]; rfl, fun x z => ?_⟩
    rcases List.mem_cons.mp z with rfl | z
    · exact h
    · exact q x z
theorem flat_strs : ∀ ns : List Str, (ns.map V.str).all flatV = true
  | [] => rfl
  | n :: ns => flat_strs ns
theorem inV_strs (x : Str) : ∀ ns : List Str, inV (.str x) (ns.map V.str) = decide (x ∈ ns)
  | [] => rfl
  | n :: ns => by
    show (eqV (.str n) (.str x) || inV (.str x) (ns.map V.str)) = _
    rw [inV_strs x ns]
    by_cases h : n = x
    · subst h
      have e : eqV (.str n) (.str n) = true := by show decide (n = n) = true; exact decide_eq_true rfl
      rw [e, decide_eq_true (List.mem_cons_self ..)]
      rfl
    · have e : eqV (.str n) (.str x) = false := by show decide (n = x) = false; exact decide_eq_false h
      rw [e, Bool.false_or]
      by_cases g : x ∈ ns
      · rw [decide_eq_true g, decide_eq_true (List.mem_cons_of_mem _ g)]
      · rw [decide_eq_false g, decide_eq_false fun z => (List.mem_cons.mp z).elim (fun y => h y.symm) g]
def spCheckU (K : PySem.W.Frag) : Sp := fun vs H Q _ => ∃ v ns, vs = [v] ∧ Dq K H v (folkD ns) ∧ Folk ns ∧ ∀ H', Same H H' → Q .non H'
section
variable {P : Program} {w : World} {K : PySem.W.Frag} {mg : Str → Option Value} {base : Heap}
theorem scCheckU : FnScope ["unknowns", "index", "name"] ["unknowns"] (defScope sCheckUnknowns) := ⟨rfl, rfl, rfl, by decide +kernel, rfl, by decide +kernel, by decide +kernel⟩
theorem ok_checkU {f fU : Addr} {fd fdU : FuncData} (F : FnT K "check_unknowns" sCheckUnknowns f fd) (B : Bn mg) (C : Cn mg)
    (gU : mg "is_unknown" = some (.ref fU)) (GU : FnOk P w K mg base CX0 2 fU fdU ["value"] (spIs K isUnknownD)) (kU : PySem.W.keepIn K (.ref fU) = true) (bU : Binds K fdU ["value"] []) :
    FnOk P w K mg base CX0 3 f fd ["unknowns"] (spCheckU K) := by
  obtain ⟨t1, c1⟩ := C.unknowns
  refine F.ok scCheckU (fun vs H Q E h => ?_) (fun cdv A outer s H vs Q E hr h => ?_)
  · obtain ⟨v, d, rfl, _⟩ := h
    rfl
  · obtain ⟨v, ns, rfl, hd, N, q⟩ := h
    have nd := scCheckU.nd
    refine ⟨_, PSs.nox (pss_cons (ps_if (PW.pt (pw_or (pt_not (pt_val (pe_callB call_isi (by rfl) B.isi PyProof.Rows.boot_isinstance (pa_cons (pv 0) (pa_cons (pe_bltn (v := .ty "tuple") (by rfl) B.tup (by decide +kernel) rfl) pa_nil)))))
        (pw_or1 (pt_cmpR op_eq (pe_callB call_len (by rfl) B.len boot_len (pa_cons (pv 0) pa_nil)) pe_int (nomark _))))) (pss_one ps_never) pss_nil)
      (pss_one (ps_for PassesOwn.never rfl (pi_enumT (by rfl) B.enum (pa_cons (pv 0) pa_nil)) (pg_tup rfl (pgs_cons (pg_name (i := 1) nd rfl (.inl rfl)) (pgs_cons (pg_name (i := 2) nd rfl (.inl rfl)) pgs_nil)))
        (pss_one (ps_if (PW.pt (pw_or (pt_cmpR op_eq (pv 1) (pe_glob (v := .int 3) rfl c1 ⟨_, rfl⟩) (nomark _)) (pw_or (pt_not (pt_val (pe_call GU hr rfl gU kU bU .nil pass0 (pa_cons (pv 2) pa_nil))))
          (pw_or1 (pt_cmpR op_in_seq (pv 2) (pe_slice sl_tupA (pv 0) po_none (po_some (pv 1))) (by rfl)))))) (pss_one ps_never) pss_nil))))), ?_⟩
    have hd0 := hd
    cases hd with
    | @tup a xs _ h1 h2 =>
      obtain ⟨rfl, hlen⟩ := strs_of h2
      have hl : (ns.map V.str).length = ns.length := List.length_map ..
      refine rd_isd hd0 rfl (kit_tup _) ⟨_, rfl, iteF ⟨_, rfl, _, _, rfl, .inr ⟨_, h1, rfl⟩, rfl, _, rfl, ?_⟩⟩
      rw [decide_eq_false (fun z => by injection z with z; rw [hl] at z; have := N.lo; omega)]
      refine iteF ⟨_, rfl, a, _, rfl, h1, ?_⟩
      refine for_it walk_enumT (fun i σ' H' => i ≤ ns.length ∧ (∃ o1 o2, σ' = [some (.ref a), o1, o2]) ∧ Same H H') ⟨Nat.zero_le _, ⟨_, _, rfl⟩, fun _ _ e => e⟩ (fun i σ' H' hi p => same_sqt p.2.2 h1) ?_ (fun σ' H' p => q H' p.2.2)
      rintro i _ _ H1 _ hi ⟨_, ⟨o1, o2, rfl⟩, s1⟩ ⟨T, x, rfl, hT, rfl, hx⟩
      refine ⟨T, _, rfl, SqT.of upd_same, rfl, _, _, rfl, _, _, rfl, rfl, ?_⟩
      have hil : i < ns.length := by rw [← hl]; exact hi
      obtain ⟨z, hz, rfl⟩ : ∃ z, ns[i]? = some z ∧ x = .str z := by
        rw [List.getElem?_map] at hx
        cases e : ns[i]? with
        | none => rw [e] at hx; cases hx
        | some z => rw [e] at hx; exact ⟨z, rfl, (Option.some.inj hx).symm⟩
      have hzm : z ∈ ns := List.mem_of_getElem? hz
      have s2 : Same H1 (upd H1 T (.tup [.int (i : Nat), .str z])) := Same.new hT
      refine ⟨_, rfl, rfl, _, rfl, ?_⟩
      rw [decide_eq_false (fun y => by injection y with y; have := N.hi; omega)]
      refine iteF ⟨_, rfl, _, _, rfl, .str z (hlen z hzm), fun H3 s3 => ⟨_, rfl, ?_⟩⟩
      rw [N.ok z hzm]
      have h3 : SqT K H3 a (ns.map V.str) := same_sqt (s1.trans (s2.trans s3)) h1
      refine iteF ⟨_, rfl, _, rfl, _, rfl, i, rfl, a, _, rfl, h3, fun y => ?_, fun _ p hp => ⟨p, _, rfl, .inr (SqT.of upd_same), rfl, ?_, _, rfl, ?_⟩⟩
      · have := y.2
        rw [HT.sIx_nat, hl] at this
        omega
      · unfold cutV
        rw [List.all_eq_true]
        intro b hb
        exact List.all_eq_true.mp (flat_strs ns) b (List.mem_of_mem_drop (List.mem_of_mem_take hb))
      · have ec : cutV (ns.map V.str) none (some (i : Int)) = (ns.take i).map V.str := by
          unfold cutV
          rw [HT.sIx_none, HT.sIx_nat, hl, List.drop_zero, Nat.sub_zero, Nat.min_eq_left (Nat.le_of_lt hil), List.map_take]
        rw [ec]
        rw [inV_strs, decide_eq_false (fun y => by
          obtain ⟨j, hj, ej⟩ := List.mem_iff_getElem.mp y
          rw [List.getElem_take] at ej
          have hj2 : j < i := by
            have := hj
            rw [List.length_take] at this
            omega
          have ei : ns[i] = z := by
            have := List.getElem?_eq_getElem hil
            rw [hz] at this
            exact (Option.some.inj this).symm
          exact List.pairwise_iff_getElem.mp N.nd j i (by omega) hil hj2 (ej.trans ei.symm))]
        exact iteF ⟨hil, ⟨_, _, rfl⟩, s1.trans (s2.trans (s3.trans (Same.new hp)))⟩
end
/-! ### rows -/
structure Rw where
  name : Str
  parts : List (Int × Int)
  bd : Int × Int
deriving DecidableEq
def strD (p : Int × Int) : PyData := .tuple [.int p.1, .int p.2]
def rowD (r : Rw) : PyData := .tuple [.str r.name, .tuple (r.parts.map strD), strD r.bd]
def rowsD (rs : List Rw) : PyData := .tuple (rs.map rowD)
structure Lines (rs : List Rw) (m : Nat) : Prop where
  hi : rs.length ≤ 6
  ok : ∀ r ∈ rs, isRowD (rowD r) m = true
  nd : (rs.map Rw.name).Nodup
def spCheckR (K : PySem.W.Frag) : Sp := fun vs H Q _ => ∃ v rs m, vs = [v, .int (m : Nat)] ∧ m ≤ 1000 ∧ Dq K H v (rowsD rs) ∧ Lines rs m ∧ ∀ H', Same H H' → Q .non H'
/-- a row as it stands -/
theorem row_at {K : PySem.W.Frag} {H : Hp} {v : V} {r : Rw} (h : Dq K H v (rowD r)) : ∃ a v2 v3, v = .ref a ∧ SqT K H a [.str r.name, v2, v3] ∧ Dq K H v2 (.tuple (r.parts.map strD)) ∧ Dq K H v3 (strD r.bd) ∧ r.name.length ≤ 1000 := by
  cases h with
  | @tup a xs _ h1 h2 =>
    cases h2 with
    | cons e1 r1 =>
      cases r1 with
      | cons e2 r2 =>
        cases r2 with
        | cons e3 r3 =>
          cases r3
          cases e1 with
          | str _ hx => exact ⟨a, _, _, rfl, h1, e2, e3, hx⟩
section
variable {P : Program} {w : World} {K : PySem.W.Frag} {mg : Str → Option Value} {base : Heap}
theorem scCheckR : FnScope ["rows", "many", "names", "index", "row"] ["rows", "many"] (defScope sCheckRows) := ⟨rfl, rfl, rfl, by decide +kernel, rfl, by decide +kernel, by decide +kernel⟩
theorem ok_checkR {f fR : Addr} {fd fdR : FuncData} (F : FnT K "check_rows" sCheckRows f fd) (B : Bn mg) (C : Cn mg)
    (gR : mg "is_row" = some (.ref fR)) (GR : FnOk P w K mg base CX0 3 fR fdR ["value", "many"] (spIs2 K isRowD)) (kR : PySem.W.keepIn K (.ref fR) = true) (bR : Binds K fdR ["value", "many"] []) :
    FnOk P w K mg base CX0 4 f fd ["rows", "many"] (spCheckR K) := by
  obtain ⟨t1, c1⟩ := C.rows
  refine F.ok scCheckR (fun vs H Q E h => ?_) (fun cdv A outer s H vs Q E hr h => ?_)
  · obtain ⟨v, rs, m, rfl, _⟩ := h
    rfl
  · obtain ⟨v, rs, m, rfl, hm, hd, N, q⟩ := h
    have nd := scCheckR.nd
    refine ⟨_, PSs.nox (pss_cons (ps_if (pt_not (pt_val (pe_callB call_isi (by rfl) B.isi PyProof.Rows.boot_isinstance (pa_cons (pv 0) (pa_cons (pe_bltn (v := .ty "tuple") (by rfl) B.tup (by decide +kernel) rfl) pa_nil))))) (pss_one ps_never) pss_nil)
      (pss_cons (ps_set (i := 2) nd rfl (.inl rfl) (pe_lst pa_nil))
      (pss_one (ps_for PassesOwn.never rfl (pi_enumT (by rfl) B.enum (pa_cons (pv 0) pa_nil)) (pg_tup rfl (pgs_cons (pg_name (i := 3) nd rfl (.inl rfl)) (pgs_cons (pg_name (i := 4) nd rfl (.inl rfl)) pgs_nil)))
        (pss_cons (ps_if (PW.pt (pw_or (pt_cmpR op_eq (pv 3) (pe_glob (v := .int 6) rfl c1 ⟨_, rfl⟩) (nomark _)) (pw_or (pt_not (pt_val (pe_call GR hr rfl gR kR bR .nil pass0 (pa_cons (pv 4) (pa_cons (pv 1) pa_nil)))))
          (pw_or1 (pt_cmpR op_in_seq (pe_ix ix_tup (pv 4) pe_int (fun _ _ => rfl)) (pv 2) (by rfl)))))) (pss_one ps_never) pss_nil)
        (pss_one (ps_expr (pe_bm PySem.F.plainAttrs_list PySem.F.slot_list_append PySem.F.type_list_append mt_append (pv 2) (pa_cons (pe_ix ix_tup (pv 4) pe_int (fun _ _ => rfl)) pa_nil))))))))), ?_⟩
    have hd0 := hd
    cases hd with
    | @tup a xs _ h1 h2 =>
      have hl : xs.length = rs.length := by rw [h2.len, List.length_map]
      refine rd_isd hd0 rfl (kit_tup _) ⟨_, rfl, iteF ⟨by show 0 ≤ sizeLine; decide, fun nl hnl => ?_⟩⟩
      have s0 : Same H (upd H nl (.lst [])) := Same.new hnl
      refine ⟨_, rfl, a, _, rfl, same_sqt s0 h1, ?_⟩
      refine for_it walk_enumT (fun i σ' H' => i ≤ rs.length ∧ (∃ o1 o2, σ' = [some (.ref a), some (.int m), some (.ref nl), o1, o2]) ∧ Same H H' ∧ H' nl = some (.lst (((rs.take i).map Rw.name).map V.str))) ⟨Nat.zero_le _, ⟨_, _, rfl⟩, s0, upd_same⟩ (fun i σ' H' hi p => same_sqt p.2.2.1 h1) ?_ (fun σ' H' p => q H' p.2.2.1)
      rintro i x _ H1 _ hi ⟨_, ⟨o1, o2, rfl⟩, s1, hn1⟩ ⟨T, x, rfl, hT, rfl, hx⟩
      refine ⟨T, _, rfl, SqT.of upd_same, rfl, _, _, rfl, _, _, rfl, rfl, ?_⟩
      have hil : i < rs.length := by rw [← hl]; exact hi
      have s2 : Same H1 (upd H1 T (.tup [.int (i : Nat), x])) := Same.new hT
      obtain ⟨d, hdi, hdq⟩ := (h2.same (s1.trans s2)).get hx
      obtain ⟨r, hr2, rfl⟩ : ∃ r, rs[i]? = some r ∧ d = rowD r := by
        rw [List.getElem?_map, List.getElem?_eq_getElem hil] at hdi
        exact ⟨_, List.getElem?_eq_getElem hil, (Option.some.inj hdi).symm⟩
      have hrm : r ∈ rs := List.mem_of_getElem? hr2
      refine ⟨_, rfl, rfl, _, rfl, ?_⟩
      rw [decide_eq_false (fun y => by injection y with y; have := N.hi; omega)]
      refine iteF ⟨_, rfl, _, rfl, x, _, m, rfl, hm, hdq, fun H3 s3 => ⟨_, rfl, ?_⟩⟩
      rw [N.ok r hrm]
      obtain ⟨b, v2, v3, rfl, hb, _, _, _⟩ := row_at (hdq.same s3)
      have hn3 := s3 _ _ (s2 _ _ hn1)
      refine iteF ⟨_, rfl, b, _, 0, _, rfl, rfl, hb, atI_nat (j := 0) rfl, _, rfl, nl, _, rfl, .inl (SqL.of hn3), rfl, ?_, _, rfl, ?_⟩
      · exact flat_strs _
      · have ein : inV (.str r.name) (((rs.take i).map Rw.name).map V.str) = false := by
          rw [inV_strs]
          refine decide_eq_false fun y => ?_
          obtain ⟨j, hj, ej⟩ := List.mem_iff_getElem.mp y
          rw [List.getElem_map, List.getElem_take] at ej
          have hj2 : j < i := by
            have := hj
            rw [List.length_map, List.length_take] at this
            omega
          have ei : rs[i] = r := by
            have := List.getElem?_eq_getElem hil
            rw [hr2] at this
            exact (Option.some.inj this).symm
          have := List.pairwise_iff_getElem.mp N.nd j i (by rw [List.length_map]; omega) (by rw [List.length_map]; exact hil) hj2
          rw [List.getElem_map, List.getElem_map, ei] at this
          exact this ej
        show (fun b_1 H1 => if b_1 = true then _ else _) (inV (.str r.name) (((rs.take i).map Rw.name).map V.str)) H3
        rw [ein]
        refine iteF ⟨_, rfl, .inl ⟨rfl, _, SqL.of hn3⟩, _, rfl, b, _, 0, _, rfl, rfl, hb, atI_nat (j := 0) rfl, nl, _, _, rfl, rfl, hn3, ?_, hil, ⟨_, _, rfl⟩, fun c o e => ?_, ?_⟩
        · rw [List.length_map, List.length_map, List.length_take]
          have := N.hi
          exact Nat.lt_of_le_of_lt (Nat.le_trans (Nat.min_le_right ..) this) (by decide)
        · rw [upd_ne (ne_of_none e hnl)]
          exact s3 _ _ (s2 _ _ (s1 _ _ e))
        · rw [upd_same]
          have et : rs.take (i + 1) = rs.take i ++ [r] := by
            rw [List.take_succ, hr2]
            rfl
          rw [et, List.map_append, List.map_append]
          rfl
end
end Ca
set_option Elab.async false
set_option linter.all false
set_option maxRecDepth 100000
set_option maxHeartbeats 4000000
namespace Ca
open PySem L2
/-! ### systems -/
abbrev FnM (K : PySem.W.Frag) (x q : Str) (st : Stmt) (dvs : List V) (f : Addr) (fd : FuncData) : Prop := FunD K x q (defArgs st) (defBody st) (defScope st) dvs [] f fd
structure SysC (K : PySem.W.Frag) (C : Addr) : Prop where
  cl : Cls K C
  nu : NoAttr K C "_unknowns"
  nr : NoAttr K C "_rows"
def sysF (u r : V) : List (Str × V) := [("_unknowns", u), ("_rows", r)]
/-- a system stands at x -/
def SysAt (K : PySem.W.Frag) (C : Addr) (H : Hp) (x : Addr) (ns : List Str) (rs : List Rw) : Prop :=
  Folk ns ∧ Lines rs ns.length ∧ ∃ dx u r, H x = some (.ins C dx (sysF u r)) ∧ Dq K H u (folkD ns) ∧ Dq K H r (rowsD rs)
theorem SysAt.same {K : PySem.W.Frag} {C : Addr} {H H' : Hp} {x : Addr} {ns : List Str} {rs : List Rw} (h : SysAt K C H x ns rs) (s : Same H H') : SysAt K C H' x ns rs := by
  obtain ⟨h1, h2, dx, u, r, e, du, dr⟩ := h
  exact ⟨h1, h2, dx, u, r, s _ _ e, du.same s, dr.same s⟩
def spInit (K : PySem.W.Frag) (C : Addr) : Sp := fun vs H Q _ => ∃ x dx u r ns rs, vs = [.ref x, u, r] ∧ H x = some (.ins C dx []) ∧ Dq K H u (folkD ns) ∧ Folk ns ∧ Dq K H r (rowsD rs) ∧ Lines rs ns.length ∧
  ∀ H', Kept x H H' → H' x = some (.ins C dx (sysF u r)) → Q .non H'
def spUnknowns (C : Addr) : Sp := fun vs H Q _ => ∃ x dx u r, vs = [.ref x] ∧ H x = some (.ins C dx (sysF u r)) ∧ Q u H
def spRows (C : Addr) : Sp := fun vs H Q _ => ∃ x dx u r, vs = [.ref x] ∧ H x = some (.ins C dx (sysF u r)) ∧ Q r H
def spLen (K : PySem.W.Frag) (C : Addr) : Sp := fun vs H Q _ => ∃ x ns rs, vs = [.ref x] ∧ SysAt K C H x ns rs ∧ Q (.int rs.length) H
def spYes : Sp := fun vs H Q _ => ∃ x, vs = [x] ∧ Q (.bl true) H
theorem tup_len {K : PySem.W.Frag} {H : Hp} {v : V} {ds : List PyData} (h : Dq K H v (.tuple ds)) : ∃ a xs, v = .ref a ∧ SqT K H a xs ∧ DqAll K H xs ds ∧ xs.length = ds.length := by
  cases h with
  | @tup a xs _ h1 h2 => exact ⟨a, xs, rfl, h1, h2, h2.len⟩
section
variable {P : Program} {w : World} {K : PySem.W.Frag} {mg : Str → Option Value} {base : Heap} {C : Addr}
theorem scInit : FnScope ["self", "unknowns", "rows"] ["self", "unknowns", "rows"] (defScope mSystemInit) := ⟨rfl, rfl, rfl, by decide +kernel, rfl, by decide +kernel, by decide +kernel⟩
theorem ok_init {f fU fR : Addr} {fd fdU fdR : FuncData} {dvs : List V} (F : FnM K "__init__" "System.__init__" mSystemInit dvs f fd) (B : Bn mg) (S : SysC K C)
    (gU : mg "check_unknowns" = some (.ref fU)) (GU : FnOk P w K mg base CX0 3 fU fdU ["unknowns"] (spCheckU K)) (kU : PySem.W.keepIn K (.ref fU) = true) (bU : Binds K fdU ["unknowns"] [])
    (gR : mg "check_rows" = some (.ref fR)) (GR : FnOk P w K mg base CX0 4 fR fdR ["rows", "many"] (spCheckR K)) (kR : PySem.W.keepIn K (.ref fR) = true) (bR : Binds K fdR ["rows", "many"] []) :
    FnOk P w K mg base CX0 5 f fd ["self", "unknowns", "rows"] (spInit K C) := by
  refine F.ok scInit (fun vs H Q E h => ?_) (fun cdv A outer s H vs Q E hr h => ?_)
  · obtain ⟨x, dx, u, r, ns, rs, rfl, _⟩ := h
    rfl
  · obtain ⟨x, dx, u, r, ns, rs, rfl, hx, du, hN, dr, hL, q⟩ := h
    have hr3 : Room 3 _ := hr.mono (by decide)
    refine ⟨_, PSs.nox (pss_cons (ps_expr (pe_call GU hr3 rfl gU kU bU .nil pass0 (pa_cons (pv 1) pa_nil)))
      (pss_cons (ps_expr (pe_call GR hr rfl gR kR bR .nil pass0 (pa_cons (pv 2) (pa_cons (pe_callB call_len (by rfl) B.len boot_len (pa_cons (pv 1) pa_nil)) pa_nil))))
      (pss_cons (ps_fld (pv 0) (pv 1) rfl) (pss_one (ps_fld (pv 0) (pv 2) rfl))))), ?_⟩
    refine ⟨_, rfl, u, ns, rfl, du, hN, fun H1 s1 => ?_⟩
    obtain ⟨a, xs, rfl, h1, h2, hl⟩ := tup_len (du.same s1)
    have hl2 : xs.length = ns.length := by rw [hl, List.length_map]
    refine ⟨_, rfl, _, rfl, _, ns.length, rfl, .inr ⟨_, h1, hl2.symm⟩, r, rs, ns.length, rfl, by have := hN.hi; omega, dr.same s1, hL, fun H2 s2 => ?_⟩
    have hx2 := s2 _ _ (s1 _ _ hx)
    refine ⟨_, rfl, _, rfl, x, C, dx, _, rfl, hx2, S.cl, S.nu, by show 0 < 1000; decide, _, rfl, _, rfl, x, C, dx, _, rfl, upd_same, S.cl, S.nr, by show 1 < 1000; decide, ?_⟩
    refine q _ (fun b o n e => ?_) upd_same
    rw [upd_ne n, upd_ne n]
    exact s2 _ _ (s1 _ _ e)
theorem scUnknowns : FnScope ["self"] ["self"] (defScope mSystemUnknowns) := ⟨rfl, rfl, rfl, by decide +kernel, rfl, by decide +kernel, by decide +kernel⟩
theorem ok_unknowns {f : Addr} {fd : FuncData} (F : FnM K "unknowns" "System.unknowns" mSystemUnknowns [] f fd) (S : SysC K C) : FnOk P w K mg base CX0 1 f fd ["self"] (spUnknowns C) := by
  refine F.ok scUnknowns (fun vs H Q E h => ?_) (fun cdv A outer s H vs Q E hr h => ?_)
  · obtain ⟨x, dx, u, r, rfl, _⟩ := h
    rfl
  · obtain ⟨x, dx, u, r, rfl, hx, q⟩ := h
    exact ⟨_, PSs.nox (pss_one (ps_ret (pe_fld (pv 0) rfl))), _, rfl, x, C, dx, _, u, rfl, hx, S.cl, S.nu, rfl, q⟩
theorem scRows : FnScope ["self"] ["self"] (defScope mSystemRows) := ⟨rfl, rfl, rfl, by decide +kernel, rfl, by decide +kernel, by decide +kernel⟩
theorem ok_rows {f : Addr} {fd : FuncData} (F : FnM K "rows" "System.rows" mSystemRows [] f fd) (S : SysC K C) : FnOk P w K mg base CX0 1 f fd ["self"] (spRows C) := by
  refine F.ok scRows (fun vs H Q E h => ?_) (fun cdv A outer s H vs Q E hr h => ?_)
  · obtain ⟨x, dx, u, r, rfl, _⟩ := h
    rfl
  · obtain ⟨x, dx, u, r, rfl, hx, q⟩ := h
    exact ⟨_, PSs.nox (pss_one (ps_ret (pe_fld (pv 0) rfl))), _, rfl, x, C, dx, _, r, rfl, hx, S.cl, S.nr, rfl, q⟩
theorem scLen : FnScope ["self"] ["self"] (defScope mSystemLen) := ⟨rfl, rfl, rfl, by decide +kernel, rfl, by decide +kernel, by decide +kernel⟩
theorem ok_len {f : Addr} {fd : FuncData} (F : FnM K "__len__" "System.__len__" mSystemLen [] f fd) (B : Bn mg) (S : SysC K C) : FnOk P w K mg base CX0 1 f fd ["self"] (spLen K C) := by
  refine F.ok scLen (fun vs H Q E h => ?_) (fun cdv A outer s H vs Q E hr h => ?_)
  · obtain ⟨x, ns, rs, rfl, _⟩ := h
    rfl
  · obtain ⟨x, ns, rs, rfl, ⟨_, _, dx, u, r, hx, du, dr⟩, q⟩ := h
    obtain ⟨a, xs, rfl, h1, h2, hl⟩ := tup_len dr
    refine ⟨_, PSs.nox (pss_one (ps_ret (pe_callB call_len (by rfl) B.len boot_len (pa_cons (pe_fld (pv 0) rfl) pa_nil)))), _, rfl, x, C, dx, _, _, rfl, hx, S.cl, S.nr, rfl, _, rs.length, rfl, .inr ⟨_, h1, ?_⟩, q⟩
    rw [hl, List.length_map]
theorem scBool : FnScope ["self"] ["self"] (defScope mSystemBool) := ⟨rfl, rfl, rfl, by decide +kernel, rfl, by decide +kernel, by decide +kernel⟩
theorem ok_bool {f : Addr} {fd : FuncData} (F : FnM K "__bool__" "System.__bool__" mSystemBool [] f fd) : FnOk P w K mg base CX0 1 f fd ["self"] spYes := by
  refine F.ok scBool (fun vs H Q E h => ?_) (fun cdv A outer s H vs Q E hr h => ?_)
  · obtain ⟨x, rfl, _⟩ := h
    rfl
  · obtain ⟨x, rfl, q⟩ := h
    exact ⟨_, PSs.nox (pss_one (ps_ret pe_bl)), q⟩
end
end Ca
set_option Elab.async false
set_option linter.all false
set_option maxRecDepth 100000
set_option maxHeartbeats 4000000
namespace Ca
open PySem L2
/-! ### what is known of the data of systems -/
theorem sign_small : ∀ c, isSign c = true → c < 128 := by
  intro c h
  have h1 : ∀ x ∈ LET.cps.toList, x < 128 := by decide +kernel
  have h2 : ∀ x ∈ DIG.cps.toList, x < 128 := by decide +kernel
  unfold isSign isLet at h
  rcases Bool.or_eq_true_iff.mp h with h | h
  · exact h1 c (of_decide_eq_true h)
  · exact h2 c (of_decide_eq_true h)
theorem name_parts {x : Str} (h : nameS x = true) : 1 ≤ x.length ∧ x.length ≤ 8 ∧ ∀ c ∈ x.cps.toList, c < 128 := by
  unfold nameS at h
  obtain ⟨h1, h⟩ := Bool.and_eq_true_iff.mp h
  obtain ⟨h2, h⟩ := Bool.and_eq_true_iff.mp h
  obtain ⟨_, h4⟩ := Bool.and_eq_true_iff.mp h
  exact ⟨of_decide_eq_true h1, of_decide_eq_true h2, fun c hc => sign_small c (List.all_eq_true.mp h4 c hc)⟩
theorem unk_name {x : Str} (h : isUnknownD (.str x) = true) : nameS x = true := (Bool.and_eq_true_iff.mp (show (nameS x && !decide (x = "bound")) = true from h)).1
theorem row_name {r : Rw} {m : Nat} (h : isRowD (rowD r) m = true) : nameS r.name = true ∧ r.parts.length = m := by
  obtain ⟨h1, h2⟩ := Bool.and_eq_true_iff.mp (show (nameS r.name && (isTupN (.tuple (r.parts.map strD)) m && ((partsOf (.tuple (r.parts.map strD)) ++ [strD r.bd]).all isStretchD))) = true from h)
  obtain ⟨h3, _⟩ := Bool.and_eq_true_iff.mp h2
  refine ⟨h1, ?_⟩
  have := of_decide_eq_true h3
  rwa [List.length_map] at this
mutual
theorem dp_of {K : PySem.W.Frag} {H : Hp} : ∀ {d : PyData} {v : V}, d.hasDict = false → Dq K H v d → Dp K H v d
  | .none, _, _, h => by cases h; exact .non
  | .bool b, _, _, h => by cases h; exact .bl b
  | .int i, _, _, h => by cases h; exact .int i
  | .str x, _, _, h => by cases h; exact .str x
  | .list ds, _, n, h => by
    cases h with
    | lst a b => exact .lst a (dpAll_of (by simpa only [PyData.hasDict] using n) b)
  | .tuple ds, _, n, h => by
    cases h with
    | tup a b => exact .tup a (dpAll_of (by simpa only [PyData.hasDict] using n) b)
  | .dict ds, _, n, h => by simp [PyData.hasDict] at n
theorem dpAll_of {K : PySem.W.Frag} {H : Hp} : ∀ {ds : List PyData} {vs : List V}, PyData.hasDictAll ds = false → DqAll K H vs ds → DpAll K H vs ds
  | [], _, _, h => by cases h; exact .nil
  | d :: ds, _, n, h => by
    have n' : (d.hasDict || PyData.hasDictAll ds) = false := by simpa only [PyData.hasDictAll] using n
    obtain ⟨n1, n2⟩ := Bool.or_eq_false_iff.mp n'
    cases h with
    | cons a b => exact .cons (dp_of n1 a) (dpAll_of n2 b)
end
theorem eqvAll_strs : ∀ ns ms : List Str, PyData.eqvAll (ns.map .str) (ms.map .str) = decide (ns = ms)
  | [], [] => by simp [PyData.eqvAll]
  | [], _ :: _ => by simp [PyData.eqvAll]
  | _ :: _, [] => by simp [PyData.eqvAll]
  | n :: ns, m :: ms => by
    simp only [List.map_cons, PyData.eqvAll, PyData.eqv]
    rw [eqvAll_strs ns ms, Bool.eq_iff_iff]
    simp
theorem eqv_folk (ns ms : List Str) : PyData.eqv (folkD ns) (folkD ms) = decide (ns = ms) := by
  unfold folkD
  simp only [PyData.eqv]
  exact eqvAll_strs ns ms
theorem eqv_str (p q : Int × Int) : PyData.eqv (strD p) (strD q) = decide (p = q) := by
  obtain ⟨a, b⟩ := p
  obtain ⟨c, d⟩ := q
  unfold strD
  simp only [PyData.eqv, PyData.eqvAll]
  rw [Bool.eq_iff_iff]
  simp
theorem eqvAll_strD : ∀ ps qs : List (Int × Int), PyData.eqvAll (ps.map strD) (qs.map strD) = decide (ps = qs)
  | [], [] => by simp [PyData.eqvAll]
  | [], _ :: _ => by simp [PyData.eqvAll]
  | _ :: _, [] => by simp [PyData.eqvAll]
  | p :: ps, q :: qs => by
    simp only [List.map_cons, PyData.eqvAll]
    rw [eqvAll_strD ps qs, eqv_str, Bool.eq_iff_iff]
    simp
theorem eqv_row (r q : Rw) : PyData.eqv (rowD r) (rowD q) = decide (r = q) := by
  obtain ⟨a, b, c⟩ := r
  obtain ⟨d, e, f⟩ := q
  unfold rowD
  simp only [PyData.eqv, PyData.eqvAll]
  rw [eqvAll_strD, eqv_str, Bool.eq_iff_iff]
  simp
theorem eqvAll_rows : ∀ rs qs : List Rw, PyData.eqvAll (rs.map rowD) (qs.map rowD) = decide (rs = qs)
  | [], [] => by simp [PyData.eqvAll]
  | [], _ :: _ => by simp [PyData.eqvAll]
  | _ :: _, [] => by simp [PyData.eqvAll]
  | p :: ps, q :: qs => by
    simp only [List.map_cons, PyData.eqvAll]
    rw [eqvAll_rows ps qs, eqv_row, Bool.eq_iff_iff]
    simp
theorem eqv_rows (rs qs : List Rw) : PyData.eqv (rowsD rs) (rowsD qs) = decide (rs = qs) := by
  unfold rowsD
  simp only [PyData.eqv]
  exact eqvAll_rows rs qs
theorem strOk_of {x : Str} (h : ∀ c ∈ x.cps.toList, c < 128) : PyData.strOk x = true := by
  unfold PyData.strOk
  rw [← Array.all_toList, List.all_eq_true]
  intro c hc
  exact decide_eq_true (Nat.lt_of_lt_of_le (h c hc) (by decide))
theorem lay_strs : ∀ ns : List Str, (∀ x ∈ ns, nameS x = true) → PyData.canLayAll0 (ns.map .str) = true
  | [], _ => rfl
  | n :: ns, h => by
    simp only [List.map_cons, PyData.canLayAll0, PyData.canLay0]
    rw [strOk_of (name_parts (h n (List.mem_cons_self ..))).2.2, lay_strs ns fun x z => h x (List.mem_cons_of_mem _ z)]
    rfl
theorem dep_strs : ∀ ns : List Str, PyData.depthAll (ns.map .str) = 0
  | [] => rfl
  | n :: ns => by
    simp only [List.map_cons, PyData.depthAll, PyData.depth]
    rw [dep_strs ns]
    rfl
theorem shaped_strs {ns : List Str} (h : ∀ x ∈ ns, nameS x = true) : SeqAt.shaped (.tuple (ns.map .str)) = true := by
  refine Bool.and_eq_true_iff.mpr ⟨by simp only [PyData.canLay0]; exact lay_strs ns h, decide_eq_true ?_⟩
  simp only [PyData.depth]
  rw [dep_strs]
  decide
theorem folk_names {ns : List Str} (N : Folk ns) : ∀ x ∈ ns, nameS x = true := fun x z => unk_name (N.ok x z)
theorem shaped_folk {ns : List Str} (N : Folk ns) : SeqAt.shaped (folkD ns) = true := shaped_strs (folk_names N)
theorem lay_strD : ∀ ps : List (Int × Int), PyData.canLayAll0 (ps.map strD) = true
  | [] => rfl
  | p :: ps => by
    simp only [List.map_cons, PyData.canLayAll0, strD, PyData.canLay0]
    exact lay_strD ps
theorem dep_strD : ∀ ps : List (Int × Int), PyData.depthAll (ps.map strD) ≤ 1
  | [] => Nat.zero_le _
  | p :: ps => by
    simp only [List.map_cons, PyData.depthAll, strD, PyData.depth]
    have := dep_strD ps
    show max (max 0 (max 0 0) + 1) _ ≤ 1
    exact Nat.max_le.mpr ⟨Nat.le_refl _, this⟩
theorem lay_row {r : Rw} (h : nameS r.name = true) : PyData.canLay0 (rowD r) = true := by
  unfold rowD
  simp only [PyData.canLay0, PyData.canLayAll0]
  rw [strOk_of (name_parts h).2.2, lay_strD]
  rfl
theorem dep_row (r : Rw) : (rowD r).depth ≤ 3 := by
  unfold rowD strD
  simp only [PyData.depth, PyData.depthAll]
  have := dep_strD r.parts
  unfold strD at this
  omega
theorem lay_rows : ∀ rs : List Rw, (∀ r ∈ rs, nameS r.name = true) → PyData.canLayAll0 (rs.map rowD) = true
  | [], _ => rfl
  | r :: rs, h => by
    simp only [List.map_cons, PyData.canLayAll0]
    rw [lay_row (h r (List.mem_cons_self ..)), lay_rows rs fun x z => h x (List.mem_cons_of_mem _ z)]
    rfl
theorem dep_rows : ∀ rs : List Rw, PyData.depthAll (rs.map rowD) ≤ 3
  | [] => Nat.zero_le _
  | r :: rs => by
    simp only [List.map_cons, PyData.depthAll]
    exact Nat.max_le.mpr ⟨dep_row r, dep_rows rs⟩
theorem shaped_rows {rs : List Rw} (h : ∀ r ∈ rs, nameS r.name = true) : SeqAt.shaped (rowsD rs) = true := by
  refine Bool.and_eq_true_iff.mpr ⟨by unfold rowsD; simp only [PyData.canLay0]; exact lay_rows rs h, decide_eq_true ?_⟩
  unfold rowsD
  simp only [PyData.depth]
  have := dep_rows rs
  omega
theorem lines_names {rs : List Rw} {m : Nat} (L : Lines rs m) : ∀ r ∈ rs, nameS r.name = true := fun r z => (row_name (L.ok r z)).1
theorem nodict_strs : ∀ ns : List Str, PyData.hasDictAll (ns.map .str) = false
  | [] => rfl
  | n :: ns => by
    simp only [List.map_cons, PyData.hasDictAll, PyData.hasDict, Bool.false_or]
    exact nodict_strs ns
theorem nodict_folk (ns : List Str) : (folkD ns).hasDict = false := by
  unfold folkD
  simp only [PyData.hasDict]
  exact nodict_strs ns
theorem nodict_strD : ∀ ps : List (Int × Int), PyData.hasDictAll (ps.map strD) = false
  | [] => rfl
  | p :: ps => by
    simp only [List.map_cons, PyData.hasDictAll, strD, PyData.hasDict, Bool.false_or]
    exact nodict_strD ps
theorem nodict_row (r : Rw) : (rowD r).hasDict = false := by
  unfold rowD strD
  simp only [PyData.hasDictAll, PyData.hasDict, Bool.false_or]
  have := nodict_strD r.parts
  unfold strD at this
  rw [this]
  rfl
theorem nodict_rows : ∀ rs : List Rw, (rowsD rs).hasDict = false := by
  intro rs
  unfold rowsD
  simp only [PyData.hasDict]
  induction rs with
  | nil => rfl
  | cons r rs ih =>
    simp only [List.map_cons, PyData.hasDictAll]
    rw [nodict_row, ih]
    rfl
end Ca
set_option Elab.async false
set_option linter.all false
set_option maxRecDepth 100000
set_option maxHeartbeats 4000000
namespace Ca
open PySem L2
section
variable {X : Cx}
theorem ixT (K : PySem.W.Frag) (h : X.K = K := by rfl) : IxR X (rIxT K) := h ▸ ix_tup
end
def namesD (rs : List Rw) : PyData := .tuple ((rs.map Rw.name).map .str)
def spNames (K : PySem.W.Frag) (C : Addr) : Sp := fun vs H Q _ => ∃ x ns rs, vs = [.ref x] ∧ SysAt K C H x ns rs ∧ ∀ H' v, Same H H' → Dq K H' v (namesD rs) → Q v H'
theorem strs_dq {K : PySem.W.Frag} {H : Hp} : ∀ {ns : List Str}, (∀ x ∈ ns, x.length ≤ 1000) → DqAll K H (ns.map V.str) (ns.map .str)
  | [], _ => .nil
  | n :: ns, h => .cons (.str n (h n (List.mem_cons_self ..))) (strs_dq fun x z => h x (List.mem_cons_of_mem _ z))
theorem map_range {α β : Type} (l : List α) (d : α) (g : α → β) (n : Nat) (h : l.length = n) : ((List.range n).map fun i => g (l.getD i d)) = l.map g := by
  refine List.ext_getElem (by simp [h]) fun i h1 h2 => ?_
  have hi : i < l.length := by simpa using h2
  simp [List.getElem?_eq_getElem hi]
theorem ty_tyx {K : PySem.W.Frag} {H : Hp} {y : V} {t : String} (h : Ty K H y (.type t)) : TyX K H y (.type t) := by
  cases h with
  | non => exact .base .non
  | bl b => exact .base (.bl b)
  | int i => exact .base (.int i)
  | str x => exact .base (.str x)
  | lst e => exact tyx_l e
  | tup e => exact tyx_t e
  | dic e => exact .base (.dK e)
/-- what isinstance(x, System) leans on -/
structure SysI (K : PySem.W.Frag) (C : Addr) : Prop where
  ha : PySem.W.findIn K (.ref C) "__class__" = some (some (.builtin "object.__class__"))
  hn : PySem.W.specialIn K (.builtin "object.__class__") "__get__" = some (some (.builtin "getset_descriptor.__get__"))
  ht : PySem.W.takesIn K (.builtin "object.__class__") = some true
  hm : PySem.W.mroIn K C (.type "object") = some true
  own : PySem.W.kitOne K (.ref C) (.ref C) = some true
  odd : ∀ t : String, t ∈ ["NoneType", "bool", "int", "str", "list", "tuple", "dict"] → PySem.W.kitOne K (.type t) (.ref C) = some false ∧ PySem.W.notFirst K C (.type t) = true
  nf : PySem.W.notFirst K C (.ref C) = true
/-- self == other -/
def spEqS (K : PySem.W.Frag) (C : Addr) : Sp := fun vs H Q _ => ∃ x y ns rs, vs = [.ref x, y] ∧ SysAt K C H x ns rs ∧
  ((∃ t : String, Ty K H y (.type t) ∧ PySem.W.kitOne K (.type t) (.ref C) = some false ∧ Q (.bl false) H) ∨ ∃ z ms qs, y = .ref z ∧ SysAt K C H z ms qs ∧ Q (.bl (decide (ns = ms) && decide (rs = qs))) H)
section
variable {P : Program} {w : World} {K : PySem.W.Frag} {mg : Str → Option Value} {base : Heap} {C : Addr}
theorem scNames : FnScope ["self", "row"] ["self"] (defScope mSystemNames) := ⟨rfl, rfl, rfl, by decide +kernel, rfl, by decide +kernel, by decide +kernel⟩
theorem ok_names {f : Addr} {fd : FuncData} (F : FnM K "names" "System.names" mSystemNames [] f fd) (B : Bn mg) (S : SysC K C) : FnOk P w K mg base CX0 1 f fd ["self"] (spNames K C) := by
  refine F.ok scNames (fun vs H Q E h => ?_) (fun cdv A outer s H vs Q E hr h => ?_)
  · obtain ⟨x, ns, rs, rfl, _⟩ := h
    rfl
  · obtain ⟨x, ns, rs, rfl, ⟨hN, hL, dx, u, r, hx, du, dr⟩, q⟩ := h
    have nd := scNames.nd
    obtain ⟨a, xs, rfl, h1, h2, hl⟩ := tup_len dr
    have hl2 : xs.length = rs.length := by rw [hl, List.length_map]
    refine ⟨_, PSs.nox (pss_one (ps_ret (pe_callTy call_tuple_of (by rfl) B.tup (by decide +kernel) (pa_cons (pe_lc (own := [("row", 1)]) (g := gName 1) (tt := tYes) rfl nd (pi_tup (pe_fld (pv 0) rfl))
      (blkOk_by (own := [("row", 1)]) (N := ["self", "row"]) (sc := defScope mSystemNames) (by decide +kernel)) (fun _ _ _ _ _ => pg_name (i := 1) nd rfl (Or.inl rfl)) (fun _ _ _ _ _ => pts_nil)
      (fun _ _ _ _ _ => pe_ix (ixT K) (pv 1) pe_int (fun _ _ => rfl))) pa_nil)))), ?_⟩
    refine ⟨_, rfl, x, C, dx, _, _, rfl, hx, S.cl, S.nr, rfl, a, rfl, ⟨_, h1⟩, fun D hD => ?_⟩
    refine lc_known (walk_tup (K := K) (a := a) (xs := xs)) (fun i => .str ((rs.map Rw.name).getD i "")) (by rw [hl2]; have := hL.hi; omega) hD (fun H' s' => same_sqt s' h1) (fun _ _ _ _ y => by obtain ⟨rfl, _⟩ := y; exact fun _ _ e => e) (fun _ => rfl) ?_ ?_
    · rintro i z H5 H6 Qk hi s5 ⟨rfl, hz⟩ k
      obtain ⟨d, hdi, hdq⟩ := (h2.same s5).get hz
      have hi2 : i < rs.length := by rw [← hl2]; exact hi
      rw [List.getElem?_map, List.getElem?_eq_getElem hi2] at hdi
      cases hdi
      obtain ⟨b, v2, v3, rfl, hb, _, _, _⟩ := row_at hdq
      refine ⟨_, rfl, b, _, 0, _, rfl, rfl, hb, atI_nat (j := 0) rfl, ?_⟩
      have k1 := k _ (fun _ _ e => e)
      have en : (rs.map Rw.name).getD i "" = rs[i].name := by
        rw [List.getD_eq_getElem?_getD, List.getElem?_map, List.getElem?_eq_getElem hi2]
        rfl
      rw [en] at k1
      exact k1
    · intro H5 s5 bD
      rw [hl2, map_range (rs.map Rw.name) "" V.str rs.length (List.length_map ..)] at bD
      refine ⟨D, _, rfl, .inl ⟨SqL.of bD, fun p hp => q _ _ (s5.trans (Same.new hp)) (.tup (SqT.of upd_same) (strs_dq fun y z => ?_))⟩⟩
      obtain ⟨r, hr1, rfl⟩ := List.mem_map.mp z
      have := (name_parts (lines_names hL r hr1)).2.1
      omega
theorem scEq : FnScope ["self", "other"] ["self", "other"] (defScope mSystemEq) := ⟨rfl, rfl, rfl, by decide +kernel, rfl, by decide +kernel, by decide +kernel⟩
theorem ok_eq {f : Addr} {fd : FuncData} (F : FnM K "__eq__" "System.__eq__" mSystemEq [] f fd) (B : Bn mg) (S : SysC K C) (I : SysI K C) (gC : mg "System" = some (.ref C)) : FnOk P w K mg base CX0 1 f fd ["self", "other"] (spEqS K C) := by
  refine F.ok scEq (fun vs H Q E h => ?_) (fun cdv A outer s H vs Q E hr h => ?_)
  · obtain ⟨x, y, ns, rs, rfl, _⟩ := h
    rfl
  · obtain ⟨x, y, ns, rs, rfl, ⟨hN, hL, dx, u, r, hx, du, dr⟩, q⟩ := h
    refine ⟨_, PSs.nox (pss_one (ps_ret (pe_and (pe_callB call_isi (by rfl) B.isi PyProof.Rows.boot_isinstance (pa_cons (pv 1) (pa_cons (pe_glob (v := .ref C) rfl gC rfl) pa_nil)))
      (pe_and (pe_cmpR (op_eqD hr.units) (pe_fld (pv 0) rfl) (pe_fld (pv 1) rfl) (nomark _)) (pe_one (pe_cmpR (op_eqD hr.units) (pe_fld (pv 0) rfl) (pe_fld (pv 1) rfl) (nomark _))))))), ?_⟩
    rcases q with ⟨t, ht, hk, q⟩ | ⟨z, ms, qs, rfl, ⟨hN2, hL2, dz, u2, r2, hz, du2, dr2⟩, q⟩
    · exact ⟨_, rfl, y, .ref C, _, _, false, rfl, .own C, ty_tyx ht, hk, _, rfl, iteF q⟩
    · refine ⟨_, rfl, .ref z, .ref C, _, _, true, rfl, .own C, .base (.ins hz S.cl I.ha I.hn I.ht I.hm), I.own, _, rfl, iteT ?_⟩
      refine ⟨_, rfl, x, C, dx, _, u, rfl, hx, S.cl, S.nu, rfl, _, rfl, z, C, dz, _, u2, rfl, hz, S.cl, S.nu, rfl, _, _, dp_of (nodict_folk ns) du, dp_of (nodict_folk ms) du2, shaped_folk hN, shaped_folk hN2, _, rfl, ?_⟩
      rw [eqv_folk]
      refine ite2 (fun g => ?_) (fun g => ?_)
      · rw [g, Bool.true_and] at q
        refine ⟨_, rfl, x, C, dx, _, r, rfl, hx, S.cl, S.nr, rfl, _, rfl, z, C, dz, _, r2, rfl, hz, S.cl, S.nr, rfl, _, _, dp_of (nodict_rows rs) dr, dp_of (nodict_rows qs) dr2, shaped_rows (lines_names hL), shaped_rows (lines_names hL2), ?_⟩
        rw [eqv_rows]
        exact q
      · rw [Bool.eq_false_iff.mpr g, Bool.false_and] at q
        exact q
end
end Ca
set_option Elab.async false
set_option linter.all false
set_option maxRecDepth 100000
set_option maxHeartbeats 4000000
namespace Ca
open PySem L2
/-- the first items of a comprehension of two clauses -/
def items2 (m : Nat → Nat) (f : Nat → Nat → V) (i : Nat) : List V := (List.range i).flatMap fun a => (List.range (m a)).map (f a)
theorem items2_more (m : Nat → Nat) (f : Nat → Nat → V) (i : Nat) : items2 m f (i + 1) = items2 m f i ++ (List.range (m i)).map (f i) := by
  unfold items2
  rw [List.range_succ, List.flatMap_append]
  simp
theorem rdYes {A B : Hp → Prop} {σ : L2.St} {H : Hp} (h : A H) : tYes σ H (fun b H3 => if b = true then A H3 else B H3) := by
  show (if true = true then A H else B H)
  rw [if_pos rfl]
  exact h
/-- a comprehension of two clauses without tests, whose items are known ahead -/
theorem lc2_known {J : It} {n : Nat} {G : Hp → Prop} {Y : Nat → Hp → V → Hp → Prop} (w : Walk J n G Y) {wi1 : TI} {te : TE} {vs vs1 : List Nat} {σ : L2.St} {H1 : Hp} {D : Addr} {Qd : Hp → Prop} {j j1 : Nat} (m : Nat → Nat) (f : Nat → Nat → V) (hn : ∀ i, i ≤ n → (items2 m f i).length ≤ 100000)
    (hD : H1 D = none) (hG : ∀ H, Same H1 H → G H) (hY : ∀ i H x H', Y i H x H' → Same H H') (hw : ∀ x, wipe ((wipe σ vs).set j (some x)) vs = wipe σ vs) (hw1 : ∀ x z, wipe ((wipe ((wipe σ vs).set j (some x)) vs1).set j1 (some z)) vs1 = wipe ((wipe σ vs).set j (some x)) vs1)
    (hs : ∀ i x H H' (R : It → Hp → Prop), i < n → Same H1 H → Y i H x H' →
      (∀ J1 G1 Y1 H4, Walk J1 (m i) G1 Y1 → Same H' H4 → (∀ H5, Same H1 H5 → G1 H5) → (∀ k H z H', Y1 k H z H' → Same H H') →
        (∀ k z H5 H6 (Qk : VK), k < m i → Same H1 H5 → Y1 k H5 z H6 → (∀ H7, Same H6 H7 → Qk (f i k) H7) → te ((wipe ((wipe σ vs).set j (some x)) vs1).set j1 (some z)) H6 Qk) → R J1 H4) → wi1 ((wipe σ vs).set j (some x)) H' R)
    (hd : ∀ H, Same H1 H → H D = some (.lst (items2 m f n)) → Qd H) :
    ∃ W : Nat → Nat → Hp → Prop, (∃ m, W 0 m (upd H1 D (.lst []))) ∧ ∀ i m H, W i m H →
      (J.stop i H ∧ Qd H) ∨ (J.go i H ∧ ∃ Nx : Hp → Prop, (∀ H', Nx H' → ∃ m', m' < m ∧ W (i + 1) m' H') ∧ ∀ x H', J.yld i H x H' → gName j x (wipe σ vs) H' fun σ2 H2 => wipe σ2 vs = wipe σ vs ∧ tYes σ2 H2 fun b H3 =>
        if b = true then wi1 σ2 H3 fun J1 H4 => ∃ W1 : Nat → Nat → Hp → Prop, (∃ m, W1 0 m H4) ∧ ∀ j k H, W1 j k H →
          (J1.stop j H ∧ Nx H) ∨ (J1.go j H ∧ ∃ Nx1 : Hp → Prop, (∀ H', Nx1 H' → ∃ k', k' < k ∧ W1 (j + 1) k' H') ∧ ∀ x H', J1.yld j H x H' → gName j1 x (wipe σ2 vs1) H' fun σ3 H5 => wipe σ3 vs1 = wipe σ2 vs1 ∧ tYes σ3 H5 fun b H6 =>
            if b = true then te σ3 H6 fun y H7 => ∃ acc, H7 D = some (.lst acc) ∧ acc.length < sizeLine ∧ Nx1 (upd H7 D (.lst (acc ++ [y]))) else Nx1 H6)
        else Nx H3) := by
  refine ⟨fun i m' H => m' = n - i ∧ i ≤ n ∧ Same H1 H ∧ H D = some (.lst (items2 m f i)), ⟨n, by simp, Nat.zero_le _, Same.new hD, upd_same⟩, ?_⟩
  rintro i m' H ⟨rfl, hi, s, b⟩
  have g := hG H s
  by_cases hlt : i < n
  · refine .inr ⟨w.goes i H hlt g, fun H' => Same H1 H' ∧ H' D = some (.lst (items2 m f (i + 1))), fun H' p => ⟨n - (i + 1), by omega, rfl, hlt, p⟩, fun x H' y => ⟨hw x, rdYes ?_⟩⟩
    have y' := w.yields i H x H' hlt g y
    have sy := hY i H x H' y'
    refine hs i x H H' _ hlt s y' fun J1 G1 Y1 H4 w1 s4 hG1 hY1 he => ?_
    refine ⟨fun k k' H => k' = m i - k ∧ k ≤ m i ∧ Same H1 H ∧ H D = some (.lst (items2 m f i ++ (List.range k).map (f i))), ⟨m i, by simp, Nat.zero_le _, fun a o e => s4 _ _ (sy _ _ (s _ _ e)), by simpa using s4 _ _ (sy _ _ b)⟩, ?_⟩
    rintro k k' H5 ⟨rfl, hk, s5, b5⟩
    by_cases klt : k < m i
    · refine .inr ⟨w1.goes k H5 klt (hG1 H5 s5), fun H' => Same H1 H' ∧ H' D = some (.lst (items2 m f i ++ (List.range (k + 1)).map (f i))), fun H' p => ⟨m i - (k + 1), by omega, rfl, klt, p⟩, fun z H6 yz => ⟨hw1 x z, rdYes ?_⟩⟩
      have y6 := w1.yields k H5 z H6 klt (hG1 H5 s5) yz
      have s6 := hY1 k H5 z H6 y6
      refine he k z H5 H6 _ klt s5 y6 fun H7 s7 => ⟨_, s7 _ _ (s6 _ _ b5), ?_, fun a o e => ?_, ?_⟩
      · have := hn (i + 1) hlt
        rw [items2_more, List.length_append, List.length_map, List.length_range] at this
        rw [List.length_append, List.length_map, List.length_range]
        exact Nat.lt_of_lt_of_le (show _ < 100001 by omega) (by decide)
      · rw [upd_ne (ne_of_none e hD)]
        exact s7 _ _ (s6 _ _ (s5 _ _ e))
      · rw [upd_same, List.range_succ, List.map_append, List.append_assoc]
        rfl
    · have e : k = m i := by omega
      subst e
      exact .inl ⟨w1.stops H5 (hG1 H5 s5), s5, by rw [items2_more]; exact b5⟩
  · have e : i = n := by omega
    subst e
    exact .inl ⟨w.stops H g, hd H s b⟩
end Ca
set_option Elab.async false
set_option linter.all false
set_option maxRecDepth 100000
set_option maxHeartbeats 4000000
namespace Ca
open PySem L2
section
variable {X : Cx}
theorem piT (K : PySem.W.Frag) {tg e : Expr} {te : TE} (he : PE X e te) (h : X.K = K := by rfl) : PI X tg e (iTup K te) := h ▸ pi_tup he
end
def intS (i : Int) : Str := toString i
def wordsOf (ps : List (Int × Int)) : List Str := ps.flatMap fun p => [intS p.1, intS p.2]
def lineS (r : Rw) : Str := Txt.join " " ([("row" : Str), r.name] ++ wordsOf (r.parts ++ [r.bd]))
def pageS (ns : List Str) (rs : List Rw) : Str := Txt.join "\n" (Txt.join " " ("unknowns" :: ns) :: rs.map lineS)
def inB (p : Int × Int) : Prop := p.1.natAbs.log2 < 1920 ∧ p.2.natAbs.log2 < 1920
theorem str_ok {p : Int × Int} (h : isStretchD (strD p) = true) : -10000 ≤ p.1 ∧ p.1 ≤ p.2 ∧ p.2 ≤ 10000 := by
  obtain ⟨h1, h⟩ := Bool.and_eq_true_iff.mp (show (decide (-10000 ≤ p.1) && (decide (p.1 ≤ p.2) && decide (p.2 ≤ 10000))) = true from h)
  obtain ⟨h2, h3⟩ := Bool.and_eq_true_iff.mp h
  exact ⟨of_decide_eq_true h1, of_decide_eq_true h2, of_decide_eq_true h3⟩
theorem log_small {i : Int} (h1 : -10000 ≤ i) (h2 : i ≤ 10000) : i.natAbs.log2 < 1920 := by
  have : i.natAbs < 2 ^ 14 := by show i.natAbs < 16384; omega
  by_cases z : i.natAbs = 0
  · rw [z]; decide
  · have := (Nat.log2_lt z).mpr this
    omega
theorem str_in {p : Int × Int} (h : isStretchD (strD p) = true) : inB p := by
  obtain ⟨h1, h2, h3⟩ := str_ok h
  exact ⟨log_small h1 (by omega), log_small (by omega) h3⟩
theorem row_in {r : Rw} {m : Nat} (h : isRowD (rowD r) m = true) : ∀ p ∈ r.parts ++ [r.bd], inB p := by
  obtain ⟨_, h2⟩ := Bool.and_eq_true_iff.mp (show (nameS r.name && (isTupN (.tuple (r.parts.map strD)) m && ((partsOf (.tuple (r.parts.map strD)) ++ [strD r.bd]).all isStretchD))) = true from h)
  obtain ⟨_, h4⟩ := Bool.and_eq_true_iff.mp h2
  intro p hp
  refine str_in (List.all_eq_true.mp h4 (strD p) ?_)
  show strD p ∈ r.parts.map strD ++ [strD r.bd]
  rw [show r.parts.map strD ++ [strD r.bd] = (r.parts ++ [r.bd]).map strD by rw [List.map_append]; rfl]
  exact List.mem_map_of_mem hp
theorem intS_len {i : Int} (h : i.natAbs.log2 < 1920) : (intS i).length ≤ 1921 := PyProof.Rows.int_text_len_1921 h
theorem words_len : ∀ ps : List (Int × Int), (∀ p ∈ ps, inB p) → ((wordsOf ps).map (·.length)).sum ≤ 3842 * ps.length ∧ (wordsOf ps).length = 2 * ps.length
  | [], _ => ⟨Nat.le_refl _, rfl⟩
  | p :: ps, h => by
    obtain ⟨h1, h2⟩ := words_len ps fun x z => h x (List.mem_cons_of_mem _ z)
    have hp := h p (List.mem_cons_self ..)
    have e : wordsOf (p :: ps) = intS p.1 :: intS p.2 :: wordsOf ps := rfl
    rw [e]
    have l1 := intS_len hp.1
    have l2 := intS_len hp.2
    refine ⟨?_, ?_⟩
    · simp only [List.map_cons, List.sum_cons, List.length_cons]
      omega
    · simp only [List.length_cons]
      omega
def wordAt (ps : List (Int × Int)) (a k : Nat) : V := .str (if k = 0 then intS (ps.getD a (0, 0)).1 else intS (ps.getD a (0, 0)).2)
theorem items_words (ps : List (Int × Int)) (n : Nat) (h : ps.length = n) : items2 (fun _ => 2) (wordAt ps) n = (wordsOf ps).map V.str := by
  unfold items2 wordsOf
  rw [List.flatMap_def, List.flatMap_def]
  have e : (List.range n).map (fun a => (List.range 2).map (wordAt ps a)) = ps.map fun p => [V.str (intS p.1), V.str (intS p.2)] :=
    map_range ps (0, 0) (fun p => [V.str (intS p.1), V.str (intS p.2)]) n h
  rw [e, List.map_flatten, List.map_map]
  rfl
theorem items_two (f : Nat → Nat → V) : ∀ i, (items2 (fun _ => 2) f i).length = 2 * i
  | 0 => rfl
  | i + 1 => by
    rw [items2_more, List.length_append, items_two f i, List.length_map, List.length_range]
    omega
def spLine (K : PySem.W.Frag) : Sp := fun vs H Q _ => ∃ v r m, vs = [v] ∧ Dq K H v (rowD r) ∧ isRowD (rowD r) m = true ∧ m ≤ 3 ∧ ∀ H', Same H H' → Q (.str (lineS r)) H'
section
variable {P : Program} {w : World} {K : PySem.W.Frag} {mg : Str → Option Value} {base : Heap} {C : Addr}
abbrev NLine : List Str := ["row", "name", "stretches", "bound", "ends", "stretch", "end"]
theorem scLine : FnScope NLine ["row"] (defScope sLineOf) := ⟨rfl, rfl, rfl, by decide +kernel, rfl, by decide +kernel, by decide +kernel⟩
theorem ok_line {f : Addr} {fd : FuncData} (F : FnT K "line_of" sLineOf f fd) (B : Bn mg) : FnOk P w K mg base CX0 1 f fd ["row"] (spLine K) := by
  refine F.ok scLine (fun vs H Q E h => ?_) (fun cdv A outer s H vs Q E hr h => ?_)
  · obtain ⟨v, r, m, rfl, _⟩ := h
    rfl
  · obtain ⟨v, r, m, rfl, hd, ok, hm, q⟩ := h
    have nd := scLine.nd
    refine ⟨_, PSs.nox (pss_cons (ps_asg (pv 0) (pg_tup rfl (pgs_cons (pg_name (i := 1) nd rfl (.inl rfl)) (pgs_cons (pg_name (i := 2) nd rfl (.inl rfl)) (pgs_cons (pg_name (i := 3) nd rfl (.inl rfl)) pgs_nil)))))
      (pss_cons (ps_setLc2 (i := 4) (own := [("stretch", 5), ("end", 6)]) (vs1 := [6]) (g := gName 5) (g1 := gName 6) (tt := tYes) (tt1 := tYes) rfl nd rfl rfl (sw_true rfl rfl rfl (by decide +kernel)) (pi_tup (pe_tup (StX.pa_star (pv 2) (pa_cons (pv 3) pa_nil))))
          (blkOk_by (own := [("stretch", 5), ("end", 6)]) (N := NLine) (sc := defScope sLineOf) (by decide +kernel)) (by decide) (fun _ _ _ _ _ => pg_name (i := 5) nd rfl (Or.inl rfl)) (fun _ _ _ _ _ => pts_nil)
          (fun _ _ _ _ _ => piT K (pv 5)) (fun _ _ _ _ _ => pg_name (i := 6) nd rfl (Or.inl rfl)) (fun _ _ _ _ _ => pts_nil)
          (fun _ _ _ _ _ => pe_callTy call_str_int (by rfl) B.str (by decide +kernel) (pa_cons (pv 6) pa_nil)))
      (pss_one (ps_ret (pe_join pe_str (pe_lst (pa_cons pe_str (pa_cons (pv 1) (StX.pa_star (pv 4) pa_nil))))))))), ?_⟩
    have hd1 := hd
    cases hd1 with
    | @tup a xs _ h1 h2 =>
      cases h2 with
      | @cons v1 _ _ _ e1 r1 =>
        cases r1 with
        | @cons v2 _ _ _ e2 r2 =>
          cases r2 with
          | @cons v3 _ _ _ e3 r3 =>
            cases r3
            refine ⟨_, rfl, a, _, rfl, h1, rfl, _, _, rfl, _, _, rfl, _, _, rfl, rfl, ?_⟩
            cases e1 with
            | str _ hname =>
              obtain ⟨a2, xs2, rfl, h3, h4, hl⟩ := tup_len e2
              rw [List.length_map] at hl
              have hp3 := (row_name ok).2
              have hall : DqAll K H (xs2 ++ [v3]) ((r.parts ++ [r.bd]).map strD) := by
                rw [List.map_append]
                exact h4.app (.cons e3 .nil)
              have hlen : (xs2 ++ [v3]).length = r.parts.length + 1 := by rw [List.length_append, hl]; rfl
              refine ⟨_, rfl, a2, xs2, rfl, .inl h3, _, rfl, by rw [hlen, hp3]; exact Nat.le_trans (Nat.succ_le_succ hm) (by decide), fun p hp => ⟨p, rfl, ⟨_, SqT.of upd_same⟩, fun D hD => ?_⟩⟩
              have s4 : Same H (upd H p (.tup (xs2 ++ [v3]))) := Same.new hp
              have hall1 := hall.same s4
              refine lc2_known (walk_tup (K := K) (a := p) (xs := xs2 ++ [v3])) (fun _ => 2) (wordAt (r.parts ++ [r.bd])) (fun i hi => by rw [items_two]; rw [hlen] at hi; omega) hD (fun H' s' => same_sqt s' (SqT.of upd_same)) (fun _ _ _ _ y => by obtain ⟨rfl, _⟩ := y; exact fun _ _ e => e) (fun _ => rfl) (fun _ _ => rfl) ?_ ?_
              · rintro i x H5 H6 R hi s5 ⟨rfl, hx⟩ k
                obtain ⟨d, hdi, hdq⟩ := hall1.get hx
                obtain ⟨pp, hpp, rfl⟩ : ∃ pp, (r.parts ++ [r.bd])[i]? = some pp ∧ d = strD pp := by
                  rw [List.getElem?_map] at hdi
                  cases e : (r.parts ++ [r.bd])[i]? with
                  | none => rw [e] at hdi; cases hdi
                  | some z => rw [e] at hdi; exact ⟨z, rfl, (Option.some.inj hdi).symm⟩
                have hin := row_in ok pp (List.mem_of_getElem? hpp)
                have hgd : (r.parts ++ [r.bd]).getD i (0, 0) = pp := by
                  rw [List.getD_eq_getElem?_getD, hpp]
                  rfl
                cases hdq with
                | @tup b ys _ g1 g2 =>
                  cases g2 with
                  | @cons w1 _ _ _ i1 t1 =>
                    cases t1 with
                    | @cons w2 _ _ _ i2 t2 =>
                      cases t2
                      cases i1
                      cases i2
                      refine ⟨_, rfl, b, rfl, ⟨_, same_sqt s5 g1⟩, k (Itt K b) _ _ _ (walk_tup (K := K) (a := b) (xs := [.int pp.1, .int pp.2])) (fun _ _ e => e) (fun H7 s7 => same_sqt s7 g1) (fun _ _ _ _ y => by obtain ⟨rfl, _⟩ := y; exact fun _ _ e => e) ?_⟩
                      rintro j z H7 H8 Qk hj s7 ⟨rfl, hz⟩ kk
                      have k1 := kk _ (fun _ _ e => e)
                      unfold wordAt at k1
                      rw [hgd] at k1
                      match j, hj, hz with
                      | 0, _, hz =>
                        cases hz
                        exact ⟨_, rfl, _, rfl, hin.1, k1⟩
                      | 1, _, hz =>
                        cases hz
                        exact ⟨_, rfl, _, rfl, hin.2, k1⟩
              · intro H5 s5 bD
                rw [items_words _ _ (by rw [hlen, List.length_append]; rfl)] at bD
                obtain ⟨w1, w2⟩ := words_len (r.parts ++ [r.bd]) (row_in ok)
                have l3 : (r.parts ++ [r.bd]).length ≤ 4 := by rw [List.length_append, hp3]; show m + 1 ≤ 4; omega
                refine ⟨⟨_, rfl⟩, _, rfl, _, rfl, D, _, rfl, .inr (SqL.of bD), ?_, fun l hl => ?_⟩
                · simp only [List.length_cons, List.length_append, List.length_map, List.length_nil]
                  rw [w2]
                  exact Nat.le_trans (show _ ≤ 100 by omega) (by decide)
                · rw [List.append_nil]
                  refine ⟨" ", l, [("row" : Str), r.name] ++ wordsOf (r.parts ++ [r.bd]), rfl, rfl, .inl (SqL.of upd_same), ?_, q _ (s4.trans (s5.trans (Same.new hl)))⟩
                  rw [List.map_append, List.sum_append, List.length_append, w2]
                  show 3 + (r.name.length + 0) + _ + (2 + 2 * (r.parts ++ [r.bd]).length) * 1 ≤ 16777216
                  omega
end
end Ca
set_option Elab.async false
set_option linter.all false
set_option maxRecDepth 100000
set_option maxHeartbeats 4000000
namespace Ca
open PySem L2
theorem cat_len (x y : Str) : (x ++ y).length = x.length + y.length := by
  show (x.cps ++ y.cps).size = x.cps.size + y.cps.size
  exact Array.size_append
theorem join_le (y : Str) : ∀ ps : List Str, (Str.join y ps).length ≤ (ps.map (·.length)).sum + ps.length * y.length
  | [] => Nat.zero_le _
  | [p] => by
    show p.length ≤ _
    simp only [List.map_cons, List.map_nil, List.sum_cons, List.sum_nil, List.length_cons, List.length_nil]
    omega
  | p :: z :: r => by
    have ih := join_le y (z :: r)
    show (p ++ y ++ Str.join y (z :: r)).length ≤ _
    rw [cat_len, cat_len]
    simp only [List.map_cons, List.sum_cons, List.length_cons, Nat.add_mul, Nat.one_mul] at ih ⊢
    omega
theorem line_len {r : Rw} {m : Nat} (ok : isRowD (rowD r) m = true) (hm : m ≤ 3) : (lineS r).length ≤ 16000 := by
  have hp3 := (row_name ok).2
  have l3 : (r.parts ++ [r.bd]).length ≤ 4 := by rw [List.length_append, hp3]; show m + 1 ≤ 4; omega
  obtain ⟨w1, w2⟩ := words_len (r.parts ++ [r.bd]) (row_in ok)
  have hn := (name_parts (row_name ok).1).2.1
  unfold lineS
  rw [TL.join_eq]
  refine Nat.le_trans (join_le _ _) ?_
  rw [List.map_append, List.sum_append, List.length_append, w2]
  show 3 + (r.name.length + 0) + _ + (2 + 2 * (r.parts ++ [r.bd]).length) * 1 ≤ 16000
  omega
theorem lines_len : ∀ (rs : List Rw) (m : Nat), (∀ r ∈ rs, isRowD (rowD r) m = true) → m ≤ 3 → (((rs.map lineS).map (·.length)).sum ≤ 16000 * rs.length)
  | [], _, _, _ => Nat.le_refl _
  | r :: rs, m, h, hm => by
    have ih := lines_len rs m (fun x z => h x (List.mem_cons_of_mem _ z)) hm
    have l := line_len (h r (List.mem_cons_self ..)) hm
    simp only [List.map_cons, List.sum_cons, List.length_cons]
    omega
theorem names_len : ∀ ns : List Str, (∀ x ∈ ns, nameS x = true) → (ns.map (·.length)).sum ≤ 8 * ns.length
  | [], _ => Nat.le_refl _
  | n :: ns, h => by
    have ih := names_len ns fun x z => h x (List.mem_cons_of_mem _ z)
    have l := (name_parts (h n (List.mem_cons_self ..))).2.1
    simp only [List.map_cons, List.sum_cons, List.length_cons]
    omega
def spStr (K : PySem.W.Frag) (C : Addr) : Sp := fun vs H Q _ => ∃ x ns rs, vs = [.ref x] ∧ SysAt K C H x ns rs ∧ ∀ H', Same H H' → Q (.str (pageS ns rs)) H'
section
variable {P : Program} {w : World} {K : PySem.W.Frag} {mg : Str → Option Value} {base : Heap} {C : Addr}
abbrev NStr : List Str := ["self", "first", "others", "row"]
theorem scStr : FnScope NStr ["self"] (defScope mSystemStr) := ⟨rfl, rfl, rfl, by decide +kernel, rfl, by decide +kernel, by decide +kernel⟩
theorem ok_str {f fL : Addr} {fd fdL : FuncData} (F : FnM K "__str__" "System.__str__" mSystemStr [] f fd) (S : SysC K C)
    (gL : mg "line_of" = some (.ref fL)) (GL : FnOk P w K mg base CX0 1 fL fdL ["row"] (spLine K)) (kL : PySem.W.keepIn K (.ref fL) = true) (bL : Binds K fdL ["row"] []) : FnOk P w K mg base CX0 2 f fd ["self"] (spStr K C) := by
  refine F.ok scStr (fun vs H Q E h => ?_) (fun cdv A outer s H vs Q E hr h => ?_)
  · obtain ⟨x, ns, rs, rfl, _⟩ := h
    rfl
  · obtain ⟨x, ns, rs, rfl, ⟨hN, hL, dx, u, r, hx, du, dr⟩, q⟩ := h
    have nd := scStr.nd
    refine ⟨_, PSs.nox (pss_cons (ps_set (i := 1) nd rfl (.inl rfl) (pe_join pe_str (pe_lst (pa_cons pe_str (StX.pa_star (pe_fld (pv 0) rfl) pa_nil)))))
      (pss_cons (ps_setLc (i := 2) (own := [("row", 3)]) (g := gName 3) (tt := tYes) rfl nd rfl rfl (sw_true rfl rfl rfl (by decide +kernel)) (pi_tup (pe_fld (pv 0) rfl))
          (blkOk_by (own := [("row", 3)]) (N := NStr) (sc := defScope mSystemStr) (by decide +kernel)) (fun _ _ _ _ _ => pg_name (i := 3) nd rfl (Or.inl rfl)) (fun _ _ _ _ _ => pts_nil)
          (fun _ _ _ _ _ => pe_call GL hr rfl gL kL bL .nil pass0 (pa_cons (pv 3) pa_nil)))
      (pss_one (ps_ret (pe_join pe_str (pe_lst (pa_cons (pv 1) (StX.pa_star (pv 2) pa_nil)))))))), ?_⟩
    obtain ⟨a, xs, rfl, h1, h2, hl⟩ := tup_len du
    obtain ⟨rfl, hlen⟩ := strs_of h2
    have nl := names_len ns (folk_names hN)
    have n3 := hN.hi
    refine ⟨⟨_, rfl⟩, _, rfl, x, C, dx, _, _, rfl, hx, S.cl, S.nu, rfl, a, _, rfl, .inl h1, ?_, fun l hlf => ?_⟩
    · simp only [List.length_cons, List.length_append, List.length_map, List.length_nil]
      exact Nat.le_trans (show _ ≤ 100 by omega) (by decide)
    rw [List.append_nil]
    refine ⟨" ", l, ("unknowns" : Str) :: ns, rfl, rfl, .inl (SqL.of upd_same), ?_, ?_⟩
    · simp only [List.map_cons, List.sum_cons, List.length_cons]
      show 8 + _ + (ns.length + 1) * 1 ≤ 16777216
      omega
    have s1 : Same H (upd H l (.lst ((("unknowns" : Str) :: ns).map V.str))) := Same.new hlf
    change tSeq _ _ _ _ (upd H l (.lst ((("unknowns" : Str) :: ns).map V.str)))
    generalize upd H l (.lst ((("unknowns" : Str) :: ns).map V.str)) = H1 at s1 ⊢
    obtain ⟨b, ys, rfl, g1, g2, gl⟩ := tup_len (dr.same s1)
    rw [List.length_map] at gl
    refine ⟨_, rfl, x, C, dx, _, _, rfl, s1 _ _ hx, S.cl, S.nr, rfl, b, rfl, ⟨_, g1⟩, fun D hD => ?_⟩
    refine lc_known (walk_tup (K := K) (a := b) (xs := ys)) (fun i => .str ((rs.map lineS).getD i "")) (by rw [gl]; have := hL.hi; omega) hD (fun H' s' => same_sqt s' g1) (fun _ _ _ _ y => by obtain ⟨rfl, _⟩ := y; exact fun _ _ e => e) (fun _ => rfl) ?_ ?_
    · rintro i z H5 H6 Qk hi s5 ⟨rfl, hz⟩ k
      obtain ⟨d, hdi, hdq⟩ := (g2.same s5).get hz
      have hi2 : i < rs.length := by rw [← gl]; exact hi
      rw [List.getElem?_map, List.getElem?_eq_getElem hi2] at hdi
      cases hdi
      refine ⟨_, rfl, z, rs[i], ns.length, rfl, hdq, hL.ok _ (List.getElem_mem hi2), n3, fun H7 s7 => ?_⟩
      have k1 := k H7 s7
      have en : (rs.map lineS).getD i "" = lineS rs[i] := by
        rw [List.getD_eq_getElem?_getD, List.getElem?_map, List.getElem?_eq_getElem hi2]
        rfl
      rw [en] at k1
      exact k1
    · intro H5 s5 bD
      rw [gl, map_range (rs.map lineS) "" V.str rs.length (List.length_map ..)] at bD
      have ll := lines_len rs ns.length hL.ok n3
      have r6 := hL.hi
      refine ⟨⟨_, rfl⟩, _, rfl, _, rfl, D, _, rfl, .inr (SqL.of bD), ?_, fun l2 hl2 => ?_⟩
      · simp only [List.length_cons, List.length_append, List.length_map, List.length_nil]
        exact Nat.le_trans (show _ ≤ 100 by omega) (by decide)
      rw [List.append_nil]
      refine ⟨"\n", l2, Txt.join " " (("unknowns" : Str) :: ns) :: rs.map lineS, rfl, rfl, .inl (SqL.of upd_same), ?_, q _ (s1.trans (s5.trans (Same.new hl2)))⟩
      have j1 := join_le " " (("unknowns" : Str) :: ns)
      rw [← TL.join_eq] at j1
      simp only [List.map_cons, List.sum_cons, List.length_cons, List.length_map] at j1 ⊢
      have e8 : Str.length "unknowns" = 8 := rfl
      have e1 : Str.length " " = 1 := rfl
      have e2 : Str.length "\n" = 1 := rfl
      rw [e8, e1] at j1
      rw [e2]
      omega
end
end Ca
set_option Elab.async false
set_option linter.all false
set_option maxRecDepth 100000
set_option maxHeartbeats 4000000
namespace Ca
open PySem L2
abbrev sUrn : Stmt := sLawUrn
abbrev sDip : Stmt := sLawDip
abbrev sFrom : Stmt := sLawFrom
section
variable {P : Program} {w : World} {K : PySem.W.Frag} {mg : Str → Option Value} {base : Heap}
theorem scUrn : FnScope ["_law_cells", "_law_at", "_law_own", "_law_stirred", "_law_each", "_law_great"] ["_law_cells", "_law_at"] (defScope sUrn) := ⟨rfl, rfl, rfl, by decide +kernel, rfl, by decide +kernel, by decide +kernel⟩
theorem ok_urn {f : Addr} {fd : FuncData} (F : Fun K "_law_urn" "_law_urn" sUrn f fd) (B : Bi mg) : FnOk P w K mg base CX0 1 f fd ["_law_cells", "_law_at"] (spUrn K) := by
  refine F.ok scUrn (fun vs H Q E h => ?_) (fun cdv A outer s H vs Q E hr h => ?_)
  · obtain ⟨a, ns, k, rfl, _⟩ := h
    rfl
  · obtain ⟨a, ns, k, rfl, hS, q⟩ := h
    have nd := scUrn.nd
    refine ⟨_, pss_cons (ps_cut (ps_set (i := 2) nd rfl (.inl rfl) (pe_ifExp (pt_cmpR op_lt (pv 1) (pe_callB call_len_seq (by rfl) B.len PySem.boot_len (pa_cons (pv 0) pa_nil)) (nomark _))
        (pe_callTy call_int1 (by rfl) B.int PyProof.Rows.boot_int (pa_cons (pe_ix ix_list (pv 0) (pv 1) (fun _ _ => rfl)) pa_nil)) (pe_op op_add (pe_op op_mul pe_int (pv 1)) pe_int))))
      (pss_cons (ps_set (i := 3) nd rfl (.inl rfl) (pe_op op_add pe_int (pe_op op_mul pe_int (pv 1))))
      (pss_cons (ps_for PassesOwn.never rfl (pi_list (pe_slice sl_list (pv 0) po_none (po_some pe_int))) (pg_name (i := 4) nd rfl (.inl rfl))
        (pss_one (ps_set (i := 3) nd rfl (.inl rfl) (pe_op op_mod (pe_callTy call_int1 (by rfl) B.int PyProof.Rows.boot_int (pa_cons (pe_op op_add (pe_op op_add (pe_op op_mul (pv 3) pe_int) (pe_op op_mul (pe_callTy call_int1 (by rfl) B.int PyProof.Rows.boot_int (pa_cons (pv 4) pa_nil)) pe_int)) pe_int) pa_nil)) pe_int))))
      (pss_cons (ps_cut (ps_set (i := 5) nd rfl (.inl rfl) (pe_ifExp (PW.pt (pw_or (pt_cmpR op_lt (pv 2) pe_int (nomark _)) (pw_or1 (pt_cmpR op_ge (pv 2) (pe_op op_pow pe_int pe_int) (nomark _))))) (pe_callB call_abs (by rfl) B.abs (by decide +kernel) (pa_cons (pv 2) pa_nil)) pe_int)))
      (pss_one (ps_ret (pe_lst (pa_cons (pv 5) (pa_cons (pe_op op_mod (pe_callTy call_int1 (by rfl) B.int PyProof.Rows.boot_int (pa_cons (pe_op op_add (pv 3) (pe_op op_mul (pv 2) pe_int)) pa_nil)) pe_int) (pa_cons pe_int pa_nil))))))))), ?_⟩
    refine ⟨fun σ' H' => ∃ own : Int, σ' = [some (.ref a), some (.int k), some (.int own), none, none, none] ∧ H' = H, ⟨_, rfl, _, rfl, _, _, rfl, .inl hS, _, _, rfl, rfl, _, rfl, ite2 (fun c => ?_) (fun c => ?_)⟩, ?_⟩
    · have hk : k < ns.length := by
        have c' := of_decide_eq_true c
        rw [List.length_map] at c'
        exact Int.ofNat_lt.mp c'
      obtain ⟨z, hz⟩ : ∃ z, ns[k]? = some z := ⟨_, List.getElem?_eq_getElem hk⟩
      exact ⟨_, rfl, _, rfl, _, _, _, _, rfl, rfl, hS, atI_nat (v := .int z) (by rw [List.getElem?_map, hz]; rfl), .inl ⟨_, rfl, _, rfl, rfl⟩⟩
    · exact ⟨_, rfl, _, _, rfl, rfl, .inl ⟨by decide, by decide⟩, _, _, rfl, rfl, _, rfl, rfl⟩
    rintro σ1 H1 ⟨own, rfl, rfl⟩
    refine ⟨_, rfl, _, _, rfl, rfl, .inl ⟨by decide, by decide⟩, _, _, rfl, rfl, ?_⟩
    refine ⟨_, rfl, _, rfl, a, _, rfl, hS, fun p hp => ?_⟩
    have s1 : Same H1 (upd H1 p (.lst (cutV (ns.map V.int) none (some 7)))) := Same.new hp
    refine ⟨_, rfl, ⟨_, SqL.of upd_same⟩, for_list (K := K) (a := p) (xs := cutV (ns.map V.int) none (some 7)) (fun i σ H' => ∃ (st : Int) (v : Option V), σ = [some (.ref a), some (.int k), some (.int own), some (.int st), v, none] ∧ H' = upd H1 p (.lst (cutV (ns.map V.int) none (some 7))))
      ⟨_, none, rfl, rfl⟩ (fun i σ H' _ h => ?_) ?_ ?_⟩
    · obtain ⟨_, _, _, rfl⟩ := h
      exact SqL.of upd_same
    · rintro i y σ H' hi ⟨st, v, rfl, rfl⟩
      obtain ⟨z, rfl⟩ := cut_int_get hi
      exact ⟨_, rfl, _, _, rfl, rfl, .inr ⟨by decide, by decide⟩, _, rfl, .inl ⟨_, rfl, _, _, rfl, rfl, .inr ⟨by decide, by decide⟩, _, _, rfl, rfl, _, _, rfl, rfl, .inl ⟨_, rfl, _, _, rfl, rfl, by show (0 : Int) < 2147483563; decide, _, _, rfl, rfl⟩⟩⟩
    · rintro σ H' ⟨st, v, rfl, rfl⟩
      refine ⟨fun σ' H' => ∃ g : Int, 0 ≤ g ∧ σ' = [some (.ref a), some (.int k), some (.int own), some (.int st), v, some (.int g)] ∧ H' = upd H1 p (.lst (cutV (ns.map V.int) none (some 7))), ?_, ?_⟩
      · refine ⟨_, rfl, _, _, rfl, rfl, _, rfl, ?_⟩
        refine ite2 (fun c => ?_) (fun c => ?_)
        · refine iteT ?_
          refine ⟨_, rfl, _, rfl, _, ?_, rfl, rfl⟩
          split <;> omega
        · refine ⟨_, rfl, _, _, rfl, rfl, ⟨by decide, by decide, by decide⟩, _, _, rfl, rfl, _, rfl, ?_⟩
          refine ite2 (fun c => ?_) (fun c => ?_)
          · refine ⟨_, rfl, _, rfl, _, ?_, rfl, rfl⟩
            split <;> omega
          · exact ⟨0, Int.le_refl _, rfl, rfl⟩
      · rintro σ2 H2 ⟨g, hg, rfl, rfl⟩
        refine ⟨_, rfl, _, rfl, _, rfl, _, _, rfl, rfl, .inr ⟨by decide, by decide⟩, _, _, rfl, rfl, .inl ⟨_, rfl, _, _, rfl, rfl, by show (0 : Int) < 2147483563; decide, by show 3 ≤ sizeLine; decide, fun l hl => ?_⟩⟩
        refine q _ l (s1.free hl) (s1.trans (Same.new hl)) ⟨g, _, 4, hg, Int.emod_nonneg _ (by decide), Int.emod_lt_of_pos _ (by decide), upd_same⟩
theorem scDip : FnScope ["_law_urn_here", "_law_top", "_law_figure", "_law_held"] ["_law_urn_here", "_law_top"] (defScope sDip) := ⟨rfl, rfl, rfl, by decide +kernel, rfl, by decide +kernel, by decide +kernel⟩
theorem ok_dip {f : Addr} {fd : FuncData} (F : Fun K "_law_dip" "_law_dip" sDip f fd) (B : Bi mg) : FnOk P w K mg base CX0 1 f fd ["_law_urn_here", "_law_top"] spDip := by
  refine F.ok scDip (fun vs H Q E h => ?_) (fun cdv A outer s H vs Q E hr h => ?_)
  · obtain ⟨a, t, rfl, _⟩ := h
    rfl
  · obtain ⟨l, t, rfl, ⟨g, x, n, hg, hx, hx2, hU⟩, ht, ht2, q⟩ := h
    have nd := scDip.nd
    refine ⟨_, pss_cons (ps_if (pt_cmpR op_gt (pe_ix ix_list (pv 0) pe_int (fun _ _ => rfl)) pe_int (nomark _))
        (pss_cons (ps_asg (pe_callB call_divmod (by rfl) B.divmod (by decide +kernel) (pa_cons (pe_ix ix_list (pv 0) pe_int (fun _ _ => rfl)) (pa_cons (pv 1) pa_nil)))
            (pg_tup rfl (pgs_cons (pg_sub (pv 0) pe_int set_list) (pgs_cons (pg_name (i := 2) nd rfl (.inl rfl)) pgs_nil))))
          (pss_one (ps_ret (pv 2)))) pss_nil)
      (pss_cons (ps_asg (pe_op op_add (pe_ix ix_list (pv 0) pe_int (fun _ _ => rfl)) pe_int) (pg_sub (pv 0) pe_int set_list))
      (pss_cons (ps_set (i := 3) nd rfl (.inl rfl) (pe_callTy call_int1 (by rfl) B.int PyProof.Rows.boot_int (pa_cons (pe_op op_mul (pe_ix ix_list (pv 0) pe_int (fun _ _ => rfl)) (pe_op op_add pe_int (pe_op op_mod (pe_callTy call_int1 (by rfl) B.int PyProof.Rows.boot_int (pa_cons (pe_ix ix_list (pv 0) pe_int (fun _ _ => rfl)) pa_nil)) pe_int))) pa_nil)))
      (pss_cons (ps_asg (pe_op op_mod (pe_callTy call_int1 (by rfl) B.int PyProof.Rows.boot_int (pa_cons (pe_op op_add (pe_op op_add (pv 3) (pe_op op_mul pe_int (pe_ix ix_list (pv 0) pe_int (fun _ _ => rfl)))) pe_int) pa_nil)) pe_int) (pg_sub (pv 0) pe_int set_list))
      (pss_one (ps_ret (pe_op op_mod (pe_callTy call_int1 (by rfl) B.int PyProof.Rows.boot_int (pa_cons (pe_op op_fdiv (pe_ix ix_list (pv 0) pe_int (fun _ _ => rfl)) pe_int) pa_nil)) (pv 1))))))), ?_⟩
    refine ⟨_, rfl, _, _, _, _, rfl, rfl, SqL.of hU, rfl, _, _, rfl, rfl, _, rfl, ite2 (fun c => ?_) (fun c => ?_)⟩
    · refine ⟨_, rfl, _, _, _, _, rfl, rfl, SqL.of hU, rfl, _, rfl, _, _, rfl, ⟨ht, ht2⟩, fun p hp => ?_⟩
      have npl : l ≠ p := ne_of_none hU hp
      refine ⟨_, _, rfl, SqT.of upd_same, rfl, _, _, rfl, ⟨_, rfl, _, _, _, _, rfl, rfl, Eq.trans (upd_ne npl) hU, rfl, ?_⟩⟩
      refine ⟨_, _, rfl, ⟨rfl, ?_⟩⟩
      refine ⟨_, rfl, q _ _ ((Kept.new hp).trans Kept.upd) ⟨_, x, n, ?_, hx, hx2, upd_same⟩ (Int.emod_nonneg _ (by omega)) (Int.emod_lt_of_pos _ ht)⟩
      exact Int.ediv_nonneg hg (Int.le_of_lt ht)
    · refine ⟨_, rfl, _, _, _, _, rfl, rfl, SqL.of hU, rfl, _, _, rfl, rfl, _, rfl, _, _, _, _, rfl, rfl, hU, rfl, ?_⟩
      refine ⟨_, rfl, _, _, _, _, rfl, rfl, SqL.of upd_same, rfl, _, rfl, _, _, _, _, rfl, rfl, SqL.of upd_same, rfl, .inl ⟨_, rfl, _, _, rfl, rfl, by show (0 : Int) < 5003; decide, _, _, rfl, rfl, _, _, rfl, rfl, .inl ⟨by show -(2 ^ 64) < x; omega, by show x < 2 ^ 64; omega⟩, .inl ⟨_, rfl, ?_⟩⟩⟩
      refine ⟨_, rfl, _, rfl, _, _, _, _, rfl, rfl, SqL.of upd_same, rfl, _, _, rfl, rfl, .inl ⟨by decide, by decide⟩, _, _, rfl, rfl, _, _, rfl, rfl, .inl ⟨_, rfl, _, _, rfl, rfl, by show (0 : Int) < 2147483563; decide, _, rfl, _, _, _, _, rfl, rfl, upd_same, rfl, ?_⟩⟩
      refine ⟨_, rfl, _, _, _, _, rfl, rfl, SqL.of upd_same, rfl, _, _, rfl, rfl, ⟨by decide, by decide⟩, .inl ⟨_, rfl, _, rfl, _, _, rfl, rfl, ht, ?_⟩⟩
      exact q _ _ (Kept.upd.trans Kept.upd) ⟨g, _, _, hg, Int.emod_nonneg _ (by decide), Int.emod_lt_of_pos _ (by decide), upd_same⟩ (Int.emod_nonneg _ (by omega)) (Int.emod_lt_of_pos _ ht)
theorem scFrom : FnScope ["_law_urn_here", "_law_some"] ["_law_urn_here", "_law_some"] (defScope sFrom) := ⟨rfl, rfl, rfl, by decide +kernel, rfl, by decide +kernel, by decide +kernel⟩
theorem ok_from {f fD : Addr} {fd fdD : FuncData} (F : Fun K "_law_from" "_law_from" sFrom f fd) (B : Bi mg) (gD : mg "_law_dip" = some (.ref fD)) (FD : Fun K "_law_dip" "_law_dip" sDip fD fdD) (bD : Binds K fdD ["_law_urn_here", "_law_top"] []) :
    FnOk P w K mg base CX0 2 f fd ["_law_urn_here", "_law_some"] (spFrom K) := by
  have GD : FnOk P w K mg base CX0 1 fD fdD ["_law_urn_here", "_law_top"] spDip := ok_dip FD B
  refine F.ok scFrom (fun vs H Q E h => ?_) (fun cdv A outer s H vs Q E hr h => ?_)
  · obtain ⟨l, a, xs, rfl, _⟩ := h
    rfl
  · obtain ⟨l, a, xs, rfl, hU, hA, nal, h0, h1, q⟩ := h
    refine ⟨_, pss_one (ps_ret (pe_ix ix_list (pv 1) (pe_call GD hr rfl gD FD.kp bD .nil pass0 (pa_cons (pv 0) (pa_cons (pe_callB call_len_seq (by rfl) B.len PySem.boot_len (pa_cons (pv 1) pa_nil)) pa_nil))) (fun _ _ => rfl))), ?_⟩
    refine ⟨_, rfl, _, rfl, _, rfl, _, _, rfl, .inl (SqL.of hA), l, _, rfl, hU, by omega, by omega, fun H' r k u r0 r1 => ?_⟩
    have hi : r.toNat < xs.length := by omega
    refine ⟨a, xs, r, xs[r.toNat], rfl, rfl, SqL.of (k _ _ nal hA), ?_, ?_⟩
    · exact at_of (j := r.toNat) (by omega) (List.getElem?_eq_getElem hi)
    · exact q _ r.toNat _ (List.getElem?_eq_getElem hi) k u
end
end Ca
set_option Elab.async false
set_option linter.all false
set_option maxRecDepth 100000
set_option maxHeartbeats 4000000
namespace Ca
open PySem L2
/-! ### data of tuples, ints and texts alone, behind changes of a list -/
mutual
def noL : PyData → Bool
  | .list _ => false
  | .dict _ => false
  | .tuple ds => noLs ds
  | _ => true
def noLs : List PyData → Bool
  | [] => true
  | d :: ds => noL d && noLs ds
end
theorem sqt_but {K : PySem.W.Frag} {H H' : Hp} {l a : Addr} {ys xs : List V} (hl : H l = some (.lst ys)) (k : Kept l H H') (h : SqT K H a xs) : SqT K H' a xs := by
  have n : ∀ o, H a = some o → (∀ zs, o ≠ .lst zs) → a ≠ l := fun o e z y => by
    rw [y, hl] at e
    cases e
    exact z _ rfl
  rcases h with (e | ⟨o, e⟩) | e
  · exact .inl (.inl (k _ _ (n _ e fun _ z => nomatch z) e))
  · exact .inl (.inr ⟨o, k _ _ (n _ e fun _ z => nomatch z) e⟩)
  · exact .inr e
mutual
theorem Dq.but {K : PySem.W.Frag} {H H' : Hp} {l : Addr} {ys : List V} (hl : H l = some (.lst ys)) (k : Kept l H H') : ∀ {d : PyData} {v : V}, noL d = true → Dq K H v d → Dq K H' v d
  | .none, _, _, h => by cases h; exact .non
  | .bool b, _, _, h => by cases h; exact .bl b
  | .int i, _, _, h => by cases h; exact .int i
  | .str x, _, _, h => by cases h with | str _ a => exact .str x a
  | .list ds, _, n, _ => by simp [noL] at n
  | .tuple ds, _, n, h => by
    cases h with
    | tup a b => exact .tup (sqt_but hl k a) (DqAll.but hl k (by simpa only [noL] using n) b)
  | .dict ds, _, n, _ => by simp [noL] at n
theorem DqAll.but {K : PySem.W.Frag} {H H' : Hp} {l : Addr} {ys : List V} (hl : H l = some (.lst ys)) (k : Kept l H H') : ∀ {ds : List PyData} {vs : List V}, noLs ds = true → DqAll K H vs ds → DqAll K H' vs ds
  | [], _, _, h => by cases h; exact .nil
  | d :: ds, _, n, h => by
    obtain ⟨n1, n2⟩ := Bool.and_eq_true_iff.mp (show (noL d && noLs ds) = true by simpa only [noLs] using n)
    cases h with
    | cons a b => exact .cons (Dq.but hl k n1 a) (DqAll.but hl k n2 b)
end
theorem urn_lst {H : Hp} {l : Addr} (u : Urn H l) : ∃ ys, H l = some (.lst ys) := by
  obtain ⟨g, x, n, _, _, _, h⟩ := u
  exact ⟨_, h⟩
theorem noL_strD (p : Int × Int) : noL (strD p) = true := rfl
theorem noLs_map {α : Type} (g : α → PyData) (h : ∀ a, noL (g a) = true) : ∀ l : List α, noLs (l.map g) = true
  | [] => rfl
  | a :: l => by
    simp only [List.map_cons, noLs]
    rw [h a, noLs_map g h l]
    rfl
theorem noL_strs (ns : List Str) : noLs (ns.map .str) = true := noLs_map _ (fun _ => rfl) ns
theorem noL_folk (ns : List Str) : noL (folkD ns) = true := noL_strs ns
theorem noL_row (r : Rw) : noL (rowD r) = true := by
  have := noLs_map strD noL_strD r.parts
  unfold rowD
  simp only [noL, noLs, this, noL_strD]
  rfl
theorem noL_rows (rs : List Rw) : noL (rowsD rs) = true := noLs_map rowD noL_row rs
/-- a comprehension that draws from the urn at l, its items kept as data -/
theorem lc_draw {J : It} {n : Nat} {G : Hp → Prop} {Y : Nat → Hp → V → Hp → Prop} (w : Walk J n G Y) {K : PySem.W.Frag} {α : Type} (g : α → PyData) (ok : Nat → α → Prop) {te : TE} {vs : List Nat} {σ : L2.St} {H1 : Hp} {D l : Addr} {Qd : Hp → Prop} {j : Nat} (hg : ∀ a, noL (g a) = true) (hn : n ≤ 100000) (hU : Urn H1 l) (hD : H1 D = none)
    (hG : ∀ H, Kept l H1 H → G H) (hY : ∀ i H x H', Y i H x H' → H' = H) (hw : ∀ x, wipe ((wipe σ vs).set j (some x)) vs = wipe σ vs)
    (hs : ∀ i x H (Qk : VK), i < n → Y i H x H → Kept l H1 H → Urn H l → (∀ y a H4, Kept l H H4 → Urn H4 l → Dq K H4 y (g a) → ok i a → Qk y H4) → te ((wipe σ vs).set j (some x)) H Qk)
    (hd : ∀ H xs (as : List α), Kept l H1 H → Urn H l → H D = some (.lst xs) → DqAll K H xs (as.map g) → as.length = n → (∀ i a, as[i]? = some a → ok i a) → Qd H) :
    ∃ W : Nat → Nat → Hp → Prop, (∃ m, W 0 m (upd H1 D (.lst []))) ∧ ∀ i m H, W i m H →
      (J.stop i H ∧ Qd H) ∨ (J.go i H ∧ ∃ Nx : Hp → Prop, (∀ H', Nx H' → ∃ m', m' < m ∧ W (i + 1) m' H') ∧ ∀ x H', J.yld i H x H' → gName j x (wipe σ vs) H' fun σ2 H2 => wipe σ2 vs = wipe σ vs ∧ tYes σ2 H2 fun b H3 =>
        if b = true then te σ2 H3 fun y H4 => ∃ acc, H4 D = some (.lst acc) ∧ acc.length < sizeLine ∧ Nx (upd H4 D (.lst (acc ++ [y]))) else Nx H3) := by
  obtain ⟨lo, hlo⟩ := hU.some
  have nDl : D ≠ l := fun z => by rw [z, hlo] at hD; cases hD
  refine lc_it w (fun i H => Kept l H1 H ∧ Urn H l ∧ ∃ xs, ∃ as : List α, H D = some (.lst xs) ∧ DqAll K H xs (as.map g) ∧ as.length = i ∧ ∀ i a, as[i]? = some a → ok i a)
    ⟨(Same.new hD).kept, hU.same (Same.new hD), [], [], upd_same, .nil, rfl, fun _ _ z => nomatch z⟩ (fun i H _ p => hG H p.1) ?_ (fun H p => by
      obtain ⟨p1, p2, xs, as, p3, p4, p5, p6⟩ := p
      exact hd H xs as p1 p2 p3 p4 p5 p6)
  rintro i x H H' hi ⟨p1, p2, xs, as, p3, p4, p5, p6⟩ yy
  obtain rfl := hY i H x H' yy
  refine ⟨hw _, rdYes (hs i x _ _ hi yy p1 p2 fun y a H4 k4 u4 q4 ok4 => ?_)⟩
  have d4 := k4 _ _ nDl p3
  obtain ⟨us, hus⟩ := urn_lst p2
  have a4 : DqAll K H4 xs (as.map g) := DqAll.but hus k4 (noLs_map g hg as) p4
  have kD : Kept D H4 (upd H4 D (.lst (xs ++ [y]))) := fun b o n e => by rw [upd_ne n]; exact e
  refine ⟨_, d4, ?_, fun b o n e => ?_, ?_, xs ++ [y], as ++ [a], upd_same, ?_, by rw [List.length_append, p5]; rfl, fun i' a' hia => ?_⟩
  · have := p4.len
    rw [List.length_map, p5] at this
    rw [this]
    exact Nat.lt_of_lt_of_le (Nat.lt_of_lt_of_le hi hn) (by decide)
  · have nb : b ≠ D := fun z => by rw [z, hD] at e; cases e
    rw [upd_ne nb]
    exact k4 _ _ n (p1 _ _ n e)
  · obtain ⟨x1, x2, x3, y1, y2, y3, y4⟩ := u4
    exact ⟨x1, x2, x3, y1, y2, y3, by rw [upd_ne nDl.symm]; exact y4⟩
  · rw [List.map_append]
    exact (DqAll.but d4 kD (noLs_map g hg as) a4).app (.cons (Dq.but d4 kD (hg a) q4) .nil)
  · by_cases c : i' < as.length
    · rw [List.getElem?_append_left c] at hia
      exact p6 i' a' hia
    · rw [List.getElem?_append_right (Nat.le_of_not_lt c)] at hia
      have e0 : i' - as.length = 0 := by
        cases z : i' - as.length with
        | zero => rfl
        | succ k => rw [z] at hia; cases hia
      rw [e0] at hia
      cases hia
      have : i' = i := by omega
      rw [this]
      exact ok4
end Ca
set_option Elab.async false
set_option linter.all false
set_option maxRecDepth 100000
set_option maxHeartbeats 4000000
namespace Ca
open PySem L2
section
variable {X : Cx}
theorem ixL (K : PySem.W.Frag) (h : X.K = K := by rfl) : IxR X (rIxL K) := h ▸ ix_list
end
theorem idx_inj : ∀ b s j k : Fin 11, s ≠ 0 → j ≠ k → (b.val + s.val * j.val) % 11 ≠ (b.val + s.val * k.val) % 11 := by decide +kernel
def pick (ms : List Str) (b s m : Nat) : List Str := (List.range m).map fun k => ms.getD ((b + s * k) % 11) ""
theorem pick_mem {ms : List Str} {b s m : Nat} (h : ms.length = 11) : ∀ x ∈ pick ms b s m, x ∈ ms := by
  intro x hx
  obtain ⟨k, _, rfl⟩ := List.mem_map.mp hx
  have : (b + s * k) % 11 < ms.length := by rw [h]; exact Nat.mod_lt _ (by decide)
  rw [List.getD_eq_getElem?_getD, List.getElem?_eq_getElem this]
  exact List.getElem_mem this
theorem pick_nodup {ms : List Str} {b s m : Nat} (h : ms.length = 11) (nd : ms.Nodup) (hb : b < 11) (hs : 1 ≤ s) (hs2 : s < 11) (hm : m ≤ 11) : (pick ms b s m).Nodup := by
  refine List.pairwise_iff_getElem.mpr fun i j hi hj hij => ?_
  unfold pick at hi hj ⊢
  rw [List.length_map, List.length_range] at hi hj
  rw [List.getElem_map, List.getElem_map, List.getElem_range, List.getElem_range]
  have l1 : (b + s * i) % 11 < ms.length := by rw [h]; exact Nat.mod_lt _ (by decide)
  have l2 : (b + s * j) % 11 < ms.length := by rw [h]; exact Nat.mod_lt _ (by decide)
  rw [List.getD_eq_getElem?_getD, List.getElem?_eq_getElem l1, List.getD_eq_getElem?_getD, List.getElem?_eq_getElem l2]
  have ne := idx_inj ⟨b, hb⟩ ⟨s, hs2⟩ ⟨i, by omega⟩ ⟨j, by omega⟩ (by intro z; have := congrArg Fin.val z; simp at this; omega) (by intro z; have := congrArg Fin.val z; simp at this; omega)
  show ms[(b + s * i) % 11] ≠ ms[(b + s * j) % 11]
  rcases Nat.lt_or_gt_of_ne ne with c | c
  · exact List.pairwise_iff_getElem.mp nd _ _ l1 l2 c
  · exact (List.pairwise_iff_getElem.mp nd _ _ l2 l1 c).symm
def spUnlike (K : PySem.W.Frag) : Sp := fun vs H Q _ => ∃ (l a : Addr) (ms : List Str) (m : Nat), vs = [.ref l, .ref a, .int m] ∧ Urn H l ∧ a ≠ l ∧ H a = some (.lst (ms.map V.str)) ∧ ms.length = 11 ∧ ms.Nodup ∧ m ≤ 11 ∧
  ∀ H' p (ns : List Str), Kept l H H' → Urn H' l → H p = none → H' p = some (.lst (ns.map V.str)) → ns.length = m → ns.Nodup → (∀ x ∈ ns, x ∈ ms) → Q (.ref p) H'
section
variable {P : Program} {w : World} {K : PySem.W.Frag} {mg : Str → Option Value} {base : Heap} {C : Addr}
abbrev NUn : List Str := ["_law_urn_here", "_law_menu", "_law_many", "_law_begin", "_law_step", "_law_k"]
theorem scUnlike : FnScope NUn ["_law_urn_here", "_law_menu", "_law_many"] (defScope sLawUnlike) := ⟨rfl, rfl, rfl, by decide +kernel, rfl, by decide +kernel, by decide +kernel⟩
theorem ok_unlike {f fD : Addr} {fd fdD : FuncData} (F : FnT K "_law_unlike" sLawUnlike f fd) (B : Bn mg) (rng : mg "range" = none)
    (gD : mg "_law_dip" = some (.ref fD)) (GD : FnOk P w K mg base CX0 1 fD fdD ["_law_urn_here", "_law_top"] spDip) (kD : PySem.W.keepIn K (.ref fD) = true) (bD : Binds K fdD ["_law_urn_here", "_law_top"] []) :
    FnOk P w K mg base CX0 2 f fd ["_law_urn_here", "_law_menu", "_law_many"] (spUnlike K) := by
  refine F.ok scUnlike (fun vs H Q E h => ?_) (fun cdv A outer s H vs Q E hr h => ?_)
  · obtain ⟨l, a, ms, m, rfl, _⟩ := h
    rfl
  · obtain ⟨l, a, ms, m, rfl, hU, nal, hA, hms, hnd, hm, q⟩ := h
    have nd := scUnlike.nd
    refine ⟨_, PSs.nox (pss_cons (ps_asg (pe_tup (pa_cons (pe_call GD hr rfl gD kD bD .nil pass0 (pa_cons (pv 0) (pa_cons pe_int pa_nil))) (pa_cons (pe_op op_add pe_int (pe_call GD hr rfl gD kD bD .nil pass0 (pa_cons (pv 0) (pa_cons pe_int pa_nil)))) pa_nil)))
        (pg_tup rfl (pgs_cons (pg_name (i := 3) nd rfl (.inr rfl)) (pgs_cons (pg_name (i := 4) nd rfl (.inr rfl)) pgs_nil))))
      (pss_one (ps_ret (pe_lc (own := [("_law_k", 5)]) (g := gName 5) (tt := tYes) rfl nd (pi_range1 rfl rng (pa_cons (pv 2) pa_nil))
        (blkOk_by (own := [("_law_k", 5)]) (N := NUn) (sc := defScope sLawUnlike) (by decide +kernel)) (fun _ _ _ _ _ => pg_name (i := 5) nd rfl (Or.inl rfl)) (fun _ _ _ _ _ => pts_nil)
        (fun _ _ _ _ _ => pe_ix (ixL K) (pv 1) (pe_op op_mod (pe_callTy call_int1 (by rfl) B.int (by decide +kernel) (pa_cons (pe_op op_add (pv 3) (pe_op op_mul (pv 4) (pv 5))) pa_nil)) pe_int) (fun _ _ => rfl)))))), ?_⟩
    refine ⟨_, rfl, l, 11, rfl, hU, by decide, by decide, fun H1 b k1 u1 b0 b1 => ⟨_, rfl, l, 10, rfl, u1, by decide, by decide, fun H2 st k2 u2 s0 s1 => ⟨_, _, rfl, rfl, by show 2 ≤ sizeLine; decide, fun p hp => ?_⟩⟩⟩
    obtain ⟨bn, rfl⟩ := Int.eq_ofNat_of_zero_le b0
    obtain ⟨sn, rfl⟩ := Int.eq_ofNat_of_zero_le s0
    refine ⟨p, _, rfl, SqT.of upd_same, rfl, _, _, rfl, _, _, rfl, rfl, ?_⟩
    have hA3 : upd H2 p (.tup [.int (bn : Nat), .int (1 + (sn : Nat))]) a = some (.lst (ms.map V.str)) := by
      have := k2 _ _ nal (k1 _ _ nal hA)
      rw [upd_ne (ne_of_none this hp)]
      exact this
    have k3 : Kept l H (upd H2 p (.tup [.int (bn : Nat), .int (1 + (sn : Nat))])) := k1.trans (k2.trans (Same.new hp).kept)
    have u3 := u2.same (Same.new (o := .tup [.int (bn : Nat), .int (1 + (sn : Nat))]) hp)
    refine ⟨_, rfl, (m : Int), rfl, by omega, by omega, fun D hD => ?_⟩
    refine lc_known (walk_range (lo := 0) (n := m)) (fun k => .str (ms.getD ((bn + (1 + sn) * k) % 11) "")) (by omega) hD (fun _ _ => trivial) (fun _ _ _ _ y => by obtain ⟨rfl, _⟩ := y; exact fun _ _ e => e) (fun _ => rfl) ?_ ?_
    · rintro k x H5 H6 Qk hk s5 ⟨rfl, rfl⟩ kk
      have k1 := kk _ (fun _ _ e => e)
      have lt : (bn + (1 + sn) * k) % 11 < ms.length := by rw [hms]; exact Nat.mod_lt _ (by decide)
      refine ⟨_, rfl, _, rfl, _, rfl, _, rfl, _, _, rfl, rfl, .inl ⟨by omega, by omega⟩, _, _, rfl, rfl, .inl ⟨_, rfl, ?_⟩⟩
      refine ⟨_, _, rfl, rfl, by show (0 : Int) < 11; decide, a, _, _, _, rfl, rfl, SqL.of (s5 _ _ hA3), ?_, k1⟩
      have ei : ((bn : Int) + (1 + (sn : Int)) * (0 + (k : Int))) % 11 = (((bn + (1 + sn) * k) % 11 : Nat) : Int) := by
        have hP : (1 + (sn : Int)) * (k : Int) = (((1 + sn) * k : Nat) : Int) := by
          rw [Int.natCast_mul, Int.natCast_add]
          rfl
        rw [Int.zero_add, hP]
        generalize (1 + sn) * k = z
        omega
      rw [ei]
      refine atI_nat ?_
      rw [List.getElem?_map, List.getElem?_eq_getElem lt, List.getD_eq_getElem?_getD, List.getElem?_eq_getElem lt]
      rfl
    · intro H5 s5 bD
      have hDn : H D = none := by
        cases z : H D with
        | none => rfl
        | some o =>
          by_cases c : D = l
          · rw [c] at hD
            obtain ⟨o2, ho2⟩ := u3.some
            rw [ho2] at hD
            cases hD
          · rw [k3 _ _ c z] at hD
            cases hD
      refine q H5 D (pick ms bn (1 + sn) m) (k3.trans s5.kept) (u3.same s5) hDn ?_ (by unfold pick; rw [List.length_map, List.length_range]) (pick_nodup hms hnd (by omega) (by omega) (by omega) hm) (pick_mem hms)
      rw [bD]
      unfold pick
      rw [List.map_map]
      rfl
end
end Ca
set_option Elab.async false
set_option linter.all false
set_option maxRecDepth 100000
set_option maxHeartbeats 4000000
namespace Ca
open PySem L2
def spStretch (K : PySem.W.Frag) : Sp := fun vs H Q _ => ∃ l : Addr, vs = [.ref l] ∧ Urn H l ∧ ∀ H' v p, Kept l H H' → Urn H' l → Dq K H' v (strD p) → isStretchD (strD p) = true → Q v H'
theorem two_ok {p : Int × Int} (h1 : -10000 ≤ p.1) (h2 : p.1 ≤ p.2) (h3 : p.2 ≤ 10000) : isStretchD (strD p) = true := by
  show (decide (-10000 ≤ p.1) && (decide (p.1 ≤ p.2) && decide (p.2 ≤ 10000))) = true
  rw [decide_eq_true h1, decide_eq_true h2, decide_eq_true h3]
  rfl
theorem five {H : Hp} {t1 t2 t3 t4 t5 p : Addr} {o1 o2 o3 o4 o5 : HO} (o : HO) (h1 : H t1 = none) (h2 : upd H t1 o1 t2 = none) (h3 : upd (upd H t1 o1) t2 o2 t3 = none) (h4 : upd (upd (upd H t1 o1) t2 o2) t3 o3 t4 = none)
    (h5 : upd (upd (upd (upd H t1 o1) t2 o2) t3 o3) t4 o4 t5 = none) (hp : upd (upd (upd (upd (upd H t1 o1) t2 o2) t3 o3) t4 o4) t5 o5 p = none) :
    Same H (upd (upd (upd (upd (upd (upd H t1 o1) t2 o2) t3 o3) t4 o4) t5 o5) p o) ∧ upd (upd (upd (upd (upd (upd H t1 o1) t2 o2) t3 o3) t4 o4) t5 o5) p o t1 = some o1 ∧ upd (upd (upd (upd (upd (upd H t1 o1) t2 o2) t3 o3) t4 o4) t5 o5) p o t2 = some o2 ∧
    upd (upd (upd (upd (upd (upd H t1 o1) t2 o2) t3 o3) t4 o4) t5 o5) p o t3 = some o3 ∧ upd (upd (upd (upd (upd (upd H t1 o1) t2 o2) t3 o3) t4 o4) t5 o5) p o t4 = some o4 ∧ upd (upd (upd (upd (upd (upd H t1 o1) t2 o2) t3 o3) t4 o4) t5 o5) p o t5 = some o5 ∧ ∀ b u, H b = some u → p ≠ b := by
  have s1 := Same.new (o := o1) h1
  have s2 := Same.new (o := o2) h2
  have s3 := Same.new (o := o3) h3
  have s4 := Same.new (o := o4) h4
  have s5 := Same.new (o := o5) h5
  have sp := Same.new (o := o) hp
  exact ⟨s1.trans (s2.trans (s3.trans (s4.trans (s5.trans sp)))), sp _ _ (s5 _ _ (s4 _ _ (s3 _ _ (s2 _ _ upd_same)))), sp _ _ (s5 _ _ (s4 _ _ (s3 _ _ upd_same))), sp _ _ (s5 _ _ (s4 _ _ upd_same)), sp _ _ (s5 _ _ upd_same), sp _ _ upd_same, fun b u e z => by
    rw [z, s5 _ _ (s4 _ _ (s3 _ _ (s2 _ _ (s1 _ _ e))))] at hp
    cases hp⟩
theorem strD_at {K : PySem.W.Frag} {H : Hp} {t : Addr} {a b : Int} (h : H t = some (.tup [.int a, .int b])) : Dq K H (.ref t) (strD (a, b)) := .tup (SqT.of h) (.cons (.int _) (.cons (.int _) .nil))
section
variable {P : Program} {w : World} {K : PySem.W.Frag} {mg : Str → Option Value} {base : Heap} {C : Addr}
theorem scStretch : FnScope ["_law_urn_here", "_law_most", nmLow] ["_law_urn_here"] (defScope sLawStretch) := ⟨rfl, rfl, rfl, by decide +kernel, rfl, by decide +kernel, by decide +kernel⟩
theorem ok_stretch {f fD fF : Addr} {fd fdD fdF : FuncData} (F : FnT K "_law_stretch" sLawStretch f fd)
    (gD : mg "_law_dip" = some (.ref fD)) (GD : FnOk P w K mg base CX0 1 fD fdD ["_law_urn_here", "_law_top"] spDip) (kD : PySem.W.keepIn K (.ref fD) = true) (bD : Binds K fdD ["_law_urn_here", "_law_top"] [])
    (gF : mg "_law_from" = some (.ref fF)) (GF : FnOk P w K mg base CX0 2 fF fdF ["_law_urn_here", "_law_some"] (spFrom K)) (kF : PySem.W.keepIn K (.ref fF) = true) (bF : Binds K fdF ["_law_urn_here", "_law_some"] []) :
    FnOk P w K mg base CX0 3 f fd ["_law_urn_here"] (spStretch K) := by
  refine F.ok scStretch (fun vs H Q E h => ?_) (fun cdv A outer s H vs Q E hr h => ?_)
  · obtain ⟨l, rfl, _⟩ := h
    rfl
  · obtain ⟨l, rfl, hU, q⟩ := h
    have nd := scStretch.nd
    have hr1 : Room 1 _ := hr.mono (by decide)
    have ifT {A B : Prop} {c : Bool} (h : c = true) (a : A) : (if c = true then A else B) := by rw [if_pos h]; exact a
    refine ⟨_, PSs.nox (pss_cons (ps_if (pt_cmpR op_eq (pe_call GD hr1 rfl gD kD bD .nil pass0 (pa_cons (pv 0) (pa_cons pe_int pa_nil))) pe_int (nomark _))
        (pss_cons (ps_cut (ps_set (i := 1) nd rfl (.inl rfl) (pe_op op_pow pe_int pe_int)))
        (pss_one (ps_ret (pe_call GF hr rfl gF kF bF .nil pass0 (pa_cons (pv 0) (pa_cons (pe_lst (pa_cons (pe_tup (pa_cons (pe_op op_sub pe_int (pv 1)) (pa_cons (pv 1) pa_nil)))
          (pa_cons (pe_tup (pa_cons (pv 1) (pa_cons (pv 1) pa_nil))) (pa_cons (pe_tup (pa_cons (pe_op op_sub pe_int (pv 1)) (pa_cons pe_int pa_nil))) (pa_cons (pe_tup (pa_cons pe_int (pa_cons pe_int pa_nil)))
          (pa_cons (pe_tup (pa_cons (pe_op op_sub pe_int (pv 1)) (pa_cons (pe_op op_sub pe_int (pv 1)) pa_nil))) pa_nil)))))) pa_nil)))))) pss_nil)
      (pss_cons (ps_set (i := 2) nd rfl (.inl rfl) (pe_call GF hr rfl gF kF bF .nil pass0 (pa_cons (pv 0) (pa_cons (pe_lst (pa_cons pe_int (pa_cons pe_int (pa_cons pe_int (pa_cons (pe_un un_neg pe_int) (pa_cons (pe_un un_neg pe_int)
          (pa_cons (pe_op op_sub (pe_call GD hr1 rfl gD kD bD .nil pass0 (pa_cons (pv 0) (pa_cons pe_int pa_nil))) pe_int) pa_nil))))))) pa_nil))))
      (pss_one (ps_ret (pe_tup (pa_cons (pv 2) (pa_cons (pe_op op_add (pv 2) (pe_call GF hr rfl gF kF bF .nil pass0 (pa_cons (pv 0) (pa_cons (pe_lst (pa_cons pe_int (pa_cons pe_int (pa_cons pe_int (pa_cons pe_int
          (pa_cons (pe_call GD hr1 rfl gD kD bD .nil pass0 (pa_cons (pv 0) (pa_cons pe_int pa_nil))) pa_nil)))))) pa_nil)))) pa_nil))))))), ?_⟩
    refine ⟨_, rfl, l, 12, rfl, hU, by decide, by decide, fun H1 b k1 u1 b0 b1 => ⟨rfl, _, rfl, ite2 (fun g => ?_) (fun g => ?_)⟩⟩
    · refine ⟨fun σ' H' => σ' = [some (.ref l), some (.int 10000), none] ∧ H' = H1, ⟨_, _, rfl, rfl, ⟨by decide, by decide, by decide⟩, rfl, rfl⟩, ?_⟩
      rintro _ _ ⟨rfl, rfl⟩
      have two : 2 ≤ sizeLine := by decide
      refine ⟨_, rfl, _, rfl, _, _, rfl, rfl, _, rfl, two, fun t1 h1 => ⟨_, rfl, _, rfl, two, fun t2 h2 => ⟨_, rfl, _, _, rfl, rfl, two, fun t3 h3 => ⟨two, fun t4 h4 => ⟨_, rfl, _, _, rfl, rfl, _, rfl, _, _, rfl, rfl, two, fun t5 h5 => ⟨by show 5 ≤ sizeLine; decide, fun p hp => ?_⟩⟩⟩⟩⟩⟩
      obtain ⟨sG, a1, a2, a3, a4, a5, ap⟩ := five (.lst [.ref t1, .ref t2, .ref t3, .ref t4, .ref t5]) h1 h2 h3 h4 h5 hp
      obtain ⟨ys, hys⟩ := urn_lst (u1.same sG)
      obtain ⟨uo, huo⟩ := u1.some
      have npl : p ≠ l := ap l uo huo
      refine ⟨l, p, _, rfl, u1.same sG, upd_same, npl, by show 0 < 5; decide, by show 5 < 1000; decide, fun H2 i v hv k2 u2 => ?_⟩
      have kk : Kept l H H2 := k1.trans (sG.kept.trans k2)
      match i, hv with
      | 0, hv => cases hv; exact q H2 _ (0 - 10000, 10000) kk u2 (Dq.but hys k2 rfl (strD_at a1)) (by decide)
      | 1, hv => cases hv; exact q H2 _ (10000, 10000) kk u2 (Dq.but hys k2 rfl (strD_at a2)) (by decide)
      | 2, hv => cases hv; exact q H2 _ (0 - 10000, 0) kk u2 (Dq.but hys k2 rfl (strD_at a3)) (by decide)
      | 3, hv => cases hv; exact q H2 _ (0, 0) kk u2 (Dq.but hys k2 rfl (strD_at a4)) (by decide)
      | 4, hv => cases hv; exact q H2 _ (0 - 10000, 0 - 10000) kk u2 (Dq.but hys k2 rfl (strD_at a5)) (by decide)
      | n + 5, hv => cases hv
    · refine ⟨_, rfl, _, rfl, _, rfl, _, rfl, l, 25, rfl, u1, by decide, by decide, fun H2 d k2 u2 d0 d1 => ⟨_, _, rfl, rfl, by show 6 ≤ sizeLine; decide, fun p hp => ?_⟩⟩
      obtain ⟨uo, huo⟩ := u2.some
      have s2 := Same.new (o := .lst [.int 0, .int 0, .int 1, .int (-1), .int (-3), .int (d - 12)]) hp
      refine ⟨l, p, _, rfl, u2.same s2, upd_same, (ne_of_none huo hp).symm, by show 0 < 6; decide, by show 6 < 1000; decide, fun H3 i v hv k3 u3 => ?_⟩
      obtain ⟨low, rfl, w1, w2⟩ : ∃ low : Int, v = .int low ∧ -12 ≤ low ∧ low ≤ 12 := by
        match i, hv with
        | 0, hv => cases hv; exact ⟨0, rfl, by decide, by decide⟩
        | 1, hv => cases hv; exact ⟨0, rfl, by decide, by decide⟩
        | 2, hv => cases hv; exact ⟨1, rfl, by decide, by decide⟩
        | 3, hv => cases hv; exact ⟨-1, rfl, by decide, by decide⟩
        | 4, hv => cases hv; exact ⟨-3, rfl, by decide, by decide⟩
        | 5, hv => cases hv; exact ⟨d - 12, rfl, by omega, by omega⟩
        | n + 6, hv => cases hv
      refine ⟨_, rfl, _, rfl, _, rfl, _, rfl, l, 9, rfl, u3, by decide, by decide, fun H4 e k4 u4 e0 e1 => ⟨by show 5 ≤ sizeLine; decide, fun p2 hp2 => ?_⟩⟩
      obtain ⟨uo2, huo2⟩ := u4.some
      have s4 := Same.new (o := .lst [.int 0, .int 0, .int 1, .int 2, .int e]) hp2
      refine ⟨l, p2, _, rfl, u4.same s4, upd_same, (ne_of_none huo2 hp2).symm, by show 0 < 5; decide, by show 5 < 1000; decide, fun H5 i2 v2 hv2 k5 u5 => ?_⟩
      obtain ⟨hi, rfl, z1, z2⟩ : ∃ hi : Int, v2 = .int hi ∧ 0 ≤ hi ∧ hi ≤ 8 := by
        match i2, hv2 with
        | 0, hv => cases hv; exact ⟨0, rfl, by decide, by decide⟩
        | 1, hv => cases hv; exact ⟨0, rfl, by decide, by decide⟩
        | 2, hv => cases hv; exact ⟨1, rfl, by decide, by decide⟩
        | 3, hv => cases hv; exact ⟨2, rfl, by decide, by decide⟩
        | 4, hv => cases hv; exact ⟨e, rfl, by omega, by omega⟩
        | n + 5, hv => cases hv
      refine ⟨_, _, rfl, rfl, by show 2 ≤ sizeLine; decide, fun t ht => ?_⟩
      exact q _ _ (low, low + hi) (k1.trans (k2.trans (s2.kept.trans (k3.trans (k4.trans (s4.kept.trans (k5.trans (Same.new ht).kept))))))) (u5.same (Same.new ht)) (strD_at upd_same) (two_ok (show -10000 ≤ low by omega) (show low ≤ low + hi by omega) (show low + hi ≤ 10000 by omega))
end
end Ca
set_option Elab.async false
set_option linter.all false
set_option maxRecDepth 100000
set_option maxHeartbeats 4000000
namespace Ca
open PySem PySem.Spec PyProof.Rows L2
/-! ### tuples of which it is known that they have no attributes of their own -/
def TupN (H : Hp) (a : Addr) (xs : List V) : Prop := ∃ o : Obj, H a = some (.frz o (.tup xs)) ∧ o.cls = .type "tuple" ∧ o.dict = none
theorem TupN.sq {K : PySem.W.Frag} {H : Hp} {a : Addr} {xs : List V} (h : TupN H a xs) : SqT K H a xs := h.elim fun o e => .inl (.inr ⟨o, e.1⟩)
theorem TupN.same {H H' : Hp} {a : Addr} {xs : List V} (h : TupN H a xs) (s : Same H H') : TupN H' a xs := h.elim fun o e => ⟨o, s _ _ e.1, e.2⟩
theorem TupN.kept {H H' : Hp} {l a : Addr} {xs ys : List V} (hl : H l = some (.lst ys)) (h : TupN H a xs) (k : Kept l H H') : TupN H' a xs := by
  obtain ⟨o, e, r⟩ := h
  exact ⟨o, k _ _ (fun z => by rw [z, hl] at e; cases e) e, r⟩
section
variable {X : Cx} {pins : List (Addr × Obj)} {σ : L2.St} {H : Hp} {s : Shared}
/-- a tuple just pushed, kept as it is -/
theorem pushed_tup {xs : List V} {its : List Value} (I : Inv X pins σ H s) (r : Vals xs its) (z : xs.length ≤ sizeLine) :
    ∃ H', H s.heap.objs.size = none ∧ Same H H' ∧ TupN H' s.heap.objs.size xs ∧ Inv X pins σ H' { s with heap := s.heap.push { cls := .type "tuple", data := .seq its.toArray } } := by
  have free : H s.heap.objs.size = none := I.hok.fresh (Nat.le_refl _)
  have look := Heap.get?_push_size (o := { cls := .type "tuple", data := .seq its.toArray }) s.heap rfl
  refine ⟨upd H s.heap.objs.size (.frz { cls := .type "tuple", data := .seq its.toArray } (.tup xs)), free, Same.new free, ⟨_, upd_same, rfl, rfl⟩, ?_⟩
  exact I.laid (t' := s.toks) (fun b u e => Heap.get?_push_of_some _ e) (Nat.le_refl _) ⟨look, z, its, r, IsTup.new _ _⟩
def tTupN (t : TA) : TE := fun σ H Q => t σ H fun vs H1 => vs.length ≤ sizeLine ∧ ∀ p H2, H1 p = none → Same H1 H2 → TupN H2 p vs → Q (.ref p) H2
theorem pe_tupN {es : List Expr} {k : Nat} {pos : Pos} {t : TA} (h : PA X es t) : PE X (.Tuple es k pos) (tTupN t) := by
  constructor
  intro pins s σ H Q I hq
  refine wpAny_Tuple_spliced (thn (h.run pos pins s σ H _ I hq) ?_)
  rintro us s1 ⟨xs, H1, I1, r, z, q⟩
  obtain ⟨H2, free, sm, tn, I2⟩ := pushed_tup I1 r z
  exact ⟨Nat.le_trans (Nat.le_of_eq r.length.symm) z, .ref _, H2, I2, rfl, q _ H2 free sm tn⟩
/-- tuple(a list) -/
theorem call_tupN (K : PySem.W.Frag) (hK : X.K = K := by rfl) : CallR X (.type "tuple") (fun xs H Q => ∃ p ys, xs = [.ref p] ∧ SqL K H p ys ∧ ∀ l H', H l = none → Same H H' → TupN H' l ys → Q (.ref l) H') := by
  subst hK
  rintro pins s σ H _ us Q I r ⟨p, ys, rfl, hq, q⟩
  obtain rfl := Vals.ref1 r
  obtain ⟨its, r', pl, hz⟩ := I.list hq
  refine call_tuple_list pl.isList (fun h' kp => ?_) (by rw [List.size_toArray, ← r'.length]; exact hz)
  obtain ⟨H2, free, sm, tn, I2⟩ := pushed_tup (s := { s with heap := h' }) (I.kept (t' := s.toks) kp) r' hz
  exact ⟨.ref _, H2, I2, rfl, q _ H2 free sm tn⟩
def tBMN (r : V → List V → Hp → VK → Prop) (to : TE) (t : TA) : TE := fun σ H Q => to σ H fun x H1 => (∃ a xs, x = .ref a ∧ TupN H1 a xs) ∧ t σ H1 fun vs H2 => r x vs H2 Q
/-- t.m(e) for such a tuple -/
theorem pe_bmN {o e : Expr} {es : List Expr} {name : Str} {id : String} {apos cpos : Pos} {to : TE} {t : TA} {r : V → List V → Hp → VK → Prop} (slot : Slot "tuple" name id) (hty : typeOf (.builtin id) = pure (.type "method_descriptor")) (hm : MtR X id r) (ho : PE X o to) (ha : PA X (e :: es) t)
    (h1 : attributeBase o name X.env (eval o X.env) = eval o X.env := by rfl)
    (h2 : ((backTo cpos (starEach (e :: es) X.env)).all (fun x => !x.1) && (backToKw cpos (keywordEach [] X.env)).all (fun x => x.1.isSome) && decide ((e :: es).length + ([] : List Keyword).length + (if ([] : List Keyword).isEmpty then 0 else 1) < 30)) = true := by rfl)
    (h3 : (apos.endLine == cpos.line) = true := by rfl) (h4 : starEach (e :: es) X.env = (false, eval e X.env) :: starEach es X.env := by rfl) (h5 : (backTo cpos (starEach es X.env)).any (·.1) = false := by rfl) :
    PE X (.Call (.Attribute o name apos) (e :: es) [] cpos) (tBMN r to t) := by
  constructor
  intro pins s σ H Q I h
  refine wpAny_Call_method_late h1 h2 h3 rfl (thn (ho.run pins s σ H _ I h) ?_)
  rintro v s1 ⟨x, H1, I1, r1, ⟨a, xs, ex, tn⟩, q1⟩
  subst ex
  obtain rfl : v = Value.ref a := r1
  obtain ⟨ob, eo, co, dn⟩ := tn
  have look : s1.heap.get? a = some ob := (I1.hok a _ eo).1
  refine ⟨"tuple", id, PySem.F.plainAttrs_tuple, slot, hty, ⟨ob, look, co⟩, fun b eb => ?_, ?_⟩
  · cases eb
    exact ⟨ob, look, dn⟩
  have hA := ha.run cpos pins s1 σ H1 _ I1 q1
  rw [h4] at hA ⊢
  refine Calls.callWith_builtin (show (false || (backTo cpos (starEach es X.env)).any (·.1)) = false by rw [h5]; rfl) (Calls.evalArgs_plain (thn hA ?_))
  rintro us s2 ⟨vs, H2, I2, r2, q2⟩
  exact hm pins s2 σ H2 (V.ref a) vs _ us Q I2 rfl r2 q2
end
end Ca
set_option Elab.async false
set_option linter.all false
set_option maxRecDepth 100000
set_option maxHeartbeats 4000000
namespace Ca
open PySem L2
section
variable {X : Cx}
theorem call_lenK (K : PySem.W.Frag) (h : X.K = K := by rfl) : CallR X (.builtin "len") (fun xs H Q => ∃ x n, xs = [x] ∧ LenV K x H n ∧ Q (.int n) H) := h ▸ call_len
end
def spRowD (K : PySem.W.Frag) : Sp := fun vs H Q _ => ∃ (l : Addr) (t : Str) (m : Nat), vs = [.ref l, .str t, .int m] ∧ Urn H l ∧ t.length ≤ 1000 ∧ m ≤ 3 ∧
  ∀ H' v r, Kept l H H' → Urn H' l → Dq K H' v (rowD r) → r.name = t → r.parts.length = m → (∀ p ∈ r.parts ++ [r.bd], isStretchD (strD p) = true) → Q v H'
def caseD (ns : List Str) (rs : List Rw) : PyData := .tuple [folkD ns, rowsD rs]
def menuU : List Str := ["x", "y", "z", "a1", "bounds", "row", "unknowns", "u", "b2", "bound1", "abcdefg8"]
def menuR : List Str := ["need", "room", "more", "bound", "x", "row", "a1", "zz9", "unknowns", "n", "w2345678"]
def spCase (K : PySem.W.Frag) : Sp := fun vs H Q _ => ∃ (l : Addr) (m : Nat), vs = [.ref l, .int 3, .int m] ∧ m ≤ 6 ∧ Urn H l ∧
  ∀ H' v ns rs, Kept l H H' → Urn H' l → Dq K H' v (caseD ns rs) → Folk ns → Lines rs ns.length → rs.length ≤ m → (∀ r ∈ rs, r.name ∈ menuR) → Q v H'
/-- the same, of parts that stand by themselves -/
def spCaseN (K : PySem.W.Frag) : Sp := fun vs H Q _ => ∃ (l : Addr) (m : Nat), vs = [.ref l, .int 3, .int m] ∧ m ≤ 6 ∧ Urn H l ∧
  ∀ H' c u r ns rs, Kept l H H' → Urn H' l → SqT K H' c [.ref u, .ref r] → TupN H' u (ns.map V.str) → Dq K H' (.ref u) (folkD ns) → Dq K H' (.ref r) (rowsD rs) → Folk ns → Lines rs ns.length → rs.length ≤ m → (∀ r ∈ rs, r.name ∈ menuR) → Q (.ref c) H'
theorem row_ok {r : Rw} {m : Nat} (hn : nameS r.name = true) (hp : r.parts.length = m) (h : ∀ p ∈ r.parts ++ [r.bd], isStretchD (strD p) = true) : isRowD (rowD r) m = true := by
  refine Bool.and_eq_true_iff.mpr ⟨hn, Bool.and_eq_true_iff.mpr ⟨?_, ?_⟩⟩
  · show decide ((r.parts.map strD).length = m) = true
    rw [List.length_map]
    exact decide_eq_true hp
  · show ((r.parts.map strD ++ [strD r.bd]).all isStretchD) = true
    rw [show r.parts.map strD ++ [strD r.bd] = (r.parts ++ [r.bd]).map strD by rw [List.map_append]; rfl, List.all_map, List.all_eq_true]
    exact h
section
variable {P : Program} {w : World} {K : PySem.W.Frag} {mg : Str → Option Value} {base : Heap} {C : Addr}
abbrev NRowD : List Str := ["_law_urn_here", "_law_title", "_law_many", "_law_k"]
theorem scRowD : FnScope NRowD ["_law_urn_here", "_law_title", "_law_many"] (defScope sLawLine) := ⟨rfl, rfl, rfl, by decide +kernel, rfl, by decide +kernel, by decide +kernel⟩
theorem ok_rowD {f fS : Addr} {fd fdS : FuncData} (F : FnT K "_law_line" sLawLine f fd) (B : Bn mg) (rng : mg "range" = none)
    (gS : mg "_law_stretch" = some (.ref fS)) (GS : FnOk P w K mg base CX0 3 fS fdS ["_law_urn_here"] (spStretch K)) (kS : PySem.W.keepIn K (.ref fS) = true) (bS : Binds K fdS ["_law_urn_here"] []) :
    FnOk P w K mg base CX0 4 f fd ["_law_urn_here", "_law_title", "_law_many"] (spRowD K) := by
  refine F.ok scRowD (fun vs H Q E h => ?_) (fun cdv A outer s H vs Q E hr h => ?_)
  · obtain ⟨l, t, m, rfl, _⟩ := h
    rfl
  · obtain ⟨l, t, m, rfl, hU, ht, hm, q⟩ := h
    have nd := scRowD.nd
    refine ⟨_, PSs.nox (pss_one (ps_ret (pe_tup (pa_cons (pv 1) (pa_cons (pe_callTy call_tuple_of (by rfl) B.tup (by decide +kernel) (pa_cons (pe_lc (own := [("_law_k", 3)]) (g := gName 3) (tt := tYes) rfl nd (pi_range1 rfl rng (pa_cons (pv 2) pa_nil))
        (blkOk_by (own := [("_law_k", 3)]) (N := NRowD) (sc := defScope sLawLine) (by decide +kernel)) (fun _ _ _ _ _ => pg_name (i := 3) nd rfl (Or.inl rfl)) (fun _ _ _ _ _ => pts_nil)
        (fun _ _ _ _ _ => pe_call GS hr rfl gS kS bS .nil pass0 (pa_cons (pv 0) pa_nil))) pa_nil)) (pa_cons (pe_call GS hr rfl gS kS bS .nil pass0 (pa_cons (pv 0) pa_nil)) pa_nil)))))), ?_⟩
    refine ⟨_, rfl, _, rfl, (m : Int), rfl, by omega, by omega, fun D hD => ?_⟩
    refine lc_draw (K := K) (walk_range (lo := 0) (n := m)) strD (fun _ p => isStretchD (strD p) = true) noL_strD (by omega) hU hD (fun _ _ => trivial) (fun _ _ _ _ y => y.1) (fun _ => rfl) ?_ ?_
    · intro i x H5 Qk hi yy k5 u5 kk
      exact ⟨_, rfl, l, rfl, u5, fun H6 v p k6 u6 dq ok => kk v p H6 k6 u6 dq ok⟩
    · intro H5 xs ps k5 u5 bD dps hlen hok
      refine ⟨D, xs, rfl, .inl ⟨SqL.of bD, fun tp htp => ?_⟩⟩
      have s6 := Same.new (o := .tup xs) htp
      refine ⟨_, rfl, l, rfl, u5.same s6, fun H7 v7 p7 k7 u7 d7 ok7 => ⟨by show 3 ≤ sizeLine; decide, fun tt htt => ?_⟩⟩
      have s8 := Same.new (o := .tup [.str t, .ref tp, v7]) htt
      obtain ⟨ys, hys⟩ := urn_lst (u5.same s6)
      have d6 : Dq K (upd H5 tp (.tup xs)) (.ref tp) (.tuple (ps.map strD)) := .tup (SqT.of upd_same) (dps.same s6)
      have d7' := Dq.but hys k7 (show noL (.tuple (ps.map strD)) = true from noLs_map strD noL_strD ps) d6
      refine q _ _ ⟨t, ps, p7⟩ (k5.trans (s6.kept.trans (k7.trans s8.kept))) (u7.same s8) (.tup (SqT.of upd_same) (.cons (.str t ht) (.cons (d7'.same s8) (.cons (d7.same s8) .nil)))) rfl hlen ?_
      intro p hp
      rcases List.mem_append.mp hp with z | z
      · obtain ⟨i, hi⟩ := List.mem_iff_getElem?.mp z
        exact hok i p hi
      · rw [List.mem_singleton.mp z]
        exact ok7
theorem menuU_ok : menuU.length = 11 ∧ menuU.Nodup ∧ ∀ x ∈ menuU, isUnknownD (.str x) = true := by decide +kernel
theorem menuR_ok : menuR.length = 11 ∧ menuR.Nodup ∧ ∀ x ∈ menuR, nameS x = true := by decide +kernel
abbrev NCase : List Str := ["_law_urn_here", "_law_many", "_law_most", "_law_menu", "_law_folk", "_law_titles", "_law_title"]
theorem scCase : FnScope NCase ["_law_urn_here", "_law_many", "_law_most"] (defScope sLawCase) := ⟨rfl, rfl, rfl, by decide +kernel, rfl, by decide +kernel, by decide +kernel⟩
theorem ok_caseN {f fD fU fL : Addr} {fd fdD fdU fdL : FuncData} (F : FnT K "_law_case" sLawCase f fd) (B : Bn mg)
    (gD : mg "_law_dip" = some (.ref fD)) (GD : FnOk P w K mg base CX0 1 fD fdD ["_law_urn_here", "_law_top"] spDip) (kD : PySem.W.keepIn K (.ref fD) = true) (bD : Binds K fdD ["_law_urn_here", "_law_top"] [])
    (gU : mg "_law_unlike" = some (.ref fU)) (GU : FnOk P w K mg base CX0 2 fU fdU ["_law_urn_here", "_law_menu", "_law_many"] (spUnlike K)) (kU : PySem.W.keepIn K (.ref fU) = true) (bU : Binds K fdU ["_law_urn_here", "_law_menu", "_law_many"] [])
    (gL : mg "_law_line" = some (.ref fL)) (GL : FnOk P w K mg base CX0 4 fL fdL ["_law_urn_here", "_law_title", "_law_many"] (spRowD K)) (kL : PySem.W.keepIn K (.ref fL) = true) (bL : Binds K fdL ["_law_urn_here", "_law_title", "_law_many"] []) :
    FnOk P w K mg base CX0 5 f fd ["_law_urn_here", "_law_many", "_law_most"] (spCaseN K) := by
  refine F.ok scCase (fun vs H Q E h => ?_) (fun cdv A outer s H vs Q E hr h => ?_)
  · obtain ⟨l, m, rfl, _⟩ := h
    rfl
  · obtain ⟨l, m, rfl, hm, hU, q⟩ := h
    have nd := scCase.nd
    have hr1 : Room 1 _ := hr.mono (by decide)
    have hr2 : Room 2 _ := hr.mono (by decide)
    refine ⟨_, PSs.nox (pss_cons (ps_set (i := 3) nd rfl (.inl rfl) (pe_lst (pa_cons pe_str (pa_cons pe_str (pa_cons pe_str (pa_cons pe_str (pa_cons pe_str (pa_cons pe_str (pa_cons pe_str (pa_cons pe_str (pa_cons pe_str (pa_cons pe_str (pa_cons pe_str pa_nil)))))))))))))
      (pss_cons (ps_set (i := 4) nd rfl (.inr rfl) (pe_call GU hr2 rfl gU kU bU .nil pass0 (pa_cons (pv 0) (pa_cons (pv 3) (pa_cons (pe_op op_add pe_int (pe_call GD hr1 rfl gD kD bD .nil pass0 (pa_cons (pv 0) (pa_cons (pv 1) pa_nil)))) pa_nil)))))
      (pss_cons (ps_set (i := 3) nd rfl (.inl rfl) (pe_lst (pa_cons pe_str (pa_cons pe_str (pa_cons pe_str (pa_cons pe_str (pa_cons pe_str (pa_cons pe_str (pa_cons pe_str (pa_cons pe_str (pa_cons pe_str (pa_cons pe_str (pa_cons pe_str pa_nil)))))))))))))
      (pss_cons (ps_set (i := 5) nd rfl (.inl rfl) (pe_call GU hr2 rfl gU kU bU .nil pass0 (pa_cons (pv 0) (pa_cons (pv 3) (pa_cons (pe_call GD hr1 rfl gD kD bD .nil pass0 (pa_cons (pv 0) (pa_cons (pe_op op_add (pv 2) pe_int) pa_nil))) pa_nil)))))
      (pss_one (ps_ret (pe_tup (pa_cons (pe_callTy (call_tupN K) (by rfl) B.tup (by decide +kernel) (pa_cons (pv 4) pa_nil)) (pa_cons (pe_callTy call_tuple_of (by rfl) B.tup (by decide +kernel) (pa_cons (pe_lc (own := [("_law_title", 6)]) (g := gName 6) (tt := tYes) rfl nd (pi_list (pv 5))
        (blkOk_by (own := [("_law_title", 6)]) (N := NCase) (sc := defScope sLawCase) (by decide +kernel)) (fun _ _ _ _ _ => pg_name (i := 6) nd rfl (Or.inl rfl)) (fun _ _ _ _ _ => pts_nil)
        (fun _ _ _ _ _ => pe_call GL hr rfl gL kL bL .nil pass0 (pa_cons (pv 0) (pa_cons (pv 6) (pa_cons (pe_callB (call_lenK K) (by rfl) B.len boot_len (pa_cons (pv 4) pa_nil)) pa_nil))))) pa_nil)) pa_nil))))))))), ?_⟩
    have l11 : 11 ≤ sizeLine := by decide
    obtain ⟨uo, huo⟩ := hU.some
    refine ⟨l11, fun p1 hp1 => ?_⟩
    have s1 := Same.new (o := .lst (menuU.map V.str)) hp1
    have n1 : p1 ≠ l := (ne_of_none huo hp1).symm
    have b1 : upd H p1 (.lst (menuU.map V.str)) p1 = some (.lst (menuU.map V.str)) := upd_same
    change tSeq _ _ _ _ (upd H p1 (.lst (menuU.map V.str)))
    generalize upd H p1 (.lst (menuU.map V.str)) = H1 at s1 b1 ⊢
    refine ⟨_, rfl, _, rfl, _, rfl, _, rfl, l, 3, rfl, hU.same s1, by decide, by decide, fun H2 d k2 u2 d0 d1 => ?_⟩
    obtain ⟨dn, rfl⟩ := Int.eq_ofNat_of_zero_le d0
    have b2 := k2 _ _ n1 b1
    refine ⟨_, _, rfl, rfl, l, p1, menuU, 1 + dn, by rw [Int.natCast_add]; rfl, u2, n1, b2, menuU_ok.1, menuU_ok.2.1, by omega, fun H3 pf ns k3 u3 hpf b3 lf nf mf => ?_⟩
    have k03 : Kept l H H3 := s1.kept.trans (k2.trans k3)
    have nfl : pf ≠ l := by
      obtain ⟨o, ho⟩ := u2.some
      exact (ne_of_none ho hpf).symm
    have hN : Folk ns := ⟨by omega, by omega, fun x z => menuU_ok.2.2 x (mf x z), nf⟩
    refine ⟨l11, fun p2 hp2 => ?_⟩
    have s4 := Same.new (o := .lst (menuR.map V.str)) hp2
    have n2 : p2 ≠ l := by
      obtain ⟨o, ho⟩ := u3.some
      exact (ne_of_none ho hp2).symm
    have b4 : upd H3 p2 (.lst (menuR.map V.str)) p2 = some (.lst (menuR.map V.str)) := upd_same
    have u4 := u3.same s4
    have b34 := s4 _ _ b3
    change tSeq _ _ _ _ (upd H3 p2 (.lst (menuR.map V.str)))
    generalize upd H3 p2 (.lst (menuR.map V.str)) = H4 at s4 b4 u4 b34 ⊢
    refine ⟨_, rfl, _, rfl, _, rfl, _, rfl, _, _, rfl, rfl, l, (m : Int) + 1, rfl, u4, by omega, by omega, fun H5 e k5 u5 e0 e1 => ?_⟩
    obtain ⟨en, rfl⟩ := Int.eq_ofNat_of_zero_le e0
    refine ⟨l, p2, menuR, en, rfl, u5, n2, k5 _ _ n2 b4, menuR_ok.1, menuR_ok.2.1, by omega, fun H6 pt ts k6 u6 hpt b6 lt nt mt => ?_⟩
    have k06 : Kept l H H6 := k03.trans (s4.kept.trans (k5.trans k6))
    have ntl : pt ≠ l := by
      obtain ⟨o, ho⟩ := u5.some
      exact (ne_of_none ho hpt).symm
    have b36 := k6 _ _ nfl (k5 _ _ nfl b34)
    have hl8 : ∀ x ∈ ns, x.length ≤ 1000 := fun x z => by
      have := (name_parts (folk_names hN x z)).2.1
      omega
    refine ⟨_, rfl, pf, _, rfl, SqL.of b36, fun tf H7 htf s7 tn7 => ?_⟩
    have dF : Dq K H7 (.ref tf) (folkD ns) := .tup tn7.sq (strs_dq hl8)
    have u7 := u6.same s7
    have b37 := s7 _ _ b36
    have b67 := s7 _ _ b6
    refine ⟨_, rfl, pt, rfl, ⟨_, SqL.of b67⟩, fun D hD => ?_⟩
    have hlt : (ts.map V.str).length = en := by rw [List.length_map, lt]
    refine lc_draw (K := K) (walk_list (K := K) (a := pt) (xs := ts.map V.str)) rowD (fun i r => r.name = ts.getD i "" ∧ isRowD (rowD r) ns.length = true) noL_row (by rw [hlt]; omega) u7 hD (fun H' k' => SqL.of (k' _ _ ntl b67)) (fun _ _ _ _ y => y.1) (fun _ => rfl) ?_ ?_
    · rintro i x H8 Qk hi ⟨_, hx⟩ k8 u8 kk
      rw [hlt] at hi
      have hi2 : i < ts.length := by rw [lt]; exact hi
      rw [List.getElem?_map, List.getElem?_eq_getElem hi2] at hx
      cases hx
      have hnm : nameS ts[i] = true := menuR_ok.2.2 _ (mt _ (List.getElem_mem hi2))
      refine ⟨_, rfl, _, rfl, _, rfl, _, ns.length, rfl, .inl ⟨_, SqL.of (k8 _ _ nfl b37), by rw [List.length_map]⟩, l, ts[i], ns.length, rfl, u8, by have := (name_parts hnm).2.1; omega, by omega, fun H9 v r k9 u9 dq en ep eo => kk v r H9 k9 u9 dq ⟨?_, row_ok (by rw [en]; exact hnm) ep eo⟩⟩
      rw [en, List.getD_eq_getElem?_getD, List.getElem?_eq_getElem hi2]
      rfl
    · intro H8 xs rs k8 u8 bD dqs hlen hok
      rw [hlt] at hlen
      have dF8 := Dq.but (urn_lst u7).choose_spec k8 (noL_folk ns) dF
      have tn8 := TupN.kept (urn_lst u7).choose_spec tn7 k8
      refine ⟨D, xs, rfl, .inl ⟨SqL.of bD, fun tr htr => ⟨by show 2 ≤ sizeLine; decide, fun tt htt => ?_⟩⟩⟩
      have s9 := Same.new (o := .tup xs) htr
      have s10 := Same.new (o := .tup [.ref tf, .ref tr]) htt
      have enames : rs.map Rw.name = ts := by
        refine List.ext_getElem (by rw [List.length_map, hlen, lt]) fun i h1 h2 => ?_
        rw [List.length_map] at h1
        have := (hok i rs[i] (List.getElem?_eq_getElem h1)).1
        rw [List.getElem_map, this, List.getD_eq_getElem?_getD, List.getElem?_eq_getElem h2]
        rfl
      refine q _ _ tf tr ns rs (k06.trans (s7.kept.trans (k8.trans (s9.trans s10).kept))) (u8.same (s9.trans s10)) (SqT.of upd_same) (tn8.same (s9.trans s10)) (dF8.same (s9.trans s10)) (Dq.same s10 (.tup (SqT.of upd_same) (dqs.same s9))) hN ⟨by omega, fun r z => ?_, by rw [enames]; exact nt⟩ (by omega) (fun r z => mt _ (by rw [← enames]; exact List.mem_map_of_mem z))
      obtain ⟨i, hi⟩ := List.mem_iff_getElem?.mp z
      exact (hok i r hi).2
theorem ok_case {f fD fU fL : Addr} {fd fdD fdU fdL : FuncData} (F : FnT K "_law_case" sLawCase f fd) (B : Bn mg)
    (gD : mg "_law_dip" = some (.ref fD)) (GD : FnOk P w K mg base CX0 1 fD fdD ["_law_urn_here", "_law_top"] spDip) (kD : PySem.W.keepIn K (.ref fD) = true) (bD : Binds K fdD ["_law_urn_here", "_law_top"] [])
    (gU : mg "_law_unlike" = some (.ref fU)) (GU : FnOk P w K mg base CX0 2 fU fdU ["_law_urn_here", "_law_menu", "_law_many"] (spUnlike K)) (kU : PySem.W.keepIn K (.ref fU) = true) (bU : Binds K fdU ["_law_urn_here", "_law_menu", "_law_many"] [])
    (gL : mg "_law_line" = some (.ref fL)) (GL : FnOk P w K mg base CX0 4 fL fdL ["_law_urn_here", "_law_title", "_law_many"] (spRowD K)) (kL : PySem.W.keepIn K (.ref fL) = true) (bL : Binds K fdL ["_law_urn_here", "_law_title", "_law_many"] []) :
    FnOk P w K mg base CX0 5 f fd ["_law_urn_here", "_law_many", "_law_most"] (spCase K) :=
  (ok_caseN F B gD GD kD bD gU GU kU bU gL GL kL bL).imp fun vs H Q E h => by
    obtain ⟨l, m, rfl, hm, hU, q⟩ := h
    exact ⟨l, m, rfl, hm, hU, fun H' c u r ns rs k u' sq tn du dr hN hL hm hM => q H' (.ref c) ns rs k u' (.tup sq (.cons du (.cons dr .nil))) hN hL hm hM⟩
end
end Ca
set_option Elab.async false
set_option linter.all false
set_option maxRecDepth 100000
set_option maxHeartbeats 4000000
namespace Ca
open PySem L2
section
variable {X : Cx}
theorem pgT (K : PySem.W.Frag) {es : List Expr} {k : Nat} {pos : Pos} {t : TGs} {n : Nat} (hc : X.calm = true) (h : PGs X es t) (hK : X.K = K := by rfl) (hn : (assignEach es X.env).length = n := by rfl) (hst : (assignEach es X.env).findIdx? (·.1) = none := by rfl) : PG X (.Tuple es k pos) (gTup K n t) := hK ▸ pg_tup hc h hn hst
end
theorem case_at {K : PySem.W.Frag} {H : Hp} {v : V} {ns : List Str} {rs : List Rw} (h : Dq K H v (caseD ns rs)) : ∃ c u r, v = .ref c ∧ SqT K H c [.ref u, .ref r] ∧ Dq K H (.ref u) (folkD ns) ∧ Dq K H (.ref r) (rowsD rs) := by
  obtain ⟨c, xs, rfl, h1, h2, _⟩ := tup_len h
  cases h2 with
  | cons e1 r1 =>
    cases r1 with
    | cons e2 r2 =>
      cases r2
      obtain ⟨u, _, rfl, _⟩ := tup_len e1
      obtain ⟨r, _, rfl, _⟩ := tup_len e2
      exact ⟨c, u, r, rfl, h1, e1, e2⟩
end Ca
set_option Elab.async false
set_option linter.all false
set_option maxRecDepth 100000
set_option maxHeartbeats 4000000
namespace Ca
open PySem L2
/-! ### cases: what is drawn, and what is made of it -/
abbrev Case := List Str × List Rw
def cD (c : Case) : PyData := caseD c.1 c.2
structure COk (c : Case) : Prop where
  f : Folk c.1
  l : Lines c.2 c.1.length
theorem noL_case (c : Case) : noL (cD c) = true := by
  have h1 := noL_folk c.1
  have h2 := noL_rows c.2
  unfold cD caseD
  simp only [noL, noLs, h1, h2]
  rfl
theorem Folk.rev {ns : List Str} (N : Folk ns) : Folk ns.reverse :=
  ⟨by rw [List.length_reverse]; exact N.lo, by rw [List.length_reverse]; exact N.hi, fun x z => N.ok x (List.mem_reverse.mp z), List.pairwise_reverse.mpr (N.nd.imp fun h => h.symm)⟩
theorem Lines.rev {rs : List Rw} {m : Nat} (L : Lines rs m) : Lines rs.reverse m :=
  ⟨by rw [List.length_reverse]; exact L.hi, fun x z => L.ok x (List.mem_reverse.mp z), by rw [List.map_reverse]; exact List.pairwise_reverse.mpr (L.nd.imp fun h => h.symm)⟩
theorem Lines.none (m : Nat) : Lines [] m := ⟨Nat.zero_le _, (fun _ z => nomatch z), List.nodup_nil⟩
theorem DqAll.rev {K : PySem.W.Frag} {H : Hp} : ∀ {vs : List V} {ds : List PyData}, DqAll K H vs ds → DqAll K H vs.reverse ds.reverse
  | _, _, .nil => .nil
  | _, _, .cons a t => by
    rw [List.reverse_cons, List.reverse_cons]
    exact t.rev.app (.cons a .nil)
/-- the four that are made out of the first ones -/
def four (c0 c1 : Case) : List Case := [c0, (c0.1, c0.2.reverse), (c0.1.reverse, c0.2), (c1.1, [])]
theorem four_ok {c0 c1 : Case} (h0 : COk c0) (h1 : COk c1) : ∀ c ∈ four c0 c1, COk c := by
  intro c hc
  unfold four at hc
  simp only [List.mem_cons, List.not_mem_nil, or_false] at hc
  rcases hc with rfl | rfl | rfl | rfl
  · exact h0
  · exact ⟨h0.f, h0.l.rev⟩
  · exact ⟨h0.f.rev, by rw [List.length_reverse]; exact h0.l⟩
  · exact ⟨h1.f, Lines.none _⟩
theorem tup_rev_dq {K : PySem.W.Frag} {H : Hp} {a : Addr} {xs : List V} {ds : List PyData} (h : DqAll K H xs ds) (ha : H a = some (.tup xs.reverse)) : Dq K H (.ref a) (.tuple ds.reverse) := .tup (SqT.of ha) h.rev
def sameC (c d : Case) : Bool := decide (c.1 = d.1) && decide (c.2 = d.2)
theorem eqv_case (c d : Case) : PyData.eqv (cD c) (cD d) = (decide (c.1 = d.1) && decide (c.2 = d.2)) := by
  unfold cD caseD
  simp only [PyData.eqv, PyData.eqvAll]
  rw [eqv_folk, eqv_rows, Bool.and_true]
theorem nodict_case (c : Case) : (cD c).hasDict = false := by
  unfold cD caseD
  simp only [PyData.hasDict, PyData.hasDictAll]
  rw [nodict_folk, nodict_rows]
  rfl
theorem shaped_case {c : Case} (h : COk c) : SeqAt.shaped (cD c) = true := by
  have a := Bool.and_eq_true_iff.mp (show (PyData.canLay0 (folkD c.1) && decide ((folkD c.1).depth ≤ 64)) = true from shaped_folk h.f)
  have b := Bool.and_eq_true_iff.mp (show (PyData.canLay0 (rowsD c.2) && decide ((rowsD c.2).depth ≤ 64)) = true from shaped_rows (lines_names h.l))
  refine Bool.and_eq_true_iff.mpr ⟨?_, decide_eq_true ?_⟩
  · unfold cD caseD
    simp only [PyData.canLay0, PyData.canLayAll0]
    rw [a.1, b.1]
    rfl
  · unfold cD caseD
    have d1 : (folkD c.1).depth ≤ 1 := by
      unfold folkD
      simp only [PyData.depth]
      rw [dep_strs]
      decide
    have d2 : (rowsD c.2).depth ≤ 4 := by
      unfold rowsD
      simp only [PyData.depth]
      have := dep_rows c.2
      omega
    simp only [PyData.depth, PyData.depthAll]
    omega
theorem SysAt.lst {K : PySem.W.Frag} {C D : Addr} {H : Hp} {x : Addr} {ns : List Str} {rs : List Rw} {ys zs : List V} (h : SysAt K C H x ns rs) (hD : H D = some (.lst ys)) : SysAt K C (upd H D (.lst zs)) x ns rs := by
  obtain ⟨h1, h2, dx, u, r, e, du, dr⟩ := h
  have k : Kept D H (upd H D (.lst zs)) := fun b o n e => by rw [upd_ne n]; exact e
  have n : x ≠ D := fun z => by rw [z, hD] at e; cases e
  exact ⟨h1, h2, dx, u, r, k _ _ n e, Dq.but hD k (noL_folk ns) du, Dq.but hD k (noL_rows rs) dr⟩
/-- systems of the cases, one each -/
def Sys (K : PySem.W.Frag) (C : Addr) (H : Hp) (xs : List Addr) (cs : List Case) : Prop := ∀ (k : Nat) (x : Addr) (c : Case), xs[k]? = some x → cs[k]? = some c → SysAt K C H x c.1 c.2
theorem Sys.same {K : PySem.W.Frag} {C : Addr} {H H' : Hp} {xs : List Addr} {cs : List Case} (h : Sys K C H xs cs) (s : Same H H') : Sys K C H' xs cs := fun k x c h1 h2 => (h k x c h1 h2).same s
theorem Sys.lst {K : PySem.W.Frag} {C D : Addr} {H : Hp} {xs : List Addr} {cs : List Case} {ys zs : List V} (h : Sys K C H xs cs) (hD : H D = some (.lst ys)) : Sys K C (upd H D (.lst zs)) xs cs := fun k x c h1 h2 => (h k x c h1 h2).lst hD
theorem Sys.nil {K : PySem.W.Frag} {C : Addr} {H : Hp} {cs : List Case} : Sys K C H [] cs := fun k x c h _ => by cases h
theorem Sys.snoc {K : PySem.W.Frag} {C : Addr} {H : Hp} {xs : List Addr} {cs : List Case} {x : Addr} {c : Case} (h : Sys K C H xs cs) (hc : cs[xs.length]? = some c) (hx : SysAt K C H x c.1 c.2) : Sys K C H (xs ++ [x]) cs := fun k y d h1 h2 => by
  by_cases g : k < xs.length
  · rw [List.getElem?_append_left g] at h1
    exact h k y d h1 h2
  · rw [List.getElem?_append_right (Nat.le_of_not_lt g)] at h1
    have e0 : k - xs.length = 0 := by
      cases z : k - xs.length with
      | zero => rfl
      | succ n => rw [z] at h1; cases h1
    rw [e0] at h1
    cases h1
    have : k = xs.length := by omega
    rw [this, hc] at h2
    cases h2
    exact hx
/-- a new instance's two objects -/
theorem made_same {H H' : Hp} {x dx C : Addr} (hx : H x = none) (hdx : H dx = none) (k : Kept x (upd (upd H dx (.own x)) x (.ins C dx [])) H') : Same H H' := fun b o e => by
  have n1 := ne_of_none e hx
  have n2 := ne_of_none e hdx
  exact k b o n1 (by rw [upd_ne n1, upd_ne n2]; exact e)
theorem made_new {H : Hp} {x dx C : Addr} (hx : H x = none) (hdx : H dx = none) : Same H (upd (upd H dx (.own x)) x (.ins C dx [])) := fun b o e => by
  rw [upd_ne (ne_of_none e hx), upd_ne (ne_of_none e hdx)]
  exact e
theorem ty_same {K : PySem.W.Frag} {H H' : Hp} {v : V} {t : Value} (s : Same H H') (h : Ty K H v t) : Ty K H' v t := by
  cases h with
  | non => exact .non
  | bl b => exact .bl b
  | int i => exact .int i
  | str x => exact .str x
  | lst e => exact .lst (s.seq e)
  | tup e => exact .tup (same_sqt s e)
  | dic e => exact .dic (s _ _ e)
  | ins e => exact .ins (s _ _ e)
end Ca
set_option Elab.async false
set_option linter.all false
set_option maxRecDepth 100000
set_option maxHeartbeats 4000000
namespace Ca
open PySem PySem.Calls PyProof.Rows
open Builtin Builtin.Slice
theorem rev_adjust (n : Nat) : sliceAdjust none none (-1) (n : Int) = ((n : Int) - 1, -1) := by
  unfold sliceAdjust
  simp
theorem rev_places (n : Nat) : slicePlaces ((n : Int) - 1) (-1) (-1) = n := by
  unfold slicePlaces
  by_cases h : n = 0
  · subst h; simp
  · simp
    omega
theorem rev_pick (xs : Array Value) : ((List.range xs.size).filterMap fun (m : Nat) => xs[(((xs.size : Int) - 1) + (m : Int) * (-1)).toNat]?).toArray = xs.toList.reverse.toArray := by
  congr 1
  have e : ((List.range xs.size).filterMap fun (m : Nat) => xs[(((xs.size : Int) - 1) + (m : Int) * (-1)).toNat]?) = ((List.range xs.size).map fun k => xs.size - 1 - k).filterMap (xs[·]?) := by
    rw [List.filterMap_map]
    congr 1
    funext m
    show xs[_]? = xs[xs.size - 1 - m]?
    congr 1
    omega
  rw [e, PySem.W.krv_range, List.filterMap_reverse, PySem.W.krv_all]
section
variable {prog : Program} {w : World} {A : Around} {E : Value → Shared → Prop} {s : Shared}
theorem tup_rev {t sl : Addr} {items : Array Value} {vs : Value} {Q : Value → Shared → Prop} (hTu : IsTup s.heap t items) (hs : s.heap.IsSliceOf sl .none .none vs) (ps : IsPart vs (some (-1)))
    (h : Q (.ref s.heap.objs.size) { s with heap := s.heap.push { cls := .type "tuple", data := .seq items.toList.reverse.toArray } }) (hsz : items.size ≤ sizeLine) : wpAny (model prog w) A (getItem (.ref t) (.ref sl)) Q E s := by
  have hfit : sizeOk (.seq items.toList.reverse.toArray) := by
    show items.toList.reverse.toArray.size ≤ sizeLine
    rw [List.size_toArray, List.length_reverse, Array.length_toList]
    exact hsz
  obtain ⟨os, hob, hcl, hda⟩ := id hs
  have hTy : s.TypeIs (.ref sl) "slice" := ⟨os, hob, hcl⟩
  unfold getItem
  try with_reducible refine wpAny_holding ?_
  first | refine wpAny_bind (wpAny_pure ?_) | skip
  refine wpAny_bind (wpAny_sequenceKey hTu.typeIs (by decide) ?_)
  refine wpAny_bind (wpAny_callSpecial?_slot (name := Str.ofString "__getitem__") hTu.typeIs PyProof.Rows.slot_tuple_getitem
    (wpAny_call_entry PyProof.Rows.slot_tuple_getitem hTu.typeIs entry_tuple_getitem ?_ (args_tuple_getitem _ _)))
  show wpAny _ _ (Builtin.Tuple.tupleItemsOf (.ref t) >>= _) _ _ s
  refine wpAny_bind (tupleItemsOf_ hTu ?_)
  refine wpAny_bind (wpAny_typeOf hTy ?_)
  rw [if_pos (by decide)]
  refine wpAny_bind ?_
  · unfold Builtin.Slice.sliceApplied Builtin.Slice.sliceFields
    refine wpAny_bind (wpAny_bind (wpAny_field hob hda (x := .none) rfl (wpAny_bind (wpAny_field hob hda (x := .none) rfl (wpAny_bind (wpAny_field hob hda (x := vs) rfl (wpAny_pure ?_)))))))
    refine wpAny_bind (HT.slicePart_ ps ?_)
    show wpAny _ _ (if ((-1 : Int) == 0) = true then _ else _) _ _ s
    rw [if_neg (by decide)]
    refine wpAny_bind (slicePart_none (wpAny_bind (slicePart_none (wpAny_bind (wpAny_pure ?_)))))
    show wpAny _ _ (match Builtin.Slice.sliceAdjust none none (-1) (items.size : Int) with | (lo, hi) => pure (lo, (-1 : Int), Builtin.Slice.slicePlaces lo hi (-1))) _ _ s
    rw [rev_adjust]
    show wpAny _ _ (pure ((items.size : Int) - 1, (-1 : Int), Builtin.Slice.slicePlaces ((items.size : Int) - 1) (-1) (-1))) _ _ s
    rw [rev_places]
    refine wpAny_pure ?_
    have hno : ¬ ((((items.size : Int) - 1 == 0) && ((-1 : Int) == 1) && (items.size == items.size)) = true) := by simp
    show wpAny _ _ (if (((items.size : Int) - 1 == 0) && ((-1 : Int) == 1) && (items.size == items.size)) = true then _ else _) _ _ s
    rw [if_neg hno, rev_pick]
    first
      | exact wpAny_bind (m := Builtin.Tuple.tupleExact _) (wpAny_newObj_type (wpAny_pure ⟨_, rfl, wpAny_pure h⟩) hfit)
      | exact wpAny_bind (m := Builtin.Tuple.tupleExact _) (wpAny_newObj_type (wpAny_bind (wpAny_pure (wpAny_pure ⟨_, rfl, wpAny_pure h⟩))) hfit)
end
end Ca
namespace Ca
open PySem PySem.Spec PyProof.Rows L2
section
variable {X : Cx}
def tRevT (K : PySem.W.Frag) (te : TE) : TE := fun σ H Q => te σ H fun x H1 => ∃ a xs, x = .ref a ∧ SqT K H1 a xs ∧ ∀ p, H1 p = none → Q (.ref p) (upd H1 p (.tup xs.reverse))
theorem pe_revT {e : Expr} {te : TE} {k : Nat} {p1 p2 p3 pos : Pos} (he : PE X e te) : PE X (.Subscript e (.Slice none none (some (.UnaryOp .USub (.Constant (.int 1) k p1) p2)) p3) pos) (tRevT X.K te) := by
  refine ⟨fun pins s σ H Q I h => ?_⟩
  refine Subscript_ (thn (he.run pins s σ H _ I h) fun v m1 ⟨x, H1, J1, r1, w1⟩ => ?_)
  obtain ⟨a, xs, eqx, hx, q⟩ := w1
  subst eqx
  cases r1
  have hmin : PO X (some (.UnaryOp .USub (.Constant (.int 1) k p1) p2)) (tPart (tUn (rU fun i => .int (-i)) (tC (.int 1)))) := po_some (pe_un un_neg pe_int)
  refine wpAny_Slice (thn (po_none.run pins m1 σ H1 (fun o H2 => o = none ∧ H2 = H1) J1 ⟨rfl, rfl⟩) fun vl m2 ⟨l, H2, J2, pl, el, e2⟩ => ?_)
  subst el e2
  refine thn (po_none.run pins m2 σ H2 (fun o H3 => o = none ∧ H3 = H2) J2 ⟨rfl, rfl⟩) fun vu m3 ⟨u, H3, J3, pu, eu, e3⟩ => ?_
  subst eu e3
  refine thn (hmin.run pins m3 σ H3 (fun o H4 => o = some (-1) ∧ H4 = H3) J3 ⟨1, rfl, -1, rfl, rfl, rfl⟩) fun vs m4 ⟨o, H4, J4, ps, eo, e4⟩ => ?_
  subst eo e4
  cases pl
  cases pu
  have I5 : Inv X pins σ H4 { m4 with heap := m4.heap.push { cls := .type "slice", data := .fields #[.none, .none, vs] } } := J4.kept (t' := m4.toks) fun b ob q => Heap.get?_push_of_some _ q
  obtain ⟨its, r, hTu, hz⟩ := I5.tuple hx
  have hlen := r.length
  show wpAny (model X.prog X.w) X.A (subscriptTail e (.Slice none none (some (.UnaryOp .USub (.Constant (.int 1) k p1) p2)) p3) (.ref a) (.ref m4.heap.objs.size)) (EP X pins σ Q) X.xe { m4 with heap := m4.heap.push { cls := .type "slice", data := .fields #[.none, .none, vs] } }
  refine tail_any (ops := [.ref a, .ref m4.heap.objs.size]) hTu.typeIs (PyProof.Rows.slot_tuple_getitem.lookup) ?_ (by with_unfolding_all rfl)
  refine tup_rev hTu (Heap.IsSliceOf.new _ .none .none vs) ps ?_ (by rw [List.size_toArray]; omega)
  refine ⟨.ref _, _, I5.laid (t' := m4.toks) (o := .tup xs.reverse) (fun b ob q => Heap.get?_push_of_some _ q) (Nat.le_refl _) ?_, rfl, q _ (I5.hok.fresh (Nat.le_refl _))⟩
  exact ⟨by rw [List.length_reverse]; exact hz, _, r.reverse, IsTup.new _ _⟩
end
end Ca
set_option Elab.async false
set_option linter.all false
set_option maxRecDepth 100000
set_option maxHeartbeats 4000000
namespace Ca
open PySem L2
section
variable {X : Cx}
theorem reprK (K : PySem.W.Frag) (hgd : X.A.guards = some []) (hu : X.A.units + 200 < cLine) (h : X.K = K := by rfl) : CallR X (.builtin "repr") (rRepr K) := h ▸ call_repr hgd hu
end
/-- a value whose repr comes through -/
def Good (K : PySem.W.Frag) (H : Hp) (v : V) (d : PyData) : Prop := Rp K H v d ∧ d.showable = true ∧ d.depth ≤ 64 ∧ d.shown.length ≤ sizeLine
theorem rd_rv {K : PySem.W.Frag} {H : Hp} {v : V} {d : PyData} {Q : VK} (g : Good K H v d) (q : Q (.str d.shown) H) : rRepr K [v] H Q := by
  obtain ⟨r, h1, h2, h3⟩ := g
  exact ⟨v, d, rfl, r, h1, h2, h3, q⟩
theorem rd_cb1 {K : PySem.W.Frag} {te : TE} {σ : L2.St} {H : Hp} {Q : VK} (h : te σ H fun x H1 => rRepr K [x] H1 Q) : tCB (rRepr K) (tCons te tNil) σ H Q := h
theorem dpB {K : PySem.W.Frag} {H : Hp} : ∀ bs : List Bool, DpAll K H (bs.map V.bl) (bs.map PyData.bool)
  | [] => .nil
  | b :: bs => .cons (.bl b) (dpB bs)
theorem layB : ∀ bs : List Bool, PyData.canLayAll0 (bs.map PyData.bool) = true
  | [] => rfl
  | b :: bs => by
    simp only [List.map_cons, PyData.canLayAll0, PyData.canLay0]
    rw [layB bs]
    rfl
theorem depB : ∀ bs : List Bool, PyData.depthAll (bs.map PyData.bool) = 0
  | [] => rfl
  | b :: bs => by
    simp only [List.map_cons, PyData.depthAll, PyData.depth]
    rw [depB bs]
    rfl
theorem shapedB (bs : List Bool) : SeqAt.shaped (.list (bs.map PyData.bool)) = true := by
  refine Bool.and_eq_true_iff.mpr ⟨by simp only [PyData.canLay0]; exact layB bs, decide_eq_true ?_⟩
  simp only [PyData.depth]
  rw [depB]
  decide
/-- two lists of the same truth values are not unequal -/
theorem rd_sameB {K : PySem.W.Frag} {H : Hp} {a b : Addr} {e : Nat → Bool} {n : Nat} {Q : VK} (ha : H a = some (.lst ((List.range n).map fun i => .bl (e i)))) (hb : H b = some (.lst ((List.range n).map fun i => .bl (e i)))) (q : Q (.bl false) H) : rNeD K (.ref a) (.ref b) H Q := by
  have er : ((List.range n).map fun i => V.bl (e i)) = ((List.range n).map e).map V.bl := by rw [List.map_map]; rfl
  rw [er] at ha hb
  have lay : (PyData.list (((List.range n).map e).map PyData.bool)).canLay0 = true := by simp only [PyData.canLay0]; exact layB _
  exact ⟨_, _, .lst (SqL.of ha) (dpB _), .lst (SqL.of hb) (dpB _), shapedB _, shapedB _, by rw [SeqAt.eqv_refl _ lay]; exact q⟩
def toldD (c : Case) : PyData := .list [folkD c.1, rowsD c.2, namesD c.2, .int c.2.length, .str (pageS c.1 c.2), .bool true]
end Ca
set_option Elab.async false
set_option linter.all false
set_option maxRecDepth 100000
set_option maxHeartbeats 4000000
namespace Ca
open PySem L2
/-! ### the size of what is told -/
def inT (p : Int × Int) : Prop := -10000 ≤ p.1 ∧ p.1 ≤ p.2 ∧ p.2 ≤ 10000
theorem row_T {r : Rw} {m : Nat} (h : isRowD (rowD r) m = true) : ∀ p ∈ r.parts ++ [r.bd], inT p := by
  obtain ⟨_, h2⟩ := Bool.and_eq_true_iff.mp (show (nameS r.name && (isTupN (.tuple (r.parts.map strD)) m && ((partsOf (.tuple (r.parts.map strD)) ++ [strD r.bd]).all isStretchD))) = true from h)
  obtain ⟨_, h4⟩ := Bool.and_eq_true_iff.mp h2
  intro p hp
  refine str_ok (List.all_eq_true.mp h4 (strD p) ?_)
  show strD p ∈ r.parts.map strD ++ [strD r.bd]
  rw [show r.parts.map strD ++ [strD r.bd] = (r.parts ++ [r.bd]).map strD by rw [List.map_append]; rfl]
  exact List.mem_map_of_mem hp
theorem int_show {i : Int} (h1 : -10000 ≤ i) (h2 : i ≤ 10000) : (PyData.int i).showable = true := by
  simp only [PyData.showable]
  exact decide_eq_true (log_small h1 h2)
theorem int_short {i : Int} (h1 : -10000 ≤ i) (h2 : i ≤ 10000) : (PyData.int i).intsShort 13 = true := by
  simp only [PyData.intsShort, PyData.shown]
  refine decide_eq_true ?_
  rw [PySem.ofString_length]
  have := PySem.int_text_length_le10 (a := i) (k := 5) (by decide) (by omega)
  omega
theorem int_weight {i : Int} (h1 : -10000 ≤ i) (h2 : i ≤ 10000) : (PyData.int i).weight ≤ 14 := by
  simp only [PyData.weight]
  split
  · omega
  · rename_i g
    have : i.natAbs < 2 ^ 14 := by show i.natAbs < 16384; omega
    have z : i.natAbs ≠ 0 := fun e => by
      have : i = 0 := by omega
      rw [this] at g
      exact g rfl
    have := (Nat.log2_lt z).mpr this
    omega
theorem pair_all {p : Int × Int} (h : inT p) : (strD p).showable = true ∧ (strD p).intsShort 13 = true ∧ (strD p).weight ≤ 30 := by
  obtain ⟨h1, h2, h3⟩ := h
  have a1 := int_show (i := p.1) h1 (by omega)
  have a2 := int_show (i := p.2) (by omega) h3
  have b1 := int_short (i := p.1) h1 (by omega)
  have b2 := int_short (i := p.2) (by omega) h3
  have c1 := int_weight (i := p.1) h1 (by omega)
  have c2 := int_weight (i := p.2) (by omega) h3
  unfold strD
  refine ⟨?_, ?_, ?_⟩
  · rw [PyData.showable, PyData.showableAll, PyData.showableAll, PyData.showableAll, a1, a2]
    rfl
  · rw [PyData.intsShort, PyData.intsShortAll, PyData.intsShortAll, PyData.intsShortAll, b1, b2]
    rfl
  · rw [PyData.weight, PyData.weightAll, PyData.weightAll, PyData.weightAll]
    omega
theorem pairs_all : ∀ ps : List (Int × Int), (∀ p ∈ ps, inT p) → PyData.showableAll (ps.map strD) = true ∧ PyData.intsShortAll 13 (ps.map strD) = true ∧ PyData.weightAll (ps.map strD) ≤ 31 * ps.length
  | [], _ => ⟨rfl, rfl, Nat.le_refl _⟩
  | p :: ps, h => by
    obtain ⟨a, b, c⟩ := pairs_all ps fun x z => h x (List.mem_cons_of_mem _ z)
    obtain ⟨d, e, f⟩ := pair_all (h p (List.mem_cons_self ..))
    refine ⟨?_, ?_, ?_⟩
    · rw [List.map_cons, PyData.showableAll, d, a]; rfl
    · rw [List.map_cons, PyData.intsShortAll, e, b]; rfl
    · rw [List.map_cons, PyData.weightAll, List.length_cons]; omega
theorem row_all {r : Rw} {m : Nat} (ok : isRowD (rowD r) m = true) (hm : m ≤ 3) : (rowD r).showable = true ∧ (rowD r).intsShort 13 = true ∧ (rowD r).weight ≤ 140 := by
  have t := row_T ok
  obtain ⟨a, b, c⟩ := pairs_all r.parts fun p z => t p (List.mem_append_left _ z)
  obtain ⟨d, e, f⟩ := pair_all (t r.bd (List.mem_append_right _ (List.mem_singleton.mpr rfl)))
  have hp := (row_name ok).2
  have hn := (name_parts (row_name ok).1).2.1
  unfold rowD
  refine ⟨?_, ?_, ?_⟩
  · rw [PyData.showable, PyData.showableAll, PyData.showableAll, PyData.showableAll, PyData.showableAll, PyData.showable, PyData.showable, a, d]; rfl
  · rw [PyData.intsShort, PyData.intsShortAll, PyData.intsShortAll, PyData.intsShortAll, PyData.intsShortAll, PyData.intsShort, PyData.intsShort, b, e]; rfl
  · rw [PyData.weight, PyData.weightAll, PyData.weightAll, PyData.weightAll, PyData.weightAll, PyData.weight, PyData.weight]
    have hn' : r.name.cps.size ≤ 8 := hn
    omega
theorem rows_all : ∀ (rs : List Rw) (m : Nat), (∀ r ∈ rs, isRowD (rowD r) m = true) → m ≤ 3 → PyData.showableAll (rs.map rowD) = true ∧ PyData.intsShortAll 13 (rs.map rowD) = true ∧ PyData.weightAll (rs.map rowD) ≤ 141 * rs.length
  | [], _, _, _ => ⟨rfl, rfl, Nat.le_refl _⟩
  | r :: rs, m, h, hm => by
    obtain ⟨a, b, c⟩ := rows_all rs m (fun x z => h x (List.mem_cons_of_mem _ z)) hm
    obtain ⟨d, e, f⟩ := row_all (h r (List.mem_cons_self ..)) hm
    refine ⟨?_, ?_, ?_⟩
    · rw [List.map_cons, PyData.showableAll, d, a]; rfl
    · rw [List.map_cons, PyData.intsShortAll, e, b]; rfl
    · rw [List.map_cons, PyData.weightAll, List.length_cons]; omega
theorem strs_all : ∀ ns : List Str, (∀ x ∈ ns, nameS x = true) → PyData.showableAll (ns.map .str) = true ∧ PyData.intsShortAll 13 (ns.map .str) = true ∧ PyData.weightAll (ns.map .str) ≤ 9 * ns.length
  | [], _ => ⟨rfl, rfl, Nat.le_refl _⟩
  | n :: ns, h => by
    obtain ⟨a, b, c⟩ := strs_all ns fun x z => h x (List.mem_cons_of_mem _ z)
    have hn := (name_parts (h n (List.mem_cons_self ..))).2.1
    have hn' : n.cps.size ≤ 8 := hn
    refine ⟨?_, ?_, ?_⟩
    · rw [List.map_cons, PyData.showableAll, PyData.showable, a]; rfl
    · rw [List.map_cons, PyData.intsShortAll, PyData.intsShort, b]; rfl
    · rw [List.map_cons, PyData.weightAll, PyData.weight, List.length_cons]; omega
/-! ### signs of the page -/
theorem ok_cat {x y : Str} (h1 : PyData.strOk x = true) (h2 : PyData.strOk y = true) : PyData.strOk (x ++ y) = true := by
  unfold PyData.strOk at *
  show (x.cps ++ y.cps).all _ = true
  rw [Array.all_append, h1, h2]
  rfl
theorem ok_join {y : Str} (hy : PyData.strOk y = true) : ∀ ps : List Str, (∀ p ∈ ps, PyData.strOk p = true) → PyData.strOk (Str.join y ps) = true
  | [], _ => by show PyData.strOk "" = true; decide +kernel
  | [p], h => h p (List.mem_cons_self ..)
  | p :: z :: r, h => ok_cat (ok_cat (h p (List.mem_cons_self ..)) hy) (ok_join hy (z :: r) fun x q => h x (List.mem_cons_of_mem _ q))
theorem ok_int (i : Int) : PyData.strOk (intS i) = true := by
  unfold PyData.strOk intS
  rw [← Array.all_toList, List.all_eq_true]
  intro c hc
  have hc' : c ∈ (Str.ofString (toString i)).cps.toList := hc
  rw [PyProof.Rows.signs_ofString] at hc'
  obtain ⟨d, _, rfl⟩ := List.mem_map.mp hc'
  refine decide_eq_true ?_
  have v := d.valid
  show d.val.toNat < 0x110000
  rcases v with v | ⟨_, v⟩
  · have : d.val.toNat < 0xd800 := v
    omega
  · exact v
theorem ok_name {x : Str} (h : nameS x = true) : PyData.strOk x = true := strOk_of (name_parts h).2.2
theorem ok_lineS {r : Rw} (h : nameS r.name = true) : PyData.strOk (lineS r) = true := by
  unfold lineS
  rw [TL.join_eq]
  refine ok_join (by decide +kernel) _ fun p hp => ?_
  rcases List.mem_append.mp hp with z | z
  · rcases List.mem_cons.mp z with rfl | z
    · decide +kernel
    · rw [List.mem_singleton.mp z]
      exact ok_name h
  · unfold wordsOf at z
    obtain ⟨q, _, z⟩ := List.mem_flatMap.mp z
    rcases List.mem_cons.mp z with rfl | z
    · exact ok_int _
    · rw [List.mem_singleton.mp z]
      exact ok_int _
theorem ok_pageS {c : Case} (ok : COk c) : PyData.strOk (pageS c.1 c.2) = true := by
  unfold pageS
  rw [TL.join_eq]
  refine ok_join (by decide +kernel) _ fun p hp => ?_
  rcases List.mem_cons.mp hp with rfl | z
  · rw [TL.join_eq]
    refine ok_join (by decide +kernel) _ fun p hp => ?_
    rcases List.mem_cons.mp hp with rfl | z
    · decide +kernel
    · exact ok_name (folk_names ok.f p z)
  · obtain ⟨r, hr, rfl⟩ := List.mem_map.mp z
    exact ok_lineS (lines_names ok.l r hr)
theorem page_len {c : Case} (ok : COk c) : (pageS c.1 c.2).length ≤ 100000 := by
  have n3 := ok.f.hi
  have r6 := ok.l.hi
  have nl := names_len c.1 (folk_names ok.f)
  have ll := lines_len c.2 c.1.length ok.l.ok n3
  have j1 := join_le " " (("unknowns" : Str) :: c.1)
  rw [← TL.join_eq] at j1
  unfold pageS
  rw [TL.join_eq]
  refine Nat.le_trans (join_le _ _) ?_
  simp only [List.map_cons, List.sum_cons, List.length_cons, List.length_map] at j1 ⊢
  have e8 : Str.length "unknowns" = 8 := rfl
  have e1 : Str.length " " = 1 := rfl
  have e2 : Str.length "\n" = 1 := rfl
  rw [e8, e1] at j1
  rw [e2]
  omega
theorem good_told {K : PySem.W.Frag} {H : Hp} {p : Addr} {tu tr nm : V} {c : Case} (ok : COk c) (h : H p = some (.lst [tu, tr, nm, .int c.2.length, .str (pageS c.1 c.2), .bl true])) (h1 : Dq K H tu (folkD c.1)) (h2 : Dq K H tr (rowsD c.2)) (h3 : Dq K H nm (namesD c.2)) :
    Good K H (.ref p) (toldD c) := by
  have n3 := ok.f.hi
  have r6 := ok.l.hi
  have nmOk : ∀ x ∈ c.2.map Rw.name, nameS x = true := fun x z => by
    obtain ⟨r, hr, rfl⟩ := List.mem_map.mp z
    exact lines_names ok.l r hr
  obtain ⟨a1, b1, w1⟩ := strs_all c.1 (folk_names ok.f)
  obtain ⟨a2, b2, w2⟩ := rows_all c.2 c.1.length ok.l.ok n3
  obtain ⟨a3, b3, w3⟩ := strs_all (c.2.map Rw.name) nmOk
  rw [List.length_map] at w3
  have i1 := int_show (i := (c.2.length : Int)) (by omega) (by omega)
  have i2 := int_short (i := (c.2.length : Int)) (by omega) (by omega)
  have i3 := int_weight (i := (c.2.length : Int)) (by omega) (by omega)
  have pl := page_len ok
  have pl' : (pageS c.1 c.2).cps.size ≤ 100000 := pl
  have sh : (toldD c).showable = true := by
    unfold toldD folkD rowsD namesD
    simp only [PyData.showable, PyData.showableAll, a1, a2, a3, Bool.true_and, Bool.and_true]
    exact decide_eq_true (log_small (by omega) (by omega))
  have dep : (toldD c).depth ≤ 5 := by
    unfold toldD folkD rowsD namesD
    have := dep_rows c.2
    simp only [PyData.depth, PyData.depthAll, dep_strs]
    omega
  have lay : (toldD c).canLay0 = true := by
    unfold toldD folkD rowsD namesD
    simp only [PyData.canLay0, PyData.canLayAll0]
    rw [lay_strs c.1 (folk_names ok.f), lay_rows c.2 (lines_names ok.l), lay_strs _ nmOk, ok_pageS ok]
    rfl
  have wt : (toldD c).weight ≤ 2 ^ 20 := by
    have f1 : (folkD c.1).weight ≤ 9 * c.1.length := by unfold folkD; rw [PyData.weight]; exact w1
    have f2 : (rowsD c.2).weight ≤ 141 * c.2.length := by unfold rowsD; rw [PyData.weight]; exact w2
    have f3 : (namesD c.2).weight ≤ 9 * c.2.length := by unfold namesD; rw [PyData.weight]; exact w3
    have f4 : (PyData.str (pageS c.1 c.2)).weight ≤ 100000 := by rw [PyData.weight]; exact pl'
    have f5 : (PyData.bool true).weight = 0 := by rw [PyData.weight]
    unfold toldD
    rw [PyData.weight, PyData.weightAll, PyData.weightAll, PyData.weightAll, PyData.weightAll, PyData.weightAll, PyData.weightAll, PyData.weightAll, f5]
    show _ ≤ 1048576
    omega
  have sz : (toldD c).shown.length ≤ 15728653 := by
    refine PyProof.Rows.shown_le13 ?_ ?_
    · show ((toldD c).canLay0 && decide ((toldD c).depth ≤ 64) && decide ((toldD c).weight ≤ 2 ^ 20)) = true
      rw [lay, decide_eq_true (show (toldD c).depth ≤ 64 by omega), decide_eq_true wt]
      rfl
    · have g : (PyData.int (c.2.length : Int)).intsShort 13 = true := i2
      have e1 : (folkD c.1).intsShort 13 = true := by unfold folkD; rw [PyData.intsShort]; exact b1
      have e2 : (rowsD c.2).intsShort 13 = true := by unfold rowsD; rw [PyData.intsShort]; exact b2
      have e3 : (namesD c.2).intsShort 13 = true := by unfold namesD; rw [PyData.intsShort]; exact b3
      have e4 : (PyData.str (pageS c.1 c.2)).intsShort 13 = true := by rw [PyData.intsShort]
      have e5 : (PyData.bool true).intsShort 13 = true := by rw [PyData.intsShort]
      unfold toldD
      rw [PyData.intsShort, PyData.intsShortAll, PyData.intsShortAll, PyData.intsShortAll, PyData.intsShortAll, PyData.intsShortAll, PyData.intsShortAll, PyData.intsShortAll, e1, e2, e3, g, e4, e5]
      rfl
  refine ⟨.dat (.lst (SqL.of h) (.cons (dp_of (nodict_folk _) h1) (.cons (dp_of (nodict_rows _) h2) (.cons (dp_of (nodict_folk _) h3) (.cons (.int _) (.cons (.str _) (.cons (.bl _) .nil))))))) ?_, sh, by omega, Nat.le_trans sz (by decide)⟩
  exact Bool.and_eq_true_iff.mpr ⟨lay, decide_eq_true (by omega)⟩
end Ca
set_option Elab.async false
set_option linter.all false
set_option maxRecDepth 100000
set_option maxHeartbeats 8000000
namespace Ca
open PySem L2
section
variable {X : Cx} {k : Nat} {f C : Addr} {fd : FuncData} {ps ks : List Str} {sp : Sp} {x : Str} {p pos : Pos} {kws : List Keyword} {tk : TA} {g : List Value → List Value → List Value} {gV : List V → List V → List V}
theorem pe_makeK0 (M : Mk X.K C f) (F : FnOk X.prog X.w X.K X.mg X.base CX0 k f fd ps sp) (hr : Room (k + 1) X.A) (hg : Gl X x) (hm : X.mg x = some (.ref C)) (hb : KBn X.K fd ps 1 ks g gV) (hkw : PK X kws tk)
    (hall : (backToKw pos (keywordEach kws X.env)).all (·.1.isSome) = true := by rfl) (hks : (backToKw pos (keywordEach kws X.env)).filterMap (·.1) = ks := by rfl) (hdb : (x == ("__debug__" : Str)) = false := by decide)
    (hpl : ((backTo pos (starEach [] X.env)).any (·.1) || (backToKw pos (keywordEach kws X.env)).any (·.1.isNone)) = false := by rfl) :
    PE X (.Call (.Name x p) [] kws pos) (tMakeN C 0 ks.length sp gV E0 tNil tk) := by
  refine ⟨fun pins s σ H Q I h => ?_⟩
  refine wpAny_Call_Name_kw (ld_glob I hg hm ?_ hdb)
  refine PySem.W.callWith_KW0 (h₀ := X.base) I.ok.mod.kin M.kp hall (thn (hkw.run pos pins s σ H _ I h) fun ws s1 ⟨zs, H1, I1, r, l1, l2, q⟩ => ?_) hpl
  rw [hks]
  exact ⟨I1.kIn, run_makeN (n := 0) M F hr hb pass0 I1 .nil r l1 l2 q⟩
theorem eqOK (K : PySem.W.Frag) {k : Nat} (F : FnOk X.prog X.w X.K X.mg X.base CX0 k f fd ps sp) (hr : Room k X.A) (hs : PySem.W.findIn X.K (.ref C) "__eq__" = some (some (.ref f))) (hf : PySem.W.isFn X.K (.ref f) = true) (hb : Binds X.K fd ps []) (h : X.K = K := by rfl) : OpR X (compareOp .Eq) (rEqO K C sp) := h ▸ op_eqO F hr hs hf hb
theorem neOK (K : PySem.W.Frag) {k : Nat} (F : FnOk X.prog X.w X.K X.mg X.base CX0 k f fd ps sp) (hr : Room (k + 1) X.A) (hn : PySem.W.findIn X.K (.ref C) "__ne__" = some (some (.builtin "object.__ne__"))) (hs : PySem.W.findIn X.K (.ref C) "__eq__" = some (some (.ref f))) (hf : PySem.W.isFn X.K (.ref f) = true)
    (ho : PySem.W.subIn X.K (.ref C) (.type "object") = some true) (hb : Binds X.K fd ps []) (h : X.K = K := by rfl) : OpR X (compareOp .NotEq) (rNeO K C sp) := h ▸ op_neO F hr hn hs hf ho hb
theorem eqDK (K : PySem.W.Frag) (hu : X.A.units + 64 < cLine) (h : X.K = K := by rfl) : OpR X (compareOp .Eq) (rEqD K) := h ▸ op_eqD hu
theorem neDK (K : PySem.W.Frag) (hu : X.A.units + 64 < cLine) (h : X.K = K := by rfl) : OpR X (compareOp .NotEq) (rNeD K) := h ▸ op_neD hu
end
/-- what the law's own part leans on of System -/
structure SysE (K : PySem.W.Frag) (C fI fE fS fL fB fN fUn fRo pUn pRo pNa : Addr) : Prop where
  mkr : Mk K C fI
  eq : PySem.W.findIn K (.ref C) "__eq__" = some (some (.ref fE))
  eqf : PySem.W.isFn K (.ref fE) = true
  ne : PySem.W.findIn K (.ref C) "__ne__" = some (some (.builtin "object.__ne__"))
  ob : PySem.W.subIn K (.ref C) (.type "object") = some true
  str : PySem.W.findIn K (.ref C) "__str__" = some (some (.ref fS))
  strf : PySem.W.isFn K (.ref fS) = true
  len : PySem.W.findIn K (.ref C) "__len__" = some (some (.ref fL))
  lenf : PySem.W.isFn K (.ref fL) = true
  bool : PySem.W.findIn K (.ref C) "__bool__" = some (some (.ref fB))
  boolf : PySem.W.isFn K (.ref fB) = true
  un : PropOf K C "unknowns" pUn fUn
  ro : PropOf K C "rows" pRo fRo
  na : PropOf K C "names" pNa fN
def spAll : Sp := fun vs H Q _ => ∃ l : Addr, vs = [.ref l] ∧ Urn H l ∧ ∀ H', Kept l H H' → Urn H' l → Q (.bl true) H'
/-- the further built-in names of the law's own part -/
structure Bm (mg : Str → Option Value) : Prop where
  rng : mg "range" = none
  zip : mg "zip" = none
  rep : mg "repr" = none
end Ca
set_option Elab.async false
set_option linter.all false
set_option maxRecDepth 100000
set_option maxHeartbeats 0
namespace Ca
open PySem PySem.Spec PyProof.Rows L2
/-! ### what the top leaves, by names -/
def topD (x : Str) (st : Stmt) : He.DefD := ⟨(x, none), x, x, defArgs st, defBody st, defScope st, [], []⟩
def memD (m q : Str) (st : Stmt) (dv : List He.Dv) : He.DefD := ⟨("System", some m), m, q, defArgs st, defBody st, defScope st, dv, []⟩
def e0A (K : PySem.W.Frag) : Addr := He.dflAt ("System", some "__init__") 0 K
/-! ### and of System -/
abbrev sysA (K : PySem.W.Frag) : Addr := He.ga K "System"
def isF (a b : Option (Option Value)) : Bool := decide (a = b)
/-- the getter of a property -/
def getA (K : PySem.W.Frag) (m : Str) : Addr := match PySem.W.recIn K (He.ma K (sysA K) m) "property" with
  | some (.ref g :: _) => g
  | _ => 0
def fnA (K : PySem.W.Frag) (a : Addr) : He.FnW := match K.lookup a with
  | some ⟨_, _, .func fd, _⟩ => some (fd.name, fd.qualname, fd.params, fd.body, fd.scope, fd.globals, fd.closure, fd.builtins)
  | _ => none
def okA (K : PySem.W.Frag) (a : Addr) (q : Str) : Bool := PySem.W.keepIn K (.ref a) && (match K.lookup a with
  | some ⟨_, _, .func fd, _⟩ => PySem.W.codeIn K fd.code q && He.dflB K fd.defaults []
  | _ => false)
theorem fun_at {K : PySem.W.Frag} {a : Addr} {n q : Str} {st : Stmt} (e : fnA K a = some (n, q, defArgs st, .stmts (defBody st), defScope st, mainGlobals, [], builtinsNs)) (c : okA K a q = true) : ∃ fd, FunD K n q (defArgs st) (defBody st) (defScope st) [] [] a fd := by
  obtain ⟨kp, c2⟩ := He.ba c
  unfold fnA at e
  cases z : K.lookup a with
  | none => rw [z] at c2; cases c2
  | some o =>
    obtain ⟨oc, od, dt, sl⟩ := o
    rw [z] at c2 e
    cases dt with
    | func fd =>
      obtain ⟨m1, m2, m3, m4, m5, m6, m7, m8, m9, m10, m11, m12, m13, m14, m15⟩ := fd
      have e2 : (some (m1, m2, m3, m4, m5, m6, m7, m15) : He.FnW) = some (n, q, defArgs st, .stmts (defBody st), defScope st, mainGlobals, [], builtinsNs) := e
      simp only [Option.some.injEq, Prod.mk.injEq] at e2
      obtain ⟨g1, g2, g3, g4, g5, g6, g7, g8⟩ := e2
      subst g1 g2 g3 g4 g5 g6 g7 g8
      obtain ⟨k1, k2⟩ := He.ba (show (PySem.W.codeIn K m13 m2 && He.dflB K m8 []) = true from c2)
      exact ⟨_, ⟨oc, od, m8, m9, m10, m11, m12, m13, m14, sl, rfl, z, k1, He.dflB_ok k2, .inl rfl⟩, kp⟩
    | _ => cases c2
def prB (K : PySem.W.Frag) (m q : Str) : Bool := isF (PySem.W.findIn K (.ref (sysA K)) m) (some (some (.ref (He.ma K (sysA K) m)))) && (isF (PySem.W.specialIn K (.ref (He.ma K (sysA K) m)) "__get__") (some (some (.builtin "property.__get__"))) &&
  (decide (PySem.W.takesIn K (.ref (He.ma K (sysA K) m)) = some true) && ((match PySem.W.recIn K (He.ma K (sysA K) m) "property" with
    | some (.ref _ :: _) => true
    | _ => false) && okA K (getA K m) q)))
def tyNames : List String := ["NoneType", "bool", "int", "str", "list", "tuple", "dict"]
def emB (K : PySem.W.Frag) : Bool := match K.lookup (e0A K) with
  | some ⟨.type c, _, .seq its _, _⟩ => decide (c = "tuple") && (decide (its.size ≤ sizeLine) && He.relAll [] its.toList)
  | _ => false
def sysB (K : PySem.W.Frag) : Bool := prB K "unknowns" "System.unknowns" && (prB K "rows" "System.rows" && (prB K "names" "System.names" && (emB K &&
  (isF (PySem.W.findIn K (.ref (sysA K)) "__ne__") (some (some (.builtin "object.__ne__"))) && (decide (PySem.W.subIn K (.ref (sysA K)) (.type "object") = some true) &&
  (isF (PySem.W.findIn K (.ref (sysA K)) "__class__") (some (some (.builtin "object.__class__"))) && (isF (PySem.W.specialIn K (.builtin "object.__class__") "__get__") (some (some (.builtin "getset_descriptor.__get__"))) &&
  (decide (PySem.W.takesIn K (.builtin "object.__class__") = some true) && (decide (PySem.W.mroIn K (sysA K) (.type "object") = some true) && (decide (PySem.W.kitOne K (.ref (sysA K)) (.ref (sysA K)) = some true) &&
  (PySem.W.notFirst K (sysA K) (.ref (sysA K)) && tyNames.all fun t => decide (PySem.W.kitOne K (.type t) (.ref (sysA K)) = some false) && PySem.W.notFirst K (sysA K) (.type t))))))))))))
def getV (n q : Str) (st : Stmt) : He.FnW := some (n, q, defArgs st, .stmts (defBody st), defScope st, mainGlobals, [], builtinsNs)
theorem isF_ok {a b : Option (Option Value)} (h : isF a b = true) : a = b := of_decide_eq_true h
theorem an {a b : Bool} (h : (a && b) = true) : a = true ∧ b = true := Bool.and_eq_true_iff.mp h
theorem pr_ok {K : PySem.W.Frag} {m q : Str} (h : prB K m q = true) : PropOf K (sysA K) m (He.ma K (sysA K) m) (getA K m) ∧ okA K (getA K m) q = true := by
  obtain ⟨h1, h⟩ := an h
  obtain ⟨h2, h⟩ := an h
  obtain ⟨h3, h⟩ := an h
  obtain ⟨h4, h5⟩ := an h
  refine ⟨⟨isF_ok h1, isF_ok h2, of_decide_eq_true h3, ?_⟩, h5⟩
  unfold getA
  cases z : PySem.W.recIn K (He.ma K (sysA K) m) "property" with
  | none => rw [z] at h4; cases h4
  | some l =>
    rw [z] at h4
    match l, h4 with
    | .ref g :: rest, _ => exact ⟨rest, rfl⟩
theorem em_ok {K : PySem.W.Frag} (h : emB K = true) (H : Hp) : SqT K H (e0A K) [] := by
  unfold emB at h
  cases q : K.lookup (e0A K) with
  | none => rw [q] at h; cases h
  | some o =>
    obtain ⟨oc, od, dt, osl⟩ := o
    rw [q] at h
    cases oc with
    | type c =>
      cases dt with
      | seq its n =>
        obtain ⟨h1, h2⟩ := an (show (decide (c = "tuple") && (decide (its.size ≤ sizeLine) && He.relAll [] its.toList)) = true from h)
        obtain ⟨h3, h4⟩ := an h2
        exact .inr ⟨_, its, n, q, congrArg Value.type (of_decide_eq_true h1), rfl, of_decide_eq_true h3, He.relAll_ok h4⟩
      | _ => cases h
    | _ => cases dt <;> cases h
theorem fun_of {K : PySem.W.Frag} {x : Str} {st : Stmt} {f : Addr} {fd : FuncData} (F : FunD K x x (defArgs st) (defBody st) (defScope st) [] [] f fd) : Fun K x x st f fd := by
  obtain ⟨⟨oc, od, dV, kV, doc, pm, an, cdv, ct, osl, rfl, lk, hcd, hD, hK⟩, kp⟩ := F
  rcases hD with ⟨_, rfl⟩ | ⟨e, _⟩
  · exact fun_mk lk hcd kp
  · exact absurd rfl e
end Ca
set_option Elab.async false
set_option linter.all false
set_option maxRecDepth 100000
set_option maxHeartbeats 4000000
namespace Ca
open PySem PySem.Spec PyProof.Rows L2
/-! ### o.m(k = v) -/
def tMethKw (C : Addr) (m : Str) (n : Nat) (sp : Sp) (gV : List V → List V → List V) (ta : TE) (tk : TA) : TE := fun σ H Q => ta σ H fun x H1 => ∃ a dx fs, x = .ref a ∧ H1 a = some (.ins C dx fs) ∧ fs.lookup m = none ∧
  tk σ H1 fun zs H2 => zs.length = n ∧ sp (gV [.ref a] zs) H2 Q E0
section
variable {X : Cx} {k : Nat} {f C : Addr} {fd : FuncData} {ps ks : List Str} {sp : Sp} {m : Str} {apos pos : Pos} {kws : List Keyword} {tk : TA} {g : List Value → List Value → List Value} {gV : List V → List V → List V} {o : Expr} {ta : TE}
theorem pe_methKw {pl : Sem Bool} (he : PE X o ta) (c : Cls X.K C) (hm : Meth X.K C m f) (F : FnOk X.prog X.w X.K X.mg X.base CX0 k f fd ps sp) (hr : Room k X.A) (hb : KBn X.K fd ps 1 ks g gV) (hkw : PK X kws tk)
    (hall : (backToKw pos (keywordEach kws X.env)).all (·.1.isSome) = true := by rfl) (hks : (backToKw pos (keywordEach kws X.env)).filterMap (·.1) = ks := by rfl)
    (hpl : ((backTo pos (starEach [] X.env)).any (·.1) || (backToKw pos (keywordEach kws X.env)).any (·.1.isNone)) = false := by rfl)
    (ht : eval (.Call (.Attribute o m apos) [] kws pos) X.env = (do
      let ov ← eval o X.env
      standAt apos.atName
      let (f, first) ← holding [ov] (getMethod ov m pl)
      callWith pos f first (backTo pos (starEach [] X.env)) (backToKw pos (keywordEach kws X.env))) := by rfl) :
    PE X (.Call (.Attribute o m apos) [] kws pos) (tMethKw C m ks.length sp gV ta tk) := by
  refine ⟨fun pins s σ H Q I h => ?_⟩
  refine PySem.W.methodCall_KW (pl := pl) (thn (he.run pins s σ H _ I h) fun u s1 ⟨x, H1, I1, rx, a, dx, fs, ex, ea, l, q⟩ => ?_) ht
  subst ex
  obtain rfl : u = Value.ref a := rx
  refine getmeth_ok I1 ea c hm l ?_
  refine PySem.W.callWith_KW0 (first := [.ref a]) (h₀ := X.base) I1.ok.mod.kin hm.kp hall (thn (hkw.run pos pins s1 σ H1 _ I1 q) fun ws s2 ⟨zs, H2, I2, rz, l2, q2⟩ => ?_) hpl
  rw [hks]
  exact ⟨I2.kIn, run_fnN (us := [.ref a]) (vs := [.ref a]) F hr hb pass0 I2 (.cons rfl .nil) rz rfl l2 q2⟩
end
/-! ### slices and sums of tuples, whatever object tells them -/
theorem cut_take (xs : List V) (k : Nat) : cutV xs none (some (k : Int)) = xs.take k := by
  unfold cutV
  rw [HT.sIx_none, HT.sIx_nat, List.drop_zero, Nat.sub_zero]
  by_cases h : k ≤ xs.length
  · rw [Nat.min_eq_left h]
  · rw [Nat.min_eq_right (Nat.le_of_not_le h), List.take_length, List.take_of_length_le (Nat.le_of_not_le h)]
theorem cut_drop (xs : List V) (k : Nat) : cutV xs (some (k : Int)) none = xs.drop k := by
  unfold cutV
  rw [HT.sIx_none, HT.sIx_nat]
  by_cases h : k ≤ xs.length
  · rw [Nat.min_eq_left h]
    exact List.take_of_length_le (by rw [List.length_drop]; omega)
  · rw [Nat.min_eq_right (Nat.le_of_not_le h), Nat.sub_self, List.take_zero, List.drop_eq_nil_of_le (Nat.le_of_not_le h)]
theorem rd_no {σ : L2.St} {H : Hp} {Q : Option Int → Hp → Prop} (h : Q none H) : tNoPart σ H Q := h
theorem rd_slA {K : PySem.W.Frag} {H : Hp} {a : Addr} {xs : List V} {lo hi : Option Int} {Q : VK} (h : SqT K H a xs) (q : ∀ H' b, Same H H' → SqT K H' b (cutV xs lo hi) → Q (.ref b) H') : rSlA K (.ref a) lo hi H Q :=
  ⟨a, xs, rfl, h, fun y => q H a (fun _ _ e => e) (by
    have e : cutV xs lo hi = xs := by
      unfold cutV
      rw [y.1, y.2, List.drop_zero, Nat.sub_zero, List.take_length]
    rw [e]
    exact h), fun _ p hp => q _ p (Same.new hp) (SqT.of upd_same)⟩
theorem rd_catA {K : PySem.W.Frag} {H : Hp} {a b : Addr} {xs ys : List V} {Q : VK} (ha : SqT K H a xs) (hb : SqT K H b ys) (hl : xs.length + ys.length ≤ sizeLine) (q : ∀ H' c, Same H H' → SqT K H' c (xs ++ ys) → Q (.ref c) H') : rCatA K (.ref a) (.ref b) H Q :=
  ⟨a, b, xs, ys, rfl, rfl, ha, hb, hl, fun z => q H b (fun _ _ e => e) (by rw [z]; exact hb), fun _ z => q H a (fun _ _ e => e) (by rw [z, List.append_nil]; exact ha), fun _ _ p hp => q _ p (Same.new hp) (SqT.of upd_same)⟩
theorem DqAll.take {K : PySem.W.Frag} {H : Hp} : ∀ {vs : List V} {ds : List PyData} (k : Nat), DqAll K H vs ds → DqAll K H (vs.take k) (ds.take k)
  | _, _, 0, _ => .nil
  | _, _, _ + 1, .nil => .nil
  | _, _, k + 1, .cons a t => .cons a (t.take k)
theorem DqAll.drop {K : PySem.W.Frag} {H : Hp} : ∀ {vs : List V} {ds : List PyData} (k : Nat), DqAll K H vs ds → DqAll K H (vs.drop k) (ds.drop k)
  | _, _, 0, h => h
  | _, _, _ + 1, .nil => .nil
  | _, _, k + 1, .cons _ t => t.drop k
/-- rows without the one at k -/
def dropAt {α : Type} (rs : List α) (k : Nat) : List α := rs.take k ++ rs.drop (k + 1)
theorem dropAt_sub {α : Type} (rs : List α) (k : Nat) : (dropAt rs k).Sublist rs := by
  unfold dropAt
  rw [← List.eraseIdx_eq_take_drop_succ]
  exact List.eraseIdx_sublist _ _
theorem dropAt_len {α : Type} {rs : List α} {k : Nat} (h : k < rs.length) : (dropAt rs k).length = rs.length - 1 := by
  unfold dropAt
  rw [List.length_append, List.length_take, List.length_drop]
  omega
theorem dropAt_map {α β : Type} (f : α → β) (rs : List α) (k : Nat) : dropAt (rs.map f) k = (dropAt rs k).map f := by
  unfold dropAt
  rw [List.map_append, List.map_take, List.map_drop]
theorem DqAll.dropAt {K : PySem.W.Frag} {H : Hp} {vs : List V} {ds : List PyData} (h : DqAll K H vs ds) (k : Nat) : DqAll K H (Ca.dropAt vs k) (Ca.dropAt ds k) := (h.take k).app (h.drop (k + 1))
theorem Lines.sub {rs qs : List Rw} {m : Nat} (h : qs.Sublist rs) (L : Lines rs m) : Lines qs m :=
  ⟨Nat.le_trans h.length_le L.hi, fun r z => L.ok r (h.subset z), L.nd.sublist (h.map Rw.name)⟩
theorem lenV_tup {K : PySem.W.Frag} {H : Hp} {v : V} {ds : List PyData} (h : Dq K H v (.tuple ds)) : LenV K v H ds.length := by
  obtain ⟨a, xs, rfl, h1, _, hl⟩ := tup_len h
  exact .inr ⟨_, h1, hl.symm⟩
/-- systems behind changes of a list -/
theorem SysAt.but {K : PySem.W.Frag} {C l : Addr} {H H' : Hp} {x : Addr} {ns : List Str} {rs : List Rw} {ys : List V} (hl : H l = some (.lst ys)) (k : Kept l H H') (h : SysAt K C H x ns rs) : SysAt K C H' x ns rs := by
  obtain ⟨h1, h2, dx, u, r, e, du, dr⟩ := h
  have n : x ≠ l := fun z => by rw [z, hl] at e; cases e
  exact ⟨h1, h2, dx, u, r, k _ _ n e, Dq.but hl k (noL_folk ns) du, Dq.but hl k (noL_rows rs) dr⟩
def spMore (K : PySem.W.Frag) (C : Addr) : Sp := fun vs H Q _ => ∃ x v ns rs r, vs = [.ref x, v] ∧ SysAt K C H x ns rs ∧ Dq K H v (rowD r) ∧ Lines (rs ++ [r]) ns.length ∧ ∀ H' y, Same H H' → SysAt K C H' y ns (rs ++ [r]) → Q (.ref y) H'
def spMadeC (K : PySem.W.Frag) (C : Addr) : Sp := fun vs H Q _ => ∃ v c, vs = [v] ∧ Dq K H v (cD c) ∧ COk c ∧ ∀ H' y, Same H H' → SysAt K C H' y c.1 c.2 → Q (.ref y) H'
section
variable {P : Program} {w : World} {K : PySem.W.Frag} {mg : Str → Option Value} {base : Heap} {C fI : Addr} {fdI : FuncData}
theorem scMore : FnScope ["self", "row"] ["self", "row"] (defScope mSystemMore) := ⟨rfl, rfl, rfl, by decide +kernel, rfl, by decide +kernel, by decide +kernel⟩
theorem ok_more {f : Addr} {fd : FuncData} (F : FnM K "more" "System.more" mSystemMore [] f fd) (S : SysC K C) (M : Mk K C fI) (gS : mg "System" = some (.ref C))
    (GI : FnOk P w K mg base CX0 5 fI fdI ["self", "unknowns", "rows"] (spInit K C)) (bI : Binds K fdI ["self", "unknowns", "rows"] []) : FnOk P w K mg base CX0 7 f fd ["self", "row"] (spMore K C) := by
  refine F.ok scMore (fun vs H Q E h => ?_) (fun cdv A outer s H vs Q E hr h => ?_)
  · obtain ⟨x, v, ns, rs, r, rfl, _⟩ := h
    rfl
  · obtain ⟨x, v, ns, rs, r, rfl, ⟨hN, hL, dx, u, t, hx, du, dr⟩, dv, hL2, q⟩ := h
    refine ⟨_, PSs.nox (pss_one (ps_ret (pe_make M GI hr rfl gS bI .nil pass0 (pa_cons (pe_fld (pv 0) rfl) (pa_cons (pe_tup (StX.pa_star (pe_fld (pv 0) rfl) (pa_cons (pv 1) pa_nil))) pa_nil))))), ?_⟩
    obtain ⟨a, xs, rfl, h1, h2, hl⟩ := tup_len dr
    rw [List.length_map] at hl
    have r6 := hL.hi
    refine ⟨_, rfl, x, C, dx, _, u, rfl, hx, S.cl, S.nu, rfl, _, rfl, x, C, dx, _, _, rfl, hx, S.cl, S.nr, rfl, a, xs, rfl, .inl h1, _, rfl, ?_, fun p hp y dy hy hdy ne => ?_⟩
    · rw [List.length_append, hl]
      exact Nat.le_trans (show rs.length + 1 ≤ 100 by omega) (by decide)
    have s1 := Same.new (o := .tup (xs ++ [v])) hp
    have sn := made_new (C := C) hy hdy
    have dt : Dq K (upd H p (.tup (xs ++ [v]))) (.ref p) (rowsD (rs ++ [r])) := .tup (SqT.of upd_same) (by rw [List.map_append]; exact (h2.same s1).app (.cons (dv.same s1) .nil))
    refine ⟨y, dy, u, .ref p, ns, rs ++ [r], rfl, upd_same, (du.same s1).same sn, hN, dt.same sn, hL2, fun H6 k6 x6 => ⟨rfl, ?_⟩⟩
    have s6 := made_same hy hdy k6
    exact q H6 y (s1.trans s6) ⟨hN, hL2, dy, u, .ref p, x6, (du.same s1).same s6, dt.same s6⟩
theorem scMadeC : FnScope ["_law_case_here"] ["_law_case_here"] (defScope sLawMade) := ⟨rfl, rfl, rfl, by decide +kernel, rfl, by decide +kernel, by decide +kernel⟩
theorem ok_madeC {f : Addr} {fd : FuncData} (F : FnT K "_law_made" sLawMade f fd) (M : Mk K C fI) (gS : mg "System" = some (.ref C))
    (GI : FnOk P w K mg base CX0 5 fI fdI ["self", "unknowns", "rows"] (spInit K C)) (bI : Binds K fdI ["self", "unknowns", "rows"] []) : FnOk P w K mg base CX0 7 f fd ["_law_case_here"] (spMadeC K C) := by
  refine F.ok scMadeC (fun vs H Q E h => ?_) (fun cdv A outer s H vs Q E hr h => ?_)
  · obtain ⟨v, c, rfl, _⟩ := h
    rfl
  · obtain ⟨v, c, rfl, dv, ok, q⟩ := h
    refine ⟨_, PSs.nox (pss_one (ps_ret (pe_make M GI hr rfl gS bI .nil pass0 (pa_cons (pe_ix ix_tup (pv 0) pe_int (fun _ _ => rfl)) (pa_cons (pe_ix ix_tup (pv 0) pe_int (fun _ _ => rfl)) pa_nil))))), ?_⟩
    obtain ⟨a, u, r, rfl, sq, du, dr⟩ := case_at dv
    refine ⟨_, rfl, a, _, 0, _, rfl, rfl, sq, atI_nat (j := 0) rfl, _, rfl, a, _, 1, _, rfl, rfl, sq, atI_nat (j := 1) rfl, fun y dy hy hdy ne => ?_⟩
    have sn := made_new (C := C) hy hdy
    refine ⟨y, dy, .ref u, .ref r, c.1, c.2, rfl, upd_same, du.same sn, ok.f, dr.same sn, ok.l, fun H6 k6 x6 => ⟨rfl, ?_⟩⟩
    have s6 := made_same hy hdy k6
    exact q H6 y s6 ⟨ok.f, ok.l, dy, .ref u, .ref r, x6, du.same s6, dr.same s6⟩
end
end Ca
set_option Elab.async false
set_option linter.all false
set_option maxRecDepth 100000
set_option maxHeartbeats 4000000
namespace Ca
open PySem PySem.Spec PyProof.Rows L2
/-! ### data told twice -/
theorem rd_sameD {K : PySem.W.Frag} {H : Hp} {a b : V} {d : PyData} {Q : VK} (ha : Dp K H a d) (hb : Dp K H b d) (sh : SeqAt.shaped d = true) (q : Q (.bl false) H) : rNeD K a b H Q :=
  ⟨d, d, ha, hb, sh, sh, by rw [SeqAt.eqv_refl _ (Bool.and_eq_true_iff.mp (show (d.canLay0 && decide (d.depth ≤ 64)) = true from sh)).1]; exact q⟩
theorem lay_texts : ∀ ts : List Str, (∀ x ∈ ts, PyData.strOk x = true) → PyData.canLayAll0 (ts.map .str) = true
  | [], _ => rfl
  | n :: ns, h => by
    simp only [List.map_cons, PyData.canLayAll0, PyData.canLay0]
    rw [h n (List.mem_cons_self ..), lay_texts ns fun x z => h x (List.mem_cons_of_mem _ z)]
    rfl
theorem shaped_texts {ts : List Str} (h : ∀ x ∈ ts, PyData.strOk x = true) : SeqAt.shaped (.list (ts.map .str)) = true := by
  refine Bool.and_eq_true_iff.mpr ⟨by simp only [PyData.canLay0]; exact lay_texts ts h, decide_eq_true ?_⟩
  simp only [PyData.depth]
  rw [dep_strs]
  decide
theorem dpS {K : PySem.W.Frag} {H : Hp} : ∀ ts : List Str, DpAll K H (ts.map V.str) (ts.map PyData.str)
  | [] => .nil
  | b :: bs => .cons (.str b) (dpS bs)
/-- two lists of the same texts are not unequal -/
theorem rd_sameS {K : PySem.W.Frag} {H : Hp} {a b : Addr} {Q : VK} (ts : List Str) (h : ∀ x ∈ ts, PyData.strOk x = true) (ha : H a = some (.lst (ts.map V.str))) (hb : H b = some (.lst (ts.map V.str))) (q : Q (.bl false) H) : rNeD K (.ref a) (.ref b) H Q :=
  rd_sameD (.lst (SqL.of ha) (dpS ts)) (.lst (SqL.of hb) (dpS ts)) (shaped_texts h) q
theorem rd_neS {K : PySem.W.Frag} {C : Addr} {H : Hp} {x y : Addr} {ns ms : List Str} {rs qs : List Rw} {Q : VK} (I : SysI K C) (X : SysAt K C H x ns rs) (Y : SysAt K C H y ms qs) (q : Q (.bl (!(decide (ns = ms) && decide (rs = qs)))) H) : rNeO K C (spEqS K C) (.ref x) (.ref y) H Q := by
  obtain ⟨_, _, dx, u, r, ex, _, _⟩ := id X
  obtain ⟨_, _, dy, u2, r2, ey, _, _⟩ := id Y
  exact ⟨x, dx, _, .ref C, rfl, ex, .ins ey, I.nf, x, .ref y, ns, rs, rfl, X, .inr ⟨y, ms, qs, rfl, Y, _, rfl, q⟩⟩
theorem rd_eqS {K : PySem.W.Frag} {C : Addr} {H : Hp} {x y : Addr} {ns ms : List Str} {rs qs : List Rw} {Q : VK} (I : SysI K C) (X : SysAt K C H x ns rs) (Y : SysAt K C H y ms qs) (q : Q (.bl (decide (ns = ms) && decide (rs = qs))) H) : rEqO K C (spEqS K C) (.ref x) (.ref y) H Q := by
  obtain ⟨_, _, dx, u, r, ex, _, _⟩ := id X
  obtain ⟨_, _, dy, u2, r2, ey, _, _⟩ := id Y
  exact ⟨x, dx, _, .ref C, rfl, ex, .ins ey, I.nf, x, .ref y, ns, rs, rfl, X, .inr ⟨y, ms, qs, rfl, Y, _, rfl, q⟩⟩
/-- the same system, told by != -/
theorem rd_neSame {K : PySem.W.Frag} {C : Addr} {H : Hp} {x y : Addr} {ns : List Str} {rs : List Rw} {Q : VK} (I : SysI K C) (X : SysAt K C H x ns rs) (Y : SysAt K C H y ns rs) (q : Q (.bl false) H) : rNeO K C (spEqS K C) (.ref x) (.ref y) H Q :=
  rd_neS I X Y (by rw [decide_eq_true (rfl : ns = ns), decide_eq_true (rfl : rs = rs)]; exact q)
theorem rd_sameRows {K : PySem.W.Frag} {H : Hp} {a b : V} {rs : List Rw} {m : Nat} {Q : VK} (L : Lines rs m) (ha : Dq K H a (rowsD rs)) (hb : Dq K H b (rowsD rs)) (q : Q (.bl false) H) : rNeD K a b H Q :=
  rd_sameD (dp_of (nodict_rows rs) ha) (dp_of (nodict_rows rs) hb) (shaped_rows (lines_names L)) q
theorem rd_sameNames {K : PySem.W.Frag} {H : Hp} {a b : V} {rs : List Rw} {m : Nat} {Q : VK} (L : Lines rs m) (ha : Dq K H a (namesD rs)) (hb : Dq K H b (namesD rs)) (q : Q (.bl false) H) : rNeD K a b H Q :=
  rd_sameD (dp_of (nodict_folk _) ha) (dp_of (nodict_folk _) hb) (shaped_strs fun x z => by
    obtain ⟨r, hr, rfl⟩ := List.mem_map.mp z
    exact lines_names L r hr) q
/-! ### the repr of a case's parts -/
def pairD (c : Case) : PyData := .list [folkD c.1, rowsD c.2]
theorem good_pair {K : PySem.W.Frag} {H : Hp} {p : Addr} {tu tr : V} {c : Case} (ok : COk c) (h : H p = some (.lst [tu, tr])) (h1 : Dq K H tu (folkD c.1)) (h2 : Dq K H tr (rowsD c.2)) : Good K H (.ref p) (pairD c) := by
  have n3 := ok.f.hi
  have r6 := ok.l.hi
  obtain ⟨a1, b1, w1⟩ := strs_all c.1 (folk_names ok.f)
  obtain ⟨a2, b2, w2⟩ := rows_all c.2 c.1.length ok.l.ok n3
  have sh : (pairD c).showable = true := by
    unfold pairD folkD rowsD
    simp only [PyData.showable, PyData.showableAll, a1, a2, Bool.true_and, Bool.and_true]
  have dep : (pairD c).depth ≤ 5 := by
    unfold pairD folkD rowsD
    have := dep_rows c.2
    simp only [PyData.depth, PyData.depthAll, dep_strs]
    omega
  have lay : (pairD c).canLay0 = true := by
    unfold pairD folkD rowsD
    simp only [PyData.canLay0, PyData.canLayAll0]
    rw [lay_strs c.1 (folk_names ok.f), lay_rows c.2 (lines_names ok.l)]
    rfl
  have wt : (pairD c).weight ≤ 2 ^ 20 := by
    have f1 : (folkD c.1).weight ≤ 9 * c.1.length := by unfold folkD; rw [PyData.weight]; exact w1
    have f2 : (rowsD c.2).weight ≤ 141 * c.2.length := by unfold rowsD; rw [PyData.weight]; exact w2
    unfold pairD
    rw [PyData.weight, PyData.weightAll, PyData.weightAll, PyData.weightAll]
    show _ ≤ 1048576
    omega
  have sz : (pairD c).shown.length ≤ 15728653 := by
    refine PyProof.Rows.shown_le13 ?_ ?_
    · show ((pairD c).canLay0 && decide ((pairD c).depth ≤ 64) && decide ((pairD c).weight ≤ 2 ^ 20)) = true
      rw [lay, decide_eq_true (show (pairD c).depth ≤ 64 by omega), decide_eq_true wt]
      rfl
    · have e1 : (folkD c.1).intsShort 13 = true := by unfold folkD; rw [PyData.intsShort]; exact b1
      have e2 : (rowsD c.2).intsShort 13 = true := by unfold rowsD; rw [PyData.intsShort]; exact b2
      unfold pairD
      rw [PyData.intsShort, PyData.intsShortAll, PyData.intsShortAll, PyData.intsShortAll, e1, e2]
      rfl
  refine ⟨.dat (.lst (SqL.of h) (.cons (dp_of (nodict_folk _) h1) (.cons (dp_of (nodict_rows _) h2) .nil))) ?_, sh, by omega, Nat.le_trans sz (by decide)⟩
  exact Bool.and_eq_true_iff.mpr ⟨lay, decide_eq_true (by omega)⟩
/-- keywords of a def without defaults, all behind the positional ones -/
theorem kb_of {K : PySem.W.Frag} {x q : Str} {params : Arguments} {body : List Stmt} {scope : Scope} {f : Addr} {fd : FuncData} {ps ks : List Str} {n : Nat} (F : FunD K x q params body scope [] [] f fd)
    (h : ∀ (kV doc pm : Value) (an : Option Addr) (cdv ct : Value) (us ws : List Value), us.length = n → ws.length = ks.length → bindArgs (PySem.W.fnOf x q params body scope .none kV doc pm an cdv ct) ⟨us, ks.zip ws⟩ = pure (ps.zip (us ++ ws))) :
    KBn K fd ps n ks (fun us ws => us ++ ws) (fun vs zs => vs ++ zs) := by
  obtain ⟨oc, od, dV, kV, doc, pm, an, cdv, ct, osl, rfl, lk, hcd, hD, hK⟩ := F.ex
  rcases hD with ⟨_, rfl⟩ | ⟨e, _⟩
  · exact ⟨fun s us ws _ l1 l2 => .of_eq (h kV doc pm an cdv ct us ws l1 l2), fun r1 r2 => r1.append r2⟩
  · exact absurd rfl e
end Ca
set_option Elab.async false
set_option linter.all false
set_option maxRecDepth 100000
set_option maxHeartbeats 4000000
namespace Ca
open PySem PySem.Spec PyProof.Rows L2
/-! ### what the laws of answers lean on besides -/
def gcdB (K : PySem.W.Frag) : Bool := decide (PySem.W.nsIn K mainGlobals "gcd" = some (some (.builtin "math.gcd")))
def zeA (K : PySem.W.Frag) : Addr := He.ga K "ZERO"
def zeB (K : PySem.W.Frag) : Bool := match K.lookup (zeA K) with
  | some ⟨.type c, _, .seq its _, _⟩ => decide (c = "tuple") && (decide (its.size ≤ sizeLine) && He.relAll [.int 0, .int 1] its.toList)
  | _ => false
def sysZ (K : PySem.W.Frag) : Bool := gcdB K && (zeB K && sysB K)
theorem gcd_ok {K : PySem.W.Frag} {h : Heap} {mg : Str → Option Value} (X : K.In h) (G : h.Ns mainGlobals mg) (c : gcdB K = true) : mg "gcd" = some (.builtin "math.gcd") := PySem.W.mg_of X G (of_decide_eq_true c)
theorem ze_ok {K : PySem.W.Frag} (h : zeB K = true) (H : Hp) : SqT K H (zeA K) [.int 0, .int 1] := by
  unfold zeB at h
  cases q : K.lookup (zeA K) with
  | none => rw [q] at h; cases h
  | some o =>
    obtain ⟨oc, od, dt, osl⟩ := o
    rw [q] at h
    cases oc with
    | type c =>
      cases dt with
      | seq its n =>
        obtain ⟨h1, h2⟩ := an (show (decide (c = "tuple") && (decide (its.size ≤ sizeLine) && He.relAll [.int 0, .int 1] its.toList)) = true from h)
        obtain ⟨h3, h4⟩ := an h2
        exact .inr ⟨_, its, n, q, congrArg Value.type (of_decide_eq_true h1), rfl, of_decide_eq_true h3, He.relAll_ok h4⟩
      | _ => cases h
    | _ => cases dt <;> cases h
/-- keywords of a def, all, the other way round -/
theorem kb_rev {K : PySem.W.Frag} {x q : Str} {params : Arguments} {body : List Stmt} {scope : Scope} {f : Addr} {fd : FuncData} {ps ks : List Str} {n : Nat} (F : FunD K x q params body scope [] [] f fd)
    (h : ∀ (kV doc pm : Value) (an : Option Addr) (cdv ct : Value) (us ws : List Value), us.length = n → ws.length = ks.length → bindArgs (PySem.W.fnOf x q params body scope .none kV doc pm an cdv ct) ⟨us, ks.zip ws⟩ = pure (ps.zip (us ++ ws.reverse))) :
    KBn K fd ps n ks (fun us ws => us ++ ws.reverse) (fun vs zs => vs ++ zs.reverse) := by
  obtain ⟨oc, od, dV, kV, doc, pm, an, cdv, ct, osl, rfl, lk, hcd, hD, hK⟩ := F.ex
  rcases hD with ⟨_, rfl⟩ | ⟨e, _⟩
  · exact ⟨fun s us ws _ l1 l2 => .of_eq (h kV doc pm an cdv ct us ws l1 l2), fun r1 r2 => r1.append r2.reverse⟩
  · exact absurd rfl e
end Ca
set_option Elab.async false
set_option linter.all false
set_option maxRecDepth 100000
set_option maxHeartbeats 0
namespace Ca
open PySem PySem.Spec PyProof.Rows L2
def fnsk170 : List He.DefD := [topD "is_integer" sIsInteger,
  topD "is_tuple_of" sIsTupleOf,
  topD "is_name" sIsName,
  topD "is_unknown" sIsUnknown,
  topD "is_stretch" sIsStretch,
  topD "is_row" sIsRow,
  topD "check_unknowns" sCheckUnknowns,
  topD "check_rows" sCheckRows,
  topD "line_of" sLineOf,
  topD "_law_urn" sLawUrn,
  topD "_law_dip" sLawDip,
  topD "_law_from" sLawFrom]
def fnsk171 : List He.DefD := [topD "_law_unlike" sLawUnlike,
  topD "_law_stretch" sLawStretch,
  topD "_law_line" sLawLine,
  topD "_law_case" sLawCase,
  topD "_law_right" sLawRight,
  topD "law" sLaw,
  topD "is_fraction" sIsFraction,
  topD "fraction" sFraction,
  topD "plus" sPlus,
  topD "times" sTimes,
  topD "opposite" sOpposite,
  topD "minus" sMinus]
def fnsk172 : List He.DefD := [topD "weighed" sWeighed,
  topD "dot" sDot,
  topD "is_answer" sIsAnswer,
  topD "check_system" sCheckSystem,
  topD "check_answer" sCheckAnswer,
  topD "ends_for" sEndsFor,
  topD "bound_for" sBoundFor,
  topD "room_for" sRoomFor,
  topD "always_keeps" sAlwaysKeeps,
  topD "can_keep" sCanKeep,
  topD "is_sure" sIsSure,
  topD "is_possible" sIsPossible]
def fnsk173 : List He.DefD := [topD "rooms" sRooms,
  topD "_law_made" sLawMade,
  topD "_law_shared" sLawShared,
  topD "_law_low" sLawLow,
  topD "_law_value" sLawValue,
  topD "_law_point" sLawPoint,
  topD "_law_is_one" sLawIsOne,
  topD "_law_within" sLawWithin,
  topD "_law_member" sLawMember,
  topD "_law_around" sLawAround,
  topD "_law_closer" sLawCloser,
  topD "_law_is_between" sLawIsBetween]
def fnsk174 : List He.DefD := [memD "__init__" "System.__init__" mSystemInit [.adr e0A],
  memD "__len__" "System.__len__" mSystemLen [],
  memD "__bool__" "System.__bool__" mSystemBool [],
  memD "__str__" "System.__str__" mSystemStr [],
  memD "__eq__" "System.__eq__" mSystemEq []]
def fnsk17 : List He.DefD := fnsk170 ++ fnsk171 ++ fnsk172 ++ fnsk173 ++ fnsk174
def fask170 : List He.Fa := [.glo "is_integer", .glo "is_tuple_of", .glo "is_name", .glo "is_unknown", .glo "is_stretch", .glo "is_row", .glo "check_unknowns", .glo "check_rows", .glo "line_of", .glo "_law_urn", .glo "_law_dip", .glo "_law_from", .glo "_law_unlike", .glo "_law_stretch", .glo "_law_line", .glo "_law_case"]
def fask171 : List He.Fa := [.glo "_law_right", .glo "law", .glo "is_fraction", .glo "fraction", .glo "plus", .glo "times", .glo "opposite", .glo "minus", .glo "weighed", .glo "dot", .glo "is_answer", .glo "check_system", .glo "check_answer", .glo "ends_for", .glo "bound_for", .glo "room_for"]
def fask172 : List He.Fa := [.glo "always_keeps", .glo "can_keep", .glo "is_sure", .glo "is_possible", .glo "rooms", .glo "_law_made", .glo "_law_shared", .glo "_law_low", .glo "_law_value", .glo "_law_point", .glo "_law_is_one", .glo "_law_within", .glo "_law_member", .glo "_law_around", .glo "_law_closer", .glo "_law_is_between"]
def fask173 : List He.Fa := [.glo "System", .glo "ZERO", .int "MOST_UNKNOWNS" 3, .int "MOST_ROWS" 6, .int "MOST_NUMBER" 10000, .int "MOST_CHARACTERS" 8, .int "GREATEST" 1, .int "LEAST" (-1), .str "LETTERS" LET, .str "DIGITS" DIG, .str "BOUND" "bound", .free "isinstance", .free "int", .free "bool", .free "str", .free "tuple"]
def fask174 : List He.Fa := [.free "len", .free "all", .free "enumerate", .free "range", .free "zip", .free "repr", .free "list", .free "max", .free "min", .free "abs", .free "divmod", .cls "System", .noat "System" "_unknowns", .noat "System" "_rows", .mkr "System", .meth "System" "__len__"]
def fask175 : List He.Fa := [.meth "System" "__bool__", .meth "System" "__str__", .meth "System" "__eq__"]
def fask17 : List He.Fa := fask170 ++ fask171 ++ fask172 ++ fask173 ++ fask174 ++ fask175
abbrev Alk17 : Type := Bool × He.FnW × He.FnW × He.FnW × He.AlD
def obsk17 (g : Addr → Option Obj) : Alk17 := (sysZ (He.frG g (He.asD g 6)), fnA (He.frG g (He.asD g 6)) (getA (He.frG g (He.asD g 6)) "unknowns"), fnA (He.frG g (He.asD g 6)) (getA (He.frG g (He.asD g 6)) "rows"), fnA (He.frG g (He.asD g 6)) (getA (He.frG g (He.asD g 6)) "names"), He.obsDG 6 fask17 fnsk17 g)
structure Saysk17 (K : PySem.W.Frag) : Prop where
  b : sysZ K = true
  u : fnA K (getA K "unknowns") = getV "unknowns" "System.unknowns" mSystemUnknowns
  r : fnA K (getA K "rows") = getV "rows" "System.rows" mSystemRows
  n : fnA K (getA K "names") = getV "names" "System.names" mSystemNames
  d : He.SaysD fask17 fnsk17 K
theorem saysk17_of {g : Addr → Option Obj} (e : obsk17 g = (true, getV "unknowns" "System.unknowns" mSystemUnknowns, getV "rows" "System.rows" mSystemRows, getV "names" "System.names" mSystemNames, He.valD fnsk17)) : Saysk17 (He.frG g (He.asD g 6)) := by
  unfold obsk17 at e
  simp only [Prod.mk.injEq] at e
  obtain ⟨e1, e2, e3, e4, e5⟩ := e
  exact ⟨e1, e2, e3, e4, e5⟩
def hkk17 : PySem.W.Hook where
  α := Alk17
  obs s := obsk17 s.heap.get?
  val _ := (true, getV "unknowns" "System.unknowns" mSystemUnknowns, getV "rows" "System.rows" mSystemRows, getV "names" "System.names" mSystemNames, He.valD fnsk17)
  says _ h := ∃ K : PySem.W.Frag, K.In h ∧ Saysk17 K
  of _ _ e := ⟨He.frG _ (He.asD _ 6), He.frG_in, saysk17_of e⟩
  keeps _ _ _ c k := c.elim fun K z => ⟨K, z.1.keeps k, z.2⟩
def obk17 (s : PySem.W.SharedT) : Alk17 := obsk17 (HandSHeadRun.getT s)
theorem obk17_eq (s : PySem.W.SharedT) : obk17 s = hkk17.obs s.abs := by
  have e : HandSHeadRun.getT s = s.abs.heap.get? := funext (HandSHeadRun.getT_eq s)
  unfold obk17
  rw [e]
  rfl
abbrev rowk17 : PySem.W.OpenRow := PySem.W.OpenLaw.row PySem.Challenge.rw_commonanswer_k17_whole_members_drawn
def namesk170 : List Str := ["_wall", "BadValue", "InvalidText", "InvalidAnswer", "NotASystem", "InvalidUnknowns", "InvalidRows", "MOST_UNKNOWNS", "MOST_ROWS", "MOST_NUMBER", "LETTERS", "DIGITS", "MOST_CHARACTERS", "BOUND", "is_integer", "is_tuple_of"]
def namesk171 : List Str := ["is_name", "is_unknown", "is_stretch", "is_row", "check_unknowns", "check_rows", "line_of", "integer_in", "row_in", "System", "ZERO", "is_fraction", "fraction", "plus", "times", "opposite"]
def namesk172 : List Str := ["minus", "weighed", "dot", "is_answer", "check_system", "check_answer", "GREATEST", "LEAST", "ends_for", "bound_for", "room_for", "always_keeps", "can_keep", "is_sure", "is_possible", "rooms"]
def namesk173 : List Str := ["_law_urn", "_law_dip", "_law_from", "_law_unlike", "_law_stretch", "_law_line", "_law_case", "_law_made", "_law_shared", "_law_low", "_law_value", "_law_point", "_law_is_one", "_law_within", "_law_member", "_law_around"]
def namesk174 : List Str := ["_law_closer", "_law_is_between", "_law_right", "gcd"]
def namesk17 : List Str := namesk170 ++ namesk171 ++ namesk172 ++ namesk173 ++ namesk174
end Ca
set_option Elab.async false
set_option linter.all false
set_option maxRecDepth 100000
set_option maxHeartbeats 0
namespace Ca
open PySem PySem.Spec PyProof.Rows L2
theorem runk17 (w : World) : HandSHeadRun.RunEqI rowk17 (PySem.W.view rowk17.prog [0, 74]) hkk17 obk17 14000 namesk17 w := by
  unfold HandSHeadRun.RunEqI
  kernel_rfl
end Ca
set_option Elab.async false
set_option linter.all false
set_option maxRecDepth 100000
set_option maxHeartbeats 4000000
/-! zip(a list, a tuple): one proof over kinds of what is walked -/
namespace CaZ
open PySem PySem.Spec PyProof.Rows L2 RZ
/-- a kind of things that are walked by an iterator of their own -/
structure Kd where
  It : Heap → Addr → Addr → Nat → Prop
  Sq : Heap → Addr → Array Value → Prop
  it_to : ∀ {h h' : Heap} {c l : Addr} {k : Nat}, It h c l k → (∀ o, h.get? c = some o → h'.get? c = some o) → It h' c l k
  sq_to : ∀ {h h' : Heap} {c : Addr} {xs : Array Value}, Sq h c xs → (∀ o, h.get? c = some o → h'.get? c = some o) → Sq h' c xs
  it_obj : ∀ {h : Heap} {c l : Addr} {k : Nat}, It h c l k → ∃ o, h.get? c = some o ∧ ∀ v, o.data ≠ .cell v
  next : ∀ {prog : Program} {w : World} {A : Around} {E : Value → Shared → Prop} {s : Shared} {c l : Addr} {k : Nat} {xs : Array Value} {x : Value} {Q : Value → Shared → Prop}, It s.heap c l k → Sq s.heap l xs → xs[k]? = some x →
    (∀ h', It h' c l (k + 1) → Heap.SameBut c s.heap h' → Q x { s with heap := h' }) → wpAny (model prog w) A (Builtin.SmallTypes.nextOf (.ref c)) Q E s
  stop : ∀ {prog : Program} {w : World} {A : Around} {E : Value → Shared → Prop} {s : Shared} {c l : Addr} {k : Nat} {xs : Array Value} {Q : Value → Shared → Prop}, A.handled = none → It s.heap c l k → Sq s.heap l xs → xs[k]? = none →
    (∀ h' e, Heap.ExtBut c s.heap h' → (∃ o, h'.get? e = some o ∧ o.cls = .type "StopIteration") → E (.ref e) { s with heap := h' }) → wpAny (model prog w) A (Builtin.SmallTypes.nextOf (.ref c)) Q E s
def kL : Kd where
  It := Heap.IsListIter
  Sq := Heap.IsList
  it_to := fun h f => h.at f
  sq_to := fun ⟨o, e, r⟩ f => ⟨o, f o e, r⟩
  it_obj := fun ⟨o, e, _, d⟩ => ⟨o, e, fun v z => by rw [d] at z; cases z⟩
  next := wpAny_nextOf_list_item
  stop := wpAny_nextOf_list_end
def kT : Kd where
  It := Heap.IsTupleIter
  Sq := Heap.IsTuple
  it_to := fun h f => h.at f
  sq_to := fun ⟨o, e, r⟩ f => ⟨o, f o e, r⟩
  it_obj := fun ⟨o, e, _, d⟩ => ⟨o, e, fun v z => by rw [d] at z; cases z⟩
  next := nextOf_tuple_item
  stop := nextOf_tuple_end
/-- a zip whose two iterators stand at a turn -/
structure Zp (M N : Kd) (h : Heap) (z TI TO c d l m : Addr) (k : Nat) : Prop where
  z : IsZip h z TI TO .none
  i : IsPair h TI (.ref c) (.ref d)
  o : ∃ x y, IsPair h TO x y
  a : M.It h c l k
  b : N.It h d m k
/-- all that stood stands, the zip's own four apart -/
def Apt (z TO c d : Addr) (h h' : Heap) : Prop := ∀ e o, e ≠ z → e ≠ TO → e ≠ c → e ≠ d → h.get? e = some o → h'.get? e = some o
section
variable {M N : Kd} {prog : Program} {w : World} {A : Around} {E : Value → Shared → Prop} {s : Shared} {z TI TO c d l m : Addr} {k : Nat} {xs ys : Array Value}
theorem Kd.it_same (M : Kd) {h h' : Heap} {e f l : Addr} {k : Nat} (i : M.It h e l k) (b : Heap.SameBut f h h') (n : e ≠ f) : M.It h' e l k := M.it_to i fun o q => b.extBut e o n q
theorem Kd.sq_same (M : Kd) {h h' : Heap} {e f : Addr} {xs : Array Value} (i : M.Sq h e xs) (b : Heap.SameBut f h h') (n : e ≠ f) : M.Sq h' e xs := M.sq_to i fun o q => b.extBut e o n q
/-- a turn with an item on both sides -/
theorem turn_item {x y : Value} {Q : Value → Shared → Prop} (D : ZipApart z TI TO c d l m) (W : Zp M N s.heap z TI TO c d l m k) (hl : M.Sq s.heap l xs) (hm : N.Sq s.heap m ys) (hx : xs[k]? = some x) (hy : ys[k]? = some y)
    (q : ∀ h', IsZip h' z TI TO (rawInt s.heap.objs.size) → IsPair h' TO x y → M.It h' c l (k + 1) → N.It h' d m (k + 1) → IsPair h' s.heap.objs.size x y → h'.objs.size = s.heap.objs.size + 1 → Apt z TO c d s.heap h' → Q (.ref s.heap.objs.size) { s with heap := h' }) :
    wpAny (model prog w) A (Builtin.«zip.__next__» ⟨[.ref z], []⟩) (fun fin s' => ∃ v, fin = .done (.ret v) ∧ Q v s') E s := by
  obtain ⟨g1, g2, ⟨u, v, g3⟩, g4, g5⟩ := W
  (show wpAny _ _ (field (.ref z) 2 >>= _) _ _ _); refine wpAny_bind (wpAny_field g1 rfl (x := .bool false) rfl ?_)
  (show wpAny _ _ (field (.ref z) 3 >>= _) _ _ _); refine wpAny_bind (wpAny_field g1 rfl (x := .ref TI) rfl (wpAny_bind (wpAny_seqItems g2 rfl ?_)))
  (show wpAny _ _ (Builtin.SmallTypes.ownedTupleIsFree (.ref z) >>= _) _ _ _); refine wpAny_bind ?_; unfold Builtin.SmallTypes.ownedTupleIsFree
  refine wpAny_bind (wpAny_field g1 rfl (x := .none) rfl (wpAny_pure ?_)); simp only [if_true]; refine wpAny_bind (wpAny_rule (wpAny_bind (wpAny_field g1 rfl (x := .ref TO) rfl ?_)))
  refine wpAny_bind (wpAny_setField_rec g1 (by simp) fun p1 z1 b1 => wpAny_bind ?_); simp only [List.zipIdx_cons, List.zipIdx_nil, List.forIn_cons, List.forIn_nil]
  refine wpAny_bind (wpAny_bind (wpAny_onRaise ?_)); (show wpAny _ _ (Builtin.SmallTypes.nextOf (.ref c) >>= _) _ _ _)
  refine wpAny_bind (M.next (M.it_same g4 b1 D.i1z) (M.sq_same hl b1 D.l1z) hx fun p2 i2 b2 => wpAny_pure ?_)
  have o2 : IsPair p2 TO u v := b2.extBut _ _ D.TOi1 (b1.extBut _ _ D.TOz g3)
  refine wpAny_bind (wpAny_seqItems o2 rfl (wpAny_bind (wpAny_updateSeq_pair o2 fun p3 o3' b3 => wpAny_bind (wpAny_letGo (wpAny_pure ?_)))))
  have o3 : IsPair p3 TO x v := o3'
  refine wpAny_bind (wpAny_bind (wpAny_onRaise ?_)); (show wpAny _ _ (Builtin.SmallTypes.nextOf (.ref d) >>= _) _ _ _)
  refine wpAny_bind (N.next (N.it_same (N.it_same (N.it_same g5 b1 D.i2z) b2 D.i12.symm) b3 D.TOi2.symm) (N.sq_same (N.sq_same (N.sq_same hm b1 D.l2z) b2 D.l2i1) b3 D.l2TO) hy fun p4 i4 b4 => wpAny_pure ?_)
  have o4 : IsPair p4 TO x v := b4.extBut _ _ D.TOi2 o3
  refine wpAny_bind (wpAny_seqItems o4 rfl (wpAny_bind (wpAny_updateSeq_pair o4 fun p5 o5' b5 => wpAny_bind (wpAny_letGo (wpAny_pure (wpAny_pure ?_))))))
  have o5 : IsPair p5 TO x y := o5'
  have z5 : IsZip p5 z TI TO .ellipsis := b5.extBut _ _ D.TOz.symm (b4.extBut _ _ D.i2z.symm (b3.extBut _ _ D.TOz.symm (b2.extBut _ _ D.i1z.symm z1)))
  have a5 : Apt z TO c d s.heap p5 := fun e o e1 e2 e3 e4 r => b5.extBut _ _ e2 (b4.extBut _ _ e4 (b3.extBut _ _ e2 (b2.extBut _ _ e3 (b1.extBut _ _ e1 r))))
  have c5 : M.It p5 c l (k + 1) := M.it_same (M.it_same (M.it_same i2 b3 D.TOi1.symm) b4 D.i12) b5 D.TOi1.symm
  have d5 : N.It p5 d m (k + 1) := N.it_same i4 b5 D.TOi2.symm
  have size5 : p5.objs.size = s.heap.objs.size := b5.1.trans (b4.1.trans (b3.1.trans (b2.1.trans b1.1)))
  have zl : z < p5.objs.size := Heap.lt_size z5
  refine wpAny_bind (wpAny_seqItems o5 rfl (wpAny_bind (wpAny_newTuple ?_)))
  (show wpAny _ _ (Builtin.SmallTypes.ownedTupleHandOut (.ref z) (.ref p5.objs.size) >>= _) _ _ _); refine wpAny_bind ?_; unfold Builtin.SmallTypes.ownedTupleHandOut
  have z6 : IsZip (p5.push { cls := .type "tuple", data := .seq #[x, y] }) z TI TO .ellipsis := Heap.get?_push_of_some _ z5
  refine wpAny_bind (wpAny_setField_rec z6 (by simp) fun p7 z7' b7 => ?_)
  have z7 : IsZip p7 z TI TO (rawInt p5.objs.size) := z7'
  refine wpAny_setField_rec z7 (by simp) fun p8 z8' b8 => wpAny_pure ⟨_, rfl, ?_⟩
  have z8 : IsZip p8 z TI TO (rawInt p5.objs.size) := z8'
  have new : IsPair p8 p5.objs.size x y := b8.extBut _ _ (Nat.ne_of_gt zl) (b7.extBut _ _ (Nat.ne_of_gt zl) (Heap.get?_push_size _ rfl))
  have size8 : p8.objs.size = p5.objs.size + 1 := b8.1.trans (b7.1.trans (Heap.size_push ..))
  have rest : ∀ e o, e ≠ z → p5.get? e = some o → p8.get? e = some o := fun e o n r => b8.extBut _ _ n (b7.extBut _ _ n (Heap.get?_push_of_some _ r))
  rw [size5] at z8 new size8
  (show Q (.ref p5.objs.size) _); rw [size5]
  exact q p8 z8 (rest _ _ D.TOz o5) (M.it_to c5 fun o r => rest _ o D.i1z r) (N.it_to d5 fun o r => rest _ o D.i2z r) new size8 fun e o e1 e2 e3 e4 r => rest e o e1 (a5 e o e1 e2 e3 e4 r)
/-- a turn at which one side has come to its end -/
theorem turn_end {Q : Fin → Shared → Prop} (hh : A.handled = none) (D : ZipApart z TI TO c d l m) (W : Zp M N s.heap z TI TO c d l m k) (hl : M.Sq s.heap l xs) (hm : N.Sq s.heap m ys) (hend : xs[k]? = none ∨ ys[k]? = none)
    (q : ∀ h' e, Apt z TO c d s.heap h' → (∃ o, h'.get? e = some o ∧ o.cls = .type "StopIteration") → E (.ref e) { s with heap := h' }) : wpAny (model prog w) A (Builtin.«zip.__next__» ⟨[.ref z], []⟩) Q E s := by
  obtain ⟨g1, g2, ⟨u, v, g3⟩, g4, g5⟩ := W
  (show wpAny _ _ (field (.ref z) 2 >>= _) _ _ _); refine wpAny_bind (wpAny_field g1 rfl (x := .bool false) rfl ?_)
  (show wpAny _ _ (field (.ref z) 3 >>= _) _ _ _); refine wpAny_bind (wpAny_field g1 rfl (x := .ref TI) rfl (wpAny_bind (wpAny_seqItems g2 rfl ?_)))
  (show wpAny _ _ (Builtin.SmallTypes.ownedTupleIsFree (.ref z) >>= _) _ _ _); refine wpAny_bind ?_; unfold Builtin.SmallTypes.ownedTupleIsFree
  refine wpAny_bind (wpAny_field g1 rfl (x := .none) rfl (wpAny_pure ?_)); simp only [if_true]; refine wpAny_bind (wpAny_rule (wpAny_bind (wpAny_field g1 rfl (x := .ref TO) rfl ?_)))
  refine wpAny_bind (wpAny_setField_rec g1 (by simp) fun p1 z1' b1 => wpAny_bind ?_); simp only [List.zipIdx_cons, List.zipIdx_nil, List.forIn_cons, List.forIn_nil]
  have z1 : IsZip p1 z TI TO .ellipsis := z1'
  refine wpAny_bind (wpAny_bind (wpAny_onRaise ?_)); (show wpAny _ _ (Builtin.SmallTypes.nextOf (.ref c) >>= _) _ _ _)
  have apart : ∀ {h : Heap} {e : Addr} {o : Obj}, IsZip h z TI TO .ellipsis → h.get? e = some o → o.cls = .type "StopIteration" → e ≠ z := fun r1 r2 r3 r4 => by
    rw [r4, r1] at r2
    cases r2
    simp at r3
  cases hx : xs[k]? with
  | none =>
    refine wpAny_bind (M.stop hh (M.it_same g4 b1 D.i1z) (M.sq_same hl b1 D.l1z) hx fun p2 e b2 he => ?_)
    obtain ⟨o, ho, hc⟩ := he
    have z2 : IsZip p2 z TI TO .ellipsis := b2 _ _ D.i1z.symm z1
    exact wpAny_setField_rec z2 (by simp) fun p3 _ b3 => q p3 e (fun f r e1 _ e3 _ g => b3.extBut _ _ e1 (b2 _ _ e3 (b1.extBut _ _ e1 g))) ⟨o, b3.extBut _ _ (apart z2 ho hc) ho, hc⟩
  | some x =>
    have hy : ys[k]? = none := hend.elim (fun r => by rw [hx] at r; cases r) id
    refine wpAny_bind (M.next (M.it_same g4 b1 D.i1z) (M.sq_same hl b1 D.l1z) hx fun p2 i2 b2 => wpAny_pure ?_)
    have o2 : IsPair p2 TO u v := b2.extBut _ _ D.TOi1 (b1.extBut _ _ D.TOz g3)
    refine wpAny_bind (wpAny_seqItems o2 rfl (wpAny_bind (wpAny_updateSeq_pair o2 fun p3 _ b3 => wpAny_bind (wpAny_letGo (wpAny_pure ?_)))))
    refine wpAny_bind (wpAny_bind (wpAny_onRaise ?_)); (show wpAny _ _ (Builtin.SmallTypes.nextOf (.ref d) >>= _) _ _ _)
    refine wpAny_bind (N.stop hh (N.it_same (N.it_same (N.it_same g5 b1 D.i2z) b2 D.i12.symm) b3 D.TOi2.symm) (N.sq_same (N.sq_same (N.sq_same hm b1 D.l2z) b2 D.l2i1) b3 D.l2TO) hy fun p4 e b4 he => ?_)
    obtain ⟨o, ho, hc⟩ := he
    have z4 : IsZip p4 z TI TO .ellipsis := b4 _ _ D.i2z.symm (b3.extBut _ _ D.TOz.symm (b2.extBut _ _ D.i1z.symm z1))
    exact wpAny_setField_rec z4 (by simp) fun p5 _ b5 => q p5 e (fun f r e1 e2 e3 e4 g => b5.extBut _ _ e1 (b4 _ _ e4 (b3.extBut _ _ e2 (b2.extBut _ _ e3 (b1.extBut _ _ e1 g))))) ⟨o, b5.extBut _ _ (apart z4 ho hc) ho, hc⟩
theorem next_item {x y : Value} {Q : Option Value → Shared → Prop} (D : ZipApart z TI TO c d l m) (W : Zp M N s.heap z TI TO c d l m k) (hl : M.Sq s.heap l xs) (hm : N.Sq s.heap m ys) (hx : xs[k]? = some x) (hy : ys[k]? = some y)
    (q : ∀ h', IsZip h' z TI TO (rawInt s.heap.objs.size) → IsPair h' TO x y → M.It h' c l (k + 1) → N.It h' d m (k + 1) → IsPair h' s.heap.objs.size x y → h'.objs.size = s.heap.objs.size + 1 → Apt z TO c d s.heap h' → Q (some (.ref s.heap.objs.size)) { s with heap := h' }) :
    wpAny (model prog w) A (pyNext (.ref z)) Q E s := by
  have ty : s.TypeIs (.ref z) "zip" := ⟨_, W.z, rfl⟩
  unfold pyNext
  exact wpAny_bind (wpAny_attempt (wpAny_callSpecial?_slot (name := Str.ofString "__next__") ty F.slot_zip_next (wpAny_call_entry F.slot_zip_next ty F.entry_zip_next (turn_item D W hl hm hx hy fun h' a1 a2 a3 a4 a5 a6 a7 => wpAny_pure (q h' a1 a2 a3 a4 a5 a6 a7)) (F.args_zip_next_1 _))))
theorem next_end {Q : Option Value → Shared → Prop} (hh : A.handled = none) (D : ZipApart z TI TO c d l m) (W : Zp M N s.heap z TI TO c d l m k) (hl : M.Sq s.heap l xs) (hm : N.Sq s.heap m ys) (hend : xs[k]? = none ∨ ys[k]? = none)
    (q : ∀ h', Apt z TO c d s.heap h' → Q none { s with heap := h' }) : wpAny (model prog w) A (pyNext (.ref z)) Q E s := by
  have ty : s.TypeIs (.ref z) "zip" := ⟨_, W.z, rfl⟩
  unfold pyNext
  refine wpAny_bind (wpAny_attempt (wpAny_callSpecial?_slot (name := Str.ofString "__next__") ty F.slot_zip_next (wpAny_call_entry F.slot_zip_next ty F.entry_zip_next (turn_end hh D W hl hm hend fun h' e a he => ?_) (F.args_zip_next_1 _))))
  obtain ⟨o, ho, hc⟩ := he
  exact wpAny_bind (wpAny_isInstance (T := "StopIteration") (b := true) ⟨o, ho, hc⟩ isSubtype_stop (wpAny_pure (q _ a)))
end
/-- the heap behind zip(l, m): two iterators, two pairs, the zip -/
abbrev zm1 (h : Heap) (l : Addr) : Heap := h.push { cls := .type "list_iterator", data := .fields #[.ref l, .int 0 0] }
abbrev zm2 (h : Heap) (l m : Addr) : Heap := (zm1 h l).push { cls := .type "tuple_iterator", data := .fields #[.ref m, .int 0 0] }
abbrev zm3 (h : Heap) (l m : Addr) : Heap := (zm2 h l m).push { cls := .type "tuple", data := .seq #[.ref h.objs.size, .ref (zm1 h l).objs.size] }
abbrev zm4 (h : Heap) (l m : Addr) : Heap := (zm3 h l m).push { cls := .type "tuple", data := .seq #[.none, .none] }
abbrev zm5 (h : Heap) (l m : Addr) : Heap := (zm4 h l m).push { cls := .type "zip", data := .fields #[.none, .bool false, .bool false, .ref (zm2 h l m).objs.size, .ref (zm3 h l m).objs.size] }
theorem zm_new (l m : Addr) (xs ys : Array Value) : Meets (Builtin.«zip.__new__» ⟨[.type "zip", .ref l, .ref m], []⟩) (fun _ R s => s.heap.IsList l xs ∧ s.heap.IsTuple m ys ∧ R (.ok (.ret (.ref (zm4 s.heap l m).objs.size))) { s with heap := zm5 s.heap l m }) :=
  .of_wp fun prog w A R s h => by
    obtain ⟨hp, g, d, tk, os⟩ := s
    obtain ⟨a, b, q⟩ := h
    have sub := sub_zip
    have a' : Heap.IsList (Shared.heap ⟨hp, g, d, tk, os⟩) l xs := a
    have b' : Heap.IsTuple (Shared.heap ⟨hp.push { cls := .type "list_iterator", data := .fields #[.ref l, .int 0 0] }, g, d, tk, os⟩) m ys := Heap.IsTuple.push b _
    wp_walk using wpAny_pyIter_list a', wpAny_pyIter_tuple b'
    exact ⟨_, rfl, q⟩
section
variable {prog : Program} {w : World} {A : Around} {E : Value → Shared → Prop} {s : Shared}
theorem call_zm {l m : Addr} {xs ys : Array Value} {Q : Value → Shared → Prop} (a : s.heap.IsList l xs) (b : s.heap.IsTuple m ys)
    (q : ∀ h', Zp kL kT h' (s.heap.objs.size + 4) (s.heap.objs.size + 2) (s.heap.objs.size + 3) s.heap.objs.size (s.heap.objs.size + 1) l m 0 → (∀ e o, s.heap.get? e = some o → h'.get? e = some o) → Q (.ref (s.heap.objs.size + 4)) { s with heap := h' }) : wpAny (model prog w) A (call (.type "zip") [.ref l, .ref m]) Q E s := by
  refine callType_new F.called_zip (by decide) (F.typeCall_zip_2 _ _) (F.newCall_zip_2 _ _) (fun obj => F.args_object_init_3 obj _ _) F.entry_zip_new (zm_new l m xs ys) ⟨a, b, ?_⟩
  generalize hn : s.heap.objs.size = n at q
  have e1 : (zm1 s.heap l).objs.size = n + 1 := by rw [Heap.size_push, hn]
  have e2 : (zm2 s.heap l m).objs.size = n + 2 := by rw [Heap.size_push, e1]
  have e3 : (zm3 s.heap l m).objs.size = n + 3 := by rw [Heap.size_push, e2]
  have e4 : (zm4 s.heap l m).objs.size = n + 4 := by rw [Heap.size_push, e3]
  have up : ∀ {h : Heap} {c : Addr} {o u : Obj}, h.get? c = some o → (h.push u).get? c = some o := fun r => Heap.get?_push_of_some _ r
  have o5 : (zm5 s.heap l m).get? (zm4 s.heap l m).objs.size = some { cls := .type "zip", data := .fields #[.none, .bool false, .bool false, .ref (zm2 s.heap l m).objs.size, .ref (zm3 s.heap l m).objs.size] } := Heap.get?_push_size _ rfl
  have o4 : (zm5 s.heap l m).get? (zm3 s.heap l m).objs.size = some { cls := .type "tuple", data := .seq #[.none, .none] } := up (Heap.get?_push_size _ rfl)
  have o3 : (zm5 s.heap l m).get? (zm2 s.heap l m).objs.size = some { cls := .type "tuple", data := .seq #[.ref s.heap.objs.size, .ref (zm1 s.heap l).objs.size] } := up (up (Heap.get?_push_size _ rfl))
  have o2 : (zm5 s.heap l m).get? (zm1 s.heap l).objs.size = some { cls := .type "tuple_iterator", data := .fields #[.ref m, .int 0 0] } := up (up (up (Heap.get?_push_size _ rfl)))
  have o1 : (zm5 s.heap l m).get? s.heap.objs.size = some { cls := .type "list_iterator", data := .fields #[.ref l, .int 0 0] } := up (up (up (up (Heap.get?_push_size _ rfl))))
  rw [e2, e3, e4] at o5
  rw [e3] at o4
  rw [e1, e2, hn] at o3
  rw [e1] at o2
  rw [hn] at o1
  show _ ∧ _
  rw [e4]
  exact ⟨⟨_, o5, rfl⟩, q _ ⟨o5, o3, ⟨_, _, o4⟩, ⟨_, o1, rfl, rfl⟩, ⟨_, o2, rfl, rfl⟩⟩ fun e o r => up (up (up (up (up r))))⟩
end
/-- a list at a and a tuple at b, walked together -/
def ItzM (K : PySem.W.Frag) (a b : Addr) : It :=
  ⟨fun i H => ∃ (xs ys : List V) (x y : V), SqL K H a xs ∧ SqT K H b ys ∧ xs[i]? = some x ∧ ys[i]? = some y,
    fun i H v H' => ∃ T x y, v = .ref T ∧ H T = none ∧ H' = upd H T (.tup [x, y]) ∧ (∀ xs, SqL K H a xs → xs[i]? = some x) ∧ ∀ ys, SqT K H b ys → ys[i]? = some y,
    fun i H => ∃ xs ys : List V, SqL K H a xs ∧ SqT K H b ys ∧ (xs.length ≤ i ∨ ys.length ≤ i)⟩
theorem turn_zm {P : Program} {w : World} {K : PySem.W.Frag} {elts : List Expr} {kk : Nat} {tpos : Pos} {a b z TI TO c d : Addr} (D : ZipApart z TI TO c d a b) :
    Turn P w K (.Tuple elts kk tpos) (ItzM K a b) [z, TI, TO, c, d] z (fun i h => Zp kL kT h z TI TO c d a b i) where
  mem := List.mem_cons_self ..
  obj := fun i h W e he => by
    have cases5 : e = z ∨ e = TI ∨ e = TO ∨ e = c ∨ e = d := by simpa using he
    obtain ⟨g1, g2, ⟨u, v, g3⟩, g4, g5⟩ := W
    rcases cases5 with rfl | rfl | rfl | rfl | rfl
    · exact ⟨_, g1, fun v q => nomatch q⟩
    · exact ⟨_, g2, fun v q => nomatch q⟩
    · exact ⟨_, g3, fun v q => nomatch q⟩
    · exact kL.it_obj g4
    · exact kT.it_obj g5
  keep := fun i h h' W f => by
    obtain ⟨g1, g2, ⟨u, v, g3⟩, g4, g5⟩ := W
    exact ⟨f z (by simp) _ g1, f TI (by simp) _ g2, ⟨u, v, f TO (by simp) _ g3⟩, kL.it_to g4 (f c (by simp)), kT.it_to g5 (f d (by simp))⟩
  item := by
    rintro X rfl rfl rfl hc i pins s σ H E I hf W ⟨xs, ys, x, y, hqx, hqy, hx, hy⟩
    obtain ⟨its, rv, p, _⟩ := I.list hqx
    obtain ⟨its2, rv2, p2, _⟩ := I.tuple hqy
    obtain ⟨u, hu, ru⟩ := rv.get hx
    obtain ⟨u2, hu2, ru2⟩ := rv2.get hy
    have zl : z < s.heap.objs.size := Heap.lt_size W.z
    have lts : ∀ e ∈ [z, TI, TO, c, d], e < s.heap.objs.size := fun e he => by
      have cases5 : e = z ∨ e = TI ∨ e = TO ∨ e = c ∨ e = d := by simpa using he
      obtain ⟨g1, g2, ⟨u, v, g3⟩, ⟨_, g4, _⟩, ⟨_, g5, _⟩⟩ := W
      rcases cases5 with rfl | rfl | rfl | rfl | rfl
      · exact zl
      · exact Heap.lt_size g2
      · exact Heap.lt_size g3
      · exact Heap.lt_size g4
      · exact Heap.lt_size g5
    refine next_item (M := kL) (N := kT) D W p.isList p2 (x := u) (y := u2) (by simpa using hu) (by simpa using hu2) fun h' z' o' c' d' new size ap => ⟨_, rfl, wpAny_letOwnedTupleGo_zip (s := { s with heap := h' }) z' fun h'' z'' sb => ?_⟩
    have new2 : h''.get? s.heap.objs.size = some { cls := .type "tuple", data := .seq #[u, u2] } := (sb.2 _ (Nat.ne_of_gt zl)).trans new
    have obj : ObjOk X.prog X.w (upd H s.heap.objs.size (.tup [x, y])) h'' s.heap.objs.size (.tup [x, y]) := ⟨by show 2 ≤ sizeLine; decide, [u, u2], .cons ru (.cons ru2 .nil), ⟨_, new2, rfl, _, rfl⟩⟩
    have stays : ∀ e o, e ∉ [z, TI, TO, c, d] → s.heap.get? e = some o → h''.get? e = some o := fun e o n r => (sb.2 e (fun q => n (by simp [q]))).trans (ap e o (fun q => n (by simp [q])) (fun q => n (by simp [q])) (fun q => n (by simp [q])) (fun q => n (by simp [q])) r)
    have I1 : Inv X pins σ (upd H s.heap.objs.size (.tup [x, y])) { s with heap := h'' } := I.turnedNew (t' := s.toks) (ch := [z, TI, TO, c, d]) stays hf (Nat.le_refl _) obj
    refine ⟨.ref s.heap.objs.size, _, I1, rfl, ⟨_, x, y, rfl, I.hok.fresh (Nat.le_refl _), rfl, fun l hl => by rw [I.list_inj hl hqx]; exact hx, fun l hl => by rw [I.tuple_inj hl hqy]; exact hy⟩, ⟨z'', ?_, ⟨u, u2, (sb.2 _ D.TOz).trans o'⟩, kL.it_to c' fun o q => (sb.2 _ D.i1z).trans q, kT.it_to d' fun o q => (sb.2 _ D.i2z).trans q⟩, fun e he => ?_⟩
    · exact (sb.2 _ D.TIz).trans (ap _ _ D.TIz D.TITO D.TIi1 D.TIi2 W.i)
    · rw [upd_ne (Nat.ne_of_lt (lts e he))]
      exact (hf e he).1
  done := by
    rintro X rfl rfl rfl hc i pins s σ H E I hf W ⟨xs, ys, hqx, hqy, hend⟩
    obtain ⟨its, rv, p, _⟩ := I.list hqx
    obtain ⟨its2, rv2, p2, _⟩ := I.tuple hqy
    have l1 := rv.length
    have l2 := rv2.length
    have ends : its.toArray[i]? = none ∨ its2.toArray[i]? = none := hend.imp (fun q => by simp; omega) fun q => by simp; omega
    exact next_end (M := kL) (N := kT) (I.ok.hd hc) D W p.isList p2 ends fun h' ap => ⟨rfl, I.turnedL (t' := s.toks) (ch := [z, TI, TO, c, d]) (fun e o n r => ap e o (fun q => n (by simp [q])) (fun q => n (by simp [q])) (fun q => n (by simp [q])) (fun q => n (by simp [q])) r) hf⟩
  self := fun A i s Q E W q => wpAny_pyIter_zip W.z q
def iZipM (K : PySem.W.Frag) (ta : TA) : TI := fun σ H R => ta σ H fun vs H1 => ∃ a b xs ys, vs = [.ref a, .ref b] ∧ SqL K H1 a xs ∧ SqT K H1 b ys ∧ R (ItzM K a b) H1
theorem pi_zipM {X : Cx} {e e2 : Expr} {ta : TA} {p pos tpos : Pos} {elts : List Expr} {kk : Nat} (hg : Gl X "zip") (hm : X.mg "zip" = none) (ha : PA X [e, e2] ta)
    (h1 : starEach [e, e2] X.env = (false, eval e X.env) :: starEach [e2] X.env := by rfl) (h2 : (backTo pos (starEach [e2] X.env)).any (·.1) = false := by rfl) : PI X (.Tuple elts kk tpos) (.Call (.Name "zip" p) [e, e2] [] pos) (iZipM X.K ta) := by
  constructor
  intro pins s σ H R I h
  refine Call_ (ld_blt I hg hm PyProof.Rows.boot_zip (PyProof.Rows.callWith_type1 (thn (ha.run pos pins s σ H _ I h) ?_) h1 h2))
  rintro us s1 ⟨vs, H1, I1, r1, a, b, xs, ys, rfl, hqx, hqy, q⟩
  obtain ⟨ua, t1, rfl, ra, r1⟩ : ∃ u t, us = u :: t ∧ RelV (.ref a) u ∧ Vals [.ref b] t := by cases r1 with | cons x y => exact ⟨_, _, rfl, x, y⟩
  obtain rfl := Vals.ref1 r1
  cases ra
  obtain ⟨its, rv, p1, _⟩ := I1.list hqx
  obtain ⟨its2, rv2, p2, _⟩ := I1.tuple hqy
  obtain ⟨o2, ho2, _⟩ := id p2
  refine call_zm p1.isList p2 fun h' W keep => wpAny_pyIter_zip W.z ?_
  have I2 : Inv X pins σ H1 { s1 with heap := h' } := I1.kept (t' := s1.toks) keep
  refine ⟨s1.heap.objs.size + 4, [s1.heap.objs.size + 4, s1.heap.objs.size + 2, s1.heap.objs.size + 3, s1.heap.objs.size, s1.heap.objs.size + 1], _, _, H1, rfl, I2, turn_zm (PySem.W.ktu_apart s1.heap.objs.size a b p1.lt (Heap.lt_size ho2)), W, fun e he => ?_, q⟩
  have le : s1.heap.objs.size ≤ e := by
    have cases5 : e = s1.heap.objs.size + 4 ∨ e = s1.heap.objs.size + 2 ∨ e = s1.heap.objs.size + 3 ∨ e = s1.heap.objs.size ∨ e = s1.heap.objs.size + 1 := by simpa using he
    rcases cases5 with r | r | r | r | r <;> rw [r] <;> first | exact Nat.le_add_right _ _ | exact Nat.le_refl _
  exact I1.fpOk le (I1.hok.fresh le)
theorem walk_zm {K : PySem.W.Frag} {a b : Addr} {xs ys : List V} {n : Nat} (h1 : xs.length = n) (h2 : ys.length = n) : Walk (ItzM K a b) n (fun H => SqL K H a xs ∧ SqT K H b ys) (YPair (fun i => xs[i]?) (fun i => ys[i]?)) where
  goes := fun i H hi q => ⟨xs, ys, xs[i], ys[i], q.1, q.2, List.getElem?_eq_getElem (by omega), List.getElem?_eq_getElem (by omega)⟩
  stops := fun H q => ⟨xs, ys, q.1, q.2, .inl (by omega)⟩
  yields := fun i H v H' _ q y => let ⟨T, x, z, e1, e2, e3, e4, e5⟩ := y; ⟨T, x, z, e1, e2, e3, e4 xs q.1, e5 ys q.2⟩
theorem walk_zt {K : PySem.W.Frag} {a b : Addr} {xs ys : List V} {n : Nat} (h1 : xs.length = n) (h2 : ys.length = n) : Walk (RZ.ItzT K a b) n (fun H => SqT K H a xs ∧ SqT K H b ys) (YPair (fun i => xs[i]?) (fun i => ys[i]?)) where
  goes := fun i H hi q => ⟨xs, ys, xs[i], ys[i], q.1, q.2, List.getElem?_eq_getElem (by omega), List.getElem?_eq_getElem (by omega)⟩
  stops := fun H q => ⟨xs, ys, q.1, q.2, .inl (by omega)⟩
  yields := fun i H v H' _ q y => let ⟨T, x, z, e1, e2, e3, e4, e5⟩ := y; ⟨T, x, z, e1, e2, e3, e4 xs q.1, e5 ys q.2⟩
end CaZ
set_option Elab.async false
set_option linter.all false
set_option maxRecDepth 100000
set_option maxHeartbeats 4000000
namespace Ca
open PySem L2
/-! ### fractions -/
def frD (f : Int × Int) : PyData := .tuple [.int f.1, .int f.2]
def frsD (fs : List (Int × Int)) : PyData := .tuple (fs.map frD)
def isFracD : PyData → Bool
  | .tuple [.int a, .int b] => decide (0 < b) && decide (Nat.gcd a.natAbs b.natAbs = 1)
  | _ => false
def isAnsD (d : PyData) (m : Nat) : Bool := isTupN d m && (partsOf d).all isFracD
/-- p / q is a / b, in smaller terms -/
structure Red (a b p q : Int) : Prop where
  pos : 0 < q
  ex : ∃ g : Int, 0 < g ∧ p * g = a ∧ q * g = b
  cop : Nat.gcd p.natAbs q.natAbs = 1
theorem Red.le {a b p q : Int} (h : Red a b p q) : p.natAbs ≤ a.natAbs ∧ q.natAbs ≤ b.natAbs := by
  obtain ⟨g, hg, e1, e2⟩ := h.ex
  have : 1 ≤ g.natAbs := by omega
  constructor
  · rw [← e1, Int.natAbs_mul]
    exact Nat.le_mul_of_pos_right _ this
  · rw [← e2, Int.natAbs_mul]
    exact Nat.le_mul_of_pos_right _ this
theorem Red.cross {a b p q : Int} (h : Red a b p q) : p * b = a * q := by
  obtain ⟨g, hg, e1, e2⟩ := h.ex
  rw [← e1, ← e2, Int.mul_comm q g, ← Int.mul_assoc, Int.mul_right_comm]
theorem red_of {a b : Int} (hb : 0 < b) : Red a b (a / ((Nat.gcd a.natAbs b.natAbs : Nat) : Int)) (b / ((Nat.gcd a.natAbs b.natAbs : Nat) : Int)) := by
  have g0 : 0 < Nat.gcd a.natAbs b.natAbs := Nat.gcd_pos_of_pos_right _ (by omega)
  have d1 : ((Nat.gcd a.natAbs b.natAbs : Nat) : Int) ∣ a := Int.ofNat_dvd_left.mpr (Nat.gcd_dvd_left _ _)
  have d2 : ((Nat.gcd a.natAbs b.natAbs : Nat) : Int) ∣ b := Int.ofNat_dvd_left.mpr (Nat.gcd_dvd_right _ _)
  have gp : (0 : Int) < ((Nat.gcd a.natAbs b.natAbs : Nat) : Int) := by omega
  refine ⟨Int.ediv_pos_of_pos_of_dvd hb (by omega) d2, ⟨_, gp, Int.ediv_mul_cancel d1, Int.ediv_mul_cancel d2⟩, ?_⟩
  rw [Int.natAbs_ediv_of_dvd d1, Int.natAbs_ediv_of_dvd d2, Int.natAbs_natCast]
  rw [Nat.gcd_div (Nat.gcd_dvd_left _ _) (Nat.gcd_dvd_right _ _)]
  exact Nat.div_self g0
theorem fr_at {K : PySem.W.Frag} {H : Hp} {v : V} {f : Int × Int} (h : Dq K H v (frD f)) : ∃ a, v = .ref a ∧ SqT K H a [.int f.1, .int f.2] := by
  obtain ⟨a, xs, rfl, h1, h2, _⟩ := tup_len h
  cases h2 with
  | cons e1 r1 =>
  cases r1 with
  | cons e2 r2 =>
  cases r2
  cases e1
  cases e2
  exact ⟨a, rfl, h1⟩
theorem fr_of {K : PySem.W.Frag} {H : Hp} {a : Addr} {p q : Int} (h : H a = some (.tup [.int p, .int q])) : Dq K H (.ref a) (frD (p, q)) := .tup (SqT.of h) (.cons (.int _) (.cons (.int _) .nil))
def spFraction (K : PySem.W.Frag) : Sp := fun vs H Q _ => ∃ a b : Int, vs = [.int a, .int b] ∧ 0 < b ∧ b.natAbs < 2 ^ 8000 ∧ ∀ H' y p q, Same H H' → Dq K H' y (frD (p, q)) → Red a b p q → Q y H'
/-- a fraction of not too many digits -/
structure FrOk (n : Nat) (f : Int × Int) : Prop where
  pos : 0 < f.2
  t : f.1.natAbs < 2 ^ n
  b : f.2.natAbs < 2 ^ n
def spPlus (K : PySem.W.Frag) : Sp := fun vs H Q _ => ∃ x y f g, vs = [x, y] ∧ Dq K H x (frD f) ∧ Dq K H y (frD g) ∧ FrOk 2000 f ∧ FrOk 2000 g ∧ ∀ H' z p q, Same H H' → Dq K H' z (frD (p, q)) → Red (f.1 * g.2 + g.1 * f.2) (f.2 * g.2) p q → Q z H'
def spTimes (K : PySem.W.Frag) : Sp := fun vs H Q _ => ∃ x y f g, vs = [x, y] ∧ Dq K H x (frD f) ∧ Dq K H y (frD g) ∧ FrOk 2000 f ∧ FrOk 2000 g ∧ ∀ H' z p q, Same H H' → Dq K H' z (frD (p, q)) → Red (f.1 * g.1) (f.2 * g.2) p q → Q z H'
def spOpp (K : PySem.W.Frag) : Sp := fun vs H Q _ => ∃ x f, vs = [x] ∧ Dq K H x (frD f) ∧ ∀ H' z, Same H H' → Dq K H' z (frD (-f.1, f.2)) → Q z H'
def spMinus (K : PySem.W.Frag) : Sp := fun vs H Q _ => ∃ x y f g, vs = [x, y] ∧ Dq K H x (frD f) ∧ Dq K H y (frD g) ∧ FrOk 2000 f ∧ FrOk 2000 g ∧ ∀ H' z p q, Same H H' → Dq K H' z (frD (p, q)) → Red (f.1 * g.2 + -g.1 * f.2) (f.2 * g.2) p q → Q z H'
theorem FrOk.wide {f g : Int × Int} (hf : FrOk 2000 f) (hg : FrOk 2000 g) : 0 < f.2 * g.2 ∧ (f.2 * g.2).natAbs < 2 ^ 8000 := by
  refine ⟨Int.mul_pos hf.pos hg.pos, Nat.lt_of_lt_of_le (wide_lt hf.b hg.b) (Nat.pow_le_pow_right (by decide) (by decide))⟩
section
variable {P : Program} {w : World} {K : PySem.W.Frag} {mg : Str → Option Value} {base : Heap}
theorem scFraction : FnScope ["top", "bottom", "shared"] ["top", "bottom"] (defScope sFraction) := ⟨rfl, rfl, rfl, by decide +kernel, rfl, by decide +kernel, by decide +kernel⟩
theorem ok_fraction {f : Addr} {fd : FuncData} (F : FnT K "fraction" sFraction f fd) (mgcd : mg "gcd" = some (.builtin "math.gcd")) : FnOk P w K mg base CX0 1 f fd ["top", "bottom"] (spFraction K) := by
  refine F.ok scFraction (fun vs H Q E h => ?_) (fun cdv A outer s H vs Q E hr h => ?_)
  · obtain ⟨a, b, rfl, _⟩ := h
    rfl
  · obtain ⟨a, b, rfl, hb, hs, q⟩ := h
    have nd := scFraction.nd
    refine ⟨_, PSs.nox (pss_cons (ps_set (i := 2) nd rfl (.inl rfl) (pe_callBfun cr_gcd rfl mgcd (pa_cons (pv 0) (pa_cons (pv 1) pa_nil))))
      (pss_one (ps_ret (pe_tup (pa_cons (pe_op op_fdivW (pv 0) (pv 2)) (pa_cons (pe_op op_fdivW (pv 1) (pv 2)) pa_nil)))))), ?_⟩
    have g0 : 0 < Nat.gcd a.natAbs b.natAbs := Nat.gcd_pos_of_pos_right _ (by omega)
    have g1 : Nat.gcd a.natAbs b.natAbs ≤ b.natAbs := Nat.gcd_le_right _ (by omega)
    have cd : ∀ i : Int, CDivW i ((Nat.gcd a.natAbs b.natAbs : Nat) : Int) := fun i => wide_div (b := 8000) (by omega) (by rw [Int.natAbs_natCast]; exact Nat.lt_of_le_of_lt g1 hs) (by decide) (by decide)
    refine ⟨_, rfl, _, rfl, a, b, rfl, _, rfl, _, rfl, _, _, rfl, rfl, cd _, _, rfl, _, rfl, _, _, rfl, rfl, cd _, by show 2 ≤ sizeLine; decide, fun p hp => ?_⟩
    exact q _ _ _ _ (Same.new hp) (fr_of upd_same) (red_of hb)
theorem scPlus : FnScope ["one", "other"] ["one", "other"] (defScope sPlus) := ⟨rfl, rfl, rfl, by decide +kernel, rfl, by decide +kernel, by decide +kernel⟩
theorem ok_plus {f fF : Addr} {fd fdF : FuncData} (F : FnT K "plus" sPlus f fd) (gF : mg "fraction" = some (.ref fF)) (GF : FnOk P w K mg base CX0 1 fF fdF ["top", "bottom"] (spFraction K)) (kF : PySem.W.keepIn K (.ref fF) = true) (bF : Binds K fdF ["top", "bottom"] []) :
    FnOk P w K mg base CX0 2 f fd ["one", "other"] (spPlus K) := by
  refine F.ok scPlus (fun vs H Q E h => ?_) (fun cdv A outer s H vs Q E hr h => ?_)
  · obtain ⟨x, y, f, g, rfl, _⟩ := h
    rfl
  · obtain ⟨x, y, f, g, rfl, dx, dy, hf, hg, q⟩ := h
    obtain ⟨a, rfl, ha⟩ := fr_at dx
    obtain ⟨b, rfl, hb⟩ := fr_at dy
    refine ⟨_, PSs.nox (pss_one (ps_ret (pe_call GF hr rfl gF kF bF .nil pass0 (pa_cons (pe_op op_add (pe_op op_mulW (pe_ix ix_tup (pv 0) pe_int (fun _ _ => rfl)) (pe_ix ix_tup (pv 1) pe_int (fun _ _ => rfl))) (pe_op op_mulW (pe_ix ix_tup (pv 1) pe_int (fun _ _ => rfl)) (pe_ix ix_tup (pv 0) pe_int (fun _ _ => rfl))))
      (pa_cons (pe_op op_mulW (pe_ix ix_tup (pv 0) pe_int (fun _ _ => rfl)) (pe_ix ix_tup (pv 1) pe_int (fun _ _ => rfl))) pa_nil))))), ?_⟩
    have m : ∀ {i j : Int}, i.natAbs < 2 ^ 2000 → j.natAbs < 2 ^ 2000 → CMulW i j := fun h1 h2 => wide_mul h1 h2 (by decide) (by decide) (by decide)
    obtain ⟨w1, w2⟩ := hf.wide hg
    refine ⟨_, rfl, a, _, 0, _, rfl, rfl, ha, atI_nat (j := 0) rfl, _, rfl, b, _, 1, _, rfl, rfl, hb, atI_nat (j := 1) rfl, _, _, rfl, rfl, m hf.t hg.b, ?_⟩
    refine ⟨_, rfl, b, _, 0, _, rfl, rfl, hb, atI_nat (j := 0) rfl, _, rfl, a, _, 1, _, rfl, rfl, ha, atI_nat (j := 1) rfl, _, _, rfl, rfl, m hg.t hf.b, _, _, rfl, rfl, ?_⟩
    refine ⟨_, rfl, a, _, 1, _, rfl, rfl, ha, atI_nat (j := 1) rfl, _, rfl, b, _, 1, _, rfl, rfl, hb, atI_nat (j := 1) rfl, _, _, rfl, rfl, m hf.b hg.b, _, _, rfl, w1, w2, q⟩
theorem scTimes : FnScope ["one", "other"] ["one", "other"] (defScope sTimes) := ⟨rfl, rfl, rfl, by decide +kernel, rfl, by decide +kernel, by decide +kernel⟩
theorem ok_times {f fF : Addr} {fd fdF : FuncData} (F : FnT K "times" sTimes f fd) (gF : mg "fraction" = some (.ref fF)) (GF : FnOk P w K mg base CX0 1 fF fdF ["top", "bottom"] (spFraction K)) (kF : PySem.W.keepIn K (.ref fF) = true) (bF : Binds K fdF ["top", "bottom"] []) :
    FnOk P w K mg base CX0 2 f fd ["one", "other"] (spTimes K) := by
  refine F.ok scTimes (fun vs H Q E h => ?_) (fun cdv A outer s H vs Q E hr h => ?_)
  · obtain ⟨x, y, f, g, rfl, _⟩ := h
    rfl
  · obtain ⟨x, y, f, g, rfl, dx, dy, hf, hg, q⟩ := h
    obtain ⟨a, rfl, ha⟩ := fr_at dx
    obtain ⟨b, rfl, hb⟩ := fr_at dy
    refine ⟨_, PSs.nox (pss_one (ps_ret (pe_call GF hr rfl gF kF bF .nil pass0 (pa_cons (pe_op op_mulW (pe_ix ix_tup (pv 0) pe_int (fun _ _ => rfl)) (pe_ix ix_tup (pv 1) pe_int (fun _ _ => rfl)))
      (pa_cons (pe_op op_mulW (pe_ix ix_tup (pv 0) pe_int (fun _ _ => rfl)) (pe_ix ix_tup (pv 1) pe_int (fun _ _ => rfl))) pa_nil))))), ?_⟩
    have m : ∀ {i j : Int}, i.natAbs < 2 ^ 2000 → j.natAbs < 2 ^ 2000 → CMulW i j := fun h1 h2 => wide_mul h1 h2 (by decide) (by decide) (by decide)
    obtain ⟨w1, w2⟩ := hf.wide hg
    refine ⟨_, rfl, a, _, 0, _, rfl, rfl, ha, atI_nat (j := 0) rfl, _, rfl, b, _, 0, _, rfl, rfl, hb, atI_nat (j := 0) rfl, _, _, rfl, rfl, m hf.t hg.t, ?_⟩
    refine ⟨_, rfl, a, _, 1, _, rfl, rfl, ha, atI_nat (j := 1) rfl, _, rfl, b, _, 1, _, rfl, rfl, hb, atI_nat (j := 1) rfl, _, _, rfl, rfl, m hf.b hg.b, _, _, rfl, w1, w2, q⟩
theorem scOpp : FnScope ["one"] ["one"] (defScope sOpposite) := ⟨rfl, rfl, rfl, by decide +kernel, rfl, by decide +kernel, by decide +kernel⟩
theorem ok_opp {f : Addr} {fd : FuncData} (F : FnT K "opposite" sOpposite f fd) : FnOk P w K mg base CX0 1 f fd ["one"] (spOpp K) := by
  refine F.ok scOpp (fun vs H Q E h => ?_) (fun cdv A outer s H vs Q E hr h => ?_)
  · obtain ⟨x, f, rfl, _⟩ := h
    rfl
  · obtain ⟨x, f, rfl, dx, q⟩ := h
    obtain ⟨a, rfl, ha⟩ := fr_at dx
    refine ⟨_, PSs.nox (pss_one (ps_ret (pe_tup (pa_cons (pe_un un_neg (pe_ix ix_tup (pv 0) pe_int (fun _ _ => rfl))) (pa_cons (pe_ix ix_tup (pv 0) pe_int (fun _ _ => rfl)) pa_nil))))), ?_⟩
    exact ⟨_, rfl, a, _, 0, _, rfl, rfl, ha, atI_nat (j := 0) rfl, _, rfl, _, rfl, a, _, 1, _, rfl, rfl, ha, atI_nat (j := 1) rfl, by show 2 ≤ sizeLine; decide, fun p hp => q _ _ (Same.new hp) (fr_of upd_same)⟩
theorem scMinus : FnScope ["one", "other"] ["one", "other"] (defScope sMinus) := ⟨rfl, rfl, rfl, by decide +kernel, rfl, by decide +kernel, by decide +kernel⟩
theorem ok_minus {f fP fO : Addr} {fd fdP fdO : FuncData} (F : FnT K "minus" sMinus f fd)
    (gP : mg "plus" = some (.ref fP)) (GP : FnOk P w K mg base CX0 2 fP fdP ["one", "other"] (spPlus K)) (kP : PySem.W.keepIn K (.ref fP) = true) (bP : Binds K fdP ["one", "other"] [])
    (gO : mg "opposite" = some (.ref fO)) (GO : FnOk P w K mg base CX0 1 fO fdO ["one"] (spOpp K)) (kO : PySem.W.keepIn K (.ref fO) = true) (bO : Binds K fdO ["one"] []) :
    FnOk P w K mg base CX0 3 f fd ["one", "other"] (spMinus K) := by
  refine F.ok scMinus (fun vs H Q E h => ?_) (fun cdv A outer s H vs Q E hr h => ?_)
  · obtain ⟨x, y, f, g, rfl, _⟩ := h
    rfl
  · obtain ⟨x, y, f, g, rfl, dx, dy, hf, hg, q⟩ := h
    have hr1 : Room 1 _ := hr.mono (by decide)
    refine ⟨_, PSs.nox (pss_one (ps_ret (pe_call GP hr rfl gP kP bP .nil pass0 (pa_cons (pv 0) (pa_cons (pe_call GO hr1 rfl gO kO bO .nil pass0 (pa_cons (pv 1) pa_nil)) pa_nil))))), ?_⟩
    exact ⟨_, rfl, _, rfl, y, g, rfl, dy, fun H1 z s1 dz => ⟨x, z, f, (-g.1, g.2), rfl, dx.same s1, dz, hf, ⟨hg.pos, by rw [Int.natAbs_neg]; exact hg.t, hg.b⟩, fun H2 u p r s2 du hR => q H2 u p r (s1.trans s2) du hR⟩⟩
end
/-! ### sums -/
/-- the sum of numbers times fractions, in parts of W -/
def sumW (W : Int) : List Int → List (Int × Int) → Int
  | n :: ns, f :: fs => n * (f.1 * (W / f.2)) + sumW W ns fs
  | _, _ => 0
theorem sumW_take (W : Int) : ∀ (ns : List Int) (fs : List (Int × Int)) (k : Nat) (h1 : k < ns.length) (h2 : k < fs.length), sumW W (ns.take (k + 1)) (fs.take (k + 1)) = sumW W (ns.take k) (fs.take k) + ns[k] * (fs[k].1 * (W / fs[k].2))
  | n :: ns, f :: fs, 0, _, _ => by simp [sumW]
  | n :: ns, f :: fs, k + 1, h1, h2 => by
    have ih := sumW_take W ns fs k (by simpa using h1) (by simpa using h2)
    simp only [List.take_succ_cons, sumW, List.getElem_cons_succ] at ih ⊢
    rw [ih, Int.add_assoc]
/-- a fraction that tells such a sum -/
def Tells (ns : List Int) (fs : List (Int × Int)) (t : Int × Int) : Prop := ∀ W : Int, 0 < W → (∀ f ∈ fs, f.2 ∣ W) → t.1 * W = t.2 * sumW W ns fs
theorem tells_next {ns : List Int} {fs : List (Int × Int)} {k : Nat} {t g r : Int × Int} (h1 : k < ns.length) (h2 : k < fs.length) (hf : 0 < fs[k].2) (hT : ∀ W : Int, 0 < W → (∀ f ∈ fs, f.2 ∣ W) → t.1 * W = t.2 * sumW W (ns.take k) (fs.take k))
    (hg : Red (ns[k] * fs[k].1) (1 * fs[k].2) g.1 g.2) (hr : Red (t.1 * g.2 + g.1 * t.2) (t.2 * g.2) r.1 r.2) : ∀ W : Int, 0 < W → (∀ f ∈ fs, f.2 ∣ W) → r.1 * W = r.2 * sumW W (ns.take (k + 1)) (fs.take (k + 1)) := by
  intro W hW hd
  have h0 := hT W hW hd
  obtain ⟨w, hw⟩ := hd _ (List.getElem_mem h2)
  have ew : W / fs[k].2 = w := by rw [hw]; exact Int.mul_ediv_cancel_left _ (by omega)
  rw [sumW_take W ns fs k h1 h2, ew]
  generalize sumW W (ns.take k) (fs.take k) = S at h0 ⊢
  have hc := hg.cross
  obtain ⟨G, hG, e1, e2⟩ := hr.ex
  have gp := hg.pos
  rw [Int.one_mul] at hc
  -- r1 W G = (t1 g2 + g1 t2) W = t2 g2 S + t2 (n a) g2 w
  have k1 : g.1 * W = ns[k] * fs[k].1 * g.2 * w := by
    rw [hw, ← Int.mul_assoc, hc]
  have k2 : r.1 * W * G = r.2 * (S + ns[k] * (fs[k].1 * w)) * G := by
    have l : r.1 * W * G = (t.1 * g.2 + g.1 * t.2) * W := by rw [← e1]; exact Int.mul_right_comm _ _ _
    have m : r.2 * (S + ns[k] * (fs[k].1 * w)) * G = t.2 * g.2 * (S + ns[k] * (fs[k].1 * w)) := by rw [← e2]; exact Int.mul_right_comm _ _ _
    rw [l, m, Int.add_mul, Int.mul_add]
    have p1 : t.1 * g.2 * W = t.2 * g.2 * S := by
      rw [Int.mul_right_comm, h0, Int.mul_right_comm]
    have p2 : g.1 * t.2 * W = t.2 * g.2 * (ns[k] * (fs[k].1 * w)) := by
      rw [Int.mul_right_comm, k1]
      simp only [Int.mul_comm, Int.mul_left_comm, Int.mul_assoc]
    rw [p1, p2]
  exact Int.eq_of_mul_eq_mul_right (by omega) k2
end Ca
set_option Elab.async false
set_option linter.all false
set_option maxRecDepth 100000
set_option maxHeartbeats 4000000
namespace Ca
open PySem L2
theorem pow_add_lt {x y a : Nat} (hx : x < 2 ^ a) (hy : y < 2 ^ a) : x + y < 2 ^ (a + 1) := by
  rw [Nat.pow_succ]
  omega
theorem lt_pow {x a b : Nat} (hx : x < 2 ^ a) (h : a ≤ b) : x < 2 ^ b := Nat.lt_of_lt_of_le hx (Nat.pow_le_pow_right (by decide) h)
theorem frs_get {K : PySem.W.Frag} {H : Hp} {xs : List V} {fs : List (Int × Int)} {k : Nat} {v : V} (h : DqAll K H xs (fs.map frD)) (hk : k < fs.length) (hv : xs[k]? = some v) : Dq K H v (frD fs[k]) := by
  obtain ⟨d, hd, dq⟩ := h.get hv
  rw [List.getElem?_map, List.getElem?_eq_getElem hk] at hd
  cases hd
  exact dq
def spDot (K : PySem.W.Frag) : Sp := fun vs H Q _ => ∃ a y ns fs, vs = [.ref a, y] ∧ SqL K H a (ns.map V.int) ∧ Dq K H y (frsD fs) ∧ ns.length = fs.length ∧ fs.length ≤ 3 ∧ (∀ n ∈ ns, n.natAbs < 2 ^ 20) ∧ (∀ f ∈ fs, FrOk 300 f) ∧
  ∀ H' z t, Same H H' → Dq K H' z (frD t) → Tells ns fs t → FrOk 1000 t → Q z H'
def spWei (K : PySem.W.Frag) : Sp := fun vs H Q _ => ∃ a y us ns fs, vs = [.ref a, y] ∧ SqL K H a us ∧ DqAll K H us ((ns : List Int).map fun n => frD (n, 1)) ∧ Dq K H y (frsD fs) ∧ ns.length = fs.length ∧ fs.length ≤ 3 ∧ (∀ n ∈ ns, n.natAbs < 2 ^ 20) ∧ (∀ f ∈ fs, FrOk 300 f) ∧
  ∀ H' z t, Same H H' → Dq K H' z (frD t) → Tells ns fs t → FrOk 1000 t → Q z H'
theorem noL_fr1 (n : Int) : noL (frD (n, 1)) = true := rfl
section
variable {P : Program} {w : World} {K : PySem.W.Frag} {mg : Str → Option Value} {base : Heap}
abbrev NWei : List Str := ["weights", "fractions", "total", "weight", "part"]
theorem scWei : FnScope NWei ["weights", "fractions"] (defScope sWeighed) := ⟨rfl, rfl, rfl, by decide +kernel, rfl, by decide +kernel, by decide +kernel⟩
theorem ok_weighed {f fP fT zA : Addr} {fd fdP fdT : FuncData} (F : FnT K "weighed" sWeighed f fd) (mzip : mg "zip" = none) (gZ : mg "ZERO" = some (.ref zA)) (hZ : ∀ H : Hp, SqT K H zA [.int 0, .int 1])
    (gP : mg "plus" = some (.ref fP)) (GP : FnOk P w K mg base CX0 2 fP fdP ["one", "other"] (spPlus K)) (kP : PySem.W.keepIn K (.ref fP) = true) (bP : Binds K fdP ["one", "other"] [])
    (gT : mg "times" = some (.ref fT)) (GT : FnOk P w K mg base CX0 2 fT fdT ["one", "other"] (spTimes K)) (kT : PySem.W.keepIn K (.ref fT) = true) (bT : Binds K fdT ["one", "other"] []) :
    FnOk P w K mg base CX0 3 f fd ["weights", "fractions"] (spWei K) := by
  refine F.ok scWei (fun vs H Q E h => ?_) (fun cdv A outer s H vs Q E hr h => ?_)
  · obtain ⟨a, y, us, ns, fs, rfl, _⟩ := h
    rfl
  · obtain ⟨a, y, us, ns, fs, rfl, ha, dU, dy, hl, h3, hn, hf, q⟩ := h
    have nd := scWei.nd
    refine ⟨_, PSs.nox (pss_cons (ps_set (i := 2) nd rfl (.inl rfl) (pe_glob (v := .ref zA) rfl gZ rfl))
      (pss_cons (ps_for PassesOwn.never rfl (CaZ.pi_zipM (by rfl) mzip (pa_cons (pv 0) (pa_cons (pv 1) pa_nil))) (pg_tup rfl (pgs_cons (pg_name (i := 3) nd rfl (.inl rfl)) (pgs_cons (pg_name (i := 4) nd rfl (.inl rfl)) pgs_nil)))
        (pss_one (ps_set (i := 2) nd rfl (.inl rfl) (pe_call GP hr rfl gP kP bP .nil pass0 (pa_cons (pv 2) (pa_cons (pe_call GT hr rfl gT kT bT .nil pass0 (pa_cons (pv 3) (pa_cons (pv 4) pa_nil))) pa_nil))))))
      (pss_one (ps_ret (pv 2))))), ?_⟩
    obtain ⟨b, ys, rfl, hb1, hb2, hbl⟩ := tup_len dy
    rw [List.length_map] at hbl
    refine ⟨_, rfl, _, rfl, a, b, _, _, rfl, ha, hb1, ?_⟩
    refine for_it (CaZ.walk_zm (K := K) (a := a) (b := b) (xs := us) (ys := ys) (n := fs.length) (by rw [dU.len, List.length_map, hl]) hbl)
      (fun k σ' H' => k ≤ fs.length ∧ Same H H' ∧ ∃ v t o3 o4, σ' = [some (.ref a), some (.ref b), some v, o3, o4] ∧ Dq K H' v (frD t) ∧ 0 < t.2 ∧ t.1.natAbs < 2 ^ (330 * k + 10) ∧ t.2.natAbs < 2 ^ (300 * k + 1) ∧
        ∀ W : Int, 0 < W → (∀ f ∈ fs, f.2 ∣ W) → t.1 * W = t.2 * sumW W (ns.take k) (fs.take k))
      ⟨Nat.zero_le _, fun _ _ e => e, _, (0, 1), none, none, rfl, .tup (hZ _) (.cons (.int _) (.cons (.int _) .nil)), by decide, by decide, by decide, fun W _ _ => by simp [sumW]⟩ (fun k σ' H' hk p => ⟨p.2.1.seq ha, same_sqt p.2.1 hb1⟩) ?_ (fun σ' H' p => ?_)
    · rintro k x _ H1 _ hk ⟨_, s1, v, t, o3, o4, rfl, dv, tp, t1, t2, tW⟩ ⟨T, x1, y1, rfl, hT, rfl, hx, hy⟩
      have hkn : k < ns.length := by omega
      have s2 := Same.new (o := .tup [x1, y1]) hT
      have s12 := s1.trans s2
      have dx1 : Dq K (upd H1 T (.tup [x1, y1])) x1 (frD (ns[k], 1)) := by
        obtain ⟨d, hd, dq⟩ := (dU.same s12).get hx
        rw [List.getElem?_map, List.getElem?_eq_getElem hkn] at hd
        cases hd
        exact dq
      have dy1 := frs_get (hb2.same s12) hk hy
      have fk := hf _ (List.getElem_mem hk)
      have nk := hn _ (List.getElem_mem hkn)
      refine ⟨T, _, rfl, SqT.of upd_same, rfl, _, _, rfl, _, _, rfl, rfl, ?_⟩
      refine ⟨_, rfl, _, rfl, _, rfl, x1, y1, (ns[k], 1), fs[k], rfl, dx1, dy1, ⟨(by show (0 : Int) < 1; decide), lt_pow nk (by decide), (by show (1 : Int).natAbs < 2 ^ 2000; decide +kernel)⟩, ⟨fk.pos, lt_pow fk.t (by decide), lt_pow fk.b (by decide)⟩, fun H4 z g1 g2 s4 dz hg => ?_⟩
      have k2 : k ≤ 2 := by omega
      have s34 := s2.trans s4
      obtain ⟨l1, l2⟩ := hg.le
      have z1 : g1.natAbs < 2 ^ 320 := Nat.lt_of_le_of_lt l1 (wide_lt nk fk.t)
      have z2 : g2.natAbs < 2 ^ 300 := Nat.lt_of_le_of_lt l2 (by show (1 * fs[k].2).natAbs < 2 ^ 300; rw [Int.one_mul]; exact fk.b)
      refine ⟨v, z, t, (g1, g2), rfl, dv.same s34, dz, ⟨tp, lt_pow t1 (by omega), lt_pow t2 (by omega)⟩, ⟨hg.pos, lt_pow z1 (by decide), lt_pow z2 (by decide)⟩, fun H5 u r1 r2 s5 du hrd => ?_⟩
      obtain ⟨m1, m2⟩ := hrd.le
      refine ⟨hk, s1.trans (s34.trans s5), u, (r1, r2), _, _, rfl, du, hrd.pos, ?_, ?_, tells_next (t := t) (g := (g1, g2)) (r := (r1, r2)) hkn hk fk.pos tW hg hrd⟩
      · have a1 : (t.1 * g2).natAbs < 2 ^ (330 * k + 330) := lt_pow (wide_lt t1 z2) (by omega)
        have a2 : (g1 * t.2).natAbs < 2 ^ (330 * k + 330) := lt_pow (wide_lt z1 t2) (by omega)
        have a3 := pow_add_lt a1 a2
        exact Nat.lt_of_le_of_lt m1 (Nat.lt_of_le_of_lt (Int.natAbs_add_le _ _) (lt_pow a3 (by omega)))
      · exact Nat.lt_of_le_of_lt m2 (lt_pow (wide_lt t2 z2) (by omega))
    · obtain ⟨_, s1, v, t, o3, o4, rfl, dv, tp, t1, t2, tW⟩ := p
      refine ⟨_, rfl, q H' v t s1 dv (fun W h0 hd => ?_) ⟨tp, lt_pow t1 (by omega), lt_pow t2 (by omega)⟩⟩
      have := tW W h0 hd
      rwa [← hl, List.take_length, hl, List.take_length] at this
theorem scDot : FnScope ["numbers", "fractions", "number"] ["numbers", "fractions"] (defScope sDot) := ⟨rfl, rfl, rfl, by decide +kernel, rfl, by decide +kernel, by decide +kernel⟩
theorem ok_dot {f fW : Addr} {fd fdW : FuncData} (F : FnT K "dot" sDot f fd)
    (gW : mg "weighed" = some (.ref fW)) (GW : FnOk P w K mg base CX0 3 fW fdW ["weights", "fractions"] (spWei K)) (kW : PySem.W.keepIn K (.ref fW) = true) (bW : Binds K fdW ["weights", "fractions"] []) :
    FnOk P w K mg base CX0 4 f fd ["numbers", "fractions"] (spDot K) := by
  refine F.ok scDot (fun vs H Q E h => ?_) (fun cdv A outer s H vs Q E hr h => ?_)
  · obtain ⟨a, y, ns, fs, rfl, _⟩ := h
    rfl
  · obtain ⟨a, y, ns, fs, rfl, ha, dy, hl, h3, hn, hf, q⟩ := h
    have nd := scDot.nd
    refine ⟨_, PSs.nox (pss_one (ps_ret (pe_call GW hr rfl gW kW bW .nil pass0 (pa_cons (pe_lc (own := [("number", 2)]) (g := gName 2) (tt := tYes) rfl nd (pi_list (pv 0))
        (blkOk_by (own := [("number", 2)]) (N := ["numbers", "fractions", "number"]) (sc := defScope sDot) (by decide +kernel)) (fun _ _ _ _ _ => pg_name (i := 2) nd rfl (Or.inl rfl)) (fun _ _ _ _ _ => pts_nil)
        (fun _ _ _ _ _ => pe_tup (pa_cons (pv 2) (pa_cons pe_int pa_nil)))) (pa_cons (pv 1) pa_nil))))), ?_⟩
    refine ⟨_, rfl, a, rfl, ⟨_, ha⟩, fun D hD => ?_⟩
    refine lc_it (walk_list (K := K) (a := a) (xs := ns.map V.int)) (fun j H' => Same H H' ∧ ∃ us, H' D = some (.lst us) ∧ us.length = j ∧ DqAll K H' us ((ns.take j).map fun n => frD (n, 1))) ⟨Same.new hD, [], upd_same, rfl, .nil⟩ (fun j H' hj p => p.1.seq ha) ?_ ?_
    · rintro j z _ H1 hj ⟨s1, us, bD, lu, du⟩ ⟨rfl, hz⟩
      have hj2 : j < ns.length := by rw [← List.length_map (as := ns) (f := V.int)]; exact hj
      obtain rfl : z = .int ns[j] := by
        replace hz : (ns.map V.int)[j]? = some z := hz
        rw [List.getElem?_map, List.getElem?_eq_getElem hj2] at hz
        exact (Option.some.inj hz).symm
      refine ⟨rfl, rdYes ⟨_, rfl, by show 2 ≤ sizeLine; decide, fun t ht => ?_⟩⟩
      have s2 := Same.new (o := .tup [.int ns[j], .int 1]) ht
      have kD : ∀ zs : List V, Kept D (upd H1 t (.tup [.int ns[j], .int 1])) (upd (upd H1 t (.tup [.int ns[j], .int 1])) D (.lst zs)) := fun zs b o n e => by rw [upd_ne n]; exact e
      refine ⟨_, s2 _ _ bD, by rw [lu]; exact Nat.lt_trans (show j < 4 by omega) (by decide), fun b o e => ?_, us ++ [.ref t], upd_same, by rw [List.length_append, lu]; rfl, ?_⟩
      · rw [upd_ne (ne_of_none e hD)]
        exact s2 _ _ (s1 _ _ e)
      · rw [List.take_succ, List.getElem?_eq_getElem hj2, List.map_append]
        exact (DqAll.but (s2 _ _ bD) (kD _) (noLs_map (fun n => frD (n, 1)) (fun n => noL_fr1 n) _) (du.same s2)).app (.cons (Dq.but (s2 _ _ bD) (kD _) (noL_fr1 _) (fr_of upd_same)) .nil)
    · rintro H1 ⟨s1, us, bD, lu, du⟩
      rw [List.length_map, List.take_length] at du
      exact ⟨_, rfl, D, y, us, ns, fs, rfl, SqL.of bD, du, dy.same s1, hl, h3, hn, hf, fun H' z t s2 dz hT ft => q H' z t (s1.trans s2) dz hT ft⟩
theorem scIsFraction : FnScope ["value", "top", "bottom"] ["value"] (defScope sIsFraction) := ⟨rfl, rfl, rfl, by decide +kernel, rfl, by decide +kernel, by decide +kernel⟩
theorem ok_isFraction {f fT fI : Addr} {fd fdT fdI : FuncData} (F : FnT K "is_fraction" sIsFraction f fd) (mgcd : mg "gcd" = some (.builtin "math.gcd"))
    (gT : mg "is_tuple_of" = some (.ref fT)) (GT : FnOk P w K mg base CX0 1 fT fdT ["value", "many"] (spIs2 K isTupN)) (kT : PySem.W.keepIn K (.ref fT) = true) (bT : Binds K fdT ["value", "many"] [])
    (gI : mg "is_integer" = some (.ref fI)) (GI : FnOk P w K mg base CX0 1 fI fdI ["value"] (spIs K isInt)) (kI : PySem.W.keepIn K (.ref fI) = true) (bI : Binds K fdI ["value"] []) :
    FnOk P w K mg base CX0 2 f fd ["value"] (spIs K isFracD) := by
  refine F.ok scIsFraction (fun vs H Q E h => ?_) (fun cdv A outer s H vs Q E hr h => ?_)
  · obtain ⟨v, d, rfl, _⟩ := h
    rfl
  · obtain ⟨v, d, rfl, hd, q⟩ := h
    have nd := scIsFraction.nd
    refine ⟨_, PSs.nox (pss_cons (ps_if (pt_not (pt_val (pe_call GT hr rfl gT kT bT .nil pass0 (pa_cons (pv 0) (pa_cons pe_int pa_nil))))) (pss_one (ps_ret pe_bl)) pss_nil)
      (pss_cons (ps_asg (pv 0) (pg_tup rfl (pgs_cons (pg_name (i := 1) nd rfl (.inl rfl)) (pgs_cons (pg_name (i := 2) nd rfl (.inl rfl)) pgs_nil))))
      (pss_one (ps_ret (pe_and (pe_call GI hr rfl gI kI bI .nil pass0 (pa_cons (pv 1) pa_nil)) (pe_and (pe_call GI hr rfl gI kI bI .nil pass0 (pa_cons (pv 2) pa_nil))
        (pe_and (pe_cmpR op_gt (pv 2) pe_int (nomark _)) (pe_one (pe_cmpR op_eq (pe_callBfun cr_gcd rfl mgcd (pa_cons (pv 1) (pa_cons (pv 2) pa_nil))) pe_int (nomark _)))))))))), ?_⟩
    refine ⟨_, rfl, v, d, 2, rfl, by decide, hd, fun H1 s1 => ⟨_, rfl, ?_⟩⟩
    have bad : isTupN d 2 = false → isFracD d = false := fun z => by
      cases d with
      | tuple ds =>
        match ds with
        | [] => simp [isFracD]
        | [_] => simp [isFracD]
        | [_, _] => cases z
        | _ :: _ :: _ :: _ => simp [isFracD]
      | _ => rfl
    cases g : isTupN d 2 with
    | false =>
      have q1 := q H1 s1
      rw [bad g] at q1
      exact iteT q1
    | true =>
      cases d with
      | tuple ds =>
        have hl : ds.length = 2 := of_decide_eq_true g
        match ds, hl with
        | [d1, d2], _ =>
          have hd1 := hd.same s1
          cases hd1 with
          | @tup a xs _ h1 h2 =>
            cases h2 with
            | @cons v1 _ _ _ e1 r1 =>
              cases r1 with
              | @cons v2 _ _ _ e2 r2 =>
                cases r2
                refine iteF ⟨_, rfl, a, _, rfl, h1, rfl, _, _, rfl, _, _, rfl, rfl, ?_⟩
                refine ⟨_, rfl, v1, d1, rfl, e1, fun H2 s2 => ⟨_, rfl, ?_⟩⟩
                have q2 : ∀ H', Same H2 H' → Q (.bl (isFracD (.tuple [d1, d2]))) H' := fun H' s' => q H' (s1.trans (s2.trans s'))
                cases d1 with
                | int i =>
                  refine iteT ⟨_, rfl, v2, d2, rfl, e2.same s2, fun H3 s3 => ⟨_, rfl, ?_⟩⟩
                  cases d2 with
                  | int j =>
                    cases e1
                    have e2' := e2
                    cases e2'
                    have q3 : Q (.bl (decide (0 < j) && decide (Nat.gcd i.natAbs j.natAbs = 1))) H3 := q2 H3 s3
                    refine iteT ⟨_, rfl, _, _, rfl, rfl, _, rfl, ite2 (fun g => ?_) (fun g => ?_)⟩
                    · have g' : 0 < j := of_decide_eq_true g
                      rw [decide_eq_true g', Bool.true_and] at q3
                      refine ⟨_, rfl, _, rfl, i, j, rfl, rfl, ?_⟩
                      rw [show decide (V.int ((Nat.gcd i.natAbs j.natAbs : Nat) : Int) = V.int 1) = decide (Nat.gcd i.natAbs j.natAbs = 1) from by
                        by_cases z : Nat.gcd i.natAbs j.natAbs = 1
                        · rw [decide_eq_true z, decide_eq_true (by rw [z]; rfl)]
                        · rw [decide_eq_false z, decide_eq_false (fun y => z (by injection y with y; omega))]]
                      exact q3
                    · have g' : ¬ 0 < j := fun z => g (decide_eq_true z)
                      rw [decide_eq_false g', Bool.false_and] at q3
                      exact q3
                  | _ => exact iteF (q2 H3 s3)
                | _ => exact iteF (by
                    have z := q2 H2 fun _ _ e => e
                    exact z)
      | _ => cases g
end
end Ca
set_option Elab.async false
set_option linter.all false
set_option maxRecDepth 100000
set_option maxHeartbeats 4000000
namespace Ca
open PySem L2
/-! ### answers and rows -/
structure AnsOk (fs : List (Int × Int)) (m : Nat) : Prop where
  len : fs.length = m
  ok : ∀ f ∈ fs, FrOk 300 f
  cop : ∀ f ∈ fs, Nat.gcd f.1.natAbs f.2.natAbs = 1
theorem AnsOk.is {fs : List (Int × Int)} {m : Nat} (h : AnsOk fs m) : isAnsD (frsD fs) m = true := by
  refine Bool.and_eq_true_iff.mpr ⟨?_, ?_⟩
  · show decide ((fs.map frD).length = m) = true
    rw [List.length_map]
    exact decide_eq_true h.len
  · show (fs.map frD).all isFracD = true
    rw [List.all_map, List.all_eq_true]
    intro f hf
    show (decide (0 < f.2) && decide (Nat.gcd f.1.natAbs f.2.natAbs = 1)) = true
    rw [decide_eq_true (h.ok f hf).pos, decide_eq_true (h.cop f hf)]
    rfl
def prodB : List (Int × Int) → Int
  | [] => 1
  | f :: fs => f.2 * prodB fs
theorem prodB_pos : ∀ {fs : List (Int × Int)}, (∀ f ∈ fs, 0 < f.2) → 0 < prodB fs
  | [], _ => by decide
  | f :: fs, h => Int.mul_pos (h f (List.mem_cons_self ..)) (prodB_pos fun x z => h x (List.mem_cons_of_mem _ z))
theorem prodB_dvd : ∀ {fs : List (Int × Int)} {f : Int × Int}, f ∈ fs → f.2 ∣ prodB fs
  | g :: fs, f, h => by
    rcases List.mem_cons.mp h with rfl | h
    · exact Int.dvd_mul_right _ _
    · exact Int.dvd_trans (prodB_dvd h) (Int.dvd_mul_left _ _)
/-- the ends with which a sum is the greatest (wh = 1), or the least (wh = -1) -/
def endsOf (wh : Int) (ps : List (Int × Int)) (fs : List (Int × Int)) : List Int := List.zipWith (fun p f => if wh * f.1 > 0 then p.2 else p.1) ps fs
def bdOf (wh : Int) (r : Rw) : Int := if wh = 1 then r.bd.1 else r.bd.2
/-- whether a row is kept with those ends -/
def keepsW (wh : Int) (fs : List (Int × Int)) (r : Rw) : Bool := decide (sumW (prodB fs) (endsOf wh r.parts fs) fs ≤ bdOf wh r * prodB fs)
theorem endsOf_len {wh : Int} {ps fs : List (Int × Int)} (h : ps.length = fs.length) : (endsOf wh ps fs).length = fs.length := by
  unfold endsOf
  rw [List.length_zipWith, h, Nat.min_self]
theorem endsOf_get {wh : Int} {ps fs : List (Int × Int)} {i : Nat} (h1 : i < ps.length) (h2 : i < fs.length) : (endsOf wh ps fs)[i]? = some (if wh * fs[i].1 > 0 then ps[i].2 else ps[i].1) := by
  unfold endsOf
  rw [List.getElem?_zipWith, List.getElem?_eq_getElem h1, List.getElem?_eq_getElem h2]
theorem endsOf_small {wh : Int} {ps fs : List (Int × Int)} (h : ∀ p ∈ ps, inT p) : ∀ n ∈ endsOf wh ps fs, n.natAbs < 2 ^ 20 := by
  intro n hn
  obtain ⟨i, hi⟩ := List.mem_iff_getElem?.mp hn
  have hl : i < ps.length ∧ i < fs.length := by
    have := (List.getElem?_eq_some_iff.mp hi).1
    unfold endsOf at this
    rw [List.length_zipWith] at this
    omega
  obtain ⟨hp, hf⟩ := hl
  rw [endsOf_get hp hf] at hi
  cases hi
  obtain ⟨a, b, c⟩ := h _ (List.getElem_mem hp)
  split
  · show _ < 1048576
    omega
  · show _ < 1048576
    omega
def spEnds (K : PySem.W.Frag) : Sp := fun vs H Q _ => ∃ x y wh ps fs, vs = [x, y, .int wh] ∧ (wh = 1 ∨ wh = -1) ∧ Dq K H x (.tuple (ps.map strD)) ∧ Dq K H y (frsD fs) ∧ ps.length = fs.length ∧ fs.length ≤ 3 ∧ ∀ H' p, Same H H' → H' p = some (.lst ((endsOf wh ps fs).map V.int)) → Q (.ref p) H'
def spBound (K : PySem.W.Frag) : Sp := fun vs H Q _ => ∃ x wh r, vs = [x, .int wh] ∧ (wh = 1 ∨ wh = -1) ∧ Dq K H x (rowD r) ∧ Q (.int (bdOf wh r)) H
def spRoom (K : PySem.W.Frag) : Sp := fun vs H Q _ => ∃ x y wh r fs m, vs = [x, y, .int wh] ∧ (wh = 1 ∨ wh = -1) ∧ Dq K H x (rowD r) ∧ isRowD (rowD r) m = true ∧ m ≤ 3 ∧ Dq K H y (frsD fs) ∧ AnsOk fs m ∧
  ∀ H' z t p q, Same H H' → Dq K H' z (frD (p, q)) → Tells (endsOf wh r.parts fs) fs t → FrOk 1000 t → Red (bdOf wh r * t.2 + -t.1 * 1) (1 * t.2) p q → Q z H'
def spKeeps (K : PySem.W.Frag) (wh : Int) : Sp := fun vs H Q _ => ∃ x y r fs m, vs = [x, y] ∧ Dq K H x (rowD r) ∧ isRowD (rowD r) m = true ∧ m ≤ 3 ∧ Dq K H y (frsD fs) ∧ AnsOk fs m ∧ ∀ H', Same H H' → Q (.bl (keepsW wh fs r)) H'
def spChkS (K : PySem.W.Frag) (C : Addr) : Sp := fun vs H Q _ => ∃ x ns rs, vs = [.ref x] ∧ SysAt K C H x ns rs ∧ Q .non H
def spChkA (K : PySem.W.Frag) (C : Addr) : Sp := fun vs H Q _ => ∃ x v d ns rs, vs = [.ref x, v] ∧ SysAt K C H x ns rs ∧ Dq K H v d ∧ isAnsD d ns.length = true ∧ ∀ H', Same H H' → Q .non H'
def spAsk (K : PySem.W.Frag) (C : Addr) (wh : Int) : Sp := fun vs H Q _ => ∃ x v ns rs fs, vs = [.ref x, v] ∧ SysAt K C H x ns rs ∧ Dq K H v (frsD fs) ∧ AnsOk fs ns.length ∧ ∀ H', Same H H' → Q (.bl (rs.all (keepsW wh fs))) H'
/-- the sign of a room -/
theorem room_sign {wh : Int} {fs : List (Int × Int)} {m : Nat} {r : Rw} {t : Int × Int} {p q : Int} (A : AnsOk fs m) (hT : Tells (endsOf wh r.parts fs) fs t) (ht : 0 < t.2) (hR : Red (bdOf wh r * t.2 + -t.1 * 1) (1 * t.2) p q) : decide (p ≥ 0) = keepsW wh fs r := by
  have W0 := prodB_pos fun f hf => (A.ok f hf).pos
  have e := hT (prodB fs) W0 fun f hf => prodB_dvd hf
  obtain ⟨g, hg, e1, e2⟩ := hR.ex
  unfold keepsW
  generalize sumW (prodB fs) (endsOf wh r.parts fs) fs = S at e ⊢
  generalize prodB fs = W at e W0 ⊢
  generalize bdOf wh r = B at e1 ⊢
  obtain ⟨t1, t2⟩ := t
  replace e : t1 * W = t2 * S := e
  replace ht : 0 < t2 := ht
  replace e1 : p * g = B * t2 + -t1 * 1 := e1
  have e3 : p * g * W = t2 * (B * W - S) := by
    rw [e1, Int.mul_one, Int.add_mul, Int.neg_mul, e, Int.mul_sub]
    rw [Int.mul_comm B t2, Int.mul_assoc]
    omega
  have gw : 0 < g * W := Int.mul_pos hg W0
  by_cases c : S ≤ B * W
  · rw [decide_eq_true c]
    refine decide_eq_true ?_
    have : 0 ≤ p * (g * W) := by
      rw [← Int.mul_assoc, e3]
      exact Int.mul_nonneg (by omega) (by omega)
    exact Int.nonneg_of_mul_nonneg_left this gw
  · rw [decide_eq_false c]
    refine decide_eq_false fun hp => c ?_
    have : 0 ≤ t2 * (B * W - S) := by
      rw [← e3, Int.mul_assoc]
      exact Int.mul_nonneg hp (by omega)
    have := Int.nonneg_of_mul_nonneg_right this ht
    omega
section
variable {P : Program} {w : World} {K : PySem.W.Frag} {mg : Str → Option Value} {base : Heap} {C : Addr}
theorem scEnds : FnScope ["stretches", "answer", "which", "low", "high", "value"] ["stretches", "answer", "which"] (defScope sEndsFor) := ⟨rfl, rfl, rfl, by decide +kernel, rfl, by decide +kernel, by decide +kernel⟩
theorem ok_ends {f : Addr} {fd : FuncData} (F : FnT K "ends_for" sEndsFor f fd) (mzip : mg "zip" = none) : FnOk P w K mg base CX0 1 f fd ["stretches", "answer", "which"] (spEnds K) := by
  refine F.ok scEnds (fun vs H Q E h => ?_) (fun cdv A outer s H vs Q E hr h => ?_)
  · obtain ⟨x, y, wh, ps, fs, rfl, _⟩ := h
    rfl
  · obtain ⟨x, y, wh, ps, fs, rfl, hw, dx, dy, hl, h3, q⟩ := h
    have nd := scEnds.nd
    refine ⟨_, PSs.nox (pss_one (ps_ret (pe_lc (own := [("low", 3), ("high", 4), ("value", 5)]) (g := gTup K 2 (gCons (gTup K 2 (gCons (gName 3) (gCons (gName 4) gNil))) (gCons (gName 5) gNil))) (tt := tYes) rfl nd (RZ.pi_zipA (by rfl) mzip (pa_cons (pv 0) (pa_cons (pv 1) pa_nil)))
        (blkOk_by (own := [("low", 3), ("high", 4), ("value", 5)]) (N := ["stretches", "answer", "which", "low", "high", "value"]) (sc := defScope sEndsFor) (by decide +kernel))
        (fun _ _ _ _ _ => pgT K rfl (pgs_cons (pgT K rfl (pgs_cons (pg_name (i := 3) nd rfl (Or.inl rfl)) (pgs_cons (pg_name (i := 4) nd rfl (Or.inl rfl)) pgs_nil))) (pgs_cons (pg_name (i := 5) nd rfl (Or.inl rfl)) pgs_nil))) (fun _ _ _ _ _ => pts_nil)
        (fun _ _ _ _ _ => pe_ifExp (pt_cmpR op_gt (pe_op op_mul (pv 2) (pe_ix (ixT K) (pv 5) pe_int (fun _ _ => rfl))) pe_int (nomark _)) (pv 4) (pv 3))))), ?_⟩
    obtain ⟨a, xs, rfl, ha1, ha2, hal⟩ := tup_len dx
    obtain ⟨b, ys, rfl, hb1, hb2, hbl⟩ := tup_len dy
    rw [List.length_map] at hal hbl
    refine ⟨_, rfl, _, rfl, a, b, _, _, rfl, .inr ⟨ha1, hb1, fun D hD => ?_⟩⟩
    refine lc_it (CaZ.walk_zt (K := K) (a := a) (b := b) (xs := xs) (ys := ys) (n := fs.length) (by omega) hbl) (fun i H' => Same H H' ∧ H' D = some (.lst (((endsOf wh ps fs).take i).map V.int))) ⟨Same.new hD, upd_same⟩ (fun i H' hi p => ⟨same_sqt p.1 ha1, same_sqt p.1 hb1⟩) ?_ ?_
    · rintro i z H5 _ hi ⟨s5, bD⟩ ⟨T, x1, y1, rfl, hT, rfl, hx, hy⟩
      have s6 := Same.new (o := .tup [x1, y1]) hT
      have s56 := s5.trans s6
      have hip : i < ps.length := by omega
      obtain ⟨d, hd, dq⟩ := (ha2.same s56).get hx
      rw [List.getElem?_map, List.getElem?_eq_getElem hip] at hd
      cases hd
      obtain ⟨c, us, rfl, hc1, hc2, _⟩ := tup_len dq
      obtain ⟨g, rfl, hg⟩ := fr_at (frs_get (hb2.same s56) hi hy)
      cases hc2 with
      | @cons w1 _ _ _ e1 r1 =>
      cases r1 with
      | @cons w2 _ _ _ e2 r2 =>
      cases r2
      cases e1
      cases e2
      refine ⟨T, _, rfl, SqT.of upd_same, rfl, _, _, rfl, ⟨c, _, rfl, hc1, rfl, _, _, rfl, _, _, rfl, rfl, ⟨_, _, rfl, ⟨rfl, rfl, rdYes ?_⟩⟩⟩⟩
      have fin : ∀ n : Int, (endsOf wh ps fs)[i]? = some n → ∃ acc, upd H5 T (.tup [.ref c, .ref g]) D = some (.lst acc) ∧ acc.length < sizeLine ∧ Same H (upd (upd H5 T (.tup [.ref c, .ref g])) D (.lst (acc ++ [.int n]))) ∧ upd (upd H5 T (.tup [.ref c, .ref g])) D (.lst (acc ++ [.int n])) D = some (.lst (((endsOf wh ps fs).take (i + 1)).map V.int)) := fun n hn => by
        refine ⟨_, s6 _ _ bD, ?_, fun u o e => ?_, ?_⟩
        · rw [List.length_map, List.length_take]
          exact Nat.lt_of_le_of_lt (Nat.le_trans (Nat.min_le_left ..) (show i ≤ 3 by omega)) (by decide)
        · rw [upd_ne (ne_of_none e hD)]
          exact s56 _ _ e
        · rw [upd_same, List.take_succ, hn, List.map_append]
          rfl
      refine ⟨_, rfl, _, rfl, g, _, 0, _, rfl, rfl, hg, atI_nat (j := 0) rfl, _, _, rfl, rfl, .inl (by rcases hw with rfl | rfl <;> exact ⟨by decide, by decide⟩), _, _, rfl, rfl, _, rfl, ite2 (fun c => ?_) (fun c => ?_)⟩
      · exact ⟨_, rfl, fin _ (by rw [endsOf_get hip hi, if_pos (of_decide_eq_true c)])⟩
      · exact ⟨_, rfl, fin _ (by rw [endsOf_get hip hi, if_neg (fun z => c (decide_eq_true z))])⟩
    · rintro H5 ⟨s5, bD⟩
      rw [← endsOf_len (wh := wh) hl, List.take_length] at bD
      exact q H5 D s5 bD
theorem scBound : FnScope ["row", "which", "low", "high"] ["row", "which"] (defScope sBoundFor) := ⟨rfl, rfl, rfl, by decide +kernel, rfl, by decide +kernel, by decide +kernel⟩
theorem ok_bound {f : Addr} {fd : FuncData} (F : FnT K "bound_for" sBoundFor f fd) (mG : ∃ t, mg "GREATEST" = some (.int 1 t)) : FnOk P w K mg base CX0 1 f fd ["row", "which"] (spBound K) := by
  obtain ⟨t1, c1⟩ := mG
  refine F.ok scBound (fun vs H Q E h => ?_) (fun cdv A outer s H vs Q E hr h => ?_)
  · obtain ⟨x, wh, r, rfl, _⟩ := h
    rfl
  · obtain ⟨x, wh, r, rfl, hw, dx, q⟩ := h
    have nd := scBound.nd
    refine ⟨_, PSs.nox (pss_cons (ps_asg (pe_ix ix_tup (pv 0) pe_int (fun _ _ => rfl)) (pg_tup rfl (pgs_cons (pg_name (i := 2) nd rfl (.inl rfl)) (pgs_cons (pg_name (i := 3) nd rfl (.inl rfl)) pgs_nil))))
      (pss_one (ps_ret (pe_ifExp (pt_cmpR op_eq (pv 1) (pe_glob (v := .int 1) rfl c1 ⟨_, rfl⟩) (nomark _)) (pv 2) (pv 3))))), ?_⟩
    obtain ⟨a, v2, v3, rfl, ha, _, d3, _⟩ := row_at dx
    obtain ⟨c, us, rfl, hc1, hc2, _⟩ := tup_len d3
    cases hc2 with
    | @cons w1 _ _ _ e1 r1 =>
    cases r1 with
    | @cons w2 _ _ _ e2 r2 =>
    cases r2
    cases e1
    cases e2
    refine ⟨_, rfl, a, _, 2, _, rfl, rfl, ha, atI_nat (j := 2) rfl, c, _, rfl, hc1, rfl, _, _, rfl, _, _, rfl, rfl, _, rfl, rfl, _, rfl, ?_⟩
    unfold bdOf at q
    by_cases g : wh = 1
    · rw [if_pos g] at q
      rw [decide_eq_true (show V.int wh = V.int 1 by rw [g])]
      exact iteT ⟨_, rfl, q⟩
    · rw [if_neg g] at q
      rw [decide_eq_false (show ¬ V.int wh = V.int 1 from fun e => g (by injection e))]
      exact iteF ⟨_, rfl, q⟩
theorem scRoom : FnScope ["row", "answer", "which", "used"] ["row", "answer", "which"] (defScope sRoomFor) := ⟨rfl, rfl, rfl, by decide +kernel, rfl, by decide +kernel, by decide +kernel⟩
theorem ok_room {f fD fE fM fB : Addr} {fd fdD fdE fdM fdB : FuncData} (F : FnT K "room_for" sRoomFor f fd)
    (gD : mg "dot" = some (.ref fD)) (GD : FnOk P w K mg base CX0 4 fD fdD ["numbers", "fractions"] (spDot K)) (kD : PySem.W.keepIn K (.ref fD) = true) (bD : Binds K fdD ["numbers", "fractions"] [])
    (gE : mg "ends_for" = some (.ref fE)) (GE : FnOk P w K mg base CX0 1 fE fdE ["stretches", "answer", "which"] (spEnds K)) (kE : PySem.W.keepIn K (.ref fE) = true) (bE : Binds K fdE ["stretches", "answer", "which"] [])
    (gM : mg "minus" = some (.ref fM)) (GM : FnOk P w K mg base CX0 3 fM fdM ["one", "other"] (spMinus K)) (kM : PySem.W.keepIn K (.ref fM) = true) (bM : Binds K fdM ["one", "other"] [])
    (gB : mg "bound_for" = some (.ref fB)) (GB : FnOk P w K mg base CX0 1 fB fdB ["row", "which"] (spBound K)) (kB : PySem.W.keepIn K (.ref fB) = true) (bB : Binds K fdB ["row", "which"] []) :
    FnOk P w K mg base CX0 5 f fd ["row", "answer", "which"] (spRoom K) := by
  refine F.ok scRoom (fun vs H Q E h => ?_) (fun cdv A outer s H vs Q E hr h => ?_)
  · obtain ⟨x, y, wh, r, fs, m, rfl, _⟩ := h
    rfl
  · obtain ⟨x, y, wh, r, fs, m, rfl, hw, dx, ok, hm, dy, hA, q⟩ := h
    have nd := scRoom.nd
    have hr3 : Room 3 _ := hr.mono (by decide)
    have hr1 : Room 1 _ := hr.mono (by decide)
    refine ⟨_, PSs.nox (pss_cons (ps_set (i := 3) nd rfl (.inl rfl) (pe_call GD hr rfl gD kD bD .nil pass0 (pa_cons (pe_call GE hr1 rfl gE kE bE .nil pass0 (pa_cons (pe_ix ix_tup (pv 0) pe_int (fun _ _ => rfl)) (pa_cons (pv 1) (pa_cons (pv 2) pa_nil)))) (pa_cons (pv 1) pa_nil))))
      (pss_one (ps_ret (pe_call GM hr3 rfl gM kM bM .nil pass0 (pa_cons (pe_tup (pa_cons (pe_call GB hr1 rfl gB kB bB .nil pass0 (pa_cons (pv 0) (pa_cons (pv 2) pa_nil))) (pa_cons pe_int pa_nil))) (pa_cons (pv 3) pa_nil)))))), ?_⟩
    obtain ⟨a, v2, v3, rfl, ha, d2, _, _⟩ := row_at dx
    have hpl := (row_name ok).2
    have hT := row_T ok
    have hl : r.parts.length = fs.length := by rw [hpl, hA.len]
    have h3 : fs.length ≤ 3 := by rw [hA.len]; exact hm
    refine ⟨_, rfl, a, _, 1, _, rfl, rfl, ha, atI_nat (j := 1) rfl, _, rfl, _, rfl, v2, y, wh, r.parts, fs, rfl, hw, d2, dy, hl, h3, fun H1 p s1 bp => ?_⟩
    refine ⟨_, rfl, p, y, endsOf wh r.parts fs, fs, rfl, SqL.of bp, dy.same s1, endsOf_len hl, h3, endsOf_small fun z hz => hT z (List.mem_append_left _ hz), hA.ok, fun H2 z t s2 dz tl ft => ?_⟩
    have s12 := s1.trans s2
    refine ⟨_, rfl, _, rfl, .ref a, wh, r, rfl, hw, dx.same s12, by show 2 ≤ sizeLine; decide, fun p2 hp2 => ?_⟩
    have s3 := Same.new (o := .tup [.int (bdOf wh r), .int 1]) hp2
    have hB : (bdOf wh r).natAbs < 2 ^ 2000 := by
      obtain ⟨b1, b2, b3⟩ := hT r.bd (List.mem_append_right _ (List.mem_singleton.mpr rfl))
      unfold bdOf
      refine lt_pow (a := 20) ?_ (by decide)
      show _ < 1048576
      split <;> omega
    exact ⟨_, rfl, .ref p2, z, (bdOf wh r, 1), t, rfl, fr_of upd_same, dz.same s3, ⟨(by show (0 : Int) < 1; decide), hB, (by show (1 : Int).natAbs < 2 ^ 2000; decide +kernel)⟩, ⟨ft.pos, lt_pow ft.t (by decide), lt_pow ft.b (by decide)⟩, fun H4 u p q' s4 du hR => q H4 u t p q' (s12.trans (s3.trans s4)) du tl ft hR⟩
end
end Ca
set_option Elab.async false
set_option linter.all false
set_option maxRecDepth 100000
set_option maxHeartbeats 4000000
namespace Ca
open PySem L2
theorem all_rangeD (l : List PyData) (g : PyData → Bool) (n : Nat) (h : l.length = n) : ((List.range n).map fun i => g (l.getD i .none)).all id = l.all g := by
  have e : ((List.range n).map fun i => g (l.getD i .none)) = l.map g := by
    refine List.ext_getElem (by simp [h]) fun i h1 h2 => ?_
    have hi : i < l.length := by simpa using h2
    simp [List.getElem?_eq_getElem hi]
  rw [e, List.all_map]
  rfl
section
variable {P : Program} {w : World} {K : PySem.W.Frag} {mg : Str → Option Value} {base : Heap} {C fUn pUn fRo pRo : Addr} {fdUn fdRo : FuncData}
theorem scIsAnswer : FnScope ["value", "many", "part"] ["value", "many"] (defScope sIsAnswer) := ⟨rfl, rfl, rfl, by decide +kernel, rfl, by decide +kernel, by decide +kernel⟩
theorem ok_isAnswer {f fT fF : Addr} {fd fdT fdF : FuncData} (F : FnT K "is_answer" sIsAnswer f fd) (B : Bn mg)
    (gT : mg "is_tuple_of" = some (.ref fT)) (GT : FnOk P w K mg base CX0 1 fT fdT ["value", "many"] (spIs2 K isTupN)) (kT : PySem.W.keepIn K (.ref fT) = true) (bT : Binds K fdT ["value", "many"] [])
    (gF : mg "is_fraction" = some (.ref fF)) (GF : FnOk P w K mg base CX0 2 fF fdF ["value"] (spIs K isFracD)) (kF : PySem.W.keepIn K (.ref fF) = true) (bF : Binds K fdF ["value"] []) :
    FnOk P w K mg base CX0 3 f fd ["value", "many"] (spIs2 K isAnsD) := by
  refine F.ok scIsAnswer (fun vs H Q E h => ?_) (fun cdv A outer s H vs Q E hr h => ?_)
  · obtain ⟨v, d, m, rfl, _⟩ := h
    rfl
  · obtain ⟨v, d, m, rfl, hm, hd, q⟩ := h
    have nd := scIsAnswer.nd
    have hr1 : Room 1 _ := hr.mono (by decide)
    refine ⟨_, PSs.nox (pss_one (ps_ret (pe_and (pe_call GT hr1 rfl gT kT bT .nil pass0 (pa_cons (pv 0) (pa_cons (pv 1) pa_nil))) (pe_one (pe_callB (cr_all rfl) (by rfl) B.all PyProof.Rows.boot_all (pa_cons (pe_lc (own := [("part", 2)]) (g := gName 2) (tt := tYes) rfl nd (pi_tup (pv 0))
          (blkOk_by (own := [("part", 2)]) (N := ["value", "many", "part"]) (sc := defScope sIsAnswer) (by decide +kernel)) (fun _ _ _ _ _ => pg_name (i := 2) nd rfl (Or.inl rfl)) (fun _ _ _ _ _ => pts_nil)
          (fun _ _ _ _ _ => pe_call GF hr rfl gF kF bF .nil pass0 (pa_cons (pv 2) pa_nil))) pa_nil)))))), ?_⟩
    refine ⟨_, rfl, _, rfl, v, d, m, rfl, hm, hd, fun H1 s1 => ⟨_, rfl, ?_⟩⟩
    have q2 : ∀ H', Same H1 H' → Q (.bl (isTupN d m && (partsOf d).all isFracD)) H' := fun H' s' => q H' (s1.trans s')
    cases g : isTupN d m with
    | false =>
      rw [g] at q2
      exact iteF (q2 H1 fun _ _ e => e)
    | true =>
      rw [g] at q2
      cases d with
      | tuple ps =>
        have hps : ps.length = m := of_decide_eq_true g
        have hd1 := hd.same s1
        cases hd1 with
        | @tup a xs _ h1 h2 =>
          have hl : xs.length = m := by rw [h2.len, hps]
          refine iteT ⟨_, rfl, a, rfl, ⟨_, h1⟩, fun D hD => ?_⟩
          refine lc_known (walk_tup (K := K) (a := a) (xs := xs)) (fun i => .bl (isFracD (ps.getD i .none))) (by omega) hD (fun H' s' => same_sqt s' h1) (fun _ _ _ _ y => by obtain ⟨rfl, _⟩ := y; exact fun _ _ e => e) (fun _ => rfl) ?_ ?_
          · rintro i z H6 H7 Qk hi s7 ⟨rfl, hz⟩ kk
            obtain ⟨d, hdi, hdq⟩ := (h2.same s7).get hz
            have en : ps.getD i .none = d := by rw [List.getD_eq_getElem?_getD, hdi]; rfl
            refine ⟨_, rfl, z, d, rfl, hdq, fun H8 s8 => ?_⟩
            have kx := kk H8 s8
            rw [en] at kx
            exact kx
          · intro H6 s6 bD
            refine ⟨D, (List.range m).map fun i => isFracD (ps.getD i .none), rfl, SqL.of (by rw [bD, List.map_map, hl]; rfl), ?_⟩
            rw [all_rangeD ps isFracD m hps]
            exact q2 H6 s6
      | _ => cases g
theorem scChkS : FnScope ["system"] ["system"] (defScope sCheckSystem) := ⟨rfl, rfl, rfl, by decide +kernel, rfl, by decide +kernel, by decide +kernel⟩
theorem ok_chkS {f : Addr} {fd : FuncData} (F : FnT K "check_system" sCheckSystem f fd) (B : Bn mg) (S : SysC K C) (I : SysI K C) (gC : mg "System" = some (.ref C)) : FnOk P w K mg base CX0 1 f fd ["system"] (spChkS K C) := by
  refine F.ok scChkS (fun vs H Q E h => ?_) (fun cdv A outer s H vs Q E hr h => ?_)
  · obtain ⟨x, ns, rs, rfl, _⟩ := h
    rfl
  · obtain ⟨x, ns, rs, rfl, hX, q⟩ := h
    refine ⟨_, PSs.nox (pss_one (ps_if (pt_not (pt_val (pe_callB call_isi (by rfl) B.isi PyProof.Rows.boot_isinstance (pa_cons (pv 0) (pa_cons (pe_glob (v := .ref C) rfl gC rfl) pa_nil))))) (pss_one ps_never) pss_nil)), ?_⟩
    obtain ⟨_, _, dx, _, _, ex, _, _⟩ := id hX
    exact ⟨_, rfl, .ref x, .ref C, _, _, true, rfl, .own C, .base (.ins ex S.cl I.ha I.hn I.ht I.hm), I.own, _, rfl, iteF q⟩
theorem scChkA : FnScope ["system", "answer"] ["system", "answer"] (defScope sCheckAnswer) := ⟨rfl, rfl, rfl, by decide +kernel, rfl, by decide +kernel, by decide +kernel⟩
theorem ok_chkA {f fA : Addr} {fd fdA : FuncData} (F : FnT K "check_answer" sCheckAnswer f fd) (B : Bn mg) (S : SysC K C) (un : PropOf K C "unknowns" pUn fUn) (GUn : FnOk P w K mg base CX0 1 fUn fdUn ["self"] (spUnknowns C)) (bUn : Binds K fdUn ["self"] [])
    (gA : mg "is_answer" = some (.ref fA)) (GA : FnOk P w K mg base CX0 3 fA fdA ["value", "many"] (spIs2 K isAnsD)) (kA : PySem.W.keepIn K (.ref fA) = true) (bA : Binds K fdA ["value", "many"] []) :
    FnOk P w K mg base CX0 4 f fd ["system", "answer"] (spChkA K C) := by
  refine F.ok scChkA (fun vs H Q E h => ?_) (fun cdv A outer s H vs Q E hr h => ?_)
  · obtain ⟨x, v, d, ns, rs, rfl, _⟩ := h
    rfl
  · obtain ⟨x, v, d, ns, rs, rfl, hX, dv, hd, q⟩ := h
    have hr2 : Room 2 _ := hr.mono (by decide)
    refine ⟨_, PSs.nox (pss_one (ps_if (pt_not (pt_val (pe_call GA hr rfl gA kA bA .nil pass0 (pa_cons (pv 1) (pa_cons (pe_callB call_len (by rfl) B.len boot_len (pa_cons (pe_prop (pv 0) S.cl un GUn hr2 bUn .nil pass0 rfl) pa_nil)) pa_nil))))) (pss_one ps_never) pss_nil)), ?_⟩
    obtain ⟨hN, _, dx, tu, tr, ex, du, _⟩ := id hX
    have n3 := hN.hi
    obtain ⟨a, xs, rfl, h1, _, hl⟩ := tup_len du
    rw [List.length_map] at hl
    refine ⟨_, rfl, _, rfl, x, dx, _, rfl, ex, x, dx, .ref a, tr, rfl, ex, _, ns.length, rfl, .inr ⟨_, h1, hl.symm⟩, v, d, ns.length, rfl, by omega, dv, fun H1 s1 => ⟨_, rfl, ?_⟩⟩
    rw [hd]
    exact iteF (q H1 s1)
theorem all_keeps (rs : List Rw) (g : Rw → Bool) (d : Rw) (n : Nat) (h : rs.length = n) : ((List.range n).map fun i => g (rs.getD i d)).all id = rs.all g := by
  have e : ((List.range n).map fun i => g (rs.getD i d)) = rs.map g := by
    refine List.ext_getElem (by simp [h]) fun i h1 h2 => ?_
    have hi : i < rs.length := by simpa using h2
    simp [List.getElem?_eq_getElem hi]
  rw [e, List.all_map]
  rfl
def noRow : Rw := ⟨"", [], (0, 0)⟩
end
end Ca
set_option Elab.async false
set_option linter.all false
set_option maxRecDepth 100000
set_option maxHeartbeats 4000000
namespace Ca
open PySem L2
/-! ### the law's own fractions -/
def FrV (f : Int × Int) : Prop := FrOk 200 f ∧ Nat.gcd f.1.natAbs f.2.natAbs = 1
def spShared (K : PySem.W.Frag) : Sp := fun vs H Q _ => ∃ a x y, vs = [.ref a] ∧ H a = some (.lst [.int x, .int y]) ∧ Q (.int ((Nat.gcd x.natAbs y.natAbs : Nat) : Int)) H
def spLow (K : PySem.W.Frag) : Sp := fun vs H Q _ => ∃ a b : Int, vs = [.int a, .int b] ∧ 0 < b ∧ b.natAbs < 2 ^ 8000 ∧ ∀ H' y p q, Same H H' → Dq K H' y (frD (p, q)) → Red a b p q → Q y H'
def spValue (K : PySem.W.Frag) : Sp := fun vs H Q _ => ∃ l : Addr, vs = [.ref l] ∧ Urn H l ∧ ∀ H' v f, Kept l H H' → Urn H' l → Dq K H' v (frD f) → FrV f → Q v H'
def spPoint (K : PySem.W.Frag) : Sp := fun vs H Q _ => ∃ (l : Addr) (m : Nat), vs = [.ref l, .int m] ∧ Urn H l ∧ m ≤ 3 ∧ ∀ H' v fs, Kept l H H' → Urn H' l → Dq K H' v (frsD fs) → fs.length = m → (∀ f ∈ fs, FrV f) → Q v H'
theorem frv_of {a b p q : Int} (h : Red a b p q) (ha : a.natAbs < 2 ^ 200) (hb : b.natAbs < 2 ^ 200) : FrV (p, q) := by
  obtain ⟨l1, l2⟩ := h.le
  exact ⟨⟨h.pos, Nat.lt_of_le_of_lt l1 ha, Nat.lt_of_le_of_lt l2 hb⟩, h.cop⟩
theorem noL_frD (f : Int × Int) : noL (frD f) = true := rfl
theorem ints_get {zs : List Int} {i : Nat} {v : V} (h : (zs.map V.int)[i]? = some v) : ∃ z ∈ zs, v = .int z := by
  rw [List.getElem?_map] at h
  cases e : zs[i]? with
  | none => rw [e] at h; cases h
  | some z => rw [e] at h; exact ⟨z, List.mem_of_getElem? e, (Option.some.inj h).symm⟩
section
variable {P : Program} {w : World} {K : PySem.W.Frag} {mg : Str → Option Value} {base : Heap}
abbrev NSh : List Str := ["_law_some", "_law_found", "_law_each", "_law_first", "_law_second"]
theorem scShared : FnScope NSh ["_law_some"] (defScope sLawShared) := ⟨rfl, rfl, rfl, by decide +kernel, rfl, by decide +kernel, by decide +kernel⟩
theorem ok_shared {f : Addr} {fd : FuncData} (F : FnT K "_law_shared" sLawShared f fd) (mabs : mg "abs" = none) (mint : mg "int" = none) : FnOk P w K mg base CX0 1 f fd ["_law_some"] (spShared K) := by
  refine F.ok scShared (fun vs H Q E h => ?_) (fun cdv A outer s H vs Q E hr h => ?_)
  · obtain ⟨a, x, y, rfl, _⟩ := h
    rfl
  · obtain ⟨a, x, y, rfl, ha, q⟩ := h
    have nd := scShared.nd
    refine ⟨_, PSs.nox (pss_cons (ps_set (i := 1) nd rfl (.inl rfl) pe_int)
      (pss_cons (ps_for PassesOwn.never rfl (pi_list (pv 0)) (pg_name (i := 2) nd rfl (.inl rfl))
        (pss_cons (ps_par (i := 3) (j := 4) rfl nd rfl rfl (by decide) rfl rfl (pa_cons (pe_callB call_abs (by rfl) mabs (by decide +kernel) (pa_cons (pv 2) pa_nil)) (pa_cons (pv 1) pa_nil)) rfl)
        (pss_cons (ps_while PassesOwn.never (pt_cmpR op_gt (pv 4) pe_int (nomark _))
          (pss_one (ps_par (i := 3) (j := 4) rfl nd rfl rfl (by decide) rfl rfl (pa_cons (pv 4) (pa_cons (pe_op op_mod (pe_callTy call_int1 (by rfl) mint PyProof.Rows.boot_int (pa_cons (pv 3) pa_nil)) (pv 4)) pa_nil)) rfl)))
        (pss_one (ps_set (i := 1) nd rfl (.inl rfl) (pv 3))))))
      (pss_one (ps_ret (pv 1))))), ?_⟩
    refine ⟨_, rfl, a, rfl, ⟨_, SqL.of ha⟩, ?_⟩
    have seq : ∀ k : Nat, ([x, y] : List Int)[k]? = some x ∧ k = 0 ∨ ([x, y] : List Int)[k]? = some y ∧ k = 1 ∨ 2 ≤ k := fun k => by
      match k with
      | 0 => exact .inl ⟨rfl, rfl⟩
      | 1 => exact .inr (.inl ⟨rfl, rfl⟩)
      | n + 2 => exact .inr (.inr (by omega))
    refine for_it (walk_list (K := K) (a := a) (xs := [.int x, .int y])) (fun k σ' H' => H' = H ∧ ∃ (n : Nat) (o2 o3 o4 : Option V), σ' = [some (.ref a), some (.int (n : Int)), o2, o3, o4] ∧ (k = 0 → n = 0) ∧ (k = 1 → n = x.natAbs) ∧ (k = 2 → n = Nat.gcd x.natAbs y.natAbs))
      ⟨rfl, 0, none, none, none, rfl, fun _ => rfl, (fun e => nomatch e), (fun e => nomatch e)⟩ (fun k σ' H' hk p => by rw [p.1]; exact SqL.of ha) ?_ (fun σ' H' p => ?_)
    · rintro k v _ H0 H1 hk ⟨e0, n, o2, o3, o4, rfl, n0, n1, n2⟩ ⟨e1, hv⟩
      have eH : H1 = H := by
        subst e1
        exact e0
      subst eH
      obtain ⟨z, hz, rfl⟩ : ∃ z : Int, (k = 0 ∧ z = x ∨ k = 1 ∧ z = y) ∧ v = .int z := by
        match k, hv with
        | 0, hv => cases hv; exact ⟨x, .inl ⟨rfl, rfl⟩, rfl⟩
        | 1, hv => cases hv; exact ⟨y, .inr ⟨rfl, rfl⟩, rfl⟩
        | k + 2, hv => cases hv
      refine ⟨_, rfl, _, rfl, _, rfl, _, _, rfl, ?_⟩
      have eabs : (if z < 0 then -z else z) = ((z.natAbs : Nat) : Int) := by split <;> omega
      rw [eabs]
      refine while_by (fun σ' H' => H' = H1 ∧ ∃ (b c : Nat) (o1 o2 : Option V), σ' = [some (.ref a), o1, o2, some (.int (b : Int)), some (.int (c : Int))] ∧ Nat.gcd b c = Nat.gcd z.natAbs n)
        (fun σ' H' => match σ' with
          | [_, _, _, _, some (.int c)] => c.toNat
          | _ => 0) ⟨rfl, z.natAbs, n, _, _, rfl, rfl⟩ ?_ ?_
      · rintro _ _ ⟨rfl, b, c, o1, o2, rfl, hg⟩
        refine ⟨_, rfl, _, _, rfl, rfl, _, rfl, ite2 (fun g => ?_) (fun g => ?_)⟩
        · have c0 : 0 < c := by
            have := of_decide_eq_true g
            omega
          refine ⟨_, rfl, _, rfl, .inl ⟨_, rfl, _, rfl, _, _, rfl, rfl, (by show (0 : Int) < (c : Int); omega), _, _, rfl, ⟨rfl, c, b % c, o1, o2, rfl, ?_⟩, ?_⟩⟩
          · rw [← hg, Nat.gcd_comm b c, Nat.gcd_rec c b, Nat.gcd_comm]
          · show ((b : Int) % (c : Int)).toNat < (c : Int).toNat
            have := Nat.mod_lt b c0
            omega
        · have c0 : c = 0 := by
            have : ¬ ((c : Int) > 0) := fun h => g (decide_eq_true h)
            omega
          subst c0
          refine ⟨_, rfl, rfl, b, _, _, _, rfl, (fun e => nomatch e), fun e => ?_, fun e => ?_⟩
          · rw [Nat.gcd_zero_right] at hg
            rcases hz with ⟨rfl, rfl⟩ | ⟨rfl, _⟩
            · rw [hg, n0 rfl, Nat.gcd_zero_right]
            · cases e
          · rw [Nat.gcd_zero_right] at hg
            rcases hz with ⟨rfl, _⟩ | ⟨rfl, rfl⟩
            · cases e
            · rw [hg, n1 rfl, Nat.gcd_comm]
      · intro σ' H' Q1 Q2 hq z
        obtain ⟨v, e1, a1, a2, e2, e3, k', e4, z⟩ := z
        exact ⟨v, e1, a1, a2, e2, e3, k', e4, hq _ _ z⟩
    · obtain ⟨rfl, n, o2, o3, o4, rfl, _, _, n2⟩ := p
      rw [n2 rfl]
      exact ⟨_, rfl, q⟩
theorem scLow : FnScope ["_law_top", "_law_bottom", "_law_shared_here"] ["_law_top", "_law_bottom"] (defScope sLawLow) := ⟨rfl, rfl, rfl, by decide +kernel, rfl, by decide +kernel, by decide +kernel⟩
theorem ok_low {f fS : Addr} {fd fdS : FuncData} (F : FnT K "_law_low" sLawLow f fd) (gS : mg "_law_shared" = some (.ref fS)) (GS : FnOk P w K mg base CX0 1 fS fdS ["_law_some"] (spShared K)) (kS : PySem.W.keepIn K (.ref fS) = true) (bS : Binds K fdS ["_law_some"] []) :
    FnOk P w K mg base CX0 2 f fd ["_law_top", "_law_bottom"] (spLow K) := by
  refine F.ok scLow (fun vs H Q E h => ?_) (fun cdv A outer s H vs Q E hr h => ?_)
  · obtain ⟨a, b, rfl, _⟩ := h
    rfl
  · obtain ⟨a, b, rfl, hb, hs, q⟩ := h
    have nd := scLow.nd
    refine ⟨_, PSs.nox (pss_cons (ps_set (i := 2) nd rfl (.inl rfl) (pe_op op_mulW (pe_call GS hr rfl gS kS bS .nil pass0 (pa_cons (pe_lst (pa_cons (pv 0) (pa_cons (pv 1) pa_nil))) pa_nil)) (pe_ifExp (pt_cmpR op_gt (pv 1) pe_int (nomark _)) pe_int (pe_un un_neg pe_int))))
      (pss_one (ps_ret (pe_tup (pa_cons (pe_op op_fdivW (pv 0) (pv 2)) (pa_cons (pe_op op_fdivW (pv 1) (pv 2)) pa_nil)))))), ?_⟩
    have g0 : 0 < Nat.gcd a.natAbs b.natAbs := Nat.gcd_pos_of_pos_right _ (by omega)
    have g1 : Nat.gcd a.natAbs b.natAbs ≤ b.natAbs := Nat.gcd_le_right _ (by omega)
    have gs : ((Nat.gcd a.natAbs b.natAbs : Nat) : Int).natAbs < 2 ^ 8000 := by rw [Int.natAbs_natCast]; exact Nat.lt_of_le_of_lt g1 hs
    have cd : ∀ i : Int, CDivW i ((Nat.gcd a.natAbs b.natAbs : Nat) : Int) := fun i => wide_div (b := 8000) (by omega) gs (by decide) (by decide)
    refine ⟨_, rfl, _, rfl, by show 2 ≤ sizeLine; decide, fun p hp => ?_⟩
    have s1 := Same.new (o := .lst [.int a, .int b]) hp
    refine ⟨p, a, b, rfl, upd_same, _, rfl, _, _, rfl, rfl, _, rfl, ?_⟩
    rw [decide_eq_true (show b > 0 from hb)]
    refine iteT ⟨_, _, rfl, rfl, wide_mul (a := 8000) (b := 1) gs (by decide) (by decide) (by decide) (by decide), ?_⟩
    simp only [Int.mul_one]
    refine ⟨_, rfl, _, rfl, _, _, rfl, rfl, cd _, _, rfl, _, rfl, _, _, rfl, rfl, cd _, by show 2 ≤ sizeLine; decide, fun p2 hp2 => ?_⟩
    exact q _ _ _ _ (s1.trans (Same.new hp2)) (fr_of upd_same) (red_of hb)
theorem scValue : FnScope ["_law_urn_here"] ["_law_urn_here"] (defScope sLawValue) := ⟨rfl, rfl, rfl, by decide +kernel, rfl, by decide +kernel, by decide +kernel⟩
theorem ok_value {f fD fF fL : Addr} {fd fdD fdF fdL : FuncData} (F : FnT K "_law_value" sLawValue f fd)
    (gD : mg "_law_dip" = some (.ref fD)) (GD : FnOk P w K mg base CX0 1 fD fdD ["_law_urn_here", "_law_top"] spDip) (kD : PySem.W.keepIn K (.ref fD) = true) (bD : Binds K fdD ["_law_urn_here", "_law_top"] [])
    (gF : mg "_law_from" = some (.ref fF)) (GF : FnOk P w K mg base CX0 2 fF fdF ["_law_urn_here", "_law_some"] (spFrom K)) (kF : PySem.W.keepIn K (.ref fF) = true) (bF : Binds K fdF ["_law_urn_here", "_law_some"] [])
    (gL : mg "_law_low" = some (.ref fL)) (GL : FnOk P w K mg base CX0 2 fL fdL ["_law_top", "_law_bottom"] (spLow K)) (kL : PySem.W.keepIn K (.ref fL) = true) (bL : Binds K fdL ["_law_top", "_law_bottom"] []) :
    FnOk P w K mg base CX0 3 f fd ["_law_urn_here"] (spValue K) := by
  refine F.ok scValue (fun vs H Q E h => ?_) (fun cdv A outer s H vs Q E hr h => ?_)
  · obtain ⟨l, rfl, _⟩ := h
    rfl
  · obtain ⟨l, rfl, hU, q⟩ := h
    have hr1 : Room 1 _ := hr.mono (by decide)
    refine ⟨_, PSs.nox (pss_cons (ps_if (pt_cmpR op_eq (pe_call GD hr1 rfl gD kD bD .nil pass0 (pa_cons (pv 0) (pa_cons pe_int pa_nil))) pe_int (nomark _))
        (pss_one (ps_ret (pe_call GL hr rfl gL kL bL .nil pass0 (pa_cons (pe_op op_mulW (pe_call GF hr rfl gF kF bF .nil pass0 (pa_cons (pv 0) (pa_cons (pe_lst (pa_cons pe_int (pa_cons (pe_un un_neg pe_int) pa_nil))) pa_nil)))
            (pe_op op_add (pe_op op_pow pe_int pe_int) (pe_call GD hr1 rfl gD kD bD .nil pass0 (pa_cons (pv 0) (pa_cons pe_int pa_nil)))))
          (pa_cons (pe_op op_add pe_int (pe_call GD hr1 rfl gD kD bD .nil pass0 (pa_cons (pv 0) (pa_cons (pe_op op_pow pe_int pe_int) pa_nil)))) pa_nil))))) pss_nil)
      (pss_one (ps_ret (pe_call GL hr rfl gL kL bL .nil pass0 (pa_cons (pe_call GF hr rfl gF kF bF .nil pass0 (pa_cons (pv 0) (pa_cons (pe_lst (pa_cons pe_int (pa_cons pe_int (pa_cons pe_int (pa_cons (pe_un un_neg pe_int) (pa_cons pe_int
            (pa_cons (pe_op op_sub (pe_call GD hr1 rfl gD kD bD .nil pass0 (pa_cons (pv 0) (pa_cons pe_int pa_nil))) pe_int) pa_nil))))))) pa_nil)))
          (pa_cons (pe_call GF hr rfl gF kF bF .nil pass0 (pa_cons (pv 0) (pa_cons (pe_lst (pa_cons pe_int (pa_cons pe_int (pa_cons pe_int (pa_cons pe_int (pa_cons pe_int (pa_cons pe_int pa_nil))))))) pa_nil))) pa_nil)))))), ?_⟩
    have big : ∀ z : Int, z.natAbs < 2 ^ 120 → z.natAbs < 2 ^ 200 := fun z h => lt_pow h (by decide)
    refine ⟨_, rfl, l, 15, rfl, hU, by decide, by decide, fun H1 b k1 u1 b0 b1 => ⟨rfl, _, rfl, ite2 (fun g => ?_) (fun g => ?_)⟩⟩
    · refine ⟨_, rfl, _, rfl, by show 2 ≤ sizeLine; decide, fun p hp => ?_⟩
      have s2 := Same.new (o := .lst [.int 1, .int (-1)]) hp
      obtain ⟨uo, huo⟩ := u1.some
      refine ⟨l, p, _, rfl, u1.same s2, upd_same, (ne_of_none huo hp).symm, by show 0 < 2; decide, by show 2 < 1000; decide, fun H3 i v hv k3 u3 => ?_⟩
      obtain ⟨z, hz, rfl⟩ := ints_get (zs := [1, -1]) hv
      have hz1 : z.natAbs < 2 ^ 1 := by
        rcases List.mem_cons.mp hz with rfl | hz
        · decide
        · rw [List.mem_singleton.mp hz]; decide
      refine ⟨_, _, rfl, rfl, ⟨by decide, by decide, by decide⟩, _, rfl, l, 99, rfl, u3, by decide, by decide, fun H4 d k4 u4 d0 d1 => ?_⟩
      have hd : ((10 : Int) ^ (30 : Int).toNat + d).natAbs < 2 ^ 119 := by
        have e : (10 : Int) ^ (30 : Int).toNat = 1000000000000000000000000000000 := by decide +kernel
        rw [e]
        show _ < 664613997892457936451903530140172288
        omega
      refine ⟨_, _, rfl, rfl, _, _, rfl, rfl, wide_mul hz1 hd (by decide) (by decide) (by decide), _, rfl, _, _, rfl, rfl, ⟨by decide, by decide, by decide⟩, l, _, rfl, u4, by decide, by decide, fun H5 e k5 u5 e0 e1 => ?_⟩
      have e2 : e < 1000000 := e1
      refine ⟨_, _, rfl, rfl, _, _, rfl, by omega, lt_pow (a := 30) (by show _ < 1073741824; omega) (by decide), fun H6 y p6 q6 s6 dy hR => ?_⟩
      exact q H6 y (p6, q6) (k1.trans (s2.kept.trans (k3.trans (k4.trans (k5.trans s6.kept))))) (u5.same s6) dy (frv_of hR (big _ (wide_lt hz1 hd)) (lt_pow (a := 30) (by show _ < 1073741824; omega) (by decide)))
    · refine ⟨_, rfl, _, rfl, _, rfl, l, 41, rfl, u1, by decide, by decide, fun H2 d k2 u2 d0 d1 => ⟨_, _, rfl, rfl, by show 6 ≤ sizeLine; decide, fun p hp => ?_⟩⟩
      obtain ⟨uo, huo⟩ := u2.some
      have s2 := Same.new (o := .lst [.int 0, .int 0, .int 1, .int (-1), .int 2, .int (d - 20)]) hp
      refine ⟨l, p, _, rfl, u2.same s2, upd_same, (ne_of_none huo hp).symm, by show 0 < 6; decide, by show 6 < 1000; decide, fun H3 i v hv k3 u3 => ?_⟩
      obtain ⟨z, hz, rfl⟩ := ints_get (zs := [0, 0, 1, -1, 2, d - 20]) hv
      have hz1 : z.natAbs < 2 ^ 30 := by
        show _ < 1073741824
        simp only [List.mem_cons, List.not_mem_nil, or_false] at hz
        omega
      refine ⟨_, rfl, by show 6 ≤ sizeLine; decide, fun p2 hp2 => ?_⟩
      obtain ⟨uo3, huo3⟩ := u3.some
      have s4 := Same.new (o := .lst [.int 1, .int 1, .int 1, .int 2, .int 3, .int 7]) hp2
      refine ⟨l, p2, _, rfl, u3.same s4, upd_same, (ne_of_none huo3 hp2).symm, by show 0 < 6; decide, by show 6 < 1000; decide, fun H5 i2 v2 hv2 k5 u5 => ?_⟩
      obtain ⟨z2, hz2, rfl⟩ := ints_get (zs := [1, 1, 1, 2, 3, 7]) hv2
      have hz3 : 0 < z2 ∧ z2.natAbs < 2 ^ 30 := by
        show 0 < z2 ∧ _ < 1073741824
        simp only [List.mem_cons, List.not_mem_nil, or_false] at hz2
        omega
      refine ⟨_, _, rfl, hz3.1, lt_pow hz3.2 (by decide), fun H6 y p6 q6 s6 dy hR => ?_⟩
      exact q H6 y (p6, q6) (k1.trans (k2.trans (s2.kept.trans (k3.trans (s4.kept.trans (k5.trans s6.kept)))))) (u5.same s6) dy (frv_of hR (lt_pow hz1 (by decide)) (lt_pow hz3.2 (by decide)))
theorem scPoint : FnScope ["_law_urn_here", "_law_many", "_law_k"] ["_law_urn_here", "_law_many"] (defScope sLawPoint) := ⟨rfl, rfl, rfl, by decide +kernel, rfl, by decide +kernel, by decide +kernel⟩
theorem ok_point {f fV : Addr} {fd fdV : FuncData} (F : FnT K "_law_point" sLawPoint f fd) (B : Bn mg) (rng : mg "range" = none)
    (gV : mg "_law_value" = some (.ref fV)) (GV : FnOk P w K mg base CX0 3 fV fdV ["_law_urn_here"] (spValue K)) (kV : PySem.W.keepIn K (.ref fV) = true) (bV : Binds K fdV ["_law_urn_here"] []) :
    FnOk P w K mg base CX0 4 f fd ["_law_urn_here", "_law_many"] (spPoint K) := by
  refine F.ok scPoint (fun vs H Q E h => ?_) (fun cdv A outer s H vs Q E hr h => ?_)
  · obtain ⟨l, m, rfl, _⟩ := h
    rfl
  · obtain ⟨l, m, rfl, hU, hm, q⟩ := h
    have nd := scPoint.nd
    refine ⟨_, PSs.nox (pss_one (ps_ret (pe_callTy call_tuple_of (by rfl) B.tup (by decide +kernel) (pa_cons (pe_lc (own := [("_law_k", 2)]) (g := gName 2) (tt := tYes) rfl nd (pi_range1 rfl rng (pa_cons (pv 1) pa_nil))
        (blkOk_by (own := [("_law_k", 2)]) (N := ["_law_urn_here", "_law_many", "_law_k"]) (sc := defScope sLawPoint) (by decide +kernel)) (fun _ _ _ _ _ => pg_name (i := 2) nd rfl (Or.inl rfl)) (fun _ _ _ _ _ => pts_nil)
        (fun _ _ _ _ _ => pe_call GV hr rfl gV kV bV .nil pass0 (pa_cons (pv 0) pa_nil))) pa_nil)))), ?_⟩
    refine ⟨_, rfl, (m : Int), rfl, by omega, by omega, fun D hD => ?_⟩
    refine lc_draw (K := K) (walk_range (lo := 0) (n := m)) frD (fun _ f => FrV f) noL_frD (by omega) hU hD (fun _ _ => trivial) (fun _ _ _ _ y => y.1) (fun _ => rfl) ?_ ?_
    · intro i x H5 Qk hi yy k5 u5 kk
      exact ⟨_, rfl, l, rfl, u5, fun H6 v f k6 u6 dq ok => kk v f H6 k6 u6 dq ok⟩
    · intro H5 xs fs k5 u5 bD dqs hlen hok
      refine ⟨D, xs, rfl, .inl ⟨SqL.of bD, fun tp htp => ?_⟩⟩
      have s6 := Same.new (o := .tup xs) htp
      exact q _ _ fs (k5.trans s6.kept) (u5.same s6) (.tup (SqT.of upd_same) (dqs.same s6)) hlen fun f hf => by
        obtain ⟨i, hi⟩ := List.mem_iff_getElem?.mp hf
        exact hok i f hi
end
end Ca
set_option Elab.async false
set_option linter.all false
set_option maxRecDepth 100000
set_option maxHeartbeats 4000000
namespace Ca
open PySem L2
/-! ### a drawn fraction within a stretch -/
def InF (p f : Int × Int) : Prop := 0 < f.2 ∧ f.2 ≤ 97 ∧ p.1 * f.2 ≤ f.1 ∧ f.1 ≤ p.2 * f.2 ∧ Nat.gcd f.1.natAbs f.2.natAbs = 1
def spWithin (K : PySem.W.Frag) : Sp := fun vs H Q _ => ∃ (l : Addr) (v : V) (p : Int × Int), vs = [.ref l, v] ∧ Urn H l ∧ Dq K H v (strD p) ∧ inT p ∧ ∀ H' z f, Kept l H H' → Urn H' l → Dq K H' z (frD f) → InF p f → Q z H'
theorem inF_of {lo hi m d p q : Int} (hm : 0 < m) (hm2 : m ≤ 97) (d0 : 0 ≤ d) (d1 : d ≤ (hi - lo) * m) (h : Red (lo * m + d) m p q) : InF (lo, hi) (p, q) := by
  obtain ⟨g, hg, e1, e2⟩ := h.ex
  have hq := h.pos
  refine ⟨hq, ?_, ?_, ?_, h.cop⟩
  · have : q * 1 ≤ q * g := Int.mul_le_mul_of_nonneg_left (by omega) (Int.le_of_lt hq)
    show q ≤ 97
    omega
  · show lo * q ≤ p
    refine Int.le_of_mul_le_mul_right ?_ hg
    rw [Int.mul_assoc, e2, e1]
    omega
  · show p ≤ hi * q
    refine Int.le_of_mul_le_mul_right ?_ hg
    rw [Int.mul_assoc hi, e2, e1]
    rw [Int.sub_mul] at d1
    omega
section
variable {P : Program} {w : World} {K : PySem.W.Frag} {mg : Str → Option Value} {base : Heap}
abbrev NWi : List Str := ["_law_urn_here", "_law_pair", "_law_low_here", "_law_high", "_law_parts"]
theorem scWithin : FnScope NWi ["_law_urn_here", "_law_pair"] (defScope sLawWithin) := ⟨rfl, rfl, rfl, by decide +kernel, rfl, by decide +kernel, by decide +kernel⟩
theorem ok_within {f fD fF fL : Addr} {fd fdD fdF fdL : FuncData} (F : FnT K "_law_within" sLawWithin f fd)
    (gD : mg "_law_dip" = some (.ref fD)) (GD : FnOk P w K mg base CX0 1 fD fdD ["_law_urn_here", "_law_top"] spDip) (kD : PySem.W.keepIn K (.ref fD) = true) (bD : Binds K fdD ["_law_urn_here", "_law_top"] [])
    (gF : mg "_law_from" = some (.ref fF)) (GF : FnOk P w K mg base CX0 2 fF fdF ["_law_urn_here", "_law_some"] (spFrom K)) (kF : PySem.W.keepIn K (.ref fF) = true) (bF : Binds K fdF ["_law_urn_here", "_law_some"] [])
    (gL : mg "_law_low" = some (.ref fL)) (GL : FnOk P w K mg base CX0 2 fL fdL ["_law_top", "_law_bottom"] (spLow K)) (kL : PySem.W.keepIn K (.ref fL) = true) (bL : Binds K fdL ["_law_top", "_law_bottom"] []) :
    FnOk P w K mg base CX0 3 f fd ["_law_urn_here", "_law_pair"] (spWithin K) := by
  refine F.ok scWithin (fun vs H Q E h => ?_) (fun cdv A outer s H vs Q E hr h => ?_)
  · obtain ⟨l, v, p, rfl, _⟩ := h
    rfl
  · obtain ⟨l, v, ⟨lo, hi⟩, rfl, hU, dv, hT, q⟩ := h
    have nd := scWithin.nd
    have hr1 : Room 1 _ := hr.mono (by decide)
    refine ⟨_, PSs.nox (pss_cons (ps_asg (pv 1) (pg_tup rfl (pgs_cons (pg_name (i := 2) nd rfl (.inl rfl)) (pgs_cons (pg_name (i := 3) nd rfl (.inl rfl)) pgs_nil))))
      (pss_cons (ps_set (i := 4) nd rfl (.inl rfl) (pe_call GF hr rfl gF kF bF .nil pass0 (pa_cons (pv 0) (pa_cons (pe_lst (pa_cons pe_int (pa_cons pe_int (pa_cons pe_int (pa_cons pe_int (pa_cons pe_int pa_nil)))))) pa_nil))))
      (pss_one (ps_ret (pe_call GL hr rfl gL kL bL .nil pass0 (pa_cons (pe_op op_add (pe_op op_mulW (pv 2) (pv 4)) (pe_call GD hr1 rfl gD kD bD .nil pass0 (pa_cons (pv 0) (pa_cons (pe_op op_add (pe_op op_mulW (pe_op op_sub (pv 3) (pv 2)) (pv 4)) pe_int) pa_nil))))
        (pa_cons (pv 4) pa_nil))))))), ?_⟩
    obtain ⟨i1, i2, i3⟩ := hT
    replace i1 : -10000 ≤ lo := i1
    replace i2 : lo ≤ hi := i2
    replace i3 : hi ≤ 10000 := i3
    obtain ⟨b, xs, rfl, hb1, hb2, _⟩ := tup_len dv
    cases hb2 with
    | @cons w1 _ _ _ e1 r1 =>
    cases r1 with
    | @cons w2 _ _ _ e2 r2 =>
    cases r2
    cases e1
    cases e2
    refine ⟨_, rfl, b, _, rfl, hb1, rfl, _, _, rfl, _, _, rfl, rfl, ?_⟩
    refine ⟨_, rfl, by show 5 ≤ sizeLine; decide, fun p hp => ?_⟩
    have s2 := Same.new (o := .lst [.int 1, .int 2, .int 3, .int 8, .int 97]) hp
    obtain ⟨uo, huo⟩ := hU.some
    refine ⟨l, p, _, rfl, hU.same s2, upd_same, (ne_of_none huo hp).symm, by show 0 < 5; decide, by show 5 < 1000; decide, fun H3 i v hv k3 u3 => ?_⟩
    obtain ⟨m, hm, rfl⟩ := ints_get (zs := [1, 2, 3, 8, 97]) hv
    have hm1 : 0 < m ∧ m ≤ 97 := by
      simp only [List.mem_cons, List.mem_nil_iff, or_false] at hm
      omega
    obtain ⟨m0, m1⟩ := hm1
    have mb : m.natAbs < 2 ^ 7 := by show _ < 128; omega
    have lb : lo.natAbs < 2 ^ 14 := by show _ < 16384; omega
    have wb : (hi - lo).natAbs < 2 ^ 15 := by show _ < 32768; omega
    have w0 : 0 ≤ (hi - lo) * m := Int.mul_nonneg (by omega) (by omega)
    have w1 : (hi - lo) * m ≤ 20000 * 97 := Int.mul_le_mul (by omega) m1 (by omega) (by decide)
    refine ⟨_, rfl, _, rfl, _, _, rfl, rfl, wide_mul lb mb (by decide) (by decide) (by decide), _, rfl, _, rfl, _, rfl, _, _, rfl, rfl, _, rfl, _, _, rfl, rfl, wide_mul wb mb (by decide) (by decide) (by decide), _, _, rfl, rfl, l, _, rfl, u3, by show 0 < (hi - lo) * m + 1; omega, by show (hi - lo) * m + 1 < 1073741824; omega, fun H4 d k4 u4 d0 d1 => ?_⟩
    replace d1 : d < (hi - lo) * m + 1 := d1
    refine ⟨_, _, rfl, rfl, _, rfl, _, _, rfl, m0, lt_pow mb (by decide), fun H5 y p5 q5 s5 dy hR => ?_⟩
    exact q H5 y (p5, q5) (s2.kept.trans (k3.trans (k4.trans s5.kept))) (u4.same s5) dy (inF_of m0 m1 d0 (by omega) hR)
end
end Ca
set_option Elab.async false
set_option linter.all false
set_option maxRecDepth 100000
set_option maxHeartbeats 4000000
namespace Ca
open PySem L2
/-! ### a drawn member -/
abbrev Mate : Type := List (Int × Int) × (Int × Int)
def mateD (t : Mate) : PyData := .tuple [frsD t.1, frD t.2]
inductive InFs : List (Int × Int) → List (Int × Int) → Prop
  | nil : InFs [] []
  | cons {p f : Int × Int} {ps fs : List (Int × Int)} : InF p f → InFs ps fs → InFs (p :: ps) (f :: fs)
theorem InFs.len : ∀ {ps fs : List (Int × Int)}, InFs ps fs → fs.length = ps.length
  | _, _, .nil => rfl
  | _, _, .cons _ b => by rw [List.length_cons, List.length_cons, b.len]
theorem InFs.app : ∀ {ps fs qs gs : List (Int × Int)}, InFs ps fs → InFs qs gs → InFs (ps ++ qs) (fs ++ gs)
  | _, _, _, _, .nil, h => h
  | _, _, _, _, .cons a b, h => .cons a (b.app h)
structure InM (r : Rw) (t : Mate) : Prop where
  ps : InFs r.parts t.1
  bd : InF r.bd t.2
inductive InMs : List Rw → List Mate → Prop
  | nil : InMs [] []
  | cons {r : Rw} {t : Mate} {rs : List Rw} {ts : List Mate} : InM r t → InMs rs ts → InMs (r :: rs) (t :: ts)
theorem InMs.len : ∀ {rs : List Rw} {ts : List Mate}, InMs rs ts → ts.length = rs.length
  | _, _, .nil => rfl
  | _, _, .cons _ b => by rw [List.length_cons, List.length_cons, b.len]
theorem InMs.app : ∀ {rs : List Rw} {ts : List Mate} {qs : List Rw} {us : List Mate}, InMs rs ts → InMs qs us → InMs (rs ++ qs) (ts ++ us)
  | _, _, _, _, .nil, h => h
  | _, _, _, _, .cons a b, h => .cons a (b.app h)
theorem noL_frs2 (fs : List (Int × Int)) : noL (frsD fs) = true := noLs_map frD noL_frD fs
theorem noL_mate (t : Mate) : noL (mateD t) = true := by
  unfold mateD
  simp only [noL, noLs, noL_frs2, noL_frD]
  rfl
def spMemberD (K : PySem.W.Frag) : Sp := fun vs H Q _ => ∃ (l c : Addr) (ns : List Str) (rs : List Rw), vs = [.ref l, .ref c] ∧ Urn H l ∧ Dq K H (.ref c) (caseD ns rs) ∧ Lines rs ns.length ∧ ns.length ≤ 3 ∧
  ∀ H' z ts, Kept l H H' → Urn H' l → Dq K H' z (.tuple (ts.map mateD)) → InMs rs ts → Q z H'
section
variable {P : Program} {w : World} {K : PySem.W.Frag} {mg : Str → Option Value} {base : Heap}
abbrev NMd : List Str := ["_law_urn_here", "_law_case_here", "_law_found", "_law_title", "_law_parts", "_law_end", "_law_pair"]
theorem scMd : FnScope NMd ["_law_urn_here", "_law_case_here"] (defScope sLawMember) := ⟨rfl, rfl, rfl, by decide +kernel, rfl, by decide +kernel, by decide +kernel⟩
theorem ok_memberD {f fW : Addr} {fd fdW : FuncData} (F : FnT K "_law_member" sLawMember f fd) (B : Bn mg)
    (gW : mg "_law_within" = some (.ref fW)) (GW : FnOk P w K mg base CX0 3 fW fdW ["_law_urn_here", "_law_pair"] (spWithin K)) (kW : PySem.W.keepIn K (.ref fW) = true) (bW : Binds K fdW ["_law_urn_here", "_law_pair"] []) :
    FnOk P w K mg base CX0 4 f fd ["_law_urn_here", "_law_case_here"] (spMemberD K) := by
  refine F.ok scMd (fun vs H Q E h => ?_) (fun cdv A outer s H vs Q E hr h => ?_)
  · obtain ⟨l, c, ns, rs, rfl, _⟩ := h
    rfl
  · obtain ⟨l, c, ns, rs, rfl, hU, dC, hL, n3, q⟩ := h
    have nd := scMd.nd
    refine ⟨_, PSs.nox (pss_cons (ps_set (i := 2) nd rfl (.inl rfl) (pe_lst pa_nil))
      (pss_cons (ps_for PassesOwn.never rfl (pi_tup (pe_ix ix_tup (pv 1) pe_int (fun _ _ => rfl))) (pg_tup rfl (pgs_cons (pg_name (i := 3) nd rfl (.inl rfl)) (pgs_cons (pg_name (i := 4) nd rfl (.inl rfl)) (pgs_cons (pg_name (i := 5) nd rfl (.inl rfl)) pgs_nil))))
        (pss_one (ps_expr (pe_bm PySem.F.plainAttrs_list PySem.F.slot_list_append PySem.F.type_list_append mt_append (pv 2) (pa_cons (pe_tup
          (pa_cons (pe_callTy call_tuple_of (by rfl) B.tup (by decide +kernel) (pa_cons (pe_lc (own := [("_law_pair", 6)]) (g := gName 6) (tt := tYes) rfl nd (pi_tup (pv 4))
              (blkOk_by (own := [("_law_pair", 6)]) (N := NMd) (sc := defScope sLawMember) (by decide +kernel)) (fun _ _ _ _ _ => pg_name (i := 6) nd rfl (Or.inl rfl)) (fun _ _ _ _ _ => pts_nil)
              (fun _ _ _ _ _ => pe_call GW hr rfl gW kW bW .nil pass0 (pa_cons (pv 0) (pa_cons (pv 6) pa_nil)))) pa_nil))
          (pa_cons (pe_call GW hr rfl gW kW bW .nil pass0 (pa_cons (pv 0) (pa_cons (pv 5) pa_nil))) pa_nil))) pa_nil)))))
      (pss_one (ps_ret (pe_callTy call_tuple_of (by rfl) B.tup (by decide +kernel) (pa_cons (pv 2) pa_nil)))))), ?_⟩
    have two : 2 ≤ sizeLine := by decide
    have r6 := hL.hi
    obtain ⟨us0, hus0⟩ := urn_lst hU
    obtain ⟨c', u, r, ec, hsq, du, dr⟩ := case_at dC
    cases ec
    obtain ⟨r', ys, er, g1, g2, gl⟩ := tup_len dr
    cases er
    rw [List.length_map] at gl
    refine ⟨by show 0 ≤ sizeLine; decide, fun D hD => ?_⟩
    have s0 := Same.new (o := .lst []) hD
    have nDl : D ≠ l := (ne_of_none hus0 hD).symm
    refine ⟨_, rfl, c, _, 1, _, rfl, rfl, same_sqt s0 hsq, atI_nat (j := 1) rfl, r, rfl, ⟨_, same_sqt s0 g1⟩, ?_⟩
    refine for_it (walk_tup (K := K) (a := r) (xs := ys)) (fun i σ' H' => i ≤ rs.length ∧ (∃ o3 o4 o5, σ' = [some (.ref l), some (.ref c), some (.ref D), o3, o4, o5, none]) ∧ Kept l H H' ∧ Urn H' l ∧ ∃ xs ts, H' D = some (.lst xs) ∧ DqAll K H' xs (ts.map mateD) ∧ InMs (rs.take i) ts)
      ⟨Nat.zero_le _, ⟨_, _, _, rfl⟩, s0.kept, hU.same s0, [], [], upd_same, .nil, .nil⟩ (fun i σ' H' hi p => sqt_but hus0 p.2.2.1 g1) ?_ ?_
    · rintro i z _ _ H1 hi ⟨_, ⟨o3, o4, o5, rfl⟩, k1, u1, xs, ts, bD, dxs, hts⟩ ⟨rfl, hz⟩
      have hi2 : i < rs.length := by rw [← gl]; exact hi
      obtain ⟨d, hd, dz⟩ := (DqAll.but hus0 k1 (noLs_map rowD noL_row rs) g2).get hz
      rw [List.getElem?_map, List.getElem?_eq_getElem hi2] at hd
      cases hd
      have hok := hL.ok _ (List.getElem_mem hi2)
      have etk : rs.take (i + 1) = rs.take i ++ [rs[i]] := by
        rw [List.take_succ, List.getElem?_eq_getElem hi2]
        rfl
      have lts : ts.length = i := by rw [hts.len, List.length_take]; omega
      have lxs : xs.length = i := by rw [dxs.len, List.length_map, lts]
      generalize rs[i] = R at dz hok etk
      have hRl := (row_name hok).2
      have hT := row_T hok
      obtain ⟨a, v2, v3, rfl, ha, d2, d3, _⟩ := row_at dz
      obtain ⟨e, es, rfl, he1, he2, hel⟩ := tup_len d2
      rw [List.length_map] at hel
      obtain ⟨us1, hus1⟩ := urn_lst u1
      refine ⟨a, _, rfl, ha, rfl, _, _, rfl, _, _, rfl, _, _, rfl, rfl, ?_⟩
      refine ⟨_, rfl, .inl ⟨rfl, _, SqL.of bD⟩, _, rfl, e, rfl, ⟨_, he1⟩, fun E1 hE => ?_⟩
      have nEl : E1 ≠ l := (ne_of_none hus1 hE).symm
      refine lc_it (walk_tup (K := K) (a := e) (xs := es)) (fun j H' => Kept l H1 H' ∧ Urn H' l ∧ ∃ us fs, H' E1 = some (.lst us) ∧ DqAll K H' us (fs.map frD) ∧ InFs (R.parts.take j) fs) ⟨(Same.new hE).kept, u1.same (Same.new hE), [], [], upd_same, .nil, .nil⟩ (fun j H' hj p => sqt_but hus1 p.1 he1) ?_ ?_
      · rintro j y _ H5 hj ⟨k5, u5, us, fs, bE, dus, hfs⟩ ⟨rfl, hy⟩
        have hj2 : j < R.parts.length := by rw [← hel]; exact hj
        obtain ⟨d, hd, dy⟩ := (DqAll.but hus1 k5 (noLs_map strD noL_strD _) he2).get hy
        rw [List.getElem?_map, List.getElem?_eq_getElem hj2] at hd
        cases hd
        have hTj := hT _ (List.mem_append_left _ (List.getElem_mem hj2))
        have etj : R.parts.take (j + 1) = R.parts.take j ++ [R.parts[j]] := by
          rw [List.take_succ, List.getElem?_eq_getElem hj2]
          rfl
        rw [etj]
        generalize R.parts[j] = pr at dy hTj ⊢
        obtain ⟨us5, hus5⟩ := urn_lst u5
        refine ⟨rfl, rdYes ⟨_, rfl, _, rfl, l, y, pr, rfl, u5, dy, hTj, fun H6 z f k6 u6 dz hin => ?_⟩⟩
        have b6 := k6 _ _ nEl bE
        have kE : ∀ zs : List V, Kept E1 H6 (upd H6 E1 (.lst zs)) := fun zs b o n e => by rw [upd_ne n]; exact e
        have lus : us.length ≤ 3 := by
          have := dus.len
          rw [List.length_map, hfs.len, List.length_take] at this
          omega
        refine ⟨_, b6, Nat.lt_of_le_of_lt lus (by decide), fun b o n e => ?_, ?_, us ++ [z], fs ++ [f], upd_same, ?_, hfs.app (.cons hin .nil)⟩
        · rw [upd_ne (ne_of_none e hE)]
          exact k6 _ _ n (k5 _ _ n e)
        · obtain ⟨g, y, n, a1, a2, a3, a4⟩ := u6
          exact ⟨g, y, n, a1, a2, a3, by rw [upd_ne nEl.symm]; exact a4⟩
        · rw [List.map_append]
          exact (DqAll.but b6 (kE _) (noLs_map frD noL_frD _) (DqAll.but hus5 k6 (noLs_map frD noL_frD _) dus)).app (.cons (Dq.but b6 (kE _) (noL_frD f) dz) .nil)
      rintro H6 ⟨k6, u6, us, fs, bE, dus, hfs⟩
      rw [hel, List.take_length] at hfs
      obtain ⟨us6, hus6⟩ := urn_lst u6
      refine ⟨E1, _, rfl, .inl ⟨SqL.of bE, fun p1 hp1 => ?_⟩⟩
      have s7 := Same.new (o := .tup us) hp1
      have dF : Dq K (upd H6 p1 (.tup us)) (.ref p1) (frsD fs) := .tup (SqT.of upd_same) (dus.same s7)
      have u7 := u6.same s7
      have bD7 := s7 _ _ (k6 _ _ nDl bD)
      have dx7 := (DqAll.but hus1 k6 (noLs_map mateD noL_mate ts) dxs).same s7
      have d37 := (Dq.but hus1 k6 (noL_strD _) d3).same s7
      have k7 := k6.trans s7.kept
      generalize upd H6 p1 (.tup us) = H7 at s7 dF u7 bD7 dx7 d37 k7 ⊢
      obtain ⟨us7, hus7⟩ := urn_lst u7
      refine ⟨_, rfl, _, rfl, l, v3, R.bd, rfl, u7, d37, hT R.bd (List.mem_append_right _ (List.mem_singleton.mpr rfl)), fun H8 z2 f2 k8 u8 dz2 hin2 => ⟨two, fun t ht => ?_⟩⟩
      have s9 := Same.new (o := .tup [.ref p1, z2]) ht
      have bD9 := s9 _ _ (k8 _ _ nDl bD7)
      have dx9 := (DqAll.but hus7 k8 (noLs_map mateD noL_mate ts) dx7).same s9
      have dF9 := (Dq.but hus7 k8 (noL_frs2 fs) dF).same s9
      have dT : Dq K (upd H8 t (.tup [.ref p1, z2])) (.ref t) (mateD (fs, f2)) := .tup (SqT.of upd_same) (.cons dF9 (.cons (dz2.same s9) .nil))
      have u9 := u8.same s9
      have k9 := k1.trans (k7.trans (k8.trans s9.kept))
      generalize upd H8 t (.tup [.ref p1, z2]) = H9 at s9 bD9 dx9 dT u9 k9 ⊢
      have kD : ∀ zs : List V, Kept D H9 (upd H9 D (.lst zs)) := fun zs b o n e => by rw [upd_ne n]; exact e
      refine ⟨D, _, _, rfl, rfl, bD9, by rw [lxs]; exact Nat.lt_trans (show i < 7 by omega) (by decide), hi2, ⟨_, _, _, rfl⟩, fun b o n e => ?_, ?_, xs ++ [.ref t], ts ++ [(fs, f2)], upd_same, ?_, ?_⟩
      · rw [upd_ne (ne_of_none e hD)]
        exact k9 _ _ n e
      · obtain ⟨g, y, n, a1, a2, a3, a4⟩ := u9
        exact ⟨g, y, n, a1, a2, a3, by rw [upd_ne nDl.symm]; exact a4⟩
      · rw [List.map_append]
        exact (DqAll.but bD9 (kD _) (noLs_map mateD noL_mate _) dx9).app (.cons (Dq.but bD9 (kD _) (noL_mate _) dT) .nil)
      · rw [etk]
        exact hts.app (.cons ⟨hfs, hin2⟩ .nil)
    · rintro _ H1 ⟨_, ⟨o3, o4, o5, rfl⟩, k1, u1, xs, ts, bD, dxs, hts⟩
      rw [gl, List.take_length] at hts
      refine ⟨_, rfl, D, _, rfl, .inl ⟨SqL.of bD, fun tp htp => ?_⟩⟩
      have s2 := Same.new (o := .tup xs) htp
      exact q _ _ ts (k1.trans s2.kept) (u1.same s2) (.tup (SqT.of upd_same) (dxs.same s2)) hts
end
end Ca
set_option Elab.async false
set_option linter.all false
set_option maxRecDepth 100000
set_option maxHeartbeats 4000000
namespace Ca
open PySem L2
/-! ### the room of a member lies between the told ones: one step -/
theorem betw_eq (a b p q e T t W G X : Int) (hX : q * X = p * W) : (T * (b * q) - a * p * t) * W - t * (b * q) * (G - e * X) = b * q * (T * W - t * G) + t * W * (p * (b * e - a)) := by
  have h1 : t * (b * q) * (e * X) = t * (b * e) * (q * X) := by
    simp only [Int.mul_assoc, Int.mul_comm, Int.mul_left_comm]
  have h2 : (T * (b * q) - a * p * t) * W = T * (b * q) * W - a * p * t * W := Int.sub_mul _ _ _
  have h3 : t * (b * q) * (G - e * X) = t * (b * q) * G - t * (b * q) * (e * X) := Int.mul_sub _ _ _
  have h4 : b * q * (T * W - t * G) = b * q * (T * W) - b * q * (t * G) := Int.mul_sub _ _ _
  have h5 : p * (b * e - a) = p * (b * e) - p * a := Int.mul_sub _ _ _
  have h6 : t * W * (p * (b * e) - p * a) = t * W * (p * (b * e)) - t * W * (p * a) := Int.mul_sub _ _ _
  rw [h2, h3, h1, hX, h4, h5, h6]
  have e1 : T * (b * q) * W = b * q * (T * W) := by simp only [Int.mul_assoc, Int.mul_comm, Int.mul_left_comm]
  have e2 : a * p * t * W = t * W * (p * a) := by simp only [Int.mul_assoc, Int.mul_comm, Int.mul_left_comm]
  have e3 : t * (b * q) * G = b * q * (t * G) := by simp only [Int.mul_assoc, Int.mul_comm, Int.mul_left_comm]
  have e4 : t * (b * e) * (p * W) = t * W * (p * (b * e)) := by simp only [Int.mul_assoc, Int.mul_comm, Int.mul_left_comm]
  rw [e1, e2, e3, e4]
  omega
theorem betw_low {a b p q e T t W G X : Int} (hX : q * X = p * W) (hb : 0 < b) (hq : 0 < q) (ht : 0 < t) (hW : 0 < W) (h : t * G ≤ T * W) (he : 0 ≤ p * (b * e - a)) : t * (b * q) * (G - e * X) ≤ (T * (b * q) - a * p * t) * W := by
  have k := betw_eq a b p q e T t W G X hX
  have k1 : 0 ≤ b * q * (T * W - t * G) := Int.mul_nonneg (Int.le_of_lt (Int.mul_pos hb hq)) (by omega)
  have k2 : 0 ≤ t * W * (p * (b * e - a)) := Int.mul_nonneg (Int.le_of_lt (Int.mul_pos ht hW)) he
  omega
theorem betw_high {a b p q e T t W G X : Int} (hX : q * X = p * W) (hb : 0 < b) (hq : 0 < q) (ht : 0 < t) (hW : 0 < W) (h : T * W ≤ t * G) (he : p * (b * e - a) ≤ 0) : (T * (b * q) - a * p * t) * W ≤ t * (b * q) * (G - e * X) := by
  have k := betw_eq a b p q e T t W G X hX
  have k1 : b * q * (T * W - t * G) ≤ 0 := Int.mul_nonpos_of_nonneg_of_nonpos (Int.le_of_lt (Int.mul_pos hb hq)) (by omega)
  have k2 : t * W * (p * (b * e - a)) ≤ 0 := Int.mul_nonpos_of_nonneg_of_nonpos (Int.le_of_lt (Int.mul_pos ht hW)) he
  omega
theorem ends_low {pr f : Int × Int} (p : Int) (h : InF pr f) : 0 ≤ p * (f.2 * (if 1 * p > 0 then pr.2 else pr.1) - f.1) := by
  obtain ⟨h1, _, h3, h4, _⟩ := h
  split
  · exact Int.mul_nonneg (by omega) (by rw [Int.mul_comm]; omega)
  · exact Int.mul_nonneg_of_nonpos_of_nonpos (by omega) (by rw [Int.mul_comm]; omega)
theorem ends_high {pr f : Int × Int} (p : Int) (h : InF pr f) : p * (f.2 * (if -1 * p > 0 then pr.2 else pr.1) - f.1) ≤ 0 := by
  obtain ⟨h1, _, h3, h4, _⟩ := h
  split
  · exact Int.mul_nonpos_of_nonpos_of_nonneg (by omega) (by rw [Int.mul_comm]; omega)
  · exact Int.mul_nonpos_of_nonneg_of_nonpos (by omega) (by rw [Int.mul_comm]; omega)
end Ca
set_option Elab.async false
set_option linter.all false
set_option maxRecDepth 100000
set_option maxHeartbeats 4000000
namespace Ca
open PySem L2
/-! ### the whole numbers around a fraction -/
def aroundP (f : Int × Int) : Int × Int := (f.1 / f.2, 0 - (0 - f.1) / f.2)
theorem around_ok {p f : Int × Int} (h : InF p f) : p.1 ≤ (aroundP f).1 ∧ (aroundP f).1 ≤ (aroundP f).2 ∧ (aroundP f).2 ≤ p.2 ∧ (aroundP f).1 * f.2 ≤ f.1 ∧ f.1 ≤ (aroundP f).2 * f.2 := by
  obtain ⟨h1, _, h3, h4, _⟩ := h
  have a1 : p.1 ≤ f.1 / f.2 := Int.le_ediv_of_mul_le h1 h3
  have a2 : f.1 / f.2 * f.2 ≤ f.1 := Int.ediv_mul_le _ (by omega)
  have a3 : -p.2 ≤ (0 - f.1) / f.2 := Int.le_ediv_of_mul_le h1 (by rw [Int.neg_mul]; omega)
  have a4 : (0 - f.1) / f.2 * f.2 ≤ 0 - f.1 := Int.ediv_mul_le _ (by omega)
  have a5 : f.1 ≤ (0 - (0 - f.1) / f.2) * f.2 := by
    rw [Int.sub_mul, Int.zero_mul]
    omega
  refine ⟨a1, ?_, ?_, a2, a5⟩
  · show f.1 / f.2 ≤ 0 - (0 - f.1) / f.2
    exact Int.le_of_mul_le_mul_right (Int.le_trans a2 a5) h1
  · show 0 - (0 - f.1) / f.2 ≤ p.2
    omega
theorem around_T {p f : Int × Int} (h : InF p f) (hp : inT p) : inT (aroundP f) := by
  obtain ⟨a1, a2, a3, _⟩ := around_ok h
  obtain ⟨h1, h2, h3⟩ := hp
  exact ⟨by omega, a2, by omega⟩
def spAround (K : PySem.W.Frag) : Sp := fun vs H Q _ => ∃ (v : V) (f : Int × Int), vs = [v] ∧ Dq K H v (frD f) ∧ 0 < f.2 ∧ f.2 ≤ 97 ∧ ∀ H' z, Same H H' → Dq K H' z (strD (aroundP f)) → Q z H'
section
variable {P : Program} {w : World} {K : PySem.W.Frag} {mg : Str → Option Value} {base : Heap}
theorem scAround : FnScope ["_law_value_here"] ["_law_value_here"] (defScope sLawAround) := ⟨rfl, rfl, rfl, by decide +kernel, rfl, by decide +kernel, by decide +kernel⟩
theorem ok_around {f : Addr} {fd : FuncData} (F : FnT K "_law_around" sLawAround f fd) : FnOk P w K mg base CX0 1 f fd ["_law_value_here"] (spAround K) := by
  refine F.ok scAround (fun vs H Q E h => ?_) (fun cdv A outer s H vs Q E hr h => ?_)
  · obtain ⟨v, f, rfl, _⟩ := h
    rfl
  · obtain ⟨v, f, rfl, dv, h1, h2, q⟩ := h
    refine ⟨_, PSs.nox (pss_one (ps_ret (pe_tup (pa_cons (pe_op op_fdivW (pe_ix ix_tup (pv 0) pe_int (fun _ _ => rfl)) (pe_ix ix_tup (pv 0) pe_int (fun _ _ => rfl)))
      (pa_cons (pe_op op_sub pe_int (pe_op op_fdivW (pe_op op_sub pe_int (pe_ix ix_tup (pv 0) pe_int (fun _ _ => rfl))) (pe_ix ix_tup (pv 0) pe_int (fun _ _ => rfl)))) pa_nil))))), ?_⟩
    obtain ⟨a, rfl, ha⟩ := fr_at dv
    have hc : ∀ x : Int, CDivW x f.2 := fun x => ⟨h1, Nat.lt_of_le_of_lt (show f.2.natAbs.log2 ≤ f.2.natAbs from Nat.log2_le_self _) (by omega)⟩
    refine ⟨_, rfl, a, _, 0, _, rfl, rfl, ha, atI_nat (j := 0) rfl, _, rfl, a, _, 1, _, rfl, rfl, ha, atI_nat (j := 1) rfl, _, _, rfl, rfl, hc _,
      _, rfl, a, _, 0, _, rfl, rfl, ha, atI_nat (j := 0) rfl, _, _, rfl, rfl, _, rfl, a, _, 1, _, rfl, rfl, ha, atI_nat (j := 1) rfl, _, _, rfl, rfl, hc _, _, _, rfl, rfl, by show 2 ≤ sizeLine; decide, fun t ht => ?_⟩
    exact q _ _ (Same.new ht) (.tup (SqT.of upd_same) (.cons (.int _) (.cons (.int _) .nil)))
end
end Ca
set_option Elab.async false
set_option linter.all false
set_option maxRecDepth 100000
set_option maxHeartbeats 4000000
namespace Ca
open PySem L2
/-! ### the system around a member -/
def closeR (r : Rw) (t : Mate) : Rw := ⟨r.name, t.1.map aroundP, aroundP t.2⟩
def closerR (rs : List Rw) (ts : List Mate) : List Rw := List.zipWith closeR rs ts
theorem InFs.get : ∀ {ps fs : List (Int × Int)} {i : Nat} (h : InFs ps fs) (h1 : i < ps.length) (h2 : i < fs.length), InF ps[i] fs[i]
  | _, _, 0, .cons a _, _, _ => a
  | _, _, i + 1, .cons _ b, h1, h2 => b.get (i := i) (Nat.lt_of_succ_lt_succ h1) (Nat.lt_of_succ_lt_succ h2)
theorem InFs.arounds : ∀ {ps fs : List (Int × Int)}, InFs ps fs → (∀ p ∈ ps, inT p) → ∀ q ∈ fs.map aroundP, inT q
  | _, _, .nil, _, _, z => nomatch z
  | _, _, .cons (p := p) (f := f) a b, h, q, z => by
    rw [List.map_cons] at z
    rcases List.mem_cons.mp z with rfl | z
    · exact around_T a (h p (List.mem_cons_self ..))
    · exact b.arounds (fun x y => h x (List.mem_cons_of_mem _ y)) q z
theorem InMs.get : ∀ {rs : List Rw} {ts : List Mate} {i : Nat} (h : InMs rs ts) (h1 : i < rs.length) (h2 : i < ts.length), InM rs[i] ts[i]
  | _, _, 0, .cons a _, _, _ => a
  | _, _, i + 1, .cons _ b, h1, h2 => b.get (i := i) (Nat.lt_of_succ_lt_succ h1) (Nat.lt_of_succ_lt_succ h2)
theorem close_ok {r : Rw} {t : Mate} {m : Nat} (h : InM r t) (ok : isRowD (rowD r) m = true) : isRowD (rowD (closeR r t)) m = true := by
  have hn := row_name ok
  have hT := row_T ok
  refine row_ok hn.1 ?_ fun p hp => ?_
  · show (t.1.map aroundP).length = m
    rw [List.length_map, h.ps.len, hn.2]
  · have : inT p := by
      rcases List.mem_append.mp hp with z | z
      · exact h.ps.arounds (fun x y => hT x (List.mem_append_left _ y)) p z
      · rw [List.mem_singleton.mp z]
        exact around_T h.bd (hT r.bd (List.mem_append_right _ (List.mem_singleton.mpr rfl)))
    exact two_ok this.1 this.2.1 this.2.2
theorem closer_names : ∀ {rs : List Rw} {ts : List Mate}, InMs rs ts → (closerR rs ts).map Rw.name = rs.map Rw.name
  | _, _, .nil => rfl
  | _, _, .cons (r := r) (t := t) (rs := rs) (ts := ts) a b => by
    show r.name :: (closerR rs ts).map Rw.name = r.name :: rs.map Rw.name
    rw [closer_names b]
theorem closer_all {m : Nat} : ∀ {rs : List Rw} {ts : List Mate}, InMs rs ts → (∀ r ∈ rs, isRowD (rowD r) m = true) → ∀ q ∈ closerR rs ts, isRowD (rowD q) m = true
  | _, _, .nil, _, _, z => nomatch z
  | _, _, .cons (r := r) (t := t) (rs := rs) (ts := ts) a b, h, q, z => by
    have z2 : q ∈ closeR r t :: closerR rs ts := z
    rcases List.mem_cons.mp z2 with rfl | z2
    · exact close_ok a (h r (List.mem_cons_self ..))
    · exact closer_all b (fun x y => h x (List.mem_cons_of_mem _ y)) q z2
theorem closer_lines {rs : List Rw} {ts : List Mate} {m : Nat} (h : InMs rs ts) (L : Lines rs m) : Lines (closerR rs ts) m := by
  refine ⟨?_, closer_all h L.ok, ?_⟩
  · have := congrArg List.length (closer_names h)
    rw [List.length_map, List.length_map] at this
    rw [this]
    exact L.hi
  · rw [closer_names h]
    exact L.nd
def spCloser (K : PySem.W.Frag) (C : Addr) : Sp := fun vs H Q _ => ∃ (c : Addr) (v : V) (ns : List Str) (rs : List Rw) (ts : List Mate), vs = [.ref c, v] ∧ Dq K H (.ref c) (caseD ns rs) ∧ Folk ns ∧ Lines rs ns.length ∧ Dq K H v (.tuple (ts.map mateD)) ∧ InMs rs ts ∧
  ∀ H' y, Same H H' → SysAt K C H' y ns (closerR rs ts) → Q (.ref y) H'
section
variable {P : Program} {w : World} {K : PySem.W.Frag} {mg : Str → Option Value} {base : Heap} {C fI : Addr} {fdI : FuncData}
abbrev NCl : List Str := ["_law_case_here", "_law_mates", "_law_found", "_law_title", "_law_parts", "_law_end", "_law_numbers_here", "_law_bound_here", "_law_value_here"]
theorem scCl : FnScope NCl ["_law_case_here", "_law_mates"] (defScope sLawCloser) := ⟨rfl, rfl, rfl, by decide +kernel, rfl, by decide +kernel, by decide +kernel⟩
theorem ok_closer {f fA : Addr} {fd fdA : FuncData} (F : FnT K "_law_closer" sLawCloser f fd) (B : Bn mg) (mzip : mg "zip" = none) (M : Mk K C fI) (gS : mg "System" = some (.ref C))
    (GI : FnOk P w K mg base CX0 5 fI fdI ["self", "unknowns", "rows"] (spInit K C)) (bI : Binds K fdI ["self", "unknowns", "rows"] [])
    (gA : mg "_law_around" = some (.ref fA)) (GA : FnOk P w K mg base CX0 1 fA fdA ["_law_value_here"] (spAround K)) (kA : PySem.W.keepIn K (.ref fA) = true) (bA : Binds K fdA ["_law_value_here"] []) :
    FnOk P w K mg base CX0 7 f fd ["_law_case_here", "_law_mates"] (spCloser K C) := by
  refine F.ok scCl (fun vs H Q E h => ?_) (fun cdv A outer s H vs Q E hr h => ?_)
  · obtain ⟨c, v, ns, rs, ts, rfl, _⟩ := h
    rfl
  · obtain ⟨c, v, ns, rs, ts, rfl, dC, hN, hL, dv, hM, q⟩ := h
    have nd := scCl.nd
    have hr1 : Room 1 _ := hr.mono (by decide)
    refine ⟨_, PSs.nox (pss_cons (ps_set (i := 2) nd rfl (.inl rfl) (pe_lst pa_nil))
      (pss_cons (ps_for PassesOwn.never rfl (RZ.pi_zipA (by rfl) mzip (pa_cons (pe_ix ix_tup (pv 0) pe_int (fun _ _ => rfl)) (pa_cons (pv 1) pa_nil)))
          (pg_tup rfl (pgs_cons (pg_tup rfl (pgs_cons (pg_name (i := 3) nd rfl (.inl rfl)) (pgs_cons (pg_name (i := 4) nd rfl (.inl rfl)) (pgs_cons (pg_name (i := 5) nd rfl (.inl rfl)) pgs_nil)))) (pgs_cons (pg_tup rfl (pgs_cons (pg_name (i := 6) nd rfl (.inl rfl)) (pgs_cons (pg_name (i := 7) nd rfl (.inl rfl)) pgs_nil))) pgs_nil)))
        (pss_one (ps_expr (pe_bm PySem.F.plainAttrs_list PySem.F.slot_list_append PySem.F.type_list_append mt_append (pv 2) (pa_cons (pe_tup
          (pa_cons (pv 3)
          (pa_cons (pe_callTy call_tuple_of (by rfl) B.tup (by decide +kernel) (pa_cons (pe_lc (own := [("_law_value_here", 8)]) (g := gName 8) (tt := tYes) rfl nd (pi_tup (pv 6))
              (blkOk_by (own := [("_law_value_here", 8)]) (N := NCl) (sc := defScope sLawCloser) (by decide +kernel)) (fun _ _ _ _ _ => pg_name (i := 8) nd rfl (Or.inl rfl)) (fun _ _ _ _ _ => pts_nil)
              (fun _ _ _ _ _ => pe_call GA hr1 rfl gA kA bA .nil pass0 (pa_cons (pv 8) pa_nil))) pa_nil))
          (pa_cons (pe_call GA hr1 rfl gA kA bA .nil pass0 (pa_cons (pv 7) pa_nil)) pa_nil)))) pa_nil)))))
      (pss_one (ps_ret (pe_make M GI hr rfl gS bI .nil pass0 (pa_cons (pe_ix ix_tup (pv 0) pe_int (fun _ _ => rfl)) (pa_cons (pe_callTy call_tuple_of (by rfl) B.tup (by decide +kernel) (pa_cons (pv 2) pa_nil)) pa_nil))))))), ?_⟩
    have three : 3 ≤ sizeLine := by decide
    have r6 := hL.hi
    obtain ⟨c', u, r, ec, hsq, du, dr⟩ := case_at dC
    cases ec
    obtain ⟨r', ys, er, g1, g2, gl⟩ := tup_len dr
    cases er
    obtain ⟨m, ws, rfl, m1, m2, ml⟩ := tup_len dv
    rw [List.length_map] at gl ml
    have hml := hM.len
    refine ⟨by show 0 ≤ sizeLine; decide, fun D hD => ?_⟩
    have s0 := Same.new (o := .lst []) hD
    refine ⟨_, rfl, c, _, 1, _, rfl, rfl, same_sqt s0 hsq, atI_nat (j := 1) rfl, _, rfl, r, m, _, _, rfl, .inr ⟨same_sqt s0 g1, same_sqt s0 m1, ?_⟩⟩
    refine for_it (CaZ.walk_zt (K := K) (a := r) (b := m) (xs := ys) (ys := ws) (n := rs.length) gl (by omega)) (fun i σ' H' => i ≤ rs.length ∧ (∃ o3 o4 o5 o6 o7, σ' = [some (.ref c), some (.ref m), some (.ref D), o3, o4, o5, o6, o7, none]) ∧ Same H H' ∧ ∃ xs, H' D = some (.lst xs) ∧ xs.length = i ∧ DqAll K H' xs (((closerR rs ts).take i).map rowD))
      ⟨Nat.zero_le _, ⟨_, _, _, _, _, rfl⟩, s0, [], upd_same, rfl, .nil⟩ (fun i σ' H' hi p => ⟨same_sqt p.2.2.1 g1, same_sqt p.2.2.1 m1⟩) ?_ ?_
    · rintro i z _ H5 _ hi ⟨_, ⟨o3, o4, o5, o6, o7, rfl⟩, s5, xs, bD, lxs, dxs⟩ ⟨T, x1, y1, rfl, hT1, rfl, hx, hy⟩
      replace hy : ws[i]? = some y1 := hy
      have hi2 : i < rs.length := hi
      have hi3 : i < ts.length := by omega
      have s6 := Same.new (o := .tup [x1, y1]) hT1
      have e6 : upd H5 T (.tup [x1, y1]) T = some (.tup [x1, y1]) := upd_same
      generalize upd H5 T (.tup [x1, y1]) = H6 at s6 e6 ⊢
      have s56 := s5.trans s6
      obtain ⟨d, hd, dz⟩ := (g2.same s56).get hx
      rw [List.getElem?_map, List.getElem?_eq_getElem hi2] at hd
      cases hd
      obtain ⟨d', hd', dw⟩ := (m2.same s56).get hy
      rw [List.getElem?_map, List.getElem?_eq_getElem hi3] at hd'
      cases hd'
      have hIn := hM.get hi2 hi3
      have hok := hL.ok _ (List.getElem_mem hi2)
      have etk : (closerR rs ts).take (i + 1) = (closerR rs ts).take i ++ [closeR rs[i] ts[i]] := by
        have : (closerR rs ts)[i]? = some (closeR rs[i] ts[i]) := by
          unfold closerR
          rw [List.getElem?_zipWith, List.getElem?_eq_getElem hi2, List.getElem?_eq_getElem hi3]
        rw [List.take_succ, this]
        rfl
      rw [etk]
      generalize rs[i] = R at dz hIn hok ⊢
      generalize ts[i] = t at dw hIn ⊢
      obtain ⟨fs, fb⟩ := t
      have hRl := (row_name hok).2
      obtain ⟨a, v2, v3, rfl, ha, d2, d3, hnm⟩ := row_at dz
      obtain ⟨b, bs, rfl, hb1, hb2, _⟩ := tup_len dw
      cases hb2 with
      | @cons w1 _ _ _ q1 r1 =>
      cases r1 with
      | @cons w2 _ _ _ q2 r2 =>
      cases r2
      obtain ⟨e, es, rfl, he1, he2, hel⟩ := tup_len q1
      rw [List.length_map] at hel
      have lfs : fs.length ≤ 3 := by
        have e0 : fs.length = R.parts.length := hIn.ps.len
        have n3 := hN.hi
        omega
      refine ⟨T, _, rfl, SqT.of e6, rfl, _, _, rfl, ⟨a, _, rfl, ha, rfl, _, _, rfl, _, _, rfl, _, _, rfl, rfl, _, _, rfl, b, _, rfl, hb1, rfl, _, _, rfl, _, _, rfl, rfl, rfl, ?_⟩⟩
      have bD6 := s6 _ _ bD
      refine ⟨_, rfl, .inl ⟨rfl, _, SqL.of bD6⟩, _, rfl, _, rfl, e, rfl, ⟨_, he1⟩, fun E1 hE => ?_⟩
      refine lc_it (walk_tup (K := K) (a := e) (xs := es)) (fun j H' => Same H6 H' ∧ ∃ us, H' E1 = some (.lst us) ∧ us.length = j ∧ DqAll K H' us (((fs.take j).map aroundP).map strD)) ⟨Same.new hE, [], upd_same, rfl, .nil⟩ (fun j H' hj p => same_sqt p.1 he1) ?_ ?_
      · rintro j y _ H7 hj ⟨s7, us, bE, lus, dus⟩ ⟨rfl, hy2⟩
        have hj2 : j < fs.length := by rw [← hel]; exact hj
        have hj3 : j < R.parts.length := by rw [← hIn.ps.len]; exact hj2
        obtain ⟨d, hd, dy⟩ := (he2.same s7).get hy2
        rw [List.getElem?_map, List.getElem?_eq_getElem hj2] at hd
        cases hd
        have hf := hIn.ps.get hj3 hj2
        have etj : fs.take (j + 1) = fs.take j ++ [fs[j]] := by
          rw [List.take_succ, List.getElem?_eq_getElem hj2]
          rfl
        rw [etj]
        replace hf : InF R.parts[j] fs[j] := hf
        generalize fs[j] = f at dy hf ⊢
        refine ⟨rfl, rdYes ⟨_, rfl, y, f, rfl, dy, hf.1, hf.2.1, fun H8 z2 s8 dz2 => ?_⟩⟩
        have b8 := s8 _ _ bE
        have kE : ∀ zs : List V, Kept E1 H8 (upd H8 E1 (.lst zs)) := fun zs b o n e => by rw [upd_ne n]; exact e
        refine ⟨_, b8, by rw [lus]; exact Nat.lt_of_lt_of_le (show j < 4 by omega) (by decide), fun b o e => ?_, us ++ [z2], upd_same, by rw [List.length_append, lus]; rfl, ?_⟩
        · rw [upd_ne (ne_of_none e hE)]
          exact s8 _ _ (s7 _ _ e)
        · rw [List.map_append, List.map_append]
          exact (DqAll.but b8 (kE _) (noLs_map strD noL_strD _) (dus.same s8)).app (.cons (Dq.but b8 (kE _) (noL_strD _) dz2) .nil)
      rintro H7 ⟨s7, us, bE, lus, dus⟩
      rw [hel, List.take_length] at dus
      refine ⟨E1, _, rfl, .inl ⟨SqL.of bE, fun p1 hp1 => ?_⟩⟩
      have s8 := Same.new (o := .tup us) hp1
      have dP : Dq K (upd H7 p1 (.tup us)) (.ref p1) (.tuple ((fs.map aroundP).map strD)) := .tup (SqT.of upd_same) (dus.same s8)
      have s68 := s7.trans s8
      generalize upd H7 p1 (.tup us) = H8 at s8 dP s68 ⊢
      refine ⟨_, rfl, w2, fb, rfl, q2.same s68, hIn.bd.1, hIn.bd.2.1, fun H9 z2 s9 dz2 => ⟨three, fun t ht => ?_⟩⟩
      have s10 := Same.new (o := .tup [.str R.name, .ref p1, z2]) ht
      have s69 := s68.trans (s9.trans s10)
      have b10 := s69 _ _ bD6
      have kD : ∀ zs : List V, Kept D (upd H9 t (.tup [.str R.name, .ref p1, z2])) (upd (upd H9 t (.tup [.str R.name, .ref p1, z2])) D (.lst zs)) := fun zs b o n e => by rw [upd_ne n]; exact e
      refine ⟨D, _, _, rfl, rfl, b10, by rw [lxs]; exact Nat.lt_trans (show i < 7 by omega) (by decide), hi2, ⟨_, _, _, _, _, rfl⟩, fun b o e => ?_, xs ++ [.ref t], upd_same, by rw [List.length_append, lxs]; rfl, ?_⟩
      · rw [upd_ne (ne_of_none e hD)]
        exact s69 _ _ (s56 _ _ e)
      · rw [List.map_append]
        exact (DqAll.but b10 (kD _) (noLs_map rowD noL_row _) (dxs.same (s6.trans s69))).app (.cons (Dq.but b10 (kD _) (noL_row _) (.tup (SqT.of upd_same) (.cons (.str _ hnm) (.cons (dP.same (s9.trans s10)) (.cons (dz2.same s10) .nil))))) .nil)
    · rintro _ H1 ⟨_, ⟨o3, o4, o5, o6, o7, rfl⟩, s1, xs, bD, lxs, dxs⟩
      have cl : (closerR rs ts).length = rs.length := by
        have := congrArg List.length (closer_names hM)
        rwa [List.length_map, List.length_map] at this
      rw [← cl, List.take_length] at dxs
      refine ⟨_, rfl, c, _, 0, _, rfl, rfl, same_sqt s1 hsq, atI_nat (j := 0) rfl, _, rfl, D, _, rfl, .inl ⟨SqL.of bD, fun tp htp => ?_⟩⟩
      have s2 := Same.new (o := .tup xs) htp
      have dr2 : Dq K (upd H1 tp (.tup xs)) (.ref tp) (rowsD (closerR rs ts)) := .tup (SqT.of upd_same) (dxs.same s2)
      have s12 := s1.trans s2
      have du2 := du.same s12
      generalize upd H1 tp (.tup xs) = H2 at s2 dr2 s12 du2 ⊢
      have L2' := closer_lines hM hL
      intro y dy hy hdy ne
      have sn := made_new (C := C) hy hdy
      refine ⟨y, dy, .ref u, .ref tp, ns, closerR rs ts, rfl, upd_same, du2.same sn, hN, dr2.same sn, L2', fun H6 k6 x6 => ⟨rfl, ?_⟩⟩
      have s6 := made_same hy hdy k6
      exact q H6 y (s12.trans s6) ⟨hN, L2', dy, .ref u, .ref tp, x6, du2.same s6, dr2.same s6⟩
end
end Ca
set_option Elab.async false
set_option linter.all false
set_option maxRecDepth 100000
set_option maxHeartbeats 4000000
namespace Ca
open PySem L2
/-! ### the rooms of a system, by the law's own sums -/
def roomD (t : (Int × Int) × (Int × Int)) : PyData := .tuple [frD t.1, frD t.2]
def gapW (wh : Int) (fs : List (Int × Int)) (r : Rw) : Int := bdOf wh r * prodB fs - sumW (prodB fs) (endsOf wh r.parts fs) fs
structure RoomT (fs : List (Int × Int)) (r : Rw) (t : (Int × Int) × (Int × Int)) : Prop where
  lo : Red (gapW 1 fs r) (prodB fs) t.1.1 t.1.2
  hi : Red (gapW (-1) fs r) (prodB fs) t.2.1 t.2.2
inductive RoomsT (fs : List (Int × Int)) : List Rw → List ((Int × Int) × (Int × Int)) → Prop
  | nil : RoomsT fs [] []
  | cons {r : Rw} {t : (Int × Int) × (Int × Int)} {rs : List Rw} {ts : List ((Int × Int) × (Int × Int))} : RoomT fs r t → RoomsT fs rs ts → RoomsT fs (r :: rs) (t :: ts)
theorem RoomsT.app {fs : List (Int × Int)} : ∀ {rs : List Rw} {ts : List ((Int × Int) × (Int × Int))} {rs2 : List Rw} {ts2 : List ((Int × Int) × (Int × Int))}, RoomsT fs rs ts → RoomsT fs rs2 ts2 → RoomsT fs (rs ++ rs2) (ts ++ ts2)
  | _, _, _, _, .nil, h => h
  | _, _, _, _, .cons a b, h => .cons a (b.app h)
theorem RoomsT.len {fs : List (Int × Int)} : ∀ {rs : List Rw} {ts : List ((Int × Int) × (Int × Int))}, RoomsT fs rs ts → ts.length = rs.length
  | _, _, .nil => rfl
  | _, _, .cons _ b => by rw [List.length_cons, List.length_cons, b.len]
theorem noL_room (t : (Int × Int) × (Int × Int)) : noL (roomD t) = true := rfl
end Ca
set_option Elab.async false
set_option linter.all false
set_option maxRecDepth 100000
set_option maxHeartbeats 4000000
namespace Ca
open PySem L2
/-! ### sums of the closer system -/
theorem sumW_close1 {W : Int} (hW : 0 ≤ W) : ∀ {ps ms : List (Int × Int)} (fs : List (Int × Int)), InFs ps ms → (∀ f ∈ fs, 0 < f.2) → sumW W (endsOf 1 (ms.map aroundP) fs) fs ≤ sumW W (endsOf 1 ps fs) fs
  | _, _, fs, .nil, _ => Int.le_refl _
  | _, _, [], .cons _ _, _ => by simp [endsOf, sumW]
  | _, _, f :: fs, .cons (p := p) (f := m) (ps := ps) (fs := ms) a b, h => by
    have ih := sumW_close1 hW fs b fun x z => h x (List.mem_cons_of_mem _ z)
    have f0 := h f (List.mem_cons_self ..)
    obtain ⟨a1, a2, a3, _, _⟩ := around_ok a
    have e1 : sumW W (endsOf 1 ((m :: ms).map aroundP) (f :: fs)) (f :: fs) = (if 1 * f.1 > 0 then (aroundP m).2 else (aroundP m).1) * (f.1 * (W / f.2)) + sumW W (endsOf 1 (ms.map aroundP) fs) fs := rfl
    have e2 : sumW W (endsOf 1 (p :: ps) (f :: fs)) (f :: fs) = (if 1 * f.1 > 0 then p.2 else p.1) * (f.1 * (W / f.2)) + sumW W (endsOf 1 ps fs) fs := rfl
    rw [e1, e2]
    refine Int.add_le_add ?_ ih
    have d0 : 0 ≤ W / f.2 := Int.ediv_nonneg hW (Int.le_of_lt f0)
    by_cases c : 1 * f.1 > 0
    · rw [if_pos c, if_pos c]
      exact Int.mul_le_mul_of_nonneg_right a3 (Int.mul_nonneg (by omega) d0)
    · rw [if_neg c, if_neg c]
      exact Int.mul_le_mul_of_nonpos_right a1 (Int.mul_nonpos_of_nonpos_of_nonneg (by omega) d0)
theorem sumW_close2 {W : Int} (hW : 0 ≤ W) : ∀ {ps ms : List (Int × Int)} (fs : List (Int × Int)), InFs ps ms → (∀ f ∈ fs, 0 < f.2) → sumW W (endsOf (-1) ps fs) fs ≤ sumW W (endsOf (-1) (ms.map aroundP) fs) fs
  | _, _, fs, .nil, _ => Int.le_refl _
  | _, _, [], .cons _ _, _ => by simp [endsOf, sumW]
  | _, _, f :: fs, .cons (p := p) (f := m) (ps := ps) (fs := ms) a b, h => by
    have ih := sumW_close2 hW fs b fun x z => h x (List.mem_cons_of_mem _ z)
    have f0 := h f (List.mem_cons_self ..)
    obtain ⟨a1, a2, a3, _, _⟩ := around_ok a
    have e1 : sumW W (endsOf (-1) ((m :: ms).map aroundP) (f :: fs)) (f :: fs) = (if -1 * f.1 > 0 then (aroundP m).2 else (aroundP m).1) * (f.1 * (W / f.2)) + sumW W (endsOf (-1) (ms.map aroundP) fs) fs := rfl
    have e2 : sumW W (endsOf (-1) (p :: ps) (f :: fs)) (f :: fs) = (if -1 * f.1 > 0 then p.2 else p.1) * (f.1 * (W / f.2)) + sumW W (endsOf (-1) ps fs) fs := rfl
    rw [e1, e2]
    refine Int.add_le_add ?_ ih
    have d0 : 0 ≤ W / f.2 := Int.ediv_nonneg hW (Int.le_of_lt f0)
    by_cases c : -1 * f.1 > 0
    · rw [if_pos c, if_pos c]
      exact Int.mul_le_mul_of_nonpos_right a3 (Int.mul_nonpos_of_nonpos_of_nonneg (by omega) d0)
    · rw [if_neg c, if_neg c]
      exact Int.mul_le_mul_of_nonneg_right a1 (Int.mul_nonneg (by omega) d0)
theorem close_sure {fs : List (Int × Int)} {r : Rw} {t : Mate} (h : InM r t) (f0 : ∀ f ∈ fs, 0 < f.2) (k : keepsW 1 fs r = true) : keepsW 1 fs (closeR r t) = true := by
  have W0 : 0 ≤ prodB fs := Int.le_of_lt (prodB_pos f0)
  have s := sumW_close1 W0 fs h.ps f0
  obtain ⟨a1, _, _, _, _⟩ := around_ok h.bd
  have k1 : sumW (prodB fs) (endsOf 1 r.parts fs) fs ≤ r.bd.1 * prodB fs := of_decide_eq_true k
  have k2 : r.bd.1 * prodB fs ≤ (aroundP t.2).1 * prodB fs := Int.mul_le_mul_of_nonneg_right a1 W0
  exact decide_eq_true (show sumW (prodB fs) (endsOf 1 (t.1.map aroundP) fs) fs ≤ (aroundP t.2).1 * prodB fs from Int.le_trans s (Int.le_trans k1 k2))
theorem close_poss {fs : List (Int × Int)} {r : Rw} {t : Mate} (h : InM r t) (f0 : ∀ f ∈ fs, 0 < f.2) (k : keepsW (-1) fs (closeR r t) = true) : keepsW (-1) fs r = true := by
  have W0 : 0 ≤ prodB fs := Int.le_of_lt (prodB_pos f0)
  have s := sumW_close2 W0 fs h.ps f0
  obtain ⟨_, _, a3, _, _⟩ := around_ok h.bd
  have k1 : sumW (prodB fs) (endsOf (-1) (t.1.map aroundP) fs) fs ≤ (aroundP t.2).2 * prodB fs := of_decide_eq_true k
  have k2 : (aroundP t.2).2 * prodB fs ≤ r.bd.2 * prodB fs := Int.mul_le_mul_of_nonneg_right a3 W0
  exact decide_eq_true (show sumW (prodB fs) (endsOf (-1) r.parts fs) fs ≤ r.bd.2 * prodB fs from Int.le_trans s (Int.le_trans k1 k2))
theorem closer_sure {fs : List (Int × Int)} (f0 : ∀ f ∈ fs, 0 < f.2) : ∀ {rs : List Rw} {ts : List Mate}, InMs rs ts → rs.all (keepsW 1 fs) = true → (closerR rs ts).all (keepsW 1 fs) = true
  | _, _, .nil, _ => rfl
  | _, _, .cons (r := r) (t := t) (rs := rs) (ts := ts) a b, h => by
    obtain ⟨h1, h2⟩ := Bool.and_eq_true_iff.mp (show (keepsW 1 fs r && rs.all (keepsW 1 fs)) = true from h)
    show (keepsW 1 fs (closeR r t) && (closerR rs ts).all (keepsW 1 fs)) = true
    rw [close_sure a f0 h1, closer_sure f0 b h2]
    rfl
theorem closer_poss {fs : List (Int × Int)} (f0 : ∀ f ∈ fs, 0 < f.2) : ∀ {rs : List Rw} {ts : List Mate}, InMs rs ts → (closerR rs ts).all (keepsW (-1) fs) = true → rs.all (keepsW (-1) fs) = true
  | _, _, .nil, _ => rfl
  | _, _, .cons (r := r) (t := t) (rs := rs) (ts := ts) a b, h => by
    obtain ⟨h1, h2⟩ := Bool.and_eq_true_iff.mp (show (keepsW (-1) fs (closeR r t) && (closerR rs ts).all (keepsW (-1) fs)) = true from h)
    show (keepsW (-1) fs r && rs.all (keepsW (-1) fs)) = true
    rw [close_poss a f0 h1, closer_poss f0 b h2]
    rfl
/-! ### whether an answer is one of a drawn member -/
def spOneM (K : PySem.W.Frag) : Sp := fun vs H Q _ => ∃ (z y : V) (rs : List Rw) (ts : List Mate) (fs : List (Int × Int)) (m : Nat), vs = [z, y] ∧ Lines rs m ∧ m ≤ 3 ∧ InMs rs ts ∧ Dq K H z (.tuple (ts.map mateD)) ∧ Dq K H y (frsD fs) ∧ fs.length = m ∧ (∀ f ∈ fs, FrV f) ∧
  ∀ H' b, Same H H' → (rs.all (keepsW 1 fs) = true → b = true) → (b = true → rs.all (keepsW (-1) fs) = true) → Q (.bl b) H'
section
variable {P : Program} {w : World} {K : PySem.W.Frag} {mg : Str → Option Value} {base : Heap}
abbrev NLm : List Str := ["_law_member_here", "_law_lot", "_law_numbers_here", "_law_end", "_law_top", "_law_bottom", "_law_first", "_law_second", "_law_above", "_law_below"]
theorem scLm : FnScope NLm ["_law_member_here", "_law_lot"] (defScope sLawIsOne) := ⟨rfl, rfl, rfl, by decide +kernel, rfl, by decide +kernel, by decide +kernel⟩
theorem ok_oneM {f : Addr} {fd : FuncData} (F : FnT K "_law_is_one" sLawIsOne f fd) (mzip : mg "zip" = none) :
    FnOk P w K mg base CX0 1 f fd ["_law_member_here", "_law_lot"] (spOneM K) := by
  refine F.ok scLm (fun vs H Q E h => ?_) (fun cdv A outer s H vs Q E hr h => ?_)
  · obtain ⟨z, y, rs, ts, fs, m, rfl, _⟩ := h
    rfl
  · obtain ⟨z, y, rs, ts, fs, m, rfl, hLn, n3, hM, dm, dy, hfl, hfv, q⟩ := h
    have nd := scLm.nd
    refine ⟨_, PSs.nox (pss_cons (ps_for PassesOwn.never rfl (pi_tup (pv 0)) (pg_tup rfl (pgs_cons (pg_name (i := 2) nd rfl (.inl rfl)) (pgs_cons (pg_name (i := 3) nd rfl (.inl rfl)) pgs_nil)))
        (pss_cons (ps_asg (pv 3) (pg_tup rfl (pgs_cons (pg_name (i := 4) nd rfl (.inl rfl)) (pgs_cons (pg_name (i := 5) nd rfl (.inl rfl)) pgs_nil))))
        (pss_cons (ps_cut (ps_for PassesOwn.never rfl (RZ.pi_zipA (by rfl) mzip (pa_cons (pv 2) (pa_cons (pv 1) pa_nil))) (pg_tup rfl (pgs_cons (pg_name (i := 6) nd rfl (.inl rfl)) (pgs_cons (pg_name (i := 7) nd rfl (.inl rfl)) pgs_nil)))
          (pss_cons (ps_par (i := 8) (j := 9) rfl nd rfl rfl (by decide) rfl rfl (pa_cons (pe_op op_mulW (pe_ix ix_tup (pv 6) pe_int (fun _ _ => rfl)) (pe_ix ix_tup (pv 7) pe_int (fun _ _ => rfl)))
              (pa_cons (pe_op op_mulW (pe_ix ix_tup (pv 6) pe_int (fun _ _ => rfl)) (pe_ix ix_tup (pv 7) pe_int (fun _ _ => rfl))) pa_nil)) rfl)
          (pss_one (ps_par (i := 4) (j := 5) rfl nd rfl rfl (by decide) rfl rfl (pa_cons (pe_op op_sub (pe_op op_mulW (pv 4) (pv 9)) (pe_op op_mulW (pv 8) (pv 5))) (pa_cons (pe_op op_mulW (pv 5) (pv 9)) pa_nil)) rfl)))))
        (pss_one (ps_if (pt_cmpR op_lt (pv 4) pe_int (nomark _)) (pss_one (ps_ret pe_bl)) pss_nil)))))
      (pss_one (ps_ret pe_bl))), ?_⟩
    obtain ⟨t, xs, rfl, t1, t2, tl⟩ := tup_len dm
    rw [List.length_map] at tl
    obtain ⟨bt, ys, rfl, y1, y2, yl⟩ := tup_len dy
    rw [List.length_map] at yl
    have hfo : ∀ g ∈ fs, FrOk 200 g := fun g z => (hfv g z).1
    have hW : 0 < prodB fs := prodB_pos fun g z => (hfo g z).pos
    have hdv : ∀ f ∈ fs, f.2 ∣ prodB fs := fun f z => prodB_dvd z
    have hml := hM.len
    refine ⟨_, rfl, t, rfl, ⟨_, t1⟩, ?_⟩
    refine for_it (walk_tup (K := K) (a := t) (xs := xs)) (fun k σ' H' => k ≤ rs.length ∧ (∃ o2 o3 o4 o5 o6 o7 o8 o9, σ' = [some (.ref t), some (.ref bt), o2, o3, o4, o5, o6, o7, o8, o9]) ∧ Same H H' ∧ (rs.take k).all (keepsW (-1) fs) = true)
      ⟨Nat.zero_le _, ⟨_, _, _, _, _, _, _, _, rfl⟩, fun _ _ e => e, rfl⟩ (fun k σ' H' hk p => same_sqt p.2.2.1 t1) ?_ ?_
    · rintro k z _ _ H1 hk ⟨_, ⟨o2, o3, o4, o5, o6, o7, o8, o9, rfl⟩, s1, hall⟩ ⟨rfl, hz⟩
      have hk1 : k < ts.length := by rw [← tl]; exact hk
      have hk2 : k < rs.length := by omega
      obtain ⟨d, hd, dz⟩ := (t2.same s1).get hz
      rw [List.getElem?_map, List.getElem?_eq_getElem hk1] at hd
      cases hd
      have hIn := hM.get hk2 hk1
      have hok := hLn.ok _ (List.getElem_mem hk2)
      have etk : rs.take (k + 1) = rs.take k ++ [rs[k]] := by
        rw [List.take_succ, List.getElem?_eq_getElem hk2]
        rfl
      have eall : rs.all (keepsW 1 fs) = true → keepsW 1 fs rs[k] = true := fun h => List.all_eq_true.mp h _ (List.getElem_mem hk2)
      generalize rs[k] = r at hIn hok etk eall
      generalize ts[k] = tm at dz hIn
      obtain ⟨ms, mb⟩ := tm
      obtain ⟨_, hRl⟩ := row_name hok
      have hT := row_T hok
      have hl : r.parts.length = fs.length := by omega
      obtain ⟨mm, ws, rfl, m1, m2, _⟩ := tup_len dz
      cases m2 with
      | @cons w1 _ _ _ q1 r1 =>
      cases r1 with
      | @cons w2 _ _ _ q2 r2 =>
      cases r2
      obtain ⟨b, rfl, hb⟩ := fr_at q2
      obtain ⟨e, es, rfl, he1, he2, hel⟩ := tup_len q1
      rw [List.length_map] at hel
      replace hel : es.length = ms.length := hel
      have lms : ms.length = r.parts.length := hIn.ps.len
      have hbd : InF r.bd mb := hIn.bd
      obtain ⟨b0, b97, b1, b2, _⟩ := hbd
      have hTb := hT r.bd (List.mem_append_right _ (List.mem_singleton.mpr rfl))
      have len1 : (endsOf 1 r.parts fs).length = fs.length := endsOf_len hl
      have len2 : (endsOf (-1) r.parts fs).length = fs.length := endsOf_len hl
      have gt1 := fun {k} => @endsOf_get 1 r.parts fs k
      have gt2 := fun {k} => @endsOf_get (-1) r.parts fs k
      have ek1 : keepsW 1 fs r = decide (sumW (prodB fs) (endsOf 1 r.parts fs) fs ≤ r.bd.1 * prodB fs) := rfl
      have ek2 : keepsW (-1) fs r = decide (sumW (prodB fs) (endsOf (-1) r.parts fs) fs ≤ r.bd.2 * prodB fs) := rfl
      generalize prodB fs = W at hW hdv ek1 ek2
      generalize endsOf 1 r.parts fs = E1 at len1 gt1 ek1
      generalize endsOf (-1) r.parts fs = E2 at len2 gt2 ek2
      refine ⟨mm, _, rfl, m1, rfl, _, _, rfl, _, _, rfl, rfl, _, rfl, b, _, rfl, hb, rfl, _, _, rfl, _, _, rfl, rfl, ?_⟩
      refine ⟨fun σ' H' => (∃ (T t' : Int) (o6 o7 o8 o9 : Option V), σ' = [some (.ref t), some (.ref bt), some (.ref e), some (.ref b), some (.int T), some (.int t'), o6, o7, o8, o9] ∧ 0 < t' ∧ t' * (r.bd.1 * W - sumW W E1 fs) ≤ T * W ∧ T * W ≤ t' * (r.bd.2 * W - sumW W E2 fs)) ∧ Same H1 H', ?_, ?_⟩
      · refine ⟨_, rfl, _, rfl, e, bt, _, _, rfl, .inr ⟨he1, same_sqt s1 y1, ?_⟩⟩
        refine for_it (CaZ.walk_zt (K := K) (a := e) (b := bt) (xs := es) (ys := ys) (n := fs.length) (hel.trans (lms.trans hl)) yl) (fun k σ' H' => k ≤ fs.length ∧ Same H1 H' ∧ ∃ T t' o6 o7 o8 o9, σ' = [some (.ref t), some (.ref bt), some (.ref e), some (.ref b), some (.int T), some (.int t'), o6, o7, o8, o9] ∧ 0 < t' ∧ T.natAbs < 2 ^ (240 * k + 21) ∧ t'.natAbs < 2 ^ (240 * k + 21) ∧
            t' * (r.bd.1 * W - sumW W (E1.take k) (fs.take k)) ≤ T * W ∧ T * W ≤ t' * (r.bd.2 * W - sumW W (E2.take k) (fs.take k)))
          ⟨Nat.zero_le _, fun _ _ e => e, mb.1, mb.2, _, _, _, _, rfl, b0, ?_, ?_, ?_, ?_⟩ (fun k σ' H' hk pp => ⟨same_sqt pp.2.1 he1, same_sqt (s1.trans pp.2.1) y1⟩) ?_ (fun σ' H' pp => ?_)
        · obtain ⟨i1, i2, i3⟩ := hTb
          have z1 : -10000 * mb.2 ≤ r.bd.1 * mb.2 := Int.mul_le_mul_of_nonneg_right i1 (Int.le_of_lt b0)
          have z2 : r.bd.2 * mb.2 ≤ 10000 * mb.2 := Int.mul_le_mul_of_nonneg_right i3 (Int.le_of_lt b0)
          show mb.1.natAbs < 2097152
          omega
        · show mb.2.natAbs < 2097152
          omega
        · simp only [List.take_zero, sumW, Int.sub_zero]
          rw [← Int.mul_assoc, Int.mul_comm mb.2]
          exact Int.mul_le_mul_of_nonneg_right b1 (Int.le_of_lt hW)
        · simp only [List.take_zero, sumW, Int.sub_zero]
          rw [← Int.mul_assoc, Int.mul_comm mb.2]
          exact Int.mul_le_mul_of_nonneg_right b2 (Int.le_of_lt hW)
        · rintro k z _ H5 _ hk ⟨_, s5, T, t', o5, o6, o7, o8, rfl, t0, n1, n2, lo, hi⟩ ⟨Z, x1, y1', rfl, hZ, rfl, hx, hy⟩
          replace hy : ys[k]? = some y1' := hy
          have hk2 : k < fs.length := hk
          have hk3 : k < ms.length := by omega
          have hk4 : k < r.parts.length := by omega
          have s6 := Same.new (o := .tup [x1, y1']) hZ
          have s56 := s5.trans s6
          obtain ⟨a1, rfl, ha1⟩ := fr_at (frs_get (he2.same s56) hk3 hx)
          obtain ⟨a2, rfl, ha2⟩ := fr_at (frs_get (y2.same (s1.trans s56)) hk2 hy)
          have hin : InF r.parts[k] ms[k] := hIn.ps.get hk4 hk3
          have hfk := hfo _ (List.getElem_mem hk2)
          have hTk := hT _ (List.mem_append_left _ (List.getElem_mem hk4))
          have dv := hdv _ (List.getElem_mem hk2)
          have t1' := sumW_take W E1 fs k (by omega) hk2
          have t2' := sumW_take W E2 fs k (by omega) hk2
          have q1 := gt1 hk4 hk2
          have q2 := gt2 hk4 hk2
          rw [List.getElem?_eq_getElem (show k < E1.length by omega)] at q1
          rw [List.getElem?_eq_getElem (show k < E2.length by omega)] at q2
          have e1 := Option.some.inj q1
          have e2 := Option.some.inj q2
          rw [e1] at t1'
          rw [e2] at t2'
          rw [t1', t2']
          have l1 := ends_low fs[k].1 hin
          have l2 := ends_high fs[k].1 hin
          generalize r.parts[k] = pr at hin hTk l1 l2 t1' t2' ⊢
          generalize ms[k] = fm at ha1 hin l1 l2
          generalize fs[k] = x at ha2 hfk dv l1 l2 t1' t2' ⊢
          have hX : x.2 * (x.1 * (W / x.2)) = x.1 * W := by
            rw [Int.mul_left_comm, Int.mul_ediv_cancel' dv]
          have k2 : k ≤ 2 := by omega
          obtain ⟨f0, f97, f1, f2, _⟩ := hin
          obtain ⟨i1, i2, i3⟩ := hTk
          have z1 : -10000 * fm.2 ≤ pr.1 * fm.2 := Int.mul_le_mul_of_nonneg_right i1 (Int.le_of_lt f0)
          have z2 : pr.2 * fm.2 ≤ 10000 * fm.2 := Int.mul_le_mul_of_nonneg_right i3 (Int.le_of_lt f0)
          have w1 : fm.1.natAbs < 2 ^ 20 := by show _ < 1048576; omega
          have w2 : fm.2.natAbs < 2 ^ 7 := by show _ < 128; omega
          have ab : (fm.1 * x.1).natAbs < 2 ^ 220 := wide_lt w1 hfk.t
          have be : (fm.2 * x.2).natAbs < 2 ^ 207 := wide_lt w2 hfk.b
          have be0 : 0 < fm.2 * x.2 := Int.mul_pos f0 hfk.pos
          refine ⟨Z, _, rfl, SqT.of upd_same, rfl, _, _, rfl, _, _, rfl, rfl, ?_⟩
          refine ⟨_, rfl, a1, _, 0, _, rfl, rfl, ha1, atI_nat (j := 0) rfl, _, rfl, a2, _, 0, _, rfl, rfl, ha2, atI_nat (j := 0) rfl, _, _, rfl, rfl, wide_mul w1 hfk.t (by decide) (by decide) (by decide),
            _, rfl, a1, _, 1, _, rfl, rfl, ha1, atI_nat (j := 1) rfl, _, rfl, a2, _, 1, _, rfl, rfl, ha2, atI_nat (j := 1) rfl, _, _, rfl, rfl, wide_mul w2 hfk.b (by decide) (by decide) (by decide), _, _, rfl, ?_⟩
          refine ⟨_, rfl, _, rfl, _, _, rfl, rfl, wide_mul n1 be (by omega) (by decide) (by omega), _, rfl, _, rfl, _, _, rfl, rfl, wide_mul ab n2 (by decide) (by omega) (by omega), _, _, rfl, rfl, _, rfl, _, rfl, _, _, rfl, rfl, wide_mul n2 be (by omega) (by decide) (by omega), _, _, rfl, ?_⟩
          refine ⟨hk2, s56, _, _, _, _, _, _, rfl, Int.mul_pos t0 be0, ?_, ?_, ?_, ?_⟩
          · have a3 : (T * (fm.2 * x.2)).natAbs < 2 ^ (240 * k + 241) := lt_pow (wide_lt n1 be) (by omega)
            have a4 : (fm.1 * x.1 * t').natAbs < 2 ^ (240 * k + 241) := lt_pow (wide_lt ab n2) (by omega)
            exact Nat.lt_of_le_of_lt (Int.natAbs_sub_le _ _) (lt_pow (pow_add_lt a3 a4) (by omega))
          · exact lt_pow (wide_lt n2 be) (by omega)
          · have := betw_low hX f0 hfk.pos t0 hW lo l1
            rw [← Int.sub_sub]
            exact this
          · have := betw_high hX f0 hfk.pos t0 hW hi l2
            rw [← Int.sub_sub]
            exact this
        · obtain ⟨_, s5, T, t', o5, o6, o7, o8, rfl, t0, n1, n2, lo, hi⟩ := pp
          rw [← len1, List.take_length, len1, List.take_length] at lo
          rw [← len2, List.take_length, len2, List.take_length] at hi
          exact ⟨⟨T, t', _, _, _, _, rfl, t0, lo, hi⟩, s5⟩
      rintro _ H2 ⟨⟨T, t', o6, o7, o8, o9, rfl, t0, lo, hi⟩, s2⟩
      refine ⟨_, rfl, _, _, rfl, rfl, _, rfl, ite2 (fun c => ?_) (fun c => ?_)⟩
      · have c' : T < 0 := of_decide_eq_true c
        refine q H2 false (s1.trans s2) (fun h => ?_) (fun h => nomatch h)
        have kk := eall h
        rw [ek1] at kk
        have kk2 := of_decide_eq_true kk
        have a1 : T * W < 0 := Int.mul_neg_of_neg_of_pos c' hW
        have a2 : 0 ≤ t' * (r.bd.1 * W - sumW W E1 fs) := Int.mul_nonneg (Int.le_of_lt t0) (by omega)
        omega
      · have c' : 0 ≤ T := Int.not_lt.mp fun z => c (decide_eq_true z)
        have kt : keepsW (-1) fs r = true := by
          rw [ek2]
          refine decide_eq_true (Int.not_lt.mp fun z => ?_)
          have a1 : 0 ≤ T * W := Int.mul_nonneg c' (Int.le_of_lt hW)
          have a2 : t' * (r.bd.2 * W - sumW W E2 fs) < 0 := Int.mul_neg_of_pos_of_neg t0 (by omega)
          omega
        refine ⟨hk2, ⟨_, _, _, _, _, _, _, _, rfl⟩, s1.trans s2, ?_⟩
        rw [etk, List.all_append, hall, List.all_cons, kt]
        rfl
    · rintro _ H1 ⟨_, ⟨o2, o3, o4, o5, o6, o7, o8, o9, rfl⟩, s1, hall⟩
      rw [tl, hml, List.take_length] at hall
      exact q H1 true s1 (fun _ => rfl) (fun _ => hall)
end
end Ca
set_option Elab.async false
set_option linter.all false
set_option maxRecDepth 100000
set_option maxHeartbeats 4000000
namespace Ca
open PySem L2
/-! ### whether the room of a row of a member lies between two others -/
def spBetw (K : PySem.W.Frag) : Sp := fun vs H Q _ => ∃ (g mv y : V) (t : (Int × Int) × (Int × Int)) (tm : Mate) (r : Rw) (fs : List (Int × Int)), vs = [g, mv, y] ∧ Dq K H g (roomD t) ∧ Dq K H mv (mateD tm) ∧ Dq K H y (frsD fs) ∧
  RoomT fs r t ∧ InM r tm ∧ (∀ p ∈ r.parts ++ [r.bd], inT p) ∧ r.parts.length = fs.length ∧ fs.length ≤ 3 ∧ (∀ f ∈ fs, FrV f) ∧ (t.1.1.natAbs < 2 ^ 1000 ∧ t.1.2.natAbs < 2 ^ 1000 ∧ t.2.1.natAbs < 2 ^ 1000 ∧ t.2.2.natAbs < 2 ^ 1000) ∧ ∀ H', Same H H' → Q (.bl true) H'
theorem betw_end {p1 q1 T t W G : Int} (hc : p1 * W = G * q1) (hq : 0 < q1) (hW : 0 < W) (h : t * G ≤ T * W) : p1 * t ≤ T * q1 := by
  refine Int.le_of_mul_le_mul_right ?_ hW
  have e1 : p1 * t * W = t * G * q1 := by
    rw [Int.mul_right_comm, hc]
    simp only [Int.mul_assoc, Int.mul_comm, Int.mul_left_comm]
  have e2 : T * q1 * W = T * W * q1 := Int.mul_right_comm _ _ _
  rw [e1, e2]
  exact Int.mul_le_mul_of_nonneg_right h (Int.le_of_lt hq)
theorem betw_end2 {p1 q1 T t W G : Int} (hc : p1 * W = G * q1) (hq : 0 < q1) (hW : 0 < W) (h : T * W ≤ t * G) : T * q1 ≤ p1 * t := by
  refine Int.le_of_mul_le_mul_right ?_ hW
  have e1 : p1 * t * W = t * G * q1 := by
    rw [Int.mul_right_comm, hc]
    simp only [Int.mul_assoc, Int.mul_comm, Int.mul_left_comm]
  have e2 : T * q1 * W = T * W * q1 := Int.mul_right_comm _ _ _
  rw [e1, e2]
  exact Int.mul_le_mul_of_nonneg_right h (Int.le_of_lt hq)
section
variable {P : Program} {w : World} {K : PySem.W.Frag} {mg : Str → Option Value} {base : Heap}
abbrev NBt : List Str := ["_law_gaps", "_law_mate", "_law_lot", "_law_top", "_law_bottom", "_law_first", "_law_second", "_law_above", "_law_below"]
theorem scBt : FnScope NBt ["_law_gaps", "_law_mate", "_law_lot"] (defScope sLawIsBetween) := ⟨rfl, rfl, rfl, by decide +kernel, rfl, by decide +kernel, by decide +kernel⟩
theorem ok_betw {f : Addr} {fd : FuncData} (F : FnT K "_law_is_between" sLawIsBetween f fd) (mzip : mg "zip" = none) : FnOk P w K mg base CX0 1 f fd ["_law_gaps", "_law_mate", "_law_lot"] (spBetw K) := by
  refine F.ok scBt (fun vs H Q E h => ?_) (fun cdv A outer s H vs Q E hr h => ?_)
  · obtain ⟨g, mv, y, t, tm, r, fs, rfl, _⟩ := h
    rfl
  · obtain ⟨g, mv, y, t, ⟨ms, mb⟩, r, fs, rfl, dg, dm, dy, hR, hM, hT, hl, h3, hf, ⟨y1, y2, y3, y4⟩, q⟩ := h
    have nd := scBt.nd
    refine ⟨_, PSs.nox (pss_cons (ps_asg (pe_ix ix_tup (pv 1) pe_int (fun _ _ => rfl)) (pg_tup rfl (pgs_cons (pg_name (i := 3) nd rfl (.inl rfl)) (pgs_cons (pg_name (i := 4) nd rfl (.inl rfl)) pgs_nil))))
      (pss_cons (ps_for PassesOwn.never rfl (RZ.pi_zipA (by rfl) mzip (pa_cons (pe_ix ix_tup (pv 1) pe_int (fun _ _ => rfl)) (pa_cons (pv 2) pa_nil))) (pg_tup rfl (pgs_cons (pg_name (i := 5) nd rfl (.inl rfl)) (pgs_cons (pg_name (i := 6) nd rfl (.inl rfl)) pgs_nil)))
        (pss_cons (ps_par (i := 7) (j := 8) rfl nd rfl rfl (by decide) rfl rfl (pa_cons (pe_op op_mulW (pe_ix ix_tup (pv 5) pe_int (fun _ _ => rfl)) (pe_ix ix_tup (pv 6) pe_int (fun _ _ => rfl))) (pa_cons (pe_op op_mulW (pe_ix ix_tup (pv 5) pe_int (fun _ _ => rfl)) (pe_ix ix_tup (pv 6) pe_int (fun _ _ => rfl))) pa_nil)) rfl)
        (pss_one (ps_par (i := 3) (j := 4) rfl nd rfl rfl (by decide) rfl rfl (pa_cons (pe_op op_sub (pe_op op_mulW (pv 3) (pv 8)) (pe_op op_mulW (pv 7) (pv 4))) (pa_cons (pe_op op_mulW (pv 4) (pv 8)) pa_nil)) rfl))))
      (pss_one (ps_ret (pe_and (pe_cmpR op_le (pe_op op_mulW (pe_ix ix_tup (pe_ix ix_tup (pv 0) pe_int (fun _ _ => rfl)) pe_int (fun _ _ => rfl)) (pv 4)) (pe_op op_mulW (pv 3) (pe_ix ix_tup (pe_ix ix_tup (pv 0) pe_int (fun _ _ => rfl)) pe_int (fun _ _ => rfl))) (nomark _))
        (pe_one (pe_cmpR op_le (pe_op op_mulW (pv 3) (pe_ix ix_tup (pe_ix ix_tup (pv 0) pe_int (fun _ _ => rfl)) pe_int (fun _ _ => rfl))) (pe_op op_mulW (pe_ix ix_tup (pe_ix ix_tup (pv 0) pe_int (fun _ _ => rfl)) pe_int (fun _ _ => rfl)) (pv 4)) (nomark _)))))))), ?_⟩
    obtain ⟨m, ws, rfl, hm1, hm2, _⟩ := tup_len dm
    cases hm2 with
    | @cons w1 _ _ _ q1 r1 =>
    cases r1 with
    | @cons w2 _ _ _ q2 r2 =>
    cases r2
    obtain ⟨b, rfl, hb⟩ := fr_at q2
    obtain ⟨e, es, rfl, he1, he2, hel⟩ := tup_len q1
    obtain ⟨d, ys, rfl, hd1, hd2, hdl⟩ := tup_len dy
    rw [List.length_map] at hel hdl
    replace hel : es.length = ms.length := hel
    have lms : ms.length = r.parts.length := hM.ps.len
    have hbd : InF r.bd mb := hM.bd
    obtain ⟨b0, b97, b1, b2, _⟩ := hbd
    have hTb := hT r.bd (List.mem_append_right _ (List.mem_singleton.mpr rfl))
    have hW := prodB_pos fun f z => (hf f z).1.pos
    have hdv : ∀ f ∈ fs, f.2 ∣ prodB fs := fun f z => prodB_dvd z
    have len1 : (endsOf 1 r.parts fs).length = fs.length := endsOf_len hl
    have len2 : (endsOf (-1) r.parts fs).length = fs.length := endsOf_len hl
    have gt1 := fun {k} => @endsOf_get 1 r.parts fs k
    have gt2 := fun {k} => @endsOf_get (-1) r.parts fs k
    have c1 := hR.lo.cross
    have c2 := hR.hi.cross
    have g1 : gapW 1 fs r = r.bd.1 * prodB fs - sumW (prodB fs) (endsOf 1 r.parts fs) fs := rfl
    have g2 : gapW (-1) fs r = r.bd.2 * prodB fs - sumW (prodB fs) (endsOf (-1) r.parts fs) fs := rfl
    rw [g1] at c1
    rw [g2] at c2
    have p1 := hR.lo.pos
    have p2 := hR.hi.pos
    generalize prodB fs = W at hW hdv c1 c2
    generalize endsOf 1 r.parts fs = E1 at len1 gt1 c1
    generalize endsOf (-1) r.parts fs = E2 at len2 gt2 c2
    refine ⟨_, rfl, m, _, 1, _, rfl, rfl, hm1, atI_nat (j := 1) rfl, b, _, rfl, hb, rfl, _, _, rfl, _, _, rfl, rfl, ?_⟩
    refine ⟨_, rfl, m, _, 0, _, rfl, rfl, hm1, atI_nat (j := 0) rfl, _, rfl, e, d, _, _, rfl, .inr ⟨he1, hd1, ?_⟩⟩
    refine for_it (CaZ.walk_zt (K := K) (a := e) (b := d) (xs := es) (ys := ys) (n := fs.length) (hel.trans (lms.trans hl)) hdl) (fun k σ' H' => k ≤ fs.length ∧ Same H H' ∧ ∃ T t o5 o6 o7 o8, σ' = [some g, some (.ref m), some (.ref d), some (.int T), some (.int t), o5, o6, o7, o8] ∧ 0 < t ∧ T.natAbs < 2 ^ (240 * k + 21) ∧ t.natAbs < 2 ^ (240 * k + 21) ∧
        t * (r.bd.1 * W - sumW W (E1.take k) (fs.take k)) ≤ T * W ∧ T * W ≤ t * (r.bd.2 * W - sumW W (E2.take k) (fs.take k)))
      ⟨Nat.zero_le _, fun _ _ e => e, mb.1, mb.2, _, _, _, _, rfl, b0, ?_, ?_, ?_, ?_⟩ (fun k σ' H' hk pp => ⟨same_sqt pp.2.1 he1, same_sqt pp.2.1 hd1⟩) ?_ (fun σ' H' pp => ?_)
    · obtain ⟨i1, i2, i3⟩ := hTb
      have z1 : -10000 * mb.2 ≤ r.bd.1 * mb.2 := Int.mul_le_mul_of_nonneg_right i1 (Int.le_of_lt b0)
      have z2 : r.bd.2 * mb.2 ≤ 10000 * mb.2 := Int.mul_le_mul_of_nonneg_right i3 (Int.le_of_lt b0)
      show mb.1.natAbs < 2097152
      omega
    · show mb.2.natAbs < 2097152
      omega
    · simp only [List.take_zero, sumW, Int.sub_zero]
      rw [← Int.mul_assoc, Int.mul_comm mb.2]
      exact Int.mul_le_mul_of_nonneg_right b1 (Int.le_of_lt hW)
    · simp only [List.take_zero, sumW, Int.sub_zero]
      rw [← Int.mul_assoc, Int.mul_comm mb.2]
      exact Int.mul_le_mul_of_nonneg_right b2 (Int.le_of_lt hW)
    · rintro k z _ H5 _ hk ⟨_, s5, T, t', o5, o6, o7, o8, rfl, t0, n1, n2, lo, hi⟩ ⟨Z, x1, y1, rfl, hZ, rfl, hx, hy⟩
      replace hy : ys[k]? = some y1 := hy
      have hk2 : k < fs.length := hk
      have hk3 : k < ms.length := by omega
      have hk4 : k < r.parts.length := by omega
      have s6 := Same.new (o := .tup [x1, y1]) hZ
      have s56 := s5.trans s6
      obtain ⟨a1, rfl, ha1⟩ := fr_at (frs_get (he2.same s56) hk3 hx)
      obtain ⟨a2, rfl, ha2⟩ := fr_at (frs_get (hd2.same s56) hk2 hy)
      have hin : InF r.parts[k] ms[k] := hM.ps.get hk4 hk3
      have hfk := (hf _ (List.getElem_mem hk2)).1
      have hTk := hT _ (List.mem_append_left _ (List.getElem_mem hk4))
      have dv := hdv _ (List.getElem_mem hk2)
      have t1 := sumW_take W E1 fs k (by omega) hk2
      have t2 := sumW_take W E2 fs k (by omega) hk2
      have q1 := gt1 hk4 hk2
      have q2 := gt2 hk4 hk2
      rw [List.getElem?_eq_getElem (show k < E1.length by omega)] at q1
      rw [List.getElem?_eq_getElem (show k < E2.length by omega)] at q2
      have e1 := Option.some.inj q1
      have e2 := Option.some.inj q2
      rw [e1] at t1
      rw [e2] at t2
      rw [t1, t2]
      have l1 := ends_low fs[k].1 hin
      have l2 := ends_high fs[k].1 hin
      generalize r.parts[k] = pr at hin hTk l1 l2 t1 t2 ⊢
      generalize ms[k] = fm at ha1 hin l1 l2
      generalize fs[k] = x at ha2 hfk dv l1 l2 t1 t2 ⊢
      have hX : x.2 * (x.1 * (W / x.2)) = x.1 * W := by
        rw [Int.mul_left_comm, Int.mul_ediv_cancel' dv]
      have k2 : k ≤ 2 := by omega
      obtain ⟨f0, f97, f1, f2, _⟩ := hin
      obtain ⟨i1, i2, i3⟩ := hTk
      have z1 : -10000 * fm.2 ≤ pr.1 * fm.2 := Int.mul_le_mul_of_nonneg_right i1 (Int.le_of_lt f0)
      have z2 : pr.2 * fm.2 ≤ 10000 * fm.2 := Int.mul_le_mul_of_nonneg_right i3 (Int.le_of_lt f0)
      have w1 : fm.1.natAbs < 2 ^ 20 := by show _ < 1048576; omega
      have w2 : fm.2.natAbs < 2 ^ 7 := by show _ < 128; omega
      have ab : (fm.1 * x.1).natAbs < 2 ^ 220 := wide_lt w1 hfk.t
      have be : (fm.2 * x.2).natAbs < 2 ^ 207 := wide_lt w2 hfk.b
      have be0 : 0 < fm.2 * x.2 := Int.mul_pos f0 hfk.pos
      refine ⟨Z, _, rfl, SqT.of upd_same, rfl, _, _, rfl, _, _, rfl, rfl, ?_⟩
      refine ⟨_, rfl, a1, _, 0, _, rfl, rfl, ha1, atI_nat (j := 0) rfl, _, rfl, a2, _, 0, _, rfl, rfl, ha2, atI_nat (j := 0) rfl, _, _, rfl, rfl, wide_mul w1 hfk.t (by decide) (by decide) (by decide),
        _, rfl, a1, _, 1, _, rfl, rfl, ha1, atI_nat (j := 1) rfl, _, rfl, a2, _, 1, _, rfl, rfl, ha2, atI_nat (j := 1) rfl, _, _, rfl, rfl, wide_mul w2 hfk.b (by decide) (by decide) (by decide), _, _, rfl, ?_⟩
      refine ⟨_, rfl, _, rfl, _, _, rfl, rfl, wide_mul n1 be (by omega) (by decide) (by omega), _, rfl, _, rfl, _, _, rfl, rfl, wide_mul ab n2 (by decide) (by omega) (by omega), _, _, rfl, rfl, _, rfl, _, rfl, _, _, rfl, rfl, wide_mul n2 be (by omega) (by decide) (by omega), _, _, rfl, ?_⟩
      refine ⟨hk2, s56, _, _, _, _, _, _, rfl, Int.mul_pos t0 be0, ?_, ?_, ?_, ?_⟩
      · have a3 : (T * (fm.2 * x.2)).natAbs < 2 ^ (240 * k + 241) := lt_pow (wide_lt n1 be) (by omega)
        have a4 : (fm.1 * x.1 * t').natAbs < 2 ^ (240 * k + 241) := lt_pow (wide_lt ab n2) (by omega)
        exact Nat.lt_of_le_of_lt (Int.natAbs_sub_le _ _) (lt_pow (pow_add_lt a3 a4) (by omega))
      · exact lt_pow (wide_lt n2 be) (by omega)
      · have := betw_low hX f0 hfk.pos t0 hW lo l1
        rw [← Int.sub_sub]
        exact this
      · have := betw_high hX f0 hfk.pos t0 hW hi l2
        rw [← Int.sub_sub]
        exact this
    · obtain ⟨_, s5, T, t', o5, o6, o7, o8, rfl, t0, n1, n2, lo, hi⟩ := pp
      rw [← len1, List.take_length, len1, List.take_length] at lo
      rw [← len2, List.take_length, len2, List.take_length] at hi
      obtain ⟨x, xs, rfl, hg1, hg2, _⟩ := tup_len dg
      cases hg2 with
      | @cons v1 _ _ _ j1 jr =>
      cases jr with
      | @cons v2 _ _ _ j2 jr2 =>
      cases jr2
      obtain ⟨a1, rfl, ha1⟩ := fr_at j1
      obtain ⟨a2, rfl, ha2⟩ := fr_at j2
      have k1 := betw_end c1 p1 hW lo
      have k2 := betw_end2 c2 p2 hW hi
      have hG := same_sqt s5 hg1
      have hA1 := same_sqt s5 ha1
      have hA2 := same_sqt s5 ha2
      have m1 : T.natAbs < 2 ^ 800 := lt_pow n1 (by omega)
      have m2 : t'.natAbs < 2 ^ 800 := lt_pow n2 (by omega)
      refine ⟨_, rfl, x, _, 0, _, rfl, rfl, hG, atI_nat (j := 0) rfl, a1, _, 0, _, rfl, rfl, hA1, atI_nat (j := 0) rfl, _, rfl, _, _, rfl, rfl, wide_mul y1 m2 (by decide) (by decide) (by decide),
        _, rfl, _, rfl, x, _, 0, _, rfl, rfl, hG, atI_nat (j := 0) rfl, a1, _, 1, _, rfl, rfl, hA1, atI_nat (j := 1) rfl, _, _, rfl, rfl, wide_mul m1 y2 (by decide) (by decide) (by decide), _, _, rfl, rfl, _, rfl, ?_⟩
      rw [decide_eq_true k1]
      refine iteT ⟨_, rfl, _, rfl, x, _, 1, _, rfl, rfl, hG, atI_nat (j := 1) rfl, a2, _, 1, _, rfl, rfl, hA2, atI_nat (j := 1) rfl, _, _, rfl, rfl, wide_mul m1 y4 (by decide) (by decide) (by decide),
        _, rfl, x, _, 1, _, rfl, rfl, hG, atI_nat (j := 1) rfl, a2, _, 0, _, rfl, rfl, hA2, atI_nat (j := 0) rfl, _, rfl, _, _, rfl, rfl, wide_mul y3 m2 (by decide) (by decide) (by decide), _, _, rfl, rfl, ?_⟩
      have q2 := q _ s5
      rw [← decide_eq_true k2] at q2
      exact q2
end
end Ca
set_option Elab.async false
set_option linter.all false
set_option maxRecDepth 100000
set_option maxHeartbeats 4000000
namespace Ca
open PySem L2
theorem noL_frs (fs : List (Int × Int)) : noL (frsD fs) = true := noLs_map frD noL_frD fs
theorem DqAll.rep {K : PySem.W.Frag} {H : Hp} {v : V} {d : PyData} (h : Dq K H v d) : ∀ k : Nat, DqAll K H (List.replicate k [v]).flatten (List.replicate k d)
  | 0 => .nil
  | k + 1 => by
    rw [List.replicate_succ, List.replicate_succ, List.flatten_cons]
    exact .cons h (DqAll.rep h k)
theorem rep_len (k : Nat) (v : V) : (List.replicate k [v]).flatten.length = k := by simp
theorem urn_but {H : Hp} {l D : Addr} {o : HO} (h : Urn H l) (n : l ≠ D) : Urn (upd H D o) l := by
  obtain ⟨x1, x2, x3, y1, y2, y3, y4⟩ := h
  exact ⟨x1, x2, x3, y1, y2, y3, by rw [upd_ne n]; exact y4⟩
def zeroF : Int × Int := (0, 1)
theorem frv_zero : FrV zeroF := ⟨⟨by decide, by show (0 : Int).natAbs < 2 ^ 200; decide +kernel, by show (1 : Int).natAbs < 2 ^ 200; decide +kernel⟩, rfl⟩
/-- what is drawn as an answer -/
structure PtOk (m : Nat) (fs : List (Int × Int)) : Prop where
  len : fs.length = m
  ok : ∀ f ∈ fs, FrV f
theorem nz_list (lo hi : Int) : SeqAt.shaped (.list (([lo, hi].filter fun z => decide (z ≠ 0)).map PyData.int)) = true := by
  by_cases a : lo = 0 <;> by_cases b : hi = 0 <;> simp [a, b] <;> rfl
theorem dpI {K : PySem.W.Frag} {H : Hp} : ∀ zs : List Int, DpAll K H (zs.map V.int) (zs.map PyData.int)
  | [] => .nil
  | z :: zs => .cons (.int z) (dpI zs)
theorem lenV_fk {K : PySem.W.Frag} {H : Hp} {v : V} {ns : List Str} (h : Dq K H v (folkD ns)) : LenV K v H ns.length := by
  have := lenV_tup (ds := ns.map .str) h
  rwa [List.length_map] at this
theorem zero_at {K : PySem.W.Frag} {H : Hp} {t1 : Addr} (h : H t1 = some (.tup [.int 0, .int 1])) : Dq K H (.ref t1) (frD zeroF) := fr_of h
theorem dq_mid {K : PySem.W.Frag} {H : Hp} {a : Addr} {v1 v2 y : V} {f : Int × Int} {j k : Nat} (ha : SqT K H a ((List.replicate j [v1]).flatten ++ [y] ++ (List.replicate k [v2]).flatten)) (h1 : Dq K H v1 (frD zeroF)) (h2 : Dq K H v2 (frD zeroF)) (hy : Dq K H y (frD f)) :
    Dq K H (.ref a) (frsD (List.replicate j zeroF ++ [f] ++ List.replicate k zeroF)) := by
  refine .tup ha ?_
  rw [List.map_append, List.map_append, List.map_replicate, List.map_replicate]
  exact ((DqAll.rep h1 j).app (.cons hy .nil)).app (DqAll.rep h2 k)
theorem pt_mid {m j : Nat} {f : Int × Int} (hj : j < m) (hf : FrV f) : PtOk m (List.replicate j zeroF ++ [f] ++ List.replicate (m - 1 - j) zeroF) := by
  refine ⟨?_, fun g hg => ?_⟩
  · rw [List.length_append, List.length_append, List.length_replicate, List.length_replicate]
    show j + 1 + (m - 1 - j) = m
    omega
  · rcases List.mem_append.mp hg with z | z
    · rcases List.mem_append.mp z with z | z
      · rw [List.eq_of_mem_replicate z]
        exact frv_zero
      · rw [List.mem_singleton.mp z]
        exact hf
    · rw [List.eq_of_mem_replicate z]
      exact frv_zero
theorem pt_ans {m : Nat} {fs : List (Int × Int)} (h : PtOk m fs) : AnsOk fs m := ⟨h.len, fun f z => ⟨(h.ok f z).1.pos, lt_pow (h.ok f z).1.t (by decide), lt_pow (h.ok f z).1.b (by decide)⟩, fun f z => (h.ok f z).2⟩
end Ca
set_option Elab.async false
set_option linter.all false
set_option maxRecDepth 100000
set_option maxHeartbeats 4000000
namespace Ca
open PySem L2
/-! ### is_possible -/
section
variable {P : Program} {w : World} {K : PySem.W.Frag} {mg : Str → Option Value} {base : Heap} {C fUn pUn fRo pRo : Addr} {fdUn fdRo : FuncData}
theorem scCan : FnScope ["row", "answer"] ["row", "answer"] (defScope sCanKeep) := ⟨rfl, rfl, rfl, by decide +kernel, rfl, by decide +kernel, by decide +kernel⟩
theorem ok_can {f fR : Addr} {fd fdR : FuncData} (F : FnT K "can_keep" sCanKeep f fd) (mG : ∃ t, mg "LEAST" = some (.int (-1) t))
    (gR : mg "room_for" = some (.ref fR)) (GR : FnOk P w K mg base CX0 5 fR fdR ["row", "answer", "which"] (spRoom K)) (kR : PySem.W.keepIn K (.ref fR) = true) (bR : Binds K fdR ["row", "answer", "which"] []) :
    FnOk P w K mg base CX0 6 f fd ["row", "answer"] (spKeeps K (-1)) := by
  obtain ⟨t1, c1⟩ := mG
  refine F.ok scCan (fun vs H Q E h => ?_) (fun cdv A outer s H vs Q E hr h => ?_)
  · obtain ⟨x, y, r, fs, m, rfl, _⟩ := h
    rfl
  · obtain ⟨x, y, r, fs, m, rfl, dx, ok, hm, dy, hA, q⟩ := h
    refine ⟨_, PSs.nox (pss_one (ps_ret (pe_cmpR op_ge (pe_ix ix_tup (pe_call GR hr rfl gR kR bR .nil pass0 (pa_cons (pv 0) (pa_cons (pv 1) (pa_cons (pe_glob (v := .int (-1)) rfl c1 ⟨_, rfl⟩) pa_nil)))) pe_int (fun _ _ => rfl)) pe_int (nomark _)))), ?_⟩
    refine ⟨_, rfl, _, rfl, x, y, -1, r, fs, m, rfl, .inr rfl, dx, ok, hm, dy, hA, fun H1 z t p p2 s1 dz tl ft hR => ?_⟩
    obtain ⟨a, rfl, ha⟩ := fr_at dz
    refine ⟨a, _, 0, _, rfl, rfl, ha, atI_nat (j := 0) rfl, _, _, rfl, rfl, ?_⟩
    have e := room_sign hA tl ft.pos hR
    have := q H1 s1
    rw [← e] at this
    exact this
theorem scPoss : FnScope ["system", "answer", "row"] ["system", "answer"] (defScope sIsPossible) := ⟨rfl, rfl, rfl, by decide +kernel, rfl, by decide +kernel, by decide +kernel⟩
theorem ok_poss {f fS fA fK : Addr} {fd fdS fdA fdK : FuncData} (F : FnT K "is_possible" sIsPossible f fd) (B : Bn mg) (S : SysC K C) (ro : PropOf K C "rows" pRo fRo) (GRo : FnOk P w K mg base CX0 1 fRo fdRo ["self"] (spRows C)) (bRo : Binds K fdRo ["self"] [])
    (gS : mg "check_system" = some (.ref fS)) (GS : FnOk P w K mg base CX0 1 fS fdS ["system"] (spChkS K C)) (kS : PySem.W.keepIn K (.ref fS) = true) (bS : Binds K fdS ["system"] [])
    (gA : mg "check_answer" = some (.ref fA)) (GA : FnOk P w K mg base CX0 4 fA fdA ["system", "answer"] (spChkA K C)) (kA : PySem.W.keepIn K (.ref fA) = true) (bA : Binds K fdA ["system", "answer"] [])
    (gK : mg "can_keep" = some (.ref fK)) (GK : FnOk P w K mg base CX0 6 fK fdK ["row", "answer"] (spKeeps K (-1))) (kK : PySem.W.keepIn K (.ref fK) = true) (bK : Binds K fdK ["row", "answer"] []) :
    FnOk P w K mg base CX0 7 f fd ["system", "answer"] (spAsk K C (-1)) := by
  refine F.ok scPoss (fun vs H Q E h => ?_) (fun cdv A outer s H vs Q E hr h => ?_)
  · obtain ⟨x, v, ns, rs, fs, rfl, _⟩ := h
    rfl
  · obtain ⟨x, v, ns, rs, fs, rfl, hX, dv, hA, q⟩ := h
    have nd := scPoss.nd
    have hr1 : Room 1 _ := hr.mono (by decide)
    have hr2 : Room 2 _ := hr.mono (by decide)
    have hr4 : Room 4 _ := hr.mono (by decide)
    refine ⟨_, PSs.nox (pss_cons (ps_expr (pe_call GS hr1 rfl gS kS bS .nil pass0 (pa_cons (pv 0) pa_nil)))
      (pss_cons (ps_expr (pe_call GA hr4 rfl gA kA bA .nil pass0 (pa_cons (pv 0) (pa_cons (pv 1) pa_nil))))
      (pss_one (ps_ret (pe_callB (cr_all rfl) (by rfl) B.all PyProof.Rows.boot_all (pa_cons (pe_lc (own := [("row", 2)]) (g := gName 2) (tt := tYes) rfl nd (pi_tup (pe_prop (pv 0) S.cl ro GRo hr2 bRo .nil pass0 rfl))
          (blkOk_by (own := [("row", 2)]) (N := ["system", "answer", "row"]) (sc := defScope sIsPossible) (by decide +kernel)) (fun _ _ _ _ _ => pg_name (i := 2) nd rfl (Or.inl rfl)) (fun _ _ _ _ _ => pts_nil)
          (fun _ _ _ _ _ => pe_call GK hr rfl gK kK bK .nil pass0 (pa_cons (pv 2) (pa_cons (pv 1) pa_nil)))) pa_nil)))))), ?_⟩
    refine ⟨_, rfl, x, ns, rs, rfl, hX, _, rfl, _, rfl, x, v, frsD fs, ns, rs, rfl, hX, dv, hA.is, fun H1 s1 => ?_⟩
    obtain ⟨hN, hL, dx, tu, tr, ex, _, dr⟩ := hX.same s1
    have n3 := hN.hi
    have r6 := hL.hi
    obtain ⟨a, xs, rfl, h1, h2, hl⟩ := tup_len dr
    rw [List.length_map] at hl
    refine ⟨_, rfl, x, dx, _, rfl, ex, x, dx, tu, .ref a, rfl, ex, a, rfl, ⟨_, h1⟩, fun D hD => ?_⟩
    refine lc_known (walk_tup (K := K) (a := a) (xs := xs)) (fun i => .bl (keepsW (-1) fs (rs.getD i noRow))) (by omega) hD (fun H' s' => same_sqt s' h1) (fun _ _ _ _ y => by obtain ⟨rfl, _⟩ := y; exact fun _ _ e => e) (fun _ => rfl) ?_ ?_
    · rintro i z H6 H7 Qk hi s7 ⟨rfl, hz⟩ kk
      have hi2 : i < rs.length := by omega
      obtain ⟨d, hdi, hdq⟩ := (h2.same s7).get hz
      rw [List.getElem?_map, List.getElem?_eq_getElem hi2] at hdi
      cases hdi
      have en : rs.getD i noRow = rs[i] := by rw [List.getD_eq_getElem?_getD, List.getElem?_eq_getElem hi2]; rfl
      refine ⟨_, rfl, _, rfl, z, v, rs[i], fs, ns.length, rfl, hdq, hL.ok _ (List.getElem_mem hi2), n3, (dv.same s1).same s7, hA, fun H8 s8 => ?_⟩
      have kx := kk H8 s8
      rw [en] at kx
      exact kx
    · intro H6 s6 bD
      refine ⟨D, (List.range rs.length).map fun i => keepsW (-1) fs (rs.getD i noRow), rfl, SqL.of (by rw [bD, List.map_map, hl]; rfl), ?_⟩
      rw [all_keeps rs (keepsW (-1) fs) noRow rs.length rfl]
      exact q H6 (s1.trans s6)
end
end Ca
set_option Elab.async false
set_option linter.all false
set_option maxRecDepth 100000
set_option maxHeartbeats 4000000
namespace Ca
open PySem L2
/-! ### rooms -/
theorem red_same {a b a' b' p q : Int} (h : Red a b p q) (hb : 0 < b') (e : a * b' = a' * b) : Red a' b' p q := by
  have c := h.cross
  have hq := h.pos
  obtain ⟨g, hg, e1, e2⟩ := h.ex
  have b0 : 0 < b := by rw [← e2]; exact Int.mul_pos hq hg
  have k : p * b' = q * a' := by
    refine Int.eq_of_mul_eq_mul_right (Int.ne_of_gt b0) ?_
    rw [Int.mul_right_comm, c, Int.mul_right_comm, e, Int.mul_right_comm]
    rw [Int.mul_comm a' q, Int.mul_right_comm]
  have d : q ∣ b' := by
    have d1 : q.natAbs ∣ p.natAbs * b'.natAbs := by
      rw [← Int.natAbs_mul, k, Int.natAbs_mul]
      exact Nat.dvd_mul_right _ _
    exact Int.natAbs_dvd_natAbs.mp (Nat.Coprime.dvd_of_dvd_mul_left (show Nat.gcd q.natAbs p.natAbs = 1 by rw [Nat.gcd_comm]; exact h.cop) d1)
  obtain ⟨g', rfl⟩ := d
  have g0 : 0 < g' := Int.lt_of_not_ge fun h => by
    have := Int.mul_nonpos_of_nonneg_of_nonpos (Int.le_of_lt hq) h
    omega
  refine ⟨hq, ⟨g', g0, ?_, rfl⟩, h.cop⟩
  refine Int.eq_of_mul_eq_mul_left (Int.ne_of_gt hq) ?_
  rw [← k, ← Int.mul_assoc, ← Int.mul_assoc, Int.mul_comm q p]
theorem room_gap {wh : Int} {fs : List (Int × Int)} {m : Nat} {r : Rw} {t : Int × Int} {p q : Int} (A : AnsOk fs m) (hT : Tells (endsOf wh r.parts fs) fs t) (hR : Red (bdOf wh r * t.2 + -t.1 * 1) (1 * t.2) p q) : Red (gapW wh fs r) (prodB fs) p q := by
  have W0 := prodB_pos fun f hf => (A.ok f hf).pos
  have e := hT (prodB fs) W0 fun f hf => prodB_dvd hf
  refine red_same hR W0 ?_
  unfold gapW
  generalize sumW (prodB fs) (endsOf wh r.parts fs) fs = S at e ⊢
  generalize prodB fs = W at e W0 ⊢
  generalize bdOf wh r = B
  rw [Int.mul_one, Int.one_mul, Int.add_mul, Int.neg_mul, e, Int.sub_mul, Int.mul_right_comm, Int.mul_comm t.2 S]
  omega
def spRoomsP (K : PySem.W.Frag) (C : Addr) : Sp := fun vs H Q _ => ∃ (x : Addr) (v : V) (ns : List Str) (rs : List Rw) (fs : List (Int × Int)), vs = [.ref x, v] ∧ SysAt K C H x ns rs ∧ Dq K H v (frsD fs) ∧ AnsOk fs ns.length ∧ ∀ H' z ts, Same H H' → Dq K H' z (.tuple (ts.map roomD)) → RoomsT fs rs ts → Q z H'
section
variable {P : Program} {w : World} {K : PySem.W.Frag} {mg : Str → Option Value} {base : Heap} {C fUn pUn fRo pRo : Addr} {fdUn fdRo : FuncData}
theorem scRoomsP : FnScope ["system", "answer", "row"] ["system", "answer"] (defScope sRooms) := ⟨rfl, rfl, rfl, by decide +kernel, rfl, by decide +kernel, by decide +kernel⟩
theorem ok_roomsP {f fS fA fR : Addr} {fd fdS fdA fdR : FuncData} (F : FnT K "rooms" sRooms f fd) (B : Bn mg) (S : SysC K C) (mG : ∃ t, mg "GREATEST" = some (.int 1 t)) (mL : ∃ t, mg "LEAST" = some (.int (-1) t)) (ro : PropOf K C "rows" pRo fRo) (GRo : FnOk P w K mg base CX0 1 fRo fdRo ["self"] (spRows C)) (bRo : Binds K fdRo ["self"] [])
    (gS : mg "check_system" = some (.ref fS)) (GS : FnOk P w K mg base CX0 1 fS fdS ["system"] (spChkS K C)) (kS : PySem.W.keepIn K (.ref fS) = true) (bS : Binds K fdS ["system"] [])
    (gA : mg "check_answer" = some (.ref fA)) (GA : FnOk P w K mg base CX0 4 fA fdA ["system", "answer"] (spChkA K C)) (kA : PySem.W.keepIn K (.ref fA) = true) (bA : Binds K fdA ["system", "answer"] [])
    (gR : mg "room_for" = some (.ref fR)) (GR : FnOk P w K mg base CX0 5 fR fdR ["row", "answer", "which"] (spRoom K)) (kR : PySem.W.keepIn K (.ref fR) = true) (bR : Binds K fdR ["row", "answer", "which"] []) :
    FnOk P w K mg base CX0 6 f fd ["system", "answer"] (spRoomsP K C) := by
  obtain ⟨t1, c1⟩ := mG
  obtain ⟨t2, c2⟩ := mL
  refine F.ok scRoomsP (fun vs H Q E h => ?_) (fun cdv A outer s H vs Q E hr h => ?_)
  · obtain ⟨x, v, ns, rs, fs, rfl, _⟩ := h
    rfl
  · obtain ⟨x, v, ns, rs, fs, rfl, hX, dv, hA, q⟩ := h
    have nd := scRoomsP.nd
    have hr1 : Room 1 _ := hr.mono (by decide)
    have hr2 : Room 2 _ := hr.mono (by decide)
    have hr4 : Room 4 _ := hr.mono (by decide)
    refine ⟨_, PSs.nox (pss_cons (ps_expr (pe_call GS hr1 rfl gS kS bS .nil pass0 (pa_cons (pv 0) pa_nil)))
      (pss_cons (ps_expr (pe_call GA hr4 rfl gA kA bA .nil pass0 (pa_cons (pv 0) (pa_cons (pv 1) pa_nil))))
      (pss_one (ps_ret (pe_callTy call_tuple_of (by rfl) B.tup (by decide +kernel) (pa_cons (pe_lc (own := [("row", 2)]) (g := gName 2) (tt := tYes) rfl nd (pi_tup (pe_prop (pv 0) S.cl ro GRo hr2 bRo .nil pass0 rfl))
          (blkOk_by (own := [("row", 2)]) (N := ["system", "answer", "row"]) (sc := defScope sRooms) (by decide +kernel)) (fun _ _ _ _ _ => pg_name (i := 2) nd rfl (Or.inl rfl)) (fun _ _ _ _ _ => pts_nil)
          (fun _ _ _ _ _ => pe_tup (pa_cons (pe_call GR hr rfl gR kR bR .nil pass0 (pa_cons (pv 2) (pa_cons (pv 1) (pa_cons (pe_glob (v := .int 1) rfl c1 ⟨_, rfl⟩) pa_nil))))
            (pa_cons (pe_call GR hr rfl gR kR bR .nil pass0 (pa_cons (pv 2) (pa_cons (pv 1) (pa_cons (pe_glob (v := .int (-1)) rfl c2 ⟨_, rfl⟩) pa_nil)))) pa_nil)))) pa_nil)))))), ?_⟩
    refine ⟨_, rfl, x, ns, rs, rfl, hX, _, rfl, _, rfl, x, v, frsD fs, ns, rs, rfl, hX, dv, hA.is, fun H1 s1 => ?_⟩
    obtain ⟨hN, hL, dx, tu, tr, ex, _, dr⟩ := hX.same s1
    have n3 := hN.hi
    have r6 := hL.hi
    obtain ⟨a, xs, rfl, h1, h2, hl⟩ := tup_len dr
    rw [List.length_map] at hl
    refine ⟨_, rfl, x, dx, _, rfl, ex, x, dx, tu, .ref a, rfl, ex, a, rfl, ⟨_, h1⟩, fun D hD => ?_⟩
    refine lc_it (walk_tup (K := K) (a := a) (xs := xs)) (fun i H' => Same H1 H' ∧ ∃ ys ts, H' D = some (.lst ys) ∧ DqAll K H' ys (ts.map roomD) ∧ RoomsT fs (rs.take i) ts) ⟨Same.new hD, [], [], upd_same, .nil, .nil⟩ (fun i H' hi p => same_sqt p.1 h1) ?_ ?_
    · rintro i z _ H6 hi ⟨s6, ys, ts, bD, dys, hts⟩ ⟨rfl, hz⟩
      have hi2 : i < rs.length := by omega
      obtain ⟨d, hdi, hdq⟩ := (h2.same s6).get hz
      rw [List.getElem?_map, List.getElem?_eq_getElem hi2] at hdi
      cases hdi
      have hok := hL.ok _ (List.getElem_mem hi2)
      have etk : rs.take (i + 1) = rs.take i ++ [rs[i]] := by
        rw [List.take_succ, List.getElem?_eq_getElem hi2]
        rfl
      have lts : ts.length = i := by rw [hts.len, List.length_take]; omega
      have lys : ys.length = i := by rw [dys.len, List.length_map, lts]
      generalize rs[i] = R at hdq hok etk
      have dv6 := (dv.same s1).same s6
      refine ⟨rfl, rdYes ⟨_, rfl, _, rfl, z, v, 1, R, fs, ns.length, rfl, .inl rfl, hdq, hok, n3, dv6, hA, fun H7 z1 u1 p1 q1 s7 d1 T1 f1 R1 => ⟨_, rfl, _, rfl, z, v, -1, R, fs, ns.length, rfl, .inr rfl, hdq.same s7, hok, n3, dv6.same s7, hA, fun H8 z2 u2 p2 q2 s8 d2 T2 f2 R2 => ⟨by show 2 ≤ sizeLine; decide, fun t ht => ?_⟩⟩⟩⟩
      have s9 := Same.new (o := .tup [z1, z2]) ht
      have s69 := s7.trans (s8.trans s9)
      have bD9 := s69 _ _ bD
      have kD : ∀ zs : List V, Kept D (upd H8 t (.tup [z1, z2])) (upd (upd H8 t (.tup [z1, z2])) D (.lst zs)) := fun zs b o n e => by rw [upd_ne n]; exact e
      refine ⟨_, bD9, by rw [lys]; exact Nat.lt_trans (show i < 7 by omega) (by decide), fun b o e => ?_, ys ++ [.ref t], ts ++ [((p1, q1), (p2, q2))], upd_same, ?_, ?_⟩
      · rw [upd_ne (ne_of_none e hD)]
        exact s69 _ _ (s6 _ _ e)
      · rw [List.map_append]
        exact (DqAll.but bD9 (kD _) (noLs_map roomD noL_room _) (dys.same s69)).app (.cons (Dq.but bD9 (kD _) (noL_room _) (.tup (SqT.of upd_same) (.cons (d1.same (s8.trans s9)) (.cons (d2.same s9) .nil)))) .nil)
      · rw [etk]
        exact hts.app (.cons ⟨room_gap hA T1 R1, room_gap hA T2 R2⟩ .nil)
    · rintro H6 ⟨s6, ys, ts, bD, dys, hts⟩
      rw [hl, List.take_length] at hts
      refine ⟨D, _, rfl, .inl ⟨SqL.of bD, fun tp htp => ?_⟩⟩
      have s7 := Same.new (o := .tup ys) htp
      exact q _ _ ts (s1.trans (s6.trans s7)) (.tup (SqT.of upd_same) (dys.same s7)) hts
end
end Ca
set_option Elab.async false
set_option linter.all false
set_option maxRecDepth 100000
set_option maxHeartbeats 4000000
set_option exponentiation.threshold 2000
namespace Ca
open PySem L2
/-! ### how great the rooms are, and that there is one only -/
theorem prodB_lt : ∀ {fs : List (Int × Int)}, (∀ f ∈ fs, FrOk 200 f) → (prodB fs).natAbs < 2 ^ (200 * fs.length + 1)
  | [], _ => by decide
  | f :: fs, h => by
    have a1 := (h f (List.mem_cons_self ..)).b
    have a2 := prodB_lt (fs := fs) fun x z => h x (List.mem_cons_of_mem _ z)
    exact lt_pow (wide_lt a1 a2) (by rw [List.length_cons]; omega)
theorem sumE_le (W : Int) (wh : Int) : ∀ (ps fs : List (Int × Int)), (∀ p ∈ ps, inT p) → (∀ f ∈ fs, FrOk 200 f) → (sumW W (endsOf wh ps fs) fs).natAbs ≤ fs.length * (10000 * (2 ^ 200 * W.natAbs))
  | [], fs, _, _ => by simp [endsOf, sumW]
  | _ :: _, [], _, _ => by simp [endsOf, sumW]
  | p :: ps, f :: fs, hp, hf => by
    have ih := sumE_le W wh ps fs (fun x z => hp x (List.mem_cons_of_mem _ z)) (fun x z => hf x (List.mem_cons_of_mem _ z))
    obtain ⟨h1, h2, h3⟩ := hp p (List.mem_cons_self ..)
    have f1 := (hf f (List.mem_cons_self ..)).t
    have e : endsOf wh (p :: ps) (f :: fs) = (if wh * f.1 > 0 then p.2 else p.1) :: endsOf wh ps fs := rfl
    have e2 : sumW W (endsOf wh (p :: ps) (f :: fs)) (f :: fs) = (if wh * f.1 > 0 then p.2 else p.1) * (f.1 * (W / f.2)) + sumW W (endsOf wh ps fs) fs := by rw [e, sumW]
    rw [e2]
    have n1 : (if wh * f.1 > 0 then p.2 else p.1).natAbs ≤ 10000 := by split <;> omega
    have d1 : (W / f.2).natAbs ≤ W.natAbs := Int.natAbs_ediv_le_natAbs _ _
    have m1 : ((if wh * f.1 > 0 then p.2 else p.1) * (f.1 * (W / f.2))).natAbs ≤ 10000 * (2 ^ 200 * W.natAbs) := by
      rw [Int.natAbs_mul, Int.natAbs_mul]
      exact Nat.mul_le_mul n1 (Nat.mul_le_mul (Nat.le_of_lt f1) d1)
    refine Nat.le_trans (Int.natAbs_add_le _ _) ?_
    rw [List.length_cons, Nat.add_mul, Nat.one_mul, Nat.add_comm]
    exact Nat.add_le_add ih m1
theorem prodB_small {fs : List (Int × Int)} (hf : ∀ f ∈ fs, FrOk 200 f) (h3 : fs.length ≤ 3) : (prodB fs).natAbs < 2 ^ 601 := lt_pow (prodB_lt hf) (by omega)
theorem gap_lt {wh : Int} {fs : List (Int × Int)} {r : Rw} {m : Nat} (hr : isRowD (rowD r) m = true) (hf : ∀ f ∈ fs, FrOk 200 f) (h3 : fs.length ≤ 3) : (gapW wh fs r).natAbs < 2 ^ 900 := by
  have hT := row_T hr
  have hb : inT r.bd := hT r.bd (List.mem_append_right _ (List.mem_singleton.mpr rfl))
  have a1 := sumE_le (prodB fs) wh r.parts fs (fun p z => hT p (List.mem_append_left _ z)) hf
  have a2 := prodB_small hf h3
  have b1 : (bdOf wh r).natAbs ≤ 10000 := by
    obtain ⟨i1, i2, i3⟩ := hb
    unfold bdOf
    split <;> omega
  unfold gapW
  have s1 : (bdOf wh r * prodB fs - sumW (prodB fs) (endsOf wh r.parts fs) fs).natAbs ≤ (bdOf wh r * prodB fs).natAbs + (sumW (prodB fs) (endsOf wh r.parts fs) fs).natAbs := Int.natAbs_sub_le _ _
  refine Nat.lt_of_le_of_lt s1 ?_
  rw [Int.natAbs_mul]
  have c1 : (bdOf wh r).natAbs * (prodB fs).natAbs ≤ 10000 * 2 ^ 601 := Nat.mul_le_mul b1 (Nat.le_of_lt a2)
  have c2 : (sumW (prodB fs) (endsOf wh r.parts fs) fs).natAbs ≤ 3 * (10000 * (2 ^ 200 * 2 ^ 601)) := Nat.le_trans a1 (Nat.mul_le_mul h3 (Nat.mul_le_mul (Nat.le_refl _) (Nat.mul_le_mul (Nat.le_refl _) (Nat.le_of_lt a2))))
  refine Nat.lt_of_le_of_lt (Nat.add_le_add c1 c2) ?_
  decide +kernel
def wideI (i : Int) : Prop := i.natAbs < 2 ^ 900
def WideT (t : (Int × Int) × (Int × Int)) : Prop := wideI t.1.1 ∧ wideI t.1.2 ∧ wideI t.2.1 ∧ wideI t.2.2
theorem room_wide {fs : List (Int × Int)} {r : Rw} {m : Nat} {t : (Int × Int) × (Int × Int)} (h : RoomT fs r t) (hr : isRowD (rowD r) m = true) (hf : ∀ f ∈ fs, FrOk 200 f) (h3 : fs.length ≤ 3) : WideT t := by
  have p := lt_pow (prodB_small hf h3) (b := 900) (by decide)
  obtain ⟨l1, l2⟩ := h.lo.le
  obtain ⟨l3, l4⟩ := h.hi.le
  exact ⟨Nat.lt_of_le_of_lt l1 (gap_lt hr hf h3), Nat.lt_of_le_of_lt l2 p, Nat.lt_of_le_of_lt l3 (gap_lt hr hf h3), Nat.lt_of_le_of_lt l4 p⟩
end Ca
set_option Elab.async false
set_option linter.all false
set_option maxRecDepth 100000
set_option maxHeartbeats 4000000
namespace Ca
open PySem L2
section
variable {P : Program} {w : World} {K : PySem.W.Frag} {mg : Str → Option Value} {base : Heap} {C : Addr}
theorem scKeeps : FnScope ["row", "answer"] ["row", "answer"] (defScope sAlwaysKeeps) := ⟨rfl, rfl, rfl, by decide +kernel, rfl, by decide +kernel, by decide +kernel⟩
theorem ok_always {f fR : Addr} {fd fdR : FuncData} (F : FnT K "always_keeps" sAlwaysKeeps f fd) (mG : ∃ t, mg "GREATEST" = some (.int 1 t))
    (gR : mg "room_for" = some (.ref fR)) (GR : FnOk P w K mg base CX0 5 fR fdR ["row", "answer", "which"] (spRoom K)) (kR : PySem.W.keepIn K (.ref fR) = true) (bR : Binds K fdR ["row", "answer", "which"] []) :
    FnOk P w K mg base CX0 6 f fd ["row", "answer"] (spKeeps K 1) := by
  obtain ⟨t1, c1⟩ := mG
  refine F.ok scKeeps (fun vs H Q E h => ?_) (fun cdv A outer s H vs Q E hr h => ?_)
  · obtain ⟨x, y, r, fs, m, rfl, _⟩ := h
    rfl
  · obtain ⟨x, y, r, fs, m, rfl, dx, ok, hm, dy, hA, q⟩ := h
    refine ⟨_, PSs.nox (pss_one (ps_ret (pe_cmpR op_ge (pe_ix ix_tup (pe_call GR hr rfl gR kR bR .nil pass0 (pa_cons (pv 0) (pa_cons (pv 1) (pa_cons (pe_glob (v := .int 1) rfl c1 ⟨_, rfl⟩) pa_nil)))) pe_int (fun _ _ => rfl)) pe_int (nomark _)))), ?_⟩
    refine ⟨_, rfl, _, rfl, x, y, 1, r, fs, m, rfl, .inl rfl, dx, ok, hm, dy, hA, fun H1 z t p p2 s1 dz tl ft hR => ?_⟩
    obtain ⟨a, rfl, ha⟩ := fr_at dz
    refine ⟨a, _, 0, _, rfl, rfl, ha, atI_nat (j := 0) rfl, _, _, rfl, rfl, ?_⟩
    have e := room_sign hA tl ft.pos hR
    have := q H1 s1
    rw [← e] at this
    exact this
end
end Ca
set_option Elab.async false
set_option linter.all false
set_option maxRecDepth 100000
set_option maxHeartbeats 4000000
namespace Ca
open PySem L2
section
variable {P : Program} {w : World} {K : PySem.W.Frag} {mg : Str → Option Value} {base : Heap} {C fUn pUn fRo pRo : Addr} {fdUn fdRo : FuncData}
theorem scSure : FnScope ["system", "answer", "row"] ["system", "answer"] (defScope sIsSure) := ⟨rfl, rfl, rfl, by decide +kernel, rfl, by decide +kernel, by decide +kernel⟩
theorem ok_sure {f fS fA fK : Addr} {fd fdS fdA fdK : FuncData} (F : FnT K "is_sure" sIsSure f fd) (B : Bn mg) (S : SysC K C) (ro : PropOf K C "rows" pRo fRo) (GRo : FnOk P w K mg base CX0 1 fRo fdRo ["self"] (spRows C)) (bRo : Binds K fdRo ["self"] [])
    (gS : mg "check_system" = some (.ref fS)) (GS : FnOk P w K mg base CX0 1 fS fdS ["system"] (spChkS K C)) (kS : PySem.W.keepIn K (.ref fS) = true) (bS : Binds K fdS ["system"] [])
    (gA : mg "check_answer" = some (.ref fA)) (GA : FnOk P w K mg base CX0 4 fA fdA ["system", "answer"] (spChkA K C)) (kA : PySem.W.keepIn K (.ref fA) = true) (bA : Binds K fdA ["system", "answer"] [])
    (gK : mg "always_keeps" = some (.ref fK)) (GK : FnOk P w K mg base CX0 6 fK fdK ["row", "answer"] (spKeeps K 1)) (kK : PySem.W.keepIn K (.ref fK) = true) (bK : Binds K fdK ["row", "answer"] []) :
    FnOk P w K mg base CX0 7 f fd ["system", "answer"] (spAsk K C 1) := by
  refine F.ok scSure (fun vs H Q E h => ?_) (fun cdv A outer s H vs Q E hr h => ?_)
  · obtain ⟨x, v, ns, rs, fs, rfl, _⟩ := h
    rfl
  · obtain ⟨x, v, ns, rs, fs, rfl, hX, dv, hA, q⟩ := h
    have nd := scSure.nd
    have hr1 : Room 1 _ := hr.mono (by decide)
    have hr2 : Room 2 _ := hr.mono (by decide)
    have hr4 : Room 4 _ := hr.mono (by decide)
    refine ⟨_, PSs.nox (pss_cons (ps_expr (pe_call GS hr1 rfl gS kS bS .nil pass0 (pa_cons (pv 0) pa_nil)))
      (pss_cons (ps_expr (pe_call GA hr4 rfl gA kA bA .nil pass0 (pa_cons (pv 0) (pa_cons (pv 1) pa_nil))))
      (pss_one (ps_ret (pe_callB (cr_all rfl) (by rfl) B.all PyProof.Rows.boot_all (pa_cons (pe_lc (own := [("row", 2)]) (g := gName 2) (tt := tYes) rfl nd (pi_tup (pe_prop (pv 0) S.cl ro GRo hr2 bRo .nil pass0 rfl))
          (blkOk_by (own := [("row", 2)]) (N := ["system", "answer", "row"]) (sc := defScope sIsSure) (by decide +kernel)) (fun _ _ _ _ _ => pg_name (i := 2) nd rfl (Or.inl rfl)) (fun _ _ _ _ _ => pts_nil)
          (fun _ _ _ _ _ => pe_call GK hr rfl gK kK bK .nil pass0 (pa_cons (pv 2) (pa_cons (pv 1) pa_nil)))) pa_nil)))))), ?_⟩
    refine ⟨_, rfl, x, ns, rs, rfl, hX, _, rfl, _, rfl, x, v, frsD fs, ns, rs, rfl, hX, dv, hA.is, fun H1 s1 => ?_⟩
    obtain ⟨hN, hL, dx, tu, tr, ex, _, dr⟩ := hX.same s1
    have n3 := hN.hi
    have r6 := hL.hi
    obtain ⟨a, xs, rfl, h1, h2, hl⟩ := tup_len dr
    rw [List.length_map] at hl
    refine ⟨_, rfl, x, dx, _, rfl, ex, x, dx, tu, .ref a, rfl, ex, a, rfl, ⟨_, h1⟩, fun D hD => ?_⟩
    refine lc_known (walk_tup (K := K) (a := a) (xs := xs)) (fun i => .bl (keepsW 1 fs (rs.getD i noRow))) (by omega) hD (fun H' s' => same_sqt s' h1) (fun _ _ _ _ y => by obtain ⟨rfl, _⟩ := y; exact fun _ _ e => e) (fun _ => rfl) ?_ ?_
    · rintro i z H6 H7 Qk hi s7 ⟨rfl, hz⟩ kk
      have hi2 : i < rs.length := by omega
      obtain ⟨d, hdi, hdq⟩ := (h2.same s7).get hz
      rw [List.getElem?_map, List.getElem?_eq_getElem hi2] at hdi
      cases hdi
      have en : rs.getD i noRow = rs[i] := by rw [List.getD_eq_getElem?_getD, List.getElem?_eq_getElem hi2]; rfl
      refine ⟨_, rfl, _, rfl, z, v, rs[i], fs, ns.length, rfl, hdq, hL.ok _ (List.getElem_mem hi2), n3, (dv.same s1).same s7, hA, fun H8 s8 => ?_⟩
      have kx := kk H8 s8
      rw [en] at kx
      exact kx
    · intro H6 s6 bD
      refine ⟨D, (List.range rs.length).map fun i => keepsW 1 fs (rs.getD i noRow), rfl, SqL.of (by rw [bD, List.map_map, hl]; rfl), ?_⟩
      rw [all_keeps rs (keepsW 1 fs) noRow rs.length rfl]
      exact q H6 (s1.trans s6)
end
end Ca
set_option Elab.async false
set_option linter.all false
set_option maxRecDepth 100000
set_option maxHeartbeats 8000000
namespace Ca
open PySem L2
theorem RoomsT.get {fs : List (Int × Int)} : ∀ {rs : List Rw} {ts : List ((Int × Int) × (Int × Int))} {i : Nat} (h : RoomsT fs rs ts) (h1 : i < rs.length) (h2 : i < ts.length), RoomT fs rs[i] ts[i]
  | _, _, 0, .cons a _, _, _ => a
  | _, _, i + 1, .cons _ b, h1, h2 => b.get (i := i) (Nat.lt_of_succ_lt_succ h1) (Nat.lt_of_succ_lt_succ h2)
theorem noL_mates (ts : List Mate) : noL (.tuple (ts.map mateD)) = true := noLs_map mateD noL_mate ts
/-- what stands through all rounds -/
structure St17 (K : PySem.W.Frag) (C l : Addr) (H : Hp) (c x p : Addr) (ns : List Str) (rs : List Rw) (xs : List V) (fss : List (List (Int × Int))) : Prop where
  dc : Dq K H (.ref c) (caseD ns rs)
  hX : SysAt K C H x ns rs
  bp : H p = some (.lst xs)
  dx : DqAll K H xs (fss.map frsD)
  np : p ≠ l
theorem St17.same {K : PySem.W.Frag} {C l : Addr} {H H' : Hp} {c x p : Addr} {ns : List Str} {rs : List Rw} {xs : List V} {fss : List (List (Int × Int))} (h : St17 K C l H c x p ns rs xs fss) (s : Same H H') : St17 K C l H' c x p ns rs xs fss :=
  ⟨h.dc.same s, h.hX.same s, s _ _ h.bp, h.dx.same s, h.np⟩
theorem St17.but {K : PySem.W.Frag} {C l : Addr} {H H' : Hp} {c x p : Addr} {ns : List Str} {rs : List Rw} {xs us : List V} {fss : List (List (Int × Int))} (hl : H l = some (.lst us)) (k : Kept l H H') (h : St17 K C l H c x p ns rs xs fss) : St17 K C l H' c x p ns rs xs fss :=
  ⟨Dq.but hl k (noL_case (ns, rs)) h.dc, h.hX.but hl k, k _ _ h.np h.bp, DqAll.but hl k (noLs_map frsD noL_frs fss) h.dx, h.np⟩
abbrev N17 : List Str := ["_law_urn_here", "_law_turn", "_law_case_here", "_law_mine", "_law_points", "_law_again", "_law_mates", "_law_near", "_law_lot", "_law_is_one_here", "_law_gaps", "_law_mate", "_law_k"]
theorem sc17 : FnScope N17 ["_law_urn_here"] (defScope sLawRight) := ⟨rfl, rfl, rfl, by decide +kernel, rfl, by decide +kernel, by decide +kernel⟩
section
variable {P : Program} {w : World} {K : PySem.W.Frag} {mg : Str → Option Value} {base : Heap} {C : Addr}
theorem ok_right17 {f fC fM fPo fMd fCl fO fSu fPs fRp fBt : Addr} {fd fdC fdM fdPo fdMd fdCl fdO fdSu fdPs fdRp fdBt : FuncData} (F : FnT K "_law_right" sLawRight f fd) (B : Bn mg) (Bx : Bm mg) (mzip : mg "zip" = none)
    (gC : mg "_law_case" = some (.ref fC)) (GC : FnOk P w K mg base CX0 5 fC fdC ["_law_urn_here", "_law_many", "_law_most"] (spCase K)) (kC : PySem.W.keepIn K (.ref fC) = true) (bC : Binds K fdC ["_law_urn_here", "_law_many", "_law_most"] [])
    (gM : mg "_law_made" = some (.ref fM)) (GM : FnOk P w K mg base CX0 7 fM fdM ["_law_case_here"] (spMadeC K C)) (kM : PySem.W.keepIn K (.ref fM) = true) (bM : Binds K fdM ["_law_case_here"] [])
    (gPo : mg "_law_point" = some (.ref fPo)) (GPo : FnOk P w K mg base CX0 4 fPo fdPo ["_law_urn_here", "_law_many"] (spPoint K)) (kPo : PySem.W.keepIn K (.ref fPo) = true) (bPo : Binds K fdPo ["_law_urn_here", "_law_many"] [])
    (gMd : mg "_law_member" = some (.ref fMd)) (GMd : FnOk P w K mg base CX0 4 fMd fdMd ["_law_urn_here", "_law_case_here"] (spMemberD K)) (kMd : PySem.W.keepIn K (.ref fMd) = true) (bMd : Binds K fdMd ["_law_urn_here", "_law_case_here"] [])
    (gCl : mg "_law_closer" = some (.ref fCl)) (GCl : FnOk P w K mg base CX0 7 fCl fdCl ["_law_case_here", "_law_mates"] (spCloser K C)) (kCl : PySem.W.keepIn K (.ref fCl) = true) (bCl : Binds K fdCl ["_law_case_here", "_law_mates"] [])
    (gO : mg "_law_is_one" = some (.ref fO)) (GO : FnOk P w K mg base CX0 1 fO fdO ["_law_member_here", "_law_lot"] (spOneM K)) (kO : PySem.W.keepIn K (.ref fO) = true) (bO : Binds K fdO ["_law_member_here", "_law_lot"] [])
    (gSu : mg "is_sure" = some (.ref fSu)) (GSu : FnOk P w K mg base CX0 7 fSu fdSu ["system", "answer"] (spAsk K C 1)) (kSu : PySem.W.keepIn K (.ref fSu) = true) (bSu : Binds K fdSu ["system", "answer"] [])
    (gPs : mg "is_possible" = some (.ref fPs)) (GPs : FnOk P w K mg base CX0 7 fPs fdPs ["system", "answer"] (spAsk K C (-1))) (kPs : PySem.W.keepIn K (.ref fPs) = true) (bPs : Binds K fdPs ["system", "answer"] [])
    (gRp : mg "rooms" = some (.ref fRp)) (GRp : FnOk P w K mg base CX0 6 fRp fdRp ["system", "answer"] (spRoomsP K C)) (kRp : PySem.W.keepIn K (.ref fRp) = true) (bRp : Binds K fdRp ["system", "answer"] [])
    (gBt : mg "_law_is_between" = some (.ref fBt)) (GBt : FnOk P w K mg base CX0 1 fBt fdBt ["_law_gaps", "_law_mate", "_law_lot"] (spBetw K)) (kBt : PySem.W.keepIn K (.ref fBt) = true) (bBt : Binds K fdBt ["_law_gaps", "_law_mate", "_law_lot"] []) :
    FnG P w K mg base 8 f fd ["_law_urn_here"] spAll := by
  refine fnG_of F sc17 (fun vs H Q E h => ?_) (fun cdv A outer s H vs Q hgd hr h => ?_)
  · obtain ⟨l, rfl, _⟩ := h
    rfl
  · obtain ⟨l, rfl, hU, q⟩ := h
    have nd := sc17.nd
    have hr1 : Room 1 _ := hr.mono (by decide)
    have hr4 : Room 4 _ := hr.mono (by decide)
    have hr5 : Room 5 _ := hr.mono (by decide)
    have hr6 : Room 6 _ := hr.mono (by decide)
    refine ⟨_, PSs.nox (pss_cons (ps_for PassesOwn.never rfl (pi_range1 rfl Bx.rng (pa_cons pe_int pa_nil)) (pg_name (i := 1) nd rfl (.inl rfl))
        (pss_cons (ps_cut (ps_set (i := 2) nd rfl (.inr rfl) (pe_call GC hr5 rfl gC kC bC .nil pass0 (pa_cons (pv 0) (pa_cons pe_int (pa_cons pe_int pa_nil))))))
        (pss_cons (ps_cut (ps_par (i := 3) (j := 4) rfl nd rfl rfl (by decide) rfl rfl (pa_cons (pe_call GM hr rfl gM kM bM .nil pass0 (pa_cons (pv 2) pa_nil))
            (pa_cons (pe_lc (own := [("_law_k", 12)]) (g := gName 12) (tt := tYes) rfl nd (pi_range1 rfl Bx.rng (pa_cons pe_int pa_nil))
              (blkOk_by (own := [("_law_k", 12)]) (N := N17) (sc := defScope sLawRight) (by decide +kernel)) (fun _ _ _ _ _ => pg_name (i := 12) nd rfl (Or.inl rfl)) (fun _ _ _ _ _ => pts_nil)
              (fun _ _ _ _ _ => pe_call GPo hr4 rfl gPo kPo bPo .nil pass0 (pa_cons (pv 0) (pa_cons (pe_callB (call_lenK K) (by rfl) B.len boot_len (pa_cons (pe_ix (ixT K) (pv 2) pe_int (fun _ _ => rfl)) pa_nil)) pa_nil)))) pa_nil)) rfl))
        (pss_one (ps_cut (ps_for PassesOwn.never rfl (pi_range1 rfl Bx.rng (pa_cons pe_int pa_nil)) (pg_name (i := 5) nd rfl (.inl rfl))
          (pss_cons (ps_cut (ps_set (i := 6) nd rfl (.inl rfl) (pe_call GMd hr4 rfl gMd kMd bMd .nil pass0 (pa_cons (pv 0) (pa_cons (pv 2) pa_nil)))))
          (pss_cons (ps_cut (ps_set (i := 7) nd rfl (.inl rfl) (pe_call GCl hr rfl gCl kCl bCl .nil pass0 (pa_cons (pv 2) (pa_cons (pv 6) pa_nil)))))
          (pss_one (ps_cut (ps_for PassesOwn.never rfl (pi_list (pv 4)) (pg_name (i := 8) nd rfl (.inl rfl))
            (pss_cons (ps_cut (ps_set (i := 9) nd rfl (.inl rfl) (pe_call GO hr1 rfl gO kO bO .nil pass0 (pa_cons (pv 6) (pa_cons (pv 8) pa_nil)))))
            (pss_cons (ps_cut (ps_if (PW.pt (pw_and (pt_val (pe_call GSu hr rfl gSu kSu bSu .nil pass0 (pa_cons (pv 3) (pa_cons (pv 8) pa_nil))))
                (pw_and1 (pt_not (PW.pt (pw_and (pt_val (pv 9)) (pw_and1 (pt_val (pe_call GSu hr rfl gSu kSu bSu .nil pass0 (pa_cons (pv 7) (pa_cons (pv 8) pa_nil))))))))))) (pss_one (ps_ret pe_bl)) pss_nil))
            (pss_cons (ps_cut (ps_if (PW.pt (pw_and (PW.pt (pw_or (pt_val (pv 9)) (pw_or1 (pt_val (pe_call GPs hr rfl gPs kPs bPs .nil pass0 (pa_cons (pv 7) (pa_cons (pv 8) pa_nil)))))))
                (pw_and1 (pt_not (pt_val (pe_call GPs hr rfl gPs kPs bPs .nil pass0 (pa_cons (pv 3) (pa_cons (pv 8) pa_nil)))))))) (pss_one (ps_ret pe_bl)) pss_nil))
            (pss_one (ps_cut (ps_for PassesOwn.never rfl (RZ.pi_zipA (by rfl) mzip (pa_cons (pe_call GRp hr6 rfl gRp kRp bRp .nil pass0 (pa_cons (pv 3) (pa_cons (pv 8) pa_nil))) (pa_cons (pv 6) pa_nil)))
                (pg_tup rfl (pgs_cons (pg_name (i := 10) nd rfl (.inl rfl)) (pgs_cons (pg_name (i := 11) nd rfl (.inl rfl)) pgs_nil)))
              (pss_one (ps_if (pt_not (pt_val (pe_call GBt hr1 rfl gBt kBt bBt .nil pass0 (pa_cons (pv 10) (pa_cons (pv 11) (pa_cons (pv 8) pa_nil)))))) (pss_one (ps_ret pe_bl)) pss_nil)))))))))))))))))))
      (pss_one (ps_ret pe_bl))), ?_⟩
    refine ⟨3, rfl, by decide, by decide, ?_⟩
    refine for_it (walk_range (lo := 0) (n := 3)) (fun i σ' H' => (∃ o1 o2 o3 o4 o5 o6 o7 o8 o9 o10 o11, σ' = [some (.ref l), o1, o2, o3, o4, o5, o6, o7, o8, o9, o10, o11, none]) ∧ Kept l H H' ∧ Urn H' l)
      ⟨⟨_, _, _, _, _, _, _, _, _, _, _, rfl⟩, Kept.refl l H, hU⟩ (fun _ _ _ _ _ => trivial) ?_ (fun σ' H' p => q H' p.2.1 p.2.2)
    rintro i _ _ H1 _ hi ⟨⟨o1, o2, o3, o4, o5, o6, o7, o8, o9, o10, o11, rfl⟩, k1, u1⟩ ⟨rfl, rfl⟩
    -- the case
    refine ⟨fun σ' H' => ∃ c t ns rs, σ' = [some (.ref l), t, some (.ref c), o3, o4, o5, o6, o7, o8, o9, o10, o11, none] ∧ Folk ns ∧ Lines rs ns.length ∧ Kept l H H' ∧ Urn H' l ∧ Dq K H' (.ref c) (caseD ns rs), ?_, ?_⟩
    · refine ⟨_, rfl, l, 6, rfl, by decide, u1, fun H6 v ns rs k6 u6 dq hN hL _ hM => ?_⟩
      obtain ⟨c, u, r, rfl, _⟩ := case_at dq
      exact ⟨c, _, ns, rs, rfl, hN, hL, k1.trans k6, u6, dq⟩
    rintro _ H2 ⟨c, t, ns, rs, rfl, hN, hL, k2, u2, d2⟩
    have r6 := hL.hi
    have n3 := hN.hi
    -- the system and the answers
    refine ⟨fun σ' H' => ∃ (x p : Addr) (xs : List V) (fss : List (List (Int × Int))), σ' = [some (.ref l), t, some (.ref c), some (.ref x), some (.ref p), o5, o6, o7, o8, o9, o10, o11, none] ∧ Kept l H H' ∧ Urn H' l ∧ St17 K C l H' c x p ns rs xs fss ∧ (∀ fs ∈ fss, PtOk ns.length fs), ?_, ?_⟩
    · refine ⟨_, rfl, .ref c, (ns, rs), rfl, d2, ⟨hN, hL⟩, fun H4 x s4 hx => ?_⟩
      have u4 := u2.same s4
      have d4 := d2.same s4
      obtain ⟨c', u, r, ec, hsq, du, dr⟩ := case_at d4
      cases ec
      obtain ⟨us4, hus4⟩ := urn_lst u4
      refine ⟨4, rfl, by decide, by decide, fun D hD => ?_⟩
      refine lc_draw (K := K) (walk_range (lo := 0) (n := 4)) frsD (fun _ fs => PtOk ns.length fs) noL_frs (by decide) u4 hD (fun _ _ => trivial) (fun _ _ _ _ y => y.1) (fun _ => rfl) ?_ ?_
      · intro i x H5 Qk hi yy k5 u5 kk
        exact ⟨_, rfl, _, rfl, c, _, 0, _, rfl, rfl, sqt_but hus4 k5 hsq, atI_nat (j := 0) rfl, _, _, rfl, lenV_fk (Dq.but hus4 k5 (noL_folk ns) du), l, ns.length, rfl, u5, n3, fun H6 v fs k6 u6 dq l6 ok => kk v fs H6 k6 u6 dq ⟨l6, ok⟩⟩
      · intro H5 xs fss k5 u5 bD dqs hlen hok
        refine ⟨_, _, rfl, x, D, xs, fss, rfl, k2.trans (s4.kept.trans k5), u5, ⟨Dq.but hus4 k5 (noL_case (ns, rs)) d4, hx.but hus4 k5, bD, dqs, (ne_of_none hus4 hD).symm⟩, fun fs hfs => ?_⟩
        obtain ⟨i, hi⟩ := List.mem_iff_getElem?.mp hfs
        exact hok i fs hi
    rintro _ H3 ⟨x, p, xs, fss, rfl, k3, u3, st3, hok⟩
    clear k2 u2 d2
    -- ten members
    refine ⟨fun σ' H' => (∃ o1 o2 o3 o4 o5 o6 o7 o8 o9 o10 o11, σ' = [some (.ref l), o1, o2, o3, o4, o5, o6, o7, o8, o9, o10, o11, none]) ∧ Kept l H H' ∧ Urn H' l, ?_, fun σ' H' p => p⟩
    refine ⟨10, rfl, by decide, by decide, ?_⟩
    refine for_it (walk_range (lo := 0) (n := 10)) (fun i σ' H' => (∃ o5 o6 o7 o8 o9 o10 o11, σ' = [some (.ref l), t, some (.ref c), some (.ref x), some (.ref p), o5, o6, o7, o8, o9, o10, o11, none]) ∧ Kept l H H' ∧ Urn H' l ∧ St17 K C l H' c x p ns rs xs fss)
      ⟨⟨_, _, _, _, _, _, _, rfl⟩, k3, u3, st3⟩ (fun _ _ _ _ _ => trivial) ?_ (fun σ' H' pp => by
        obtain ⟨⟨a5, a6, a7, a8, a9, a10, a11, rfl⟩, b1, b2, _⟩ := pp
        exact ⟨⟨_, _, _, _, _, _, _, _, _, _, _, rfl⟩, b1, b2⟩)
    rintro j _ _ H4 _ hj ⟨⟨o5, o6, o7, o8, o9, o10, o11, rfl⟩, k4, u4, st4⟩ ⟨rfl, rfl⟩
    -- the member
    refine ⟨fun σ' H' => ∃ t5 m ts, σ' = [some (.ref l), t, some (.ref c), some (.ref x), some (.ref p), t5, some (.ref m), o7, o8, o9, o10, o11, none] ∧ Kept l H H' ∧ Urn H' l ∧ St17 K C l H' c x p ns rs xs fss ∧ Dq K H' (.ref m) (.tuple (ts.map mateD)) ∧ InMs rs ts, ?_, ?_⟩
    · refine ⟨_, rfl, _, rfl, l, c, ns, rs, rfl, u4, st4.dc, hL, n3, fun H5 z ts k5 u5 dz hM => ?_⟩
      obtain ⟨us4, hus4⟩ := urn_lst u4
      obtain ⟨m, zs, rfl, _⟩ := tup_len dz
      exact ⟨_, m, ts, rfl, k4.trans k5, u5, st4.but hus4 k5, dz, hM⟩
    rintro _ H5 ⟨t5, m, ts, rfl, k5, u5, st5, dm5, hM⟩
    clear k4 u4 st4
    -- the closer system
    refine ⟨fun σ' H' => ∃ y, σ' = [some (.ref l), t, some (.ref c), some (.ref x), some (.ref p), t5, some (.ref m), some (.ref y), o8, o9, o10, o11, none] ∧ Same H5 H' ∧ SysAt K C H' y ns (closerR rs ts), ?_, ?_⟩
    · exact ⟨_, rfl, _, rfl, c, .ref m, ns, rs, ts, rfl, st5.dc, hN, hL, dm5, hM, fun H6 y s6 hY => ⟨y, rfl, s6, hY⟩⟩
    rintro _ H6 ⟨y, rfl, s6, hY6⟩
    have k6 := k5.trans s6.kept
    have u6 := u5.same s6
    have st6 := st5.same s6
    have dm6 := dm5.same s6
    clear k5 u5 st5 dm5 s6
    -- the answers, one by one
    refine ⟨fun σ' H' => (∃ o8 o9 o10 o11, σ' = [some (.ref l), t, some (.ref c), some (.ref x), some (.ref p), t5, some (.ref m), some (.ref y), o8, o9, o10, o11, none]) ∧ Same H6 H', ?_, fun σ' H' pp => by
      obtain ⟨⟨a8, a9, a10, a11, rfl⟩, s7⟩ := pp
      exact ⟨⟨_, _, _, _, _, _, _, rfl⟩, k6.trans s7.kept, u6.same s7, st6.same s7⟩⟩
    refine ⟨_, rfl, p, rfl, ⟨_, SqL.of st6.bp⟩, ?_⟩
    refine for_it (walk_list (K := K) (a := p) (xs := xs)) (fun j σ' H' => (∃ o8 o9 o10 o11, σ' = [some (.ref l), t, some (.ref c), some (.ref x), some (.ref p), t5, some (.ref m), some (.ref y), o8, o9, o10, o11, none]) ∧ Same H6 H')
      ⟨⟨_, _, _, _, rfl⟩, fun _ _ e => e⟩ (fun j σ' H' hj pp => SqL.of (pp.2 _ _ st6.bp)) ?_ (fun σ' H' pp => pp)
    rintro n v _ _ H7 hn ⟨⟨q8, q9, q10, q11, rfl⟩, s7⟩ ⟨rfl, hv⟩
    have st7 := st6.same s7
    have dm7 := dm6.same s7
    have hY7 := hY6.same s7
    obtain ⟨d, hd, dv⟩ := st7.dx.get hv
    rw [List.getElem?_map] at hd
    obtain ⟨fs, hfs, rfl⟩ : ∃ fs, fss[n]? = some fs ∧ frsD fs = d := by
      cases e : fss[n]? with
      | none => rw [e] at hd; cases hd
      | some fs => rw [e] at hd; exact ⟨fs, rfl, Option.some.inj hd⟩
    have hpt := hok fs (List.mem_of_getElem? hfs)
    have hA := pt_ans hpt
    have f0 : ∀ f ∈ fs, 0 < f.2 := fun f z => (hpt.ok f z).1.pos
    have fr0 : ∀ f ∈ fs, FrOk 200 f := fun f z => (hpt.ok f z).1
    have h3 : fs.length ≤ 3 := by rw [hpt.len]; exact n3
    -- one of the member
    refine ⟨fun σ' H' => ∃ b, σ' = [some (.ref l), t, some (.ref c), some (.ref x), some (.ref p), t5, some (.ref m), some (.ref y), some v, some (.bl b), q10, q11, none] ∧ Same H7 H' ∧ (rs.all (keepsW 1 fs) = true → b = true) ∧ (b = true → rs.all (keepsW (-1) fs) = true), ?_, ?_⟩
    · exact ⟨_, rfl, _, rfl, .ref m, v, rs, ts, fs, ns.length, rfl, hL, n3, hM, dm7, dv, hpt.len, hpt.ok, fun H8 b s8 b1 b2 => ⟨b, rfl, s8, b1, b2⟩⟩
    rintro _ H8 ⟨b, rfl, s8, b1, b2⟩
    have st8 := st7.same s8
    have hY8 := hY7.same s8
    have dv8 := dv.same s8
    refine ⟨fun σ' H' => σ' = [some (.ref l), t, some (.ref c), some (.ref x), some (.ref p), t5, some (.ref m), some (.ref y), some v, some (.bl b), q10, q11, none] ∧ Same H8 H', ?_, ?_⟩
    · refine ⟨_, rfl, _, rfl, x, v, ns, rs, fs, rfl, st8.hX, dv8, hA, fun H9 s9 => ⟨_, rfl, ite2 (fun c1 => ?_) (fun c1 => iteF ⟨rfl, s9⟩)⟩⟩
      have e := b1 c1
      rw [e]
      refine ⟨_, rfl, true, rfl, iteT ⟨_, rfl, _, rfl, y, v, ns, closerR rs ts, fs, rfl, hY8.same s9, dv8.same s9, hA, fun H10 s10 => ⟨_, rfl, ?_⟩⟩⟩
      rw [closer_sure f0 hM c1]
      exact iteF ⟨rfl, s9.trans s10⟩
    rintro _ H9 ⟨rfl, s9⟩
    have st9 := st8.same s9
    have hY9 := hY8.same s9
    have dv9 := dv8.same s9
    refine ⟨fun σ' H' => σ' = [some (.ref l), t, some (.ref c), some (.ref x), some (.ref p), t5, some (.ref m), some (.ref y), some v, some (.bl b), q10, q11, none] ∧ Same H9 H', ?_, ?_⟩
    · refine ⟨_, rfl, b, rfl, ?_⟩
      cases b with
      | true =>
        refine iteT (iteT ⟨_, rfl, _, rfl, x, v, ns, rs, fs, rfl, st9.hX, dv9, hA, fun H10 s10 => ⟨_, rfl, ?_⟩⟩)
        rw [b2 rfl]
        exact iteF ⟨rfl, s10⟩
      | false =>
        refine iteF ⟨_, rfl, _, rfl, y, v, ns, closerR rs ts, fs, rfl, hY9, dv9, hA, fun H10 s10 => ⟨_, rfl, ite2 (fun c1 => ?_) (fun c1 => iteF ⟨rfl, s10⟩)⟩⟩
        refine ⟨_, rfl, _, rfl, x, v, ns, rs, fs, rfl, st9.hX.same s10, dv9.same s10, hA, fun H11 s11 => ⟨_, rfl, ?_⟩⟩
        rw [closer_poss f0 hM c1]
        exact iteF ⟨rfl, s10.trans s11⟩
    rintro _ H10 ⟨rfl, s10⟩
    have st10 := st9.same s10
    have dv10 := dv9.same s10
    have s78 := s8.trans (s9.trans s10)
    have dm10 := dm7.same s78
    have s610 := s7.trans s78
    -- the rooms
    refine ⟨fun σ' H' => (∃ o10 o11, σ' = [some (.ref l), t, some (.ref c), some (.ref x), some (.ref p), t5, some (.ref m), some (.ref y), some v, some (.bl b), o10, o11, none]) ∧ Same H10 H', ?_, fun σ' H' pp => by
      obtain ⟨⟨a10, a11, rfl⟩, s11⟩ := pp
      exact ⟨⟨_, _, _, _, rfl⟩, s610.trans s11⟩⟩
    refine ⟨_, rfl, _, rfl, x, v, ns, rs, fs, rfl, st10.hX, dv10, hA, fun H11 z us s11 dz hR => ?_⟩
    obtain ⟨g, gs, rfl, g1, g2, gl⟩ := tup_len dz
    obtain ⟨m', ms, em, m1, m2, ml⟩ := tup_len (dm10.same s11)
    cases em
    rw [List.length_map] at gl ml
    have lu := hR.len
    have lt := hM.len
    refine ⟨_, rfl, g, m, _, _, rfl, .inr ⟨g1, m1, ?_⟩⟩
    refine for_it (CaZ.walk_zt (K := K) (a := g) (b := m) (xs := gs) (ys := ms) (n := rs.length) (by omega) (by omega)) (fun k σ' H' => (∃ o10 o11, σ' = [some (.ref l), t, some (.ref c), some (.ref x), some (.ref p), t5, some (.ref m), some (.ref y), some v, some (.bl b), o10, o11, none]) ∧ Same H11 H')
      ⟨⟨_, _, rfl⟩, fun _ _ e => e⟩ (fun k σ' H' hk pp => ⟨same_sqt pp.2 g1, same_sqt pp.2 m1⟩) ?_ (fun σ' H' pp => ⟨pp.1, s11.trans pp.2⟩)
    rintro k z _ H12 _ hk ⟨⟨a10, a11, rfl⟩, s12⟩ ⟨T, x1, y1, rfl, hT, rfl, hx, hy⟩
    replace hy : ms[k]? = some y1 := hy
    have s13 := Same.new (o := .tup [x1, y1]) hT
    have s23 := s12.trans s13
    have hk2 : k < rs.length := hk
    have hk3 : k < us.length := by omega
    have hk4 : k < ts.length := by omega
    obtain ⟨d1, hd1, dg⟩ := (g2.same s23).get hx
    rw [List.getElem?_map, List.getElem?_eq_getElem hk3] at hd1
    cases hd1
    obtain ⟨d2, hd2, dmm⟩ := (m2.same s23).get hy
    rw [List.getElem?_map, List.getElem?_eq_getElem hk4] at hd2
    cases hd2
    have hok2 := hL.ok _ (List.getElem_mem hk2)
    have hRt := hR.get hk2 hk3
    have hMt := hM.get hk2 hk4
    obtain ⟨_, hRl⟩ := row_name hok2
    obtain ⟨w1, w2, w3, w4⟩ := room_wide hRt hok2 fr0 h3
    refine ⟨T, _, rfl, SqT.of upd_same, rfl, _, _, rfl, _, _, rfl, rfl, ?_⟩
    exact ⟨_, rfl, _, rfl, _, rfl, x1, y1, v, us[k], ts[k], rs[k], fs, rfl, dg, dmm, (dv10.same s11).same s23, hRt, hMt, row_T hok2, by rw [hRl, hpt.len], h3, hpt.ok, ⟨lt_pow w1 (by decide), lt_pow w2 (by decide), lt_pow w3 (by decide), lt_pow w4 (by decide)⟩, fun H14 s14 => ⟨_, rfl, iteF ⟨⟨_, _, rfl⟩, s23.trans s14⟩⟩⟩
end
end Ca
set_option Elab.async false
set_option linter.all false
set_option maxRecDepth 100000
set_option maxHeartbeats 8000000
namespace Ca
open PySem L2
abbrev NLb : List Str := ["_law_cells", "_law_at"]
def spLawB (K : PySem.W.Frag) : Sp := fun vs H Q _ => ∃ (a : Addr) (ns : List Int), vs = [.ref a] ∧ SqL K H a (ns.map V.int) ∧ ∀ H', Q (.bl true) H'
theorem scLawB : FnScope NLb ["_law_cells"] (defScope sLaw) := ⟨rfl, rfl, rfl, by decide +kernel, rfl, by decide +kernel, by decide +kernel⟩
theorem rep_more (t : Nat) : (List.replicate t true).map V.bl ++ [V.bl true] = (List.replicate (t + 1) true).map V.bl := by
  rw [List.replicate_succ', List.map_append]
  rfl
theorem rep_all : ∀ t : Nat, (List.replicate t true).all id = true
  | 0 => rfl
  | t + 1 => by
    rw [List.replicate_succ, List.all_cons, rep_all t]
    rfl
theorem fewB (n : Nat) : (2 : Int) ≤ (if (if (5 : Int) < (n : Int) then (5 : Int) else (n : Int)) > 2 then (if (5 : Int) < (n : Int) then (5 : Int) else (n : Int)) else 2) ∧ (if (if (5 : Int) < (n : Int) then (5 : Int) else (n : Int)) > 2 then (if (5 : Int) < (n : Int) then (5 : Int) else (n : Int)) else 2) ≤ 5 := by
  split <;> split <;> omega
theorem rd_call1 {sp : Sp} {te : TE} {σ : L2.St} {H : Hp} {Q : VK} (h : te σ H fun x H1 => sp [x] H1 Q E0) : tCall sp [] E0 (tCons te tNil) σ H Q := h
section
variable {P : Program} {w : World} {K : PySem.W.Frag} {mg : Str → Option Value} {base : Heap}
theorem ok_lawB {j : Nat} (hj : 1 ≤ j) {f fR fU : Addr} {fd fdR fdU : FuncData} (F : FnT K "law" sLaw f fd)
    (gR : mg "_law_right" = some (.ref fR)) (GR : FnG P w K mg base j fR fdR ["_law_urn_here"] spAll) (kR : PySem.W.keepIn K (.ref fR) = true) (bR : Binds K fdR ["_law_urn_here"] [])
    (gU : mg "_law_urn" = some (.ref fU)) (GU : FnOk P w K mg base CX0 1 fU fdU ["_law_cells", "_law_at"] (spUrn K)) (kU : PySem.W.keepIn K (.ref fU) = true) (bU : Binds K fdU ["_law_cells", "_law_at"] [])
    (mall : mg "all" = none) (mrng : mg "range" = none) (mmax : mg "max" = none) (mmin : mg "min" = none) (mlen : mg "len" = none) :
    FnG P w K mg base (j + 1) f fd ["_law_cells"] (spLawB K) := by
  refine fnG_of F scLawB (fun vs H Q E h => ?_) (fun cdv A outer s H vs Q hgd hr h => ?_)
  · obtain ⟨a, ns, rfl, _⟩ := h
    rfl
  · obtain ⟨a, ns, rfl, hS, q⟩ := h
    have nd := scLawB.nd
    have hr1 : Room 1 _ := hr.mono hj
    refine ⟨_, PSs.nox (pss_one (ps_ret (pe_callB (cr_all rfl) (by rfl) mall PyProof.Rows.boot_all (pa_cons (pe_lc (own := [("_law_at", 1)]) (g := gName 1) (tt := tYes) rfl nd
          (pi_range1 rfl mrng (pa_cons (pe_callB (call_max2 rfl) (by rfl) mmax PyProof.Rows.boot_max (pa_cons pe_int (pa_cons (pe_callB (call_min2 rfl) (by rfl) mmin PyProof.Rows.boot_min (pa_cons (pe_callB call_len (by rfl) mlen boot_len (pa_cons (pv 0) pa_nil)) (pa_cons pe_int pa_nil))) pa_nil))) pa_nil))
          (blkOk_by (own := [("_law_at", 1)]) (N := NLb) (sc := defScope sLaw) (by decide +kernel)) (fun _ _ _ _ _ => pg_name (i := 1) nd rfl (Or.inl rfl)) (fun _ _ _ _ _ => pts_nil)
          (fun _ _ _ _ _ => pe_callG GR hgd hr gR kR bR (pa_cons (pe_call GU hr1 rfl gU kU bU .nil pass0 (pa_cons (pv 0) (pa_cons (pv 1) pa_nil))) pa_nil))) pa_nil))))
      , ?_⟩
    refine ⟨_, rfl, _, _, rfl, .inl ⟨_, hS, rfl⟩, _, _, rfl, _, _, rfl, ?_⟩
    obtain ⟨hlo, hhi⟩ := fewB (ns.map V.int).length
    generalize (if (if (5 : Int) < ((ns.map V.int).length : Int) then (5 : Int) else ((ns.map V.int).length : Int)) > 2 then (if (5 : Int) < ((ns.map V.int).length : Int) then (5 : Int) else ((ns.map V.int).length : Int)) else 2) = jj at hlo hhi
    refine ⟨jj, rfl, Int.le_trans (by decide) hlo, Int.lt_of_le_of_lt hhi (by decide), fun D hD => lc_range (lo := 0) (n := jj.toNat) (fun t H' => Same H H' ∧ H' D = some (.lst ((List.replicate t true).map V.bl))) ⟨Same.new hD, upd_same⟩ ?_ ?_⟩
    · rintro t H' ht ⟨sG, bD⟩
      refine ⟨rfl, rdYes (rd_call1 ⟨_, rfl, _, rfl, a, ns, t, by rw [Int.zero_add]; rfl, sG.seq hS, fun H3 l hl s3 u3 => ⟨l, rfl, u3, fun H4 k4 u4 => ?_⟩⟩)⟩
      have nD : D ≠ l := ne_of_none bD hl
      have bD4 := k4 _ _ nD (s3 _ _ bD)
      have s4 : Same H H4 := fun b o e => by
        have e1 := sG _ _ e
        exact k4 _ _ (ne_of_none e1 hl) (s3 _ _ e1)
      refine ⟨_, bD4, ?_, fun b o e => ?_, ?_⟩
      · rw [List.length_map, List.length_replicate]
        have : t < 6 := by omega
        exact Nat.lt_trans this (by decide)
      · rw [upd_ne (ne_of_none e hD)]
        exact s4 b o e
      · rw [rep_more]
        exact upd_same
    · rintro H' ⟨sG, bD⟩
      refine ⟨D, _, rfl, SqL.of bD, ?_⟩
      rw [rep_all]
      exact q H'
end
end Ca
set_option Elab.async false
set_option linter.all false
set_option maxRecDepth 100000
set_option maxHeartbeats 0
namespace Ca
open PySem PySem.Spec PyProof.Rows L2
section
variable {P : Program} {w : World} {K : PySem.W.Frag} {h : Heap} {mg : Str → Option Value}
theorem factsk17 (X : K.In h) (G : h.Ns mainGlobals mg) {f : Addr} (hfa : mg "law" = some (.ref f)) (c : Saysk17 K) :
    ∃ fd : FuncData, (∀ (s : Shared) (v : Value), BindsTo s fd ⟨[v], []⟩ [("_law_cells", v)]) ∧ ∀ base : Heap, FnG P w K mg base 9 f fd ["_law_cells"] (spLawB K) := by
  have d := c.d
  have gl : ∀ (i : Nat) {x : Str}, fask17[i]? = some (.glo x) → mg x = some (.ref (He.ga K x)) := fun i x q => He.glo_ok X G (d.fact i q)
  have fr : ∀ (i : Nat) {x : Str}, fask17[i]? = some (.free x) → mg x = none := fun i x q => He.free_ok X G (d.fact i q)
  have it : ∀ (i : Nat) {x : Str} {z : Int}, fask17[i]? = some (.int x z) → ∃ t, mg x = some (.int z t) := fun i x z q => He.int_ok X G (d.fact i q)
  have st : ∀ (i : Nat) {x z : Str}, fask17[i]? = some (.str x z) → ∃ t, mg x = some (.str z t) := fun i x z q => He.str_ok X G (d.fact i q)
  obtain ⟨fdIsInteger, FIsInteger⟩ := d.def_ 0 (d := topD "is_integer" sIsInteger) rfl
  obtain ⟨fdIsTupleOf, FIsTupleOf⟩ := d.def_ 1 (d := topD "is_tuple_of" sIsTupleOf) rfl
  obtain ⟨fdIsName, FIsName⟩ := d.def_ 2 (d := topD "is_name" sIsName) rfl
  obtain ⟨fdIsUnknown, FIsUnknown⟩ := d.def_ 3 (d := topD "is_unknown" sIsUnknown) rfl
  obtain ⟨fdIsStretch, FIsStretch⟩ := d.def_ 4 (d := topD "is_stretch" sIsStretch) rfl
  obtain ⟨fdIsRow, FIsRow⟩ := d.def_ 5 (d := topD "is_row" sIsRow) rfl
  obtain ⟨fdCheckUnknowns, FCheckUnknowns⟩ := d.def_ 6 (d := topD "check_unknowns" sCheckUnknowns) rfl
  obtain ⟨fdCheckRows, FCheckRows⟩ := d.def_ 7 (d := topD "check_rows" sCheckRows) rfl
  obtain ⟨fdLineOf, FLineOf⟩ := d.def_ 8 (d := topD "line_of" sLineOf) rfl
  obtain ⟨fdLawUrn, FLawUrn⟩ := d.def_ 9 (d := topD "_law_urn" sLawUrn) rfl
  obtain ⟨fdLawDip, FLawDip⟩ := d.def_ 10 (d := topD "_law_dip" sLawDip) rfl
  obtain ⟨fdLawFrom, FLawFrom⟩ := d.def_ 11 (d := topD "_law_from" sLawFrom) rfl
  obtain ⟨fdLawUnlike, FLawUnlike⟩ := d.def_ 12 (d := topD "_law_unlike" sLawUnlike) rfl
  obtain ⟨fdLawStretch, FLawStretch⟩ := d.def_ 13 (d := topD "_law_stretch" sLawStretch) rfl
  obtain ⟨fdLawLine, FLawLine⟩ := d.def_ 14 (d := topD "_law_line" sLawLine) rfl
  obtain ⟨fdLawCase, FLawCase⟩ := d.def_ 15 (d := topD "_law_case" sLawCase) rfl
  obtain ⟨fdLawRight, FLawRight⟩ := d.def_ 16 (d := topD "_law_right" sLawRight) rfl
  obtain ⟨fdLaw, FLaw⟩ := d.def_ 17 (d := topD "law" sLaw) rfl
  obtain ⟨fdIsFraction, FIsFraction⟩ := d.def_ 18 (d := topD "is_fraction" sIsFraction) rfl
  obtain ⟨fdFraction, FFraction⟩ := d.def_ 19 (d := topD "fraction" sFraction) rfl
  obtain ⟨fdPlus, FPlus⟩ := d.def_ 20 (d := topD "plus" sPlus) rfl
  obtain ⟨fdTimes, FTimes⟩ := d.def_ 21 (d := topD "times" sTimes) rfl
  obtain ⟨fdOpposite, FOpposite⟩ := d.def_ 22 (d := topD "opposite" sOpposite) rfl
  obtain ⟨fdMinus, FMinus⟩ := d.def_ 23 (d := topD "minus" sMinus) rfl
  obtain ⟨fdWeighed, FWeighed⟩ := d.def_ 24 (d := topD "weighed" sWeighed) rfl
  obtain ⟨fdDot, FDot⟩ := d.def_ 25 (d := topD "dot" sDot) rfl
  obtain ⟨fdIsAnswer, FIsAnswer⟩ := d.def_ 26 (d := topD "is_answer" sIsAnswer) rfl
  obtain ⟨fdCheckSystem, FCheckSystem⟩ := d.def_ 27 (d := topD "check_system" sCheckSystem) rfl
  obtain ⟨fdCheckAnswer, FCheckAnswer⟩ := d.def_ 28 (d := topD "check_answer" sCheckAnswer) rfl
  obtain ⟨fdEndsFor, FEndsFor⟩ := d.def_ 29 (d := topD "ends_for" sEndsFor) rfl
  obtain ⟨fdBoundFor, FBoundFor⟩ := d.def_ 30 (d := topD "bound_for" sBoundFor) rfl
  obtain ⟨fdRoomFor, FRoomFor⟩ := d.def_ 31 (d := topD "room_for" sRoomFor) rfl
  obtain ⟨fdAlwaysKeeps, FAlwaysKeeps⟩ := d.def_ 32 (d := topD "always_keeps" sAlwaysKeeps) rfl
  obtain ⟨fdCanKeep, FCanKeep⟩ := d.def_ 33 (d := topD "can_keep" sCanKeep) rfl
  obtain ⟨fdIsSure, FIsSure⟩ := d.def_ 34 (d := topD "is_sure" sIsSure) rfl
  obtain ⟨fdIsPossible, FIsPossible⟩ := d.def_ 35 (d := topD "is_possible" sIsPossible) rfl
  obtain ⟨fdRooms, FRooms⟩ := d.def_ 36 (d := topD "rooms" sRooms) rfl
  obtain ⟨fdLawMade, FLawMade⟩ := d.def_ 37 (d := topD "_law_made" sLawMade) rfl
  obtain ⟨fdLawShared, FLawShared⟩ := d.def_ 38 (d := topD "_law_shared" sLawShared) rfl
  obtain ⟨fdLawLow, FLawLow⟩ := d.def_ 39 (d := topD "_law_low" sLawLow) rfl
  obtain ⟨fdLawValue, FLawValue⟩ := d.def_ 40 (d := topD "_law_value" sLawValue) rfl
  obtain ⟨fdLawPoint, FLawPoint⟩ := d.def_ 41 (d := topD "_law_point" sLawPoint) rfl
  obtain ⟨fdLawIsOne, FLawIsOne⟩ := d.def_ 42 (d := topD "_law_is_one" sLawIsOne) rfl
  obtain ⟨fdLawWithin, FLawWithin⟩ := d.def_ 43 (d := topD "_law_within" sLawWithin) rfl
  obtain ⟨fdLawMember, FLawMember⟩ := d.def_ 44 (d := topD "_law_member" sLawMember) rfl
  obtain ⟨fdLawAround, FLawAround⟩ := d.def_ 45 (d := topD "_law_around" sLawAround) rfl
  obtain ⟨fdLawCloser, FLawCloser⟩ := d.def_ 46 (d := topD "_law_closer" sLawCloser) rfl
  obtain ⟨fdLawIsBetween, FLawIsBetween⟩ := d.def_ 47 (d := topD "_law_is_between" sLawIsBetween) rfl
  obtain ⟨fdMInit, FMInit⟩ := d.def_ 48 (d := memD "__init__" "System.__init__" mSystemInit [.adr e0A]) rfl
  obtain ⟨fdMLen, FMLen⟩ := d.def_ 49 (d := memD "__len__" "System.__len__" mSystemLen []) rfl
  obtain ⟨fdMBool, FMBool⟩ := d.def_ 50 (d := memD "__bool__" "System.__bool__" mSystemBool []) rfl
  obtain ⟨fdMStr, FMStr⟩ := d.def_ 51 (d := memD "__str__" "System.__str__" mSystemStr []) rfl
  obtain ⟨fdMEq, FMEq⟩ := d.def_ 52 (d := memD "__eq__" "System.__eq__" mSystemEq []) rfl
  have c0 := c.b
  obtain ⟨bG, c0⟩ := an c0
  obtain ⟨bZ, c0⟩ := an c0
  have mgcd := gcd_ok X G bG
  have gZ := gl 49 (x := "ZERO") rfl
  have iG := it 54 rfl
  obtain ⟨p1, c1⟩ := an c0
  obtain ⟨p2, c1⟩ := an c1
  obtain ⟨p3, c1⟩ := an c1
  obtain ⟨em, c1⟩ := an c1
  obtain ⟨b1, c1⟩ := an c1
  obtain ⟨b2, c1⟩ := an c1
  obtain ⟨b3, c1⟩ := an c1
  obtain ⟨b4, c1⟩ := an c1
  obtain ⟨b5, c1⟩ := an c1
  obtain ⟨b6, c1⟩ := an c1
  obtain ⟨b7, c1⟩ := an c1
  obtain ⟨b8, b9⟩ := an c1
  obtain ⟨pU, okU⟩ := pr_ok p1
  obtain ⟨pR, okR⟩ := pr_ok p2
  obtain ⟨pN, okN⟩ := pr_ok p3
  obtain ⟨fdU, FU⟩ := fun_at c.u okU
  obtain ⟨fdR, FR⟩ := fun_at c.r okR
  obtain ⟨fdN, FN⟩ := fun_at c.n okN
  have B : Bn mg := ⟨fr 59 rfl, fr 60 rfl, fr 61 rfl, fr 62 rfl, fr 63 rfl, fr 64 rfl, fr 65 rfl, fr 66 rfl⟩
  have Bx : Bm mg := ⟨fr 67 rfl, fr 68 rfl, fr 69 rfl⟩
  have Bq : Bi mg := ⟨fr 64 rfl, fr 60 rfl, fr 73 rfl, fr 74 rfl⟩
  have C : Cn mg := ⟨st 56 rfl, st 57 rfl, it 53 rfl, st 58 rfl, it 50 rfl, it 51 rfl, it 52 rfl⟩
  have S : SysC K (sysA K) := ⟨He.cls_ok (d.fact 75 (f := .cls "System") rfl), He.noat_ok (d.fact 76 (f := .noat "System" "_unknowns") rfl), He.noat_ok (d.fact 77 (f := .noat "System" "_rows") rfl)⟩
  have mLen := He.meth_ok (d.fact 79 (f := .meth "System" "__len__") rfl)
  have mBool := He.meth_ok (d.fact 80 (f := .meth "System" "__bool__") rfl)
  have mStr := He.meth_ok (d.fact 81 (f := .meth "System" "__str__") rfl)
  have mEq := He.meth_ok (d.fact 82 (f := .meth "System" "__eq__") rfl)
  have E1 : SysE K (sysA K) _ _ _ _ _ _ _ _ _ _ _ := { mkr := He.mkr_ok (d.fact 78 (f := .mkr "System") rfl), eq := mEq.at_, eqf := mEq.fn, ne := isF_ok b1, ob := of_decide_eq_true b2, str := mStr.at_, strf := mStr.fn, len := mLen.at_, lenf := mLen.fn, bool := mBool.at_, boolf := mBool.fn, un := pU, ro := pR, na := pN }
  have hodd : ∀ t : String, t ∈ tyNames → PySem.W.kitOne K (.type t) (.ref (sysA K)) = some false ∧ PySem.W.notFirst K (sysA K) (.type t) = true := fun t ht => by
    obtain ⟨z1, z2⟩ := an (List.all_eq_true.mp b9 t ht)
    exact ⟨of_decide_eq_true z1, z2⟩
  have I : SysI K (sysA K) := { ha := isF_ok b3, hn := isF_ok b4, ht := of_decide_eq_true b5, hm := of_decide_eq_true b6, own := of_decide_eq_true b7, nf := b8, odd := hodd }
  have gIsInteger := gl 0 (x := "is_integer") rfl
  have gIsTupleOf := gl 1 (x := "is_tuple_of") rfl
  have gIsName := gl 2 (x := "is_name") rfl
  have gIsUnknown := gl 3 (x := "is_unknown") rfl
  have gIsStretch := gl 4 (x := "is_stretch") rfl
  have gIsRow := gl 5 (x := "is_row") rfl
  have gCheckUnknowns := gl 6 (x := "check_unknowns") rfl
  have gCheckRows := gl 7 (x := "check_rows") rfl
  have gLineOf := gl 8 (x := "line_of") rfl
  have gLawUrn := gl 9 (x := "_law_urn") rfl
  have gLawDip := gl 10 (x := "_law_dip") rfl
  have gLawFrom := gl 11 (x := "_law_from") rfl
  have gLawUnlike := gl 12 (x := "_law_unlike") rfl
  have gLawStretch := gl 13 (x := "_law_stretch") rfl
  have gLawLine := gl 14 (x := "_law_line") rfl
  have gLawCase := gl 15 (x := "_law_case") rfl
  have gLawRight := gl 16 (x := "_law_right") rfl
  have gLaw := gl 17 (x := "law") rfl
  have gIsFraction := gl 18 (x := "is_fraction") rfl
  have gFraction := gl 19 (x := "fraction") rfl
  have gPlus := gl 20 (x := "plus") rfl
  have gTimes := gl 21 (x := "times") rfl
  have gOpposite := gl 22 (x := "opposite") rfl
  have gMinus := gl 23 (x := "minus") rfl
  have gWeighed := gl 24 (x := "weighed") rfl
  have gDot := gl 25 (x := "dot") rfl
  have gIsAnswer := gl 26 (x := "is_answer") rfl
  have gCheckSystem := gl 27 (x := "check_system") rfl
  have gCheckAnswer := gl 28 (x := "check_answer") rfl
  have gEndsFor := gl 29 (x := "ends_for") rfl
  have gBoundFor := gl 30 (x := "bound_for") rfl
  have gRoomFor := gl 31 (x := "room_for") rfl
  have gAlwaysKeeps := gl 32 (x := "always_keeps") rfl
  have gCanKeep := gl 33 (x := "can_keep") rfl
  have gIsSure := gl 34 (x := "is_sure") rfl
  have gIsPossible := gl 35 (x := "is_possible") rfl
  have gRooms := gl 36 (x := "rooms") rfl
  have gLawMade := gl 37 (x := "_law_made") rfl
  have gLawShared := gl 38 (x := "_law_shared") rfl
  have gLawLow := gl 39 (x := "_law_low") rfl
  have gLawValue := gl 40 (x := "_law_value") rfl
  have gLawPoint := gl 41 (x := "_law_point") rfl
  have gLawIsOne := gl 42 (x := "_law_is_one") rfl
  have gLawWithin := gl 43 (x := "_law_within") rfl
  have gLawMember := gl 44 (x := "_law_member") rfl
  have gLawAround := gl 45 (x := "_law_around") rfl
  have gLawCloser := gl 46 (x := "_law_closer") rfl
  have gLawIsBetween := gl 47 (x := "_law_is_between") rfl
  have gS := gl 48 (x := "System") rfl
  have e := hfa.symm.trans gLaw
  cases e
  have bL := FunD.bindsA (ps := ["_law_cells"]) FLaw fun _ _ _ _ _ _ us hl => match us, hl with | [_], _ => rfl
  refine ⟨fdLaw, fun s v => bL s [v] rfl, fun base => ?_⟩
  have nIsInteger : Binds K fdIsInteger ["value"] [] := FIsInteger.bindsN fun _ _ _ _ _ _ us hl => match us, hl with | [_], _ => rfl
  have nIsTupleOf : Binds K fdIsTupleOf ["value", "many"] [] := FIsTupleOf.bindsN fun _ _ _ _ _ _ us hl => match us, hl with | [_, _], _ => rfl
  have nIsName : Binds K fdIsName ["value"] [] := FIsName.bindsN fun _ _ _ _ _ _ us hl => match us, hl with | [_], _ => rfl
  have nIsUnknown : Binds K fdIsUnknown ["value"] [] := FIsUnknown.bindsN fun _ _ _ _ _ _ us hl => match us, hl with | [_], _ => rfl
  have nIsStretch : Binds K fdIsStretch ["value"] [] := FIsStretch.bindsN fun _ _ _ _ _ _ us hl => match us, hl with | [_], _ => rfl
  have nIsRow : Binds K fdIsRow ["value", "many"] [] := FIsRow.bindsN fun _ _ _ _ _ _ us hl => match us, hl with | [_, _], _ => rfl
  have nCheckUnknowns : Binds K fdCheckUnknowns ["unknowns"] [] := FCheckUnknowns.bindsN fun _ _ _ _ _ _ us hl => match us, hl with | [_], _ => rfl
  have nCheckRows : Binds K fdCheckRows ["rows", "many"] [] := FCheckRows.bindsN fun _ _ _ _ _ _ us hl => match us, hl with | [_, _], _ => rfl
  have nLineOf : Binds K fdLineOf ["row"] [] := FLineOf.bindsN fun _ _ _ _ _ _ us hl => match us, hl with | [_], _ => rfl
  have nLawUrn : Binds K fdLawUrn ["_law_cells", "_law_at"] [] := FLawUrn.bindsN fun _ _ _ _ _ _ us hl => match us, hl with | [_, _], _ => rfl
  have nLawDip : Binds K fdLawDip ["_law_urn_here", "_law_top"] [] := FLawDip.bindsN fun _ _ _ _ _ _ us hl => match us, hl with | [_, _], _ => rfl
  have nLawFrom : Binds K fdLawFrom ["_law_urn_here", "_law_some"] [] := FLawFrom.bindsN fun _ _ _ _ _ _ us hl => match us, hl with | [_, _], _ => rfl
  have nLawUnlike : Binds K fdLawUnlike ["_law_urn_here", "_law_menu", "_law_many"] [] := FLawUnlike.bindsN fun _ _ _ _ _ _ us hl => match us, hl with | [_, _, _], _ => rfl
  have nLawStretch : Binds K fdLawStretch ["_law_urn_here"] [] := FLawStretch.bindsN fun _ _ _ _ _ _ us hl => match us, hl with | [_], _ => rfl
  have nLawLine : Binds K fdLawLine ["_law_urn_here", "_law_title", "_law_many"] [] := FLawLine.bindsN fun _ _ _ _ _ _ us hl => match us, hl with | [_, _, _], _ => rfl
  have nLawCase : Binds K fdLawCase ["_law_urn_here", "_law_many", "_law_most"] [] := FLawCase.bindsN fun _ _ _ _ _ _ us hl => match us, hl with | [_, _, _], _ => rfl
  have nLawRight : Binds K fdLawRight ["_law_urn_here"] [] := FLawRight.bindsN fun _ _ _ _ _ _ us hl => match us, hl with | [_], _ => rfl
  have nIsFraction : Binds K fdIsFraction ["value"] [] := FIsFraction.bindsN fun _ _ _ _ _ _ us hl => match us, hl with | [_], _ => rfl
  have nFraction : Binds K fdFraction ["top", "bottom"] [] := FFraction.bindsN fun _ _ _ _ _ _ us hl => match us, hl with | [_, _], _ => rfl
  have nPlus : Binds K fdPlus ["one", "other"] [] := FPlus.bindsN fun _ _ _ _ _ _ us hl => match us, hl with | [_, _], _ => rfl
  have nTimes : Binds K fdTimes ["one", "other"] [] := FTimes.bindsN fun _ _ _ _ _ _ us hl => match us, hl with | [_, _], _ => rfl
  have nOpposite : Binds K fdOpposite ["one"] [] := FOpposite.bindsN fun _ _ _ _ _ _ us hl => match us, hl with | [_], _ => rfl
  have nMinus : Binds K fdMinus ["one", "other"] [] := FMinus.bindsN fun _ _ _ _ _ _ us hl => match us, hl with | [_, _], _ => rfl
  have nWeighed : Binds K fdWeighed ["weights", "fractions"] [] := FWeighed.bindsN fun _ _ _ _ _ _ us hl => match us, hl with | [_, _], _ => rfl
  have nDot : Binds K fdDot ["numbers", "fractions"] [] := FDot.bindsN fun _ _ _ _ _ _ us hl => match us, hl with | [_, _], _ => rfl
  have nIsAnswer : Binds K fdIsAnswer ["value", "many"] [] := FIsAnswer.bindsN fun _ _ _ _ _ _ us hl => match us, hl with | [_, _], _ => rfl
  have nCheckSystem : Binds K fdCheckSystem ["system"] [] := FCheckSystem.bindsN fun _ _ _ _ _ _ us hl => match us, hl with | [_], _ => rfl
  have nCheckAnswer : Binds K fdCheckAnswer ["system", "answer"] [] := FCheckAnswer.bindsN fun _ _ _ _ _ _ us hl => match us, hl with | [_, _], _ => rfl
  have nEndsFor : Binds K fdEndsFor ["stretches", "answer", "which"] [] := FEndsFor.bindsN fun _ _ _ _ _ _ us hl => match us, hl with | [_, _, _], _ => rfl
  have nBoundFor : Binds K fdBoundFor ["row", "which"] [] := FBoundFor.bindsN fun _ _ _ _ _ _ us hl => match us, hl with | [_, _], _ => rfl
  have nRoomFor : Binds K fdRoomFor ["row", "answer", "which"] [] := FRoomFor.bindsN fun _ _ _ _ _ _ us hl => match us, hl with | [_, _, _], _ => rfl
  have nAlwaysKeeps : Binds K fdAlwaysKeeps ["row", "answer"] [] := FAlwaysKeeps.bindsN fun _ _ _ _ _ _ us hl => match us, hl with | [_, _], _ => rfl
  have nCanKeep : Binds K fdCanKeep ["row", "answer"] [] := FCanKeep.bindsN fun _ _ _ _ _ _ us hl => match us, hl with | [_, _], _ => rfl
  have nIsSure : Binds K fdIsSure ["system", "answer"] [] := FIsSure.bindsN fun _ _ _ _ _ _ us hl => match us, hl with | [_, _], _ => rfl
  have nIsPossible : Binds K fdIsPossible ["system", "answer"] [] := FIsPossible.bindsN fun _ _ _ _ _ _ us hl => match us, hl with | [_, _], _ => rfl
  have nRooms : Binds K fdRooms ["system", "answer"] [] := FRooms.bindsN fun _ _ _ _ _ _ us hl => match us, hl with | [_, _], _ => rfl
  have nLawMade : Binds K fdLawMade ["_law_case_here"] [] := FLawMade.bindsN fun _ _ _ _ _ _ us hl => match us, hl with | [_], _ => rfl
  have nLawShared : Binds K fdLawShared ["_law_some"] [] := FLawShared.bindsN fun _ _ _ _ _ _ us hl => match us, hl with | [_], _ => rfl
  have nLawLow : Binds K fdLawLow ["_law_top", "_law_bottom"] [] := FLawLow.bindsN fun _ _ _ _ _ _ us hl => match us, hl with | [_, _], _ => rfl
  have nLawValue : Binds K fdLawValue ["_law_urn_here"] [] := FLawValue.bindsN fun _ _ _ _ _ _ us hl => match us, hl with | [_], _ => rfl
  have nLawPoint : Binds K fdLawPoint ["_law_urn_here", "_law_many"] [] := FLawPoint.bindsN fun _ _ _ _ _ _ us hl => match us, hl with | [_, _], _ => rfl
  have nLawIsOne : Binds K fdLawIsOne ["_law_member_here", "_law_lot"] [] := FLawIsOne.bindsN fun _ _ _ _ _ _ us hl => match us, hl with | [_, _], _ => rfl
  have nLawWithin : Binds K fdLawWithin ["_law_urn_here", "_law_pair"] [] := FLawWithin.bindsN fun _ _ _ _ _ _ us hl => match us, hl with | [_, _], _ => rfl
  have nLawMember : Binds K fdLawMember ["_law_urn_here", "_law_case_here"] [] := FLawMember.bindsN fun _ _ _ _ _ _ us hl => match us, hl with | [_, _], _ => rfl
  have nLawAround : Binds K fdLawAround ["_law_value_here"] [] := FLawAround.bindsN fun _ _ _ _ _ _ us hl => match us, hl with | [_], _ => rfl
  have nLawCloser : Binds K fdLawCloser ["_law_case_here", "_law_mates"] [] := FLawCloser.bindsN fun _ _ _ _ _ _ us hl => match us, hl with | [_, _], _ => rfl
  have nLawIsBetween : Binds K fdLawIsBetween ["_law_gaps", "_law_mate", "_law_lot"] [] := FLawIsBetween.bindsN fun _ _ _ _ _ _ us hl => match us, hl with | [_, _, _], _ => rfl
  have nMLen : Binds K fdMLen ["self"] [] := FMLen.bindsN fun _ _ _ _ _ _ us hl => match us, hl with | [_], _ => rfl
  have nMBool : Binds K fdMBool ["self"] [] := FMBool.bindsN fun _ _ _ _ _ _ us hl => match us, hl with | [_], _ => rfl
  have nMStr : Binds K fdMStr ["self"] [] := FMStr.bindsN fun _ _ _ _ _ _ us hl => match us, hl with | [_], _ => rfl
  have nMEq : Binds K fdMEq ["self", "other"] [] := FMEq.bindsN fun _ _ _ _ _ _ us hl => match us, hl with | [_, _], _ => rfl
  have nU : Binds K fdU ["self"] [] := FU.bindsN fun _ _ _ _ _ _ us hl => match us, hl with | [_], _ => rfl
  have nR : Binds K fdR ["self"] [] := FR.bindsN fun _ _ _ _ _ _ us hl => match us, hl with | [_], _ => rfl
  have nN : Binds K fdN ["self"] [] := FN.bindsN fun _ _ _ _ _ _ us hl => match us, hl with | [_], _ => rfl
  obtain ⟨ds, vd, nI⟩ := FMInit.binds1 (ps := ["self", "unknowns", "rows"]) 3 1 (List.cons_ne_nil _ _) rfl fun T kV doc pm an cdv ct us its h1 h2 => match us, its, h1, h2 with | [_, _, _], [_], _, _ => ⟨_, rfl, rfl⟩
  obtain ⟨ds2, vd2, nI0⟩ := FMInit.binds1 (ps := ["self", "unknowns", "rows"]) 2 0 (List.cons_ne_nil _ _) rfl fun T kV doc pm an cdv ct us its h1 h2 => match us, its, h1, h2 with | [_, _], [_], _, _ => ⟨_, rfl, rfl⟩
  have GIsInteger := ok_isInteger (P := P) (w := w) (mg := mg) (base := base) FIsInteger B
  have GIsTupleOf := ok_isTupleOf (P := P) (w := w) (mg := mg) (base := base) FIsTupleOf B
  have GIsName := ok_isName (P := P) (w := w) (mg := mg) (base := base) FIsName B C
  have GIsUnknown := ok_isUnknown (P := P) (w := w) (mg := mg) (base := base) FIsUnknown C gIsName GIsName FIsName.kp nIsName
  have GIsStretch := ok_isStretch (P := P) (w := w) (mg := mg) (base := base) FIsStretch C gIsTupleOf GIsTupleOf FIsTupleOf.kp nIsTupleOf gIsInteger GIsInteger FIsInteger.kp nIsInteger
  have GIsRow := ok_isRow (P := P) (w := w) (mg := mg) (base := base) FIsRow B gIsTupleOf GIsTupleOf FIsTupleOf.kp nIsTupleOf gIsName GIsName FIsName.kp nIsName gIsStretch GIsStretch FIsStretch.kp nIsStretch
  have GCheckUnknowns := ok_checkU (P := P) (w := w) (mg := mg) (base := base) FCheckUnknowns B C gIsUnknown GIsUnknown FIsUnknown.kp nIsUnknown
  have GCheckRows := ok_checkR (P := P) (w := w) (mg := mg) (base := base) FCheckRows B C gIsRow GIsRow FIsRow.kp nIsRow
  have GLineOf := ok_line (P := P) (w := w) (mg := mg) (base := base) FLineOf B
  have GI := ok_init (P := P) (w := w) (mg := mg) (base := base) FMInit B S gCheckUnknowns GCheckUnknowns FCheckUnknowns.kp nCheckUnknowns gCheckRows GCheckRows FCheckRows.kp nCheckRows
  have GLen := ok_len (P := P) (w := w) (mg := mg) (base := base) FMLen B S
  have GBool := ok_bool (P := P) (w := w) (mg := mg) (base := base) FMBool
  have GStr := ok_str (P := P) (w := w) (mg := mg) (base := base) FMStr S gLineOf GLineOf FLineOf.kp nLineOf
  have GEq := ok_eq (P := P) (w := w) (mg := mg) (base := base) FMEq B S I gS
  have GU := ok_unknowns (P := P) (w := w) (mg := mg) (base := base) FU S
  have GR := ok_rows (P := P) (w := w) (mg := mg) (base := base) FR S
  have GN := ok_names (P := P) (w := w) (mg := mg) (base := base) FN B S
  have GLawUrn := ok_urn (P := P) (w := w) (mg := mg) (base := base) (fun_of FLawUrn) Bq
  have GLawDip := ok_dip (P := P) (w := w) (mg := mg) (base := base) (fun_of FLawDip) Bq
  have GLawFrom := ok_from (P := P) (w := w) (mg := mg) (base := base) (fun_of FLawFrom) Bq gLawDip (fun_of FLawDip) nLawDip
  have GLawUnlike := ok_unlike (P := P) (w := w) (mg := mg) (base := base) FLawUnlike B Bx.rng gLawDip GLawDip FLawDip.kp nLawDip
  have GLawStretch := ok_stretch (P := P) (w := w) (mg := mg) (base := base) FLawStretch gLawDip GLawDip FLawDip.kp nLawDip gLawFrom GLawFrom FLawFrom.kp nLawFrom
  have GLawLine := ok_rowD (P := P) (w := w) (mg := mg) (base := base) FLawLine B Bx.rng gLawStretch GLawStretch FLawStretch.kp nLawStretch
  have GLawCase := ok_case (P := P) (w := w) (mg := mg) (base := base) FLawCase B gLawDip GLawDip FLawDip.kp nLawDip gLawUnlike GLawUnlike FLawUnlike.kp nLawUnlike gLawLine GLawLine FLawLine.kp nLawLine
  cases vd
  cases vd2 with
  | cons vr vrr =>
  cases vrr
  have GLawMade := ok_madeC (P := P) (w := w) (mg := mg) (base := base) FLawMade E1.mkr gS GI nI
  have GFraction := ok_fraction (P := P) (w := w) (mg := mg) (base := base) FFraction mgcd
  have GPlus := ok_plus (P := P) (w := w) (mg := mg) (base := base) FPlus gFraction GFraction FFraction.kp nFraction
  have GTimes := ok_times (P := P) (w := w) (mg := mg) (base := base) FTimes gFraction GFraction FFraction.kp nFraction
  have GOpposite := ok_opp (P := P) (w := w) (mg := mg) (base := base) FOpposite
  have GMinus := ok_minus (P := P) (w := w) (mg := mg) (base := base) FMinus gPlus GPlus FPlus.kp nPlus gOpposite GOpposite FOpposite.kp nOpposite
  have GWeighed := ok_weighed (P := P) (w := w) (mg := mg) (base := base) FWeighed (fr 68 rfl) gZ (ze_ok bZ) gPlus GPlus FPlus.kp nPlus gTimes GTimes FTimes.kp nTimes
  have GDot := ok_dot (P := P) (w := w) (mg := mg) (base := base) FDot gWeighed GWeighed FWeighed.kp nWeighed
  have GIsFraction := ok_isFraction (P := P) (w := w) (mg := mg) (base := base) FIsFraction mgcd gIsTupleOf GIsTupleOf FIsTupleOf.kp nIsTupleOf gIsInteger GIsInteger FIsInteger.kp nIsInteger
  have GIsAnswer := ok_isAnswer (P := P) (w := w) (mg := mg) (base := base) FIsAnswer B gIsTupleOf GIsTupleOf FIsTupleOf.kp nIsTupleOf gIsFraction GIsFraction FIsFraction.kp nIsFraction
  have GCheckSystem := ok_chkS (P := P) (w := w) (mg := mg) (base := base) FCheckSystem B S I gS
  have GCheckAnswer := ok_chkA (P := P) (w := w) (mg := mg) (base := base) FCheckAnswer B S pU GU nU gIsAnswer GIsAnswer FIsAnswer.kp nIsAnswer
  have GEndsFor := ok_ends (P := P) (w := w) (mg := mg) (base := base) FEndsFor (fr 68 rfl)
  have GBoundFor := ok_bound (P := P) (w := w) (mg := mg) (base := base) FBoundFor iG
  have GRoomFor := ok_room (P := P) (w := w) (mg := mg) (base := base) FRoomFor gDot GDot FDot.kp nDot gEndsFor GEndsFor FEndsFor.kp nEndsFor gMinus GMinus FMinus.kp nMinus gBoundFor GBoundFor FBoundFor.kp nBoundFor
  have GAlwaysKeeps := ok_always (P := P) (w := w) (mg := mg) (base := base) FAlwaysKeeps iG gRoomFor GRoomFor FRoomFor.kp nRoomFor
  have GCanKeep := ok_can (P := P) (w := w) (mg := mg) (base := base) FCanKeep (it 55 rfl) gRoomFor GRoomFor FRoomFor.kp nRoomFor
  have GIsSure := ok_sure (P := P) (w := w) (mg := mg) (base := base) FIsSure B S pR GR nR gCheckSystem GCheckSystem FCheckSystem.kp nCheckSystem gCheckAnswer GCheckAnswer FCheckAnswer.kp nCheckAnswer gAlwaysKeeps GAlwaysKeeps FAlwaysKeeps.kp nAlwaysKeeps
  have GIsPossible := ok_poss (P := P) (w := w) (mg := mg) (base := base) FIsPossible B S pR GR nR gCheckSystem GCheckSystem FCheckSystem.kp nCheckSystem gCheckAnswer GCheckAnswer FCheckAnswer.kp nCheckAnswer gCanKeep GCanKeep FCanKeep.kp nCanKeep
  have GRooms := ok_roomsP (P := P) (w := w) (mg := mg) (base := base) FRooms B S iG (it 55 rfl) pR GR nR gCheckSystem GCheckSystem FCheckSystem.kp nCheckSystem gCheckAnswer GCheckAnswer FCheckAnswer.kp nCheckAnswer gRoomFor GRoomFor FRoomFor.kp nRoomFor
  have GLawShared := ok_shared (P := P) (w := w) (mg := mg) (base := base) FLawShared (fr 73 rfl) (fr 60 rfl)
  have GLawLow := ok_low (P := P) (w := w) (mg := mg) (base := base) FLawLow gLawShared GLawShared FLawShared.kp nLawShared
  have GLawValue := ok_value (P := P) (w := w) (mg := mg) (base := base) FLawValue gLawDip GLawDip FLawDip.kp nLawDip gLawFrom GLawFrom FLawFrom.kp nLawFrom gLawLow GLawLow FLawLow.kp nLawLow
  have GLawPoint := ok_point (P := P) (w := w) (mg := mg) (base := base) FLawPoint B Bx.rng gLawValue GLawValue FLawValue.kp nLawValue
  have GLawIsOne := ok_oneM (P := P) (w := w) (mg := mg) (base := base) FLawIsOne (fr 68 rfl)
  have GLawWithin := ok_within (P := P) (w := w) (mg := mg) (base := base) FLawWithin gLawDip GLawDip FLawDip.kp nLawDip gLawFrom GLawFrom FLawFrom.kp nLawFrom gLawLow GLawLow FLawLow.kp nLawLow
  have GLawMember := ok_memberD (P := P) (w := w) (mg := mg) (base := base) FLawMember B gLawWithin GLawWithin FLawWithin.kp nLawWithin
  have GLawAround := ok_around (P := P) (w := w) (mg := mg) (base := base) FLawAround
  have GLawCloser := ok_closer (P := P) (w := w) (mg := mg) (base := base) FLawCloser B (fr 68 rfl) E1.mkr gS GI nI gLawAround GLawAround FLawAround.kp nLawAround
  have GLawIsBetween := ok_betw (P := P) (w := w) (mg := mg) (base := base) FLawIsBetween (fr 68 rfl)
  have GLawRight := ok_right17 (P := P) (w := w) (mg := mg) (base := base) FLawRight B Bx (fr 68 rfl) gLawCase GLawCase FLawCase.kp nLawCase gLawMade GLawMade FLawMade.kp nLawMade gLawPoint GLawPoint FLawPoint.kp nLawPoint gLawMember GLawMember FLawMember.kp nLawMember gLawCloser GLawCloser FLawCloser.kp nLawCloser gLawIsOne GLawIsOne FLawIsOne.kp nLawIsOne gIsSure GIsSure FIsSure.kp nIsSure gIsPossible GIsPossible FIsPossible.kp nIsPossible gRooms GRooms FRooms.kp nRooms gLawIsBetween GLawIsBetween FLawIsBetween.kp nLawIsBetween
  exact ok_lawB (by decide) FLaw gLawRight GLawRight FLawRight.kp nLawRight gLawUrn GLawUrn FLawUrn.kp nLawUrn (fr 65 rfl) (fr 67 rfl) (fr 71 rfl) (fr 72 rfl) (fr 64 rfl)
end
end Ca
open PySem PySem.W PySem.Calls PyProof.Rows
theorem PySem.Challenge.cw_commonanswer_k17_whole_members_drawn_holds : PySem.Challenge.rw_commonanswer_k17_whole_members_drawn.Holds := by
  w_on; o_law
  refine HandSHeadRun.head_imp (r := Ca.rowk17) (q := view Ca.rowk17.prog [0, 74]) (H := Ca.hkk17) (ob := Ca.obk17) (M := 14000) (loose := Ca.namesk17) (d := HandSHeadRun.topDef Ca.rowk17.prog 74) (kwd := []) Ca.obk17_eq
    Ca.runk17 (by kernel_rfl) (by kernel_rfl) (by kernel_rfl) (by rfl) (by first | assumption | decide +kernel) (by decide +kernel) ⟨rfl, rfl, rfl, rfl, rfl, by decide +kernel⟩ ?hw ?hc
  case hw => w_witness2
  case hc =>
    refine Att.attach_call (l := PySem.Challenge.rw_commonanswer_k17_whole_members_drawn) (n := 63) rfl (by kernel_rfl) fun w s₀ s₁ mg mb fa o pm cd doc a vs ns G Y ho hd hcd hmg hobj hints hlen hg => ?_
    obtain ⟨K, KX, c⟩ := Y
    have hmg' : mg ("law" : PySem.Str) = some (.ref fa) := by
      rw [← show (HandSHeadRun.topDef Ca.rowk17.prog 74).name = ("law" : PySem.Str) by kernel_rfl]
      exact hmg
    obtain ⟨fd, hb, hF⟩ := Ca.factsk17 (P := (PySem.Challenge.rw_commonanswer_k17_whole_members_drawn).prog) (w := w) KX G.T.g hmg' c
    exact Ca.lawG (k := 9) KX G.T.g G.T.b G.T.builtins G.T.nolimit hg hobj hints (Nat.le_trans hlen (by decide)) ⟨rfl, by decide, by decide⟩ (fun base _ _ => hF base) hb (fun H hS => ⟨a, ns, rfl, hS, fun _ => rfl⟩)
